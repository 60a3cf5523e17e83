/-
  copyAdvert of packag. Conditions as told.
-/
import Derived.Test.YtmklifheakemeaaGreatBQ008
import Derived.Test.YtmklifheakemeaaGreatBQ011
import Derived.Shelf.Slices.In.SortNone
import Derived.Shelf.Sort.Plain
import Derived.Shelf.Slices.CompactI
import Derived.Shelf.Slices.SearchI
import Derived.OpenShut
import Derived.Carry
import Derived.ChangeMaps5
import Derived.ChangeArms
set_option maxRecDepth 100000
set_option maxHeartbeats 64000000
open _root_.Bool renaming true->aP,false->aS
open _root_.Go renaming World->O,Value->aj,TypeId->aH
open Go.Ending renaming returned->aJ
open Go.IntKind renaming i64->aA
open Go.Lib renaming hid->Z,compact->au,compactUpTo->aF
open Go.Proofs.Tryz renaming prog->ay,underlying3->aK,underlying22->aU,underlying0->aY,underlying4->aZ,zeroValue22->bf,zeroValue0->bI,zeroValue3->bJ,zeroValue4->bK,sizeOf22->bS,underlying139->bV,sizeOf0->bZ,sizeOf3->cu,sizeOf4->cB,isAgg22->cK,zeroValue139->cO,underlying49->dn,isAgg0->dw,isAgg3->dx,isAgg4->dB
open Go.Region renaming binds->aD
open Go.RowKit.Below renaming refl->aG,heap_setCell->aQ
open Go.Sort renaming ahead->aC
open Go.Value renaming slice->U,int->ak,pointer->aM
open _root_.List renaming getElem?_eq_getElem->aB,set_cons_succ->aI,replicate->aO,getElem?_eq_some_iff->aR,take_add_one->aT,getElem?_cons_zero->aV,getElem?_cons_succ->aW,cons_append->aX,take_of_length_le->bF,nil_append->bG,length_set->bH,getElem?_toArray->bL,mem_append_right->bM,mem_append_left->bQ,take_succ_cons->bR,getElem?_take->bW,mem_singleton->bX,length_append->bY
open _root_.Nat renaming le_refl->aL,le_trans->aN,mul_le_mul_right->bN,zero_add->cZ,lt_or_ge->dh
open _root_.Option renaming some->J,none->ah
open _root_.Or renaming inr->bg,inl->bU
namespace Go.Proofs.YtmklifheakemeaaGreat.Av
open Go.RowKit Go.Sort Rw YtmklifheakemeaaGreat.Nm Pr Bk
abbrev Sk (W:O) (b:Nat) (a0 a1 a2 a3:aj):O:=(((W.setCell ⟨b,0,ah⟩ a0).setCell ⟨b,1,ah⟩ a1).setCell ⟨b,2,ah⟩ a2).setCell ⟨b,3,ah⟩ a3
theorem zL {W:O} {b:Nat} {t:aH} {z0 z1 z2 z3:aj} (h:dJ W b #[z0,z1,z2,z3] t) (a0 a1 a2 a3:aj):dJ (Sk W b a0 a1 a2 a3) b #[a0,a1,a2,a3] t:=by
 have h2:=dR (k:=3) (dR (k:=2) (dR (k:=1) (dR (k:=0) h a0) a1) a2) a3;simpa using h2
theorem vg {B:Nat} {W0 W:O} {b:Nat} (h:Below B W0 W) (hb:B<=b) (a0 a1 a2 a3:aj):Below B W0 (Sk W b a0 a1 a2 a3) :=
 (((h.setCell (p:=⟨b,0,ah⟩) hb a0).setCell (p:=⟨b,1,ah⟩) hb a1).setCell (p:=⟨b,2,ah⟩) hb a2).setCell (p:=⟨b,3,ah⟩) hb a3
theorem Gx {α:Type} {E:Ek α} {W:O} {B:Nat} {v:aj} {l:List α} (h:Own E W B v l) (b:Nat) (hb:b<B) (a0 a1 a2 a3:aj):Own E (Sk W b a0 a1 a2 a3) B v l :=
 eO (eO (eO (eO h b 0 a0 hb) b 1 a1 hb) b 2 a2 hb) b 3 a3 hb
theorem zM (x:jI) (p:List C5) (w:O) (hp:fH w (dX x.2.2.1) p) (hl:p.length<=900) :
  Calls ay 79 #[mY x] w fun e w'=>(∃ v':Sl,e=aJ (mY (x.1,x.2.1,v',x.2.2.2))/\gP w' w.heap.size (dX v') p)/\Below w.heap.size w w':=by
 obtain⟨a,b,⟨s1,s2,s3⟩,q⟩:=x;obtain⟨h0,X,Y⟩:=gY w #[ak aA a,ak aA b,U s1 s2 s3,ak aA q] #[ak aA 0,ak aA 0,U ah 0 0,ak aA 0] 74 74;have C:=Z (mI (s1,s2,s3) p _ (hp.on h0) hl);have B:=Z h0;have x2:=X.cell 2;simp only [bL,aV,aW] at x2;have X:=Z X;have Y:=Z Y;clear h0 hp hl;go_enter Tryz.func79,Tryz.ntmps79;go_wp2_with fail;generalize (w.alloc (.cells #[ak aA a,ak aA b,U s1 s2 s3,ak aA q] 74)).alloc (.cells #[ak aA 0,ak aA 0,U ah 0 0,ak aA 0] 74)=W at *;refine C.out.mono ?_;rintro e w1 ⟨⟨⟨u1,u2,u3⟩,rfl,ho⟩,hb⟩;have X1:=X.out.on hb;have Y1:=Y.out.on hb;have hs:w.heap.size<W.heap.size:=X.out.lt;have O1:=Z (eO ho w.heap.size 2 (U u1 u2 u3) hs);have XB:=Z (show dJ _ _ #[ak aA a,ak aA b,U u1 u2 u3,ak aA q] _ from by simpa using dR (k:=2) X1 (U u1 u2 u3));have YB:=Z (show dJ _ _ _ _ from (aQ w1 ⟨w.heap.size,2,ah⟩ (U u1 u2 u3) _ (show w.heap.size+1≠w.heap.size by omega)).trans Y1);have B1:=Z ((B.out.trans (hb.mono B.out.size)).setCell (p:=⟨w.heap.size,2,ah⟩) (aL _) (U u1 u2 u3));have y2:=X1.cell 2;have f2:=X1.fr 2;have z2:=X1.lt;simp only [bL,aV,aW] at y2;clear X1 Y1 ho hb x2 C;go_upto_region 2 with fail;clear y2 f2 z2;generalize w1.setCell ⟨w.heap.size,2,ah⟩ (U u1 u2 u3)=w2 at *;obtain⟨x0,x1,x2,x3⟩:=XB.out.Cx;obtain⟨r0,r1,r2,r3⟩:=YB.out.Cx;obtain⟨t0,t1,t2,t3⟩:=YB.out.fs4;have zz:=YB.out.lt;have hs2:w.heap.size+1<W.heap.size:=Y.out.lt;have FB:=Z (zL YB.out (ak aA a) (ak aA b) (U u1 u2 u3) (ak aA q));have BL:=Z (vg (b:=w.heap.size+1) B1.out (by omega) (ak aA a) (ak aA b) (U u1 u2 u3) (ak aA q));have FO:=Z (Gx O1.out (w.heap.size+1) hs2 (ak aA a) (ak aA b) (U u1 u2 u3) (ak aA q));have HS:=Z hs;clear hs hs2;go_wp2_with fail;obtain⟨v0,v1,v2,v3⟩:=FB.out.Cx;refine bodyPost_ret (v:=.agg #[ak aA a,ak aA b,U u1 u2 u3,ak aA q]) (by simp [results,Tryz.results79,go_sem,v0,v1,v2,v3]) rfl ?_;exact⟨⟨(u1,u2,u3),rfl,dN FO.out (Nat.le_of_lt HS.out)⟩,BL.out⟩
theorem jC {α:Type} {E:Ek α} (K:E.Ok) {W:O} {B g n cap k:Nat} {l:List α} {x:α} (h:Own E W B (U (J ⟨g,0,ah⟩) n cap) l) (hk:l[k]?=J x):∀ w,Below W.heap.size W w->∀ j u,(E.cells x)[j]?=J u->w.cell? ((⟨g,k * E.n,ah⟩:Addr).add j)=J u:=by
 obtain⟨ao,c,hv⟩:=(Row.dH h).len;obtain⟨rfl,rfl,rfl⟩:J ⟨g,0,ah⟩=ao/\n=l.length/\cap=c:=by simpa using hv
 obtain⟨p,h1,_,h2⟩:=mH K (Row.dH h) rfl rfl hk;have h3:=kY K g k l.length cap (aR.1 hk).1 W;rw [h1] at h3;injection h3 with h4 _
 injection h4 with h5
 injection h5 with h6
 subst h6;exact h2
theorem jL {α:Type} {E:Ek α} {W:O} {B g n cap:Nat} {l:List α} (h:Own E W B (U (J ⟨g,0,ah⟩) n cap) l):∃ cur,dJ W g cur E.t:=by
 rcases gK h with⟨h1,_⟩|⟨g',c',cur,h1,_,h2,_⟩
 ·cases h1
 ·obtain⟨rfl,_⟩:g=g'/\True:=by simp at h1; exact⟨h1.1,trivial⟩
  exact⟨cur,h2⟩
theorem qd {W:O} {b g:Nat} {c d:Array aj} {s t:aH} (hb:dJ W b c s) (hg:dJ W g d t) (hne:(s == t)=aS):b≠g:=by
 rintro rfl;unfold dJ at hb hg;rw [hb] at hg;injection hg with h
 injection h with _ h2
 rw [h2] at hne;simp at hne
def But (g:Nat) (W x:O):Prop:=(∀ k,k<W.heap.size->k≠g->x.heap[k]?=W.heap[k]?)/\W.heap.size<=x.heap.size
theorem But.box {g b:Nat} {W x:O} {cs:Array aj} {t:aH} (h:But g W x) (hb:dJ W b cs t) (hne:b≠g):dJ x b cs t:=(h.1 b hb.lt hne).trans hb
theorem But.own {α:Type} {E:Ek α} {g:Nat} {W x:O} {B:Nat} {v:aj} {l:List α} {d:Array aj} {t:aH} (h:But g W x) (ho:Own E W B v l) (hg:dJ W g d t) (hne:(E.t == t)=aS):Own E x B v l:=by
 refine⟨ho.1,?_⟩;rcases ho.2 with h2|⟨g',cap,cur,h1,h2,h3,h4⟩
 ·exact bU h2
 ·exact bg ⟨g',cap,cur,h1,h2,by rw [h.1 g' (lt_of_heap h3) (qd (show dJ W g' cur E.t from h3) hg hne)]; exact h3,h4⟩
theorem xA:∀ (l:List jI) (k:Nat) (x:jI),k<l.length->flat ED (l.set k x)=((((flat ED l).set (k * 4) (ak aA x.1)).set (k * 4+1) (ak aA x.2.1)).set (k * 4+2) (dX x.2.2.1)).set (k * 4+3) (ak aA x.2.2.2)
 | [],k,x,h=>by simp at h
 | y::r,0,x,_=>rfl
 | y::r,k+1,x,h=>by
  have ih:=xA r k x (by simpa using h);rw [show (k+1) * 4+3=(k * 4+3)+1+1+1+1 by omega,show (k+1) * 4+2=(k * 4+2)+1+1+1+1 by omega,show (k+1) * 4+1=(k * 4+1)+1+1+1+1 by omega,show (k+1) * 4=(k * 4)+1+1+1+1 by omega];simp only [aI,flat,ED,cellsD,aX,bG] at ih ⊢;rw [ih]
theorem Dh:∀ (l:List iL) (k:Nat) (x:iL) (s:Sl),l[k]?=J x->flat EN (l.set k (x.1,x.2.1,x.2.2.1,x.2.2.2.1,s,x.2.2.2.2.2.1,x.2.2.2.2.2.2))=(flat EN l).set (k * 7+4) (dX s)
 | [],k,x,s,h=>by simp at h
 | y::r,0,x,s,h=>by
  obtain rfl:y=x:=by simpa using h
  rfl
 | y::r,k+1,x,s,h=>by
  have ih:=Dh r k x s (by simpa using h);rw [show (k+1) * 7+4=(k * 7+4)+1+1+1+1+1+1+1 by omega];simp only [aI,flat,EN,jA,aX,bG] at ih ⊢;rw [ih]
theorem Di:∀ (l:List rz) (k:Nat) (x:rz) (s:Sl),l[k]?=J x->flat EW (l.set k (x.1,x.2.1,s))=(flat EW l).set (k * 3+2) (dX s)
 | [],k,x,s,h=>by simp at h
 | y::r,0,x,s,h=>by
  obtain rfl:y=x:=by simpa using h
  rfl
 | y::r,k+1,x,s,h=>by
  have ih:=Di r k x s (by simpa using h);rw [show (k+1) * 3+2=(k * 3+2)+1+1+1 by omega];simp only [aI,flat,EW,uZ,aX,bG] at ih ⊢;rw [ih]
def Kl {α:Type} (E:Ek α) (B g:Nat) (v:aj) (l:List α) (w w':O):Prop:=Own E w' B v l/\But g w w'/\(∀ B' W,B'<=g->Below B' W w->Below B' W w')
theorem dP (w:O) (g j:Nat) (u:aj):But g w (w.setCell ⟨g,j,ah⟩ u):=⟨fun k _ hk=>aQ w ⟨g,j,ah⟩ u k hk,by simp⟩
theorem But.trans {g:Nat} {a b c:O} (h1:But g a b) (h2:But g b c):But g a c:=⟨fun k hk hne=>(h2.1 k (Nat.lt_of_lt_of_le hk h1.2) hne).trans (h1.1 k hk hne),aN h1.2 h2.2⟩
theorem But.of_below {g:Nat} {a b:O} (h:Below a.heap.size a b):But g a b:=⟨fun k hk _=>h.block k hk,h.size⟩
theorem abW {w:O} {B g n cap k:Nat} {l:List jI} (x:jI) (h:lN w B (U (J ⟨g,0,ah⟩) n cap) l) (hk:k<l.length) :
  ∃ w',(Instr.storeAt 74 (aM (J ⟨g,k * 4,ah⟩)) (mY x)).run ay w=.ok () w'/\Kl ED B g (U (J ⟨g,0,ah⟩) n cap) (l.set k x) w w':=by
 obtain⟨y,hy⟩:∃ y,l[k]?=J y:=⟨_,aB hk⟩;have c:=jC okD h hy w (aG _ _);have c0:=c 0 _ rfl;have c1:=c 1 _ rfl;have c2:=c 2 _ rfl;have c3:=c 3 _ rfl;simp [Addr.add,ED] at c0 c1 c2 c3;obtain⟨cur,hb⟩:=jL h;have f:=fun j=>hb.fr j;obtain⟨ao,c',hv⟩:=(Row.dH h).len;obtain⟨_,rfl,_⟩:J ⟨g,0,ah⟩=ao/\n=l.length/\cap=c':=by simpa using hv
 have h:w.ownsRow B 74 4 (U (J ⟨g,0,ah⟩) l.length cap) l.length (flat ED l):=h;have s1:=(h.stored (k * 4) (ak aA x.1)).1;have s2:=(s1.stored (k * 4+1) (ak aA x.2.1)).1;have s3:=(s2.stored (k * 4+2) (dX x.2.2.1)).1;have s4:=(s3.stored (k * 4+3) (ak aA x.2.2.2)).1;refine⟨(((w.setCell ⟨g,k * 4,ah⟩ (ak aA x.1)).setCell ⟨g,k * 4+1,ah⟩ (ak aA x.2.1)).setCell ⟨g,k * 4+2,ah⟩ (dX x.2.2.1)).setCell ⟨g,k * 4+3,ah⟩ (ak aA x.2.2.2),?_,?_,((dP _ g _ _).trans (dP _ g _ _)).trans ((dP _ g _ _).trans (dP _ g _ _)),fun B' W hB hb=>(((hb.setCell (p:=⟨g,_,ah⟩) hB _).setCell (p:=⟨g,_,ah⟩) hB _).setCell (p:=⟨g,_,ah⟩) hB _).setCell (p:=⟨g,_,ah⟩) hB _⟩
 ·simp [go_sem,c0,c1,c2,c3,f]
 ·have e:=xA l k x hk;show World.ownsRow _ B 74 4 _ (l.set k x).length (flat ED (l.set k x));rw [e,bH];exact s4
theorem abX {w:O} {B g n cap k:Nat} {l:List iL} {x:iL} (s1:Option Addr) (s2 s3:Nat) (h:kQ w B (U (J ⟨g,0,ah⟩) n cap) l) (hk:l[k]?=J x) :
  ∃ w',(Instr.storeAt 32 (aM (J ⟨g,k * 7+4,ah⟩)) (U s1 s2 s3)).run ay w=.ok () w'/\Kl EN B g (U (J ⟨g,0,ah⟩) n cap) (l.set k (x.1,x.2.1,x.2.2.1,x.2.2.2.1,(s1,s2,s3),x.2.2.2.2.2.1,x.2.2.2.2.2.2)) w w':=by
 have c:=jC nN h hk w (aG _ _);have c4:=c 4 _ rfl;simp [Addr.add,EN] at c4;obtain⟨cur,hb⟩:=jL h;have f:=hb.fr (k * 7+4);obtain⟨ao,c',hv⟩:=(Row.dH h).len;obtain⟨_,rfl,_⟩:J ⟨g,0,ah⟩=ao/\n=l.length/\cap=c':=by simpa using hv
 have h:w.ownsRow B 66 7 (U (J ⟨g,0,ah⟩) l.length cap) l.length (flat EN l):=h;have t1:=(h.stored (k * 7+4) (U s1 s2 s3)).1;refine⟨w.setCell ⟨g,k * 7+4,ah⟩ (U s1 s2 s3),by simp [go_sem,c4,f],?_,dP _ g _ _,fun B' W hB hb=>hb.setCell (p:=⟨g,_,ah⟩) hB _⟩;have e:=Dh l k x (s1,s2,s3) hk;show World.ownsRow _ B 66 7 _ (List.length _) (flat EN _);rw [e,bH];exact t1
theorem abY {w:O} {B g n cap k:Nat} {l:List rz} {x:rz} (s1:Option Addr) (s2 s3:Nat) (h:qC w B (U (J ⟨g,0,ah⟩) n cap) l) (hk:l[k]?=J x) :
  ∃ w',(Instr.storeAt 32 (aM (J ⟨g,k * 3+2,ah⟩)) (U s1 s2 s3)).run ay w=.ok () w'/\Kl EW B g (U (J ⟨g,0,ah⟩) n cap) (l.set k (x.1,x.2.1,(s1,s2,s3))) w w':=by
 have c:=jC okW h hk w (aG _ _);have c2:=c 2 _ rfl;simp [Addr.add,EW] at c2;obtain⟨cur,hb⟩:=jL h;have f:=hb.fr (k * 3+2);obtain⟨ao,c',hv⟩:=(Row.dH h).len;obtain⟨_,rfl,_⟩:J ⟨g,0,ah⟩=ao/\n=l.length/\cap=c':=by simpa using hv
 have h:w.ownsRow B 34 3 (U (J ⟨g,0,ah⟩) l.length cap) l.length (flat EW l):=h;have t1:=(h.stored (k * 3+2) (U s1 s2 s3)).1;refine⟨w.setCell ⟨g,k * 3+2,ah⟩ (U s1 s2 s3),by simp [go_sem,c2,f],?_,dP _ g _ _,fun B' W hB hb=>hb.setCell (p:=⟨g,_,ah⟩) hB _⟩;have e:=Di l k x (s1,s2,s3) hk;show World.ownsRow _ B 34 3 _ (List.length _) (flat EW _);rw [e,bH];exact t1
theorem fA.set {α β:Type} {R:α->β->Prop}:∀ {l:List α} {m:List β} (k:Nat) (a:α) (b:β),fA R l m->m[k]?=J b->R a b->fA R (l.set k a) m
 | _,_,_,_,_,.nil,h,_=>by simp at h
 | _,_,0,a,b,.cons x t,h,hr=>by
  simp at h;subst h;exact .cons hr t
 | _,_,k+1,a,b,.cons x t,h,hr=>.cons x (fA.set k a b t (by simpa using h) hr)
def PM (w0:O) (B:Nat) (wr:O) (v:aj) (p:List C5):Prop:=fH w0 v p\/gP wr B v p
def JU (w0:O) (B:Nat) (wr:O) (x:jI) (a:Ad):Prop:=(x.1,x.2.1)=a.id/\x.2.2.2=a.par/\PM w0 B wr (dX x.2.2.1) a.p
def JV (w0:O) (B:Nat) (wr:O) (x:iL) (a:En):Prop:=(x.1,x.2.1)=a.tree/\(x.2.2.1,x.2.2.2.1)=a.sub/\x.2.2.2.2.2.1=a.from_/\x.2.2.2.2.2.2=a.up/\PM w0 B wr (dX x.2.2.2.2.1) a.p
def Mr (w0:O) (B:Nat) (wr:O) (x:rz) (a:Ow):Prop:=(x.1,x.2.1)=a.id/\PM w0 B wr (dX x.2.2) a.p
theorem PM.grow {w0 wr x:O} {B:Nat} {v:aj} {p:List C5} (h:PM w0 B wr v p) (hb:Below wr.heap.size wr x):PM w0 B x v p:=h.imp id fun h=>Bk.dI h hb
theorem PM.but {w0 wr x:O} {B:Nat} {v:aj} {p:List C5} {g:Nat} {d:Array aj} {t:aH} (h:PM w0 B wr v p) (hb:But g wr x) (hg:dJ wr g d t) (hne:(70 == t)=aS):PM w0 B x v p:=h.imp id fun h=>hb.own h hg hne
theorem PM.row {w0 wr:O} {B:Nat} {v:aj} {p:List C5} (h:PM w0 B wr v p) (hb:Below w0.heap.size w0 wr):fH wr v p:=h.elim (fun h=>h.on hb) Row.dH
theorem JU.grow {w0 wr x:O} {B:Nat} {y:jI} {a:Ad} (h:JU w0 B wr y a) (hb:Below wr.heap.size wr x):JU w0 B x y a:=⟨h.1,h.2.1,h.2.2.grow hb⟩
theorem JV.grow {w0 wr x:O} {B:Nat} {y:iL} {a:En} (h:JV w0 B wr y a) (hb:Below wr.heap.size wr x):JV w0 B x y a:=⟨h.1,h.2.1,h.2.2.1,h.2.2.2.1,h.2.2.2.2.grow hb⟩
theorem Mr.grow {w0 wr x:O} {B:Nat} {y:rz} {a:Ow} (h:Mr w0 B wr y a) (hb:Below wr.heap.size wr x):Mr w0 B x y a:=⟨h.1,h.2.grow hb⟩
theorem JU.but {w0 wr x:O} {B:Nat} {y:jI} {a:Ad} {g:Nat} {d:Array aj} {t:aH} (h:JU w0 B wr y a) (hb:But g wr x) (hg:dJ wr g d t) (hne:(70 == t)=aS):JU w0 B x y a:=⟨h.1,h.2.1,h.2.2.but hb hg hne⟩
theorem JV.but {w0 wr x:O} {B:Nat} {y:iL} {a:En} {g:Nat} {d:Array aj} {t:aH} (h:JV w0 B wr y a) (hb:But g wr x) (hg:dJ wr g d t) (hne:(70 == t)=aS):JV w0 B x y a:=⟨h.1,h.2.1,h.2.2.1,h.2.2.2.1,h.2.2.2.2.but hb hg hne⟩
theorem Mr.but {w0 wr x:O} {B:Nat} {y:rz} {a:Ow} {g:Nat} {d:Array aj} {t:aH} (h:Mr w0 B wr y a) (hb:But g wr x) (hg:dJ wr g d t) (hne:(70 == t)=aS):Mr w0 B x y a:=⟨h.1,h.2.but hb hg hne⟩
def vw (w:O):O:={ w with heap:=#[] }
theorem XV (w:O) (a:Addr):(vw w).cell? a=ah:=by
 unfold World.cell? vw;simp
theorem Km {α:Type} {E:Ek α} {w x:O} {v:aj} {l:List α} (h:Row E (vw w) v l):Row E x v l:=by
 rcases h with h|⟨a,cap,h1,h2,h3,h4⟩
 ·exact bU h
 ·refine bg ⟨a,cap,h1,h2,h3,fun j u hj=>?_⟩;have h5:=h4 j u hj;rw [XV] at h5;cases h5
theorem uK {α:Type}:∀ (l:List α) (k:Nat) (x:α),k<l.length->(l.set k x).take (k+1)=l.take k++[x]
 | [],k,x,h=>absurd h (Nat.not_lt_zero k)
 | _::_,0,_,_=>rfl
 | a::l,k+1,x,h=>by
  rw [aI,bR,uK l k x (by simpa using h)]
  rfl
theorem xB {α β:Type} {R:α->β->Prop} {l:List α} {m:List β} {k:Nat} {x:α} {y:β} (h:fA R (l.take k) (m.take k)) (hk:k<l.length) (hy:m[k]?=J y) (hx:R x y):fA R ((l.set k x).take (k+1)) (m.take (k+1)):=by
 rw [uK l k x hk,aT,hy];exact h.append (.cons hx .nil)
structure Cp (w0:O) (B:Nat) (wr:O) (b:Br) (nv av sv ev ov:Sl):Prop where
 near:vO wr B (dX nv) b.near
 seen:rW wr B (dX sv) b.seen
 dQ:∃ l,lN wr B (dX av) l/\fA (JU w0 B wr) l b.dQ
 ent:∃ l,kQ wr B (dX ev) l/\fA (JV w0 B wr) l b.ent
 own:∃ l,qC wr B (dX ov) l/\fA (Mr w0 B wr) l b.own
theorem Cp.grow {w0 wr x:O} {B:Nat} {b:Br} {nv av sv ev ov:Sl} (h:Cp w0 B wr b nv av sv ev ov) (hb:Below wr.heap.size wr x):Cp w0 B x b nv av sv ev ov where
 near:=Bk.dI h.near hb
 seen:=Bk.dI h.seen hb
 dQ:=by obtain⟨l,h1,h2⟩:=h.dQ; exact⟨l,Bk.dI h1 hb,h2.mono fun _ _ h=>h.grow hb⟩
 ent:=by obtain⟨l,h1,h2⟩:=h.ent; exact⟨l,Bk.dI h1 hb,h2.mono fun _ _ h=>h.grow hb⟩
 own:=by obtain⟨l,h1,h2⟩:=h.own; exact⟨l,Bk.dI h1 hb,h2.mono fun _ _ h=>h.grow hb⟩
theorem Cp.xC {w0 wr x:O} {B:Nat} {b:Br} {nv av sv ev ov:Sl} (h:Cp w0 B wr b nv av sv ev ov) {g:Nat} {d:Array aj} {t:aH} (hb:But g wr x) (hg:dJ wr g d t) (h1:(3 == t)=aS) (h2:(31 == t)=aS) (h3:(74 == t)=aS) (h4:(66 == t)=aS) (h5:(34 == t)=aS) (h6:(70 == t)=aS):Cp w0 B x b nv av sv ev ov where
 near:=hb.own h.near hg h1
 seen:=hb.own h.seen hg h2
 dQ:=by obtain⟨l,g1,g2⟩:=h.dQ; exact⟨l,hb.own g1 hg h3,g2.mono fun _ _ h=>h.but hb hg h6⟩
 ent:=by obtain⟨l,g1,g2⟩:=h.ent; exact⟨l,hb.own g1 hg h4,g2.mono fun _ _ h=>h.but hb hg h6⟩
 own:=by obtain⟨l,g1,g2⟩:=h.own; exact⟨l,hb.own g1 hg h5,g2.mono fun _ _ h=>h.but hb hg h6⟩
theorem Cp.but {w0 wr x:O} {B:Nat} {b:Br} {nv av sv ev ov:Sl} (h:Cp w0 B wr b nv av sv ev ov) {g:Nat} {d:Array aj} (hb:But g wr x) (hg:dJ wr g d 28):Cp w0 B x b nv av sv ev ov where
 near:=hb.own h.near hg (by decide)
 seen:=hb.own h.seen hg (by decide)
 dQ:=by obtain⟨l,h1,h2⟩:=h.dQ; exact⟨l,hb.own h1 hg (by decide),h2.mono fun _ _ h=>h.but hb hg (by decide)⟩
 ent:=by obtain⟨l,h1,h2⟩:=h.ent; exact⟨l,hb.own h1 hg (by decide),h2.mono fun _ _ h=>h.but hb hg (by decide)⟩
 own:=by obtain⟨l,h1,h2⟩:=h.own; exact⟨l,hb.own h1 hg (by decide),h2.mono fun _ _ h=>h.but hb hg (by decide)⟩
structure Cs (w0 w wr:O) (b:Br) (kd kn kw:Nat) (nv av sv ev ov:Sl):Prop where
 uI:Below w.heap.size w wr
 bx:dJ wr w.heap.size #[ak aA b.me,dX nv,dX av,dX sv,dX ev,dX ov] 28
 bz:dJ wr (w.heap.size+1) #[ak aA 0,U ah 0 0,U ah 0 0,U ah 0 0,U ah 0 0,U ah 0 0] 28
 near:vO wr w.heap.size (dX nv) b.near
 seen:rW wr w.heap.size (dX sv) b.seen
 dQ:∃ l,lN wr w.heap.size (dX av) l/\fA (JU w0 w.heap.size wr) l b.dQ/\fA (JU (vw w0) w.heap.size wr) (l.take kd) (b.dQ.take kd)
 ent:∃ l,kQ wr w.heap.size (dX ev) l/\fA (JV w0 w.heap.size wr) l b.ent/\fA (JV (vw w0) w.heap.size wr) (l.take kn) (b.ent.take kn)
 own:∃ l,qC wr w.heap.size (dX ov) l/\fA (Mr w0 w.heap.size wr) l b.own/\fA (Mr (vw w0) w.heap.size wr) (l.take kw) (b.own.take kw)
theorem Cs.Sk {w0 w wr x:O} {b:Br} {kd kn kw kd':Nat} {nv sv ev ov:Sl} {g n cap:Nat} {l l':List jI} (h:Cs w0 w wr b kd kn kw nv (J ⟨g,0,ah⟩,n,cap) sv ev ov) (ho:lN wr w.heap.size (U (J ⟨g,0,ah⟩) n cap) l) (hx:lN x w.heap.size (U (J ⟨g,0,ah⟩) n cap) l') (hb:But g wr x) (hw:Below w.heap.size w x) (hA:fA (JU w0 w.heap.size x) l' b.dQ) (hV:fA (JU (vw w0) w.heap.size x) (l'.take kd') (b.dQ.take kd')):Cs w0 w x b kd' kn kw nv (J ⟨g,0,ah⟩,n,cap) sv ev ov:=by
 obtain⟨cur,hg⟩:=jL ho;exact {
  uI:=hw
  bx:=hb.box h.bx (qd h.bx hg (by decide))
  bz:=hb.box h.bz (qd h.bz hg (by decide))
  near:=hb.own h.near hg (by decide)
  seen:=hb.own h.seen hg (by decide)
  dQ:=⟨l',hx,hA,hV⟩
  ent:=by obtain⟨l,h1,h2,h3⟩:=h.ent; exact⟨l,hb.own h1 hg (by decide),h2.mono fun _ _ h=>h.but hb hg (by decide),h3.mono fun _ _ h=>h.but hb hg (by decide)⟩
  own:=by obtain⟨l,h1,h2,h3⟩:=h.own; exact⟨l,hb.own h1 hg (by decide),h2.mono fun _ _ h=>h.but hb hg (by decide),h3.mono fun _ _ h=>h.but hb hg (by decide)⟩ }
theorem Cs.agW {w0 w wr x:O} {b:Br} {kd kn kw kn':Nat} {nv av sv ov:Sl} {g n cap:Nat} {l l':List iL} (h:Cs w0 w wr b kd kn kw nv av sv (J ⟨g,0,ah⟩,n,cap) ov) (ho:kQ wr w.heap.size (U (J ⟨g,0,ah⟩) n cap) l) (hx:kQ x w.heap.size (U (J ⟨g,0,ah⟩) n cap) l') (hb:But g wr x) (hw:Below w.heap.size w x) (hA:fA (JV w0 w.heap.size x) l' b.ent) (hV:fA (JV (vw w0) w.heap.size x) (l'.take kn') (b.ent.take kn')):Cs w0 w x b kd kn' kw nv av sv (J ⟨g,0,ah⟩,n,cap) ov:=by
 obtain⟨cur,hg⟩:=jL ho;exact {
  uI:=hw
  bx:=hb.box h.bx (qd h.bx hg (by decide))
  bz:=hb.box h.bz (qd h.bz hg (by decide))
  near:=hb.own h.near hg (by decide)
  seen:=hb.own h.seen hg (by decide)
  dQ:=by obtain⟨l,h1,h2,h3⟩:=h.dQ; exact⟨l,hb.own h1 hg (by decide),h2.mono fun _ _ h=>h.but hb hg (by decide),h3.mono fun _ _ h=>h.but hb hg (by decide)⟩
  ent:=⟨l',hx,hA,hV⟩
  own:=by obtain⟨l,h1,h2,h3⟩:=h.own; exact⟨l,hb.own h1 hg (by decide),h2.mono fun _ _ h=>h.but hb hg (by decide),h3.mono fun _ _ h=>h.but hb hg (by decide)⟩ }
theorem Cs.setW {w0 w wr x:O} {b:Br} {kd kn kw kw':Nat} {nv av sv ev:Sl} {g n cap:Nat} {l l':List rz} (h:Cs w0 w wr b kd kn kw nv av sv ev (J ⟨g,0,ah⟩,n,cap)) (ho:qC wr w.heap.size (U (J ⟨g,0,ah⟩) n cap) l) (hx:qC x w.heap.size (U (J ⟨g,0,ah⟩) n cap) l') (hb:But g wr x) (hw:Below w.heap.size w x) (hA:fA (Mr w0 w.heap.size x) l' b.own) (hV:fA (Mr (vw w0) w.heap.size x) (l'.take kw') (b.own.take kw')):Cs w0 w x b kd kn kw' nv av sv ev (J ⟨g,0,ah⟩,n,cap):=by
 obtain⟨cur,hg⟩:=jL ho;exact {
  uI:=hw
  bx:=hb.box h.bx (qd h.bx hg (by decide))
  bz:=hb.box h.bz (qd h.bz hg (by decide))
  near:=hb.own h.near hg (by decide)
  seen:=hb.own h.seen hg (by decide)
  dQ:=by obtain⟨l,h1,h2,h3⟩:=h.dQ; exact⟨l,hb.own h1 hg (by decide),h2.mono fun _ _ h=>h.but hb hg (by decide),h3.mono fun _ _ h=>h.but hb hg (by decide)⟩
  ent:=by obtain⟨l,h1,h2,h3⟩:=h.ent; exact⟨l,hb.own h1 hg (by decide),h2.mono fun _ _ h=>h.but hb hg (by decide),h3.mono fun _ _ h=>h.but hb hg (by decide)⟩
  own:=⟨l',hx,hA,hV⟩ }
end Go.Proofs.YtmklifheakemeaaGreat.Av
namespace Go.Proofs
open Go.Shelf
def Tryz.sortI_ren:Go.Shelf.Ren:=⟨fun | 189=>33 | 125=>90 | 257=>89 | 128=>138 | 129=>139 | 294=>129 | 295=>130 | 296=>131 | 297=>132 | 298=>133 | 299=>134 | 216=>135 | 300=>136 | 301=>137 | 328=>161 | 329=>162 | 330=>163 | 331=>164 | 332=>165 | 215=>111 | 343=>182 | n=>n,fun | 28=>22 | 3=>3 | 46=>139 | 0=>0 | 51=>183 | 53=>185 | 4=>4 | 183=>176 | 182=>175 | 131=>126 | 5=>5 | 9=>9 | 218=>209 | 222=>213 | 228=>229 | 229=>230 | n=>n,fun | n=>n⟩
theorem Tryz.sortI:Go.Proofs.Lays.n189 ay Tryz.sortI_ren:={
 mixed:=by kernel_rfl
 f125:=Tryz.func90.trans (congrArg J (by kernel_rfl))
 f128:=Tryz.func138.trans (congrArg J (by kernel_rfl))
 f129:=Tryz.func139.trans (congrArg J (by kernel_rfl))
 f189:=Tryz.func33.trans (congrArg J (by kernel_rfl))
 f215:=Tryz.func111.trans (congrArg J (by kernel_rfl))
 f216:=Tryz.func135.trans (congrArg J (by kernel_rfl))
 f257:=Tryz.func89.trans (congrArg J (by kernel_rfl))
 f294:=Tryz.func129.trans (congrArg J (by kernel_rfl))
 f295:=Tryz.func130.trans (congrArg J (by kernel_rfl))
 f296:=Tryz.func131.trans (congrArg J (by kernel_rfl))
 f297:=Tryz.func132.trans (congrArg J (by kernel_rfl))
 f298:=Tryz.func133.trans (congrArg J (by kernel_rfl))
 f299:=Tryz.func134.trans (congrArg J (by kernel_rfl))
 f300:=Tryz.func136.trans (congrArg J (by kernel_rfl))
 f301:=Tryz.func137.trans (congrArg J (by kernel_rfl))
 f328:=Tryz.func161.trans (congrArg J (by kernel_rfl))
 f329:=Tryz.func162.trans (congrArg J (by kernel_rfl))
 f330:=Tryz.func163.trans (congrArg J (by kernel_rfl))
 f331:=Tryz.func164.trans (congrArg J (by kernel_rfl))
 f332:=Tryz.func165.trans (congrArg J (by kernel_rfl))
 f343:=Tryz.func182.trans (congrArg J (by kernel_rfl))
 t0:=aY
 a0:=dw
 z0:=bZ
 v0:=bI
 t3:=aK
 a3:=dx
 z3:=cu
 v3:=bJ
 t4:=aZ
 a4:=dB
 z4:=cB
 v4:=bK
 t5:=Tryz.underlying5
 a5:=Tryz.isAgg5
 z5:=Tryz.sizeOf5
 v5:=Tryz.zeroValue5
 t9:=Tryz.underlying9
 a9:=Tryz.isAgg9
 z9:=Tryz.sizeOf9
 v9:=Tryz.zeroValue9
 t28:=aU
 a28:=cK
 z28:=bS
 v28:=bf
 t46:=bV
 a46:=Tryz.isAgg139
 z46:=Tryz.sizeOf139
 v46:=cO
 t51:=Tryz.underlying183
 a51:=Tryz.isAgg183
 z51:=Tryz.sizeOf183
 v51:=Tryz.zeroValue183
 t53:=Tryz.underlying185
 a53:=Tryz.isAgg185
 z53:=Tryz.sizeOf185
 v53:=Tryz.zeroValue185
 t131:=Tryz.underlying126
 a131:=Tryz.isAgg126
 z131:=Tryz.sizeOf126
 v131:=Tryz.zeroValue126
 t182:=Tryz.underlying175
 a182:=Tryz.isAgg175
 z182:=Tryz.sizeOf175
 v182:=Tryz.zeroValue175
 t183:=Tryz.underlying176
 a183:=Tryz.isAgg176
 z183:=Tryz.sizeOf176
 v183:=Tryz.zeroValue176
 t218:=Tryz.underlying209
 a218:=Tryz.isAgg209
 z218:=Tryz.sizeOf209
 v218:=Tryz.zeroValue209
 t222:=Tryz.underlying213
 a222:=Tryz.isAgg213
 z222:=Tryz.sizeOf213
 v222:=Tryz.zeroValue213
 t228:=Tryz.underlying229
 a228:=Tryz.isAgg229
 z228:=Tryz.sizeOf229
 v228:=Tryz.zeroValue229
 t229:=Tryz.underlying230
 a229:=Tryz.isAgg230
 z229:=Tryz.sizeOf230
 v229:=Tryz.zeroValue230 }
def Tryz.cptI_ren:Go.Shelf.Ren:=⟨fun | 20=>34 | n=>n,fun | 0=>0 | 3=>3 | 4=>4 | 22=>22 | n=>n,fun | n=>n⟩
theorem Tryz.cptI:Go.Proofs.Lays2.n20 ay Tryz.cptI_ren:={
 mixed:=by kernel_rfl
 i3:=by kernel_rfl
 f20:=Tryz.func34.trans (congrArg J (by kernel_rfl))
 t0:=aY
 a0:=dw
 z0:=bZ
 v0:=bI
 t3:=aK
 a3:=dx
 z3:=cu
 v3:=bJ
 t4:=aZ
 a4:=dB
 z4:=cB
 v4:=bK
 t22:=aU
 a22:=cK
 z22:=bS
 v22:=bf }
def Tryz.bsI_ren:Go.Shelf.Ren:=⟨fun | 25=>154 | 31=>135 | 32=>175 | 37=>111 | n=>n,fun | 0=>0 | 3=>3 | 4=>4 | 22=>22 | 40=>139 | n=>n,fun | n=>n⟩
theorem Tryz.bsI:Go.Proofs.Lays2.n25 ay Tryz.bsI_ren:={
 mixed:=by kernel_rfl
 f25:=Tryz.func154.trans (congrArg J (by kernel_rfl))
 f31:=Tryz.func135.trans (congrArg J (by kernel_rfl))
 f32:=Tryz.func175.trans (congrArg J (by kernel_rfl))
 f37:=Tryz.func111.trans (congrArg J (by kernel_rfl))
 t0:=aY
 a0:=dw
 z0:=bZ
 v0:=bI
 t3:=aK
 a3:=dx
 z3:=cu
 v3:=bJ
 t4:=aZ
 a4:=dB
 z4:=cB
 v4:=bK
 t22:=aU
 a22:=cK
 z22:=bS
 v22:=bf
 t40:=bV
 a40:=Tryz.isAgg139
 z40:=Tryz.sizeOf139
 v40:=cO }
end Go.Proofs
namespace Go.Proofs.YtmklifheakemeaaGreat.Av
open Go.RowKit Rw YtmklifheakemeaaGreat.Nm Pr Bk Go.Sort
theorem Sm {α:Type} [Inhabited α] (enc:α->aj) (d:Array α) (cur:Array aj) (h:d.size<=cur.size):(putCells enc 0 d cur).toList.take d.size=d.toList.map enc:=by
 apply List.ext_getElem?;intro j;rw [bW];by_cases hj:j<d.size
 ·have hc:j<cur.size:=by omega
  simp [putCells,hj,hc]
 ·simp [hj]
theorem zN {α β:Type} [Inhabited β] {E:Ek α} (K:E.Ok) {w:O} {B g cap:Nat} {l l':List α} (h:Own E w B (U (J ⟨g,0,ah⟩) l.length cap) l) (enc:β->aj) (d:Array β) (hd:d.toList.map enc=flat E l') (hl:l'.length=l.length) (n:Nat) (os:Array Obj) :
  Own E (grow (putRow enc (aC w n) g 0 d) os) B (U (J ⟨g,0,ah⟩) l.length cap) l'/\w.grownBy (grow (putRow enc (aC w n) g 0 d) os) (J g):=by
 have hds:d.size=l.length * E.n:=by
  rw [<- hl,<- eG K l',<- hd];simp
 rcases gK h with⟨e,_⟩|⟨g',cap',cur,e,h1,h2,h3,h4,h5,h6⟩
 ·cases e
 obtain⟨rfl,rfl⟩:g=g'/\cap=cap':=by simpa using e
 have hlt:=lt_of_heap h2;have hb:(grow (putRow enc (aC w n) g 0 d) os).heap[g]?=J (.cells (putCells enc 0 d cur) E.t (0,0)):=by
  rw [heap_grow_old _ _ (by simp [putRow,mapBlock,aC]; exact hlt)];unfold dJ at h2;simp only [putRow,mapBlock,aC,Array.getElem?_modify,if_true,h2]
  rfl
 have hfit:d.size<=cur.size:=by
  rw [hds,h5];exact bN _ h3
 refine⟨⟨by rw [eG K],bg ⟨g,cap,_,by rw [hl],h1,hb,by rw [hl]; exact h3,h4,by simp [putCells]; exact h5,?_⟩⟩,⟨rfl,rfl,rfl,by simp [putRow,mapBlock,aC],fun k hk hne=>?_⟩⟩
 ·rw [hl,<- hds,Sm enc d cur hfit,hd]
 ·rw [heap_grow_old _ _ (by simp [putRow,mapBlock,aC]; exact hk)];have hkg:g≠k:=fun e=>hne (by rw [e]);simp [putRow,mapBlock,aC,Array.getElem?_modify,hkg]
theorem Dj {α:Type} {E:Ek α} {w:O} {B g cap:Nat} {l:List α} (K:E.Ok) {β:Type} [Inhabited β] (enc:β->aj) (d:Array β) (hd:d.toList.map enc=flat E l) (h:Own E w B (U (J ⟨g,0,ah⟩) l.length cap) l):Holds enc w g 0 d/\g<w.heap.size:=by
 rcases gK h with⟨e,_⟩|⟨g',cap',cur,e,h1,h2,h3,h4,h5,h6⟩
 ·cases e
 obtain⟨rfl,rfl⟩:g=g'/\cap=cap':=by simpa using e
 refine⟨fun j hj=>?_,h2.lt⟩;rw [cZ];refine⟨?_,h2.fr j⟩;rw [h2.cell j];have hsz:d.size=l.length * E.n:=by
  rw [<- eG K l,<- hd];simp
 have h7:(cur.toList.take (l.length * E.n))[j]?=(d.toList.map enc)[j]?:=by rw [h6,hd]
 rw [bW,if_pos (by omega)] at h7;rw [Array.getElem?_toList] at h7;rw [h7,List.getElem?_map,Array.getElem?_toList,getElem!_pos d j hj,Array.getElem?_eq_getElem hj]
 rfl
theorem PZ (w:O) (B:Nat) (v:aj) (l:List Int) (h:vO w B v l) (hlen:l.length<=900):Calls ay 33 #[v] w fun e w'=>e=aJ (.tuple #[])/\∃ l':List Int,vO w' B v l'/\l'.Perm l/\l'.Pairwise (·<=·)/\w.grownBy w' v.ownBlock:=by
 rcases gK h with⟨rfl,rfl⟩|⟨g,cap,cur,rfl,h1,h2,h3,h4,h5,h6⟩
 ·have hc:=Any.slices_Sort_int_none Tryz.sortI ah 0 w;refine Calls.mono hc ?_;rintro e w' ⟨rfl,rfl⟩;exact⟨rfl,[],h,List.Perm.refl _,List.Pairwise.nil,Rw.q9 _ _⟩
 ·obtain⟨hh,hlt⟩:=Dj Nm.JR (ak aA) l.toArray (by rw [Gg]) h;have hc:=Any.slices_Sort_int Tryz.sortI g 0 cap l w hh hlt (by omega);refine Calls.mono hc ?_;rintro e w' ⟨rfl,n,os,rfl⟩;have hs:=zN Nm.JR (l':=l.mergeSort fun x y=>decide (x<=y)) h (ak aA) (l.mergeSort fun x y=>decide (x<=y)).toArray (by rw [Gg]) (List.length_mergeSort l) n os;refine⟨rfl,_,hs.1,List.mergeSort_perm _ _,?_,hs.2⟩;have hp:=List.pairwise_mergeSort (le:=fun x y:Int=>decide (x<=y)) (fun a b c h1 h2=>by simp at h1 h2 ⊢; omega) (fun a b=>by simp; omega) l;exact hp.imp (fun {a b} hab=>by simpa using hab)
theorem Gy (d:Array Int) (n:Nat) (hs:∀ i j,i<=j->j<n->d[i]!<=d[j]!):∀ m,m<=n->(∀ x∈aF d m,∃ j,j<m/\d[j]! = x)/\(∀ j,j<m->d[j]!∈aF d m)/\(aF d m).Pairwise (·<·)
 | 0,_=>⟨fun x h=>by simp [aF] at h,fun j h=>by omega,by simp [aF]⟩
 | m+1,hm=>by
  obtain⟨h1,h2,h3⟩:=Gy d n hs m (by omega);rw [Lib.compactUpTo_succ];cases hk:Lib.keeps d m with
  | false =>
   simp only [Bool.false_eq_true,if_false,List.append_nil];have hk':m≠0/\d[m]! = d[m-1]!:=by
    have h:=of_decide_eq_false hk;rw [not_or] at h;exact⟨h.1,Classical.not_not.1 h.2⟩
   refine⟨fun x hx=>?_,fun j hj=>?_,h3⟩
   ·obtain⟨j,hj,e⟩:=h1 x hx;exact⟨j,by omega,e⟩
   ·rcases dh j m with h|h
    ·exact h2 j h
    ·obtain rfl:j=m:=by omega
     rw [hk'.2];exact h2 _ (by omega)
  | true =>
   simp only [if_true];have hk':m=0\/d[m]!≠d[m-1]!:=of_decide_eq_true hk;refine⟨fun x hx=>?_,fun j hj=>?_,?_⟩
   ·rcases List.mem_append.1 hx with h|h
    ·obtain⟨j,hj,e⟩:=h1 x h;exact⟨j,by omega,e⟩
    ·exact⟨m,by omega,(bX.1 h).symm⟩
   ·rcases dh j m with h|h
    ·exact bQ _ (h2 j h)
    ·obtain rfl:j=m:=by omega
     exact bM _ (by simp)
   ·rw [List.pairwise_append];refine⟨h3,List.pairwise_singleton _ _,fun a ha b hb=>?_⟩;obtain⟨j,hj,rfl⟩:=h1 a ha;rw [bX.1 hb];have a1:=hs j (m-1) (by omega) (by omega);have a2:=hs (m-1) m (by omega) (by omega);rcases hk' with h|h
    ·omega
    ·omega
theorem Kn (l:List Int) (hs:l.Pairwise (·<=·)):(au l).Pairwise (·<·)/\(∀ x,x∈au l↔x∈l)/\(au l).length<=l.length:=by
 have hd:∀ i j,i<=j->j<l.length->l.toArray[i]!<=l.toArray[j]!:=by
  intro i j hij hj;rw [getElem!_pos l.toArray i (by simp; omega),getElem!_pos l.toArray j (by simpa using hj)];rcases dh i j with h|h
  ·have:=List.pairwise_iff_getElem.1 hs i j (by omega) hj h;simpa using this
  ·obtain rfl:i=j:=by omega
   exact Int.le_refl _
 obtain⟨h1,h2,h3⟩:=Gy l.toArray l.length hd l.length (aL _);refine⟨h3,fun x=>⟨fun hx=>?_,fun hx=>?_⟩,?_⟩
 ·obtain⟨j,hj,rfl⟩:=h1 x hx;rw [getElem!_pos l.toArray j (by simpa using hj)];simp
 ·obtain⟨j,hj,rfl⟩:=List.mem_iff_getElem.1 hx;have:=h2 j hj;rw [getElem!_pos l.toArray j (by simpa using hj)] at this;simpa [au] using this
 ·unfold au aF;rw [List.length_map];exact aN (List.length_filter_le _ _) (by simp)
theorem Sn (w:O) (B:Nat) (v:Sl) (l:List Int) (h:vO w B (dX v) l) (hs:l.Pairwise (·<=·)) (hlen:l.length<=900):Calls ay 34 #[dX v] w fun e w'=>(∃ v':Sl,e=aJ (dX v')/\∃ l':List Int,vO w' B (dX v') l'/\l'.Pairwise (·<·)/\∀ x,x∈l'↔x∈l)/\w.grownBy w' (dX v).ownBlock:=by
 obtain⟨vo,vn,vc⟩:=v;rcases gK h with⟨h0,rfl⟩|⟨g,cap,cur,h0,h1,h2,h3,h4,h5,h6⟩
 ·obtain⟨rfl,rfl,rfl⟩:vo=ah/\vn=0/\vc=0:=by simpa using h0
  have hc:=Any.slices_Compact_int_empty Tryz.cptI ah 0 w;refine Calls.mono hc ?_;rintro e w' ⟨rfl,rfl⟩;exact⟨⟨(ah,0,0),rfl,[],h,List.Pairwise.nil,fun _=>Iff.rfl⟩,Rw.q9 _ _⟩
 ·obtain⟨rfl,rfl,rfl⟩:vo=J ⟨g,0,ah⟩/\vn=l.length/\vc=cap:=by simpa using h0
  obtain⟨hh,hlt⟩:=Dj Nm.JR (ak aA) l.toArray (by rw [Gg]) h;have hc:=Any.slices_Compact_int Tryz.cptI g 0 vc l w hh (by omega) h3;obtain⟨c1,c2,c3⟩:=Kn l hs;refine Calls.mono hc ?_;rintro e w' ⟨rfl,n,rfl⟩;have ht:=zN Nm.JR (l':=au l++aO (l.length-(au l).length) 0) h (ak aA) (au l++aO (l.length-(au l).length) 0).toArray (by rw [Gg]) (by rw [bY,List.length_replicate]; omega) n #[];have hg:grow (putRow (ak aA) (aC w n) g 0 (au l++aO (l.length-(au l).length) 0).toArray) #[]=putRow (ak aA) (aC w n) g 0 (au l++aO (l.length-(au l).length) 0).toArray:=grow_empty _;rw [hg] at ht;refine⟨⟨(J ⟨g,0,ah⟩,(au l).length,vc),rfl,au l,?_,c1,c2⟩,ht.2⟩;rcases gK ht.1 with⟨e,_⟩|⟨g',cap',cur',e,k1,k2,k3,k4,k5,k6⟩
  ·cases e
  ·obtain⟨rfl,_,rfl⟩:g=g'/\l.length=_/\vc=cap':=by simpa using e
   refine qB Nm.JR rfl k1 k2 (aN c3 h3) k4 k5 ?_;have k7:=congrArg (List.take ((au l).length * EI.n)) k6;rw [List.take_take,tJ Nm.JR,Nat.min_eq_left (bN _ (by rw [bY]; omega)),List.take_left'] at k7
   ·exact k7
   ·rfl
end Go.Proofs.YtmklifheakemeaaGreat.Av
namespace Go.Proofs.YtmklifheakemeaaGreat.Bk
open Go.RowKit Go.Sort Rw YtmklifheakemeaaGreat.Nm
theorem XW {α:Type} {a b:List α} {k:Nat} {x y:α} (h:a.take k=b.take k) (hx:a[k]?=J x) (hy:b[k]?=J y) (e:x=y):a.take (k+1)=b.take (k+1):=by
 rw [aT,aT,hx,hy,h,e]
theorem aeh (av bv:aj) (a b:List Int) (w:O) (ha:qA w av a) (hb:qA w bv b) :
  Calls ay 49 #[av,bv] w fun e w'=>e=aJ (.bool (decide (a=b)))/\Below w.heap.size w w':=by
 have HA:=Z ha;have HB:=Z hb;have ma:=ha.most;have mb:=hb.most;unfold maxLen at ma mb;obtain⟨ao,ac,rfl⟩:=ha.len;obtain⟨bo,bc,rfl⟩:=hb.len;clear ha hb;by_cases hl:a.length=b.length
 ·obtain⟨n,hn⟩:∃ n,n=a.length:=⟨_,rfl⟩;have NA:=Z hn.symm;have NB:=Z (hl.symm.trans hn.symm);rw [<- hl,<- hn] at HB;rw [<- hn] at HA ma;rw [<- hl,<- hn];clear hl hn mb;go_enter Tryz.func49,Tryz.ntmps49;go_wp2
  go_loopw [5] (fun i wr=>∃ k:Nat,k<=n/\i=ak aA k/\a.take k=b.take k/\Below w.heap.size w wr) (fun i _=>n-(intOf i).toNat)
  case atStart=>exact⟨0,Nat.zero_le _,rfl,rfl,aG _ _⟩
  case round =>
   obtain⟨k,hk,rfl,htk,hbe⟩:=hrel;have TK:=Z htk;have BE:=Z hbe;clear hbe htk;by_cases hlt:k<n
   ·obtain⟨x,hx⟩:∃ x,a[k]?=J x:=⟨_,aB (by rw [NA.out]; exact hlt)⟩;obtain⟨y,hy⟩:∃ y,b[k]?=J y:=⟨_,aB (by rw [NB.out]; exact hlt)⟩;obtain⟨p,ix,_,px⟩:=elI HA.out rfl NA.out hx;obtain⟨q,iy,_,py⟩:=elI HB.out rfl NB.out hy;have p0:=cell_regrown (px _ BE.out);have q0:=cell_regrown (py _ BE.out);obtain⟨r,hr⟩:∃ r,((x:Int) == (y:Int))=r:=⟨_,rfl⟩;have HX:=Z hx;have HY:=Z hy;have HR:=Z hr;clear px py hx hy;go_wp2;have hr2:((x:Int) != (y:Int))=!r:=by unfold bne; rw [hr]
    cases r
    all_goals
     simp only [Bool.not_true,Bool.not_false] at hr2;refine wp_region_quiet_below (by kernel_rfl) (by kernel_rfl) ?_
     repeat (go_big_quiet_step (fail))
     refine wpQuiet_nil ?_;intro _ hw';obtain⟨⟨dq,osq⟩,hw''⟩:=hw';subst hw'';have BN:=Z (BE.out.trans ((below_regrown wr dq osq).mono BE.out.size));clear p0 q0 ix iy hr
    ·go_wp2;go_ret;refine⟨?_,BN.out⟩;have hne:a≠b:=fun e=>by
      have h1:=HX.out;rw [e,HY.out] at h1;cases h1;have h2:=HR.out;simp at h2
     rw [decide_eq_false hne]
     rfl
    ·have TN:=Z (XW TK.out HX.out HY.out (by have h:=HR.out; rw [beq_iff_eq] at h; exact h));go_wp2
     go_roundw
     case rel=>exact⟨k+1,by omega,by go_num,TN.out,BN.out⟩
     case measure=>simp [intOf]; omega
   ·obtain rfl:k=n:=by omega
    have EQ:=Z (show a=b by have h:=TK.out; rwa [bF (by rw [NA.out]; exact aL _),bF (by rw [NB.out]; exact aL _)] at h);go_wp2;go_ret;exact⟨by rw [decide_eq_true EQ.out]; rfl,BE.out⟩
 ·have hd:((a.length:Int) == (b.length:Int))=aS:=by simp; omega
  have hd2:(a.length == b.length)=aS:=by simp; exact hl
  have E:=Z (decide_eq_false (show ¬ a=b from fun e=>hl (by rw [e])));have HD:=Z hl;clear hl;go_enter Tryz.func49,Tryz.ntmps49;go_wp2;go_ret;exact⟨by rw [E.out]; rfl,aG _ _⟩
end Go.Proofs.YtmklifheakemeaaGreat.Bk
namespace Go.Proofs.YtmklifheakemeaaGreat.Rg
open Go.RowKit Rw
end Go.Proofs.YtmklifheakemeaaGreat.Rg
namespace Go.Proofs.YtmklifheakemeaaGreat.Rg
open Go.RowKit Rw
structure Zm (i N A S:Nat) (d last:Nat->Nat) (V:Nat->aj->O->Prop) (base:Act) (o:Oper) (a:Act) (x:O):Prop where
 kp:∀ j u,(∀ i,i<N->d i≠j)->base.tmps[j]?=J u->a.eval (.tmp j)=u
 at_:∀ e∈o.after,aD .any e=aP->e.on≠A->e.on≠S->(last e.on=i\/N<=last e.on)->V e.on (a.eval (.tmp (d e.on))) x
structure InX (l:List Oper) (N A S C:Nat) (d last:Nat->Nat) (V:Nat->aj->O->Prop) (t:aH) (zero:Array aj) (cof:aj->Array aj) (base:Act) (W:O) (L:Array Bool) (a:Act) (x:O):Prop where
 cl:∀ i o,done L i->l[i]?=J o->∀ e∈o.after,aD .any e=aP->done L e.on
 no:∀ i,N<=i->¬ done L i
 df:a.defers=base.defers
 sz:a.tmps.size=base.tmps.size
 kp:∀ j,(∀ i,i<N->d i≠j)->a.tmps[j]?=base.tmps[j]?
 uI:Below W.heap.size W x
 val:∃ vs:Nat->aj,∀ i,i<N->i≠S->done L i->a.tmps[d i]?=J (vs i)/\(i≠A->¬ done L (last i)->V i (vs i) x)
 box:done L A->¬ done L S->∃ bb,a.tmps[d A]?=J (aM (J ⟨bb,0,ah⟩))/\W.heap.size<=bb/\dJ x bb zero t
 fin:done L S->∃ bb v,a.tmps[d A]?=J (aM (J ⟨bb,0,ah⟩))/\a.tmps[d C]?=J v/\W.heap.size<=bb/\dJ x bb (cof v) t/\V C v x
theorem xD {P:Program} {Q:Exit->Act->O->Prop} {id:Nat} {base:Act} {W:O} {l:List Oper} (N A S C:Nat) (d last:Nat->Nat) (V:Nat->aj->O->Prop) (t:aH) (zero:Array aj) (cof:aj->Array aj)
  (hm:P.follows .mixedOrders=aP) (hf:Pg l.toArray=aP) (hN:l.length=N) (hA:A<N) (hS:S<N) (hC:C<N) (hAS:A≠S) (hCS:C≠S) (hAC:A≠C) (hlC:N<=last C)
  (hinj:∀ i j,i<N->j<N->i≠S->j≠S->d i=d j->i=j) (hs:∀ i,i<N->d i<base.tmps.size)
  (hV:∀ i v x x',i<N->V i v x->Below x.heap.size x x'->V i v x')
  (hw:∀ o,l[S]?=J o->(∃ e∈o.after,aD .any e=aP/\e.on=A)/\∃ e∈o.after,aD .any e=aP/\e.on=C)
  (hop:∀ i o,i<N->i≠A->i≠S->l[i]?=J o->∀ a x,Below W.heap.size W x->Zm i N A S d last V base o a x->∀ K:Act->O->Prop,(∀ v x',V i v x'->Below x.heap.size x x'->K (a.put (J (d i)) v) x')->wpOp P l.toArray Q i K a x)
  (hoA:∀ o,l[A]?=J o->∀ a x,∀ K:Act->O->Prop,K (a.put (J (d A)) (aM (J ⟨x.heap.size,0,ah⟩))) (x.alloc (.cells zero t))->wpOp P l.toArray Q A K a x)
  (hoS:∀ o,l[S]?=J o->∀ a x bb v (D:Nat->Prop),(∀ j oj,D j->l[j]?=J oj->∀ e∈oj.after,aD .any e=aP->D e.on)->(∀ e∈o.after,aD .any e=aP->D e.on)->Below W.heap.size W x->a.eval (.tmp (d A))=aM (J ⟨bb,0,ah⟩)->a.eval (.tmp (d C))=v->V C v x->W.heap.size<=bb->dJ x bb zero t->∀ K:Act->O->Prop,(∀ x',Below W.heap.size W x'->dJ x' bb (cof v) t->(∀ j u,j<N->j≠A->j≠S->D j->¬ D (last j)->last j≠S->V j u x->V j u x')->K a x')->wpOp P l.toArray Q S K a x)
  (hend:∀ a x bb v,a.defers=base.defers->a.tmps.size=base.tmps.size->(∀ j,(∀ i,i<N->d i≠j)->a.tmps[j]?=base.tmps[j]?)->a.tmps[d A]?=J (aM (J ⟨bb,0,ah⟩))->a.tmps[d C]?=J v->W.heap.size<=bb->dJ x bb (cof v) t->V C v x->Below W.heap.size W x->(∃ vs:Nat->aj,∀ i,i<N->i≠S->i≠A->a.tmps[d i]?=J (vs i)/\(N<=last i->V i (vs i) x))->Q .normal a x):(Code.region id l.toArray aP).wp P Q base W:=by
 refine ru (fun L a x=>InX l N A S C d last V t zero cof base W L a x) hm hf ?_ ?_ ?_
 ·exact⟨fun i o h=>absurd h (gN _ _),fun i _=>gN _ _,rfl,rfl,fun _ _=>rfl,(aG _ _).drew,⟨fun _=>.bool aP,fun i _ _ h=>absurd h (gN _ _)⟩,fun h=>absurd h (gN _ _),fun h=>absurd h (gN _ _)⟩
 ·intro L a x i o hsz I ho hnd om;have hi:i<l.length:=(aR.1 ho).1;have hiN:i<N:=by omega
  have Ch:i<L.size:=by omega
  obtain⟨vs,hvs⟩:=I.val;have hon:∀ e∈o.after,aD .any e=aP->e.on<i:=fun e he hb=>by
   have h7:=List.all_eq_true.1 hf i (List.mem_range.2 (by simpa using hi));have ho':(l.toArray)[i]?=J o:=by simpa using ho
   rw [ho'] at h7;have h8:=Array.all_eq_true'.1 h7 e he;rw [hb] at h8;simpa using h8
  have dd:∀ {k},k≠i->done (L.setIfInBounds i aP) k->done L k:=fun {k} h h5=>((iC Ch k).1 h5).resolve_left h;have du:∀ {k},done L k->done (L.setIfInBounds i aP) k:=fun {k} h=>(iC Ch k).2 (bg h);have cl':∀ k q,done (L.setIfInBounds i aP) k->l[k]?=J q->∀ e∈q.after,aD .any e=aP->done (L.setIfInBounds i aP) e.on:=fun k q hk hq e he hb=>by
   by_cases e2:k=i
   ·subst e2;rw [hq] at ho;cases ho;exact du (om e he hb)
   ·exact du (I.cl k q (dd e2 hk) hq e he hb)
  have no':∀ k,N<=k->¬ done (L.setIfInBounds i aP) k:=fun k hk h=>I.no k hk (dd (by omega) h);have seen:Zm i N A S d last V base o a x:=⟨fun j u hj hu=>dM (by rw [I.kp j hj]; exact hu),fun e he hb hA' hS' hl=>by
   obtain⟨h1,h2⟩:=hvs e.on (by have:=hon e he hb; omega) hS' (om e he hb);rw [dM h1];refine h2 hA' ?_;rcases hl with hl|hl
   ·rw [hl]; exact hnd
   ·exact I.no _ hl⟩
  have aei:i≠S->∀ v x',Below x.heap.size x x'->(i≠A->V i v x')->(i=A->∃ bb,v=aM (J ⟨bb,0,ah⟩)/\W.heap.size<=bb/\dJ x' bb zero t)->InX l N A S C d last V t zero cof base W (L.setIfInBounds i aP) (a.put (J (d i)) v) x':=by
   intro Rc v x' hb hpv hpa;have self:(a.put (J (d i)) v).tmps[d i]?=J v:=by
    have h5:d i<a.tmps.size:=by rw [I.sz]; exact hs i hiN
    simp [Act.put,h5]
   have keep:∀ k,k<N->k≠S->k≠i->(a.put (J (d i)) v).tmps[d k]?=a.tmps[d k]?:=fun k hk XY hki=>get_put _ _ _ _ (fun e=>hki (hinj _ _ hk hiN XY Rc e));refine⟨cl',no',I.df,by rw [size_put]; exact I.sz,fun j hj=>?_,I.uI.trans (hb.mono I.uI.size),⟨fun k=>if k=i then v else vs k,fun k hk XY hdn=>?_⟩,fun h1 h2=>?_,fun h1=>?_⟩
   ·rw [get_put _ _ _ _ (fun e=>hj i hiN e.symm)];exact I.kp j hj
   ·by_cases e:k=i
    ·subst e;simp only [if_true];exact⟨self,fun h3 _=>hpv h3⟩
    ·simp only [if_neg e];obtain⟨h3,h4⟩:=hvs k hk XY (dd e hdn);exact⟨by rw [keep k hk XY e]; exact h3,fun h5 h6=>hV k _ _ _ hk (h4 h5 (fun h=>h6 (du h))) hb⟩
   ·by_cases e:A=i
    ·subst e;obtain⟨bb,rfl,h4,h5⟩:=hpa rfl;exact⟨bb,self,h4,h5⟩
    ·obtain⟨bb,h3,h4,h5⟩:=I.box (dd e h1) (fun h=>h2 (du h));exact⟨bb,by rw [keep A hA hAS e]; exact h3,h4,h5.on hb⟩
   ·have h2:=dd (Ne.symm Rc) h1;obtain⟨bb,u,h5,h6,h7,h8,h9⟩:=I.fin h2;obtain⟨oS,abZ⟩:∃ oS,l[S]?=J oS:=⟨_,aB (by omega)⟩;obtain⟨⟨ea,k1,k2,k3⟩,ec,k4,k5,k6⟩:=hw oS abZ;have dA:=I.cl S oS h2 abZ ea k1 k2;have dC:=I.cl S oS h2 abZ ec k4 k5;rw [k3] at dA;rw [k6] at dC;have eA:A≠i:=fun e=>hnd (e ▸ dA);have eC:C≠i:=fun e=>hnd (e ▸ dC);exact⟨bb,u,by rw [keep A hA hAS eA]; exact h5,by rw [keep C hC hCS eC]; exact h6,h7,h8.on hb,hV C _ _ _ hC h9 hb⟩
  by_cases Rc:i=S
  ·subst Rc;obtain⟨⟨ea,h1,h2,h3⟩,ec,h4,h5,h6⟩:=hw o ho;have dA:=om ea h1 h2;have dC:=om ec h4 h5;rw [h3] at dA;rw [h6] at dC;obtain⟨v1,v2⟩:=hvs C hC hCS dC;obtain⟨bb,b1,b2,b3⟩:=I.box dA hnd;have vC:=v2 (Ne.symm hAC) (I.no _ hlC);refine hoS o ho a x bb (vs C) (done L) I.cl om I.uI (dM b1) (dM v1) vC b2 b3 _ (fun x' q1 q2 q3=>⟨cl',no',I.df,I.sz,I.kp,q1,⟨vs,fun k hk XY hdn=>?_⟩,fun _ hn=>absurd ((iC Ch _).2 (bU rfl)) hn,fun _=>⟨bb,vs C,b1,v1,b2,q2,?_⟩⟩)
   ·obtain⟨w1,w2⟩:=hvs k hk XY (dd XY hdn);refine⟨w1,fun hkA hnl=>?_⟩;have n1:last k≠i:=fun e=>hnl ((iC Ch _).2 (bU e));have n2:¬ done L (last k):=fun e=>hnl (du e);exact q3 k _ hk hkA XY (dd XY hdn) n2 n1 (w2 hkA n2)
   ·exact q3 C _ hC (Ne.symm hAC) hCS dC (I.no _ hlC) (by omega) vC
  ·by_cases Zn:i=A
   ·subst Zn;refine hoA o ho a x _ (aei Rc _ _ ((aG _ _).alloc (aL _) _) (fun h=>absurd rfl h) (fun _=>⟨x.heap.size,rfl,I.uI.size,dO x zero t⟩))
   ·refine hop i o hiN Zn Rc ho a x I.uI seen _ (fun v x' q1 q2=>aei Rc v x' q2 (fun _=>q1) (fun e=>absurd e Zn))
 ·intro L a x I hd;have dS:=hd S (by omega);obtain⟨bb,v,h1,h2,h3,h4,h5⟩:=I.fin dS;obtain⟨vs,hvs⟩:=I.val;exact hend a x bb v I.df I.sz I.kp h1 h2 h3 h4 h5 I.uI ⟨vs,fun i hi Rc Zn=>by
   obtain⟨k1,k2⟩:=hvs i hi Rc (hd i (by omega));exact⟨k1,fun hl=>k2 Zn (I.no _ hl)⟩⟩
end Go.Proofs.YtmklifheakemeaaGreat.Rg
namespace Go.Proofs.YtmklifheakemeaaGreat.At
open Go.RowKit Va
abbrev V3:=Bool×Int×ByteArray
/-! ### the publications that numbers make -/
end Go.Proofs.YtmklifheakemeaaGreat.At
namespace Go.Proofs.YtmklifheakemeaaGreat.At
open Go.RowKit Go.Sort Va In
end Go.Proofs.YtmklifheakemeaaGreat.At
namespace Go.Proofs.YtmklifheakemeaaGreat.Pr
open Go.RowKit Pu Rw
theorem Sq {α:Type} {E:Ek α} (K:E.Ok) (tn:aH) (htn:Tryz.prog.underlying tn=J (.int .i64)) (n:Nat) (h0:0<n) (hn:n<=1000) (W:O) :
  ∃ (G:Nat) (R:Array aj),n<=G/\G<=maxLen/\R.size=G * E.n /\
   ∀ ty,(Builtin.append_ #[E.ts,tn] ty #[U ah 0 0,ak aA n]).run ay W=.ok (U (J ⟨W.heap.size,0,ah⟩) n G) (W.drew.alloc (.cells R E.t)):=by
 obtain⟨i,i1,i2,i3,i4⟩:=K.info;have hf:=K.few;have hpos:=K.pos;have happ:=fun ty=>Lib.run_append_grow_zeros (P:=ay) W E.ts tn ty E.t i _ aA aA K.hu htn i1 i2 ah 0 0 [] (run_firstCells_none _ _ _ _ _) n h0 (by rw [i3]; exact hpos) (by omega) (by omega)
  (by rw [i4]; exact aN (Nat.mul_le_mul hn hf) (by decide))
  (growslice_fits (by omega) (by rw [i4]; exact aN (Nat.mul_le_mul (show 0+n<=2000 by omega) hf) (by decide)))
 rw [cZ] at happ;have hG1:=grownCap_ge W n 0 E.t;have hG2:=grownCap_le_maxLen W n 0 E.t (by unfold maxLen; omega);generalize grownCap W n 0 E.t=G at happ hG1 hG2;refine⟨G,_,hG1,hG2,?_,happ⟩;simp only [Array.size_append,List.size_toArray,List.length_nil,size_zeroCells,K.zs,cZ,<- Nat.add_mul];rw [show n+(G-n)=G by omega]
def Sr (l:List C5) (w:O) (e:Ending) (w':O):Prop:=∃ v,e=aJ v/\gP w' w.heap.size v l/\Below w.heap.size w w'
theorem Sv (n:Nat) (w:O) (hn:n<=200) :
  Calls ay 159 #[U ah 0 0,ak aA n] w (Sr [] w):=by
 rcases Nat.eq_zero_or_pos n with rfl|h0
 ·have Q:=Z (show Sr [] w (aJ (U ah 0 0)) w from ⟨_,rfl,iM _ _,aG _ _⟩);go_enter Tryz.func159,Tryz.ntmps159;go_wp2;go_ret;exact Q.out
 ·obtain⟨G,R,g1,g2,g3,hr⟩:=Sq (E:=EC) uq 3 aK n h0 (by omega) w;have r:=hr 32;have s1:=kE (E:=EC) uq ⟨w.heap.size,0,ah⟩ 0 n G (Nat.zero_le _);have Q:=Z (show Sr [] w (aJ (U (J ⟨w.heap.size,0,ah⟩) 0 G)) (w.drew.alloc (.cells R 70)) from
   ⟨_,rfl,qB uq (l:=[]) rfl (aL _) (dO w.drew R 70) (Nat.zero_le _) g2 g3 (by simp [flat]),(aG _ _).drew.alloc (by simp) _⟩)
  change (Builtin.append_ #[32,3] 32 #[U ah 0 0,ak aA (n:Int)]).run ay w=.ok (U (J ⟨w.heap.size,0,ah⟩) n G) (w.drew.alloc (.cells R 70)) at r;change ∀ W,(Instr.sliceAt 32 (U (J ⟨w.heap.size,0,ah⟩) n G) ah (J (ak aA 0)) ah).run ay W=.ok (U (J ⟨w.heap.size,0,ah⟩) 0 G) W at s1;have e1:decide ((n:Int)<0)=aS:=by simp
  have e2:decide ((0:Int)<(n:Int))=aP:=by simp; omega
  unfold maxLen at g2;clear hr g3;go_enter Tryz.func159,Tryz.ntmps159;go_wp2_with (first | (at_builtin; refine je rfl _ _ 32 3 rfl rfl rfl r ?_) | fail);go_ret;exact Q.out
def agZ (n m:Nat) (s i:aj):Prop:=(i=ak aA 0/\s=ak aA 0)\/(i=ak aA 1/\s=ak aA (n:Int))\/(i=ak aA 2/\s=ak aA ((n+m:Nat):Int))
def ag0 (w:O) (a b:List C5) (v i:aj) (wr:O):Prop:=((i=ak aA 0/\gP wr w.heap.size v [])\/(i=ak aA 1/\gP wr w.heap.size v a)\/(i=ak aA 2/\gP wr w.heap.size v (a++b)))/\Below w.heap.size w wr
theorem Ko (g:Nat) (oL bv:aj) (a b:List C5) (w:O) (c0:w.cell? ⟨g,0,ah⟩=J oL) (c1:w.cell? ⟨g,1,ah⟩=J bv) (ha:fH w oL a) (hb:fH w bv b) (la:a.length<=100) (lb:b.length<=100) :
  Calls ay 122 #[U (J ⟨g,0,ah⟩) 2 2] w (Sr (a++b) w):=by
 have HA:=Z ha;have HB:=Z hb;have C0:=Z c0;have C1:=Z c1;have hg:g<w.heap.size:=World.block_lt_of_cell? w _ c0;obtain⟨ao,ac,rfl⟩:=ha.len;obtain⟨bo,bc,rfl⟩:=hb.len;clear ha hb c0 c1;go_enter Tryz.func122,Tryz.ntmps122;go_wp2
 go_loop [3,11] (fun s i=>agZ a.length b.length s i) (fun _ i=>(2-intOf i).toNat)
 case atStart=>exact bU ⟨rfl,rfl⟩
 case round =>
  rcases hrel with⟨rfl,rfl⟩|⟨rfl,rfl⟩|⟨rfl,rfl⟩
  ·have c0:=C0.out;go_wp2
   go_round
   case rel=>exact bg (bU ⟨rfl,rfl⟩)
   case measure=>simp [intOf]
  ·have c1:=C1.out;go_wp2
   go_round
   case rel=>exact bg (bg ⟨rfl,by go_num⟩)
   case measure=>simp [intOf]
  ·have GR:=Z (Sv (a.length+b.length) w (by omega));go_wp2_with fail;refine GR.out.mono ?_;rintro e1 w1 ⟨v1,rfl,ho,hb1⟩;have O1:=Z ho;have B1:=Z hb1;clear ho hb1 GR;go_wp2
   go_loopw [6,27] (fun v i wr=>ag0 w a b v i wr) (fun _ i _=>(2-intOf i).toNat)
   case atStart=>exact⟨bU ⟨rfl,O1.out⟩,B1.out⟩
   case round =>
    obtain⟨hc,hbw⟩:=hrel;have BW:=Z hbw;clear hbw;rcases hc with⟨rfl,ho⟩|⟨rfl,ho⟩|⟨rfl,ho⟩
    ·have c0:=(BW.out.cell (p:=⟨g,0,ah⟩) hg).trans C0.out;obtain⟨v',w',r,o',gr⟩:=Ce w.heap.size ho (HA.out.on BW.out) (by simp) (by omega) BW.out.size;have B':=Z (BW.out.grown gr BW.out.size (fun j hj=>(ho.lt j hj).1));have O':=Z o';clear ho o' gr;go_wp2_with (first | (at_builtin; refine wpList_append_run rfl _ _ 32 rfl rfl rfl r ?_) | fail)
     go_roundw
     case rel=>exact⟨bg (bU ⟨rfl,O'.out⟩),B'.out⟩
     case measure=>simp [intOf]
    ·have c1:=(BW.out.cell (p:=⟨g,1,ah⟩) hg).trans C1.out;obtain⟨v',w',r,o',gr⟩:=Ce w.heap.size ho (HB.out.on BW.out) (by omega) (by omega) BW.out.size;have B':=Z (BW.out.grown gr BW.out.size (fun j hj=>(ho.lt j hj).1));have O':=Z o';clear ho o' gr;go_wp2_with (first | (at_builtin; refine wpList_append_run rfl _ _ 32 rfl rfl rfl r ?_) | fail)
     go_roundw
     case rel=>exact⟨bg (bg ⟨rfl,O'.out⟩),B'.out⟩
     case measure=>simp [intOf]
    ·have Q:=Z (show Sr (a++b) w (aJ _) _ from ⟨_,rfl,ho,BW.out⟩);clear ho;go_wp2;go_ret;exact Q.out
end Go.Proofs.YtmklifheakemeaaGreat.Pr
namespace Go.Proofs.YtmklifheakemeaaGreat.Ar
open Go.ChangeShapes Go.WideShapes Go.RowKit
def readable (P:Program) (ts:List aH):Bool:=ts.all fun t=>P.readableRec t && decide (t<P.types.size)
theorem carry {H:Type} {enc:aH×aj->H} {P:Program} (hl:laidOutB P=aP) {W W':O} (hb:Below W.heap.size W W') :
  ∀ (ts:List aH) (vs:List aj) (ds:List (DataW H)) (ps:List MemPlace),readable P ts=aP->DataW.TrodAll enc P W 0 (fun _=>aP) aP ts vs ds ps->(∀ x∈ps,x.block<W.heap.size) ->
   DataW.TrodAll enc P W' 0 (fun b=>decide (b<W.heap.size)) aP ts vs ds ps
 | [],vs,ds,ps,_,h,_=>by
  obtain⟨rfl,rfl,rfl⟩:=trodAll_nil h;exact trodAll_mk0
 | t::ts,vs,ds,ps,hr,h,hlt=>by
  obtain⟨v,vs',d,ds',p,q,rfl,rfl,rfl,h1,h2⟩:=trodAll_cons h;simp only [readable,List.all_cons,Bool.and_eq_true,decide_eq_true_eq] at hr;exact trodAll_cons_mk (Below.trod hl hr.1.1 hr.1.2 h1 hb (fun x hx=>hlt x (bQ _ hx)))
   (carry hl hb ts vs' ds' q hr.2 h2 (fun x hx=>hlt x (bM _ hx)))
end Go.Proofs.YtmklifheakemeaaGreat.Ar
namespace Go.Proofs.YtmklifheakemeaaGreat.Pr
open Go.RowKit Go.ChangeShapes Go.WideShapes In
theorem Sw:Tryz.prog.cellsOf 49=2:=by kernel_rfl
theorem Ms:Tryz.prog.cellsOf 22=1:=by kernel_rfl
theorem P5 {H:Type} {enc:aH×aj->H} {W:O} {r:Reach} {b0:Nat} {sp:Nat->Bool} {held:Bool} {v:aj} {d:DataW H} {ps:List MemPlace}
  (hval:Value.okWide ay W r b0 49 v) (hd:DataW.Trod enc ay W 0 sp held 49 v d ps) :
  ∃ (hv vv:aj) (has vals:List Int),v=.agg #[hv,vv]/\has.length<=maxLen/\vals.length<=maxLen/\kK W hv has/\kK W vv vals:=by
 obtain⟨cs,rfl,hsz⟩:=okWide_struct dn hval;obtain⟨fuel,hf⟩:=hd;obtain⟨xs,n,_,_,_,hxl,hx⟩:=DataW.trod_struct dn hf;rw [Sw] at hsz;obtain⟨l⟩:=cs
 match l,hsz with
 | [c0,c1],_ =>
  have f0:DataW.trod enc ay W 0 sp held n 22 (([c0,c1].drop 0).take (Tryz.prog.cellsOf 22))=xs[0]?:=hx 0 _ rfl;have f1:DataW.trod enc ay W 0 sp held n 22 (([c0,c1].drop 1).take (Tryz.prog.cellsOf 22))=xs[1]?:=hx 1 _ rfl;have aej:xs.length=2:=hxl;simp only [Ms,List.drop_zero,List.drop_succ_cons,bR,List.take_zero] at f0 f1;rw [aB (by omega)] at f0 f1;obtain⟨has,h1,h2⟩:=yV f0;obtain⟨vals,h3,h4⟩:=yV f1;exact⟨c0,c1,has,vals,rfl,h1,h3,h2,h4⟩
end Go.Proofs.YtmklifheakemeaaGreat.Pr
