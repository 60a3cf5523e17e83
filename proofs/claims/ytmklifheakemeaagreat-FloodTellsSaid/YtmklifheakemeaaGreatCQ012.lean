/-
  copyAdvert of packag. Conditions as told.
-/
import Derived.Test.YtmklifheakemeaaGreatCQ008
import Derived.Test.YtmklifheakemeaaGreatCQ011
import Derived.Shelf.Slices.In.SortNone
import Derived.Shelf.Sort.Plain
import Derived.Shelf.Slices.CompactI
import Derived.Shelf.Slices.SearchI
set_option maxRecDepth 100000
set_option maxHeartbeats 64000000
open _root_.Bool renaming false->aF
open _root_.Go renaming World->U,Value->ak,TypeId->aY,Calls->bY
open Go.Builtin renaming copy_->aK,append_->bR
open Go.Ending renaming returned->aL
open Go.Instr renaming sliceAt->aj,storeAt->aZ
open Go.IntKind renaming i64->ah,wrap_i64->bL
open Go.Lib renaming hid->V
open Go.Obj renaming cells->aG
open Go.Proofs.Tryz renaming prog->O,underlying3->aC,underlying22->aJ,underlying0->aP,underlying4->aQ,zeroValue22->aR,zeroValue0->aU,zeroValue3->aV,zeroValue4->aW,ntmps144->bf,sizeOf22->bg,underlying139->bD,func144->bF,sizeOf0->bG,sizeOf3->bH,sizeOf4->bI,isAgg22->bJ,zeroValue139->bK,isAgg0->bM,isAgg3->bN,isAgg4->bQ,sizeOf139->bS,isAgg139->bU,ntmps49->bX,func49->cB
open Go.RowKit.Below renaming refl->aA,heap_setCell->aH
open Go.Value renaming slice->D,int->Z,pointer->bZ
open _root_.List renaming getElem?_eq_getElem->au,set_cons_succ->ay,take_of_length_le->aB,take_add_one->aI,getElem?_cons_zero->aM,getElem?_cons_succ->aN,cons_append->aO,nil_append->aS,length_set->aT,getElem?_toArray->aX,length->cu
open _root_.Nat renaming le_refl->aD,lt_or_ge->bV
open _root_.Option renaming none->J,some->L
namespace Go.Proofs.YtmklifheakemeaaGreat.Av
open Go.RowKit Go.Sort Rw YtmklifheakemeaaGreat.Nm Pr Bk
abbrev Uq (W:U) (b:Nat) (a0 a1 a2 a3:ak):U:=(((W.setCell ⟨b,0,J⟩ a0).setCell ⟨b,1,J⟩ a1).setCell ⟨b,2,J⟩ a2).setCell ⟨b,3,J⟩ a3
theorem Bo {W:U} {b:Nat} {t:aY} {z0 z1 z2 z3:ak} (h:dJ W b #[z0,z1,z2,z3] t) (a0 a1 a2 a3:ak):dJ (Uq W b a0 a1 a2 a3) b #[a0,a1,a2,a3] t:=by
 have h2:=dZ (k:=3) (dZ (k:=2) (dZ (k:=1) (dZ (k:=0) h a0) a1) a2) a3;simpa using h2
theorem wD {B:Nat} {W0 W:U} {b:Nat} (h:Below B W0 W) (hb:B<=b) (a0 a1 a2 a3:ak):Below B W0 (Uq W b a0 a1 a2 a3) :=
 (((h.setCell (p:=⟨b,0,J⟩) hb a0).setCell (p:=⟨b,1,J⟩) hb a1).setCell (p:=⟨b,2,J⟩) hb a2).setCell (p:=⟨b,3,J⟩) hb a3
theorem Jp {α:Type} {E:Ek α} {W:U} {B:Nat} {v:ak} {l:List α} (h:Own E W B v l) (b:Nat) (hb:b<B) (a0 a1 a2 a3:ak):Own E (Uq W b a0 a1 a2 a3) B v l :=
 dX (dX (dX (dX h b 0 a0 hb) b 1 a1 hb) b 2 a2 hb) b 3 a3 hb
theorem Bp (x:jv) (p:List C5) (w:U) (hp:fK w (dY x.2.2.1) p) (hl:p.length<=900) :
  bY O 79 #[lX x] w fun e w'=>(∃ v':Sl,e=aL (lX (x.1,x.2.1,v',x.2.2.2))/\iq w' w.heap.size (dY v') p)/\Below w.heap.size w w':=by
 obtain⟨a,b,⟨s1,s2,s3⟩,q⟩:=x;obtain⟨h0,X,Y⟩:=gM w #[Z ah a,Z ah b,D s1 s2 s3,Z ah q] #[Z ah 0,Z ah 0,D J 0 0,Z ah 0] 74 74;have C:=V (mY (s1,s2,s3) p _ (hp.on h0) hl);have B:=V h0;have x2:=X.cell 2;simp only [aX,aM,aN] at x2;have X:=V X;have Y:=V Y;clear h0 hp hl;go_enter Tryz.func79,Tryz.ntmps79;go_wp2_with fail;generalize (w.alloc (aG #[Z ah a,Z ah b,D s1 s2 s3,Z ah q] 74)).alloc (aG #[Z ah 0,Z ah 0,D J 0 0,Z ah 0] 74)=W at *;refine C.out.mono ?_;rintro e w1 ⟨⟨⟨u1,u2,u3⟩,rfl,ho⟩,hb⟩;have X1:=X.out.on hb;have Y1:=Y.out.on hb;have hs:w.heap.size<W.heap.size:=X.out.lt;have O1:=V (dX ho w.heap.size 2 (D u1 u2 u3) hs);have XB:=V (show dJ _ _ #[Z ah a,Z ah b,D u1 u2 u3,Z ah q] _ from by simpa using dZ (k:=2) X1 (D u1 u2 u3));have YB:=V (show dJ _ _ _ _ from (aH w1 ⟨w.heap.size,2,J⟩ (D u1 u2 u3) _ (show w.heap.size+1≠w.heap.size by omega)).trans Y1);have B1:=V ((B.out.trans (hb.mono B.out.size)).setCell (p:=⟨w.heap.size,2,J⟩) (aD _) (D u1 u2 u3));have y2:=X1.cell 2;have f2:=X1.fr 2;have z2:=X1.lt;simp only [aX,aM,aN] at y2;clear X1 Y1 ho hb x2 C;go_upto_region 2 with fail;clear y2 f2 z2;generalize w1.setCell ⟨w.heap.size,2,J⟩ (D u1 u2 u3)=w2 at *;obtain⟨x0,x1,x2,x3⟩:=XB.out.Ak;obtain⟨r0,r1,r2,r3⟩:=YB.out.Ak;obtain⟨t0,t1,t2,t3⟩:=YB.out.fs4;have zz:=YB.out.lt;have hs2:w.heap.size+1<W.heap.size:=Y.out.lt;have FB:=V (Bo YB.out (Z ah a) (Z ah b) (D u1 u2 u3) (Z ah q));have BL:=V (wD (b:=w.heap.size+1) B1.out (by omega) (Z ah a) (Z ah b) (D u1 u2 u3) (Z ah q));have FO:=V (Jp O1.out (w.heap.size+1) hs2 (Z ah a) (Z ah b) (D u1 u2 u3) (Z ah q));have HS:=V hs;clear hs hs2;go_wp2_with fail;obtain⟨v0,v1,v2,v3⟩:=FB.out.Ak;refine bodyPost_ret (v:=.agg #[Z ah a,Z ah b,D u1 u2 u3,Z ah q]) (by simp [results,Tryz.results79,go_sem,v0,v1,v2,v3]) rfl ?_;exact⟨⟨(u1,u2,u3),rfl,dM FO.out (Nat.le_of_lt HS.out)⟩,BL.out⟩
theorem jP {α:Type} {E:Ek α} (K:E.Ok) {W:U} {B g n cap k:Nat} {l:List α} {x:α} (h:Own E W B (D (L ⟨g,0,J⟩) n cap) l) (hk:l[k]?=L x):∀ w,Below W.heap.size W w->∀ j u,(E.cells x)[j]?=L u->w.cell? ((⟨g,k * E.n,J⟩:Addr).add j)=L u:=by
 obtain⟨ao,c,hv⟩:=(Row.dH h).len;obtain⟨rfl,rfl,rfl⟩:L ⟨g,0,J⟩=ao/\n=l.length/\cap=c:=by simpa using hv
 obtain⟨p,h1,_,h2⟩:=nV K (Row.dH h) rfl rfl hk;have h3:=lJ K g k l.length cap (List.getElem?_eq_some_iff.1 hk).1 W;rw [h1] at h3;injection h3 with h4 _
 injection h4 with h5
 injection h5 with h6
 subst h6;exact h2
theorem jU {α:Type} {E:Ek α} {W:U} {B g n cap:Nat} {l:List α} (h:Own E W B (D (L ⟨g,0,J⟩) n cap) l):∃ cur,dJ W g cur E.t:=by
 rcases gX h with⟨h1,_⟩|⟨g',c',cur,h1,_,h2,_⟩
 ·cases h1
 ·obtain⟨rfl,_⟩:g=g'/\True:=by simp at h1; exact⟨h1.1,trivial⟩
  exact⟨cur,h2⟩
theorem lT {W:U} {b g:Nat} {c d:Array ak} {s t:aY} (hb:dJ W b c s) (hg:dJ W g d t) (hne:(s == t)=aF):b≠g:=by
 rintro rfl;unfold dJ at hb hg;rw [hb] at hg;injection hg with h
 injection h with _ h2
 rw [h2] at hne;simp at hne
def But (g:Nat) (W x:U):Prop:=(∀ k,k<W.heap.size->k≠g->x.heap[k]?=W.heap[k]?)/\W.heap.size<=x.heap.size
theorem But.box {g b:Nat} {W x:U} {cs:Array ak} {t:aY} (h:But g W x) (hb:dJ W b cs t) (hne:b≠g):dJ x b cs t:=(h.1 b hb.lt hne).trans hb
theorem But.own {α:Type} {E:Ek α} {g:Nat} {W x:U} {B:Nat} {v:ak} {l:List α} {d:Array ak} {t:aY} (h:But g W x) (ho:Own E W B v l) (hg:dJ W g d t) (hne:(E.t == t)=aF):Own E x B v l:=by
 refine⟨ho.1,?_⟩;rcases ho.2 with h2|⟨g',cap,cur,h1,h2,h3,h4⟩
 ·exact Or.inl h2
 ·exact Or.inr ⟨g',cap,cur,h1,h2,by rw [h.1 g' (lt_of_heap h3) (lT (show dJ W g' cur E.t from h3) hg hne)]; exact h3,h4⟩
theorem yM:∀ (l:List jv) (k:Nat) (x:jv),k<l.length->flat ED (l.set k x)=((((flat ED l).set (k * 4) (Z ah x.1)).set (k * 4+1) (Z ah x.2.1)).set (k * 4+2) (dY x.2.2.1)).set (k * 4+3) (Z ah x.2.2.2)
 | [],k,x,h=>by simp at h
 | y::r,0,x,_=>rfl
 | y::r,k+1,x,h=>by
  have ih:=yM r k x (by simpa using h);rw [show (k+1) * 4+3=(k * 4+3)+1+1+1+1 by omega,show (k+1) * 4+2=(k * 4+2)+1+1+1+1 by omega,show (k+1) * 4+1=(k * 4+1)+1+1+1+1 by omega,show (k+1) * 4=(k * 4)+1+1+1+1 by omega];simp only [ay,flat,ED,cellsD,aO,aS] at ih ⊢;rw [ih]
theorem EG:∀ (l:List iH) (k:Nat) (x:iH) (s:Sl),l[k]?=L x->flat EN (l.set k (x.1,x.2.1,x.2.2.1,x.2.2.2.1,s,x.2.2.2.2.2.1,x.2.2.2.2.2.2))=(flat EN l).set (k * 7+4) (dY s)
 | [],k,x,s,h=>by simp at h
 | y::r,0,x,s,h=>by
  obtain rfl:y=x:=by simpa using h
  rfl
 | y::r,k+1,x,s,h=>by
  have ih:=EG r k x s (by simpa using h);rw [show (k+1) * 7+4=(k * 7+4)+1+1+1+1+1+1+1 by omega];simp only [ay,flat,EN,jO,aO,aS] at ih ⊢;rw [ih]
theorem EH:∀ (l:List oq) (k:Nat) (x:oq) (s:Sl),l[k]?=L x->flat EW (l.set k (x.1,x.2.1,s))=(flat EW l).set (k * 3+2) (dY s)
 | [],k,x,s,h=>by simp at h
 | y::r,0,x,s,h=>by
  obtain rfl:y=x:=by simpa using h
  rfl
 | y::r,k+1,x,s,h=>by
  have ih:=EH r k x s (by simpa using h);rw [show (k+1) * 3+2=(k * 3+2)+1+1+1 by omega];simp only [ay,flat,EW,wC,aO,aS] at ih ⊢;rw [ih]
def MS {α:Type} (E:Ek α) (B g:Nat) (v:ak) (l:List α) (w w':U):Prop:=Own E w' B v l/\But g w w'/\(∀ B' W,B'<=g->Below B' W w->Below B' W w')
theorem dQ (w:U) (g j:Nat) (u:ak):But g w (w.setCell ⟨g,j,J⟩ u):=⟨fun k _ hk=>aH w ⟨g,j,J⟩ u k hk,by simp⟩
theorem But.trans {g:Nat} {a b c:U} (h1:But g a b) (h2:But g b c):But g a c:=⟨fun k hk hne=>(h2.1 k (Nat.lt_of_lt_of_le hk h1.2) hne).trans (h1.1 k hk hne),Nat.le_trans h1.2 h2.2⟩
theorem But.of_below {g:Nat} {a b:U} (h:Below a.heap.size a b):But g a b:=⟨fun k hk _=>h.block k hk,h.size⟩
theorem afJ {w:U} {B g n cap k:Nat} {l:List jv} (x:jv) (h:lY w B (D (L ⟨g,0,J⟩) n cap) l) (hk:k<l.length) :
  ∃ w',(aZ 74 (bZ (L ⟨g,k * 4,J⟩)) (lX x)).run O w=.ok () w'/\MS ED B g (D (L ⟨g,0,J⟩) n cap) (l.set k x) w w':=by
 obtain⟨y,hy⟩:∃ y,l[k]?=L y:=⟨_,au hk⟩;have c:=jP okD h hy w (aA _ _);have c0:=c 0 _ rfl;have c1:=c 1 _ rfl;have c2:=c 2 _ rfl;have c3:=c 3 _ rfl;simp [Addr.add,ED] at c0 c1 c2 c3;obtain⟨cur,hb⟩:=jU h;have f:=fun j=>hb.fr j;obtain⟨ao,c',hv⟩:=(Row.dH h).len;obtain⟨_,rfl,_⟩:L ⟨g,0,J⟩=ao/\n=l.length/\cap=c':=by simpa using hv
 have h:w.ownsRow B 74 4 (D (L ⟨g,0,J⟩) l.length cap) l.length (flat ED l):=h;have s1:=(h.stored (k * 4) (Z ah x.1)).1;have s2:=(s1.stored (k * 4+1) (Z ah x.2.1)).1;have s3:=(s2.stored (k * 4+2) (dY x.2.2.1)).1;have s4:=(s3.stored (k * 4+3) (Z ah x.2.2.2)).1;refine⟨(((w.setCell ⟨g,k * 4,J⟩ (Z ah x.1)).setCell ⟨g,k * 4+1,J⟩ (Z ah x.2.1)).setCell ⟨g,k * 4+2,J⟩ (dY x.2.2.1)).setCell ⟨g,k * 4+3,J⟩ (Z ah x.2.2.2),?_,?_,((dQ _ g _ _).trans (dQ _ g _ _)).trans ((dQ _ g _ _).trans (dQ _ g _ _)),fun B' W hB hb=>(((hb.setCell (p:=⟨g,_,J⟩) hB _).setCell (p:=⟨g,_,J⟩) hB _).setCell (p:=⟨g,_,J⟩) hB _).setCell (p:=⟨g,_,J⟩) hB _⟩
 ·simp [go_sem,c0,c1,c2,c3,f]
 ·have e:=yM l k x hk;show World.ownsRow _ B 74 4 _ (l.set k x).length (flat ED (l.set k x));rw [e,aT];exact s4
theorem afK {w:U} {B g n cap k:Nat} {l:List iH} {x:iH} (s1:Option Addr) (s2 s3:Nat) (h:kY w B (D (L ⟨g,0,J⟩) n cap) l) (hk:l[k]?=L x) :
  ∃ w',(aZ 32 (bZ (L ⟨g,k * 7+4,J⟩)) (D s1 s2 s3)).run O w=.ok () w'/\MS EN B g (D (L ⟨g,0,J⟩) n cap) (l.set k (x.1,x.2.1,x.2.2.1,x.2.2.2.1,(s1,s2,s3),x.2.2.2.2.2.1,x.2.2.2.2.2.2)) w w':=by
 have c:=jP nX h hk w (aA _ _);have c4:=c 4 _ rfl;simp [Addr.add,EN] at c4;obtain⟨cur,hb⟩:=jU h;have f:=hb.fr (k * 7+4);obtain⟨ao,c',hv⟩:=(Row.dH h).len;obtain⟨_,rfl,_⟩:L ⟨g,0,J⟩=ao/\n=l.length/\cap=c':=by simpa using hv
 have h:w.ownsRow B 66 7 (D (L ⟨g,0,J⟩) l.length cap) l.length (flat EN l):=h;have t1:=(h.stored (k * 7+4) (D s1 s2 s3)).1;refine⟨w.setCell ⟨g,k * 7+4,J⟩ (D s1 s2 s3),by simp [go_sem,c4,f],?_,dQ _ g _ _,fun B' W hB hb=>hb.setCell (p:=⟨g,_,J⟩) hB _⟩;have e:=EG l k x (s1,s2,s3) hk;show World.ownsRow _ B 66 7 _ (cu _) (flat EN _);rw [e,aT];exact t1
theorem afL {w:U} {B g n cap k:Nat} {l:List oq} {x:oq} (s1:Option Addr) (s2 s3:Nat) (h:qH w B (D (L ⟨g,0,J⟩) n cap) l) (hk:l[k]?=L x) :
  ∃ w',(aZ 32 (bZ (L ⟨g,k * 3+2,J⟩)) (D s1 s2 s3)).run O w=.ok () w'/\MS EW B g (D (L ⟨g,0,J⟩) n cap) (l.set k (x.1,x.2.1,(s1,s2,s3))) w w':=by
 have c:=jP okW h hk w (aA _ _);have c2:=c 2 _ rfl;simp [Addr.add,EW] at c2;obtain⟨cur,hb⟩:=jU h;have f:=hb.fr (k * 3+2);obtain⟨ao,c',hv⟩:=(Row.dH h).len;obtain⟨_,rfl,_⟩:L ⟨g,0,J⟩=ao/\n=l.length/\cap=c':=by simpa using hv
 have h:w.ownsRow B 34 3 (D (L ⟨g,0,J⟩) l.length cap) l.length (flat EW l):=h;have t1:=(h.stored (k * 3+2) (D s1 s2 s3)).1;refine⟨w.setCell ⟨g,k * 3+2,J⟩ (D s1 s2 s3),by simp [go_sem,c2,f],?_,dQ _ g _ _,fun B' W hB hb=>hb.setCell (p:=⟨g,_,J⟩) hB _⟩;have e:=EH l k x (s1,s2,s3) hk;show World.ownsRow _ B 34 3 _ (cu _) (flat EW _);rw [e,aT];exact t1
theorem eY.set {α β:Type} {R:α->β->Prop}:∀ {l:List α} {m:List β} (k:Nat) (a:α) (b:β),eY R l m->m[k]?=L b->R a b->eY R (l.set k a) m
 | _,_,_,_,_,.nil,h,_=>by simp at h
 | _,_,0,a,b,.cons x t,h,hr=>by
  simp at h;subst h;exact .cons hr t
 | _,_,k+1,a,b,.cons x t,h,hr=>.cons x (eY.set k a b t (by simpa using h) hr)
def PM (w0:U) (B:Nat) (wr:U) (v:ak) (p:List C5):Prop:=fK w0 v p\/iq wr B v p
def Ma (w0:U) (B:Nat) (wr:U) (x:jv) (a:Ad):Prop:=(x.1,x.2.1)=a.id/\x.2.2.2=a.par/\PM w0 B wr (dY x.2.2.1) a.p
def Mc (w0:U) (B:Nat) (wr:U) (x:iH) (a:En):Prop:=(x.1,x.2.1)=a.tree/\(x.2.2.1,x.2.2.2.1)=a.sub/\x.2.2.2.2.2.1=a.from_/\x.2.2.2.2.2.2=a.up/\PM w0 B wr (dY x.2.2.2.2.1) a.p
def Oy (w0:U) (B:Nat) (wr:U) (x:oq) (a:Ow):Prop:=(x.1,x.2.1)=a.id/\PM w0 B wr (dY x.2.2) a.p
theorem PM.grow {w0 wr x:U} {B:Nat} {v:ak} {p:List C5} (h:PM w0 B wr v p) (hb:Below wr.heap.size wr x):PM w0 B x v p:=h.imp id fun h=>Bk.dI h hb
theorem PM.but {w0 wr x:U} {B:Nat} {v:ak} {p:List C5} {g:Nat} {d:Array ak} {t:aY} (h:PM w0 B wr v p) (hb:But g wr x) (hg:dJ wr g d t) (hne:(70 == t)=aF):PM w0 B x v p:=h.imp id fun h=>hb.own h hg hne
theorem PM.row {w0 wr:U} {B:Nat} {v:ak} {p:List C5} (h:PM w0 B wr v p) (hb:Below w0.heap.size w0 wr):fK wr v p:=h.elim (fun h=>h.on hb) Row.dH
theorem Ma.grow {w0 wr x:U} {B:Nat} {y:jv} {a:Ad} (h:Ma w0 B wr y a) (hb:Below wr.heap.size wr x):Ma w0 B x y a:=⟨h.1,h.2.1,h.2.2.grow hb⟩
theorem Mc.grow {w0 wr x:U} {B:Nat} {y:iH} {a:En} (h:Mc w0 B wr y a) (hb:Below wr.heap.size wr x):Mc w0 B x y a:=⟨h.1,h.2.1,h.2.2.1,h.2.2.2.1,h.2.2.2.2.grow hb⟩
theorem Oy.grow {w0 wr x:U} {B:Nat} {y:oq} {a:Ow} (h:Oy w0 B wr y a) (hb:Below wr.heap.size wr x):Oy w0 B x y a:=⟨h.1,h.2.grow hb⟩
theorem Ma.but {w0 wr x:U} {B:Nat} {y:jv} {a:Ad} {g:Nat} {d:Array ak} {t:aY} (h:Ma w0 B wr y a) (hb:But g wr x) (hg:dJ wr g d t) (hne:(70 == t)=aF):Ma w0 B x y a:=⟨h.1,h.2.1,h.2.2.but hb hg hne⟩
theorem Mc.but {w0 wr x:U} {B:Nat} {y:iH} {a:En} {g:Nat} {d:Array ak} {t:aY} (h:Mc w0 B wr y a) (hb:But g wr x) (hg:dJ wr g d t) (hne:(70 == t)=aF):Mc w0 B x y a:=⟨h.1,h.2.1,h.2.2.1,h.2.2.2.1,h.2.2.2.2.but hb hg hne⟩
theorem Oy.but {w0 wr x:U} {B:Nat} {y:oq} {a:Ow} {g:Nat} {d:Array ak} {t:aY} (h:Oy w0 B wr y a) (hb:But g wr x) (hg:dJ wr g d t) (hne:(70 == t)=aF):Oy w0 B x y a:=⟨h.1,h.2.but hb hg hne⟩
def vw (w:U):U:={ w with heap:=#[] }
theorem aat (w:U) (a:Addr):(vw w).cell? a=J:=by
 unfold World.cell? vw;simp
theorem MU {α:Type} {E:Ek α} {w x:U} {v:ak} {l:List α} (h:Row E (vw w) v l):Row E x v l:=by
 rcases h with h|⟨a,cap,h1,h2,h3,h4⟩
 ·exact Or.inl h
 ·refine Or.inr ⟨a,cap,h1,h2,h3,fun j u hj=>?_⟩;have h5:=h4 j u hj;rw [aat] at h5;cases h5
theorem vR {α:Type}:∀ (l:List α) (k:Nat) (x:α),k<l.length->(l.set k x).take (k+1)=l.take k++[x]
 | [],k,x,h=>absurd h (Nat.not_lt_zero k)
 | _::_,0,_,_=>rfl
 | a::l,k+1,x,h=>by
  rw [ay,List.take_succ_cons,vR l k x (by simpa using h)]
  rfl
theorem yN {α β:Type} {R:α->β->Prop} {l:List α} {m:List β} {k:Nat} {x:α} {y:β} (h:eY R (l.take k) (m.take k)) (hk:k<l.length) (hy:m[k]?=L y) (hx:R x y):eY R ((l.set k x).take (k+1)) (m.take (k+1)):=by
 rw [vR l k x hk,aI,hy];exact h.append (.cons hx .nil)
structure Cp (w0:U) (B:Nat) (wr:U) (b:Br) (nv av sv ev ov:Sl):Prop where
 near:yH wr B (dY nv) b.near
 seen:sD wr B (dY sv) b.seen
 dP:∃ l,lY wr B (dY av) l/\eY (Ma w0 B wr) l b.dP
 ent:∃ l,kY wr B (dY ev) l/\eY (Mc w0 B wr) l b.ent
 own:∃ l,qH wr B (dY ov) l/\eY (Oy w0 B wr) l b.own
theorem Cp.grow {w0 wr x:U} {B:Nat} {b:Br} {nv av sv ev ov:Sl} (h:Cp w0 B wr b nv av sv ev ov) (hb:Below wr.heap.size wr x):Cp w0 B x b nv av sv ev ov where
 near:=Bk.dI h.near hb
 seen:=Bk.dI h.seen hb
 dP:=by obtain⟨l,h1,h2⟩:=h.dP; exact⟨l,Bk.dI h1 hb,h2.mono fun _ _ h=>h.grow hb⟩
 ent:=by obtain⟨l,h1,h2⟩:=h.ent; exact⟨l,Bk.dI h1 hb,h2.mono fun _ _ h=>h.grow hb⟩
 own:=by obtain⟨l,h1,h2⟩:=h.own; exact⟨l,Bk.dI h1 hb,h2.mono fun _ _ h=>h.grow hb⟩
theorem Cp.yO {w0 wr x:U} {B:Nat} {b:Br} {nv av sv ev ov:Sl} (h:Cp w0 B wr b nv av sv ev ov) {g:Nat} {d:Array ak} {t:aY} (hb:But g wr x) (hg:dJ wr g d t) (h1:(3 == t)=aF) (h2:(31 == t)=aF) (h3:(74 == t)=aF) (h4:(66 == t)=aF) (h5:(34 == t)=aF) (h6:(70 == t)=aF):Cp w0 B x b nv av sv ev ov where
 near:=hb.own h.near hg h1
 seen:=hb.own h.seen hg h2
 dP:=by obtain⟨l,g1,g2⟩:=h.dP; exact⟨l,hb.own g1 hg h3,g2.mono fun _ _ h=>h.but hb hg h6⟩
 ent:=by obtain⟨l,g1,g2⟩:=h.ent; exact⟨l,hb.own g1 hg h4,g2.mono fun _ _ h=>h.but hb hg h6⟩
 own:=by obtain⟨l,g1,g2⟩:=h.own; exact⟨l,hb.own g1 hg h5,g2.mono fun _ _ h=>h.but hb hg h6⟩
theorem Cp.but {w0 wr x:U} {B:Nat} {b:Br} {nv av sv ev ov:Sl} (h:Cp w0 B wr b nv av sv ev ov) {g:Nat} {d:Array ak} (hb:But g wr x) (hg:dJ wr g d 28):Cp w0 B x b nv av sv ev ov where
 near:=hb.own h.near hg (by decide)
 seen:=hb.own h.seen hg (by decide)
 dP:=by obtain⟨l,h1,h2⟩:=h.dP; exact⟨l,hb.own h1 hg (by decide),h2.mono fun _ _ h=>h.but hb hg (by decide)⟩
 ent:=by obtain⟨l,h1,h2⟩:=h.ent; exact⟨l,hb.own h1 hg (by decide),h2.mono fun _ _ h=>h.but hb hg (by decide)⟩
 own:=by obtain⟨l,h1,h2⟩:=h.own; exact⟨l,hb.own h1 hg (by decide),h2.mono fun _ _ h=>h.but hb hg (by decide)⟩
structure Cs (w0 w wr:U) (b:Br) (kd kn kw:Nat) (nv av sv ev ov:Sl):Prop where
 vP:Below w.heap.size w wr
 bx:dJ wr w.heap.size #[Z ah b.me,dY nv,dY av,dY sv,dY ev,dY ov] 28
 bz:dJ wr (w.heap.size+1) #[Z ah 0,D J 0 0,D J 0 0,D J 0 0,D J 0 0,D J 0 0] 28
 near:yH wr w.heap.size (dY nv) b.near
 seen:sD wr w.heap.size (dY sv) b.seen
 dP:∃ l,lY wr w.heap.size (dY av) l/\eY (Ma w0 w.heap.size wr) l b.dP/\eY (Ma (vw w0) w.heap.size wr) (l.take kd) (b.dP.take kd)
 ent:∃ l,kY wr w.heap.size (dY ev) l/\eY (Mc w0 w.heap.size wr) l b.ent/\eY (Mc (vw w0) w.heap.size wr) (l.take kn) (b.ent.take kn)
 own:∃ l,qH wr w.heap.size (dY ov) l/\eY (Oy w0 w.heap.size wr) l b.own/\eY (Oy (vw w0) w.heap.size wr) (l.take kw) (b.own.take kw)
theorem Cs.Uq {w0 w wr x:U} {b:Br} {kd kn kw kd':Nat} {nv sv ev ov:Sl} {g n cap:Nat} {l l':List jv} (h:Cs w0 w wr b kd kn kw nv (L ⟨g,0,J⟩,n,cap) sv ev ov) (ho:lY wr w.heap.size (D (L ⟨g,0,J⟩) n cap) l) (hx:lY x w.heap.size (D (L ⟨g,0,J⟩) n cap) l') (hb:But g wr x) (hw:Below w.heap.size w x) (hA:eY (Ma w0 w.heap.size x) l' b.dP) (hV:eY (Ma (vw w0) w.heap.size x) (l'.take kd') (b.dP.take kd')):Cs w0 w x b kd' kn kw nv (L ⟨g,0,J⟩,n,cap) sv ev ov:=by
 obtain⟨cur,hg⟩:=jU ho;exact {
  vP:=hw
  bx:=hb.box h.bx (lT h.bx hg (by decide))
  bz:=hb.box h.bz (lT h.bz hg (by decide))
  near:=hb.own h.near hg (by decide)
  seen:=hb.own h.seen hg (by decide)
  dP:=⟨l',hx,hA,hV⟩
  ent:=by obtain⟨l,h1,h2,h3⟩:=h.ent; exact⟨l,hb.own h1 hg (by decide),h2.mono fun _ _ h=>h.but hb hg (by decide),h3.mono fun _ _ h=>h.but hb hg (by decide)⟩
  own:=by obtain⟨l,h1,h2,h3⟩:=h.own; exact⟨l,hb.own h1 hg (by decide),h2.mono fun _ _ h=>h.but hb hg (by decide),h3.mono fun _ _ h=>h.but hb hg (by decide)⟩ }
theorem Cs.akD {w0 w wr x:U} {b:Br} {kd kn kw kn':Nat} {nv av sv ov:Sl} {g n cap:Nat} {l l':List iH} (h:Cs w0 w wr b kd kn kw nv av sv (L ⟨g,0,J⟩,n,cap) ov) (ho:kY wr w.heap.size (D (L ⟨g,0,J⟩) n cap) l) (hx:kY x w.heap.size (D (L ⟨g,0,J⟩) n cap) l') (hb:But g wr x) (hw:Below w.heap.size w x) (hA:eY (Mc w0 w.heap.size x) l' b.ent) (hV:eY (Mc (vw w0) w.heap.size x) (l'.take kn') (b.ent.take kn')):Cs w0 w x b kd kn' kw nv av sv (L ⟨g,0,J⟩,n,cap) ov:=by
 obtain⟨cur,hg⟩:=jU ho;exact {
  vP:=hw
  bx:=hb.box h.bx (lT h.bx hg (by decide))
  bz:=hb.box h.bz (lT h.bz hg (by decide))
  near:=hb.own h.near hg (by decide)
  seen:=hb.own h.seen hg (by decide)
  dP:=by obtain⟨l,h1,h2,h3⟩:=h.dP; exact⟨l,hb.own h1 hg (by decide),h2.mono fun _ _ h=>h.but hb hg (by decide),h3.mono fun _ _ h=>h.but hb hg (by decide)⟩
  ent:=⟨l',hx,hA,hV⟩
  own:=by obtain⟨l,h1,h2,h3⟩:=h.own; exact⟨l,hb.own h1 hg (by decide),h2.mono fun _ _ h=>h.but hb hg (by decide),h3.mono fun _ _ h=>h.but hb hg (by decide)⟩ }
theorem Cs.setW {w0 w wr x:U} {b:Br} {kd kn kw kw':Nat} {nv av sv ev:Sl} {g n cap:Nat} {l l':List oq} (h:Cs w0 w wr b kd kn kw nv av sv ev (L ⟨g,0,J⟩,n,cap)) (ho:qH wr w.heap.size (D (L ⟨g,0,J⟩) n cap) l) (hx:qH x w.heap.size (D (L ⟨g,0,J⟩) n cap) l') (hb:But g wr x) (hw:Below w.heap.size w x) (hA:eY (Oy w0 w.heap.size x) l' b.own) (hV:eY (Oy (vw w0) w.heap.size x) (l'.take kw') (b.own.take kw')):Cs w0 w x b kd kn kw' nv av sv ev (L ⟨g,0,J⟩,n,cap):=by
 obtain⟨cur,hg⟩:=jU ho;exact {
  vP:=hw
  bx:=hb.box h.bx (lT h.bx hg (by decide))
  bz:=hb.box h.bz (lT h.bz hg (by decide))
  near:=hb.own h.near hg (by decide)
  seen:=hb.own h.seen hg (by decide)
  dP:=by obtain⟨l,h1,h2,h3⟩:=h.dP; exact⟨l,hb.own h1 hg (by decide),h2.mono fun _ _ h=>h.but hb hg (by decide),h3.mono fun _ _ h=>h.but hb hg (by decide)⟩
  ent:=by obtain⟨l,h1,h2,h3⟩:=h.ent; exact⟨l,hb.own h1 hg (by decide),h2.mono fun _ _ h=>h.but hb hg (by decide),h3.mono fun _ _ h=>h.but hb hg (by decide)⟩
  own:=⟨l',hx,hA,hV⟩ }
theorem Ur {W:U} {b:Nat} {c:jv} (h:dJ W b (cellsD c).toArray 74):wZ W (D (L ⟨b,0,J⟩) 1 1) [c] :=
 Or.inr ⟨⟨b,0,J⟩,1,rfl,by simp,by decide,uM h (by simp [ED])⟩
def Bq (B:Nat) (l:List jv) (k:Nat) (c:jv) (vv:ak) (W:U) (e:Ending) (w':U):Prop:=∃ v',e=aL v'/\lY w' B v' (l.take k++c::l.drop k)/\Below B W w'/\(∀ j,j<W.heap.size->L j≠vv.ownBlock->w'.heap[j]?=W.heap[j]?)
theorem Jq (B:Nat) (v:ak) (l:List jv) (c:jv) (b:Nat) (W:U) (ho:lY W B v l) (hx:dJ W b (cellsD c).toArray 74) (hl:l.length<=900) (hB:B<=W.heap.size) :
  bY O 144 #[v,Z ah (l.length:Nat),D (L ⟨b,0,J⟩) 1 1] W (Bq B l l.length c v W):=by
 obtain⟨v',w',hr,ho2,hg⟩:=gY okD B ho (Ur hx) (by omega) (by simp) hB 23;have hr:(bR #[23,23] 23 #[v,D (L ⟨b,0,J⟩) 1 1]).run O W=.ok v' w':=hr;have Q:=V (show Bq B l l.length c v W (aL v') w' from ⟨v',rfl,by rw [aB (aD _),List.drop_of_length_le (aD _)]; exact ho2,(aA B W).grown hg hB (fun j hj=>(ho.lt j hj).1),fun j hj hne=>hg.block j hj hne⟩);obtain⟨sx,hs,_⟩:=qE okD (Row.dH ho) l.length (aD _);have hs:∀ w,(aj 23 v (L (Z ah l.length)) J J).run O w=.ok sx w:=hs;obtain⟨ao,ac,rfl⟩:=(Row.dH ho).len;clear ho ho2 hg;generalize hn:l.length=n at *;clear hn;go_enter bF,bf;go_wp2_with (first | (at_builtin; refine wpList_append_run rfl _ _ 23 rfl rfl rfl hr ?_) | fail);go_ret;exact Q.out
theorem Us (w:U) (g b k la lb cb:Nat) (cur cs:Array ak) (hb:dJ w b cs 74) (hg:dJ w g cur 74) (hne:b≠g) (h0:0<cur.size):(callFunc 166 #[D (L ⟨b,0,J⟩) la 1,D (L ⟨g,k,J⟩) lb cb]).run O w=.ok (.value (.bool aF)) w:=by
 rw [run_callFunc_extern Tryz.func166 (by kernel_rfl) (by kernel_rfl) (by kernel_rfl) (e:=Extern.SlicesOverlaps.overlaps #[23,23] #[4]) (by kernel_rfl),
  Lib.run_overlaps_apart w 23 4 74 Tryz.underlying23 4 Tryz.sizeOf74 ⟨b,0,J⟩ ⟨g,k,J⟩ la 1 lb cb hne 74 74 cs.size cur.size hb.shape hg.shape (by omega) (hb.fr 0) (hb.fr _)]
 rfl
theorem DW (B g n cap:Nat) (cur:Array ak) (l:List jv) (k:Nat) (c:jv) (b:Nat) (W:U) (hn:n=l.length) (hBg:B<=g) (hg:dJ W g cur 74) (hcm:cap<=maxLen) (hsz:cur.size=cap * 4) (ht:cur.toList.take (n * 4)=flat ED l) (hx:dJ W b (cellsD c).toArray 74) (hne:b≠g) (hk:k<n) (hroom:n+1<=cap) (hl:n<=900) :
  bY O 144 #[D (L ⟨g,0,J⟩) n cap,Z ah k,D (L ⟨b,0,J⟩) 1 1] W (Bq B l k c (D (L ⟨g,0,J⟩) n cap) W):=by
 obtain⟨R1,R2,r1,r2,ow⟩:=uN (E:=ED) (l:=l) (k:=k) (cap:=cap) (cur:=cur) (cs:=(cellsD c).toArray) (c:=c) okD (by omega) (by omega) hsz (by rw [<- hn]; exact ht) g b hne;have hov:=fun lb cb=>Us W g b ((k+1) * 4) 1 lb cb cur (cellsD c).toArray hx hg hne (by omega);have s0:=iE (E:=ED) okD g k n cap (by omega) (by omega);have s1:=kP (E:=ED) okD ⟨g,0,J⟩ (n+1) n cap (by omega);have s2:=iE (E:=ED) okD g (k+1) (n+1) cap (by omega) (by omega);have s3:=iE (E:=ED) okD g k (n+1) cap (by omega) (by omega);have q1:=r1 W.drew 3 (n+1-(k+1)) (cap-(k+1)) (n+1-k) (cap-k) hg (by omega);have q2:=r2 (W.drew.setRow g R1) 3 (n+1-k) (cap-k) (dJ.set (show dJ W.drew g cur 74 from hg) R1) (dJ.other (show dJ W.drew b _ 74 from hx) hne R1) rfl (by omega);have Q:=V (show Bq B l k c (D (L ⟨g,0,J⟩) n cap) W (aL (D (L ⟨g,0,J⟩) (n+1) cap)) ((W.drew.setRow g R1).setRow g R2) from ⟨_,rfl,by rw [hn]; exact ow _ B hBg hcm (dJ.set (dJ.set (show dJ W.drew g cur 74 from hg) R1) R2),below_setRow (below_setRow (aA B W).drew hBg _) hBg _,fun j hj hne=>(setRow_other _ g j _ (fun e=>hne (by rw [e]; rfl))).trans (setRow_other _ g j _ (fun e=>hne (by rw [e]; rfl)))⟩);clear r1 r2 ow hg ht hx hsz hBg hcm;change ∀ w,(aj 23 (D (L ⟨g,0,J⟩) n cap) (L (Z ah k)) J J).run O w=.ok (D (L ⟨g,k * 4,J⟩) (n-k) (cap-k)) w at s0;change ∀ w,(aj 23 (D (L ⟨g,0,J⟩) n cap) J (L (Z ah ((n:Int)+1))) J).run O w=.ok (D (L ⟨g,0,J⟩) (n+1) cap) w at s1;change ∀ w,(aj 23 (D (L ⟨g,0,J⟩) (n+1) cap) (L (Z ah ((k:Int)+1))) J J).run O w=.ok (D (L ⟨g,(k+1) * 4,J⟩) (n+1-(k+1)) (cap-(k+1))) w at s2;change ∀ w,(aj 23 (D (L ⟨g,0,J⟩) (n+1) cap) (L (Z ah k)) J J).run O w=.ok (D (L ⟨g,k * 4,J⟩) (n+1-k) (cap-k)) w at s3;have e1:((k:Int) == (n:Int))=aF:=by rw [beq_eq_false_iff_ne]; omega
 have e2:decide ((cap:Int)<(n:Int)+1)=aF:=by simp; omega
 change (aK #[23,23] 3 #[D (L ⟨g,(k+1) * 4,J⟩) (n+1-(k+1)) (cap-(k+1)),D (L ⟨g,k * 4,J⟩) (n+1-k) (cap-k)]).run O W.drew=.ok (Z ah ((l.length-k:Nat):Int)) (W.drew.setRow g R1) at q1;change (aK #[23,23] 3 #[D (L ⟨g,k * 4,J⟩) (n+1-k) (cap-k),D (L ⟨b,0,J⟩) 1 1]).run O (W.drew.setRow g R1)=.ok (Z ah 1) ((W.drew.setRow g R1).setRow g R2) at q2;clear hn;go_enter bF,bf;go_wp2_with (first | (simp only [hov]) | fail);clear hov s0 s1 s2 s3;have hw1:IntKind.i64.wrap ((k:Int)+1)=(k:Int)+1:=by rw [bL]; omega
 have hb1:(0:Int)<=(k:Int)+1:=by omega
 have hb0:(k:Int)+1<=(n:Int)+1:=by omega
 have htn:((k:Int)+1).toNat=k+1:=by omega
 have hb2:¬ (cap=k+1):=by omega
 have hb3:(k:Int)<=(n:Int)+1:=by omega
 have hb4:¬ (cap=k):=by omega
 have h81:n+1-(k+1)=n-k:=by omega
 rw [h81] at q1;clear h81
 go_region_law (refine jr rfl (.tmp 73) (.tmp 76) 23 rfl (v:=D (L ⟨g,(k+1) * 4,J⟩) (n-k) (cap-(k+1))) (xv:=D (L ⟨g,k * 4,J⟩) (n+1-k) (cap-k)) (by simp [Act.eval,Act.put]) (by simp [Act.eval,Act.put]) q1 ?_)
 all_goals simp only [Exit.then]
 all_goals apply_assumption
 clear q1 hw1 hb1 hb0 htn hb2 hb3 hb4;have s3:=iE (E:=ED) okD g k (n+1) cap (by omega) (by omega);change ∀ w,(aj 23 (D (L ⟨g,0,J⟩) (n+1) cap) (L (Z ah k)) J J).run O w=.ok (D (L ⟨g,k * 4,J⟩) (n+1-k) (cap-k)) w at s3;go_wp2_with (first | (at_builtin; refine wpList_copy_run rfl _ _ 23 rfl rfl rfl q2 ?_) | fail);go_ret;exact Q.out
theorem Hr (B g n cap:Nat) (cur:Array ak) (l:List jv) (k:Nat) (c:jv) (b:Nat) (W:U) (hn:n=l.length) (hg:dJ W g cur 74) (hcm:cap<=maxLen) (hnc:n<=cap) (ht:cur.toList.take (n * 4)=flat ED l) (hx:dJ W b (cellsD c).toArray 74) (hk:k<n) (hroom:cap<n+1) (hl:n<=900) (hB:B<=W.heap.size) :
  bY O 144 #[D (L ⟨g,0,J⟩) n cap,Z ah k,D (L ⟨b,0,J⟩) 1 1] W (Bq B l k c (D (L ⟨g,0,J⟩) n cap) W):=by
 have hgw:=hg.lt;have hbw:=hx.lt;obtain⟨G,R1,R2,R3,hG1,hG2,r1,r2,r3,ow⟩:=wY (E:=ED) (l:=l) (k:=k) (cap:=cap) (cur:=cur) (cs:=(cellsD c).toArray) (c:=c) okD 3 aC (by omega) (by omega) (by omega) (by omega) (by rw [<- hn]; exact ht) W g b hg hbw;unfold maxLen at hcm hG2;have s0:=iE (E:=ED) okD g k n cap (by omega) (by omega);have s1:=kP (E:=ED) okD ⟨g,0,J⟩ k n cap (by omega);have s2:=iE (E:=ED) okD W.heap.size k (n+1) G (by omega) (by omega);have s3:=iE (E:=ED) okD W.heap.size (k+1) (n+1) G (by omega) (by omega);have a1:=r1 23;have n1:=dO W.drew R1 74;have bl:W.drew.heap.size=W.heap.size:=rfl;rw [bl] at n1;have g1:dJ (W.drew.alloc (aG R1 74)) g cur 74:=dJ.more (show dJ W.drew g cur 74 from hg) _;have x1:dJ (W.drew.alloc (aG R1 74)) b (cellsD c).toArray 74:=dJ.more (show dJ W.drew b _ 74 from hx) _;have q2:=r2 (W.drew.alloc (aG R1 74)) 3 (n+1-k) (G-k) n1 x1 rfl (by omega);have q3:=r3 ((W.drew.alloc (aG R1 74)).setRow W.heap.size R2).drew 3 (n+1-(k+1)) (G-(k+1)) (n-k) (cap-k) (dJ.set n1 R2) (dJ.other g1 (by omega) R2) (by omega);have Q:=V (show Bq B l k c (D (L ⟨g,0,J⟩) n cap) W (aL (D (L ⟨W.heap.size,0,J⟩) (n+1) G)) (((W.drew.alloc (aG R1 74)).setRow W.heap.size R2).drew.setRow W.heap.size R3) from ⟨_,rfl,by rw [hn]; exact ow _ B hB (dJ.set (dJ.set n1 R2) R3),below_setRow (below_setRow ((aA B W).drew.alloc hB _) hB _).drew hB _,fun j hj _=>(setRow_other _ W.heap.size j _ (by omega)).trans ((setRow_other _ W.heap.size j _ (by omega)).trans (Array.getElem?_push_lt hj |>.trans (Array.getElem?_eq_getElem hj).symm))⟩);have l1:l.length+1=n+1:=by rw [hn]
 rw [l1,<- hn] at a1;clear r1 r2 r3 ow hg ht hx g1 x1 n1 bl l1;change ∀ w,(aj 23 (D (L ⟨g,0,J⟩) n cap) (L (Z ah k)) J J).run O w=.ok (D (L ⟨g,k * 4,J⟩) (n-k) (cap-k)) w at s0;change ∀ w,(aj 23 (D (L ⟨g,0,J⟩) n cap) J (L (Z ah k)) J).run O w=.ok (D (L ⟨g,0,J⟩) k cap) w at s1;change ∀ w,(aj 23 (D (L ⟨W.heap.size,0,J⟩) (n+1) G) (L (Z ah k)) J J).run O w=.ok (D (L ⟨W.heap.size,k * 4,J⟩) (n+1-k) (G-k)) w at s2;change ∀ w,(aj 23 (D (L ⟨W.heap.size,0,J⟩) (n+1) G) (L (Z ah ((k:Int)+1))) J J).run O w=.ok (D (L ⟨W.heap.size,(k+1) * 4,J⟩) (n+1-(k+1)) (G-(k+1))) w at s3;change (bR #[23,3] 23 #[D (L ⟨g,0,J⟩) k cap,Z ah ((n:Int)+1-k)]).run O W=.ok (D (L ⟨W.heap.size,0,J⟩) (n+1) G) (W.drew.alloc (aG R1 74)) at a1;change (aK #[23,23] 3 #[D (L ⟨W.heap.size,k * 4,J⟩) (n+1-k) (G-k),D (L ⟨b,0,J⟩) 1 1]).run O (W.drew.alloc (aG R1 74))=.ok (Z ah 1) ((W.drew.alloc (aG R1 74)).setRow W.heap.size R2) at q2;change (aK #[23,23] 3 #[D (L ⟨W.heap.size,(k+1) * 4,J⟩) (n+1-(k+1)) (G-(k+1)),D (L ⟨g,k * 4,J⟩) (n-k) (cap-k)]).run O ((W.drew.alloc (aG R1 74)).setRow W.heap.size R2).drew=.ok (Z ah ((l.length-k:Nat):Int)) (((W.drew.alloc (aG R1 74)).setRow W.heap.size R2).drew.setRow W.heap.size R3) at q3;have e1:((k:Int) == (n:Int))=aF:=by rw [beq_eq_false_iff_ne]; omega
 have e2:decide ((cap:Int)<(n:Int)+1)=true:=by simp; omega
 have hGn:n+1<=G:=by omega
 clear hn;generalize W.heap.size=N at *;generalize W.drew.alloc (aG R1 74)=W1 at *;generalize W1.setRow N R2=W2 at *;go_enter bF,bf;go_wp2_with (first | (at_builtin; refine jy rfl _ _ 23 3 rfl rfl rfl a1 ?_) | (at_builtin; refine wpList_copy_run rfl _ _ 23 rfl rfl rfl q2 ?_) | fail);clear a1 q2 s0 s1 s2 s3;have hw1:IntKind.i64.wrap ((k:Int)+1)=(k:Int)+1:=by rw [bL]; omega
 have hb1:(0:Int)<=(k:Int)+1:=by omega
 have hb0:(k:Int)+1<=(n:Int)+1:=by omega
 have htn:((k:Int)+1).toNat=k+1:=by omega
 have hb2:¬ (G=k+1):=by omega
 have hb3:(k:Int)<=(n:Int):=by omega
 have hb4:¬ (cap=k):=by omega
 have h81:n+1-(k+1)=n-k:=by omega
 rw [h81] at q3;clear h81
 go_region_law (refine jr rfl (.tmp 50) (.tmp 53) 23 rfl (v:=D (L ⟨N,(k+1) * 4,J⟩) (n-k) (G-(k+1))) (xv:=D (L ⟨g,k * 4,J⟩) (n-k) (cap-k)) (by simp [Act.eval,Act.put]) (by simp [Act.eval,Act.put]) q3 ?_)
 all_goals simp only [Exit.then]
 all_goals apply_assumption
 go_wp2;go_ret;exact Q.out
theorem Jr (B:Nat) (v:ak) (l:List jv) (k:Nat) (c:jv) (b:Nat) (W:U) (ho:lY W B v l) (hx:dJ W b (cellsD c).toArray 74) (hne:v.ownBlock≠L b) (hk:k<=l.length) (hl:l.length<=900) (hB:B<=W.heap.size) :
  bY O 144 #[v,Z ah k,D (L ⟨b,0,J⟩) 1 1] W (Bq B l k c v W):=by
 rcases bV k l.length with h|h
 ·rcases gX ho with⟨_,h2⟩|⟨g,cap,cur,rfl,h1,h2,h3,h4,h5,h6⟩
  ·rw [h2] at h; simp at h
  ·rcases bV cap (l.length+1) with h7|h7
   ·exact Hr B g _ cap cur l k c b W rfl h2 h4 h3 h6 hx h h7 hl hB
   ·exact DW B g _ cap cur l k c b W rfl h1 h2 h4 h5 h6 hx (fun e=>hne (by simp [Value.ownBlock,e])) h h7 hl
 ·obtain rfl:k=l.length:=by omega
  exact Jq B v l c b W ho hx hl hB
end Go.Proofs.YtmklifheakemeaaGreat.Av
namespace Go.Proofs
open Go.Shelf
def Tryz.sortI_ren:Go.Shelf.Ren:=⟨fun | 189=>33 | 125=>90 | 257=>89 | 128=>138 | 129=>139 | 294=>129 | 295=>130 | 296=>131 | 297=>132 | 298=>133 | 299=>134 | 216=>135 | 300=>136 | 301=>137 | 328=>161 | 329=>162 | 330=>163 | 331=>164 | 332=>165 | 215=>111 | 343=>182 | n=>n,fun | 28=>22 | 3=>3 | 46=>139 | 0=>0 | 51=>183 | 53=>185 | 4=>4 | 183=>176 | 182=>175 | 131=>126 | 5=>5 | 9=>9 | 218=>209 | 222=>213 | 228=>229 | 229=>230 | n=>n,fun | n=>n⟩
theorem Tryz.sortI:Go.Proofs.Lays.n189 O Tryz.sortI_ren:={
 mixed:=by kernel_rfl
 f125:=Tryz.func90.trans (congrArg L (by kernel_rfl))
 f128:=Tryz.func138.trans (congrArg L (by kernel_rfl))
 f129:=Tryz.func139.trans (congrArg L (by kernel_rfl))
 f189:=Tryz.func33.trans (congrArg L (by kernel_rfl))
 f215:=Tryz.func111.trans (congrArg L (by kernel_rfl))
 f216:=Tryz.func135.trans (congrArg L (by kernel_rfl))
 f257:=Tryz.func89.trans (congrArg L (by kernel_rfl))
 f294:=Tryz.func129.trans (congrArg L (by kernel_rfl))
 f295:=Tryz.func130.trans (congrArg L (by kernel_rfl))
 f296:=Tryz.func131.trans (congrArg L (by kernel_rfl))
 f297:=Tryz.func132.trans (congrArg L (by kernel_rfl))
 f298:=Tryz.func133.trans (congrArg L (by kernel_rfl))
 f299:=Tryz.func134.trans (congrArg L (by kernel_rfl))
 f300:=Tryz.func136.trans (congrArg L (by kernel_rfl))
 f301:=Tryz.func137.trans (congrArg L (by kernel_rfl))
 f328:=Tryz.func161.trans (congrArg L (by kernel_rfl))
 f329:=Tryz.func162.trans (congrArg L (by kernel_rfl))
 f330:=Tryz.func163.trans (congrArg L (by kernel_rfl))
 f331:=Tryz.func164.trans (congrArg L (by kernel_rfl))
 f332:=Tryz.func165.trans (congrArg L (by kernel_rfl))
 f343:=Tryz.func182.trans (congrArg L (by kernel_rfl))
 t0:=aP
 a0:=bM
 z0:=bG
 v0:=aU
 t3:=aC
 a3:=bN
 z3:=bH
 v3:=aV
 t4:=aQ
 a4:=bQ
 z4:=bI
 v4:=aW
 t5:=Tryz.underlying5
 a5:=Tryz.isAgg5
 z5:=Tryz.sizeOf5
 v5:=Tryz.zeroValue5
 t9:=Tryz.underlying9
 a9:=Tryz.isAgg9
 z9:=Tryz.sizeOf9
 v9:=Tryz.zeroValue9
 t28:=aJ
 a28:=bJ
 z28:=bg
 v28:=aR
 t46:=bD
 a46:=bU
 z46:=bS
 v46:=bK
 t51:=Tryz.underlying183
 a51:=Tryz.isAgg183
 z51:=Tryz.sizeOf183
 v51:=Tryz.zeroValue183
 t53:=Tryz.underlying185
 a53:=Tryz.isAgg185
 z53:=Tryz.sizeOf185
 v53:=Tryz.zeroValue185
 t131:=Tryz.underlying126
 a131:=Tryz.isAgg126
 z131:=Tryz.sizeOf126
 v131:=Tryz.zeroValue126
 t182:=Tryz.underlying175
 a182:=Tryz.isAgg175
 z182:=Tryz.sizeOf175
 v182:=Tryz.zeroValue175
 t183:=Tryz.underlying176
 a183:=Tryz.isAgg176
 z183:=Tryz.sizeOf176
 v183:=Tryz.zeroValue176
 t218:=Tryz.underlying209
 a218:=Tryz.isAgg209
 z218:=Tryz.sizeOf209
 v218:=Tryz.zeroValue209
 t222:=Tryz.underlying213
 a222:=Tryz.isAgg213
 z222:=Tryz.sizeOf213
 v222:=Tryz.zeroValue213
 t228:=Tryz.underlying229
 a228:=Tryz.isAgg229
 z228:=Tryz.sizeOf229
 v228:=Tryz.zeroValue229
 t229:=Tryz.underlying230
 a229:=Tryz.isAgg230
 z229:=Tryz.sizeOf230
 v229:=Tryz.zeroValue230 }
def Tryz.cptI_ren:Go.Shelf.Ren:=⟨fun | 20=>34 | n=>n,fun | 0=>0 | 3=>3 | 4=>4 | 22=>22 | n=>n,fun | n=>n⟩
theorem Tryz.cptI:Go.Proofs.Lays2.n20 O Tryz.cptI_ren:={
 mixed:=by kernel_rfl
 i3:=by kernel_rfl
 f20:=Tryz.func34.trans (congrArg L (by kernel_rfl))
 t0:=aP
 a0:=bM
 z0:=bG
 v0:=aU
 t3:=aC
 a3:=bN
 z3:=bH
 v3:=aV
 t4:=aQ
 a4:=bQ
 z4:=bI
 v4:=aW
 t22:=aJ
 a22:=bJ
 z22:=bg
 v22:=aR }
def Tryz.bsI_ren:Go.Shelf.Ren:=⟨fun | 25=>154 | 31=>135 | 32=>175 | 37=>111 | n=>n,fun | 0=>0 | 3=>3 | 4=>4 | 22=>22 | 40=>139 | n=>n,fun | n=>n⟩
theorem Tryz.bsI:Go.Proofs.Lays2.n25 O Tryz.bsI_ren:={
 mixed:=by kernel_rfl
 f25:=Tryz.func154.trans (congrArg L (by kernel_rfl))
 f31:=Tryz.func135.trans (congrArg L (by kernel_rfl))
 f32:=Tryz.func175.trans (congrArg L (by kernel_rfl))
 f37:=Tryz.func111.trans (congrArg L (by kernel_rfl))
 t0:=aP
 a0:=bM
 z0:=bG
 v0:=aU
 t3:=aC
 a3:=bN
 z3:=bH
 v3:=aV
 t4:=aQ
 a4:=bQ
 z4:=bI
 v4:=aW
 t22:=aJ
 a22:=bJ
 z22:=bg
 v22:=aR
 t40:=bD
 a40:=bU
 z40:=bS
 v40:=bK }
end Go.Proofs
namespace Go.Proofs.YtmklifheakemeaaGreat.Bk
open Go.RowKit Go.Sort Rw YtmklifheakemeaaGreat.Nm
theorem aau {α:Type} {a b:List α} {k:Nat} {x y:α} (h:a.take k=b.take k) (hx:a[k]?=L x) (hy:b[k]?=L y) (e:x=y):a.take (k+1)=b.take (k+1):=by
 rw [aI,aI,hx,hy,h,e]
theorem ahI (av bv:ak) (a b:List Int) (w:U) (ha:qF w av a) (hb:qF w bv b) :
  bY O 49 #[av,bv] w fun e w'=>e=aL (.bool (decide (a=b)))/\Below w.heap.size w w':=by
 have HA:=V ha;have HB:=V hb;have ma:=ha.most;have mb:=hb.most;unfold maxLen at ma mb;obtain⟨ao,ac,rfl⟩:=ha.len;obtain⟨bo,bc,rfl⟩:=hb.len;clear ha hb;by_cases hl:a.length=b.length
 ·obtain⟨n,hn⟩:∃ n,n=a.length:=⟨_,rfl⟩;have NA:=V hn.symm;have NB:=V (hl.symm.trans hn.symm);rw [<- hl,<- hn] at HB;rw [<- hn] at HA ma;rw [<- hl,<- hn];clear hl hn mb;go_enter cB,bX;go_wp2
  go_loopw [5] (fun i wr=>∃ k:Nat,k<=n/\i=Z ah k/\a.take k=b.take k/\Below w.heap.size w wr) (fun i _=>n-(intOf i).toNat)
  case atStart=>exact⟨0,Nat.zero_le _,rfl,rfl,aA _ _⟩
  case round =>
   obtain⟨k,hk,rfl,htk,hbe⟩:=hrel;have TK:=V htk;have BE:=V hbe;clear hbe htk;by_cases hlt:k<n
   ·obtain⟨x,hx⟩:∃ x,a[k]?=L x:=⟨_,au (by rw [NA.out]; exact hlt)⟩;obtain⟨y,hy⟩:∃ y,b[k]?=L y:=⟨_,au (by rw [NB.out]; exact hlt)⟩;obtain⟨p,ix,_,px⟩:=elI HA.out rfl NA.out hx;obtain⟨q,iy,_,py⟩:=elI HB.out rfl NB.out hy;have p0:=cell_regrown (px _ BE.out);have q0:=cell_regrown (py _ BE.out);obtain⟨r,hr⟩:∃ r,((x:Int) == (y:Int))=r:=⟨_,rfl⟩;have HX:=V hx;have HY:=V hy;have HR:=V hr;clear px py hx hy;go_wp2;have hr2:((x:Int) != (y:Int))=!r:=by unfold bne; rw [hr]
    cases r
    all_goals
     simp only [Bool.not_true,Bool.not_false] at hr2;refine wp_region_quiet_below (by kernel_rfl) (by kernel_rfl) ?_
     repeat (go_big_quiet_step (fail))
     refine wpQuiet_nil ?_;intro _ hw';obtain⟨⟨dq,osq⟩,hw''⟩:=hw';subst hw'';have BN:=V (BE.out.trans ((below_regrown wr dq osq).mono BE.out.size));clear p0 q0 ix iy hr
    ·go_wp2;go_ret;refine⟨?_,BN.out⟩;have hne:a≠b:=fun e=>by
      have h1:=HX.out;rw [e,HY.out] at h1;cases h1;have h2:=HR.out;simp at h2
     rw [decide_eq_false hne]
     rfl
    ·have TN:=V (aau TK.out HX.out HY.out (by have h:=HR.out; rw [beq_iff_eq] at h; exact h));go_wp2
     go_roundw
     case rel=>exact⟨k+1,by omega,by go_num,TN.out,BN.out⟩
     case measure=>simp [intOf]; omega
   ·obtain rfl:k=n:=by omega
    have EQ:=V (show a=b by have h:=TK.out; rwa [aB (by rw [NA.out]; exact aD _),aB (by rw [NB.out]; exact aD _)] at h);go_wp2;go_ret;exact⟨by rw [decide_eq_true EQ.out]; rfl,BE.out⟩
 ·have hd:((a.length:Int) == (b.length:Int))=aF:=by simp; omega
  have hd2:(a.length == b.length)=aF:=by simp; exact hl
  have E:=V (decide_eq_false (show ¬ a=b from fun e=>hl (by rw [e])));have HD:=V hl;clear hl;go_enter cB,bX;go_wp2;go_ret;exact⟨by rw [E.out]; rfl,aA _ _⟩
end Go.Proofs.YtmklifheakemeaaGreat.Bk
namespace Go.Proofs.YtmklifheakemeaaGreat.Rg
open Go.RowKit Rw
end Go.Proofs.YtmklifheakemeaaGreat.Rg
