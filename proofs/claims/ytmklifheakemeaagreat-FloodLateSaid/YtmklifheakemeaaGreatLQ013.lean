/-
  copyAdvert of packag. Conditions as told.
-/
import Derived.Test.YtmklifheakemeaaGreatLQ012
import Derived.Test.YtmklifheakemeaaGreatLQ011
set_option maxRecDepth 100000
set_option maxHeartbeats 64000000
open _root_.Bool renaming false->aL,true->bI
open _root_.Go renaming World->ay,Value->aB,Addr->aK,TypeId->aS
open Go.IntKind renaming i64->aD
open Go.Lib renaming hid->ak
open Go.Operand renaming tmp->au
open Go.Proofs.Tryz renaming prog->aJ,func123->bg,func79->bq
open Go.Proofs.YtmklifheakemeaaGreat.Rg renaming dF->aG,eP->aO,eu->aU,dH->aV,fP->bf,fM->bG,jY->bH,get_put->bJ,fO->bK,gB->bL,gN->bN,jN->bR,gF->bS
open Go.RowKit.Below renaming refl->V,heap_setCell->aH
open Go.Value renaming pointer->J,slice->L,int->aC
open _root_.List renaming getElem?_toArray->Z,getElem?_cons_zero->ah,getElem?_cons_succ->aj,getElem?_eq_some_iff->aA,set_cons_succ->aI,getElem?_eq_getElem->aM,cons_append->aN,nil_append->aP,length_set->aQ,mem_iff_getElem?->aR,mem_of_getElem?->aT,getElem?_map->aW,mem_map->aX,all_eq_true->aY,length_map->aZ,length->bF
open _root_.Option renaming none->O,some->U
open _root_.Or renaming inr->aF,inl->bM
namespace Go.Proofs.YtmklifheakemeaaGreat
namespace Av
open Go.RowKit Go.Sort Rw YtmklifheakemeaaGreat.Nm Pr Bk
abbrev Lc (W:ay) (b:Nat) (a0 a1 a2 a3:aB):ay:=(((W.setCell ⟨b,0,O⟩ a0).setCell ⟨b,1,O⟩ a1).setCell ⟨b,2,O⟩ a2).setCell ⟨b,3,O⟩ a3
theorem vI {W:ay} {b:Nat} {t:aS} {z0 z1 z2 z3:aB} (h:dI W b #[z0,z1,z2,z3] t) (a0 a1 a2 a3:aB):dI (Lc W b a0 a1 a2 a3) b #[a0,a1,a2,a3] t:=by
 have h2:=eD (k:=3) (eD (k:=2) (eD (k:=1) (eD (k:=0) h a0) a1) a2) a3;simpa using h2
theorem qz {B:Nat} {W0 W:ay} {b:Nat} (h:Below B W0 W) (hb:B<=b) (a0 a1 a2 a3:aB):Below B W0 (Lc W b a0 a1 a2 a3) :=
 (((h.setCell (p:=⟨b,0,O⟩) hb a0).setCell (p:=⟨b,1,O⟩) hb a1).setCell (p:=⟨b,2,O⟩) hb a2).setCell (p:=⟨b,3,O⟩) hb a3
theorem AU {α:Type} {E:Ek α} {W:ay} {B:Nat} {v:aB} {l:List α} (h:Own E W B v l) (b:Nat) (hb:b<B) (a0 a1 a2 a3:aB):Own E (Lc W b a0 a1 a2 a3) B v l :=
 eU (eU (eU (eU h b 0 a0 hb) b 1 a1 hb) b 2 a2 hb) b 3 a3 hb
theorem vJ (x:jk) (p:List C5) (w:ay) (hp:eY w (dO x.2.2.1) p) (hl:p.length<=900) :
  Calls aJ 79 #[lQ x] w fun e w'=>(∃ v':Sl,e=.returned (lQ (x.1,x.2.1,v',x.2.2.2))/\gG w' w.heap.size (dO v') p)/\Below w.heap.size w w':=by
 obtain⟨a,b,⟨s1,s2,s3⟩,q⟩:=x;obtain⟨h0,X,Y⟩:=gT w #[aC aD a,aC aD b,L s1 s2 s3,aC aD q] #[aC aD 0,aC aD 0,L O 0 0,aC aD 0] 74 74;have C:=ak (kE (s1,s2,s3) p _ (hp.on h0) hl);have B:=ak h0;have x2:=X.cell 2;simp only [Z,ah,aj] at x2;have X:=ak X;have Y:=ak Y;clear h0 hp hl;go_enter bq,Tryz.ntmps79;go_wp2_with fail;generalize (w.alloc (.cells #[aC aD a,aC aD b,L s1 s2 s3,aC aD q] 74)).alloc (.cells #[aC aD 0,aC aD 0,L O 0 0,aC aD 0] 74)=W at *;refine C.out.mono ?_;rintro e w1 ⟨⟨⟨u1,u2,u3⟩,rfl,ho⟩,hb⟩;have X1:=X.out.on hb;have Y1:=Y.out.on hb;have hs:w.heap.size<W.heap.size:=X.out.lt;have O1:=ak (eU ho w.heap.size 2 (L u1 u2 u3) hs);have XB:=ak (show dI _ _ #[aC aD a,aC aD b,L u1 u2 u3,aC aD q] _ from by simpa using eD (k:=2) X1 (L u1 u2 u3));have YB:=ak (show dI _ _ _ _ from (aH w1 ⟨w.heap.size,2,O⟩ (L u1 u2 u3) _ (show w.heap.size+1≠w.heap.size by omega)).trans Y1);have B1:=ak ((B.out.trans (hb.mono B.out.size)).setCell (p:=⟨w.heap.size,2,O⟩) (Nat.le_refl _) (L u1 u2 u3));have y2:=X1.cell 2;have f2:=X1.fr 2;have z2:=X1.lt;simp only [Z,ah,aj] at y2;clear X1 Y1 ho hb x2 C;go_upto_region 2 with fail;clear y2 f2 z2;generalize w1.setCell ⟨w.heap.size,2,O⟩ (L u1 u2 u3)=w2 at *;obtain⟨x0,x1,x2,x3⟩:=XB.out.zZ;obtain⟨r0,r1,r2,r3⟩:=YB.out.zZ;obtain⟨t0,t1,t2,t3⟩:=YB.out.fs4;have zz:=YB.out.lt;have hs2:w.heap.size+1<W.heap.size:=Y.out.lt;have FB:=ak (vI YB.out (aC aD a) (aC aD b) (L u1 u2 u3) (aC aD q));have BL:=ak (qz (b:=w.heap.size+1) B1.out (by omega) (aC aD a) (aC aD b) (L u1 u2 u3) (aC aD q));have FO:=ak (AU O1.out (w.heap.size+1) hs2 (aC aD a) (aC aD b) (L u1 u2 u3) (aC aD q));have HS:=ak hs;clear hs hs2;go_wp2_with fail;obtain⟨v0,v1,v2,v3⟩:=FB.out.zZ;refine bodyPost_ret (v:=.agg #[aC aD a,aC aD b,L u1 u2 u3,aC aD q]) (by simp [results,Tryz.results79,go_sem,v0,v1,v2,v3]) rfl ?_;exact⟨⟨(u1,u2,u3),rfl,dK FO.out (Nat.le_of_lt HS.out)⟩,BL.out⟩
theorem jr {α:Type} {E:Ek α} (K:E.Ok) {W:ay} {B g n cap k:Nat} {l:List α} {x:α} (h:Own E W B (L (U ⟨g,0,O⟩) n cap) l) (hk:l[k]?=U x):∀ w,Below W.heap.size W w->∀ j u,(E.cells x)[j]?=U u->w.cell? ((⟨g,k * E.n,O⟩:aK).add j)=U u:=by
 obtain⟨ao,c,hv⟩:=(Row.dG h).len;obtain⟨rfl,rfl,rfl⟩:U ⟨g,0,O⟩=ao/\n=l.length/\cap=c:=by simpa using hv
 obtain⟨p,h1,_,h2⟩:=nE K (Row.dG h) rfl rfl hk;have h3:=jV K g k l.length cap (aA.1 hk).1 W;rw [h1] at h3;injection h3 with h4 _
 injection h4 with h5
 injection h5 with h6
 subst h6;exact h2
theorem jm {α:Type} {E:Ek α} {W:ay} {B g n cap:Nat} {l:List α} (h:Own E W B (L (U ⟨g,0,O⟩) n cap) l):∃ cur,dI W g cur E.t:=by
 rcases gq h with⟨h1,_⟩|⟨g',c',cur,h1,_,h2,_⟩
 ·cases h1
 ·obtain⟨rfl,_⟩:g=g'/\True:=by simp at h1; exact⟨h1.1,trivial⟩
  exact⟨cur,h2⟩
theorem jH {W:ay} {b g:Nat} {c d:Array aB} {s t:aS} (hb:dI W b c s) (hg:dI W g d t) (hne:(s == t)=aL):b≠g:=by
 rintro rfl;unfold dI at hb hg;rw [hb] at hg;injection hg with h
 injection h with _ h2
 rw [h2] at hne;simp at hne
def But (g:Nat) (W x:ay):Prop:=(∀ k,k<W.heap.size->k≠g->x.heap[k]?=W.heap[k]?)/\W.heap.size<=x.heap.size
theorem But.box {g b:Nat} {W x:ay} {cs:Array aB} {t:aS} (h:But g W x) (hb:dI W b cs t) (hne:b≠g):dI x b cs t:=(h.1 b hb.lt hne).trans hb
theorem But.own {α:Type} {E:Ek α} {g:Nat} {W x:ay} {B:Nat} {v:aB} {l:List α} {d:Array aB} {t:aS} (h:But g W x) (ho:Own E W B v l) (hg:dI W g d t) (hne:(E.t == t)=aL):Own E x B v l:=by
 refine⟨ho.1,?_⟩;rcases ho.2 with h2|⟨g',cap,cur,h1,h2,h3,h4⟩
 ·exact bM h2
 ·exact aF ⟨g',cap,cur,h1,h2,by rw [h.1 g' (lt_of_heap h3) (jH (show dI W g' cur E.t from h3) hg hne)]; exact h3,h4⟩
theorem rZ:∀ (l:List jk) (k:Nat) (x:jk),k<l.length->flat ED (l.set k x)=((((flat ED l).set (k * 4) (aC aD x.1)).set (k * 4+1) (aC aD x.2.1)).set (k * 4+2) (dO x.2.2.1)).set (k * 4+3) (aC aD x.2.2.2)
 | [],k,x,h=>by simp at h
 | y::r,0,x,_=>rfl
 | y::r,k+1,x,h=>by
  have ih:=rZ r k x (by simpa using h);rw [show (k+1) * 4+3=(k * 4+3)+1+1+1+1 by omega,show (k+1) * 4+2=(k * 4+2)+1+1+1+1 by omega,show (k+1) * 4+1=(k * 4+1)+1+1+1+1 by omega,show (k+1) * 4=(k * 4)+1+1+1+1 by omega];simp only [aI,flat,ED,cellsD,aN,aP] at ih ⊢;rw [ih]
theorem yE:∀ (l:List gW) (k:Nat) (x:gW) (s:Sl),l[k]?=U x->flat EN (l.set k (x.1,x.2.1,x.2.2.1,x.2.2.2.1,s,x.2.2.2.2.2.1,x.2.2.2.2.2.2))=(flat EN l).set (k * 7+4) (dO s)
 | [],k,x,s,h=>by simp at h
 | y::r,0,x,s,h=>by
  obtain rfl:y=x:=by simpa using h
  rfl
 | y::r,k+1,x,s,h=>by
  have ih:=yE r k x s (by simpa using h);rw [show (k+1) * 7+4=(k * 7+4)+1+1+1+1+1+1+1 by omega];simp only [aI,flat,EN,gX,aN,aP] at ih ⊢;rw [ih]
theorem yF:∀ (l:List nS) (k:Nat) (x:nS) (s:Sl),l[k]?=U x->flat EW (l.set k (x.1,x.2.1,s))=(flat EW l).set (k * 3+2) (dO s)
 | [],k,x,s,h=>by simp at h
 | y::r,0,x,s,h=>by
  obtain rfl:y=x:=by simpa using h
  rfl
 | y::r,k+1,x,s,h=>by
  have ih:=yF r k x s (by simpa using h);rw [show (k+1) * 3+2=(k * 3+2)+1+1+1 by omega];simp only [aI,flat,EW,qp,aN,aP] at ih ⊢;rw [ih]
def Em {α:Type} (E:Ek α) (B g:Nat) (v:aB) (l:List α) (w w':ay):Prop:=Own E w' B v l/\But g w w'/\(∀ B' W,B'<=g->Below B' W w->Below B' W w')
theorem dM (w:ay) (g j:Nat) (u:aB):But g w (w.setCell ⟨g,j,O⟩ u):=⟨fun k _ hk=>aH w ⟨g,j,O⟩ u k hk,by simp⟩
theorem But.trans {g:Nat} {a b c:ay} (h1:But g a b) (h2:But g b c):But g a c:=⟨fun k hk hne=>(h2.1 k (Nat.lt_of_lt_of_le hk h1.2) hne).trans (h1.1 k hk hne),Nat.le_trans h1.2 h2.2⟩
theorem But.of_below {g:Nat} {a b:ay} (h:Below a.heap.size a b):But g a b:=⟨fun k hk _=>h.block k hk,h.size⟩
theorem U9 {w:ay} {B g n cap k:Nat} {l:List jk} (x:jk) (h:qo w B (L (U ⟨g,0,O⟩) n cap) l) (hk:k<l.length) :
  ∃ w',(Instr.storeAt 74 (J (U ⟨g,k * 4,O⟩)) (lQ x)).run aJ w=.ok () w'/\Em ED B g (L (U ⟨g,0,O⟩) n cap) (l.set k x) w w':=by
 obtain⟨y,hy⟩:∃ y,l[k]?=U y:=⟨_,aM hk⟩;have c:=jr okD h hy w (V _ _);have c0:=c 0 _ rfl;have c1:=c 1 _ rfl;have c2:=c 2 _ rfl;have c3:=c 3 _ rfl;simp [Addr.add,ED] at c0 c1 c2 c3;obtain⟨cur,hb⟩:=jm h;have f:=fun j=>hb.fr j;obtain⟨ao,c',hv⟩:=(Row.dG h).len;obtain⟨_,rfl,_⟩:U ⟨g,0,O⟩=ao/\n=l.length/\cap=c':=by simpa using hv
 have h:w.ownsRow B 74 4 (L (U ⟨g,0,O⟩) l.length cap) l.length (flat ED l):=h;have s1:=(h.stored (k * 4) (aC aD x.1)).1;have s2:=(s1.stored (k * 4+1) (aC aD x.2.1)).1;have s3:=(s2.stored (k * 4+2) (dO x.2.2.1)).1;have s4:=(s3.stored (k * 4+3) (aC aD x.2.2.2)).1;refine⟨(((w.setCell ⟨g,k * 4,O⟩ (aC aD x.1)).setCell ⟨g,k * 4+1,O⟩ (aC aD x.2.1)).setCell ⟨g,k * 4+2,O⟩ (dO x.2.2.1)).setCell ⟨g,k * 4+3,O⟩ (aC aD x.2.2.2),?_,?_,((dM _ g _ _).trans (dM _ g _ _)).trans ((dM _ g _ _).trans (dM _ g _ _)),fun B' W hB hb=>(((hb.setCell (p:=⟨g,_,O⟩) hB _).setCell (p:=⟨g,_,O⟩) hB _).setCell (p:=⟨g,_,O⟩) hB _).setCell (p:=⟨g,_,O⟩) hB _⟩
 ·simp [go_sem,c0,c1,c2,c3,f]
 ·have e:=rZ l k x hk;show World.ownsRow _ B 74 4 _ (l.set k x).length (flat ED (l.set k x));rw [e,aQ];exact s4
theorem Vb {w:ay} {B g n cap k:Nat} {l:List gW} {x:gW} (s1:Option aK) (s2 s3:Nat) (h:jZ w B (L (U ⟨g,0,O⟩) n cap) l) (hk:l[k]?=U x) :
  ∃ w',(Instr.storeAt 32 (J (U ⟨g,k * 7+4,O⟩)) (L s1 s2 s3)).run aJ w=.ok () w'/\Em EN B g (L (U ⟨g,0,O⟩) n cap) (l.set k (x.1,x.2.1,x.2.2.1,x.2.2.2.1,(s1,s2,s3),x.2.2.2.2.2.1,x.2.2.2.2.2.2)) w w':=by
 have c:=jr nH h hk w (V _ _);have c4:=c 4 _ rfl;simp [Addr.add,EN] at c4;obtain⟨cur,hb⟩:=jm h;have f:=hb.fr (k * 7+4);obtain⟨ao,c',hv⟩:=(Row.dG h).len;obtain⟨_,rfl,_⟩:U ⟨g,0,O⟩=ao/\n=l.length/\cap=c':=by simpa using hv
 have h:w.ownsRow B 66 7 (L (U ⟨g,0,O⟩) l.length cap) l.length (flat EN l):=h;have t1:=(h.stored (k * 7+4) (L s1 s2 s3)).1;refine⟨w.setCell ⟨g,k * 7+4,O⟩ (L s1 s2 s3),by simp [go_sem,c4,f],?_,dM _ g _ _,fun B' W hB hb=>hb.setCell (p:=⟨g,_,O⟩) hB _⟩;have e:=yE l k x (s1,s2,s3) hk;show World.ownsRow _ B 66 7 _ (bF _) (flat EN _);rw [e,aQ];exact t1
theorem Vd {w:ay} {B g n cap k:Nat} {l:List nS} {x:nS} (s1:Option aK) (s2 s3:Nat) (h:nI w B (L (U ⟨g,0,O⟩) n cap) l) (hk:l[k]?=U x) :
  ∃ w',(Instr.storeAt 32 (J (U ⟨g,k * 3+2,O⟩)) (L s1 s2 s3)).run aJ w=.ok () w'/\Em EW B g (L (U ⟨g,0,O⟩) n cap) (l.set k (x.1,x.2.1,(s1,s2,s3))) w w':=by
 have c:=jr okW h hk w (V _ _);have c2:=c 2 _ rfl;simp [Addr.add,EW] at c2;obtain⟨cur,hb⟩:=jm h;have f:=hb.fr (k * 3+2);obtain⟨ao,c',hv⟩:=(Row.dG h).len;obtain⟨_,rfl,_⟩:U ⟨g,0,O⟩=ao/\n=l.length/\cap=c':=by simpa using hv
 have h:w.ownsRow B 34 3 (L (U ⟨g,0,O⟩) l.length cap) l.length (flat EW l):=h;have t1:=(h.stored (k * 3+2) (L s1 s2 s3)).1;refine⟨w.setCell ⟨g,k * 3+2,O⟩ (L s1 s2 s3),by simp [go_sem,c2,f],?_,dM _ g _ _,fun B' W hB hb=>hb.setCell (p:=⟨g,_,O⟩) hB _⟩;have e:=yF l k x (s1,s2,s3) hk;show World.ownsRow _ B 34 3 _ (bF _) (flat EW _);rw [e,aQ];exact t1
theorem eZ.set {α β:Type} {R:α->β->Prop}:∀ {l:List α} {m:List β} (k:Nat) (a:α) (b:β),eZ R l m->m[k]?=U b->R a b->eZ R (l.set k a) m
 | _,_,_,_,_,.nil,h,_=>by simp at h
 | _,_,0,a,b,.cons x t,h,hr=>by
  simp at h;subst h;exact .cons hr t
 | _,_,k+1,a,b,.cons x t,h,hr=>.cons x (eZ.set k a b t (by simpa using h) hr)
def PM (w0:ay) (B:Nat) (wr:ay) (v:aB) (p:List C5):Prop:=eY w0 v p\/gG wr B v p
def DJ (w0:ay) (B:Nat) (wr:ay) (x:jk) (a:Ad):Prop:=(x.1,x.2.1)=a.id/\x.2.2.2=a.par/\PM w0 B wr (dO x.2.2.1) a.p
def vK (w0:ay) (B:Nat) (wr:ay) (x:gW) (a:En):Prop:=(x.1,x.2.1)=a.tree/\(x.2.2.1,x.2.2.2.1)=a.sub/\x.2.2.2.2.2.1=a.from_/\x.2.2.2.2.2.2=a.up/\PM w0 B wr (dO x.2.2.2.2.1) a.p
def Gj (w0:ay) (B:Nat) (wr:ay) (x:nS) (a:Ow):Prop:=(x.1,x.2.1)=a.id/\PM w0 B wr (dO x.2.2) a.p
theorem PM.grow {w0 wr x:ay} {B:Nat} {v:aB} {p:List C5} (h:PM w0 B wr v p) (hb:Below wr.heap.size wr x):PM w0 B x v p:=h.imp id fun h=>Bk.dJ h hb
theorem PM.but {w0 wr x:ay} {B:Nat} {v:aB} {p:List C5} {g:Nat} {d:Array aB} {t:aS} (h:PM w0 B wr v p) (hb:But g wr x) (hg:dI wr g d t) (hne:(70 == t)=aL):PM w0 B x v p:=h.imp id fun h=>hb.own h hg hne
theorem PM.row {w0 wr:ay} {B:Nat} {v:aB} {p:List C5} (h:PM w0 B wr v p) (hb:Below w0.heap.size w0 wr):eY wr v p:=h.elim (fun h=>h.on hb) Row.dG
theorem DJ.grow {w0 wr x:ay} {B:Nat} {y:jk} {a:Ad} (h:DJ w0 B wr y a) (hb:Below wr.heap.size wr x):DJ w0 B x y a:=⟨h.1,h.2.1,h.2.2.grow hb⟩
theorem vK.grow {w0 wr x:ay} {B:Nat} {y:gW} {a:En} (h:vK w0 B wr y a) (hb:Below wr.heap.size wr x):vK w0 B x y a:=⟨h.1,h.2.1,h.2.2.1,h.2.2.2.1,h.2.2.2.2.grow hb⟩
theorem Gj.grow {w0 wr x:ay} {B:Nat} {y:nS} {a:Ow} (h:Gj w0 B wr y a) (hb:Below wr.heap.size wr x):Gj w0 B x y a:=⟨h.1,h.2.grow hb⟩
theorem DJ.but {w0 wr x:ay} {B:Nat} {y:jk} {a:Ad} {g:Nat} {d:Array aB} {t:aS} (h:DJ w0 B wr y a) (hb:But g wr x) (hg:dI wr g d t) (hne:(70 == t)=aL):DJ w0 B x y a:=⟨h.1,h.2.1,h.2.2.but hb hg hne⟩
theorem vK.but {w0 wr x:ay} {B:Nat} {y:gW} {a:En} {g:Nat} {d:Array aB} {t:aS} (h:vK w0 B wr y a) (hb:But g wr x) (hg:dI wr g d t) (hne:(70 == t)=aL):vK w0 B x y a:=⟨h.1,h.2.1,h.2.2.1,h.2.2.2.1,h.2.2.2.2.but hb hg hne⟩
theorem Gj.but {w0 wr x:ay} {B:Nat} {y:nS} {a:Ow} {g:Nat} {d:Array aB} {t:aS} (h:Gj w0 B wr y a) (hb:But g wr x) (hg:dI wr g d t) (hne:(70 == t)=aL):Gj w0 B x y a:=⟨h.1,h.2.but hb hg hne⟩
def vw (w:ay):ay:={ w with heap:=#[] }
theorem QA (w:ay) (a:aK):(vw w).cell? a=O:=by
 unfold World.cell? vw;simp
theorem Eo {α:Type} {E:Ek α} {w x:ay} {v:aB} {l:List α} (h:Row E (vw w) v l):Row E x v l:=by
 rcases h with h|⟨a,cap,h1,h2,h3,h4⟩
 ·exact bM h
 ·refine aF ⟨a,cap,h1,h2,h3,fun j u hj=>?_⟩;have h5:=h4 j u hj;rw [QA] at h5;cases h5
theorem qg {α:Type}:∀ (l:List α) (k:Nat) (x:α),k<l.length->(l.set k x).take (k+1)=l.take k++[x]
 | [],k,x,h=>absurd h (Nat.not_lt_zero k)
 | _::_,0,_,_=>rfl
 | a::l,k+1,x,h=>by
  rw [aI,List.take_succ_cons,qg l k x (by simpa using h)]
  rfl
theorem r9 {α β:Type} {R:α->β->Prop} {l:List α} {m:List β} {k:Nat} {x:α} {y:β} (h:eZ R (l.take k) (m.take k)) (hk:k<l.length) (hy:m[k]?=U y) (hx:R x y):eZ R ((l.set k x).take (k+1)) (m.take (k+1)):=by
 rw [qg l k x hk,List.take_add_one,hy];exact h.append (.cons hx .nil)
structure Cp (w0:ay) (B:Nat) (wr:ay) (b:Br) (nv av sv ev ov:Sl):Prop where
 near:uX wr B (dO nv) b.near
 seen:Am wr B (dO sv) b.seen
 dV:∃ l,qo wr B (dO av) l/\eZ (DJ w0 B wr) l b.dV
 ent:∃ l,jZ wr B (dO ev) l/\eZ (vK w0 B wr) l b.ent
 own:∃ l,nI wr B (dO ov) l/\eZ (Gj w0 B wr) l b.own
theorem Cp.grow {w0 wr x:ay} {B:Nat} {b:Br} {nv av sv ev ov:Sl} (h:Cp w0 B wr b nv av sv ev ov) (hb:Below wr.heap.size wr x):Cp w0 B x b nv av sv ev ov where
 near:=Bk.dJ h.near hb
 seen:=Bk.dJ h.seen hb
 dV:=by obtain⟨l,h1,h2⟩:=h.dV; exact⟨l,Bk.dJ h1 hb,h2.mono fun _ _ h=>h.grow hb⟩
 ent:=by obtain⟨l,h1,h2⟩:=h.ent; exact⟨l,Bk.dJ h1 hb,h2.mono fun _ _ h=>h.grow hb⟩
 own:=by obtain⟨l,h1,h2⟩:=h.own; exact⟨l,Bk.dJ h1 hb,h2.mono fun _ _ h=>h.grow hb⟩
theorem Cp.sj {w0 wr x:ay} {B:Nat} {b:Br} {nv av sv ev ov:Sl} (h:Cp w0 B wr b nv av sv ev ov) {g:Nat} {d:Array aB} {t:aS} (hb:But g wr x) (hg:dI wr g d t) (h1:(3 == t)=aL) (h2:(31 == t)=aL) (h3:(74 == t)=aL) (h4:(66 == t)=aL) (h5:(34 == t)=aL) (h6:(70 == t)=aL):Cp w0 B x b nv av sv ev ov where
 near:=hb.own h.near hg h1
 seen:=hb.own h.seen hg h2
 dV:=by obtain⟨l,g1,g2⟩:=h.dV; exact⟨l,hb.own g1 hg h3,g2.mono fun _ _ h=>h.but hb hg h6⟩
 ent:=by obtain⟨l,g1,g2⟩:=h.ent; exact⟨l,hb.own g1 hg h4,g2.mono fun _ _ h=>h.but hb hg h6⟩
 own:=by obtain⟨l,g1,g2⟩:=h.own; exact⟨l,hb.own g1 hg h5,g2.mono fun _ _ h=>h.but hb hg h6⟩
theorem Cp.but {w0 wr x:ay} {B:Nat} {b:Br} {nv av sv ev ov:Sl} (h:Cp w0 B wr b nv av sv ev ov) {g:Nat} {d:Array aB} (hb:But g wr x) (hg:dI wr g d 28):Cp w0 B x b nv av sv ev ov where
 near:=hb.own h.near hg (by decide)
 seen:=hb.own h.seen hg (by decide)
 dV:=by obtain⟨l,h1,h2⟩:=h.dV; exact⟨l,hb.own h1 hg (by decide),h2.mono fun _ _ h=>h.but hb hg (by decide)⟩
 ent:=by obtain⟨l,h1,h2⟩:=h.ent; exact⟨l,hb.own h1 hg (by decide),h2.mono fun _ _ h=>h.but hb hg (by decide)⟩
 own:=by obtain⟨l,h1,h2⟩:=h.own; exact⟨l,hb.own h1 hg (by decide),h2.mono fun _ _ h=>h.but hb hg (by decide)⟩
structure Cs (w0 w wr:ay) (b:Br) (kd kn kw:Nat) (nv av sv ev ov:Sl):Prop where
 qb:Below w.heap.size w wr
 bx:dI wr w.heap.size #[aC aD b.me,dO nv,dO av,dO sv,dO ev,dO ov] 28
 bz:dI wr (w.heap.size+1) #[aC aD 0,L O 0 0,L O 0 0,L O 0 0,L O 0 0,L O 0 0] 28
 near:uX wr w.heap.size (dO nv) b.near
 seen:Am wr w.heap.size (dO sv) b.seen
 dV:∃ l,qo wr w.heap.size (dO av) l/\eZ (DJ w0 w.heap.size wr) l b.dV/\eZ (DJ (vw w0) w.heap.size wr) (l.take kd) (b.dV.take kd)
 ent:∃ l,jZ wr w.heap.size (dO ev) l/\eZ (vK w0 w.heap.size wr) l b.ent/\eZ (vK (vw w0) w.heap.size wr) (l.take kn) (b.ent.take kn)
 own:∃ l,nI wr w.heap.size (dO ov) l/\eZ (Gj w0 w.heap.size wr) l b.own/\eZ (Gj (vw w0) w.heap.size wr) (l.take kw) (b.own.take kw)
theorem Cs.Lc {w0 w wr x:ay} {b:Br} {kd kn kw kd':Nat} {nv sv ev ov:Sl} {g n cap:Nat} {l l':List jk} (h:Cs w0 w wr b kd kn kw nv (U ⟨g,0,O⟩,n,cap) sv ev ov) (ho:qo wr w.heap.size (L (U ⟨g,0,O⟩) n cap) l) (hx:qo x w.heap.size (L (U ⟨g,0,O⟩) n cap) l') (hb:But g wr x) (hw:Below w.heap.size w x) (hA:eZ (DJ w0 w.heap.size x) l' b.dV) (hV:eZ (DJ (vw w0) w.heap.size x) (l'.take kd') (b.dV.take kd')):Cs w0 w x b kd' kn kw nv (U ⟨g,0,O⟩,n,cap) sv ev ov:=by
 obtain⟨cur,hg⟩:=jm ho;exact {
  qb:=hw
  bx:=hb.box h.bx (jH h.bx hg (by decide))
  bz:=hb.box h.bz (jH h.bz hg (by decide))
  near:=hb.own h.near hg (by decide)
  seen:=hb.own h.seen hg (by decide)
  dV:=⟨l',hx,hA,hV⟩
  ent:=by obtain⟨l,h1,h2,h3⟩:=h.ent; exact⟨l,hb.own h1 hg (by decide),h2.mono fun _ _ h=>h.but hb hg (by decide),h3.mono fun _ _ h=>h.but hb hg (by decide)⟩
  own:=by obtain⟨l,h1,h2,h3⟩:=h.own; exact⟨l,hb.own h1 hg (by decide),h2.mono fun _ _ h=>h.but hb hg (by decide),h3.mono fun _ _ h=>h.but hb hg (by decide)⟩ }
theorem Cs.aaP {w0 w wr x:ay} {b:Br} {kd kn kw kn':Nat} {nv av sv ov:Sl} {g n cap:Nat} {l l':List gW} (h:Cs w0 w wr b kd kn kw nv av sv (U ⟨g,0,O⟩,n,cap) ov) (ho:jZ wr w.heap.size (L (U ⟨g,0,O⟩) n cap) l) (hx:jZ x w.heap.size (L (U ⟨g,0,O⟩) n cap) l') (hb:But g wr x) (hw:Below w.heap.size w x) (hA:eZ (vK w0 w.heap.size x) l' b.ent) (hV:eZ (vK (vw w0) w.heap.size x) (l'.take kn') (b.ent.take kn')):Cs w0 w x b kd kn' kw nv av sv (U ⟨g,0,O⟩,n,cap) ov:=by
 obtain⟨cur,hg⟩:=jm ho;exact {
  qb:=hw
  bx:=hb.box h.bx (jH h.bx hg (by decide))
  bz:=hb.box h.bz (jH h.bz hg (by decide))
  near:=hb.own h.near hg (by decide)
  seen:=hb.own h.seen hg (by decide)
  dV:=by obtain⟨l,h1,h2,h3⟩:=h.dV; exact⟨l,hb.own h1 hg (by decide),h2.mono fun _ _ h=>h.but hb hg (by decide),h3.mono fun _ _ h=>h.but hb hg (by decide)⟩
  ent:=⟨l',hx,hA,hV⟩
  own:=by obtain⟨l,h1,h2,h3⟩:=h.own; exact⟨l,hb.own h1 hg (by decide),h2.mono fun _ _ h=>h.but hb hg (by decide),h3.mono fun _ _ h=>h.but hb hg (by decide)⟩ }
theorem Cs.setW {w0 w wr x:ay} {b:Br} {kd kn kw kw':Nat} {nv av sv ev:Sl} {g n cap:Nat} {l l':List nS} (h:Cs w0 w wr b kd kn kw nv av sv ev (U ⟨g,0,O⟩,n,cap)) (ho:nI wr w.heap.size (L (U ⟨g,0,O⟩) n cap) l) (hx:nI x w.heap.size (L (U ⟨g,0,O⟩) n cap) l') (hb:But g wr x) (hw:Below w.heap.size w x) (hA:eZ (Gj w0 w.heap.size x) l' b.own) (hV:eZ (Gj (vw w0) w.heap.size x) (l'.take kw') (b.own.take kw')):Cs w0 w x b kd kn kw' nv av sv ev (U ⟨g,0,O⟩,n,cap):=by
 obtain⟨cur,hg⟩:=jm ho;exact {
  qb:=hw
  bx:=hb.box h.bx (jH h.bx hg (by decide))
  bz:=hb.box h.bz (jH h.bz hg (by decide))
  near:=hb.own h.near hg (by decide)
  seen:=hb.own h.seen hg (by decide)
  dV:=by obtain⟨l,h1,h2,h3⟩:=h.dV; exact⟨l,hb.own h1 hg (by decide),h2.mono fun _ _ h=>h.but hb hg (by decide),h3.mono fun _ _ h=>h.but hb hg (by decide)⟩
  ent:=by obtain⟨l,h1,h2,h3⟩:=h.ent; exact⟨l,hb.own h1 hg (by decide),h2.mono fun _ _ h=>h.but hb hg (by decide),h3.mono fun _ _ h=>h.but hb hg (by decide)⟩
  own:=⟨l',hx,hA,hV⟩ }
end Av
namespace Wr
open YtmklifheakemeaaGreat.Nm At Pr
def Js (c:C5):Bool:=kV c.1 && (if c.2.1=1 then decide (c.2.2.2.2.size=0) && decide (c.2.2.1<=c.2.2.2.1) else if c.2.1=2 then decide (c.2.2.1=0) && (decide (c.2.2.2.1=0) && decide (c.2.2.2.2.size<=12)) else if c.2.1=3 then decide (c.2.2.1=0) && (decide (c.2.2.2.1=0) && decide (c.2.2.2.2.size<=11)) else aL)
def XE (p x:C5):Bool:=Op.bytesLess p.1.toList x.1.toList
def Ld (l:List C5) (k:Nat):Bool:=match l[k]? with
 | some x=>Js x && (k == 0 || (match l[k-1]? with
  | some p=>XE p x
  | none=>bI))
 | none=>bI
def iG (l:List C5):Bool:=(List.range l.length).all (Ld l) && decide (l.length<=5)
theorem Ep (l:List C5) (h:∀ j,j<l.length->Ld l j=bI):iG l=decide (l.length<=5):=by
 unfold iG;rw [aY.2 fun j hj=>h j (List.mem_range.1 hj),Bool.true_and]
end Wr
namespace Av
open Go.RowKit Go.Sort Rw YtmklifheakemeaaGreat.Nm Pr Bk
def jK {α:Type} (key:α->fB) (l:List α):Prop:=l.Pairwise fun a b=>dY (key a) (key b)=bI
def fV {α:Type} (key:α->fB) (l:List α) (x:fB):Nat:=(l.takeWhile fun a=>dY (key a) x).length
def kg {α:Type} (key:α->fB) (l:List α) (x:fB):Bool:=match l[fV key l x]? with
 | some y=>decide (key y=x)
 | none=>aL
theorem iI {α:Type} (key:α->fB) (l:List α) (x:fB):fV key l x=fU (l.map key) x:=by
 unfold fV fU;rw [List.takeWhile_map,aZ]
 rfl
theorem yG {α:Type} (key:α->fB) (l:List α) (x:fB) (k:Nat) (hall:∀ (j:Nat) (y:α),j<k->l[j]?=U y->dY (key y) x=bI) (hend:k=l.length\/∃ y,l[k]?=U y/\dY (key y) x=aL):fV key l x=k:=by
 rw [iI];refine vk _ _ k (fun j y hj h=>?_) ?_
 ·rw [aW] at h;cases hy:l[j]? with
  | none=>rw [hy] at h; cases h
  | some z=>rw [hy] at h; rw [<- Option.some.inj h]; exact hall j z hj hy
 ·rcases hend with h|⟨y,h1,h2⟩
  ·exact bM (by rw [aZ]; exact h)
  ·exact aF ⟨key y,by rw [aW,h1]; rfl,h2⟩
theorem ko {α:Type} {key:α->fB} {l:List α} (h:jK key l) {i j:Nat} {x y:α} (hij:i<j) (hx:l[i]?=U x) (hy:l[j]?=U y):dY (key x) (key y)=bI:=by
 obtain⟨h1,rfl⟩:=aA.1 hx;obtain⟨h2,rfl⟩:=aA.1 hy;exact List.pairwise_iff_getElem.1 h i j h1 h2 hij
theorem yH (x y:fB):decide (l8 x y<0)=dY x y:=by
 have h:=qL x y;cases hl:dY x y
 ·rw [hl] at h; simp at h; simpa using h
 ·rw [hl] at h; simp at h; simpa using h
theorem Jt {α:Type} {key:α->fB} {l:List α} (h:jK key l) (x:fB):kg key l x=decide (x∈l.map key):=by
 unfold kg;have hp:fV key l x<=l.length:=by rw [iI]; exact Nat.le_trans (lF _ _) (by simp)
 have hlo:∀ (j:Nat) (y:α),j<fV key l x->l[j]?=U y->dY (key y) x=bI:=by
  intro j y hj hy;have ht:(l.takeWhile fun a=>dY (key a) x)[j]?=U y:=by
   have:=List.takeWhile_prefix (fun a=>dY (key a) x) (l:=l);obtain⟨t,ht⟩:=this;rw [<- ht,List.getElem?_append_left hj] at hy;exact hy
  exact aY.1 List.all_takeWhile y (aT ht)
 have hhi:∀ (y:α),l[fV key l x]?=U y->dY (key y) x=aL:=by
  intro y hy;unfold fV at hy;cases hq:dY (key y) x with
  | false=>rfl
  | true =>
   exfalso;have:∀ (m:List α),m[(m.takeWhile fun a=>dY (key a) x).length]?=U y->False:=by
    intro m
    induction m with
    | nil=>intro h; simp at h
    | cons a m ih =>
     intro h;by_cases ha:dY (key a) x=bI
     ·exact ih (by simpa [List.takeWhile_cons,ha] using h)
     ·simp [ha] at h;subst h;exact ha hq
   exact this l hy
 cases hy:l[fV key l x]? with
 | none =>
  symm
  rw [decide_eq_false_iff_not];intro hm;obtain⟨z,hz,hzx⟩:=aX.1 hm;obtain⟨j,hj⟩:=aR.1 hz;have hjl:=(aA.1 hj).1;have hpl:l.length<=fV key l x:=by
   rcases Nat.lt_or_ge (fV key l x) l.length with h0|h0
   ·rw [aM h0] at hy; cases hy
   ·exact h0
  have:=hlo j z (by omega) hj;rw [hzx,jf] at this;cases this
 | some y =>
  simp only;by_cases hk:key y=x
  ·rw [decide_eq_true hk]
   symm
   rw [decide_eq_true_eq];exact aX.2 ⟨y,aT hy,hk⟩
  ·rw [decide_eq_false hk]
   symm
   rw [decide_eq_false_iff_not];intro hm;obtain⟨z,hz,hzx⟩:=aX.1 hm;obtain⟨j,hj⟩:=aR.1 hz;rcases Nat.lt_trichotomy j (fV key l x) with h1|h1|h1
   ·have:=hlo j z h1 hj;rw [hzx,jf] at this;cases this
   ·subst h1;rw [hy] at hj;rw [Option.some.inj hj] at hk;exact hk hzx
   ·have h3:=ko h h1 hy hj;have h4:=hhi y hy;rw [hzx] at h3;rw [h3] at h4;cases h4
def QB (B:Nat) (b1:Nat) (_me:Int) (_z2 _z4 _z5:aB) (o1:Option aK) (n1 c1:Nat) (nl:List Int) (o3:Option aK) (n3 c3:Nat) (sl:List fB) (i:Nat) (v:aB) (x:ay):Prop :=
 match i with
 | 0=>v=J (U ⟨b1,1,O⟩)
 | 1=>v=L o1 n1 c1
 | 2=>∃ s:Sl,v=dO s/\uX x B v nl
 | 3=>v=J (U ⟨b1,3,O⟩)
 | 4=>v=L o3 n3 c3
 | 5=>∃ s:Sl,v=dO s/\Am x B v sl
 | 6=>v=J (U ⟨b1,1,O⟩)
 | _=>True
noncomputable def XF:Code:=((Tryz.f91.body.bind (eT 1)).getD .skip)
theorem QC (B:Nat) (b1:Nat) (me:Int) (z2 z4 z5:aB) (o1:Option aK) (n1 c1:Nat) (nl:List Int) (o3:Option aK) (n3 c3:Nat) (sl:List fB) (i:Nat) (v:aB) (x x':ay) (h:QB B b1 me z2 z4 z5 o1 n1 c1 nl o3 n3 c3 sl i v x) (hb:Below x.heap.size x x'):QB B b1 me z2 z4 z5 o1 n1 c1 nl o3 n3 c3 sl i v x':=by
 by_cases hi:i<7
 ·rcases (by omega:i=0\/i=1\/i=2\/i=3\/i=4\/i=5\/i=6) with rfl|rfl|rfl|rfl|rfl|rfl|rfl
  ·exact h
  ·exact h
  ·obtain⟨s,h1,h2⟩:=h; exact⟨s,h1,Bk.dJ h2 hb⟩
  ·exact h
  ·exact h
  ·obtain⟨s,h1,h2⟩:=h; exact⟨s,h1,Bk.dJ h2 hb⟩
  ·exact h
 ·unfold QB
  split <;> first | omega | trivial
theorem cp1 (Q:Exit->Act->ay->Prop) (W:ay) (b1:Nat) (me:Int) (z2 z4 z5:aB) (o1:Option aK) (n1 c1:Nat) (nl:List Int) (o3:Option aK) (n3 c3:Nat) (sl:List fB) (u0 u2 u3 u4 u5 u6 u7 u8 u9 u10 u11 u12 u13 u14 u15 u16 u17 u18 u19 u20 u21 u22 u23 u24 u25 u26 u27 u28 u29 u30 u31 u32 u33 u34 u35 u36 u37 u38 u39 u40 u41 u42 u43 u44 u45 u46 u47 u48 u49 u50 u51 u52 u53 u54 u55 u56 u57 u58 u59 u60 u61 u62 u63 u64 u65 u66 u67 u68 u69 u70 u71 u72 u73 u74 u75 u76 u77 u78 u79 u80 u81:aB)
  (h1:dI W b1 #[aC aD me,L o1 n1 c1,z2,L o3 n3 c3,z4,z5] 28) (r1:uW W (L o1 n1 c1) nl) (r3:zH W (L o3 n3 c3) sl) (l1:nl.length<=900) (l3:sl.length<=900)
  (hQ:∀ (x:ay) (v6 v7 v8 v9 v10 v11 v12 v13:aB) (p1:Option aK) (q1 s1:Nat) (p3:Option aK) (q3 s3:Nat),dI x b1 #[aC aD me,L p1 q1 s1,z2,L p3 q3 s3,z4,z5] 28->uX x W.heap.size (L p1 q1 s1) nl->Am x W.heap.size (L p3 q3 s3) sl->(∀ B,B<=b1->Below B W x)->(∀ k,k<W.heap.size->k≠b1->x.heap[k]?=W.heap[k]?)->Q .normal ⟨(u0::J (U ⟨b1,0,O⟩)::u2::u3::u4::u5::v6::v7::v8::v9::v10::v11::v12::v13::u14::u15::u16::u17::u18::u19::u20::u21::u22::u23::u24::u25::u26::u27::u28::u29::u30::u31::u32::u33::u34::u35::u36::u37::u38::u39::u40::u41::u42::u43::u44::u45::u46::u47::u48::u49::u50::u51::u52::u53::u54::u55::u56::u57::u58::u59::u60::u61::u62::u63::u64::u65::u66::u67::u68::u69::u70::u71::u72::u73::u74::u75::u76::u77::u78::u79::u80::u81::[]).toArray,[]⟩ x) :
  Code.wp aJ XF Q ⟨(u0::J (U ⟨b1,0,O⟩)::u2::u3::u4::u5::u6::u7::u8::u9::u10::u11::u12::u13::u14::u15::u16::u17::u18::u19::u20::u21::u22::u23::u24::u25::u26::u27::u28::u29::u30::u31::u32::u33::u34::u35::u36::u37::u38::u39::u40::u41::u42::u43::u44::u45::u46::u47::u48::u49::u50::u51::u52::u53::u54::u55::u56::u57::u58::u59::u60::u61::u62::u63::u64::u65::u66::u67::u68::u69::u70::u71::u72::u73::u74::u75::u76::u77::u78::u79::u80::u81::[]).toArray,[]⟩ W:=by
 have HQ:=ak hQ;have H1:=ak h1;have R1:=ak r1;have R3:=ak r3;have L1:=ak l1;have L3:=ak l3;clear hQ h1 r1 r3 l1 l3;have jG:=QC W.heap.size b1 me z2 z4 z5 o1 n1 c1 nl o3 n3 c3 sl;unfold XF
 conv=>arg 2; whnf
 have nd:∀ j,(j<6\/13<=j)->∀ i,i<7->(fun i=>6+i) i≠j:=by
  intro j hj i hi h;simp only at h;omega
 refine bN 10 7 (fun i=>6+i) (fun _=>7) (QB W.heap.size b1 me z2 z4 z5 o1 n1 c1 nl o3 n3 c3 sl) (by kernel_rfl) (by kernel_rfl) rfl (by decide) (fun i j _ _ h=>by have h2:6+i=6+j:=h; omega) (fun i hi=>by show 6+i<82; omega) ?_ (fun _=>bR 14 (by kernel_rfl)) ?_ ?_
 ·intro i o hi ho a x D hnd hc hD hb seen K hK;clear HQ;rcases (by omega:i=0\/i=1\/i=2\/i=3\/i=4\/i=5\/i=6) with rfl|rfl|rfl|rfl|rfl|rfl|rfl
  ·cases ho;have e1:a.eval (au 1)=J (U ⟨b1,0,O⟩):=seen.kp 1 _ (nd 1 (by omega)) rfl;exact aG rfl rfl (aO a.eval _ 28 (au 1) 1 rfl (by rw [e1]; simp [go_sem])) (hK _ _ rfl (V _ _) fun _ _ _ _ _ _ _ h=>h)
  ·cases ho;have e6:a.eval (au 6)=J (U ⟨b1,1,O⟩):=seen.at_ ⟨0,.data⟩ (by simp) rfl (aF (by decide));have y1:=(H1.out.on hb).cell 1;simp only [Z,ah,aj] at y1;exact aG rfl rfl (aU a.eval _ 22 (au 6) rfl (by rw [e6]; simp [go_sem,y1])) (hK _ _ rfl (V _ _) fun _ _ _ _ _ _ _ h=>h)
  ·cases ho;have e7:a.eval (au 7)=L o1 n1 c1:=seen.at_ ⟨1,.data⟩ (by simp) rfl (aF (by decide));exact bK rfl rfl (Rw.gu a.eval _ (au 7) 22 32 rfl e7 rfl _ (fI Tryz.func32 rfl rfl _ _)) (vg (o1,n1,c1) nl x (R1.out.on hb) L1.out) fun e w1 h=>by
    obtain⟨⟨s,rfl,h1⟩,h3⟩:=h;exact⟨_,rfl,hK _ _ ⟨s,rfl,dK h1 hb.size⟩ (h3.mono hb.size) fun j u hj _ _ _ hne h=>jG j u _ _ h h3⟩
  ·cases ho;have e1:a.eval (au 1)=J (U ⟨b1,0,O⟩):=seen.kp 1 _ (nd 1 (by omega)) rfl;exact aG rfl rfl (aO a.eval _ 28 (au 1) 3 rfl (by rw [e1]; simp [go_sem])) (hK _ _ rfl (V _ _) fun _ _ _ _ _ _ _ h=>h)
  ·cases ho;have e9:a.eval (au 9)=J (U ⟨b1,3,O⟩):=seen.at_ ⟨3,.data⟩ (by simp) rfl (aF (by decide));have y3:=(H1.out.on hb).cell 3;simp only [Z,ah,aj] at y3;exact aG rfl rfl (aU a.eval _ 24 (au 9) rfl (by rw [e9]; simp [go_sem,y3])) (hK _ _ rfl (V _ _) fun _ _ _ _ _ _ _ h=>h)
  ·cases ho;have e10:a.eval (au 10)=L o3 n3 c3:=seen.at_ ⟨4,.data⟩ (by simp) rfl (aF (by decide));exact bK rfl rfl (Rw.gu a.eval _ (au 10) 24 140 rfl e10 rfl _ (fI Tryz.func140 rfl rfl _ _)) (D9 (o3,n3,c3) sl x (R3.out.on hb) L3.out) fun e w1 h=>by
    obtain⟨⟨s,rfl,h1⟩,h3⟩:=h;exact⟨_,rfl,hK _ _ ⟨s,rfl,dK h1 hb.size⟩ (h3.mono hb.size) fun j u hj _ _ _ hne h=>jG j u _ _ h h3⟩
  ·cases ho;have e1:a.eval (au 1)=J (U ⟨b1,0,O⟩):=seen.kp 1 _ (nd 1 (by omega)) rfl;exact aG rfl rfl (aO a.eval _ 28 (au 1) 1 rfl (by rw [e1]; simp [go_sem])) (hK _ _ rfl (V _ _) fun _ _ _ _ _ _ _ h=>h)
 ·intro kk o h1 h2 ho;rcases (by omega:kk=8\/kk=9) with rfl|rfl
  ·cases ho;exact⟨⟨7,.phase⟩,by simp,rfl,rfl⟩
  ·cases ho;exact⟨⟨8,.data⟩,by simp,rfl,rfl⟩
 ·intro a w' df sz kp ⟨vs,hv⟩ hb;have sz':a.tmps.size=82:=sz;have g1:a.tmps[1]?=U (J (U ⟨b1,0,O⟩)):=(kp 1 (nd 1 (by omega))).trans rfl;have g12:a.tmps[12]?=U (J (U ⟨b1,1,O⟩)):=by
   have h:vs 6=J (U ⟨b1,1,O⟩):=(hv 6 (by omega)).2 (by decide);rw [<- h];exact (hv 6 (by omega)).1
  obtain⟨⟨p1,q1,s1⟩,hs1,ho1⟩:=(hv 2 (by omega)).2 (by decide);have g8:a.tmps[8]?=U (L p1 q1 s1):=((hv 2 (by omega)).1).trans (congrArg U hs1);rw [hs1] at ho1;obtain⟨⟨p3,q3,s3⟩,hs3,ho3⟩:=(hv 5 (by omega)).2 (by decide);have g11:a.tmps[11]?=U (L p3 q3 s3):=((hv 5 (by omega)).1).trans (congrArg U hs3);rw [hs3] at ho3;have hB:=H1.out.on hb;have hlt:=H1.out.lt;show bf _ _ _ 3 7 a w';simp only [bf];have c1x:=hB.cell 1;have f1x:=hB.fr 1;simp only [Z,ah,aj] at c1x;refine bL 22 (au 12) (au 8) rfl rfl rfl rfl (aV g12) (aV g8) (w':=(w').setCell ⟨b1,1,O⟩ (L p1 q1 s1)) (by simp [go_sem,c1x,f1x]) ?_;have hB1:dI ((w').setCell ⟨b1,1,O⟩ (L p1 q1 s1)) b1 #[aC aD me,L p1 q1 s1,z2,L o3 n3 c3,z4,z5] 28:=by simpa using eD (k:=1) hB (L p1 q1 s1)
  refine aG rfl rfl (aO _ _ 28 (au 1) 3 rfl (v:=J (U ⟨b1,3,O⟩)) (by rw [aV g1]; simp [go_sem])) ?_;have aaS:((a).put (U 13) (J (U ⟨b1,3,O⟩))).tmps[13]?=U (J (U ⟨b1,3,O⟩)):=by simp [Act.put,sz']
  show Go.wpOp _ _ _ 9 _ ((a).put (U 13) (J (U ⟨b1,3,O⟩))) _;have c3x:=hB1.cell 3;have f3x:=hB1.fr 3;simp only [Z,ah,aj] at c3x;refine bL 24 (au 13) (au 11) rfl rfl rfl rfl (aV aaS) (aV ((bJ _ 13 _ 11 (by decide)).trans g11)) (w':=((w').setCell ⟨b1,1,O⟩ (L p1 q1 s1)).setCell ⟨b1,3,O⟩ (L p3 q3 s3)) (by simp [go_sem,c3x,f3x]) ?_;have hB3:dI (((w').setCell ⟨b1,1,O⟩ (L p1 q1 s1)).setCell ⟨b1,3,O⟩ (L p3 q3 s3)) b1 #[aC aD me,L p1 q1 s1,z2,L p3 q3 s3,z4,z5] 28:=by simpa using eD (k:=3) hB1 (L p3 q3 s3)
  have pQ:∀ j,(j<6\/14<=j)->((a).put (U 13) (J (U ⟨b1,3,O⟩))).tmps[j]?=(u0::J (U ⟨b1,0,O⟩)::u2::u3::u4::u5::u6::u7::u8::u9::u10::u11::u12::u13::u14::u15::u16::u17::u18::u19::u20::u21::u22::u23::u24::u25::u26::u27::u28::u29::u30::u31::u32::u33::u34::u35::u36::u37::u38::u39::u40::u41::u42::u43::u44::u45::u46::u47::u48::u49::u50::u51::u52::u53::u54::u55::u56::u57::u58::u59::u60::u61::u62::u63::u64::u65::u66::u67::u68::u69::u70::u71::u72::u73::u74::u75::u76::u77::u78::u79::u80::u81::[])[j]?:=fun j hj=>(bJ _ 13 _ j (by omega)).trans ((kp j (nd j (by omega))).trans Z);obtain⟨mid,hmid,hfr⟩:=bS (a:=(a).put (U 13) (J (U ⟨b1,3,O⟩))) 6 8 df (by simp [Rg.size_put,sz']) (by simp) pQ;show Q .normal ((a).put (U 13) (J (U ⟨b1,3,O⟩))) _;rw [hfr]
  match mid,hmid with
  | [v6,v7,v8,v9,v10,v11,v12,v13],_ =>
   exact HQ.out _ _ _ _ _ _ _ _ _ p1 q1 s1 p3 q3 s3 hB3 (eU (eU ho1 b1 1 (L p1 q1 s1) hlt) b1 3 (L p3 q3 s3) hlt) (eU (eU ho3 b1 1 (L p1 q1 s1) hlt) b1 3 (L p3 q3 s3) hlt) (fun B hBl=>(((hb.mono (Nat.le_of_lt (Nat.lt_of_le_of_lt hBl hlt))).setCell (p:=⟨b1,1,O⟩) hBl (L p1 q1 s1)).setCell (p:=⟨b1,3,O⟩) hBl (L p3 q3 s3))) (fun k hk hne=>((aH ((w').setCell ⟨b1,1,O⟩ (L p1 q1 s1)) ⟨b1,3,O⟩ (L p3 q3 s3) k hne).trans ((aH (w') ⟨b1,1,O⟩ (L p1 q1 s1) k hne).trans (hb.block k hk))))
def QD (B:Nat) (b1:Nat) (_me:Int) (_z1 _z3 _z4 _z5:aB) (g n cap k:Nat) (y1 y2:Int) (yo:Option aK) (yn yc:Nat) (y4:Int) (p:List C5) (i:Nat) (v:aB) (x:ay):Prop :=
 match i with
 | 0=>v=J (U ⟨b1,2,O⟩)
 | 1=>v=L (U ⟨g,0,O⟩) n cap
 | 2=>v=aC aD (k:Int)
 | 3=>v=J (U ⟨b1,2,O⟩)
 | 4=>v=L (U ⟨g,0,O⟩) n cap
 | 5=>v=aC aD (k:Int)
 | 6=>v=J (U ⟨g,k * 4,O⟩)
 | 7=>v=lQ (y1,y2,(yo,yn,yc),y4)
 | 8=>∃ s:Sl,v=lQ (y1,y2,s,y4)/\gG x B (dO s) p
 | 9=>v=J (U ⟨g,k * 4,O⟩)
 | _=>True
noncomputable def XG:Code:=((Tryz.f91.body.bind (eT 6)).getD .skip)
theorem QE (B:Nat) (b1:Nat) (me:Int) (z1 z3 z4 z5:aB) (g n cap k:Nat) (y1 y2:Int) (yo:Option aK) (yn yc:Nat) (y4:Int) (p:List C5) (i:Nat) (v:aB) (x x':ay) (h:QD B b1 me z1 z3 z4 z5 g n cap k y1 y2 yo yn yc y4 p i v x) (hb:Below x.heap.size x x'):QD B b1 me z1 z3 z4 z5 g n cap k y1 y2 yo yn yc y4 p i v x':=by
 by_cases hi:i<10
 ·rcases (by omega:i=0\/i=1\/i=2\/i=3\/i=4\/i=5\/i=6\/i=7\/i=8\/i=9) with rfl|rfl|rfl|rfl|rfl|rfl|rfl|rfl|rfl|rfl
  ·exact h
  ·exact h
  ·exact h
  ·exact h
  ·exact h
  ·exact h
  ·exact h
  ·exact h
  ·obtain⟨s,h1,h2⟩:=h; exact⟨s,h1,Bk.dJ h2 hb⟩
  ·exact h
 ·unfold QD
  split <;> first | omega | trivial
theorem cp6 (Q:Exit->Act->ay->Prop) (W:ay) (B0:Nat) (l:List jk) (b1:Nat) (me:Int) (z1 z3 z4 z5:aB) (g n cap k:Nat) (y1 y2:Int) (yo:Option aK) (yn yc:Nat) (y4:Int) (p:List C5) (u0 u2 u4 u5 u6 u7 u8 u9 u10 u11 u12 u13 u14 u15 u16 u17 u18 u19 u20 u21 u22 u23 u24 u25 u26 u27 u28 u29 u30 u31 u32 u33 u34 u35 u36 u37 u38 u39 u40 u41 u42 u43 u44 u45 u46 u47 u48 u49 u50 u51 u52 u53 u54 u55 u56 u57 u58 u59 u60 u61 u62 u63 u64 u65 u66 u67 u68 u69 u70 u71 u72 u73 u74 u75 u76 u77 u78 u79 u80 u81:aB)
  (h1:dI W b1 #[aC aD me,z1,L (U ⟨g,0,O⟩) n cap,z3,z4,z5] 28) (ho:qo W B0 (L (U ⟨g,0,O⟩) n cap) l) (hy:l[k]?=U (y1,y2,(yo,yn,yc),y4)) (hp:eY W (L yo yn yc) p) (lp:p.length<=900)
  (hQ:∀ (x:ay) (v32 v33 v34 v35 v36 v37 v38 v39 v40 v41:aB) (s1:Option aK) (s2 s3:Nat),gG x W.heap.size (L s1 s2 s3) p->qo x B0 (L (U ⟨g,0,O⟩) n cap) (l.set k (y1,y2,(s1,s2,s3),y4))->But g W x->(∀ B1,B1<=g->B1<=W.heap.size->Below B1 W x)->Q .normal ⟨(u0::J (U ⟨b1,0,O⟩)::u2::aC aD (k:Int)::u4::u5::u6::u7::u8::u9::u10::u11::u12::u13::u14::u15::u16::u17::u18::u19::u20::u21::u22::u23::u24::u25::u26::u27::u28::u29::u30::u31::v32::v33::v34::v35::v36::v37::v38::v39::v40::v41::u42::u43::u44::u45::u46::u47::u48::u49::u50::u51::u52::u53::u54::u55::u56::u57::u58::u59::u60::u61::u62::u63::u64::u65::u66::u67::u68::u69::u70::u71::u72::u73::u74::u75::u76::u77::u78::u79::u80::u81::[]).toArray,[]⟩ x) :
  Code.wp aJ XG Q ⟨(u0::J (U ⟨b1,0,O⟩)::u2::aC aD (k:Int)::u4::u5::u6::u7::u8::u9::u10::u11::u12::u13::u14::u15::u16::u17::u18::u19::u20::u21::u22::u23::u24::u25::u26::u27::u28::u29::u30::u31::u32::u33::u34::u35::u36::u37::u38::u39::u40::u41::u42::u43::u44::u45::u46::u47::u48::u49::u50::u51::u52::u53::u54::u55::u56::u57::u58::u59::u60::u61::u62::u63::u64::u65::u66::u67::u68::u69::u70::u71::u72::u73::u74::u75::u76::u77::u78::u79::u80::u81::[]).toArray,[]⟩ W:=by
 have HQ:=ak hQ;have H1:=ak h1;have HO:=ak ho;have HY:=ak hy;have HP:=ak hp;have LP:=ak lp;have IX:=ak (jV okD g k n cap (by obtain⟨_,_,hv⟩:=(Row.dG ho).len; have h:=(aA.1 hy).1; simp at hv; omega));have EL:=ak (jr okD ho hy);clear hQ h1 ho hy hp lp;have jG:=QE W.heap.size b1 me z1 z3 z4 z5 g n cap k y1 y2 yo yn yc y4 p;unfold XG
 conv=>arg 2; whnf
 have nd:∀ j,(j<32\/42<=j)->∀ i,i<10->(fun i=>32+i) i≠j:=by
  intro j hj i hi h;simp only at h;omega
 refine bN 11 10 (fun i=>32+i) (fun _=>10) (QD W.heap.size b1 me z1 z3 z4 z5 g n cap k y1 y2 yo yn yc y4 p) (by kernel_rfl) (by kernel_rfl) rfl (by decide) (fun i j _ _ h=>by have h2:32+i=32+j:=h; omega) (fun i hi=>by show 32+i<82; omega) ?_ (fun _=>bR 14 (by kernel_rfl)) ?_ ?_
 ·intro i o hi ho a x D hnd hc hD hb seen K hK;clear HQ;rcases (by omega:i=0\/i=1\/i=2\/i=3\/i=4\/i=5\/i=6\/i=7\/i=8\/i=9) with rfl|rfl|rfl|rfl|rfl|rfl|rfl|rfl|rfl|rfl
  ·cases ho;have e1:a.eval (au 1)=J (U ⟨b1,0,O⟩):=seen.kp 1 _ (nd 1 (by omega)) rfl;exact aG rfl rfl (aO a.eval _ 28 (au 1) 2 rfl (by rw [e1]; simp [go_sem])) (hK _ _ rfl (V _ _) fun _ _ _ _ _ _ _ h=>h)
  ·cases ho;have e32:a.eval (au 32)=J (U ⟨b1,2,O⟩):=seen.at_ ⟨0,.data⟩ (by simp) rfl (aF (by decide));have y2:=(H1.out.on hb).cell 2;simp only [Z,ah,aj] at y2;exact aG rfl rfl (aU a.eval _ 23 (au 32) rfl (by rw [e32]; simp [go_sem,y2])) (hK _ _ rfl (V _ _) fun _ _ _ _ _ _ _ h=>h)
  ·cases ho;have e3:a.eval (au 3)=aC aD (k:Int):=seen.kp 3 _ (nd 3 (by omega)) rfl;exact aG rfl rfl (bG a.eval _ (au 3) rfl x) (hK _ _ e3 (V _ _) fun _ _ _ _ _ _ _ h=>h)
  ·cases ho;have e1:a.eval (au 1)=J (U ⟨b1,0,O⟩):=seen.kp 1 _ (nd 1 (by omega)) rfl;exact aG rfl rfl (aO a.eval _ 28 (au 1) 2 rfl (by rw [e1]; simp [go_sem])) (hK _ _ rfl (V _ _) fun _ _ _ _ _ _ _ h=>h)
  ·cases ho;have e35:a.eval (au 35)=J (U ⟨b1,2,O⟩):=seen.at_ ⟨3,.data⟩ (by simp) rfl (aF (by decide));have y2:=(H1.out.on hb).cell 2;simp only [Z,ah,aj] at y2;exact aG rfl rfl (aU a.eval _ 23 (au 35) rfl (by rw [e35]; simp [go_sem,y2])) (hK _ _ rfl (V _ _) fun _ _ _ _ _ _ _ h=>h)
  ·cases ho;have e3:a.eval (au 3)=aC aD (k:Int):=seen.kp 3 _ (nd 3 (by omega)) rfl;exact aG rfl rfl (bG a.eval _ (au 3) rfl x) (hK _ _ e3 (V _ _) fun _ _ _ _ _ _ _ h=>h)
  ·cases ho;have e36:a.eval (au 36)=L (U ⟨g,0,O⟩) n cap:=seen.at_ ⟨4,.data⟩ (by simp) rfl (aF (by decide));have e37:a.eval (au 37)=aC aD (k:Int):=seen.at_ ⟨5,.data⟩ (by simp) rfl (aF (by decide));exact aG rfl rfl (bH a.eval _ 23 (au 36) (au 37) rfl (by rw [e36,e37]; exact IX.out x)) (hK _ _ rfl (V _ _) fun _ _ _ _ _ _ _ h=>h)
  ·cases ho;have e38:a.eval (au 38)=J (U ⟨g,k * 4,O⟩):=seen.at_ ⟨6,.data⟩ (by simp) rfl (aF (by decide));exact aG rfl rfl (aU a.eval _ 74 (au 38) rfl (by rw [e38]; exact RG x _ (y1,y2,(yo,yn,yc),y4) (EL.out x hb))) (hK _ _ rfl (V _ _) fun _ _ _ _ _ _ _ h=>h)
  ·cases ho;have e39:a.eval (au 39)=lQ (y1,y2,(yo,yn,yc),y4):=seen.at_ ⟨7,.data⟩ (by simp) rfl (aF (by decide));exact bK rfl rfl (Rw.gu a.eval _ (au 39) 74 79 rfl e39 rfl _ (fI bq rfl rfl _ _)) (vJ (y1,y2,(yo,yn,yc),y4) p x (HP.out.on hb) LP.out) fun e w1 h=>by
    obtain⟨⟨s,rfl,h1⟩,h3⟩:=h;exact⟨_,rfl,hK _ _ ⟨s,rfl,dK h1 hb.size⟩ (h3.mono hb.size) fun j u hj _ _ _ hne h=>jG j u _ _ h h3⟩
  ·cases ho;have e33:a.eval (au 33)=L (U ⟨g,0,O⟩) n cap:=seen.at_ ⟨1,.data⟩ (by simp) rfl (aF (by decide));have e34:a.eval (au 34)=aC aD (k:Int):=seen.at_ ⟨2,.data⟩ (by simp) rfl (aF (by decide));exact aG rfl rfl (bH a.eval _ 23 (au 33) (au 34) rfl (by rw [e33,e34]; exact IX.out x)) (hK _ _ rfl (V _ _) fun _ _ _ _ _ _ _ h=>h)
 ·intro kk o h1 h2 ho;omega
 ·intro a w' df sz kp ⟨vs,hv⟩ hb;have sz':a.tmps.size=82:=sz;have g41:a.tmps[41]?=U (J (U ⟨g,k * 4,O⟩)):=by
   have h:vs 9=J (U ⟨g,k * 4,O⟩):=(hv 9 (by omega)).2 (by decide);rw [<- h];exact (hv 9 (by omega)).1
  obtain⟨⟨s1,s2,s3⟩,hs,hc⟩:=(hv 8 (by omega)).2 (by decide);have g40:a.tmps[40]?=U (lQ (y1,y2,(s1,s2,s3),y4)):=((hv 8 (by omega)).1).trans (congrArg U hs);obtain⟨w2,hr,st1,st2,XH⟩:=U9 (k:=k) (y1,y2,(s1,s2,s3),y4) (Bk.dJ HO.out hb) (aA.1 HY.out).1;obtain⟨cur,hg⟩:=jm (Bk.dJ HO.out hb);show bf _ _ _ 1 10 a w';simp only [bf];refine bL 74 (au 41) (au 40) rfl rfl rfl rfl (aV g41) (aV g40) (w':=w2) hr ?_;have pQ:∀ j,(j<32\/42<=j)->(a).tmps[j]?=(u0::J (U ⟨b1,0,O⟩)::u2::aC aD (k:Int)::u4::u5::u6::u7::u8::u9::u10::u11::u12::u13::u14::u15::u16::u17::u18::u19::u20::u21::u22::u23::u24::u25::u26::u27::u28::u29::u30::u31::u32::u33::u34::u35::u36::u37::u38::u39::u40::u41::u42::u43::u44::u45::u46::u47::u48::u49::u50::u51::u52::u53::u54::u55::u56::u57::u58::u59::u60::u61::u62::u63::u64::u65::u66::u67::u68::u69::u70::u71::u72::u73::u74::u75::u76::u77::u78::u79::u80::u81::[])[j]?:=fun j hj=>(kp j (nd j (by omega))).trans Z;obtain⟨mid,hmid,hfr⟩:=bS (a:=a) 32 10 df (by simp [sz']) (by simp) pQ;show Q .normal (a) _;rw [hfr]
  match mid,hmid with
  | [v32,v33,v34,v35,v36,v37,v38,v39,v40,v41],_ =>
   exact HQ.out _ _ _ _ _ _ _ _ _ _ _ s1 s2 s3 (st2.own hc hg (by decide)) st1 ((But.of_below hb).trans st2) fun B1 hB hl=>XH B1 W hB (hb.mono hl)
def Gl (B:Nat) (b1:Nat) (_me:Int) (_z1 _z2 _z3 _z5:aB) (g n cap k:Nat) (_y1 _y2 _y3 _y4:Int) (yo:Option aK) (yn yc:Nat) (_y6:Int) (_y7:Bool) (p:List C5) (i:Nat) (v:aB) (x:ay):Prop :=
 match i with
 | 0=>v=J (U ⟨b1,4,O⟩)
 | 1=>v=L (U ⟨g,0,O⟩) n cap
 | 2=>v=aC aD (k:Int)
 | 3=>v=J (U ⟨b1,4,O⟩)
 | 4=>v=L (U ⟨g,0,O⟩) n cap
 | 5=>v=aC aD (k:Int)
 | 6=>v=J (U ⟨g,k * 7,O⟩)
 | 7=>v=J (U ⟨g,k * 7+4,O⟩)
 | 8=>v=L yo yn yc
 | 9=>∃ s:Sl,v=dO s/\gG x B v p
 | 10=>v=J (U ⟨g,k * 7,O⟩)
 | 11=>v=J (U ⟨g,k * 7+4,O⟩)
 | _=>True
noncomputable def RO:Code:=((Tryz.f91.body.bind (eT 11)).getD .skip)
theorem Le (B:Nat) (b1:Nat) (me:Int) (z1 z2 z3 z5:aB) (g n cap k:Nat) (y1 y2 y3 y4:Int) (yo:Option aK) (yn yc:Nat) (y6:Int) (y7:Bool) (p:List C5) (i:Nat) (v:aB) (x x':ay) (h:Gl B b1 me z1 z2 z3 z5 g n cap k y1 y2 y3 y4 yo yn yc y6 y7 p i v x) (hb:Below x.heap.size x x'):Gl B b1 me z1 z2 z3 z5 g n cap k y1 y2 y3 y4 yo yn yc y6 y7 p i v x':=by
 by_cases hi:i<12
 ·rcases (by omega:i=0\/i=1\/i=2\/i=3\/i=4\/i=5\/i=6\/i=7\/i=8\/i=9\/i=10\/i=11) with rfl|rfl|rfl|rfl|rfl|rfl|rfl|rfl|rfl|rfl|rfl|rfl
  ·exact h
  ·exact h
  ·exact h
  ·exact h
  ·exact h
  ·exact h
  ·exact h
  ·exact h
  ·exact h
  ·obtain⟨s,h1,h2⟩:=h; exact⟨s,h1,Bk.dJ h2 hb⟩
  ·exact h
  ·exact h
 ·unfold Gl
  split <;> first | omega | trivial
theorem aaT (Q:Exit->Act->ay->Prop) (W:ay) (B0:Nat) (l:List gW) (b1:Nat) (me:Int) (z1 z2 z3 z5:aB) (g n cap k:Nat) (y1 y2 y3 y4:Int) (yo:Option aK) (yn yc:Nat) (y6:Int) (y7:Bool) (p:List C5) (u0 u2 u3 u5 u6 u7 u8 u9 u10 u11 u12 u13 u14 u15 u16 u17 u18 u19 u20 u21 u22 u23 u24 u25 u26 u27 u28 u29 u30 u31 u32 u33 u34 u35 u36 u37 u38 u39 u40 u41 u42 u43 u44 u45 u46 u47 u48 u49 u50 u51 u52 u53 u54 u55 u56 u57 u58 u59 u60 u61 u62 u63 u64 u65 u66 u67 u68 u69 u70 u71 u72 u73 u74 u75 u76 u77 u78 u79 u80 u81:aB)
  (h1:dI W b1 #[aC aD me,z1,z2,z3,L (U ⟨g,0,O⟩) n cap,z5] 28) (ho:jZ W B0 (L (U ⟨g,0,O⟩) n cap) l) (hy:l[k]?=U (y1,y2,y3,y4,(yo,yn,yc),y6,y7)) (hp:eY W (L yo yn yc) p) (lp:p.length<=900)
  (hQ:∀ (x:ay) (v49 v50 v51 v52 v53 v54 v55 v56 v57 v58 v59 v60:aB) (s1:Option aK) (s2 s3:Nat),gG x W.heap.size (L s1 s2 s3) p->jZ x B0 (L (U ⟨g,0,O⟩) n cap) (l.set k (y1,y2,y3,y4,(s1,s2,s3),y6,y7))->But g W x->(∀ B1,B1<=g->B1<=W.heap.size->Below B1 W x)->Q .normal ⟨(u0::J (U ⟨b1,0,O⟩)::u2::u3::aC aD (k:Int)::u5::u6::u7::u8::u9::u10::u11::u12::u13::u14::u15::u16::u17::u18::u19::u20::u21::u22::u23::u24::u25::u26::u27::u28::u29::u30::u31::u32::u33::u34::u35::u36::u37::u38::u39::u40::u41::u42::u43::u44::u45::u46::u47::u48::v49::v50::v51::v52::v53::v54::v55::v56::v57::v58::v59::v60::u61::u62::u63::u64::u65::u66::u67::u68::u69::u70::u71::u72::u73::u74::u75::u76::u77::u78::u79::u80::u81::[]).toArray,[]⟩ x) :
  Code.wp aJ RO Q ⟨(u0::J (U ⟨b1,0,O⟩)::u2::u3::aC aD (k:Int)::u5::u6::u7::u8::u9::u10::u11::u12::u13::u14::u15::u16::u17::u18::u19::u20::u21::u22::u23::u24::u25::u26::u27::u28::u29::u30::u31::u32::u33::u34::u35::u36::u37::u38::u39::u40::u41::u42::u43::u44::u45::u46::u47::u48::u49::u50::u51::u52::u53::u54::u55::u56::u57::u58::u59::u60::u61::u62::u63::u64::u65::u66::u67::u68::u69::u70::u71::u72::u73::u74::u75::u76::u77::u78::u79::u80::u81::[]).toArray,[]⟩ W:=by
 have HQ:=ak hQ;have H1:=ak h1;have HO:=ak ho;have HY:=ak hy;have HP:=ak hp;have LP:=ak lp;have IX:=ak (jV nH g k n cap (by obtain⟨_,_,hv⟩:=(Row.dG ho).len; have h:=(aA.1 hy).1; simp at hv; omega));have EL:=ak (jr nH ho hy);clear hQ h1 ho hy hp lp;have jG:=Le W.heap.size b1 me z1 z2 z3 z5 g n cap k y1 y2 y3 y4 yo yn yc y6 y7 p;unfold RO
 conv=>arg 2; whnf
 have nd:∀ j,(j<49\/61<=j)->∀ i,i<12->(fun i=>49+i) i≠j:=by
  intro j hj i hi h;simp only at h;omega
 refine bN 13 12 (fun i=>49+i) (fun _=>12) (Gl W.heap.size b1 me z1 z2 z3 z5 g n cap k y1 y2 y3 y4 yo yn yc y6 y7 p) (by kernel_rfl) (by kernel_rfl) rfl (by decide) (fun i j _ _ h=>by have h2:49+i=49+j:=h; omega) (fun i hi=>by show 49+i<82; omega) ?_ (fun _=>bR 14 (by kernel_rfl)) ?_ ?_
 ·intro i o hi ho a x D hnd hc hD hb seen K hK;clear HQ;rcases (by omega:i=0\/i=1\/i=2\/i=3\/i=4\/i=5\/i=6\/i=7\/i=8\/i=9\/i=10\/i=11) with rfl|rfl|rfl|rfl|rfl|rfl|rfl|rfl|rfl|rfl|rfl|rfl
  ·cases ho;have e1:a.eval (au 1)=J (U ⟨b1,0,O⟩):=seen.kp 1 _ (nd 1 (by omega)) rfl;exact aG rfl rfl (aO a.eval _ 28 (au 1) 4 rfl (by rw [e1]; simp [go_sem])) (hK _ _ rfl (V _ _) fun _ _ _ _ _ _ _ h=>h)
  ·cases ho;have e49:a.eval (au 49)=J (U ⟨b1,4,O⟩):=seen.at_ ⟨0,.data⟩ (by simp) rfl (aF (by decide));have y4:=(H1.out.on hb).cell 4;simp only [Z,ah,aj] at y4;exact aG rfl rfl (aU a.eval _ 25 (au 49) rfl (by rw [e49]; simp [go_sem,y4])) (hK _ _ rfl (V _ _) fun _ _ _ _ _ _ _ h=>h)
  ·cases ho;have e4:a.eval (au 4)=aC aD (k:Int):=seen.kp 4 _ (nd 4 (by omega)) rfl;exact aG rfl rfl (bG a.eval _ (au 4) rfl x) (hK _ _ e4 (V _ _) fun _ _ _ _ _ _ _ h=>h)
  ·cases ho;have e1:a.eval (au 1)=J (U ⟨b1,0,O⟩):=seen.kp 1 _ (nd 1 (by omega)) rfl;exact aG rfl rfl (aO a.eval _ 28 (au 1) 4 rfl (by rw [e1]; simp [go_sem])) (hK _ _ rfl (V _ _) fun _ _ _ _ _ _ _ h=>h)
  ·cases ho;have e52:a.eval (au 52)=J (U ⟨b1,4,O⟩):=seen.at_ ⟨3,.data⟩ (by simp) rfl (aF (by decide));have y4:=(H1.out.on hb).cell 4;simp only [Z,ah,aj] at y4;exact aG rfl rfl (aU a.eval _ 25 (au 52) rfl (by rw [e52]; simp [go_sem,y4])) (hK _ _ rfl (V _ _) fun _ _ _ _ _ _ _ h=>h)
  ·cases ho;have e4:a.eval (au 4)=aC aD (k:Int):=seen.kp 4 _ (nd 4 (by omega)) rfl;exact aG rfl rfl (bG a.eval _ (au 4) rfl x) (hK _ _ e4 (V _ _) fun _ _ _ _ _ _ _ h=>h)
  ·cases ho;have e53:a.eval (au 53)=L (U ⟨g,0,O⟩) n cap:=seen.at_ ⟨4,.data⟩ (by simp) rfl (aF (by decide));have e54:a.eval (au 54)=aC aD (k:Int):=seen.at_ ⟨5,.data⟩ (by simp) rfl (aF (by decide));exact aG rfl rfl (bH a.eval _ 25 (au 53) (au 54) rfl (by rw [e53,e54]; exact IX.out x)) (hK _ _ rfl (V _ _) fun _ _ _ _ _ _ _ h=>h)
  ·cases ho;have e55:a.eval (au 55)=J (U ⟨g,k * 7,O⟩):=seen.at_ ⟨6,.data⟩ (by simp) rfl (aF (by decide));exact aG rfl rfl (aO a.eval _ 66 (au 55) 2 rfl (by rw [e55]; simp [go_sem])) (hK _ _ rfl (V _ _) fun _ _ _ _ _ _ _ h=>h)
  ·cases ho;have e56:a.eval (au 56)=J (U ⟨g,k * 7+4,O⟩):=seen.at_ ⟨7,.data⟩ (by simp) rfl (aF (by decide));have y:=EL.out x hb 4 _ rfl;simp [Addr.add,EN] at y;exact aG rfl rfl (aU a.eval _ 32 (au 56) rfl (by rw [e56]; simp [go_sem,y])) (hK _ _ rfl (V _ _) fun _ _ _ _ _ _ _ h=>h)
  ·cases ho;have e57:a.eval (au 57)=L yo yn yc:=seen.at_ ⟨8,.data⟩ (by simp) rfl (aF (by decide));exact bK rfl rfl (Rw.gu a.eval _ (au 57) 32 123 rfl e57 rfl _ (fI bg rfl rfl _ _)) (kE (yo,yn,yc) p x (HP.out.on hb) LP.out) fun e w1 h=>by
    obtain⟨⟨s,rfl,h1⟩,h3⟩:=h;exact⟨_,rfl,hK _ _ ⟨s,rfl,dK h1 hb.size⟩ (h3.mono hb.size) fun j u hj _ _ _ hne h=>jG j u _ _ h h3⟩
  ·cases ho;have e50:a.eval (au 50)=L (U ⟨g,0,O⟩) n cap:=seen.at_ ⟨1,.data⟩ (by simp) rfl (aF (by decide));have e51:a.eval (au 51)=aC aD (k:Int):=seen.at_ ⟨2,.data⟩ (by simp) rfl (aF (by decide));exact aG rfl rfl (bH a.eval _ 25 (au 50) (au 51) rfl (by rw [e50,e51]; exact IX.out x)) (hK _ _ rfl (V _ _) fun _ _ _ _ _ _ _ h=>h)
  ·cases ho;have e59:a.eval (au 59)=J (U ⟨g,k * 7,O⟩):=seen.at_ ⟨10,.data⟩ (by simp) rfl (aF (by decide));exact aG rfl rfl (aO a.eval _ 66 (au 59) 2 rfl (by rw [e59]; simp [go_sem])) (hK _ _ rfl (V _ _) fun _ _ _ _ _ _ _ h=>h)
 ·intro kk o h1 h2 ho;omega
 ·intro a w' df sz kp ⟨vs,hv⟩ hb;have sz':a.tmps.size=82:=sz;have g60:a.tmps[60]?=U (J (U ⟨g,k * 7+4,O⟩)):=by
   have h:vs 11=J (U ⟨g,k * 7+4,O⟩):=(hv 11 (by omega)).2 (by decide);rw [<- h];exact (hv 11 (by omega)).1
  obtain⟨⟨s1,s2,s3⟩,hs,hc⟩:=(hv 9 (by omega)).2 (by decide);have g58:a.tmps[58]?=U (L s1 s2 s3):=((hv 9 (by omega)).1).trans (congrArg U hs);rw [hs] at hc;obtain⟨w2,hr,st1,st2,XH⟩:=Vb (k:=k) s1 s2 s3 (Bk.dJ HO.out hb) HY.out;obtain⟨cur,hg⟩:=jm (Bk.dJ HO.out hb);show bf _ _ _ 1 12 a w';simp only [bf];refine bL 32 (au 60) (au 58) rfl rfl rfl rfl (aV g60) (aV g58) (w':=w2) hr ?_;have pQ:∀ j,(j<49\/61<=j)->(a).tmps[j]?=(u0::J (U ⟨b1,0,O⟩)::u2::u3::aC aD (k:Int)::u5::u6::u7::u8::u9::u10::u11::u12::u13::u14::u15::u16::u17::u18::u19::u20::u21::u22::u23::u24::u25::u26::u27::u28::u29::u30::u31::u32::u33::u34::u35::u36::u37::u38::u39::u40::u41::u42::u43::u44::u45::u46::u47::u48::u49::u50::u51::u52::u53::u54::u55::u56::u57::u58::u59::u60::u61::u62::u63::u64::u65::u66::u67::u68::u69::u70::u71::u72::u73::u74::u75::u76::u77::u78::u79::u80::u81::[])[j]?:=fun j hj=>(kp j (nd j (by omega))).trans Z;obtain⟨mid,hmid,hfr⟩:=bS (a:=a) 49 12 df (by simp [sz']) (by simp) pQ;show Q .normal (a) _;rw [hfr]
  match mid,hmid with
  | [v49,v50,v51,v52,v53,v54,v55,v56,v57,v58,v59,v60],_ =>
   exact HQ.out _ _ _ _ _ _ _ _ _ _ _ _ _ s1 s2 s3 (st2.own hc hg (by decide)) st1 ((But.of_below hb).trans st2) fun B1 hB hl=>XH B1 W hB (hb.mono hl)
def Gm (B:Nat) (b1:Nat) (_me:Int) (_z1 _z2 _z3 _z4:aB) (g n cap k:Nat) (_y1 _y2:Int) (yo:Option aK) (yn yc:Nat) (p:List C5) (i:Nat) (v:aB) (x:ay):Prop :=
 match i with
 | 0=>v=J (U ⟨b1,5,O⟩)
 | 1=>v=L (U ⟨g,0,O⟩) n cap
 | 2=>v=aC aD (k:Int)
 | 3=>v=J (U ⟨b1,5,O⟩)
 | 4=>v=L (U ⟨g,0,O⟩) n cap
 | 5=>v=aC aD (k:Int)
 | 6=>v=J (U ⟨g,k * 3,O⟩)
 | 7=>v=J (U ⟨g,k * 3+2,O⟩)
 | 8=>v=L yo yn yc
 | 9=>∃ s:Sl,v=dO s/\gG x B v p
 | 10=>v=J (U ⟨g,k * 3,O⟩)
 | 11=>v=J (U ⟨g,k * 3+2,O⟩)
 | _=>True
noncomputable def RP:Code:=((Tryz.f91.body.bind (eT 16)).getD .skip)
theorem Lf (B:Nat) (b1:Nat) (me:Int) (z1 z2 z3 z4:aB) (g n cap k:Nat) (y1 y2:Int) (yo:Option aK) (yn yc:Nat) (p:List C5) (i:Nat) (v:aB) (x x':ay) (h:Gm B b1 me z1 z2 z3 z4 g n cap k y1 y2 yo yn yc p i v x) (hb:Below x.heap.size x x'):Gm B b1 me z1 z2 z3 z4 g n cap k y1 y2 yo yn yc p i v x':=by
 by_cases hi:i<12
 ·rcases (by omega:i=0\/i=1\/i=2\/i=3\/i=4\/i=5\/i=6\/i=7\/i=8\/i=9\/i=10\/i=11) with rfl|rfl|rfl|rfl|rfl|rfl|rfl|rfl|rfl|rfl|rfl|rfl
  ·exact h
  ·exact h
  ·exact h
  ·exact h
  ·exact h
  ·exact h
  ·exact h
  ·exact h
  ·exact h
  ·obtain⟨s,h1,h2⟩:=h; exact⟨s,h1,Bk.dJ h2 hb⟩
  ·exact h
  ·exact h
 ·unfold Gm
  split <;> first | omega | trivial
theorem aaU (Q:Exit->Act->ay->Prop) (W:ay) (B0:Nat) (l:List nS) (b1:Nat) (me:Int) (z1 z2 z3 z4:aB) (g n cap k:Nat) (y1 y2:Int) (yo:Option aK) (yn yc:Nat) (p:List C5) (u0 u2 u3 u4 u6 u7 u8 u9 u10 u11 u12 u13 u14 u15 u16 u17 u18 u19 u20 u21 u22 u23 u24 u25 u26 u27 u28 u29 u30 u31 u32 u33 u34 u35 u36 u37 u38 u39 u40 u41 u42 u43 u44 u45 u46 u47 u48 u49 u50 u51 u52 u53 u54 u55 u56 u57 u58 u59 u60 u61 u62 u63 u64 u65 u66 u67 u68 u69 u70 u71 u72 u73 u74 u75 u76 u77 u78 u79 u80 u81:aB)
  (h1:dI W b1 #[aC aD me,z1,z2,z3,z4,L (U ⟨g,0,O⟩) n cap] 28) (ho:nI W B0 (L (U ⟨g,0,O⟩) n cap) l) (hy:l[k]?=U (y1,y2,(yo,yn,yc))) (hp:eY W (L yo yn yc) p) (lp:p.length<=900)
  (hQ:∀ (x:ay) (v68 v69 v70 v71 v72 v73 v74 v75 v76 v77 v78 v79:aB) (s1:Option aK) (s2 s3:Nat),gG x W.heap.size (L s1 s2 s3) p->nI x B0 (L (U ⟨g,0,O⟩) n cap) (l.set k (y1,y2,(s1,s2,s3)))->But g W x->(∀ B1,B1<=g->B1<=W.heap.size->Below B1 W x)->Q .normal ⟨(u0::J (U ⟨b1,0,O⟩)::u2::u3::u4::aC aD (k:Int)::u6::u7::u8::u9::u10::u11::u12::u13::u14::u15::u16::u17::u18::u19::u20::u21::u22::u23::u24::u25::u26::u27::u28::u29::u30::u31::u32::u33::u34::u35::u36::u37::u38::u39::u40::u41::u42::u43::u44::u45::u46::u47::u48::u49::u50::u51::u52::u53::u54::u55::u56::u57::u58::u59::u60::u61::u62::u63::u64::u65::u66::u67::v68::v69::v70::v71::v72::v73::v74::v75::v76::v77::v78::v79::u80::u81::[]).toArray,[]⟩ x) :
  Code.wp aJ RP Q ⟨(u0::J (U ⟨b1,0,O⟩)::u2::u3::u4::aC aD (k:Int)::u6::u7::u8::u9::u10::u11::u12::u13::u14::u15::u16::u17::u18::u19::u20::u21::u22::u23::u24::u25::u26::u27::u28::u29::u30::u31::u32::u33::u34::u35::u36::u37::u38::u39::u40::u41::u42::u43::u44::u45::u46::u47::u48::u49::u50::u51::u52::u53::u54::u55::u56::u57::u58::u59::u60::u61::u62::u63::u64::u65::u66::u67::u68::u69::u70::u71::u72::u73::u74::u75::u76::u77::u78::u79::u80::u81::[]).toArray,[]⟩ W:=by
 have HQ:=ak hQ;have H1:=ak h1;have HO:=ak ho;have HY:=ak hy;have HP:=ak hp;have LP:=ak lp;have IX:=ak (jV okW g k n cap (by obtain⟨_,_,hv⟩:=(Row.dG ho).len; have h:=(aA.1 hy).1; simp at hv; omega));have EL:=ak (jr okW ho hy);clear hQ h1 ho hy hp lp;have jG:=Lf W.heap.size b1 me z1 z2 z3 z4 g n cap k y1 y2 yo yn yc p;unfold RP
 conv=>arg 2; whnf
 have nd:∀ j,(j<68\/80<=j)->∀ i,i<12->(fun i=>68+i) i≠j:=by
  intro j hj i hi h;simp only at h;omega
 refine bN 13 12 (fun i=>68+i) (fun _=>12) (Gm W.heap.size b1 me z1 z2 z3 z4 g n cap k y1 y2 yo yn yc p) (by kernel_rfl) (by kernel_rfl) rfl (by decide) (fun i j _ _ h=>by have h2:68+i=68+j:=h; omega) (fun i hi=>by show 68+i<82; omega) ?_ (fun _=>bR 14 (by kernel_rfl)) ?_ ?_
 ·intro i o hi ho a x D hnd hc hD hb seen K hK;clear HQ;rcases (by omega:i=0\/i=1\/i=2\/i=3\/i=4\/i=5\/i=6\/i=7\/i=8\/i=9\/i=10\/i=11) with rfl|rfl|rfl|rfl|rfl|rfl|rfl|rfl|rfl|rfl|rfl|rfl
  ·cases ho;have e1:a.eval (au 1)=J (U ⟨b1,0,O⟩):=seen.kp 1 _ (nd 1 (by omega)) rfl;exact aG rfl rfl (aO a.eval _ 28 (au 1) 5 rfl (by rw [e1]; simp [go_sem])) (hK _ _ rfl (V _ _) fun _ _ _ _ _ _ _ h=>h)
  ·cases ho;have e68:a.eval (au 68)=J (U ⟨b1,5,O⟩):=seen.at_ ⟨0,.data⟩ (by simp) rfl (aF (by decide));have y5:=(H1.out.on hb).cell 5;simp only [Z,ah,aj] at y5;exact aG rfl rfl (aU a.eval _ 26 (au 68) rfl (by rw [e68]; simp [go_sem,y5])) (hK _ _ rfl (V _ _) fun _ _ _ _ _ _ _ h=>h)
  ·cases ho;have e5:a.eval (au 5)=aC aD (k:Int):=seen.kp 5 _ (nd 5 (by omega)) rfl;exact aG rfl rfl (bG a.eval _ (au 5) rfl x) (hK _ _ e5 (V _ _) fun _ _ _ _ _ _ _ h=>h)
  ·cases ho;have e1:a.eval (au 1)=J (U ⟨b1,0,O⟩):=seen.kp 1 _ (nd 1 (by omega)) rfl;exact aG rfl rfl (aO a.eval _ 28 (au 1) 5 rfl (by rw [e1]; simp [go_sem])) (hK _ _ rfl (V _ _) fun _ _ _ _ _ _ _ h=>h)
  ·cases ho;have e71:a.eval (au 71)=J (U ⟨b1,5,O⟩):=seen.at_ ⟨3,.data⟩ (by simp) rfl (aF (by decide));have y5:=(H1.out.on hb).cell 5;simp only [Z,ah,aj] at y5;exact aG rfl rfl (aU a.eval _ 26 (au 71) rfl (by rw [e71]; simp [go_sem,y5])) (hK _ _ rfl (V _ _) fun _ _ _ _ _ _ _ h=>h)
  ·cases ho;have e5:a.eval (au 5)=aC aD (k:Int):=seen.kp 5 _ (nd 5 (by omega)) rfl;exact aG rfl rfl (bG a.eval _ (au 5) rfl x) (hK _ _ e5 (V _ _) fun _ _ _ _ _ _ _ h=>h)
  ·cases ho;have e72:a.eval (au 72)=L (U ⟨g,0,O⟩) n cap:=seen.at_ ⟨4,.data⟩ (by simp) rfl (aF (by decide));have e73:a.eval (au 73)=aC aD (k:Int):=seen.at_ ⟨5,.data⟩ (by simp) rfl (aF (by decide));exact aG rfl rfl (bH a.eval _ 26 (au 72) (au 73) rfl (by rw [e72,e73]; exact IX.out x)) (hK _ _ rfl (V _ _) fun _ _ _ _ _ _ _ h=>h)
  ·cases ho;have e74:a.eval (au 74)=J (U ⟨g,k * 3,O⟩):=seen.at_ ⟨6,.data⟩ (by simp) rfl (aF (by decide));exact aG rfl rfl (aO a.eval _ 34 (au 74) 1 rfl (by rw [e74]; simp [go_sem])) (hK _ _ rfl (V _ _) fun _ _ _ _ _ _ _ h=>h)
  ·cases ho;have e75:a.eval (au 75)=J (U ⟨g,k * 3+2,O⟩):=seen.at_ ⟨7,.data⟩ (by simp) rfl (aF (by decide));have y:=EL.out x hb 2 _ rfl;simp [Addr.add,EW] at y;exact aG rfl rfl (aU a.eval _ 32 (au 75) rfl (by rw [e75]; simp [go_sem,y])) (hK _ _ rfl (V _ _) fun _ _ _ _ _ _ _ h=>h)
  ·cases ho;have e76:a.eval (au 76)=L yo yn yc:=seen.at_ ⟨8,.data⟩ (by simp) rfl (aF (by decide));exact bK rfl rfl (Rw.gu a.eval _ (au 76) 32 123 rfl e76 rfl _ (fI bg rfl rfl _ _)) (kE (yo,yn,yc) p x (HP.out.on hb) LP.out) fun e w1 h=>by
    obtain⟨⟨s,rfl,h1⟩,h3⟩:=h;exact⟨_,rfl,hK _ _ ⟨s,rfl,dK h1 hb.size⟩ (h3.mono hb.size) fun j u hj _ _ _ hne h=>jG j u _ _ h h3⟩
  ·cases ho;have e69:a.eval (au 69)=L (U ⟨g,0,O⟩) n cap:=seen.at_ ⟨1,.data⟩ (by simp) rfl (aF (by decide));have e70:a.eval (au 70)=aC aD (k:Int):=seen.at_ ⟨2,.data⟩ (by simp) rfl (aF (by decide));exact aG rfl rfl (bH a.eval _ 26 (au 69) (au 70) rfl (by rw [e69,e70]; exact IX.out x)) (hK _ _ rfl (V _ _) fun _ _ _ _ _ _ _ h=>h)
  ·cases ho;have e78:a.eval (au 78)=J (U ⟨g,k * 3,O⟩):=seen.at_ ⟨10,.data⟩ (by simp) rfl (aF (by decide));exact aG rfl rfl (aO a.eval _ 34 (au 78) 1 rfl (by rw [e78]; simp [go_sem])) (hK _ _ rfl (V _ _) fun _ _ _ _ _ _ _ h=>h)
 ·intro kk o h1 h2 ho;omega
 ·intro a w' df sz kp ⟨vs,hv⟩ hb;have sz':a.tmps.size=82:=sz;have g79:a.tmps[79]?=U (J (U ⟨g,k * 3+2,O⟩)):=by
   have h:vs 11=J (U ⟨g,k * 3+2,O⟩):=(hv 11 (by omega)).2 (by decide);rw [<- h];exact (hv 11 (by omega)).1
  obtain⟨⟨s1,s2,s3⟩,hs,hc⟩:=(hv 9 (by omega)).2 (by decide);have g77:a.tmps[77]?=U (L s1 s2 s3):=((hv 9 (by omega)).1).trans (congrArg U hs);rw [hs] at hc;obtain⟨w2,hr,st1,st2,XH⟩:=Vd (k:=k) s1 s2 s3 (Bk.dJ HO.out hb) HY.out;obtain⟨cur,hg⟩:=jm (Bk.dJ HO.out hb);show bf _ _ _ 1 12 a w';simp only [bf];refine bL 32 (au 79) (au 77) rfl rfl rfl rfl (aV g79) (aV g77) (w':=w2) hr ?_;have pQ:∀ j,(j<68\/80<=j)->(a).tmps[j]?=(u0::J (U ⟨b1,0,O⟩)::u2::u3::u4::aC aD (k:Int)::u6::u7::u8::u9::u10::u11::u12::u13::u14::u15::u16::u17::u18::u19::u20::u21::u22::u23::u24::u25::u26::u27::u28::u29::u30::u31::u32::u33::u34::u35::u36::u37::u38::u39::u40::u41::u42::u43::u44::u45::u46::u47::u48::u49::u50::u51::u52::u53::u54::u55::u56::u57::u58::u59::u60::u61::u62::u63::u64::u65::u66::u67::u68::u69::u70::u71::u72::u73::u74::u75::u76::u77::u78::u79::u80::u81::[])[j]?:=fun j hj=>(kp j (nd j (by omega))).trans Z;obtain⟨mid,hmid,hfr⟩:=bS (a:=a) 68 12 df (by simp [sz']) (by simp) pQ;show Q .normal (a) _;rw [hfr]
  match mid,hmid with
  | [v68,v69,v70,v71,v72,v73,v74,v75,v76,v77,v78,v79],_ =>
   exact HQ.out _ _ _ _ _ _ _ _ _ _ _ _ _ s1 s2 s3 (st2.own hc hg (by decide)) st1 ((But.of_below hb).trans st2) fun B1 hB hl=>XH B1 W hB (hb.mono hl)
end Av
end Go.Proofs.YtmklifheakemeaaGreat
