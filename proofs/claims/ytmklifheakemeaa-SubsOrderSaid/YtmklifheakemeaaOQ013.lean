/-
  copyAdvert of packag. Conditions as told.
-/
import Derived.Test.YtmklifheakemeaaOQ010
import Derived.Test.YtmklifheakemeaaOQ012
set_option maxRecDepth 100000
set_option maxHeartbeats 64000000
open _root_.Go renaming World->J,Value->V,TypeId->aC
open Go.IntKind renaming i64->U
open Go.Lib renaming hid->ah
open Go.Value renaming slice->D,int->Q,pointer->aD
open _root_.List renaming set_cons_succ->Z,getElem?_cons_zero->aj,getElem?_cons_succ->ak,cons_append->au,nil_append->ay,length_set->aA,getElem?_toArray->aB,length->aF
open _root_.Option renaming none->L,some->O
namespace Go.Proofs.Ytmklifheakemeaa
namespace Av
open Go.RowKit Go.Sort Rw Ytmklifheakemeaa.Nm Pr Bk
abbrev A8 (W:J) (b:Nat) (a0 a1 a2 a3:V):J:=(((W.setCell ⟨b,0,L⟩ a0).setCell ⟨b,1,L⟩ a1).setCell ⟨b,2,L⟩ a2).setCell ⟨b,3,L⟩ a3
theorem o7 {W:J} {b:Nat} {t:aC} {z0 z1 z2 z3:V} (h:dz W b #[z0,z1,z2,z3] t) (a0 a1 a2 a3:V):dz (A8 W b a0 a1 a2 a3) b #[a0,a1,a2,a3] t:=by
 have h2:=dX (k:=3) (dX (k:=2) (dX (k:=1) (dX (k:=0) h a0) a1) a2) a3;simpa using h2
theorem mD {B:Nat} {W0 W:J} {b:Nat} (h:Below B W0 W) (hb:B<=b) (a0 a1 a2 a3:V):Below B W0 (A8 W b a0 a1 a2 a3) :=
 (((h.setCell (p:=⟨b,0,L⟩) hb a0).setCell (p:=⟨b,1,L⟩) hb a1).setCell (p:=⟨b,2,L⟩) hb a2).setCell (p:=⟨b,3,L⟩) hb a3
theorem uG {α:Type} {E:Ek α} {W:J} {B:Nat} {v:V} {l:List α} (h:Own E W B v l) (b:Nat) (hb:b<B) (a0 a1 a2 a3:V):Own E (A8 W b a0 a1 a2 a3) B v l :=
 dQ (dQ (dQ (dQ h b 0 a0 hb) b 1 a1 hb) b 2 a2 hb) b 3 a3 hb
theorem o8 (x:iN) (p:List C5) (w:J) (hp:ig w (dO x.2.2.1) p) (hl:p.length<=900) :
  Calls Try.prog 21 #[jv x] w fun e w'=>(∃ v':Sl,e=.returned (jv (x.1,x.2.1,v',x.2.2.2))/\kE w' w.heap.size (dO v') p)/\Below w.heap.size w w':=by
 obtain⟨a,b,⟨s1,s2,s3⟩,q⟩:=x;obtain⟨h0,X,Y⟩:=iC w #[Q U a,Q U b,D s1 s2 s3,Q U q] #[Q U 0,Q U 0,D L 0 0,Q U 0] 37 37;have C:=ah (jT (s1,s2,s3) p _ (hp.on h0) hl);have B:=ah h0;have x2:=X.cell 2;simp only [aB,aj,ak] at x2;have X:=ah X;have Y:=ah Y;clear h0 hp hl;go_enter Try.func21,Try.ntmps21;go_wp2_with fail;generalize (w.alloc (.cells #[Q U a,Q U b,D s1 s2 s3,Q U q] 37)).alloc (.cells #[Q U 0,Q U 0,D L 0 0,Q U 0] 37)=W at *;refine C.out.mono ?_;rintro e w1 ⟨⟨⟨u1,u2,u3⟩,rfl,ho⟩,hb⟩;have X1:=X.out.on hb;have Y1:=Y.out.on hb;have hs:w.heap.size<W.heap.size:=X.out.lt;have O1:=ah (dQ ho w.heap.size 2 (D u1 u2 u3) hs);have XB:=ah (show dz _ _ #[Q U a,Q U b,D u1 u2 u3,Q U q] _ from by simpa using dX (k:=2) X1 (D u1 u2 u3));have YB:=ah (show dz _ _ _ _ from (RowKit.Below.heap_setCell w1 ⟨w.heap.size,2,L⟩ (D u1 u2 u3) _ (show w.heap.size+1≠w.heap.size by omega)).trans Y1);have B1:=ah ((B.out.trans (hb.mono B.out.size)).setCell (p:=⟨w.heap.size,2,L⟩) (Nat.le_refl _) (D u1 u2 u3));have y2:=X1.cell 2;have f2:=X1.fr 2;have z2:=X1.lt;simp only [aB,aj,ak] at y2;clear X1 Y1 ho hb x2 C;go_upto_region 2 with fail;clear y2 f2 z2;generalize w1.setCell ⟨w.heap.size,2,L⟩ (D u1 u2 u3)=w2 at *;obtain⟨x0,x1,x2,x3⟩:=XB.out.Ak;obtain⟨r0,r1,r2,r3⟩:=YB.out.Ak;obtain⟨t0,t1,t2,t3⟩:=YB.out.Nw;have zz:=YB.out.lt;have hs2:w.heap.size+1<W.heap.size:=Y.out.lt;have FB:=ah (o7 YB.out (Q U a) (Q U b) (D u1 u2 u3) (Q U q));have BL:=ah (mD (b:=w.heap.size+1) B1.out (by omega) (Q U a) (Q U b) (D u1 u2 u3) (Q U q));have FO:=ah (uG O1.out (w.heap.size+1) hs2 (Q U a) (Q U b) (D u1 u2 u3) (Q U q));have HS:=ah hs;clear hs hs2;go_wp2_with fail;obtain⟨v0,v1,v2,v3⟩:=FB.out.Ak;refine bodyPost_ret (v:=.agg #[Q U a,Q U b,D u1 u2 u3,Q U q]) (by simp [results,Try.results21,go_sem,v0,v1,v2,v3]) rfl ?_;exact⟨⟨(u1,u2,u3),rfl,dF FO.out (Nat.le_of_lt HS.out)⟩,BL.out⟩
theorem gM {α:Type} {E:Ek α} (K:E.Ok) {W:J} {B g n cap k:Nat} {l:List α} {x:α} (h:Own E W B (D (O ⟨g,0,L⟩) n cap) l) (hk:l[k]?=O x):∀ w,Below W.heap.size W w->∀ j u,(E.cells x)[j]?=O u->w.cell? ((⟨g,k * E.n,L⟩:Addr).add j)=O u:=by
 obtain⟨ao,c,hv⟩:=(Row.dG h).len;obtain⟨rfl,rfl,rfl⟩:O ⟨g,0,L⟩=ao/\n=l.length/\cap=c:=by simpa using hv
 obtain⟨p,h1,_,h2⟩:=kD K (Row.dG h) rfl rfl hk;have h3:=kX K g k l.length cap (List.getElem?_eq_some_iff.1 hk).1 W;rw [h1] at h3;injection h3 with h4 _
 injection h4 with h5
 injection h5 with h6
 subst h6;exact h2
theorem fP {α:Type} {E:Ek α} {W:J} {B g n cap:Nat} {l:List α} (h:Own E W B (D (O ⟨g,0,L⟩) n cap) l):∃ cur,dz W g cur E.t:=by
 rcases eX h with⟨h1,_⟩|⟨g',c',cur,h1,_,h2,_⟩
 ·cases h1
 ·obtain⟨rfl,_⟩:g=g'/\True:=by simp at h1; exact⟨h1.1,trivial⟩
  exact⟨cur,h2⟩
theorem iM {W:J} {b g:Nat} {c d:Array V} {s t:aC} (hb:dz W b c s) (hg:dz W g d t) (hne:(s == t)=false):b≠g:=by
 rintro rfl;unfold dz at hb hg;rw [hb] at hg;injection hg with h
 injection h with _ h2
 rw [h2] at hne;simp at hne
def But (g:Nat) (W x:J):Prop:=(∀ k,k<W.heap.size->k≠g->x.heap[k]?=W.heap[k]?)/\W.heap.size<=x.heap.size
theorem But.box {g b:Nat} {W x:J} {cs:Array V} {t:aC} (h:But g W x) (hb:dz W b cs t) (hne:b≠g):dz x b cs t:=(h.1 b hb.lt hne).trans hb
theorem But.own {α:Type} {E:Ek α} {g:Nat} {W x:J} {B:Nat} {v:V} {l:List α} {d:Array V} {t:aC} (h:But g W x) (ho:Own E W B v l) (hg:dz W g d t) (hne:(E.t == t)=false):Own E x B v l:=by
 refine⟨ho.1,?_⟩;rcases ho.2 with h2|⟨g',cap,cur,h1,h2,h3,h4⟩
 ·exact Or.inl h2
 ·exact Or.inr ⟨g',cap,cur,h1,h2,by rw [h.1 g' (lt_of_heap h3) (iM (show dz W g' cur E.t from h3) hg hne)]; exact h3,h4⟩
theorem qR:∀ (l:List iN) (k:Nat) (x:iN),k<l.length->flat ED (l.set k x)=((((flat ED l).set (k * 4) (Q U x.1)).set (k * 4+1) (Q U x.2.1)).set (k * 4+2) (dO x.2.2.1)).set (k * 4+3) (Q U x.2.2.2)
 | [],k,x,h=>by simp at h
 | y::r,0,x,_=>rfl
 | y::r,k+1,x,h=>by
  have ih:=qR r k x (by simpa using h);rw [show (k+1) * 4+3=(k * 4+3)+1+1+1+1 by omega,show (k+1) * 4+2=(k * 4+2)+1+1+1+1 by omega,show (k+1) * 4+1=(k * 4+1)+1+1+1+1 by omega,show (k+1) * 4=(k * 4)+1+1+1+1 by omega];simp only [Z,flat,ED,cellsD,au,ay] at ih ⊢;rw [ih]
theorem qU:∀ (l:List fE) (k:Nat) (x:fE) (s:Sl),l[k]?=O x->flat EN (l.set k (x.1,x.2.1,x.2.2.1,x.2.2.2.1,s,x.2.2.2.2.2.1,x.2.2.2.2.2.2))=(flat EN l).set (k * 7+4) (dO s)
 | [],k,x,s,h=>by simp at h
 | y::r,0,x,s,h=>by
  obtain rfl:y=x:=by simpa using h
  rfl
 | y::r,k+1,x,s,h=>by
  have ih:=qU r k x s (by simpa using h);rw [show (k+1) * 7+4=(k * 7+4)+1+1+1+1+1+1+1 by omega];simp only [Z,flat,EN,eY,au,ay] at ih ⊢;rw [ih]
theorem qV:∀ (l:List qp) (k:Nat) (x:qp) (s:Sl),l[k]?=O x->flat EW (l.set k (x.1,x.2.1,s))=(flat EW l).set (k * 3+2) (dO s)
 | [],k,x,s,h=>by simp at h
 | y::r,0,x,s,h=>by
  obtain rfl:y=x:=by simpa using h
  rfl
 | y::r,k+1,x,s,h=>by
  have ih:=qV r k x s (by simpa using h);rw [show (k+1) * 3+2=(k * 3+2)+1+1+1 by omega];simp only [Z,flat,EW,sN,au,ay] at ih ⊢;rw [ih]
def Ji {α:Type} (E:Ek α) (B g:Nat) (v:V) (l:List α) (w w':J):Prop:=Own E w' B v l/\But g w w'/\(∀ B' W,B'<=g->Below B' W w->Below B' W w')
theorem dN (w:J) (g j:Nat) (u:V):But g w (w.setCell ⟨g,j,L⟩ u):=⟨fun k _ hk=>RowKit.Below.heap_setCell w ⟨g,j,L⟩ u k hk,by simp⟩
theorem But.trans {g:Nat} {a b c:J} (h1:But g a b) (h2:But g b c):But g a c:=⟨fun k hk hne=>(h2.1 k (Nat.lt_of_lt_of_le hk h1.2) hne).trans (h1.1 k hk hne),Nat.le_trans h1.2 h2.2⟩
theorem But.of_below {g:Nat} {a b:J} (h:Below a.heap.size a b):But g a b:=⟨fun k hk _=>h.block k hk,h.size⟩
theorem Jj {w:J} {B g n cap k:Nat} {l:List iN} (x:iN) (h:mo w B (D (O ⟨g,0,L⟩) n cap) l) (hk:k<l.length) :
  ∃ w',(Instr.storeAt 37 (aD (O ⟨g,k * 4,L⟩)) (jv x)).run Try.prog w=.ok () w'/\Ji ED B g (D (O ⟨g,0,L⟩) n cap) (l.set k x) w w':=by
 obtain⟨y,hy⟩:∃ y,l[k]?=O y:=⟨_,List.getElem?_eq_getElem hk⟩;have c:=gM okD h hy w (Below.refl _ _);have c0:=c 0 _ rfl;have c1:=c 1 _ rfl;have c2:=c 2 _ rfl;have c3:=c 3 _ rfl;simp [Addr.add,ED] at c0 c1 c2 c3;obtain⟨cur,hb⟩:=fP h;have f:=fun j=>hb.fr j;obtain⟨ao,c',hv⟩:=(Row.dG h).len;obtain⟨_,rfl,_⟩:O ⟨g,0,L⟩=ao/\n=l.length/\cap=c':=by simpa using hv
 have h:w.ownsRow B 37 4 (D (O ⟨g,0,L⟩) l.length cap) l.length (flat ED l):=h;have s1:=(h.stored (k * 4) (Q U x.1)).1;have s2:=(s1.stored (k * 4+1) (Q U x.2.1)).1;have s3:=(s2.stored (k * 4+2) (dO x.2.2.1)).1;have s4:=(s3.stored (k * 4+3) (Q U x.2.2.2)).1;refine⟨(((w.setCell ⟨g,k * 4,L⟩ (Q U x.1)).setCell ⟨g,k * 4+1,L⟩ (Q U x.2.1)).setCell ⟨g,k * 4+2,L⟩ (dO x.2.2.1)).setCell ⟨g,k * 4+3,L⟩ (Q U x.2.2.2),?_,?_,((dN _ g _ _).trans (dN _ g _ _)).trans ((dN _ g _ _).trans (dN _ g _ _)),fun B' W hB hb=>(((hb.setCell (p:=⟨g,_,L⟩) hB _).setCell (p:=⟨g,_,L⟩) hB _).setCell (p:=⟨g,_,L⟩) hB _).setCell (p:=⟨g,_,L⟩) hB _⟩
 ·simp [go_sem,c0,c1,c2,c3,f]
 ·have e:=qR l k x hk;show World.ownsRow _ B 37 4 _ (l.set k x).length (flat ED (l.set k x));rw [e,aA];exact s4
theorem Jk {w:J} {B g n cap k:Nat} {l:List fE} {x:fE} (s1:Option Addr) (s2 s3:Nat) (h:gF w B (D (O ⟨g,0,L⟩) n cap) l) (hk:l[k]?=O x) :
  ∃ w',(Instr.storeAt 35 (aD (O ⟨g,k * 7+4,L⟩)) (D s1 s2 s3)).run Try.prog w=.ok () w'/\Ji EN B g (D (O ⟨g,0,L⟩) n cap) (l.set k (x.1,x.2.1,x.2.2.1,x.2.2.2.1,(s1,s2,s3),x.2.2.2.2.2.1,x.2.2.2.2.2.2)) w w':=by
 have c:=gM iO h hk w (Below.refl _ _);have c4:=c 4 _ rfl;simp [Addr.add,EN] at c4;obtain⟨cur,hb⟩:=fP h;have f:=hb.fr (k * 7+4);obtain⟨ao,c',hv⟩:=(Row.dG h).len;obtain⟨_,rfl,_⟩:O ⟨g,0,L⟩=ao/\n=l.length/\cap=c':=by simpa using hv
 have h:w.ownsRow B 43 7 (D (O ⟨g,0,L⟩) l.length cap) l.length (flat EN l):=h;have t1:=(h.stored (k * 7+4) (D s1 s2 s3)).1;refine⟨w.setCell ⟨g,k * 7+4,L⟩ (D s1 s2 s3),by simp [go_sem,c4,f],?_,dN _ g _ _,fun B' W hB hb=>hb.setCell (p:=⟨g,_,L⟩) hB _⟩;have e:=qU l k x (s1,s2,s3) hk;show World.ownsRow _ B 43 7 _ (aF _) (flat EN _);rw [e,aA];exact t1
theorem Jl {w:J} {B g n cap k:Nat} {l:List qp} {x:qp} (s1:Option Addr) (s2 s3:Nat) (h:sO w B (D (O ⟨g,0,L⟩) n cap) l) (hk:l[k]?=O x) :
  ∃ w',(Instr.storeAt 35 (aD (O ⟨g,k * 3+2,L⟩)) (D s1 s2 s3)).run Try.prog w=.ok () w'/\Ji EW B g (D (O ⟨g,0,L⟩) n cap) (l.set k (x.1,x.2.1,(s1,s2,s3))) w w':=by
 have c:=gM okW h hk w (Below.refl _ _);have c2:=c 2 _ rfl;simp [Addr.add,EW] at c2;obtain⟨cur,hb⟩:=fP h;have f:=hb.fr (k * 3+2);obtain⟨ao,c',hv⟩:=(Row.dG h).len;obtain⟨_,rfl,_⟩:O ⟨g,0,L⟩=ao/\n=l.length/\cap=c':=by simpa using hv
 have h:w.ownsRow B 90 3 (D (O ⟨g,0,L⟩) l.length cap) l.length (flat EW l):=h;have t1:=(h.stored (k * 3+2) (D s1 s2 s3)).1;refine⟨w.setCell ⟨g,k * 3+2,L⟩ (D s1 s2 s3),by simp [go_sem,c2,f],?_,dN _ g _ _,fun B' W hB hb=>hb.setCell (p:=⟨g,_,L⟩) hB _⟩;have e:=qV l k x (s1,s2,s3) hk;show World.ownsRow _ B 90 3 _ (aF _) (flat EW _);rw [e,aA];exact t1
theorem dV.set {α β:Type} {R:α->β->Prop}:∀ {l:List α} {m:List β} (k:Nat) (a:α) (b:β),dV R l m->m[k]?=O b->R a b->dV R (l.set k a) m
 | _,_,_,_,_,.nil,h,_=>by simp at h
 | _,_,0,a,b,.cons x t,h,hr=>by
  simp at h;subst h;exact .cons hr t
 | _,_,k+1,a,b,.cons x t,h,hr=>.cons x (dV.set k a b t (by simpa using h) hr)
def PM (w0:J) (B:Nat) (wr:J) (v:V) (p:List C5):Prop:=ig w0 v p\/kE wr B v p
def vO (w0:J) (B:Nat) (wr:J) (x:iN) (a:Ad):Prop:=(x.1,x.2.1)=a.id/\x.2.2.2=a.par/\PM w0 B wr (dO x.2.2.1) a.p
def jZ (w0:J) (B:Nat) (wr:J) (x:fE) (a:En):Prop:=(x.1,x.2.1)=a.tree/\(x.2.2.1,x.2.2.2.1)=a.sub/\x.2.2.2.2.2.1=a.from_/\x.2.2.2.2.2.2=a.up/\PM w0 B wr (dO x.2.2.2.2.1) a.p
def xD (w0:J) (B:Nat) (wr:J) (x:qp) (a:Ow):Prop:=(x.1,x.2.1)=a.id/\PM w0 B wr (dO x.2.2) a.p
theorem PM.grow {w0 wr x:J} {B:Nat} {v:V} {p:List C5} (h:PM w0 B wr v p) (hb:Below wr.heap.size wr x):PM w0 B x v p:=h.imp id fun h=>Bk.dB h hb
theorem PM.but {w0 wr x:J} {B:Nat} {v:V} {p:List C5} {g:Nat} {d:Array V} {t:aC} (h:PM w0 B wr v p) (hb:But g wr x) (hg:dz wr g d t) (hne:(56 == t)=false):PM w0 B x v p:=h.imp id fun h=>hb.own h hg hne
theorem PM.row {w0 wr:J} {B:Nat} {v:V} {p:List C5} (h:PM w0 B wr v p) (hb:Below w0.heap.size w0 wr):ig wr v p:=h.elim (fun h=>h.on hb) Row.dG
theorem vO.grow {w0 wr x:J} {B:Nat} {y:iN} {a:Ad} (h:vO w0 B wr y a) (hb:Below wr.heap.size wr x):vO w0 B x y a:=⟨h.1,h.2.1,h.2.2.grow hb⟩
theorem jZ.grow {w0 wr x:J} {B:Nat} {y:fE} {a:En} (h:jZ w0 B wr y a) (hb:Below wr.heap.size wr x):jZ w0 B x y a:=⟨h.1,h.2.1,h.2.2.1,h.2.2.2.1,h.2.2.2.2.grow hb⟩
theorem xD.grow {w0 wr x:J} {B:Nat} {y:qp} {a:Ow} (h:xD w0 B wr y a) (hb:Below wr.heap.size wr x):xD w0 B x y a:=⟨h.1,h.2.grow hb⟩
theorem vO.but {w0 wr x:J} {B:Nat} {y:iN} {a:Ad} {g:Nat} {d:Array V} {t:aC} (h:vO w0 B wr y a) (hb:But g wr x) (hg:dz wr g d t) (hne:(56 == t)=false):vO w0 B x y a:=⟨h.1,h.2.1,h.2.2.but hb hg hne⟩
theorem jZ.but {w0 wr x:J} {B:Nat} {y:fE} {a:En} {g:Nat} {d:Array V} {t:aC} (h:jZ w0 B wr y a) (hb:But g wr x) (hg:dz wr g d t) (hne:(56 == t)=false):jZ w0 B x y a:=⟨h.1,h.2.1,h.2.2.1,h.2.2.2.1,h.2.2.2.2.but hb hg hne⟩
theorem xD.but {w0 wr x:J} {B:Nat} {y:qp} {a:Ow} {g:Nat} {d:Array V} {t:aC} (h:xD w0 B wr y a) (hb:But g wr x) (hg:dz wr g d t) (hne:(56 == t)=false):xD w0 B x y a:=⟨h.1,h.2.but hb hg hne⟩
def vw (w:J):J:={ w with heap:=#[] }
theorem o9 {w x:J} {B:Nat} (h:Below B w x):Below (vw w).heap.size (vw w) x:=⟨h.os,h.tape,h.output,Nat.zero_le _,fun k hk=>absurd hk (Nat.not_lt_zero k)⟩
theorem Fb (w:J) (a:Addr):(vw w).cell? a=L:=by
 unfold World.cell? vw;simp
theorem wC {α:Type} {E:Ek α} {w x:J} {v:V} {l:List α} (h:Row E (vw w) v l):Row E x v l:=by
 rcases h with h|⟨a,cap,h1,h2,h3,h4⟩
 ·exact Or.inl h
 ·refine Or.inr ⟨a,cap,h1,h2,h3,fun j u hj=>?_⟩;have h5:=h4 j u hj;rw [Fb] at h5;cases h5
theorem lZ {α:Type}:∀ (l:List α) (k:Nat) (x:α),k<l.length->(l.set k x).take (k+1)=l.take k++[x]
 | [],k,x,h=>absurd h (Nat.not_lt_zero k)
 | _::_,0,_,_=>rfl
 | a::l,k+1,x,h=>by
  rw [Z,List.take_succ_cons,lZ l k x (by simpa using h)]
  rfl
theorem nJ {α β:Type} {R:α->β->Prop} {l:List α} {m:List β} {k:Nat} {x:α} {y:β} (h:dV R (l.take k) (m.take k)) (hk:k<l.length) (hy:m[k]?=O y) (hx:R x y):dV R ((l.set k x).take (k+1)) (m.take (k+1)):=by
 rw [lZ l k x hk,List.take_add_one,hy];exact h.append (.cons hx .nil)
structure Cp (w0:J) (B:Nat) (wr:J) (b:Br) (nv av sv ev ov:Sl):Prop where
 near:oK wr B (dO nv) b.near
 seen:uf wr B (dO sv) b.seen
 fB:∃ l,mo wr B (dO av) l/\dV (vO w0 B wr) l b.fB
 ent:∃ l,gF wr B (dO ev) l/\dV (jZ w0 B wr) l b.ent
 own:∃ l,sO wr B (dO ov) l/\dV (xD w0 B wr) l b.own
theorem Cp.grow {w0 wr x:J} {B:Nat} {b:Br} {nv av sv ev ov:Sl} (h:Cp w0 B wr b nv av sv ev ov) (hb:Below wr.heap.size wr x):Cp w0 B x b nv av sv ev ov where
 near:=Bk.dB h.near hb
 seen:=Bk.dB h.seen hb
 fB:=by obtain⟨l,h1,h2⟩:=h.fB; exact⟨l,Bk.dB h1 hb,h2.mono fun _ _ h=>h.grow hb⟩
 ent:=by obtain⟨l,h1,h2⟩:=h.ent; exact⟨l,Bk.dB h1 hb,h2.mono fun _ _ h=>h.grow hb⟩
 own:=by obtain⟨l,h1,h2⟩:=h.own; exact⟨l,Bk.dB h1 hb,h2.mono fun _ _ h=>h.grow hb⟩
theorem Cp.but {w0 wr x:J} {B:Nat} {b:Br} {nv av sv ev ov:Sl} (h:Cp w0 B wr b nv av sv ev ov) {g:Nat} {d:Array V} (hb:But g wr x) (hg:dz wr g d 31):Cp w0 B x b nv av sv ev ov where
 near:=hb.own h.near hg (by decide)
 seen:=hb.own h.seen hg (by decide)
 fB:=by obtain⟨l,h1,h2⟩:=h.fB; exact⟨l,hb.own h1 hg (by decide),h2.mono fun _ _ h=>h.but hb hg (by decide)⟩
 ent:=by obtain⟨l,h1,h2⟩:=h.ent; exact⟨l,hb.own h1 hg (by decide),h2.mono fun _ _ h=>h.but hb hg (by decide)⟩
 own:=by obtain⟨l,h1,h2⟩:=h.own; exact⟨l,hb.own h1 hg (by decide),h2.mono fun _ _ h=>h.but hb hg (by decide)⟩
structure Cs (w0 w wr:J) (b:Br) (kd kn kw:Nat) (nv av sv ev ov:Sl):Prop where
 lW:Below w.heap.size w wr
 bx:dz wr w.heap.size #[Q U b.me,dO nv,dO av,dO sv,dO ev,dO ov] 31
 bz:dz wr (w.heap.size+1) #[Q U 0,D L 0 0,D L 0 0,D L 0 0,D L 0 0,D L 0 0] 31
 near:oK wr w.heap.size (dO nv) b.near
 seen:uf wr w.heap.size (dO sv) b.seen
 fB:∃ l,mo wr w.heap.size (dO av) l/\dV (vO w0 w.heap.size wr) l b.fB/\dV (vO (vw w0) w.heap.size wr) (l.take kd) (b.fB.take kd)
 ent:∃ l,gF wr w.heap.size (dO ev) l/\dV (jZ w0 w.heap.size wr) l b.ent/\dV (jZ (vw w0) w.heap.size wr) (l.take kn) (b.ent.take kn)
 own:∃ l,sO wr w.heap.size (dO ov) l/\dV (xD w0 w.heap.size wr) l b.own/\dV (xD (vw w0) w.heap.size wr) (l.take kw) (b.own.take kw)
theorem Cs.A8 {w0 w wr x:J} {b:Br} {kd kn kw kd':Nat} {nv sv ev ov:Sl} {g n cap:Nat} {l l':List iN} (h:Cs w0 w wr b kd kn kw nv (O ⟨g,0,L⟩,n,cap) sv ev ov) (ho:mo wr w.heap.size (D (O ⟨g,0,L⟩) n cap) l) (hx:mo x w.heap.size (D (O ⟨g,0,L⟩) n cap) l') (hb:But g wr x) (hw:Below w.heap.size w x) (hA:dV (vO w0 w.heap.size x) l' b.fB) (hV:dV (vO (vw w0) w.heap.size x) (l'.take kd') (b.fB.take kd')):Cs w0 w x b kd' kn kw nv (O ⟨g,0,L⟩,n,cap) sv ev ov:=by
 obtain⟨cur,hg⟩:=fP ho;exact {
  lW:=hw
  bx:=hb.box h.bx (iM h.bx hg (by decide))
  bz:=hb.box h.bz (iM h.bz hg (by decide))
  near:=hb.own h.near hg (by decide)
  seen:=hb.own h.seen hg (by decide)
  fB:=⟨l',hx,hA,hV⟩
  ent:=by obtain⟨l,h1,h2,h3⟩:=h.ent; exact⟨l,hb.own h1 hg (by decide),h2.mono fun _ _ h=>h.but hb hg (by decide),h3.mono fun _ _ h=>h.but hb hg (by decide)⟩
  own:=by obtain⟨l,h1,h2,h3⟩:=h.own; exact⟨l,hb.own h1 hg (by decide),h2.mono fun _ _ h=>h.but hb hg (by decide),h3.mono fun _ _ h=>h.but hb hg (by decide)⟩ }
theorem Cs.NH {w0 w wr x:J} {b:Br} {kd kn kw NI:Nat} {nv av sv ov:Sl} {g n cap:Nat} {l l':List fE} (h:Cs w0 w wr b kd kn kw nv av sv (O ⟨g,0,L⟩,n,cap) ov) (ho:gF wr w.heap.size (D (O ⟨g,0,L⟩) n cap) l) (hx:gF x w.heap.size (D (O ⟨g,0,L⟩) n cap) l') (hb:But g wr x) (hw:Below w.heap.size w x) (hA:dV (jZ w0 w.heap.size x) l' b.ent) (hV:dV (jZ (vw w0) w.heap.size x) (l'.take NI) (b.ent.take NI)):Cs w0 w x b kd NI kw nv av sv (O ⟨g,0,L⟩,n,cap) ov:=by
 obtain⟨cur,hg⟩:=fP ho;exact {
  lW:=hw
  bx:=hb.box h.bx (iM h.bx hg (by decide))
  bz:=hb.box h.bz (iM h.bz hg (by decide))
  near:=hb.own h.near hg (by decide)
  seen:=hb.own h.seen hg (by decide)
  fB:=by obtain⟨l,h1,h2,h3⟩:=h.fB; exact⟨l,hb.own h1 hg (by decide),h2.mono fun _ _ h=>h.but hb hg (by decide),h3.mono fun _ _ h=>h.but hb hg (by decide)⟩
  ent:=⟨l',hx,hA,hV⟩
  own:=by obtain⟨l,h1,h2,h3⟩:=h.own; exact⟨l,hb.own h1 hg (by decide),h2.mono fun _ _ h=>h.but hb hg (by decide),h3.mono fun _ _ h=>h.but hb hg (by decide)⟩ }
theorem Cs.setW {w0 w wr x:J} {b:Br} {kd kn kw NJ:Nat} {nv av sv ev:Sl} {g n cap:Nat} {l l':List qp} (h:Cs w0 w wr b kd kn kw nv av sv ev (O ⟨g,0,L⟩,n,cap)) (ho:sO wr w.heap.size (D (O ⟨g,0,L⟩) n cap) l) (hx:sO x w.heap.size (D (O ⟨g,0,L⟩) n cap) l') (hb:But g wr x) (hw:Below w.heap.size w x) (hA:dV (xD w0 w.heap.size x) l' b.own) (hV:dV (xD (vw w0) w.heap.size x) (l'.take NJ) (b.own.take NJ)):Cs w0 w x b kd kn NJ nv av sv ev (O ⟨g,0,L⟩,n,cap):=by
 obtain⟨cur,hg⟩:=fP ho;exact {
  lW:=hw
  bx:=hb.box h.bx (iM h.bx hg (by decide))
  bz:=hb.box h.bz (iM h.bz hg (by decide))
  near:=hb.own h.near hg (by decide)
  seen:=hb.own h.seen hg (by decide)
  fB:=by obtain⟨l,h1,h2,h3⟩:=h.fB; exact⟨l,hb.own h1 hg (by decide),h2.mono fun _ _ h=>h.but hb hg (by decide),h3.mono fun _ _ h=>h.but hb hg (by decide)⟩
  ent:=by obtain⟨l,h1,h2,h3⟩:=h.ent; exact⟨l,hb.own h1 hg (by decide),h2.mono fun _ _ h=>h.but hb hg (by decide),h3.mono fun _ _ h=>h.but hb hg (by decide)⟩
  own:=⟨l',hx,hA,hV⟩ }
end Av
namespace Bk
open Go.RowKit Go.Sort Rw Ytmklifheakemeaa.Nm Pr
def NK (x y:Id):Bool:=x.1 == y.1 && x.2 == y.2
theorem oC (x y:Id):NK x y=true↔x=y:=by
 obtain⟨a,b⟩:=x;obtain⟨c,d⟩:=y;simp [NK]
end Bk
namespace Pr
open Go.RowKit Go.Sort Pu Rw
end Pr
namespace At
open Go.RowKit Go.Sort Va In
end At
end Go.Proofs.Ytmklifheakemeaa
