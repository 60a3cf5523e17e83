/-
  copyAdvert of packag. Conditions as told.
-/
import Derived.Test.YtghlpefopidlaaaGreatOQ013
set_option maxRecDepth 100000
set_option maxHeartbeats 64000000
open _root_.Bool renaming false->au
open _root_.Go renaming World->J,Value->V,TypeId->aD
open Go.IntKind renaming i64->U
open Go.Lib renaming hid->ah
open Go.Value renaming slice->D,int->Q,pointer->aG
open _root_.List renaming set_cons_succ->Z,getElem?_cons_zero->aj,getElem?_cons_succ->ak,cons_append->ay,nil_append->aA,length_set->aB,getElem?_toArray->aC,take_add_one->aF,length->aH
open _root_.Option renaming none->L,some->O
namespace Go.Proofs.YtghlpefopidlaaaGreat
namespace Av
open Go.RowKit Go.Sort Rw YtghlpefopidlaaaGreat.Nm Pr Bk
abbrev J4 (W:J) (b:Nat) (a0 a1 a2 a3:V):J:=(((W.setCell ⟨b,0,L⟩ a0).setCell ⟨b,1,L⟩ a1).setCell ⟨b,2,L⟩ a2).setCell ⟨b,3,L⟩ a3
theorem uG {W:J} {b:Nat} {t:aD} {z0 z1 z2 z3:V} (h:dx W b #[z0,z1,z2,z3] t) (a0 a1 a2 a3:V):dx (J4 W b a0 a1 a2 a3) b #[a0,a1,a2,a3] t:=by
 have h2:=dY (k:=3) (dY (k:=2) (dY (k:=1) (dY (k:=0) h a0) a1) a2) a3;simpa using h2
theorem qb {B:Nat} {W0 W:J} {b:Nat} (h:Below B W0 W) (hb:B<=b) (a0 a1 a2 a3:V):Below B W0 (J4 W b a0 a1 a2 a3) :=
 (((h.setCell (p:=⟨b,0,L⟩) hb a0).setCell (p:=⟨b,1,L⟩) hb a1).setCell (p:=⟨b,2,L⟩) hb a2).setCell (p:=⟨b,3,L⟩) hb a3
theorem Am {α:Type} {E:Ek α} {W:J} {B:Nat} {v:V} {l:List α} (h:Own E W B v l) (b:Nat) (hb:b<B) (a0 a1 a2 a3:V):Own E (J4 W b a0 a1 a2 a3) B v l :=
 dZ (dZ (dZ (dZ h b 0 a0 hb) b 1 a1 hb) b 2 a2 hb) b 3 a3 hb
theorem uH (x:jD) (p:List C5) (w:J) (hp:gq w (dN x.2.2.1) p) (hl:p.length<=900) :
  Calls Tryz.prog 35 #[kR x] w fun e w'=>(∃ v':Sl,e=.returned (kR (x.1,x.2.1,v',x.2.2.2))/\ig w' w.heap.size (dN v') p)/\Below w.heap.size w w':=by
 obtain⟨a,b,⟨s1,s2,s3⟩,q⟩:=x;obtain⟨h0,X,Y⟩:=iO w #[Q U a,Q U b,D s1 s2 s3,Q U q] #[Q U 0,Q U 0,D L 0 0,Q U 0] 36 36;have C:=ah (jJ (s1,s2,s3) p _ (hp.on h0) hl);have B:=ah h0;have x2:=X.cell 2;simp only [aC,aj,ak] at x2;have X:=ah X;have Y:=ah Y;clear h0 hp hl;go_enter Tryz.func35,Tryz.ntmps35;go_wp2_with fail;generalize (w.alloc (.cells #[Q U a,Q U b,D s1 s2 s3,Q U q] 36)).alloc (.cells #[Q U 0,Q U 0,D L 0 0,Q U 0] 36)=W at *;refine C.out.mono ?_;rintro e w1 ⟨⟨⟨u1,u2,u3⟩,rfl,ho⟩,hb⟩;have X1:=X.out.on hb;have Y1:=Y.out.on hb;have hs:w.heap.size<W.heap.size:=X.out.lt;have O1:=ah (dZ ho w.heap.size 2 (D u1 u2 u3) hs);have XB:=ah (show dx _ _ #[Q U a,Q U b,D u1 u2 u3,Q U q] _ from by simpa using dY (k:=2) X1 (D u1 u2 u3));have YB:=ah (show dx _ _ _ _ from (RowKit.Below.heap_setCell w1 ⟨w.heap.size,2,L⟩ (D u1 u2 u3) _ (show w.heap.size+1≠w.heap.size by omega)).trans Y1);have B1:=ah ((B.out.trans (hb.mono B.out.size)).setCell (p:=⟨w.heap.size,2,L⟩) (Nat.le_refl _) (D u1 u2 u3));have y2:=X1.cell 2;have f2:=X1.fr 2;have z2:=X1.lt;simp only [aC,aj,ak] at y2;clear X1 Y1 ho hb x2 C;go_upto_region 2 with fail;clear y2 f2 z2;generalize w1.setCell ⟨w.heap.size,2,L⟩ (D u1 u2 u3)=w2 at *;obtain⟨x0,x1,x2,x3⟩:=XB.out.EM;obtain⟨r0,r1,r2,r3⟩:=YB.out.EM;obtain⟨t0,t1,t2,t3⟩:=YB.out.XH;have zz:=YB.out.lt;have hs2:w.heap.size+1<W.heap.size:=Y.out.lt;have FB:=ah (uG YB.out (Q U a) (Q U b) (D u1 u2 u3) (Q U q));have BL:=ah (qb (b:=w.heap.size+1) B1.out (by omega) (Q U a) (Q U b) (D u1 u2 u3) (Q U q));have FO:=ah (Am O1.out (w.heap.size+1) hs2 (Q U a) (Q U b) (D u1 u2 u3) (Q U q));have HS:=ah hs;clear hs hs2;go_wp2_with fail;obtain⟨v0,v1,v2,v3⟩:=FB.out.EM;refine bodyPost_ret (v:=.agg #[Q U a,Q U b,D u1 u2 u3,Q U q]) (by simp [results,Tryz.results35,go_sem,v0,v1,v2,v3]) rfl ?_;exact⟨⟨(u1,u2,u3),rfl,dH FO.out (Nat.le_of_lt HS.out)⟩,BL.out⟩
theorem iJ {α:Type} {E:Ek α} (K:E.Ok) {W:J} {B g n cap k:Nat} {l:List α} {x:α} (h:Own E W B (D (O ⟨g,0,L⟩) n cap) l) (hk:l[k]?=O x):∀ w,Below W.heap.size W w->∀ j u,(E.cells x)[j]?=O u->w.cell? ((⟨g,k * E.n,L⟩:Addr).add j)=O u:=by
 obtain⟨ao,c,hv⟩:=(Row.dB h).len;obtain⟨rfl,rfl,rfl⟩:O ⟨g,0,L⟩=ao/\n=l.length/\cap=c:=by simpa using hv
 obtain⟨p,h1,_,h2⟩:=pY K (Row.dB h) rfl rfl hk;have h3:=lZ K g k l.length cap (List.getElem?_eq_some_iff.1 hk).1 W;rw [h1] at h3;injection h3 with h4 _
 injection h4 with h5
 injection h5 with h6
 subst h6;exact h2
theorem gX {α:Type} {E:Ek α} {W:J} {B g n cap:Nat} {l:List α} (h:Own E W B (D (O ⟨g,0,L⟩) n cap) l):∃ cur,dx W g cur E.t:=by
 rcases eT h with⟨h1,_⟩|⟨g',c',cur,h1,_,h2,_⟩
 ·cases h1
 ·obtain⟨rfl,_⟩:g=g'/\True:=by simp at h1; exact⟨h1.1,trivial⟩
  exact⟨cur,h2⟩
theorem jK {W:J} {b g:Nat} {c d:Array V} {s t:aD} (hb:dx W b c s) (hg:dx W g d t) (hne:(s == t)=au):b≠g:=by
 rintro rfl;unfold dx at hb hg;rw [hb] at hg;injection hg with h
 injection h with _ h2
 rw [h2] at hne;simp at hne
def But (g:Nat) (W x:J):Prop:=(∀ k,k<W.heap.size->k≠g->x.heap[k]?=W.heap[k]?)/\W.heap.size<=x.heap.size
theorem But.box {g b:Nat} {W x:J} {cs:Array V} {t:aD} (h:But g W x) (hb:dx W b cs t) (hne:b≠g):dx x b cs t:=(h.1 b hb.lt hne).trans hb
theorem But.own {α:Type} {E:Ek α} {g:Nat} {W x:J} {B:Nat} {v:V} {l:List α} {d:Array V} {t:aD} (h:But g W x) (ho:Own E W B v l) (hg:dx W g d t) (hne:(E.t == t)=au):Own E x B v l:=by
 refine⟨ho.1,?_⟩;rcases ho.2 with h2|⟨g',cap,cur,h1,h2,h3,h4⟩
 ·exact Or.inl h2
 ·exact Or.inr ⟨g',cap,cur,h1,h2,by rw [h.1 g' (lt_of_heap h3) (jK (show dx W g' cur E.t from h3) hg hne)]; exact h3,h4⟩
theorem xC:∀ (l:List jD) (k:Nat) (x:jD),k<l.length->flat ED (l.set k x)=((((flat ED l).set (k * 4) (Q U x.1)).set (k * 4+1) (Q U x.2.1)).set (k * 4+2) (dN x.2.2.1)).set (k * 4+3) (Q U x.2.2.2)
 | [],k,x,h=>by simp at h
 | y::r,0,x,_=>rfl
 | y::r,k+1,x,h=>by
  have ih:=xC r k x (by simpa using h);rw [show (k+1) * 4+3=(k * 4+3)+1+1+1+1 by omega,show (k+1) * 4+2=(k * 4+2)+1+1+1+1 by omega,show (k+1) * 4+1=(k * 4+1)+1+1+1+1 by omega,show (k+1) * 4=(k * 4)+1+1+1+1 by omega];simp only [Z,flat,ED,cellsD,ay,aA] at ih ⊢;rw [ih]
theorem xD:∀ (l:List iT) (k:Nat) (x:iT) (s:Sl),l[k]?=O x->flat EN (l.set k (x.1,x.2.1,x.2.2.1,x.2.2.2.1,s,x.2.2.2.2.2.1,x.2.2.2.2.2.2))=(flat EN l).set (k * 7+4) (dN s)
 | [],k,x,s,h=>by simp at h
 | y::r,0,x,s,h=>by
  obtain rfl:y=x:=by simpa using h
  rfl
 | y::r,k+1,x,s,h=>by
  have ih:=xD r k x s (by simpa using h);rw [show (k+1) * 7+4=(k * 7+4)+1+1+1+1+1+1+1 by omega];simp only [Z,flat,EN,iD,ay,aA] at ih ⊢;rw [ih]
theorem xE:∀ (l:List lG) (k:Nat) (x:lG) (s:Sl),l[k]?=O x->flat EW (l.set k (x.1,x.2.1,s))=(flat EW l).set (k * 3+2) (dN s)
 | [],k,x,s,h=>by simp at h
 | y::r,0,x,s,h=>by
  obtain rfl:y=x:=by simpa using h
  rfl
 | y::r,k+1,x,s,h=>by
  have ih:=xE r k x s (by simpa using h);rw [show (k+1) * 3+2=(k * 3+2)+1+1+1 by omega];simp only [Z,flat,EW,je,ay,aA] at ih ⊢;rw [ih]
def Rn {α:Type} (E:Ek α) (B g:Nat) (v:V) (l:List α) (w w':J):Prop:=Own E w' B v l/\But g w w'/\(∀ B' W,B'<=g->Below B' W w->Below B' W w')
theorem dM (w:J) (g j:Nat) (u:V):But g w (w.setCell ⟨g,j,L⟩ u):=⟨fun k _ hk=>RowKit.Below.heap_setCell w ⟨g,j,L⟩ u k hk,by simp⟩
theorem But.trans {g:Nat} {a b c:J} (h1:But g a b) (h2:But g b c):But g a c:=⟨fun k hk hne=>(h2.1 k (Nat.lt_of_lt_of_le hk h1.2) hne).trans (h1.1 k hk hne),Nat.le_trans h1.2 h2.2⟩
theorem But.of_below {g:Nat} {a b:J} (h:Below a.heap.size a b):But g a b:=⟨fun k hk _=>h.block k hk,h.size⟩
theorem Ro {w:J} {B g n cap k:Nat} {l:List jD} (x:jD) (h:p9 w B (D (O ⟨g,0,L⟩) n cap) l) (hk:k<l.length) :
  ∃ w',(Instr.storeAt 36 (aG (O ⟨g,k * 4,L⟩)) (kR x)).run Tryz.prog w=.ok () w'/\Rn ED B g (D (O ⟨g,0,L⟩) n cap) (l.set k x) w w':=by
 obtain⟨y,hy⟩:∃ y,l[k]?=O y:=⟨_,List.getElem?_eq_getElem hk⟩;have c:=iJ okD h hy w (Below.refl _ _);have c0:=c 0 _ rfl;have c1:=c 1 _ rfl;have c2:=c 2 _ rfl;have c3:=c 3 _ rfl;simp [Addr.add,ED] at c0 c1 c2 c3;obtain⟨cur,hb⟩:=gX h;have f:=fun j=>hb.fr j;obtain⟨ao,c',hv⟩:=(Row.dB h).len;obtain⟨_,rfl,_⟩:O ⟨g,0,L⟩=ao/\n=l.length/\cap=c':=by simpa using hv
 have h:w.ownsRow B 36 4 (D (O ⟨g,0,L⟩) l.length cap) l.length (flat ED l):=h;have s1:=(h.stored (k * 4) (Q U x.1)).1;have s2:=(s1.stored (k * 4+1) (Q U x.2.1)).1;have s3:=(s2.stored (k * 4+2) (dN x.2.2.1)).1;have s4:=(s3.stored (k * 4+3) (Q U x.2.2.2)).1;refine⟨(((w.setCell ⟨g,k * 4,L⟩ (Q U x.1)).setCell ⟨g,k * 4+1,L⟩ (Q U x.2.1)).setCell ⟨g,k * 4+2,L⟩ (dN x.2.2.1)).setCell ⟨g,k * 4+3,L⟩ (Q U x.2.2.2),?_,?_,((dM _ g _ _).trans (dM _ g _ _)).trans ((dM _ g _ _).trans (dM _ g _ _)),fun B' W hB hb=>(((hb.setCell (p:=⟨g,_,L⟩) hB _).setCell (p:=⟨g,_,L⟩) hB _).setCell (p:=⟨g,_,L⟩) hB _).setCell (p:=⟨g,_,L⟩) hB _⟩
 ·simp [go_sem,c0,c1,c2,c3,f]
 ·have e:=xC l k x hk;show World.ownsRow _ B 36 4 _ (l.set k x).length (flat ED (l.set k x));rw [e,aB];exact s4
theorem Rp {w:J} {B g n cap k:Nat} {l:List iT} {x:iT} (s1:Option Addr) (s2 s3:Nat) (h:jy w B (D (O ⟨g,0,L⟩) n cap) l) (hk:l[k]?=O x) :
  ∃ w',(Instr.storeAt 34 (aG (O ⟨g,k * 7+4,L⟩)) (D s1 s2 s3)).run Tryz.prog w=.ok () w'/\Rn EN B g (D (O ⟨g,0,L⟩) n cap) (l.set k (x.1,x.2.1,x.2.2.1,x.2.2.2.1,(s1,s2,s3),x.2.2.2.2.2.1,x.2.2.2.2.2.2)) w w':=by
 have c:=iJ lF h hk w (Below.refl _ _);have c4:=c 4 _ rfl;simp [Addr.add,EN] at c4;obtain⟨cur,hb⟩:=gX h;have f:=hb.fr (k * 7+4);obtain⟨ao,c',hv⟩:=(Row.dB h).len;obtain⟨_,rfl,_⟩:O ⟨g,0,L⟩=ao/\n=l.length/\cap=c':=by simpa using hv
 have h:w.ownsRow B 67 7 (D (O ⟨g,0,L⟩) l.length cap) l.length (flat EN l):=h;have t1:=(h.stored (k * 7+4) (D s1 s2 s3)).1;refine⟨w.setCell ⟨g,k * 7+4,L⟩ (D s1 s2 s3),by simp [go_sem,c4,f],?_,dM _ g _ _,fun B' W hB hb=>hb.setCell (p:=⟨g,_,L⟩) hB _⟩;have e:=xD l k x (s1,s2,s3) hk;show World.ownsRow _ B 67 7 _ (aH _) (flat EN _);rw [e,aB];exact t1
theorem Rq {w:J} {B g n cap k:Nat} {l:List lG} {x:lG} (s1:Option Addr) (s2 s3:Nat) (h:nW w B (D (O ⟨g,0,L⟩) n cap) l) (hk:l[k]?=O x) :
  ∃ w',(Instr.storeAt 34 (aG (O ⟨g,k * 3+2,L⟩)) (D s1 s2 s3)).run Tryz.prog w=.ok () w'/\Rn EW B g (D (O ⟨g,0,L⟩) n cap) (l.set k (x.1,x.2.1,(s1,s2,s3))) w w':=by
 have c:=iJ okW h hk w (Below.refl _ _);have c2:=c 2 _ rfl;simp [Addr.add,EW] at c2;obtain⟨cur,hb⟩:=gX h;have f:=hb.fr (k * 3+2);obtain⟨ao,c',hv⟩:=(Row.dB h).len;obtain⟨_,rfl,_⟩:O ⟨g,0,L⟩=ao/\n=l.length/\cap=c':=by simpa using hv
 have h:w.ownsRow B 88 3 (D (O ⟨g,0,L⟩) l.length cap) l.length (flat EW l):=h;have t1:=(h.stored (k * 3+2) (D s1 s2 s3)).1;refine⟨w.setCell ⟨g,k * 3+2,L⟩ (D s1 s2 s3),by simp [go_sem,c2,f],?_,dM _ g _ _,fun B' W hB hb=>hb.setCell (p:=⟨g,_,L⟩) hB _⟩;have e:=xE l k x (s1,s2,s3) hk;show World.ownsRow _ B 88 3 _ (aH _) (flat EW _);rw [e,aB];exact t1
theorem eG.set {α β:Type} {R:α->β->Prop}:∀ {l:List α} {m:List β} (k:Nat) (a:α) (b:β),eG R l m->m[k]?=O b->R a b->eG R (l.set k a) m
 | _,_,_,_,_,.nil,h,_=>by simp at h
 | _,_,0,a,b,.cons x t,h,hr=>by
  simp at h;subst h;exact .cons hr t
 | _,_,k+1,a,b,.cons x t,h,hr=>.cons x (eG.set k a b t (by simpa using h) hr)
def PM (w0:J) (B:Nat) (wr:J) (v:V) (p:List C5):Prop:=gq w0 v p\/ig wr B v p
def CG (w0:J) (B:Nat) (wr:J) (x:jD) (a:Ad):Prop:=(x.1,x.2.1)=a.id/\x.2.2.2=a.par/\PM w0 B wr (dN x.2.2.1) a.p
def nC (w0:J) (B:Nat) (wr:J) (x:iT) (a:En):Prop:=(x.1,x.2.1)=a.tree/\(x.2.2.1,x.2.2.2.1)=a.sub/\x.2.2.2.2.2.1=a.from_/\x.2.2.2.2.2.2=a.up/\PM w0 B wr (dN x.2.2.2.2.1) a.p
def Dm (w0:J) (B:Nat) (wr:J) (x:lG) (a:Ow):Prop:=(x.1,x.2.1)=a.id/\PM w0 B wr (dN x.2.2) a.p
theorem PM.grow {w0 wr x:J} {B:Nat} {v:V} {p:List C5} (h:PM w0 B wr v p) (hb:Below wr.heap.size wr x):PM w0 B x v p:=h.imp id fun h=>Bk.dI h hb
theorem PM.but {w0 wr x:J} {B:Nat} {v:V} {p:List C5} {g:Nat} {d:Array V} {t:aD} (h:PM w0 B wr v p) (hb:But g wr x) (hg:dx wr g d t) (hne:(91 == t)=au):PM w0 B x v p:=h.imp id fun h=>hb.own h hg hne
theorem PM.row {w0 wr:J} {B:Nat} {v:V} {p:List C5} (h:PM w0 B wr v p) (hb:Below w0.heap.size w0 wr):gq wr v p:=h.elim (fun h=>h.on hb) Row.dB
theorem CG.grow {w0 wr x:J} {B:Nat} {y:jD} {a:Ad} (h:CG w0 B wr y a) (hb:Below wr.heap.size wr x):CG w0 B x y a:=⟨h.1,h.2.1,h.2.2.grow hb⟩
theorem nC.grow {w0 wr x:J} {B:Nat} {y:iT} {a:En} (h:nC w0 B wr y a) (hb:Below wr.heap.size wr x):nC w0 B x y a:=⟨h.1,h.2.1,h.2.2.1,h.2.2.2.1,h.2.2.2.2.grow hb⟩
theorem Dm.grow {w0 wr x:J} {B:Nat} {y:lG} {a:Ow} (h:Dm w0 B wr y a) (hb:Below wr.heap.size wr x):Dm w0 B x y a:=⟨h.1,h.2.grow hb⟩
theorem CG.but {w0 wr x:J} {B:Nat} {y:jD} {a:Ad} {g:Nat} {d:Array V} {t:aD} (h:CG w0 B wr y a) (hb:But g wr x) (hg:dx wr g d t) (hne:(91 == t)=au):CG w0 B x y a:=⟨h.1,h.2.1,h.2.2.but hb hg hne⟩
theorem nC.but {w0 wr x:J} {B:Nat} {y:iT} {a:En} {g:Nat} {d:Array V} {t:aD} (h:nC w0 B wr y a) (hb:But g wr x) (hg:dx wr g d t) (hne:(91 == t)=au):nC w0 B x y a:=⟨h.1,h.2.1,h.2.2.1,h.2.2.2.1,h.2.2.2.2.but hb hg hne⟩
theorem Dm.but {w0 wr x:J} {B:Nat} {y:lG} {a:Ow} {g:Nat} {d:Array V} {t:aD} (h:Dm w0 B wr y a) (hb:But g wr x) (hg:dx wr g d t) (hne:(91 == t)=au):Dm w0 B x y a:=⟨h.1,h.2.but hb hg hne⟩
def vw (w:J):J:={ w with heap:=#[] }
theorem uI {w x:J} {B:Nat} (h:Below B w x):Below (vw w).heap.size (vw w) x:=⟨h.os,h.tape,h.output,Nat.zero_le _,fun k hk=>absurd hk (Nat.not_lt_zero k)⟩
theorem Nu (w:J) (a:Addr):(vw w).cell? a=L:=by
 unfold World.cell? vw;simp
theorem zi {α:Type} {E:Ek α} {w x:J} {v:V} {l:List α} (h:Row E (vw w) v l):Row E x v l:=by
 rcases h with h|⟨a,cap,h1,h2,h3,h4⟩
 ·exact Or.inl h
 ·refine Or.inr ⟨a,cap,h1,h2,h3,fun j u hj=>?_⟩;have h5:=h4 j u hj;rw [Nu] at h5;cases h5
theorem pQ {α:Type}:∀ (l:List α) (k:Nat) (x:α),k<l.length->(l.set k x).take (k+1)=l.take k++[x]
 | [],k,x,h=>absurd h (Nat.not_lt_zero k)
 | _::_,0,_,_=>rfl
 | a::l,k+1,x,h=>by
  rw [Z,List.take_succ_cons,pQ l k x (by simpa using h)]
  rfl
theorem rG {α β:Type} {R:α->β->Prop} {l:List α} {m:List β} {k:Nat} {x:α} {y:β} (h:eG R (l.take k) (m.take k)) (hk:k<l.length) (hy:m[k]?=O y) (hx:R x y):eG R ((l.set k x).take (k+1)) (m.take (k+1)):=by
 rw [pQ l k x hk,aF,hy];exact h.append (.cons hx .nil)
structure Cp (w0:J) (B:Nat) (wr:J) (b:Br) (nv av sv ev ov:Sl):Prop where
 near:um wr B (dN nv) b.near
 seen:Ac wr B (dN sv) b.seen
 dG:∃ l,p9 wr B (dN av) l/\eG (CG w0 B wr) l b.dG
 ent:∃ l,jy wr B (dN ev) l/\eG (nC w0 B wr) l b.ent
 own:∃ l,nW wr B (dN ov) l/\eG (Dm w0 B wr) l b.own
theorem Cp.grow {w0 wr x:J} {B:Nat} {b:Br} {nv av sv ev ov:Sl} (h:Cp w0 B wr b nv av sv ev ov) (hb:Below wr.heap.size wr x):Cp w0 B x b nv av sv ev ov where
 near:=Bk.dI h.near hb
 seen:=Bk.dI h.seen hb
 dG:=by obtain⟨l,h1,h2⟩:=h.dG; exact⟨l,Bk.dI h1 hb,h2.mono fun _ _ h=>h.grow hb⟩
 ent:=by obtain⟨l,h1,h2⟩:=h.ent; exact⟨l,Bk.dI h1 hb,h2.mono fun _ _ h=>h.grow hb⟩
 own:=by obtain⟨l,h1,h2⟩:=h.own; exact⟨l,Bk.dI h1 hb,h2.mono fun _ _ h=>h.grow hb⟩
theorem Cp.oh {w0 wr x:J} {B:Nat} {b:Br} {nv av sv ev ov:Sl} (h:Cp w0 B wr b nv av sv ev ov) {g:Nat} {d:Array V} {t:aD} (hb:But g wr x) (hg:dx wr g d t) (h1:(3 == t)=au) (h2:(23 == t)=au) (h3:(36 == t)=au) (h4:(67 == t)=au) (h5:(88 == t)=au) (h6:(91 == t)=au):Cp w0 B x b nv av sv ev ov where
 near:=hb.own h.near hg h1
 seen:=hb.own h.seen hg h2
 dG:=by obtain⟨l,g1,g2⟩:=h.dG; exact⟨l,hb.own g1 hg h3,g2.mono fun _ _ h=>h.but hb hg h6⟩
 ent:=by obtain⟨l,g1,g2⟩:=h.ent; exact⟨l,hb.own g1 hg h4,g2.mono fun _ _ h=>h.but hb hg h6⟩
 own:=by obtain⟨l,g1,g2⟩:=h.own; exact⟨l,hb.own g1 hg h5,g2.mono fun _ _ h=>h.but hb hg h6⟩
theorem Cp.but {w0 wr x:J} {B:Nat} {b:Br} {nv av sv ev ov:Sl} (h:Cp w0 B wr b nv av sv ev ov) {g:Nat} {d:Array V} (hb:But g wr x) (hg:dx wr g d 30):Cp w0 B x b nv av sv ev ov where
 near:=hb.own h.near hg (by decide)
 seen:=hb.own h.seen hg (by decide)
 dG:=by obtain⟨l,h1,h2⟩:=h.dG; exact⟨l,hb.own h1 hg (by decide),h2.mono fun _ _ h=>h.but hb hg (by decide)⟩
 ent:=by obtain⟨l,h1,h2⟩:=h.ent; exact⟨l,hb.own h1 hg (by decide),h2.mono fun _ _ h=>h.but hb hg (by decide)⟩
 own:=by obtain⟨l,h1,h2⟩:=h.own; exact⟨l,hb.own h1 hg (by decide),h2.mono fun _ _ h=>h.but hb hg (by decide)⟩
structure Cs (w0 w wr:J) (b:Br) (kd kn kw:Nat) (nv av sv ev ov:Sl):Prop where
 pI:Below w.heap.size w wr
 bx:dx wr w.heap.size #[Q U b.me,dN nv,dN av,dN sv,dN ev,dN ov] 30
 bz:dx wr (w.heap.size+1) #[Q U 0,D L 0 0,D L 0 0,D L 0 0,D L 0 0,D L 0 0] 30
 near:um wr w.heap.size (dN nv) b.near
 seen:Ac wr w.heap.size (dN sv) b.seen
 dG:∃ l,p9 wr w.heap.size (dN av) l/\eG (CG w0 w.heap.size wr) l b.dG/\eG (CG (vw w0) w.heap.size wr) (l.take kd) (b.dG.take kd)
 ent:∃ l,jy wr w.heap.size (dN ev) l/\eG (nC w0 w.heap.size wr) l b.ent/\eG (nC (vw w0) w.heap.size wr) (l.take kn) (b.ent.take kn)
 own:∃ l,nW wr w.heap.size (dN ov) l/\eG (Dm w0 w.heap.size wr) l b.own/\eG (Dm (vw w0) w.heap.size wr) (l.take kw) (b.own.take kw)
theorem Cs.J4 {w0 w wr x:J} {b:Br} {kd kn kw kd':Nat} {nv sv ev ov:Sl} {g n cap:Nat} {l l':List jD} (h:Cs w0 w wr b kd kn kw nv (O ⟨g,0,L⟩,n,cap) sv ev ov) (ho:p9 wr w.heap.size (D (O ⟨g,0,L⟩) n cap) l) (hx:p9 x w.heap.size (D (O ⟨g,0,L⟩) n cap) l') (hb:But g wr x) (hw:Below w.heap.size w x) (hA:eG (CG w0 w.heap.size x) l' b.dG) (hV:eG (CG (vw w0) w.heap.size x) (l'.take kd') (b.dG.take kd')):Cs w0 w x b kd' kn kw nv (O ⟨g,0,L⟩,n,cap) sv ev ov:=by
 obtain⟨cur,hg⟩:=gX ho;exact {
  pI:=hw
  bx:=hb.box h.bx (jK h.bx hg (by decide))
  bz:=hb.box h.bz (jK h.bz hg (by decide))
  near:=hb.own h.near hg (by decide)
  seen:=hb.own h.seen hg (by decide)
  dG:=⟨l',hx,hA,hV⟩
  ent:=by obtain⟨l,h1,h2,h3⟩:=h.ent; exact⟨l,hb.own h1 hg (by decide),h2.mono fun _ _ h=>h.but hb hg (by decide),h3.mono fun _ _ h=>h.but hb hg (by decide)⟩
  own:=by obtain⟨l,h1,h2,h3⟩:=h.own; exact⟨l,hb.own h1 hg (by decide),h2.mono fun _ _ h=>h.but hb hg (by decide),h3.mono fun _ _ h=>h.but hb hg (by decide)⟩ }
theorem Cs.XL {w0 w wr x:J} {b:Br} {kd kn kw XM:Nat} {nv av sv ov:Sl} {g n cap:Nat} {l l':List iT} (h:Cs w0 w wr b kd kn kw nv av sv (O ⟨g,0,L⟩,n,cap) ov) (ho:jy wr w.heap.size (D (O ⟨g,0,L⟩) n cap) l) (hx:jy x w.heap.size (D (O ⟨g,0,L⟩) n cap) l') (hb:But g wr x) (hw:Below w.heap.size w x) (hA:eG (nC w0 w.heap.size x) l' b.ent) (hV:eG (nC (vw w0) w.heap.size x) (l'.take XM) (b.ent.take XM)):Cs w0 w x b kd XM kw nv av sv (O ⟨g,0,L⟩,n,cap) ov:=by
 obtain⟨cur,hg⟩:=gX ho;exact {
  pI:=hw
  bx:=hb.box h.bx (jK h.bx hg (by decide))
  bz:=hb.box h.bz (jK h.bz hg (by decide))
  near:=hb.own h.near hg (by decide)
  seen:=hb.own h.seen hg (by decide)
  dG:=by obtain⟨l,h1,h2,h3⟩:=h.dG; exact⟨l,hb.own h1 hg (by decide),h2.mono fun _ _ h=>h.but hb hg (by decide),h3.mono fun _ _ h=>h.but hb hg (by decide)⟩
  ent:=⟨l',hx,hA,hV⟩
  own:=by obtain⟨l,h1,h2,h3⟩:=h.own; exact⟨l,hb.own h1 hg (by decide),h2.mono fun _ _ h=>h.but hb hg (by decide),h3.mono fun _ _ h=>h.but hb hg (by decide)⟩ }
theorem Cs.setW {w0 w wr x:J} {b:Br} {kd kn kw XO:Nat} {nv av sv ev:Sl} {g n cap:Nat} {l l':List lG} (h:Cs w0 w wr b kd kn kw nv av sv ev (O ⟨g,0,L⟩,n,cap)) (ho:nW wr w.heap.size (D (O ⟨g,0,L⟩) n cap) l) (hx:nW x w.heap.size (D (O ⟨g,0,L⟩) n cap) l') (hb:But g wr x) (hw:Below w.heap.size w x) (hA:eG (Dm w0 w.heap.size x) l' b.own) (hV:eG (Dm (vw w0) w.heap.size x) (l'.take XO) (b.own.take XO)):Cs w0 w x b kd kn XO nv av sv ev (O ⟨g,0,L⟩,n,cap):=by
 obtain⟨cur,hg⟩:=gX ho;exact {
  pI:=hw
  bx:=hb.box h.bx (jK h.bx hg (by decide))
  bz:=hb.box h.bz (jK h.bz hg (by decide))
  near:=hb.own h.near hg (by decide)
  seen:=hb.own h.seen hg (by decide)
  dG:=by obtain⟨l,h1,h2,h3⟩:=h.dG; exact⟨l,hb.own h1 hg (by decide),h2.mono fun _ _ h=>h.but hb hg (by decide),h3.mono fun _ _ h=>h.but hb hg (by decide)⟩
  ent:=by obtain⟨l,h1,h2,h3⟩:=h.ent; exact⟨l,hb.own h1 hg (by decide),h2.mono fun _ _ h=>h.but hb hg (by decide),h3.mono fun _ _ h=>h.but hb hg (by decide)⟩
  own:=⟨l',hx,hA,hV⟩ }
end Av
namespace Rl
open Go.RowKit Pu Rw Pr Va
theorem J5 {α:Type} (f:α->Bool) (l:List α) (k:Nat) (y:α) (h:l[k]?=O y):(l.take (k+1)).all f=((l.take k).all f && f y):=by
 rw [aF,h,List.all_append];simp
theorem Nv {α:Type} (f:α->Bool) (l:List α) (k:Nat) (y:α) (h:l[k]?=O y) (hf:f y=au):l.all f=au:=by
 rw [List.all_eq_false];exact⟨y,List.mem_of_getElem? h,by simp [hf]⟩
end Rl
namespace Bk
open Go.RowKit Rw YtghlpefopidlaaaGreat.Nm Pr
def gT {κ:Type} [DecidableEq κ]:List κ->κ->Int
 | [],_=>-1
 | a::l,x=>if a=x then 0 else if gT l x=-1 then -1 else gT l x+1
theorem uJ {κ:Type} [DecidableEq κ] (l:List κ) (x:κ) (h:∀ (j:Nat) (y:κ),l[j]?=O y->y≠x):gT l x=-1:=by
 induction l with
 | nil=>rfl
 | cons a l ih=>rw [gT,if_neg (h 0 a rfl),ih fun j y hj=>h (j+1) y (by simpa using hj),if_pos rfl]
theorem Ao {κ:Type} [DecidableEq κ] (l:List κ) (k:Nat) (x:κ) (h:l[k]?=O x) (hall:∀ (j:Nat) (z:κ),j<k->l[j]?=O z->z≠x):gT l x=k:=by
 induction l generalizing k with
 | nil=>simp at h
 | cons a l ih =>
  cases k with
  | zero =>
   obtain rfl:a=x:=by simpa using h
   rw [gT,if_pos rfl]
   rfl
  | succ k =>
   have h2:=ih k (by simpa using h) fun j z hj hz=>hall (j+1) z (by omega) (by simpa using hz);rw [gT,if_neg (hall 0 a (by omega) rfl),h2,if_neg (by omega)];omega
theorem jS {κ:Type} [DecidableEq κ] (l:List κ) (x:κ):gT l x=-1\/∃ k:Nat,gT l x=k/\l[k]?=O x:=by
 induction l with
 | nil=>exact Or.inl rfl
 | cons a l ih =>
  rw [gT];by_cases h:a=x
  ·rw [if_pos h];exact Or.inr ⟨0,rfl,by rw [h]; rfl⟩
  ·rw [if_neg h];rcases ih with h2|⟨k,h2,h3⟩
   ·rw [if_pos h2];exact Or.inl rfl
   ·rw [if_neg (by omega),h2];exact Or.inr ⟨k+1,by omega,by simpa using h3⟩
abbrev Ap (e:iT):Id×Id:=((e.1,e.2.1),(e.2.2.1,e.2.2.2.1))
end Bk
end Go.Proofs.YtghlpefopidlaaaGreat
