/-
  Lists of attributes,. Conditions as told.
-/
import Derived.Test.YtkcfgbddlpomgaaGreatCQ010
import Derived.Test.YtkcfgbddlpomgaaGreatCQ011
import Derived.Test.YtkcfgbddlpomgaaGreatCQ008
set_option maxRecDepth 100000
set_option maxHeartbeats 64000000
open _root_.Bool renaming true->aL,false->aN
open _root_.Go renaming World->J,Value->ah,TypeId->aI
open Go.IntKind renaming i64->ak
open Go.Lib renaming hid->aB
open Go.Region renaming binds->au
open Go.Value renaming slice->O,int->aj,pointer->aA,string->aO
open _root_.List renaming set_cons_succ->ay,getElem?_eq_some_iff->aC,getElem?_eq_getElem->aD,getElem?_cons_zero->aF,getElem?_cons_succ->aG,cons_append->aH,nil_append->aJ,length_set->aK,getElem?_toArray->aM,length->aP
open _root_.Option renaming some->U,none->Z
namespace Go.Proofs.YtkcfgbddlpomgaaGreat
namespace Rl
open Go.RowKit Pu Rw Pr
def EA:Ek An:=⟨97,39,4,48,.agg #[aO ⟨#[]⟩,.bool aN,aj ak 0,aO ⟨#[]⟩],At.av,At.vW⟩
theorem ZJ:(Tryz.prog.info? 97).map (fun i=>(i.zero,i.size,i.bytes))=U (U (.agg #[aO ⟨#[]⟩,.bool aN,aj ak 0,aO ⟨#[]⟩]),4,48):=by kernel_rfl
theorem Nc (w:J) (p:Addr) (c:An) (h:∀ j u,(At.vW c)[j]?=U u->w.cell? (p.add j)=U u):(Instr.loadAt 97 (aA (U p))).run Tryz.prog w=.ok (At.av c) w:=by
 have h0:=h 0 _ rfl;have h1:=h 1 _ rfl;have h2:=h 2 _ rfl;have h3:=h 3 _ rfl;simp [Addr.add] at h0 h1 h2 h3;simp [go_sem,h0,h1,h2,h3]
theorem okA:EA.Ok where
 hu:=Tryz.underlying39
 info:=by
  have h:=ZJ;cases hi:Tryz.prog.info? 97 with
  | none=>rw [hi] at h; cases h
  | some i =>
   rw [hi] at h;simp only [Option.map_some,Option.some.injEq,Prod.mk.injEq] at h;exact⟨i,hi,h.1,h.2.1,h.2.2⟩
 zs:=rfl
 len:=fun _=>rfl
 one:=fun x u hu=>by
  simp only [EA,At.vW,List.mem_cons,List.not_mem_nil,or_false] at hu;rcases hu with rfl|rfl|rfl|rfl <;> rfl
 pos:=by decide
 few:=by decide
 load:=fun w p x h=>Nc w p x h
abbrev mF (W:J) (v:ah) (l:List An):Prop:=Row EA W v l
abbrev xJ (W:J) (B:Nat) (v:ah) (l:List An):Prop:=Own EA W B v l
theorem DV:∀ l:List An,flat EA l=At.kX l
 | []=>rfl
 | x::r=>by
  rw [flat,DV r]
  rfl
theorem yP {W:J} {v:ah} {l:List An}:At.uL W v l↔mF W v l:=by
 unfold At.uL mF Row;rw [DV]
theorem ZK {W:J} {B:Nat} {v:ah} {l:List An} (h:W.ownsRow B 97 4 v l.length (At.kX l)):xJ W B v l:=by
 show W.ownsRow B 97 4 v l.length (flat EA l);rw [DV];exact h
structure NL (l:List An):Prop where
 rise:l.Pairwise fun x y=>Op.bytesLess x.1.toList y.1.toList=aL
 five:l.length<=5
 small:∀ x∈l,x.1.size<=100/\x.2.2.2.size<=100
theorem NL.nodup {l:List An} (h:NL l):(l.map (·.1)).Nodup:=by
 rw [List.Nodup,List.pairwise_map];exact h.rise.imp fun h=>Du h
theorem Nf {p:List Cn} {l:List An} (h:(l.map (·.1)).Nodup):qD p l=p.all fun c=>match l.find? fun a=>decide (a.1=c.1) with
  | some a=>dP c.2 a.2
  | none=>aN:=by
 unfold qD
 congr 1
 funext c
 cases hf:l.find? fun a=>decide (a.1=c.1) with
 | none =>
  rw [List.any_eq_false];intro a ha;have:=List.find?_eq_none.1 hf a ha;simp only [decide_eq_true_eq] at this;simp [this]
 | some a =>
  have hm:=List.mem_of_find?_eq_some hf;have he:a.1=c.1:=by simpa using List.find?_some hf
  rw [Bool.eq_iff_iff,List.any_eq_true];constructor
  ·rintro⟨b,hb,h2⟩;simp only [Bool.and_eq_true,decide_eq_true_eq] at h2;rw [uniq h hm hb (he.trans h2.1.symm)];exact h2.2
  ·intro h2;exact⟨a,hm,by simp [he,h2]⟩
end Rl
namespace Av
open Go.RowKit Go.Sort Rw YtkcfgbddlpomgaaGreat.Nm Pr Bk
abbrev Qs (W:J) (b:Nat) (a0 a1 a2 a3:ah):J:=(((W.setCell ⟨b,0,Z⟩ a0).setCell ⟨b,1,Z⟩ a1).setCell ⟨b,2,Z⟩ a2).setCell ⟨b,3,Z⟩ a3
theorem yQ {W:J} {b:Nat} {t:aI} {z0 z1 z2 z3:ah} (h:dG W b #[z0,z1,z2,z3] t) (a0 a1 a2 a3:ah):dG (Qs W b a0 a1 a2 a3) b #[a0,a1,a2,a3] t:=by
 have h2:=dO (k:=3) (dO (k:=2) (dO (k:=1) (dO (k:=0) h a0) a1) a2) a3;simpa using h2
theorem tY {B:Nat} {W0 W:J} {b:Nat} (h:Below B W0 W) (hb:B<=b) (a0 a1 a2 a3:ah):Below B W0 (Qs W b a0 a1 a2 a3) :=
 (((h.setCell (p:=⟨b,0,Z⟩) hb a0).setCell (p:=⟨b,1,Z⟩) hb a1).setCell (p:=⟨b,2,Z⟩) hb a2).setCell (p:=⟨b,3,Z⟩) hb a3
theorem FZ {α:Type} {E:Ek α} {W:J} {B:Nat} {v:ah} {l:List α} (h:Own E W B v l) (b:Nat) (hb:b<B) (a0 a1 a2 a3:ah):Own E (Qs W b a0 a1 a2 a3) B v l :=
 dW (dW (dW (dW h b 0 a0 hb) b 1 a1 hb) b 2 a2 hb) b 3 a3 hb
theorem yR (x:jv) (p:List C5) (w:J) (hp:fG w (dK x.2.2.1) p) (hl:p.length<=900) :
  Calls Tryz.prog 42 #[mD x] w fun e w'=>(∃ v':Sl,e=.returned (mD (x.1,x.2.1,v',x.2.2.2))/\jL w' w.heap.size (dK v') p)/\Below w.heap.size w w':=by
 obtain⟨a,b,⟨s1,s2,s3⟩,q⟩:=x;obtain⟨h0,X,Y⟩:=gG w #[aj ak a,aj ak b,O s1 s2 s3,aj ak q] #[aj ak 0,aj ak 0,O Z 0 0,aj ak 0] 53 53;have C:=aB (qH (s1,s2,s3) p _ (hp.on h0) hl);have B:=aB h0;have x2:=X.cell 2;simp only [aM,aF,aG] at x2;have X:=aB X;have Y:=aB Y;clear h0 hp hl;go_enter Tryz.func42,Tryz.ntmps42;go_wp2_with fail;generalize (w.alloc (.cells #[aj ak a,aj ak b,O s1 s2 s3,aj ak q] 53)).alloc (.cells #[aj ak 0,aj ak 0,O Z 0 0,aj ak 0] 53)=W at *;refine C.out.mono ?_;rintro e w1 ⟨⟨⟨u1,u2,u3⟩,rfl,ho⟩,hb⟩;have X1:=X.out.on hb;have Y1:=Y.out.on hb;have hs:w.heap.size<W.heap.size:=X.out.lt;have O1:=aB (dW ho w.heap.size 2 (O u1 u2 u3) hs);have XB:=aB (show dG _ _ #[aj ak a,aj ak b,O u1 u2 u3,aj ak q] _ from by simpa using dO (k:=2) X1 (O u1 u2 u3));have YB:=aB (show dG _ _ _ _ from (RowKit.Below.heap_setCell w1 ⟨w.heap.size,2,Z⟩ (O u1 u2 u3) _ (show w.heap.size+1≠w.heap.size by omega)).trans Y1);have B1:=aB ((B.out.trans (hb.mono B.out.size)).setCell (p:=⟨w.heap.size,2,Z⟩) (Nat.le_refl _) (O u1 u2 u3));have y2:=X1.cell 2;have f2:=X1.fr 2;have z2:=X1.lt;simp only [aM,aF,aG] at y2;clear X1 Y1 ho hb x2 C;go_upto_region 2 with fail;clear y2 f2 z2;generalize w1.setCell ⟨w.heap.size,2,Z⟩ (O u1 u2 u3)=w2 at *;obtain⟨x0,x1,x2,x3⟩:=XB.out.IQ;obtain⟨r0,r1,r2,r3⟩:=YB.out.IQ;obtain⟨t0,t1,t2,t3⟩:=YB.out.fs4;have zz:=YB.out.lt;have hs2:w.heap.size+1<W.heap.size:=Y.out.lt;have FB:=aB (yQ YB.out (aj ak a) (aj ak b) (O u1 u2 u3) (aj ak q));have BL:=aB (tY (b:=w.heap.size+1) B1.out (by omega) (aj ak a) (aj ak b) (O u1 u2 u3) (aj ak q));have FO:=aB (FZ O1.out (w.heap.size+1) hs2 (aj ak a) (aj ak b) (O u1 u2 u3) (aj ak q));have HS:=aB hs;clear hs hs2;go_wp2_with fail;obtain⟨v0,v1,v2,v3⟩:=FB.out.IQ;refine bodyPost_ret (v:=.agg #[aj ak a,aj ak b,O u1 u2 u3,aj ak q]) (by simp [results,Tryz.results42,go_sem,v0,v1,v2,v3]) rfl ?_;exact⟨⟨(u1,u2,u3),rfl,dx FO.out (Nat.le_of_lt HS.out)⟩,BL.out⟩
theorem jS {α:Type} {E:Ek α} (K:E.Ok) {W:J} {B g n cap k:Nat} {l:List α} {x:α} (h:Own E W B (O (U ⟨g,0,Z⟩) n cap) l) (hk:l[k]?=U x):∀ w,Below W.heap.size W w->∀ j u,(E.cells x)[j]?=U u->w.cell? ((⟨g,k * E.n,Z⟩:Addr).add j)=U u:=by
 obtain⟨ao,c,hv⟩:=(Row.dn h).len;obtain⟨rfl,rfl,rfl⟩:U ⟨g,0,Z⟩=ao/\n=l.length/\cap=c:=by simpa using hv
 obtain⟨p,h1,_,h2⟩:=kU K (Row.dn h) rfl rfl hk;have h3:=nE K g k l.length cap (aC.1 hk).1 W;rw [h1] at h3;injection h3 with h4 _
 injection h4 with h5
 injection h5 with h6
 subst h6;exact h2
theorem jN {α:Type} {E:Ek α} {W:J} {B g n cap:Nat} {l:List α} (h:Own E W B (O (U ⟨g,0,Z⟩) n cap) l):∃ cur,dG W g cur E.t:=by
 rcases iP h with⟨h1,_⟩|⟨g',c',cur,h1,_,h2,_⟩
 ·cases h1
 ·obtain⟨rfl,_⟩:g=g'/\True:=by simp at h1; exact⟨h1.1,trivial⟩
  exact⟨cur,h2⟩
theorem qI {W:J} {b g:Nat} {c d:Array ah} {s t:aI} (hb:dG W b c s) (hg:dG W g d t) (hne:(s == t)=aN):b≠g:=by
 rintro rfl;unfold dG at hb hg;rw [hb] at hg;injection hg with h
 injection h with _ h2
 rw [h2] at hne;simp at hne
def But (g:Nat) (W x:J):Prop:=(∀ k,k<W.heap.size->k≠g->x.heap[k]?=W.heap[k]?)/\W.heap.size<=x.heap.size
theorem But.box {g b:Nat} {W x:J} {cs:Array ah} {t:aI} (h:But g W x) (hb:dG W b cs t) (hne:b≠g):dG x b cs t:=(h.1 b hb.lt hne).trans hb
theorem But.own {α:Type} {E:Ek α} {g:Nat} {W x:J} {B:Nat} {v:ah} {l:List α} {d:Array ah} {t:aI} (h:But g W x) (ho:Own E W B v l) (hg:dG W g d t) (hne:(E.t == t)=aN):Own E x B v l:=by
 refine⟨ho.1,?_⟩;rcases ho.2 with h2|⟨g',cap,cur,h1,h2,h3,h4⟩
 ·exact Or.inl h2
 ·exact Or.inr ⟨g',cap,cur,h1,h2,by rw [h.1 g' (lt_of_heap h3) (qI (show dG W g' cur E.t from h3) hg hne)]; exact h3,h4⟩
theorem Bv:∀ (l:List jv) (k:Nat) (x:jv),k<l.length->flat ED (l.set k x)=((((flat ED l).set (k * 4) (aj ak x.1)).set (k * 4+1) (aj ak x.2.1)).set (k * 4+2) (dK x.2.2.1)).set (k * 4+3) (aj ak x.2.2.2)
 | [],k,x,h=>by simp at h
 | y::r,0,x,_=>rfl
 | y::r,k+1,x,h=>by
  have ih:=Bv r k x (by simpa using h);rw [show (k+1) * 4+3=(k * 4+3)+1+1+1+1 by omega,show (k+1) * 4+2=(k * 4+2)+1+1+1+1 by omega,show (k+1) * 4+1=(k * 4+1)+1+1+1+1 by omega,show (k+1) * 4=(k * 4)+1+1+1+1 by omega];simp only [ay,flat,ED,cellsD,aH,aJ] at ih ⊢;rw [ih]
theorem Bw:∀ (l:List iB) (k:Nat) (x:iB) (s:Sl),l[k]?=U x->flat EN (l.set k (x.1,x.2.1,x.2.2.1,x.2.2.2.1,s,x.2.2.2.2.2.1,x.2.2.2.2.2.2))=(flat EN l).set (k * 7+4) (dK s)
 | [],k,x,s,h=>by simp at h
 | y::r,0,x,s,h=>by
  obtain rfl:y=x:=by simpa using h
  rfl
 | y::r,k+1,x,s,h=>by
  have ih:=Bw r k x s (by simpa using h);rw [show (k+1) * 7+4=(k * 7+4)+1+1+1+1+1+1+1 by omega];simp only [ay,flat,EN,iE,aH,aJ] at ih ⊢;rw [ih]
theorem Bz:∀ (l:List qy) (k:Nat) (x:qy) (s:Sl),l[k]?=U x->flat EW (l.set k (x.1,x.2.1,s))=(flat EW l).set (k * 3+2) (dK s)
 | [],k,x,s,h=>by simp at h
 | y::r,0,x,s,h=>by
  obtain rfl:y=x:=by simpa using h
  rfl
 | y::r,k+1,x,s,h=>by
  have ih:=Bz r k x s (by simpa using h);rw [show (k+1) * 3+2=(k * 3+2)+1+1+1 by omega];simp only [ay,flat,EW,tX,aH,aJ] at ih ⊢;rw [ih]
def ZM {α:Type} (E:Ek α) (B g:Nat) (v:ah) (l:List α) (w w':J):Prop:=Own E w' B v l/\But g w w'/\(∀ B' W,B'<=g->Below B' W w->Below B' W w')
theorem dQ (w:J) (g j:Nat) (u:ah):But g w (w.setCell ⟨g,j,Z⟩ u):=⟨fun k _ hk=>RowKit.Below.heap_setCell w ⟨g,j,Z⟩ u k hk,by simp⟩
theorem But.trans {g:Nat} {a b c:J} (h1:But g a b) (h2:But g b c):But g a c:=⟨fun k hk hne=>(h2.1 k (Nat.lt_of_lt_of_le hk h1.2) hne).trans (h1.1 k hk hne),Nat.le_trans h1.2 h2.2⟩
theorem But.of_below {g:Nat} {a b:J} (h:Below a.heap.size a b):But g a b:=⟨fun k hk _=>h.block k hk,h.size⟩
theorem ZN {w:J} {B g n cap k:Nat} {l:List jv} (x:jv) (h:kR w B (O (U ⟨g,0,Z⟩) n cap) l) (hk:k<l.length) :
  ∃ w',(Instr.storeAt 53 (aA (U ⟨g,k * 4,Z⟩)) (mD x)).run Tryz.prog w=.ok () w'/\ZM ED B g (O (U ⟨g,0,Z⟩) n cap) (l.set k x) w w':=by
 obtain⟨y,hy⟩:∃ y,l[k]?=U y:=⟨_,aD hk⟩;have c:=jS okD h hy w (Below.refl _ _);have c0:=c 0 _ rfl;have c1:=c 1 _ rfl;have c2:=c 2 _ rfl;have c3:=c 3 _ rfl;simp [Addr.add,ED] at c0 c1 c2 c3;obtain⟨cur,hb⟩:=jN h;have f:=fun j=>hb.fr j;obtain⟨ao,c',hv⟩:=(Row.dn h).len;obtain⟨_,rfl,_⟩:U ⟨g,0,Z⟩=ao/\n=l.length/\cap=c':=by simpa using hv
 have h:w.ownsRow B 53 4 (O (U ⟨g,0,Z⟩) l.length cap) l.length (flat ED l):=h;have s1:=(h.stored (k * 4) (aj ak x.1)).1;have s2:=(s1.stored (k * 4+1) (aj ak x.2.1)).1;have s3:=(s2.stored (k * 4+2) (dK x.2.2.1)).1;have s4:=(s3.stored (k * 4+3) (aj ak x.2.2.2)).1;refine⟨(((w.setCell ⟨g,k * 4,Z⟩ (aj ak x.1)).setCell ⟨g,k * 4+1,Z⟩ (aj ak x.2.1)).setCell ⟨g,k * 4+2,Z⟩ (dK x.2.2.1)).setCell ⟨g,k * 4+3,Z⟩ (aj ak x.2.2.2),?_,?_,((dQ _ g _ _).trans (dQ _ g _ _)).trans ((dQ _ g _ _).trans (dQ _ g _ _)),fun B' W hB hb=>(((hb.setCell (p:=⟨g,_,Z⟩) hB _).setCell (p:=⟨g,_,Z⟩) hB _).setCell (p:=⟨g,_,Z⟩) hB _).setCell (p:=⟨g,_,Z⟩) hB _⟩
 ·simp [go_sem,c0,c1,c2,c3,f]
 ·have e:=Bv l k x hk;show World.ownsRow _ B 53 4 _ (l.set k x).length (flat ED (l.set k x));rw [e,aK];exact s4
theorem ZO {w:J} {B g n cap k:Nat} {l:List iB} {x:iB} (s1:Option Addr) (s2 s3:Nat) (h:jw w B (O (U ⟨g,0,Z⟩) n cap) l) (hk:l[k]?=U x) :
  ∃ w',(Instr.storeAt 41 (aA (U ⟨g,k * 7+4,Z⟩)) (O s1 s2 s3)).run Tryz.prog w=.ok () w'/\ZM EN B g (O (U ⟨g,0,Z⟩) n cap) (l.set k (x.1,x.2.1,x.2.2.1,x.2.2.2.1,(s1,s2,s3),x.2.2.2.2.2.1,x.2.2.2.2.2.2)) w w':=by
 have c:=jS nR h hk w (Below.refl _ _);have c4:=c 4 _ rfl;simp [Addr.add,EN] at c4;obtain⟨cur,hb⟩:=jN h;have f:=hb.fr (k * 7+4);obtain⟨ao,c',hv⟩:=(Row.dn h).len;obtain⟨_,rfl,_⟩:U ⟨g,0,Z⟩=ao/\n=l.length/\cap=c':=by simpa using hv
 have h:w.ownsRow B 68 7 (O (U ⟨g,0,Z⟩) l.length cap) l.length (flat EN l):=h;have t1:=(h.stored (k * 7+4) (O s1 s2 s3)).1;refine⟨w.setCell ⟨g,k * 7+4,Z⟩ (O s1 s2 s3),by simp [go_sem,c4,f],?_,dQ _ g _ _,fun B' W hB hb=>hb.setCell (p:=⟨g,_,Z⟩) hB _⟩;have e:=Bw l k x (s1,s2,s3) hk;show World.ownsRow _ B 68 7 _ (aP _) (flat EN _);rw [e,aK];exact t1
theorem ZR {w:J} {B g n cap k:Nat} {l:List qy} {x:qy} (s1:Option Addr) (s2 s3:Nat) (h:pE w B (O (U ⟨g,0,Z⟩) n cap) l) (hk:l[k]?=U x) :
  ∃ w',(Instr.storeAt 41 (aA (U ⟨g,k * 3+2,Z⟩)) (O s1 s2 s3)).run Tryz.prog w=.ok () w'/\ZM EW B g (O (U ⟨g,0,Z⟩) n cap) (l.set k (x.1,x.2.1,(s1,s2,s3))) w w':=by
 have c:=jS okW h hk w (Below.refl _ _);have c2:=c 2 _ rfl;simp [Addr.add,EW] at c2;obtain⟨cur,hb⟩:=jN h;have f:=hb.fr (k * 3+2);obtain⟨ao,c',hv⟩:=(Row.dn h).len;obtain⟨_,rfl,_⟩:U ⟨g,0,Z⟩=ao/\n=l.length/\cap=c':=by simpa using hv
 have h:w.ownsRow B 61 3 (O (U ⟨g,0,Z⟩) l.length cap) l.length (flat EW l):=h;have t1:=(h.stored (k * 3+2) (O s1 s2 s3)).1;refine⟨w.setCell ⟨g,k * 3+2,Z⟩ (O s1 s2 s3),by simp [go_sem,c2,f],?_,dQ _ g _ _,fun B' W hB hb=>hb.setCell (p:=⟨g,_,Z⟩) hB _⟩;have e:=Bz l k x (s1,s2,s3) hk;show World.ownsRow _ B 61 3 _ (aP _) (flat EW _);rw [e,aK];exact t1
theorem dX.set {α β:Type} {R:α->β->Prop}:∀ {l:List α} {m:List β} (k:Nat) (a:α) (b:β),dX R l m->m[k]?=U b->R a b->dX R (l.set k a) m
 | _,_,_,_,_,.nil,h,_=>by simp at h
 | _,_,0,a,b,.cons x t,h,hr=>by
  simp at h;subst h;exact .cons hr t
 | _,_,k+1,a,b,.cons x t,h,hr=>.cons x (dX.set k a b t (by simpa using h) hr)
def PM (w0:J) (B:Nat) (wr:J) (v:ah) (p:List C5):Prop:=fG w0 v p\/jL wr B v p
def II (w0:J) (B:Nat) (wr:J) (x:jv) (a:Ad):Prop:=(x.1,x.2.1)=a.id/\x.2.2.2=a.par/\PM w0 B wr (dK x.2.2.1) a.p
def Aq (w0:J) (B:Nat) (wr:J) (x:iB) (a:En):Prop:=(x.1,x.2.1)=a.tree/\(x.2.2.1,x.2.2.2.1)=a.sub/\x.2.2.2.2.2.1=a.from_/\x.2.2.2.2.2.2=a.up/\PM w0 B wr (dK x.2.2.2.2.1) a.p
def Kl (w0:J) (B:Nat) (wr:J) (x:qy) (a:Ow):Prop:=(x.1,x.2.1)=a.id/\PM w0 B wr (dK x.2.2) a.p
theorem PM.grow {w0 wr x:J} {B:Nat} {v:ah} {p:List C5} (h:PM w0 B wr v p) (hb:Below wr.heap.size wr x):PM w0 B x v p:=h.imp id fun h=>Bk.dh h hb
theorem PM.but {w0 wr x:J} {B:Nat} {v:ah} {p:List C5} {g:Nat} {d:Array ah} {t:aI} (h:PM w0 B wr v p) (hb:But g wr x) (hg:dG wr g d t) (hne:(106 == t)=aN):PM w0 B x v p:=h.imp id fun h=>hb.own h hg hne
theorem PM.row {w0 wr:J} {B:Nat} {v:ah} {p:List C5} (h:PM w0 B wr v p) (hb:Below w0.heap.size w0 wr):fG wr v p:=h.elim (fun h=>h.on hb) Row.dn
theorem II.grow {w0 wr x:J} {B:Nat} {y:jv} {a:Ad} (h:II w0 B wr y a) (hb:Below wr.heap.size wr x):II w0 B x y a:=⟨h.1,h.2.1,h.2.2.grow hb⟩
theorem Aq.grow {w0 wr x:J} {B:Nat} {y:iB} {a:En} (h:Aq w0 B wr y a) (hb:Below wr.heap.size wr x):Aq w0 B x y a:=⟨h.1,h.2.1,h.2.2.1,h.2.2.2.1,h.2.2.2.2.grow hb⟩
theorem Kl.grow {w0 wr x:J} {B:Nat} {y:qy} {a:Ow} (h:Kl w0 B wr y a) (hb:Below wr.heap.size wr x):Kl w0 B x y a:=⟨h.1,h.2.grow hb⟩
theorem II.but {w0 wr x:J} {B:Nat} {y:jv} {a:Ad} {g:Nat} {d:Array ah} {t:aI} (h:II w0 B wr y a) (hb:But g wr x) (hg:dG wr g d t) (hne:(106 == t)=aN):II w0 B x y a:=⟨h.1,h.2.1,h.2.2.but hb hg hne⟩
theorem Aq.but {w0 wr x:J} {B:Nat} {y:iB} {a:En} {g:Nat} {d:Array ah} {t:aI} (h:Aq w0 B wr y a) (hb:But g wr x) (hg:dG wr g d t) (hne:(106 == t)=aN):Aq w0 B x y a:=⟨h.1,h.2.1,h.2.2.1,h.2.2.2.1,h.2.2.2.2.but hb hg hne⟩
theorem Kl.but {w0 wr x:J} {B:Nat} {y:qy} {a:Ow} {g:Nat} {d:Array ah} {t:aI} (h:Kl w0 B wr y a) (hb:But g wr x) (hg:dG wr g d t) (hne:(106 == t)=aN):Kl w0 B x y a:=⟨h.1,h.2.but hb hg hne⟩
def vw (w:J):J:={ w with heap:=#[] }
theorem Vr (w:J) (a:Addr):(vw w).cell? a=Z:=by
 unfold World.cell? vw;simp
theorem Jj {α:Type} {E:Ek α} {w x:J} {v:ah} {l:List α} (h:Row E (vw w) v l):Row E x v l:=by
 rcases h with h|⟨a,cap,h1,h2,h3,h4⟩
 ·exact Or.inl h
 ·refine Or.inr ⟨a,cap,h1,h2,h3,fun j u hj=>?_⟩;have h5:=h4 j u hj;rw [Vr] at h5;cases h5
theorem tC {α:Type}:∀ (l:List α) (k:Nat) (x:α),k<l.length->(l.set k x).take (k+1)=l.take k++[x]
 | [],k,x,h=>absurd h (Nat.not_lt_zero k)
 | _::_,0,_,_=>rfl
 | a::l,k+1,x,h=>by
  rw [ay,List.take_succ_cons,tC l k x (by simpa using h)]
  rfl
theorem vY {α β:Type} {R:α->β->Prop} {l:List α} {m:List β} {k:Nat} {x:α} {y:β} (h:dX R (l.take k) (m.take k)) (hk:k<l.length) (hy:m[k]?=U y) (hx:R x y):dX R ((l.set k x).take (k+1)) (m.take (k+1)):=by
 rw [tC l k x hk,List.take_add_one,hy];exact h.append (.cons hx .nil)
structure Cp (w0:J) (B:Nat) (wr:J) (b:Br) (nv av sv ev ov:Sl):Prop where
 near:mq wr B (dK nv) b.near
 seen:qY wr B (dK sv) b.seen
 dL:∃ l,kR wr B (dK av) l/\dX (II w0 B wr) l b.dL
 ent:∃ l,jw wr B (dK ev) l/\dX (Aq w0 B wr) l b.ent
 own:∃ l,pE wr B (dK ov) l/\dX (Kl w0 B wr) l b.own
theorem Cp.grow {w0 wr x:J} {B:Nat} {b:Br} {nv av sv ev ov:Sl} (h:Cp w0 B wr b nv av sv ev ov) (hb:Below wr.heap.size wr x):Cp w0 B x b nv av sv ev ov where
 near:=Bk.dh h.near hb
 seen:=Bk.dh h.seen hb
 dL:=by obtain⟨l,h1,h2⟩:=h.dL; exact⟨l,Bk.dh h1 hb,h2.mono fun _ _ h=>h.grow hb⟩
 ent:=by obtain⟨l,h1,h2⟩:=h.ent; exact⟨l,Bk.dh h1 hb,h2.mono fun _ _ h=>h.grow hb⟩
 own:=by obtain⟨l,h1,h2⟩:=h.own; exact⟨l,Bk.dh h1 hb,h2.mono fun _ _ h=>h.grow hb⟩
theorem Cp.but {w0 wr x:J} {B:Nat} {b:Br} {nv av sv ev ov:Sl} (h:Cp w0 B wr b nv av sv ev ov) {g:Nat} {d:Array ah} (hb:But g wr x) (hg:dG wr g d 33):Cp w0 B x b nv av sv ev ov where
 near:=hb.own h.near hg (by decide)
 seen:=hb.own h.seen hg (by decide)
 dL:=by obtain⟨l,h1,h2⟩:=h.dL; exact⟨l,hb.own h1 hg (by decide),h2.mono fun _ _ h=>h.but hb hg (by decide)⟩
 ent:=by obtain⟨l,h1,h2⟩:=h.ent; exact⟨l,hb.own h1 hg (by decide),h2.mono fun _ _ h=>h.but hb hg (by decide)⟩
 own:=by obtain⟨l,h1,h2⟩:=h.own; exact⟨l,hb.own h1 hg (by decide),h2.mono fun _ _ h=>h.but hb hg (by decide)⟩
structure Cs (w0 w wr:J) (b:Br) (kd kn kw:Nat) (nv av sv ev ov:Sl):Prop where
 tu:Below w.heap.size w wr
 bx:dG wr w.heap.size #[aj ak b.me,dK nv,dK av,dK sv,dK ev,dK ov] 33
 bz:dG wr (w.heap.size+1) #[aj ak 0,O Z 0 0,O Z 0 0,O Z 0 0,O Z 0 0,O Z 0 0] 33
 near:mq wr w.heap.size (dK nv) b.near
 seen:qY wr w.heap.size (dK sv) b.seen
 dL:∃ l,kR wr w.heap.size (dK av) l/\dX (II w0 w.heap.size wr) l b.dL/\dX (II (vw w0) w.heap.size wr) (l.take kd) (b.dL.take kd)
 ent:∃ l,jw wr w.heap.size (dK ev) l/\dX (Aq w0 w.heap.size wr) l b.ent/\dX (Aq (vw w0) w.heap.size wr) (l.take kn) (b.ent.take kn)
 own:∃ l,pE wr w.heap.size (dK ov) l/\dX (Kl w0 w.heap.size wr) l b.own/\dX (Kl (vw w0) w.heap.size wr) (l.take kw) (b.own.take kw)
theorem Cs.Qs {w0 w wr x:J} {b:Br} {kd kn kw kd':Nat} {nv sv ev ov:Sl} {g n cap:Nat} {l l':List jv} (h:Cs w0 w wr b kd kn kw nv (U ⟨g,0,Z⟩,n,cap) sv ev ov) (ho:kR wr w.heap.size (O (U ⟨g,0,Z⟩) n cap) l) (hx:kR x w.heap.size (O (U ⟨g,0,Z⟩) n cap) l') (hb:But g wr x) (hw:Below w.heap.size w x) (hA:dX (II w0 w.heap.size x) l' b.dL) (hV:dX (II (vw w0) w.heap.size x) (l'.take kd') (b.dL.take kd')):Cs w0 w x b kd' kn kw nv (U ⟨g,0,Z⟩,n,cap) sv ev ov:=by
 obtain⟨cur,hg⟩:=jN ho;exact {
  tu:=hw
  bx:=hb.box h.bx (qI h.bx hg (by decide))
  bz:=hb.box h.bz (qI h.bz hg (by decide))
  near:=hb.own h.near hg (by decide)
  seen:=hb.own h.seen hg (by decide)
  dL:=⟨l',hx,hA,hV⟩
  ent:=by obtain⟨l,h1,h2,h3⟩:=h.ent; exact⟨l,hb.own h1 hg (by decide),h2.mono fun _ _ h=>h.but hb hg (by decide),h3.mono fun _ _ h=>h.but hb hg (by decide)⟩
  own:=by obtain⟨l,h1,h2,h3⟩:=h.own; exact⟨l,hb.own h1 hg (by decide),h2.mono fun _ _ h=>h.but hb hg (by decide),h3.mono fun _ _ h=>h.but hb hg (by decide)⟩ }
theorem Cs.aeg {w0 w wr x:J} {b:Br} {kd kn kw kn':Nat} {nv av sv ov:Sl} {g n cap:Nat} {l l':List iB} (h:Cs w0 w wr b kd kn kw nv av sv (U ⟨g,0,Z⟩,n,cap) ov) (ho:jw wr w.heap.size (O (U ⟨g,0,Z⟩) n cap) l) (hx:jw x w.heap.size (O (U ⟨g,0,Z⟩) n cap) l') (hb:But g wr x) (hw:Below w.heap.size w x) (hA:dX (Aq w0 w.heap.size x) l' b.ent) (hV:dX (Aq (vw w0) w.heap.size x) (l'.take kn') (b.ent.take kn')):Cs w0 w x b kd kn' kw nv av sv (U ⟨g,0,Z⟩,n,cap) ov:=by
 obtain⟨cur,hg⟩:=jN ho;exact {
  tu:=hw
  bx:=hb.box h.bx (qI h.bx hg (by decide))
  bz:=hb.box h.bz (qI h.bz hg (by decide))
  near:=hb.own h.near hg (by decide)
  seen:=hb.own h.seen hg (by decide)
  dL:=by obtain⟨l,h1,h2,h3⟩:=h.dL; exact⟨l,hb.own h1 hg (by decide),h2.mono fun _ _ h=>h.but hb hg (by decide),h3.mono fun _ _ h=>h.but hb hg (by decide)⟩
  ent:=⟨l',hx,hA,hV⟩
  own:=by obtain⟨l,h1,h2,h3⟩:=h.own; exact⟨l,hb.own h1 hg (by decide),h2.mono fun _ _ h=>h.but hb hg (by decide),h3.mono fun _ _ h=>h.but hb hg (by decide)⟩ }
theorem Cs.setW {w0 w wr x:J} {b:Br} {kd kn kw kw':Nat} {nv av sv ev:Sl} {g n cap:Nat} {l l':List qy} (h:Cs w0 w wr b kd kn kw nv av sv ev (U ⟨g,0,Z⟩,n,cap)) (ho:pE wr w.heap.size (O (U ⟨g,0,Z⟩) n cap) l) (hx:pE x w.heap.size (O (U ⟨g,0,Z⟩) n cap) l') (hb:But g wr x) (hw:Below w.heap.size w x) (hA:dX (Kl w0 w.heap.size x) l' b.own) (hV:dX (Kl (vw w0) w.heap.size x) (l'.take kw') (b.own.take kw')):Cs w0 w x b kd kn kw' nv av sv ev (U ⟨g,0,Z⟩,n,cap):=by
 obtain⟨cur,hg⟩:=jN ho;exact {
  tu:=hw
  bx:=hb.box h.bx (qI h.bx hg (by decide))
  bz:=hb.box h.bz (qI h.bz hg (by decide))
  near:=hb.own h.near hg (by decide)
  seen:=hb.own h.seen hg (by decide)
  dL:=by obtain⟨l,h1,h2,h3⟩:=h.dL; exact⟨l,hb.own h1 hg (by decide),h2.mono fun _ _ h=>h.but hb hg (by decide),h3.mono fun _ _ h=>h.but hb hg (by decide)⟩
  ent:=by obtain⟨l,h1,h2,h3⟩:=h.ent; exact⟨l,hb.own h1 hg (by decide),h2.mono fun _ _ h=>h.but hb hg (by decide),h3.mono fun _ _ h=>h.but hb hg (by decide)⟩
  own:=⟨l',hx,hA,hV⟩ }
end Av
namespace Rg
open Go.RowKit Rw
end Rg
namespace Rg
open Go.RowKit Rw
structure Xr (i N A S:Nat) (d last:Nat->Nat) (V:Nat->ah->J->Prop) (base:Act) (o:Oper) (a:Act) (x:J):Prop where
 kp:∀ j u,(∀ i,i<N->d i≠j)->base.tmps[j]?=U u->a.eval (.tmp j)=u
 at_:∀ e∈o.after,au .any e=aL->e.on≠A->e.on≠S->(last e.on=i\/N<=last e.on)->V e.on (a.eval (.tmp (d e.on))) x
structure InX (l:List Oper) (N A S C:Nat) (d last:Nat->Nat) (V:Nat->ah->J->Prop) (t:aI) (zero:Array ah) (cof:ah->Array ah) (base:Act) (W:J) (L:Array Bool) (a:Act) (x:J):Prop where
 cl:∀ i o,done L i->l[i]?=U o->∀ e∈o.after,au .any e=aL->done L e.on
 no:∀ i,N<=i->¬ done L i
 df:a.defers=base.defers
 sz:a.tmps.size=base.tmps.size
 kp:∀ j,(∀ i,i<N->d i≠j)->a.tmps[j]?=base.tmps[j]?
 tu:Below W.heap.size W x
 val:∃ vs:Nat->ah,∀ i,i<N->i≠S->done L i->a.tmps[d i]?=U (vs i)/\(i≠A->¬ done L (last i)->V i (vs i) x)
 box:done L A->¬ done L S->∃ bb,a.tmps[d A]?=U (aA (U ⟨bb,0,Z⟩))/\W.heap.size<=bb/\dG x bb zero t
 fin:done L S->∃ bb v,a.tmps[d A]?=U (aA (U ⟨bb,0,Z⟩))/\a.tmps[d C]?=U v/\W.heap.size<=bb/\dG x bb (cof v) t/\V C v x
theorem sG {P:Program} {Q:Exit->Act->J->Prop} {id:Nat} {base:Act} {W:J} {l:List Oper} (N A S C:Nat) (d last:Nat->Nat) (V:Nat->ah->J->Prop) (t:aI) (zero:Array ah) (cof:ah->Array ah)
  (hm:P.follows .mixedOrders=aL) (hf:MN l.toArray=aL) (hN:l.length=N) (hA:A<N) (hS:S<N) (hC:C<N) (hAS:A≠S) (hCS:C≠S) (hAC:A≠C) (hlC:N<=last C)
  (hinj:∀ i j,i<N->j<N->i≠S->j≠S->d i=d j->i=j) (hs:∀ i,i<N->d i<base.tmps.size)
  (hV:∀ i v x x',i<N->V i v x->Below x.heap.size x x'->V i v x')
  (hw:∀ o,l[S]?=U o->(∃ e∈o.after,au .any e=aL/\e.on=A)/\∃ e∈o.after,au .any e=aL/\e.on=C)
  (hop:∀ i o,i<N->i≠A->i≠S->l[i]?=U o->∀ a x,Below W.heap.size W x->Xr i N A S d last V base o a x->∀ K:Act->J->Prop,(∀ v x',V i v x'->Below x.heap.size x x'->K (a.put (U (d i)) v) x')->wpOp P l.toArray Q i K a x)
  (hoA:∀ o,l[A]?=U o->∀ a x,∀ K:Act->J->Prop,K (a.put (U (d A)) (aA (U ⟨x.heap.size,0,Z⟩))) (x.alloc (.cells zero t))->wpOp P l.toArray Q A K a x)
  (hoS:∀ o,l[S]?=U o->∀ a x bb v (D:Nat->Prop),(∀ j oj,D j->l[j]?=U oj->∀ e∈oj.after,au .any e=aL->D e.on)->(∀ e∈o.after,au .any e=aL->D e.on)->Below W.heap.size W x->a.eval (.tmp (d A))=aA (U ⟨bb,0,Z⟩)->a.eval (.tmp (d C))=v->V C v x->W.heap.size<=bb->dG x bb zero t->∀ K:Act->J->Prop,(∀ x',Below W.heap.size W x'->dG x' bb (cof v) t->(∀ j u,j<N->j≠A->j≠S->D j->¬ D (last j)->last j≠S->V j u x->V j u x')->K a x')->wpOp P l.toArray Q S K a x)
  (hend:∀ a x bb v,a.defers=base.defers->a.tmps.size=base.tmps.size->(∀ j,(∀ i,i<N->d i≠j)->a.tmps[j]?=base.tmps[j]?)->a.tmps[d A]?=U (aA (U ⟨bb,0,Z⟩))->a.tmps[d C]?=U v->W.heap.size<=bb->dG x bb (cof v) t->V C v x->Below W.heap.size W x->(∃ vs:Nat->ah,∀ i,i<N->i≠S->i≠A->a.tmps[d i]?=U (vs i)/\(N<=last i->V i (vs i) x))->Q .normal a x):(Code.region id l.toArray aL).wp P Q base W:=by
 refine qE (fun L a x=>InX l N A S C d last V t zero cof base W L a x) hm hf ?_ ?_ ?_
 ·exact⟨fun i o h=>absurd h (gy _ _),fun i _=>gy _ _,rfl,rfl,fun _ _=>rfl,(Below.refl _ _).drew,⟨fun _=>.bool aL,fun i _ _ h=>absurd h (gy _ _)⟩,fun h=>absurd h (gy _ _),fun h=>absurd h (gy _ _)⟩
 ·intro L a x i o hsz I ho hnd nQ;have hi:i<l.length:=(aC.1 ho).1;have hiN:i<N:=by omega
  have Ay:i<L.size:=by omega
  obtain⟨vs,hvs⟩:=I.val;have hon:∀ e∈o.after,au .any e=aL->e.on<i:=fun e he hb=>by
   have h7:=List.all_eq_true.1 hf i (List.mem_range.2 (by simpa using hi));have ho':(l.toArray)[i]?=U o:=by simpa using ho
   rw [ho'] at h7;have h8:=Array.all_eq_true'.1 h7 e he;rw [hb] at h8;simpa using h8
  have dd:∀ {k},k≠i->done (L.setIfInBounds i aL) k->done L k:=fun {k} h h5=>((gP Ay k).1 h5).resolve_left h;have du:∀ {k},done L k->done (L.setIfInBounds i aL) k:=fun {k} h=>(gP Ay k).2 (Or.inr h);have cl':∀ k q,done (L.setIfInBounds i aL) k->l[k]?=U q->∀ e∈q.after,au .any e=aL->done (L.setIfInBounds i aL) e.on:=fun k q hk hq e he hb=>by
   by_cases e2:k=i
   ·subst e2;rw [hq] at ho;cases ho;exact du (nQ e he hb)
   ·exact du (I.cl k q (dd e2 hk) hq e he hb)
  have no':∀ k,N<=k->¬ done (L.setIfInBounds i aL) k:=fun k hk h=>I.no k hk (dd (by omega) h);have seen:Xr i N A S d last V base o a x:=⟨fun j u hj hu=>dD (by rw [I.kp j hj]; exact hu),fun e he hb hA' hS' hl=>by
   obtain⟨h1,h2⟩:=hvs e.on (by have:=hon e he hb; omega) hS' (nQ e he hb);rw [dD h1];refine h2 hA' ?_;rcases hl with hl|hl
   ·rw [hl]; exact hnd
   ·exact I.no _ hl⟩
  have abM:i≠S->∀ v x',Below x.heap.size x x'->(i≠A->V i v x')->(i=A->∃ bb,v=aA (U ⟨bb,0,Z⟩)/\W.heap.size<=bb/\dG x' bb zero t)->InX l N A S C d last V t zero cof base W (L.setIfInBounds i aL) (a.put (U (d i)) v) x':=by
   intro Ng v x' hb hpv hpa;have self:(a.put (U (d i)) v).tmps[d i]?=U v:=by
    have h5:d i<a.tmps.size:=by rw [I.sz]; exact hs i hiN
    simp [Act.put,h5]
   have keep:∀ k,k<N->k≠S->k≠i->(a.put (U (d i)) v).tmps[d k]?=a.tmps[d k]?:=fun k hk Vs hki=>get_put _ _ _ _ (fun e=>hki (hinj _ _ hk hiN Vs Ng e));refine⟨cl',no',I.df,by rw [size_put]; exact I.sz,fun j hj=>?_,I.tu.trans (hb.mono I.tu.size),⟨fun k=>if k=i then v else vs k,fun k hk Vs hdn=>?_⟩,fun h1 h2=>?_,fun h1=>?_⟩
   ·rw [get_put _ _ _ _ (fun e=>hj i hiN e.symm)];exact I.kp j hj
   ·by_cases e:k=i
    ·subst e;simp only [if_true];exact⟨self,fun h3 _=>hpv h3⟩
    ·simp only [if_neg e];obtain⟨h3,h4⟩:=hvs k hk Vs (dd e hdn);exact⟨by rw [keep k hk Vs e]; exact h3,fun h5 h6=>hV k _ _ _ hk (h4 h5 (fun h=>h6 (du h))) hb⟩
   ·by_cases e:A=i
    ·subst e;obtain⟨bb,rfl,h4,h5⟩:=hpa rfl;exact⟨bb,self,h4,h5⟩
    ·obtain⟨bb,h3,h4,h5⟩:=I.box (dd e h1) (fun h=>h2 (du h));exact⟨bb,by rw [keep A hA hAS e]; exact h3,h4,h5.on hb⟩
   ·have h2:=dd (Ne.symm Ng) h1;obtain⟨bb,u,h5,h6,h7,h8,h9⟩:=I.fin h2;obtain⟨oS,ZT⟩:∃ oS,l[S]?=U oS:=⟨_,aD (by omega)⟩;obtain⟨⟨ea,k1,k2,k3⟩,ec,k4,k5,k6⟩:=hw oS ZT;have dA:=I.cl S oS h2 ZT ea k1 k2;have dC:=I.cl S oS h2 ZT ec k4 k5;rw [k3] at dA;rw [k6] at dC;have eA:A≠i:=fun e=>hnd (e ▸ dA);have eC:C≠i:=fun e=>hnd (e ▸ dC);exact⟨bb,u,by rw [keep A hA hAS eA]; exact h5,by rw [keep C hC hCS eC]; exact h6,h7,h8.on hb,hV C _ _ _ hC h9 hb⟩
  by_cases Ng:i=S
  ·subst Ng;obtain⟨⟨ea,h1,h2,h3⟩,ec,h4,h5,h6⟩:=hw o ho;have dA:=nQ ea h1 h2;have dC:=nQ ec h4 h5;rw [h3] at dA;rw [h6] at dC;obtain⟨v1,v2⟩:=hvs C hC hCS dC;obtain⟨bb,b1,b2,b3⟩:=I.box dA hnd;have vC:=v2 (Ne.symm hAC) (I.no _ hlC);refine hoS o ho a x bb (vs C) (done L) I.cl nQ I.tu (dD b1) (dD v1) vC b2 b3 _ (fun x' q1 q2 q3=>⟨cl',no',I.df,I.sz,I.kp,q1,⟨vs,fun k hk Vs hdn=>?_⟩,fun _ hn=>absurd ((gP Ay _).2 (Or.inl rfl)) hn,fun _=>⟨bb,vs C,b1,v1,b2,q2,?_⟩⟩)
   ·obtain⟨w1,w2⟩:=hvs k hk Vs (dd Vs hdn);refine⟨w1,fun hkA hnl=>?_⟩;have n1:last k≠i:=fun e=>hnl ((gP Ay _).2 (Or.inl e));have n2:¬ done L (last k):=fun e=>hnl (du e);exact q3 k _ hk hkA Vs (dd Vs hdn) n2 n1 (w2 hkA n2)
   ·exact q3 C _ hC (Ne.symm hAC) hCS dC (I.no _ hlC) (by omega) vC
  ·by_cases Vt:i=A
   ·subst Vt;refine hoA o ho a x _ (abM Ng _ _ ((Below.refl _ _).alloc (Nat.le_refl _) _) (fun h=>absurd rfl h) (fun _=>⟨x.heap.size,rfl,I.tu.size,dI x zero t⟩))
   ·refine hop i o hiN Vt Ng ho a x I.tu seen _ (fun v x' q1 q2=>abM Ng v x' q2 (fun _=>q1) (fun e=>absurd e Vt))
 ·intro L a x I hd;have dS:=hd S (by omega);obtain⟨bb,v,h1,h2,h3,h4,h5⟩:=I.fin dS;obtain⟨vs,hvs⟩:=I.val;exact hend a x bb v I.df I.sz I.kp h1 h2 h3 h4 h5 I.tu ⟨vs,fun i hi Ng Vt=>by
   obtain⟨k1,k2⟩:=hvs i hi Ng (hd i (by omega));exact⟨k1,fun hl=>k2 Vt (I.no _ hl)⟩⟩
end Rg
namespace Pr
open Go.RowKit Go.ChangeShapes Go.WideShapes In
theorem ZU:Tryz.prog.cellsOf 72=2:=by kernel_rfl
theorem DW:Tryz.prog.cellsOf 25=1:=by kernel_rfl
end Pr
end Go.Proofs.YtkcfgbddlpomgaaGreat
