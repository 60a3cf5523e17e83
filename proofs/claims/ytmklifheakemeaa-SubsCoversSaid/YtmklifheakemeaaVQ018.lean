/-
  slices.BinarySearch . Conditions as told.
-/
import Derived.Test.YtmklifheakemeaaVQ017
import Derived.Test.YtmklifheakemeaaVQ015
import Derived.Test.YtmklifheakemeaaVQ013
import Derived.Test.YtmklifheakemeaaVQ012
set_option maxRecDepth 100000
set_option maxHeartbeats 64000000
open _root_.Bool renaming true->Y,false->Z,and_eq_true->ak
open Go.Obj renaming cells->J
open Go.Region renaming binds->O
open _root_.List renaming mem_of_getElem?->X,mem_append->au
open _root_.Nat renaming lt_or_ge->U,le_refl->aj,le_succ->ay
open _root_.Option renaming some->ah,none->aA
namespace Go.Proofs.Ytmklifheakemeaa
namespace Av
open Go.RowKit Go.Sort Rw Ytmklifheakemeaa.Nm Pr Bk
def wN (near:List Int) (f:Int):Bool:=decide (f∈near) || f == -1
end Av
namespace Pr
open Go.RowKit Pu Rw Va Kp
def FM (c:Cn):Prop:=c.1.size<=100/\(kT c.2).size<=100/\(-9223372036854775808<=mE c.2/\mE c.2<=9223372036854775807)/\(-9223372036854775808<=mF c.2/\mF c.2<=9223372036854775807)
structure NF (l:List Cn):Prop where
 rise:vB l
 five:l.length<=5
 good:∀ c∈l,vg c=Y
 small:∀ c∈l,FM c
theorem NF.gB {l:List Cn} (h:NF l):∀ c∈l,Pr.gB c.2=Y:=fun c hc=>by
 have:=h.good c hc;simp only [vg,ak] at this;exact this.2
theorem FR (i:Nat) (h:i<7):xI (nm i)=Y:=by
 match i,h with
 | 0,_=>decide
 | 1,_=>decide
 | 2,_=>decide
 | 3,_=>decide
 | 4,_=>decide
 | 5,_=>decide
 | 6,_=>decide
theorem I4 (i:Nat):(nm i).size=1:=rfl
theorem FT (n:Int):(kT (mV n)).size<=100/\(-9223372036854775808<=mE (mV n)/\mE (mV n)<=9223372036854775807)/\(-9223372036854775808<=mF (mV n)/\mF (mV n)<=9223372036854775807):=by
 have h1:=Wi.je (n.tdiv 4) 0 9 (by omega);have h2:=Wi.je (n.tdiv 40) 0 9 (by omega);have ht:(LG n).size<=3:=xG _;unfold mV Pt
 split
 ·refine⟨by show (0:Nat)<=100; omega,?_,?_⟩ <;> simp only [mE,mF] <;> omega
 ·split
  ·refine⟨by show (LG n).size<=100; omega,?_,?_⟩ <;> simp only [mE,mF] <;> omega
  ·refine⟨by show (LG n).size<=100; omega,?_,?_⟩ <;> simp only [mE,mF] <;> omega
theorem qI (has vals:List Int):∀ k,∀ x∈gN has vals k,FM x
 | 0,x,h=>by simp [gN] at h
 | k+1,x,h=>by
  simp only [gN] at h
  split at h
  ·rcases au.1 h with h|h
   ·exact qI has vals k x h
   ·simp at h;rw [h];exact⟨by show (nm k).size<=100; rw [I4]; omega,FT _⟩
  ·exact qI has vals k x h
theorem FX (has vals:List Int):NF (gN has vals 7) :=
 ⟨xW has vals 7 (aj _),xV has vals 7,fun c hc=>by
  obtain⟨i,h1,h2⟩:=nW has vals 7 c hc;simp only [vg,ak];exact⟨by rw [h2]; exact FR i h1,sF has vals 7 c hc⟩,qI has vals 7⟩
theorem Kn {a b:Cn} (h:r5 a=r5 b):a=b:=by
 obtain⟨n,a⟩:=a;obtain⟨m,b⟩:=b;simp only [r5,Prod.mk.injEq] at h;obtain⟨rfl,h1,h2,h3,h4⟩:=h;cases a <;> cases b <;> simp [kN,mE,mF,kT] at h1 h2 h3 h4 <;> simp [*]
end Pr
namespace Bk
open Go.RowKit Go.Sort Rw Ytmklifheakemeaa.Nm Pr
def Pw (x y:Id):Bool:=x.1 == y.1 && x.2 == y.2
theorem rD (x y:Id):Pw x y=Y↔x=y:=by
 obtain⟨a,b⟩:=x;obtain⟨c,d⟩:=y;simp [Pw]
end Bk
namespace Rl
open Go.RowKit Pu Rw Pr Va
theorem Fw {α:Type} (f:α->Bool) (l:List α) (k:Nat) (y:α) (h:l[k]?=ah y):(l.take (k+1)).all f=((l.take k).all f && f y):=by
 rw [List.take_add_one,h,List.all_append];simp
theorem IL {α:Type} (f:α->Bool) (l:List α) (k:Nat) (y:α) (h:l[k]?=ah y) (hf:f y=Z):l.all f=Z:=by
 rw [List.all_eq_false];exact⟨y,X h,by simp [hf]⟩
end Rl
namespace Bk
open Go.RowKit Rw Ytmklifheakemeaa.Nm Pr Rl
def LK (c:C5):Cn:=(c.1,if c.2.1=1 then .rg c.2.2.1 c.2.2.2.1 else if c.2.1=2 then .tx c.2.2.2.2 else .pr c.2.2.2.2)
theorem Ko (c:Cn):LK (r5 c)=c:=by
 obtain⟨n,k⟩:=c;cases k <;> simp [LK,r5,kN,mE,mF,kT]
theorem BJ (a:List Cn):(a.map r5).map LK=a:=by
 rw [List.map_map];have h:LK∘r5=id:=funext Ko;rw [h,List.map_id]
def eO (p:List C5):Prop:=∃ a:List Cn,NF a/\p=a.map r5
def jD (p q:List C5):Bool:=kR (p.map LK) (q.map LK)
def FY (t:Id) (p:List C5) (e:En):Bool:=decide (e.tree=t) && (e.up && jD e.p p)
def dJ (m:List En) (t:Id) (p:List C5):Bool:=m.any (FY t p)
end Bk
namespace Bk
open Go.RowKit Go.Sort Rw Ytmklifheakemeaa.Nm Pr
def gL (a b:Id×Id):Bool:=dW a.1 b.1 || (Pw a.1 b.1 && dW a.2 b.2)
def dN (l:List (Id×Id)) (x:Id×Id):Nat:=(l.takeWhile fun a=>gL a x).length
abbrev dI (e:En):Id×Id:=(e.tree,e.sub)
def dU (b:Br) (e:En):Br×Bool:=match b.fI[(fM (b.fI.map Ad.id) e.tree).toNat]? with
 | none=>(b,Z)
 | some a=>if fM (b.fI.map Ad.id) e.tree=-1 then (b,Z) else if gG (b.ent.map dI) (dI e)≠-1 then (b,Z) else if e.from_≠-1/\e.from_=a.par then (b,Z) else
  ({ b with ent:=fP b.ent (dN (b.ent.map dI) (dI e)) { e with up:=decide (a.par≠-1) && !dJ b.ent e.tree e.p } },decide (a.par≠-1) && !dJ b.ent e.tree e.p)
end Bk
namespace Bk
open Go.RowKit Go.Sort Rw Ytmklifheakemeaa.Nm Pr
open Av
def uM (e:En):En:={ e with up:=Y }
def fA (t:Id) (s:List En×List En) (k:Nat):List En×List En:=match s.1[k]? with
 | none=>s
 | some e=>if e.tree=t/\e.up=Z/\dJ s.1 t e.p=Z then (s.1.set k (uM e),s.2++[uM e]) else s
def fO (t:Id) (m:List En) (k:Nat):List En×List En:=(List.range k).foldl (fA t) (m,[])
def takeB (b:Br) (t s:Id) (f:Int):Br×List En×Bool:=match b.ent[(gG (b.ent.map dI) (t,s)).toNat]? with
 | none=>(b,[],Z)
 | some e=>if gG (b.ent.map dI) (t,s)=-1 then (b,[],Z) else if e.from_≠f then (b,[],Z) else
  if e.up=Z then ({ b with ent:=cutAt b.ent (gG (b.ent.map dI) (t,s)).toNat },[],Z) else
  ({ b with ent:=(fO t (cutAt b.ent (gG (b.ent.map dI) (t,s)).toNat) (cutAt b.ent (gG (b.ent.map dI) (t,s)).toNat).length).1 },(fO t (cutAt b.ent (gG (b.ent.map dI) (t,s)).toNat) (cutAt b.ent (gG (b.ent.map dI) (t,s)).toNat).length).2,Y)
theorem gq (t:Id) (m:List En) (k:Nat):fO t m (k+1)=fA t (fO t m k) k:=by
 simp [fO,List.range_succ]
theorem wO (t:Id) (s:List En×List En) (k:Nat):(fA t s k).1.length=s.1.length/\(fA t s k).2.length<=s.2.length+1:=by
 unfold fA
 split
 ·exact⟨rfl,ay _⟩
 ·split
  ·simp
  ·exact⟨rfl,ay _⟩
theorem jA (t:Id) (m:List En):∀ k,(fO t m k).1.length=m.length/\(fO t m k).2.length<=k
 | 0=>⟨rfl,aj _⟩
 | k+1=>by
  rw [gq];have h1:=jA t m k;have h2:=wO t (fO t m k) k;omega
theorem xZ {t:Id} {m:List En} (P:List C5->Prop) (h:∀ e∈m,P e.p):∀ k,(∀ e∈(fO t m k).1,P e.p)/\∀ e∈(fO t m k).2,P e.p
 | 0=>⟨h,fun e he=>by simp [fO] at he⟩
 | k+1=>by
  have ih:=xZ (t:=t) P h k;rw [gq];unfold fA
  split
  ·exact ih
  ·rename_i e he
   split
   ·refine⟨fun x hx=>?_,fun x hx=>?_⟩
    ·rcases List.mem_or_eq_of_mem_set hx with h1|h1
     ·exact ih.1 x h1
     ·rw [h1];exact ih.1 e (X he)
    ·rcases au.1 hx with h1|h1
     ·exact ih.2 x h1
     ·rw [List.mem_singleton.1 h1];exact ih.1 e (X he)
   ·exact ih
theorem x9:∀ (l:List gM) (k:Nat) (x:gM),l[k]?=ah x->flat EN (l.set k (x.1,x.2.1,x.2.2.1,x.2.2.2.1,x.2.2.2.2.1,x.2.2.2.2.2.1,Y))=(flat EN l).set (k * 7+6) (.bool Y)
 | [],k,x,h=>by simp at h
 | y::r,0,x,h=>by
  obtain rfl:y=x:=by simpa using h
  rfl
 | y::r,k+1,x,h=>by
  have ih:=x9 r k x (by simpa using h);rw [show (k+1) * 7+6=(k * 7+6)+1+1+1+1+1+1+1 by omega];simp only [List.set_cons_succ,flat,EN,gU,List.cons_append,List.nil_append] at ih ⊢;rw [ih]
theorem I5 {w:World} {B g n cap k:Nat} {l:List gM} {x:gM} (h:jl w B (.slice (ah ⟨g,0,aA⟩) n cap) l) (hk:l[k]?=ah x) :
  jl (w.setCell ⟨g,k * 7+6,aA⟩ (.bool Y)) B (.slice (ah ⟨g,0,aA⟩) n cap) (l.set k (x.1,x.2.1,x.2.2.1,x.2.2.2.1,x.2.2.2.2.1,x.2.2.2.2.2.1,Y))/\w.cell? ⟨g,k * 7+6,aA⟩=ah (.bool x.2.2.2.2.2.2)/\w.frozen? ⟨g,k * 7+6,aA⟩=Z:=by
 have c:=gW kK h hk w (Below.refl _ _);have c6:=c 6 _ rfl;simp [Addr.add,EN] at c6;obtain⟨cur,hb⟩:=gu h;obtain⟨ao,c',hv⟩:=(Row.dM h).len;obtain⟨_,rfl,_⟩:ah ⟨g,0,aA⟩=ao/\n=l.length/\cap=c':=by simpa using hv
 have h:w.ownsRow B 43 7 (.slice (ah ⟨g,0,aA⟩) l.length cap) l.length (flat EN l):=h;have t1:=(h.stored (k * 7+6) (.bool Y)).1;refine⟨?_,c6,hb.fr _⟩;have e:=x9 l k x hk;show World.ownsRow _ B 43 7 _ (List.length _) (flat EN _);rw [e,List.length_set];exact t1
theorem eF.set2 {α β:Type} {R:α->β->Prop}:∀ {l:List α} {m:List β} (k:Nat) {a:α} {b:β},eF R l m->R a b->eF R (l.set k a) (m.set k b)
 | _,_,_,_,_,.nil,_=>.nil
 | _,_,0,_,_,.cons _ t,hr=>.cons hr t
 | _,_,k+1,_,_,.cons x t,hr=>.cons x (eF.set2 k t hr)
theorem yg (w:World) (c d e f:Array Value) (r s t u:TypeId):Below w.heap.size w ((((w.alloc (J c r)).alloc (J d s)).alloc (J e t)).alloc (J f u))/\dH ((((w.alloc (J c r)).alloc (J d s)).alloc (J e t)).alloc (J f u)) w.heap.size c r/\dH ((((w.alloc (J c r)).alloc (J d s)).alloc (J e t)).alloc (J f u)) (w.heap.size+1) d s/\dH ((((w.alloc (J c r)).alloc (J d s)).alloc (J e t)).alloc (J f u)) (w.heap.size+1+1) e t/\dH ((((w.alloc (J c r)).alloc (J d s)).alloc (J e t)).alloc (J f u)) (w.heap.size+1+1+1) f u:=by
 obtain⟨h0,h1,h2,h3⟩:=nT w c d e r s t;refine⟨h0.alloc h0.size _,h1.more _,h2.more _,h3.more _,?_⟩;have h:=dO (((w.alloc (J c r)).alloc (J d s)).alloc (J e t)) f u;have e2:(((w.alloc (J c r)).alloc (J d s)).alloc (J e t)).heap.size=w.heap.size+1+1+1:=by simp
 rw [e2] at h;exact h
end Bk
namespace At
open Go.RowKit Go.Sort Va In
end At
namespace Rg
open Go.RowKit
theorem wP {P:Program} {Q:Exit->Act->World->Prop} {id:Nat} {base:Act} {w:World} {l:List Oper} (N M:Nat) (dst:Nat->Option Nat) (last:Nat->Nat) (V:Nat->Value->World->Prop) (F:(Nat->Prop)->World->Prop)
  (hm:P.follows .mixedOrders=Y) (hf:xA l.toArray=Y) (hN:l.length=N) (Sr:M<=N) (hinj:∀ i j d,i<M->j<M->dst i=ah d->dst j=ah d->i=j) (hs:∀ i d,i<M->dst i=ah d->d<base.tmps.size) (h0:F (fun _=>False) w.drew)
  (hop:∀ i o,i<M->l[i]?=ah o->∀ a w' (D:Nat->Prop),¬ D i->(∀ j oj,D j->l[j]?=ah oj->∀ e∈oj.after,O .any e=Y->D e.on)->(∀ e∈o.after,O .any e=Y->D e.on)->F D w'->JE i M dst last V base o a w'->∀ K:Act->World->Prop,(∀ v w'',V i v w''->F (fun j=>j=i\/D j) w''->(∀ j u,j<M->D j->¬ D (last j)->last j≠i->j≠i->V j u w'->V j u w'')->K (a.put (dst i) v) w'')->wpOp P l.toArray Q i K a w')
  (hall:M<N->∀ D:Nat->Prop,(∀ j o,D j->l[j]?=ah o->∀ e∈o.after,O .any e=Y->D e.on)->(∀ o,l[M]?=ah o->∀ e∈o.after,O .any e=Y->D e.on)->∀ i,i<M->D i)
  (hnext:∀ k o,M<k->k<N->l[k]?=ah o->∃ e∈o.after,O .any e=Y/\e.on=k-1)
  (hseq:∀ a w',a.defers=base.defers->a.tmps.size=base.tmps.size->(∀ j,(∀ i,i<M->dst i≠ah j)->a.tmps[j]?=base.tmps[j]?)->(∃ vs:Nat->Value,∀ i,i<M->(∀ d,dst i=ah d->a.tmps[d]?=ah (vs i))/\(M<=last i->V i (vs i) w'))->(∃ D:Nat->Prop,(∀ i,i<M->D i)/\F D w')->fQ P l.toArray Q (N-M) M a w'):(Code.region id l.toArray Y).wp P Q base w:=by
 refine jO (fun L a x=>Sw l M dst last V F base L a x\/∃ s,1<=s/\M+s<=N/\(∀ i,i<N->(done L i↔i<M+s))/\fQ P l.toArray Q (N-M-s) (M+s) a x) hm hf ?_ ?_ ?_
 ·exact Or.inl ⟨fun i o h=>absurd h (fG _ _),rfl,rfl,fun _ _=>rfl,by rw [show done (Array.replicate l.length Z)=fun _=>False from funext fun i=>propext ⟨fun h=>fG _ _ h,False.elim⟩]; exact h0,fun i _=>fG _ _,fun _=>.bool Y,fun i _ h=>absurd h (fG _ _)⟩
 ·intro L a x i o hsz hI ho hnd ji;have hi:i<l.length:=(List.getElem?_eq_some_iff.1 ho).1;have qz:i<L.size:=by omega
  rcases hI with I|⟨s,h1,h2,h3,h4⟩
  ·rcases U i M with hiM|hiM
   ·obtain⟨vs,q1⟩:=I.val;have hon:∀ e∈o.after,O .any e=Y->e.on<M:=fun e he hb=>by
     have h7:=List.all_eq_true.1 hf i (List.mem_range.2 (by simpa using hi));have ho':(l.toArray)[i]?=ah o:=by simpa using ho
     rw [ho'] at h7;have h8:=Array.all_eq_true'.1 h7 e he;rw [hb] at h8;have:e.on<i:=by simpa using h8
     omega
    have lv:∀ e∈o.after,O .any e=Y->(last e.on=i\/M<=last e.on)->V e.on (vs e.on) x:=fun e he hbd hl=>by
     refine (q1 e.on (hon e he hbd) (ji e he hbd)).2 ?_;rcases hl with hl|hl
     ·rw [hl]; exact hnd
     ·exact I.no _ hl
    have seen:JE i M dst last V base o a x:=⟨fun j u hj hu=>dF (by rw [I.kp j hj]; exact hu),fun e he hbd hl d hd=>by
     rw [dF ((q1 e.on (hon e he hbd) (ji e he hbd)).1 d hd)];exact lv e he hbd hl,fun e he hbd hl=>⟨_,lv e he hbd hl⟩⟩
    refine hop i o hiM ho a x (done L) hnd I.cl ji I.fr seen _ fun v w'' hvw hfw hpr=>Or.inl ?_;refine⟨fun k q hk hq e he hb=>?_,by rw [put_defers]; exact I.df,by rw [Fv]; exact I.sz,fun j hj=>?_,by rw [show done (L.setIfInBounds i Y)=fun j=>j=i\/done L j from funext fun j=>propext (eX qz j)]; exact hfw,fun k hk hd=>?_,fun k=>if k=i then v else vs k,fun k Iq hk=>?_⟩
    ·rw [eX qz] at hk ⊢;rcases hk with rfl|hk
     ·rw [hq] at ho;cases ho;exact Or.inr (ji e he hb)
     ·exact Or.inr (I.cl k q hk hq e he hb)
    ·rw [vI _ _ _ _ (hj i hiM)];exact I.kp j hj
    ·rcases (eX qz k).1 hd with h9|h9
     ·omega
     ·exact I.no k hk h9
    ·by_cases e:k=i
     ·subst e;simp only [if_true];refine⟨fun d hd=>?_,fun _=>hvw⟩;have h9:d<a.tmps.size:=by rw [I.sz]; exact hs k d Iq hd
      rw [hd];simp [Act.put,h9]
     ·simp only [if_neg e];rcases (eX qz k).1 hk with h9|h9
      ·exact absurd h9 e
      ·obtain⟨p1,p2⟩:=q1 k Iq h9;refine⟨fun d hd=>?_,fun hn=>?_⟩
       ·rw [vI _ _ _ _ (fun h=>e (hinj k i d Iq hiM hd h))];exact p1 d hd
       ·have n1:last k≠i:=fun e3=>hn ((eX qz _).2 (Or.inl e3));have n2:¬ done L (last k):=fun e3=>hn ((eX qz _).2 (Or.inr e3));exact hpr k _ Iq h9 n2 n1 e (p2 n2)
   ·have J9:i=M:=by
     rcases U M i with h9|h9
     ·obtain⟨e,he,hb,hon⟩:=hnext i o h9 (by omega) ho;have hd:=ji e he hb;rw [hon] at hd;exact absurd hd (I.no _ (by omega))
     ·omega
    subst J9;have hD:=hall (by omega) (done L) I.cl (fun o' ho' e he hb=>by
     rw [ho] at ho';cases ho';exact ji e he hb)
    obtain⟨vs,q1⟩:=I.val;have hq:=hseq a x I.df I.sz I.kp ⟨vs,fun k hk=>⟨(q1 k hk (hD k hk)).1,fun hl=>(q1 k hk (hD k hk)).2 (I.no _ hl)⟩⟩ ⟨done L,hD,I.fr⟩;rw [show N-i=(N-i-1)+1 by omega] at hq;refine wpOp_mono (fun a' x' h=>Or.inr ⟨1,aj _,by omega,fun k hk=>?_,h⟩) hq;rw [eX qz];constructor
    ·rintro (rfl|h9)
     ·omega
     ·rcases U k i with h8|h8
      ·omega
      ·exact absurd h9 (I.no k h8)
    ·intro h9;by_cases e:k=i
     ·exact Or.inl e
     ·exact Or.inr (hD k (by omega))
  ·have hge:M+s<=i:=by
    rcases U i (M+s) with h9|h9
    ·exact absurd ((h3 i (by omega)).2 h9) hnd
    ·exact h9
   have hie:i=M+s:=by
    rcases U (M+s) i with h9|h9
    ·obtain⟨e,he,hb,hon⟩:=hnext i o (by omega) (by omega) ho;have hd:=ji e he hb;rw [hon] at hd;have:=(h3 (i-1) (by omega)).1 hd;omega
    ·omega
   subst hie;rw [show N-M-s=(N-M-(s+1))+1 by omega] at h4;refine wpOp_mono (fun a' x' h=>Or.inr ⟨s+1,by omega,by omega,fun k hk=>?_,h⟩) h4;rw [eX qz];constructor
   ·rintro (rfl|h9)
    ·omega
    ·have:=(h3 k hk).1 h9;omega
   ·intro h9;by_cases e:k=M+s
    ·exact Or.inl e
    ·exact Or.inr ((h3 k hk).2 (by omega))
 ·intro L a x hI hd;rcases hI with I|⟨s,h1,h2,h3,h4⟩
  ·rcases U M N with h9|h9
   ·exact absurd (hd M (by omega)) (I.no M (aj _))
   ·obtain⟨vs,q1⟩:=I.val;have hq:=hseq a x I.df I.sz I.kp ⟨vs,fun k hk=>⟨(q1 k hk (hd k (by omega))).1,fun hl=>(q1 k hk (hd k (by omega))).2 (I.no _ hl)⟩⟩ ⟨done L,fun i hi=>hd i (by omega),I.fr⟩;rw [show N-M=0 by omega] at hq;exact hq
  ·have:=(h3 (N-1) (by omega)).1 (hd (N-1) (by omega));rw [show N-M-s=0 by omega] at h4;exact h4
end Rg
end Go.Proofs.Ytmklifheakemeaa
