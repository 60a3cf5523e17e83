/-
  A region that draws . Conditions as told.
-/
import Derived.Test.YtghlpefopidlaaaGreatCQ003
import Derived.Test.YtghlpefopidlaaaGreatCQ004
import Derived.Test.YtghlpefopidlaaaGreatCQ005
set_option maxRecDepth 100000
set_option maxHeartbeats 64000000
open _root_.Bool renaming true->Z
open _root_.Go renaming World->U,Value->Y,Operand->aj,Act->au
open Go.Region renaming binds->J
open _root_.Nat renaming lt_or_ge->O,le_refl->ak
open _root_.Or renaming inr->X,inl->ah
namespace Go.Proofs.YtghlpefopidlaaaGreat
namespace Rg
open Go.RowKit
theorem wpOp_mono {P:Program} {ops:Array Oper} {Q:Exit->au->U->Prop} {i:Nat} {K K':au->U->Prop} {a:au} {w:U} (h:∀ a w,K a w->K' a w) (hw:wpOp P ops Q i K a w):wpOp P ops Q i K' a w:=by
 unfold wpOp at hw ⊢;cases ho:ops[i]? with
 | none =>
  rw [ho] at hw;exact h _ _ hw
 | some o =>
  rw [ho] at hw;simp only at hw ⊢
  split at hw
  ·rename_i h1
   rw [if_pos h1];rcases hw with hw|hw
   ·exact ah (Oper.wp_mono h hw)
   ·exact X hw
  ·rename_i h1
   rw [if_neg h1];exact h _ _ hw
def fT (P:Program) (ops:Array Oper) (Q:Exit->au->U->Prop):Nat->Nat->au->U->Prop
 | 0,_,a,w=>Q .normal a w
 | n+1,k,a,w=>wpOp P ops Q k (fun a w=>fT P ops Q n (k+1) a w) a w
structure Jh (i M:Nat) (dst last:Nat->Nat) (V:Nat->Y->U->Prop) (base:au) (o:Oper) (a:au) (w:U):Prop where
 kp:∀ j u,(∀ k,k<M->dst k≠j)->base.tmps[j]?=some u->a.eval (.tmp j)=u
 at_:∀ e∈o.after,J .any e=Z->(last e.on=i\/M<=last e.on)->V e.on (a.eval (.tmp (dst e.on))) w
 got:∀ e∈o.after,J .any e=Z->a.tmps[dst e.on]?=some (a.eval (.tmp (dst e.on)))
structure SX (l:List Oper) (M:Nat) (dst last:Nat->Nat) (V:Nat->Y->U->Prop) (base:au) (w:U) (L:Array Bool) (a:au) (x:U):Prop where
 no:∀ i,M<=i->¬ done L i
 cl:∀ i o,done L i->l[i]?=some o->∀ e∈o.after,J .any e=Z->done L e.on
 df:a.defers=base.defers
 sz:a.tmps.size=base.tmps.size
 kp:∀ j,(∀ i,i<M->dst i≠j)->a.tmps[j]?=base.tmps[j]?
 mM:Below w.heap.size w x
 val:∃ vs:Nat->Y,∀ i,i<M->done L i->a.tmps[dst i]?=some (vs i)/\(¬ done L (last i)->V i (vs i) x)
theorem gX {P:Program} {Q:Exit->au->U->Prop} {id:Nat} {base:au} {w:U} {l:List Oper} (N M:Nat) (dst last:Nat->Nat) (V:Nat->Y->U->Prop)
  (hm:P.follows .mixedOrders=Z) (hf:yg l.toArray=Z) (hN:l.length=N) (VG:M<=N) (hinj:∀ i j,i<M->j<M->dst i=dst j->i=j) (hs:∀ i,i<M->dst i<base.tmps.size)
  (hop:∀ i o,i<M->l[i]?=some o->∀ a w' (D:Nat->Prop),¬ D i->(∀ j oj,D j->l[j]?=some oj->∀ e∈oj.after,J .any e=Z->D e.on)->(∀ e∈o.after,J .any e=Z->D e.on)->Below w.heap.size w w'->Jh i M dst last V base o a w'->∀ K:au->U->Prop,(∀ v w'',V i v w''->Below w.heap.size w' w''->(∀ j u,j<M->D j->¬ D (last j)->last j≠i->j≠i->V j u w'->V j u w'')->K (a.put (some (dst i)) v) w'')->wpOp P l.toArray Q i K a w')
  (hall:M<N->∀ D:Nat->Prop,(∀ j o,D j->l[j]?=some o->∀ e∈o.after,J .any e=Z->D e.on)->(∀ o,l[M]?=some o->∀ e∈o.after,J .any e=Z->D e.on)->∀ i,i<M->D i)
  (hnext:∀ k o,M<k->k<N->l[k]?=some o->∃ e∈o.after,J .any e=Z/\e.on=k-1)
  (hseq:∀ a w',a.defers=base.defers->a.tmps.size=base.tmps.size->(∀ j,(∀ i,i<M->dst i≠j)->a.tmps[j]?=base.tmps[j]?)->(∃ vs:Nat->Y,∀ i,i<M->a.tmps[dst i]?=some (vs i)/\(M<=last i->V i (vs i) w'))->Below w.heap.size w w'->fT P l.toArray Q (N-M) M a w'):(Code.region id l.toArray Z).wp P Q base w:=by
 refine kI (fun L a x=>SX l M dst last V base w L a x\/∃ s,1<=s/\M+s<=N/\(∀ i,i<N->(done L i↔i<M+s))/\fT P l.toArray Q (N-M-s) (M+s) a x) hm hf ?_ ?_ ?_
 ·exact ah ⟨fun i _=>fA _ _,fun i o h=>absurd h (fA _ _),rfl,rfl,fun _ _=>rfl,(Below.refl _ _).drew,fun _=>.bool Z,fun i _ h=>absurd h (fA _ _)⟩
 ·intro L a x i o hsz hI ho hnd jC;have hi:i<l.length:=(List.getElem?_eq_some_iff.1 ho).1;have qD:i<L.size:=by omega
  rcases hI with I|⟨s,h1,h2,h3,h4⟩
  ·rcases O i M with hiM|hiM
   ·obtain⟨vs,q1⟩:=I.val;have hon:∀ e∈o.after,J .any e=Z->e.on<M:=fun e he hb=>by
     have h7:=List.all_eq_true.1 hf i (List.mem_range.2 (by simpa using hi));have ho':(l.toArray)[i]?=some o:=by simpa using ho
     rw [ho'] at h7;have h8:=Array.all_eq_true'.1 h7 e he;rw [hb] at h8;have:e.on<i:=by simpa using h8
     omega
    have seen:Jh i M dst last V base o a x:=⟨fun j u hj hu=>dD (by rw [I.kp j hj]; exact hu),fun e he hbd hl=>by
     obtain⟨p1,p2⟩:=q1 e.on (hon e he hbd) (jC e he hbd);rw [dD p1];refine p2 ?_;rcases hl with hl|hl
     ·rw [hl]; exact hnd
     ·exact I.no _ hl,fun e he hbd=>by
     obtain⟨p1,p2⟩:=q1 e.on (hon e he hbd) (jC e he hbd);rw [dD p1];exact p1⟩
    refine hop i o hiM ho a x (done L) hnd I.cl jC I.mM seen _ fun v w'' hvw hbw hpr=>ah ?_;refine⟨fun k hk hd=>?_,fun k q hk hq e he hb=>?_,I.df,by rw [size_put]; exact I.sz,fun j hj=>?_,I.mM.trans hbw,fun k=>if k=i then v else vs k,fun k Hl hk=>?_⟩
    ·rcases (eT qD k).1 hd with h9|h9
     ·omega
     ·exact I.no k hk h9
    ·rw [eT qD] at hk ⊢;rcases hk with rfl|hk
     ·rw [hq] at ho;cases ho;exact X (jC e he hb)
     ·exact X (I.cl k q hk hq e he hb)
    ·rw [get_put _ _ _ _ (fun e=>hj i hiM e.symm)];exact I.kp j hj
    ·by_cases e:k=i
     ·subst e;have:dst k<a.tmps.size:=by rw [I.sz]; exact hs k Hl
      simp only [if_true];exact⟨by simp [Act.put,this],fun _=>hvw⟩
     ·simp only [if_neg e];rw [get_put _ _ _ _ (fun e2=>e (hinj k i Hl hiM e2))];rcases (eT qD k).1 hk with h9|h9
      ·exact absurd h9 e
      ·obtain⟨p1,p2⟩:=q1 k Hl h9;refine⟨p1,fun hn=>?_⟩;have n1:last k≠i:=fun e3=>hn ((eT qD _).2 (ah e3));have n2:¬ done L (last k):=fun e3=>hn ((eT qD _).2 (X e3));exact hpr k _ Hl h9 n2 n1 e (p2 n2)
   ·have PW:i=M:=by
     rcases O M i with h9|h9
     ·obtain⟨e,he,hb,hon⟩:=hnext i o h9 (by omega) ho;have hd:=jC e he hb;rw [hon] at hd;exact absurd hd (I.no _ (by omega))
     ·omega
    subst PW;have hD:=hall (by omega) (done L) I.cl (fun o' ho' e he hb=>by
     rw [ho] at ho';cases ho';exact jC e he hb)
    obtain⟨vs,q1⟩:=I.val;have hq:=hseq a x I.df I.sz I.kp ⟨vs,fun k hk=>⟨(q1 k hk (hD k hk)).1,fun hl=>(q1 k hk (hD k hk)).2 (I.no _ hl)⟩⟩ I.mM;rw [show N-i=(N-i-1)+1 by omega] at hq;refine wpOp_mono (fun a' x' h=>X ⟨1,ak _,by omega,fun k hk=>?_,h⟩) hq;rw [eT qD];constructor
    ·rintro (rfl|h9)
     ·omega
     ·rcases O k i with h8|h8
      ·omega
      ·exact absurd h9 (I.no k h8)
    ·intro h9;by_cases e:k=i
     ·exact ah e
     ·exact X (hD k (by omega))
  ·have hge:M+s<=i:=by
    rcases O i (M+s) with h9|h9
    ·exact absurd ((h3 i (by omega)).2 h9) hnd
    ·exact h9
   have hie:i=M+s:=by
    rcases O (M+s) i with h9|h9
    ·obtain⟨e,he,hb,hon⟩:=hnext i o (by omega) (by omega) ho;have hd:=jC e he hb;rw [hon] at hd;have:=(h3 (i-1) (by omega)).1 hd;omega
    ·omega
   subst hie;rw [show N-M-s=(N-M-(s+1))+1 by omega] at h4;refine wpOp_mono (fun a' x' h=>X ⟨s+1,by omega,by omega,fun k hk=>?_,h⟩) h4;rw [eT qD];constructor
   ·rintro (rfl|h9)
    ·omega
    ·have:=(h3 k hk).1 h9;omega
   ·intro h9;by_cases e:k=M+s
    ·exact ah e
    ·exact X ((h3 k hk).2 (by omega))
 ·intro L a x hI hd;rcases hI with I|⟨s,h1,h2,h3,h4⟩
  ·rcases O M N with h9|h9
   ·exact absurd (hd M (by omega)) (I.no M (ak _))
   ·obtain⟨vs,q1⟩:=I.val;have hq:=hseq a x I.df I.sz I.kp ⟨vs,fun k hk=>⟨(q1 k hk (hd k (by omega))).1,fun hl=>(q1 k hk (hd k (by omega))).2 (I.no _ hl)⟩⟩ I.mM;rw [show N-M=0 by omega] at hq;exact hq
  ·have:=(h3 (N-1) (by omega)).1 (hd (N-1) (by omega));rw [show N-M-s=0 by omega] at h4;exact h4
theorem iV {P:Program} (ρ:aj->Y) (o:Oper) (t:TypeId) (parts:Array (Nat×aj)) (ho:o.op=.build t parts) {ps:Array (Nat×Y)} (hp:parts.map (fun x=>(x.1,ρ x.2))=ps) {v:Y} {w:U} (hr:(Instr.build t ps).run P w=.ok v w) :
  (execOp ρ o).run P w=.ok (.value v) w:=by
 subst hp;simp [execOp,ho,hr,Result.andThen]
theorem Dx {P:Program} (ρ:aj->Y) (o:Oper) (t:TypeId) (x y:aj) (ho:o.op=.store t x y) {w w':U} (hr:(Instr.storeAt t (ρ x) (ρ y)).run P w=.ok () w') :
  (execOp ρ o).run P w=.ok .skip w':=by
 simp [execOp,ho,hr,Result.andThen]
end Rg
namespace At
open Go.RowKit Va
abbrev A4:=ByteArray×Bool×Int×ByteArray
abbrev av (x:A4):Y:=.agg #[.string x.1,.bool x.2.1,.int .i64 x.2.2.1,.string x.2.2.2]
end At
namespace Kp
open Go.RowKit Va In
def nm (i:Nat):ByteArray:=⟨#[UInt8.ofNat (97+i)]⟩
end Kp
namespace Pr
open Go.RowKit Go.ChangeShapes Go.WideShapes In
end Pr
end Go.Proofs.YtghlpefopidlaaaGreat
