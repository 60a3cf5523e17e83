/-
  Calls inside a regio. Conditions as told.
-/
import Derived.Test.YtncogjpmboglhaaGreatF007
import Derived.Test.YtncogjpmboglhaaGreatF001
set_option maxRecDepth 100000
set_option maxHeartbeats 64000000
namespace Go.Proofs.YtncogjpmboglhaaGreat.Rg
open Go.RowKit
theorem op_call {P:Program} {ops:Array Oper} {Q:Exit→Act→World→Prop} {K:Act→World→Prop} {a:Act} {w:World} {i:Nat} {o:Oper} {f:FuncId} {args:Array Value} {R:Ending→World→Prop}
  (ho:ops[i]?=some o) (hg:o.guard=none) (hr:(execOp a.eval o).run P w=.ok (.enter f args) w) (hc:Calls P f args w R) (hR:∀ e w',R e w'→∃ v,e=.returned v∧K (a.put o.dst v) w'):wpOp P ops Q i K a w:=by
 unfold wpOp
 rw [ho]
 have hw:Region.wanted o (yielded ops a.tmps)=true:=by simp [Region.wanted,hg]
 simp only [hw,if_true]
 refine Or.inl ?_
 unfold Oper.wp
 rw [hr,Oper.upon_enter]
 refine hc.mono ?_
 intro e w' h
 obtain⟨v,rfl,hk⟩:=hR e w' h
 exact hk
theorem ex_call3 {P:Program} (ρ:Operand→Value) (o:Oper) (x y z:Operand) (t:TypeId) (f:FuncId) (ho:o.op=.call { callee:=.value (.func f),args:=#[x,y,z],argTypes:=#[t,t,t] }) {v u s:Value} (hx:ρ x=v) (hy:ρ y=u) (hz:ρ z=s) (hf:ρ (.func f)=.func (.func f) #[] #[]) (w:World)
  (hc:(callFunc f #[v,u,s]).run P w=.ok (.enter f #[v,u,s]) w):(execOp ρ o).run P w=.ok (.enter f #[v,u,s]) w:=by
 simp [execOp,ho,resolve,invoke,hx,hy,hz,hf,Deferred.ofValue,hc]
theorem ex_field {P:Program} (ρ:Operand→Value) (o:Oper) (s:TypeId) (x:Operand) (f:Nat) (ho:o.op=.fieldAddr s x f) {v:Value} {w:World} (hr:(Instr.fieldAt s (ρ x) f).run P w=.ok v w):(execOp ρ o).run P w=.ok (.value v) w:=by
 unfold execOp
 rw [ho]
 exact v_run hr
theorem ex_bin {P:Program} (ρ:Operand→Value) (o:Oper) (op:BinOp) (t:TypeId) (x y:Operand) (r:TypeId) (ho:o.op=.binOp op t x y r) {v:Value} {w:World} (hr:(do eqGuard op t x y (ρ x) (ρ y); binOp op t (ρ x) (ρ y):Sem Value).run P w=.ok v w):(execOp ρ o).run P w=.ok (.value v) w:=by
 unfold execOp
 rw [ho]
 exact v_run hr
theorem wpOp_mono {P:Program} {ops:Array Oper} {Q:Exit→Act→World→Prop} {i:Nat} {K K':Act→World→Prop} {a:Act} {w:World} (h:∀ a w,K a w→K' a w) (hw:wpOp P ops Q i K a w):wpOp P ops Q i K' a w:=by
 unfold wpOp at hw ⊢
 cases ho:ops[i]? with
 | none =>
  rw [ho] at hw
  exact h _ _ hw
 | some o =>
  rw [ho] at hw
  simp only at hw ⊢
  split at hw
  ·rename_i h1
   rw [if_pos h1]
   rcases hw with hw|hw
   ·exact Or.inl (Oper.wp_mono h hw)
   ·exact Or.inr hw
  ·rename_i h1
   rw [if_neg h1]
   exact h _ _ hw
def SeqFrom (P:Program) (ops:Array Oper) (Q:Exit→Act→World→Prop):Nat→Nat→Act→World→Prop
 | 0,_,a,w=>Q .normal a w
 | n+1,k,a,w=>wpOp P ops Q k (fun a w=>SeqFrom P ops Q n (k+1) a w) a w
structure SeenL (i M:Nat) (dst last:Nat→Nat) (V:Nat→Value→World→Prop) (base:Act) (o:Oper) (a:Act) (w:World):Prop where
 kp:∀ j u,(∀ k,k<M→dst k≠j)→base.tmps[j]?=some u→a.eval (.tmp j)=u
 at_:∀ e∈o.after,Region.binds .any e=true→(last e.on=i∨M≤last e.on)→V e.on (a.eval (.tmp (dst e.on))) w
 got:∀ e∈o.after,Region.binds .any e=true→a.tmps[dst e.on]?=some (a.eval (.tmp (dst e.on)))
structure PhL (l:List Oper) (M:Nat) (dst last:Nat→Nat) (V:Nat→Value→World→Prop) (base:Act) (w:World) (L:Array Bool) (a:Act) (x:World):Prop where
 no:∀ i,M≤i→¬ done L i
 cl:∀ i o,done L i→l[i]?=some o→∀ e∈o.after,Region.binds .any e=true→done L e.on
 df:a.defers=base.defers
 sz:a.tmps.size=base.tmps.size
 kp:∀ j,(∀ i,i<M→dst i≠j)→a.tmps[j]?=base.tmps[j]?
 bel:Below w.heap.size w x
 val:∃ vs:Nat→Value,∀ i,i<M→done L i→a.tmps[dst i]?=some (vs i)∧(¬ done L (last i)→V i (vs i) x)
theorem region_live {P:Program} {Q:Exit→Act→World→Prop} {id:Nat} {base:Act} {w:World} {l:List Oper} (N M:Nat) (dst last:Nat→Nat) (V:Nat→Value→World→Prop)
  (hm:P.follows .mixedOrders=true) (hf:fore l.toArray=true) (hN:l.length=N) (hMN:M≤N) (hinj:∀ i j,i<M→j<M→dst i=dst j→i=j) (hs:∀ i,i<M→dst i<base.tmps.size)
  (hop:∀ i o,i<M→l[i]?=some o→∀ a w' (D:Nat→Prop),¬ D i→(∀ j oj,D j→l[j]?=some oj→∀ e∈oj.after,Region.binds .any e=true→D e.on)→(∀ e∈o.after,Region.binds .any e=true→D e.on)→Below w.heap.size w w'→SeenL i M dst last V base o a w'→∀ K:Act→World→Prop,(∀ v w'',V i v w''→Below w.heap.size w' w''→(∀ j u,j<M→D j→¬ D (last j)→last j≠i→j≠i→V j u w'→V j u w'')→K (a.put (some (dst i)) v) w'')→wpOp P l.toArray Q i K a w')
  (hall:M<N→∀ D:Nat→Prop,(∀ j o,D j→l[j]?=some o→∀ e∈o.after,Region.binds .any e=true→D e.on)→(∀ o,l[M]?=some o→∀ e∈o.after,Region.binds .any e=true→D e.on)→∀ i,i<M→D i)
  (hnext:∀ k o,M<k→k<N→l[k]?=some o→∃ e∈o.after,Region.binds .any e=true∧e.on=k-1)
  (hseq:∀ a w',a.defers=base.defers→a.tmps.size=base.tmps.size→(∀ j,(∀ i,i<M→dst i≠j)→a.tmps[j]?=base.tmps[j]?)→(∃ vs:Nat→Value,∀ i,i<M→a.tmps[dst i]?=some (vs i)∧(M≤last i→V i (vs i) w'))→Below w.heap.size w w'→SeqFrom P l.toArray Q (N-M) M a w'):(Code.region id l.toArray true).wp P Q base w:=by
 refine region_inv (fun L a x=>PhL l M dst last V base w L a x∨∃ s,1≤s∧M+s≤N∧(∀ i,i<N→(done L i↔i<M+s))∧SeqFrom P l.toArray Q (N-M-s) (M+s) a x) hm hf ?_ ?_ ?_
 ·exact Or.inl ⟨fun i _=>none_done _ _,fun i o h=>absurd h (none_done _ _),rfl,rfl,fun _ _=>rfl,(Below.refl _ _).drew,fun _=>.bool true,fun i _ h=>absurd h (none_done _ _)⟩
 ·intro L a x i o hsz hI ho hnd hdep
  have hi:i<l.length:=(List.getElem?_eq_some_iff.1 ho).1
  have hiL:i<L.size:=by omega
  rcases hI with I|⟨s,h1,h2,h3,h4⟩
  ·rcases Nat.lt_or_ge i M with hiM|hiM
   ·obtain⟨vs,q1⟩:=I.val
    have hon:∀ e∈o.after,Region.binds .any e=true→e.on<M:=fun e he hb=>by
     have h7:=List.all_eq_true.1 hf i (List.mem_range.2 (by simpa using hi))
     have ho':(l.toArray)[i]?=some o:=by simpa using ho
     rw [ho'] at h7
     have h8:=Array.all_eq_true'.1 h7 e he
     rw [hb] at h8
     have:e.on<i:=by simpa using h8
     omega
    have seen:SeenL i M dst last V base o a x:=⟨fun j u hj hu=>eval_some (by rw [I.kp j hj]; exact hu),fun e he hbd hl=>by
     obtain⟨p1,p2⟩:=q1 e.on (hon e he hbd) (hdep e he hbd)
     rw [eval_some p1]
     refine p2 ?_
     rcases hl with hl|hl
     ·rw [hl]; exact hnd
     ·exact I.no _ hl,fun e he hbd=>by
     obtain⟨p1,p2⟩:=q1 e.on (hon e he hbd) (hdep e he hbd)
     rw [eval_some p1]
     exact p1⟩
    refine hop i o hiM ho a x (done L) hnd I.cl hdep I.bel seen _ fun v w'' hvw hbw hpr=>Or.inl ?_
    refine⟨fun k hk hd=>?_,fun k q hk hq e he hb=>?_,I.df,by rw [size_put]; exact I.sz,fun j hj=>?_,I.bel.trans hbw,fun k=>if k=i then v else vs k,fun k hkM hk=>?_⟩
    ·rcases (done_set hiL k).1 hd with h9|h9
     ·omega
     ·exact I.no k hk h9
    ·rw [done_set hiL] at hk ⊢
     rcases hk with rfl|hk
     ·rw [hq] at ho
      cases ho
      exact Or.inr (hdep e he hb)
     ·exact Or.inr (I.cl k q hk hq e he hb)
    ·rw [get_put _ _ _ _ (fun e=>hj i hiM e.symm)]
     exact I.kp j hj
    ·by_cases e:k=i
     ·subst e
      have:dst k<a.tmps.size:=by rw [I.sz]; exact hs k hkM
      simp only [if_true]
      exact⟨by simp [Act.put,this],fun _=>hvw⟩
     ·simp only [if_neg e]
      rw [get_put _ _ _ _ (fun e2=>e (hinj k i hkM hiM e2))]
      rcases (done_set hiL k).1 hk with h9|h9
      ·exact absurd h9 e
      ·obtain⟨p1,p2⟩:=q1 k hkM h9
       refine⟨p1,fun hn=>?_⟩
       have n1:last k≠i:=fun e3=>hn ((done_set hiL _).2 (Or.inl e3))
       have n2:¬ done L (last k):=fun e3=>hn ((done_set hiL _).2 (Or.inr e3))
       exact hpr k _ hkM h9 n2 n1 e (p2 n2)
   ·have hiM2:i=M:=by
     rcases Nat.lt_or_ge M i with h9|h9
     ·obtain⟨e,he,hb,hon⟩:=hnext i o h9 (by omega) ho
      have hd:=hdep e he hb
      rw [hon] at hd
      exact absurd hd (I.no _ (by omega))
     ·omega
    subst hiM2
    have hD:=hall (by omega) (done L) I.cl (fun o' ho' e he hb=>by
     rw [ho] at ho'
     cases ho'
     exact hdep e he hb)
    obtain⟨vs,q1⟩:=I.val
    have hq:=hseq a x I.df I.sz I.kp ⟨vs,fun k hk=>⟨(q1 k hk (hD k hk)).1,fun hl=>(q1 k hk (hD k hk)).2 (I.no _ hl)⟩⟩ I.bel
    rw [show N-i=(N-i-1)+1 by omega] at hq
    refine wpOp_mono (fun a' x' h=>Or.inr ⟨1,Nat.le_refl _,by omega,fun k hk=>?_,h⟩) hq
    rw [done_set hiL]
    constructor
    ·rintro (rfl|h9)
     ·omega
     ·rcases Nat.lt_or_ge k i with h8|h8
      ·omega
      ·exact absurd h9 (I.no k h8)
    ·intro h9
     by_cases e:k=i
     ·exact Or.inl e
     ·exact Or.inr (hD k (by omega))
  ·have hge:M+s≤i:=by
    rcases Nat.lt_or_ge i (M+s) with h9|h9
    ·exact absurd ((h3 i (by omega)).2 h9) hnd
    ·exact h9
   have hie:i=M+s:=by
    rcases Nat.lt_or_ge (M+s) i with h9|h9
    ·obtain⟨e,he,hb,hon⟩:=hnext i o (by omega) (by omega) ho
     have hd:=hdep e he hb
     rw [hon] at hd
     have:=(h3 (i-1) (by omega)).1 hd
     omega
    ·omega
   subst hie
   rw [show N-M-s=(N-M-(s+1))+1 by omega] at h4
   refine wpOp_mono (fun a' x' h=>Or.inr ⟨s+1,by omega,by omega,fun k hk=>?_,h⟩) h4
   rw [done_set hiL]
   constructor
   ·rintro (rfl|h9)
    ·omega
    ·have:=(h3 k hk).1 h9
     omega
   ·intro h9
    by_cases e:k=M+s
    ·exact Or.inl e
    ·exact Or.inr ((h3 k hk).2 (by omega))
 ·intro L a x hI hd
  rcases hI with I|⟨s,h1,h2,h3,h4⟩
  ·rcases Nat.lt_or_ge M N with h9|h9
   ·exact absurd (hd M (by omega)) (I.no M (Nat.le_refl _))
   ·obtain⟨vs,q1⟩:=I.val
    have hq:=hseq a x I.df I.sz I.kp ⟨vs,fun k hk=>⟨(q1 k hk (hd k (by omega))).1,fun hl=>(q1 k hk (hd k (by omega))).2 (I.no _ hl)⟩⟩ I.bel
    rw [show N-M=0 by omega] at hq
    exact hq
  ·have:=(h3 (N-1) (by omega)).1 (hd (N-1) (by omega))
   rw [show N-M-s=0 by omega] at h4
   exact h4
theorem ex_buildS {P:Program} (ρ:Operand→Value) (o:Oper) (t:TypeId) (parts:Array (Nat×Operand)) (ho:o.op=.build t parts) {ps:Array (Nat×Value)} (hp:parts.map (fun x=>(x.1,ρ x.2))=ps) {v:Value} {w:World} (hr:(Instr.build t ps).run P w=.ok v w) :
  (execOp ρ o).run P w=.ok (.value v) w:=by
 subst hp
 simp [execOp,ho,hr,Result.andThen]
theorem ex_store {P:Program} (ρ:Operand→Value) (o:Oper) (t:TypeId) (x y:Operand) (ho:o.op=.store t x y) {w w':World} (hr:(Instr.storeAt t (ρ x) (ρ y)).run P w=.ok () w') :
  (execOp ρ o).run P w=.ok .skip w':=by
 simp [execOp,ho,hr,Result.andThen]
end Go.Proofs.YtncogjpmboglhaaGreat.Rg
