/-
  A region that draws its order, whose values are known ahead and whose . Conditions as told.
-/
import Derived.Test.YtncogjpmboglhaaGreatQ001
set_option maxRecDepth 100000
set_option maxHeartbeats 64000000
namespace Go.Proofs.YtncogjpmboglhaaGreat.Rg
open Go.RowKit
theorem eval_some {a : Act} {j : Nat} {v : Value} (h : a.tmps[j]? = some v) : a.eval (.tmp j) = v := by
 have h1 := (Array.getElem?_eq_some_iff.1 h).1
 have h2 := (Array.getElem?_eq_some_iff.1 h).2
 simp [Act.eval,Array.getD,h1,h2]
theorem op_skip {P : Program} {ops : Array Oper} {Q : Exit → Act → World → Prop} {K : Act → World → Prop} {a : Act} {w w' : World} {i : Nat} {o : Oper}
  (ho : ops[i]? = some o) (hg : o.guard = none) (hr : (execOp a.eval o).run P w = .ok .skip w') (h : K (a.put o.dst undef) w') : wpOp P ops Q i K a w := by
 unfold wpOp
 rw [ho]
 have hw : Region.wanted o (yielded ops a.tmps) = true := by simp [Region.wanted,hg]
 simp only [hw,if_true]
 refine Or.inl ?_
 unfold Oper.wp
 rw [hr]
 exact h
theorem frame_mid {a : Act} {bl : List Value} (d0 m : Nat) (df : a.defers = []) (sz : a.tmps.size = bl.length) (hle : d0 + m ≤ bl.length) (kp : ∀ j,(j < d0 ∨ d0 + m ≤ j) → a.tmps[j]? = bl[j]?) :
  ∃ mid : List Value,mid.length = m ∧ a = ⟨(bl.take d0 ++ (mid ++ bl.drop (d0 + m))).toArray,[]⟩ := by
 obtain ⟨tmps,defers⟩ := a
 have hd : defers = [] := df
 have hs : tmps.size = bl.length := sz
 have hk : ∀ j,(j < d0 ∨ d0 + m ≤ j) → tmps[j]? = bl[j]? := kp
 subst hd
 have hl : ((tmps.toList.drop d0).take m).length = m := by simp; omega
 refine ⟨(tmps.toList.drop d0).take m,hl,congrArg (fun x => (⟨x,[]⟩ : Act)) ?_⟩
 apply Array.ext_getElem?
 intro j
 conv => rhs; rw [List.getElem?_toArray]
 by_cases h1 : j < d0
 ·rw [hk j (Or.inl h1),List.getElem?_append_left (by simp; omega),List.getElem?_take,if_pos h1]
 ·have ht : (bl.take d0).length = d0 := by simp; omega
  rw [List.getElem?_append_right (by omega),ht]
  by_cases h2 : j < d0 + m
  ·rw [List.getElem?_append_left (by omega),List.getElem?_take,if_pos (by omega),List.getElem?_drop,Array.getElem?_toList,show d0 + (j - d0) = j by omega]
  ·rw [hk j (Or.inr (by omega)),List.getElem?_append_right (by omega),hl,List.getElem?_drop,show d0 + m + (j - d0 - m) = j by omega]
theorem op_call {P : Program} {ops : Array Oper} {Q : Exit → Act → World → Prop} {K : Act → World → Prop} {a : Act} {w : World} {i : Nat} {o : Oper} {f : FuncId} {args : Array Value} {R : Ending → World → Prop}
  (ho : ops[i]? = some o) (hg : o.guard = none) (hr : (execOp a.eval o).run P w = .ok (.enter f args) w) (hc : Calls P f args w R) (hR : ∀ e w',R e w' → ∃ v,e = .returned v ∧ K (a.put o.dst v) w') : wpOp P ops Q i K a w := by
 unfold wpOp
 rw [ho]
 have hw : Region.wanted o (yielded ops a.tmps) = true := by simp [Region.wanted,hg]
 simp only [hw,if_true]
 refine Or.inl ?_
 unfold Oper.wp
 rw [hr,Oper.upon_enter]
 refine hc.mono ?_
 intro e w' h
 obtain ⟨v,rfl,hk⟩ := hR e w' h
 exact hk
theorem ex_call3 {P : Program} (ρ : Operand → Value) (o : Oper) (x y z : Operand) (t : TypeId) (f : FuncId) (ho : o.op = .call { callee := .value (.func f),args := #[x,y,z],argTypes := #[t,t,t] }) {v u s : Value} (hx : ρ x = v) (hy : ρ y = u) (hz : ρ z = s) (hf : ρ (.func f) = .func (.func f) #[] #[]) (w : World)
  (hc : (callFunc f #[v,u,s]).run P w = .ok (.enter f #[v,u,s]) w) : (execOp ρ o).run P w = .ok (.enter f #[v,u,s]) w := by
 simp [execOp,ho,resolve,invoke,hx,hy,hz,hf,Deferred.ofValue,hc]
theorem ex_field {P : Program} (ρ : Operand → Value) (o : Oper) (s : TypeId) (x : Operand) (f : Nat) (ho : o.op = .fieldAddr s x f) {v : Value} {w : World} (hr : (Instr.fieldAt s (ρ x) f).run P w = .ok v w) : (execOp ρ o).run P w = .ok (.value v) w := by
 unfold execOp
 rw [ho]
 exact v_run hr
theorem ex_bin {P : Program} (ρ : Operand → Value) (o : Oper) (op : BinOp) (t : TypeId) (x y : Operand) (r : TypeId) (ho : o.op = .binOp op t x y r) {v : Value} {w : World} (hr : (do eqGuard op t x y (ρ x) (ρ y); binOp op t (ρ x) (ρ y) : Sem Value).run P w = .ok v w) : (execOp ρ o).run P w = .ok (.value v) w := by
 unfold execOp
 rw [ho]
 exact v_run hr
end Go.Proofs.YtncogjpmboglhaaGreat.Rg
