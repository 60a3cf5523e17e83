/-
  The law PredForms, from its second part on. Condition: the contracts of package pred; numbers of 64 bits.
-/
import Derived.Test.YtbfecndhjlimaaaDoorPrFormsA
import Derived.Deep.RegionLaw
namespace Go.Proofs.YtbfecndhjlimaaaDoor.Pr
open Go.RowKit Go.Sort Go.Proofs.YtbfecndhjlimaaaDoor Go.Proofs.YtbfecndhjlimaaaDoor.Pu Go.Proofs.YtbfecndhjlimaaaDoor.Rw Go.Proofs.YtbfecndhjlimaaaDoor.Va Go.Proofs.YtbfecndhjlimaaaDoor.Kp

/-- An append, as one step of a region that draws, met by its run. -/
theorem step_append_run {P : Program} {ops : Array Oper} {o : Oper} {a : Act} {w w' : World} {K : Act → World → Prop} {Q : Exit → Act → World → Prop} {E : Prop}
    (hg : o.guard = none) (s x : Operand) (t : TypeId) (hop : o.op = .call { callee := .builtin .append, args := #[s, x], argTypes := #[t, t] }) {v xv v' : Value} (hs : a.eval s = v) (hx : a.eval x = xv)
    (hr : (Builtin.append_ #[t, t] o.type #[v, xv]).run P w = .ok v' w') (hK : K (a.put o.dst v') w') :
    if Region.wanted o (yielded ops a.tmps) = true then Oper.wp P o a w K Q else E := by
  have hw : Region.wanted o (yielded ops a.tmps) = true := by simp [Region.wanted, hg]
  rw [if_pos hw]
  unfold Oper.wp execOp
  simp only [hop, resolve, invoke, builtin, Sem.run_bind, Sem.run_pure, Result.andThen_ok, List.map_toArray, List.map_cons, List.map_nil, hs, hx, hr]
  exact hK

/-- A call, as one step of a region that draws, met by its contract. -/
theorem step_call_run {P : Program} {ops : Array Oper} {o : Oper} {a : Act} {w : World} {K : Act → World → Prop} {Q : Exit → Act → World → Prop} {E : Prop} {f : FuncId} {args : Array Value} {R : Ending → World → Prop}
    (hg : o.guard = none) (hr : (execOp a.eval o).run P w = .ok (.enter f args) w) (hc : Calls P f args w R) (hR : ∀ e w', R e w' → ∃ v, e = .returned v ∧ K (a.put o.dst v) w') :
    if Region.wanted o (yielded ops a.tmps) = true then Oper.wp P o a w K Q else E := by
  have hw : Region.wanted o (yielded ops a.tmps) = true := by simp [Region.wanted, hg]
  rw [if_pos hw]
  unfold Oper.wp
  rw [hr, Oper.upon_enter]
  refine hc.mono ?_
  intro e w' h
  obtain ⟨v, rfl, hk⟩ := hR e w' h
  exact hk
theorem call_fn {P : Program} {f : FuncId} {fn : Func} {c : Code} (hf : P.funcs[f]? = some fn) (hname : (fn.name == "runtime.NumGoroutine") = false) (hb : fn.body = some c) (args : Array Value) (w : World) : (callFunc f args).run P w = .ok (.enter f args) w := by
  have h1 : fn.name ≠ "runtime.NumGoroutine" := by simpa using hname
  simp [callFunc, hf, h1, hb]
theorem ex_call1 {P : Program} (ρ : Operand → Value) (o : Oper) (x : Operand) (t : TypeId) (f : FuncId) (ho : o.op = .call { callee := .value (.func f), args := #[x], argTypes := #[t] }) {v : Value} (hx : ρ x = v) (hf : ρ (.func f) = .func (.func f) #[] #[]) (w : World)
    (hc : (callFunc f #[v]).run P w = .ok (.enter f #[v]) w) : (execOp ρ o).run P w = .ok (.enter f #[v]) w := by
  simp [execOp, ho, resolve, invoke, hx, hf, Deferred.ofValue, hc]
theorem call_make (v : Value) (w : World) : (callFunc 9 #[v]).run Tryd.prog w = .ok (.enter 9 #[v]) w := call_fn Tryd.func9 (by kernel_rfl) rfl _ _
theorem call_pred (v : Value) (w : World) : (callFunc 13 #[v]).run Tryd.prog w = .ok (.enter 13 #[v]) w := call_fn Tryd.func13 (by kernel_rfl) rfl _ _

set_option maxRecDepth 100000 in
set_option maxHeartbeats 4000000 in
theorem forms_4 {G : World → Prop} (K : POks G) (w W : World) (pv qv xv : Value) (l m : List Cn) (n : Int) (c : Nat) (hc : c ≤ l.length) (hg : G w) (hb : Below w.heap.size w W) (hp : RowC W pv (l.map r5)) (hq : RowC W qv (m.map r5)) (hx : RowC W xv (l.map r5)) (nl : NF l) (nm_ : NF m)
    (u0 u1 u3 u4 u5 u6 u12 u13 u14 u15 u16 u17 u18 u19 u20 u21 u22 u23 u24 u25 u26 u27 u28 u29 u30 u31 u32 u33 u34 u35 u36 u37 u38 u39 u40 u41 u42 u43 u44 u45 u46 u47 u48 u49 u50 u51 u52 u53 u54 u55 u56 u57 u58 u59 u60 u61 u62 u63 u64 u65 u66 u67 u68 u69 u70 u71 u72 u73 u74 u75 u76 u77 u78 u79 u80 u81 u82 u83 u84 u85 u86 u87 u88 u89 u90 u91 u92 u93 u94 u95 u96 u97 u98 u99 u100 u101 u102 u103 u104 u105 u106 u107 u108 u109 u110 u111 u112 u113 u114 u115 u116 u117 : Value) :
    Code.wp Tryd.prog forms4 (bodyPost Tryd.prog Tryd.f4 (PFQ w)) ⟨(u0 :: u1 :: .int .i64 n :: u3 :: u4 :: u5 :: u6 :: pv :: qv :: xv :: .nilIface :: .int .i64 (c : Nat) :: u12 :: u13 :: u14 :: u15 :: u16 :: u17 :: u18 :: u19 :: u20 :: u21 :: u22 :: u23 :: u24 :: u25 :: u26 :: u27 :: u28 :: u29 :: u30 :: u31 :: u32 :: u33 :: u34 :: u35 :: u36 :: u37 :: u38 :: u39 :: u40 :: u41 :: u42 :: u43 :: u44 :: u45 :: u46 :: u47 :: u48 :: u49 :: u50 :: u51 :: u52 :: u53 :: u54 :: u55 :: u56 :: u57 :: u58 :: u59 :: u60 :: u61 :: u62 :: u63 :: u64 :: u65 :: u66 :: u67 :: u68 :: u69 :: u70 :: u71 :: u72 :: u73 :: u74 :: u75 :: u76 :: u77 :: u78 :: u79 :: u80 :: u81 :: u82 :: u83 :: u84 :: u85 :: u86 :: u87 :: u88 :: u89 :: u90 :: u91 :: u92 :: u93 :: u94 :: u95 :: u96 :: u97 :: u98 :: u99 :: u100 :: u101 :: u102 :: u103 :: u104 :: u105 :: u106 :: u107 :: u108 :: u109 :: u110 :: u111 :: u112 :: u113 :: u114 :: u115 :: u116 :: u117 :: []).toArray, []⟩ W := by
  have HG := Lib.hid hg
  have NL := Lib.hid nl
  have NM := Lib.hid nm_
  have l5 := nl.five
  have BD := Lib.hid ((Below.refl W.heap.size W).drew)
  have B0 := Lib.hid (hb.trans (BD.out.mono hb.size))
  obtain ⟨slo, rlo, llo⟩ := loC (hp.on BD.out) c (by simp; omega)
  obtain ⟨shi, rhi, lhi⟩ := hiC (hp.on BD.out) c (by simp; omega)
  have MK := ownC_nil W.drew
  have BA := Lib.hid ((Below.refl W.drew.heap.size W.drew).alloc (Nat.le_refl _) (.cells #[] 23))
  obtain ⟨v1, w1, r1, o1, g1⟩ := appC W.drew.heap.size MK (lhi.on BA.out) (by simp) (by simp; omega) (by simp)
  have B1 := Lib.hid (BA.out.grown g1 (by simp) (fun j hj => (MK.lt j hj).1))
  obtain ⟨v2, w2, r2, o2, g2⟩ := appC W.drew.heap.size o1 (llo.on B1.out) (by simp; omega) (by simp; omega) B1.out.size
  have B2 := Lib.hid (B1.out.grown g2 B1.out.size (fun j hj => (o1.lt j hj).1))
  have R2 := Lib.hid (show RowC w2 v2 ((l.drop c ++ l.take c).map r5) by rw [List.map_append, List.map_drop, List.map_take]; exact Row.of_own (by simpa using o2))
  have BB := Lib.hid (B0.out.trans (B2.out.mono B0.out.size))
  have P2 := Lib.hid ((hp.on BD.out).on B2.out)
  have Q2 := Lib.hid ((hq.on BD.out).on B2.out)
  have X2 := Lib.hid ((hx.on BD.out).on B2.out)
  have PM : (l.drop c ++ l.take c).Perm l := by
    have h := List.perm_append_comm (l₁ := l.drop c) (l₂ := l.take c)
    rwa [List.take_append_drop] at h
  have CY := Lib.hid (make_ok K v2 (l.drop c ++ l.take c) l w2 (make_perm NL.out.rise NL.out.five PM) (K.bel _ _ HG.out BB.out) R2.out ⟨by rw [PM.length_eq]; omega, fun x hx => NL.out.small x (PM.mem_iff.1 hx)⟩ (fun x hx => NL.out.good x (PM.mem_iff.1 hx)))
  obtain ⟨po, pc, hpv⟩ := hp.len
  rw [List.length_map] at hpv
  subst hpv
  clear hg hb hp hq hx nl nm_ MK o1 g1 o2 g2 BA B1 B2 llo lhi BD B0 R2 PM
  conv => arg 2; whnf
  go_wp2_with fail
  go_region_law (first | (refine step_append_run rfl (.tmp 32) (.tmp 35) 25 rfl rfl rfl r1 ?_) | (refine step_append_run rfl (.tmp 36) (.tmp 39) 25 rfl rfl rfl r2 ?_) | (refine step_call_run rfl (ex_call1 _ _ (.tmp 40) 25 9 rfl rfl rfl w2 (call_make _ _)) CY.out ?_; rintro e3 w3 ⟨yv, rfl, hy, hb⟩; refine ⟨_, rfl, ?_⟩))
  all_goals simp only [Exit.then]
  all_goals apply_assumption
  all_goals exact forms_tail K w _ _ _ _ _ l m HG.out (BB.out.trans (hb.mono BB.out.size)) (P2.out.on hb) (Q2.out.on hb) (X2.out.on hb) hy NL.out NM.out _ _ _ _ _ _ _ _ _ _ _ _ _ _ _ _ _ _ _ _ _ _ _ _ _ _ _ _ _ _ _ _ _ _ _ _ _ _ _ _ _ _ _ _ _ _ _ _ _ _ _ _ _ _ _ _ _ _ _ _ _ _ _ _ _ _ _ _ _ _ _ _ _ _ _ _ _ _ _ _ _ _ _ _ _ _ _ _ _ _ _ _ _ _ _ _ _ _ _ _ _ _ _ _ _ _ _ _ _ _ _ _ 
end Go.Proofs.YtbfecndhjlimaaaDoor.Pr
