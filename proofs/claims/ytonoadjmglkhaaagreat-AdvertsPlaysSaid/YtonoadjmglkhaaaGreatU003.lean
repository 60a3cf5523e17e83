/-
  Less, seen and Find of broadsideref9. Condition: rows no longer than a machine holds.
  An append and a call, each as one step of a region that draws its order, met by its run. No program's function in it.
-/
import Derived.Test.YtonoadjmglkhaaaGreatU002
import Derived.Lib.Hide
import Derived.Test.YtonoadjmglkhaaaGreatU000
import Derived.Deep.RegionLaw
namespace Go.Proofs.YtonoadjmglkhaaaGreat.Bk
open Go.RowKit Go.Proofs.YtonoadjmglkhaaaGreat Go.Proofs.YtonoadjmglkhaaaGreat.Rw Go.Proofs.YtonoadjmglkhaaaGreat.Nm Go.Proofs.YtonoadjmglkhaaaGreat.Pr

abbrev idv (x : Id) : Value := .agg #[.int .i64 x.1, .int .i64 x.2]
theorem stoodId : Tryz.prog.stoodInHeld 37 = false := by kernel_rfl
theorem eqId (a b c d : Int) (r : Bool) (h : (a == c && b == d) = r) (w : World) : (binOp .eql 37 (.agg #[.int .i64 a, .int .i64 b]) (.agg #[.int .i64 c, .int .i64 d])).run Tryz.prog w = .ok (.bool r) w := by
  have st := stoodId
  subst h
  by_cases h1 : a = c <;> by_cases h2 : b = d <;> simp [go_sem, Tryz.underlying37, Tryz.underlying3, st, h1, h2]
theorem newB (w : World) (o : Obj) : Below w.heap.size w (w.alloc o) := (Below.refl _ _).alloc (Nat.le_refl _) _
theorem two_new (w : World) (c d : Array Value) (s t : TypeId) : Below w.heap.size w ((w.alloc (.cells c s)).alloc (.cells d t)) ∧ Box ((w.alloc (.cells c s)).alloc (.cells d t)) w.heap.size c s ∧ Box ((w.alloc (.cells c s)).alloc (.cells d t)) (w.heap.size + 1) d t := by
  refine ⟨((Below.refl _ _).alloc (Nat.le_refl _) _).alloc (by simp) _, (box_new w c s).more _, ?_⟩
  have h := box_new (w.alloc (.cells c s)) d t
  simpa using h
set_option maxRecDepth 100000 in
set_option maxHeartbeats 4000000 in
theorem less_any (x y : Id) (w : World) : Calls Tryz.prog 36 #[idv x, idv y] w fun e w' => e = .returned (.bool (lessI x y)) ∧ Below w.heap.size w w' := by
  obtain ⟨a, b⟩ := x
  obtain ⟨c, d⟩ := y
  obtain ⟨h0, h1, h2⟩ := two_new w #[.int .i64 a, .int .i64 b] #[.int .i64 c, .int .i64 d] 37 37
  have B := Lib.hid h0
  have a0 := h1.cell 0
  have a1 := h1.cell 1
  have b0 := h2.cell 0
  have b1 := h2.cell 1
  simp only [List.getElem?_toArray, List.getElem?_cons_zero, List.getElem?_cons_succ] at a0 a1 b0 b1
  have R := Lib.hid (show lessI (a, b) (c, d) = (decide (a < c) || (a == c && decide (b < d))) from rfl)
  generalize lessI (a, b) (c, d) = r at *
  obtain ⟨r1, e1⟩ : ∃ r, decide (a < c) = r := ⟨_, rfl⟩
  obtain ⟨r2, e2⟩ : ∃ r, (a == c) = r := ⟨_, rfl⟩
  obtain ⟨r3, e3⟩ : ∃ r, decide (b < d) = r := ⟨_, rfl⟩
  rw [e1, e2, e3] at R
  clear h0 h1 h2
  go_enter Tryz.func36, Tryz.ntmps36
  cases r1 <;> cases r2
  all_goals
    go_wp2
    go_ret
    exact ⟨by rw [R.out]; simp, B.out⟩
set_option maxRecDepth 100000 in
set_option maxHeartbeats 8000000 in
theorem rseen_any (me : Int) (nv av ev ov : Value) (sv : Sl) (l : List Id) (x : Id) (w : World) (hs : RowJ w (slv sv) l) :
    Calls Tryz.prog 35 #[.agg #[.int .i64 me, nv, av, slv sv, ev, ov], idv x] w fun e w' => e = .returned (.bool (decide (x ∈ l))) ∧ Below w.heap.size w w' := by
  obtain ⟨c, d⟩ := x
  obtain ⟨so, sn, sc⟩ := sv
  obtain ⟨ao, ac, hv⟩ := hs.len
  have hv : Value.slice so sn sc = .slice ao l.length ac := hv
  obtain ⟨rfl, rfl, rfl⟩ : so = ao ∧ sn = l.length ∧ sc = ac := by simpa using hv
  obtain ⟨h0, h1, h2⟩ := two_new w #[.int .i64 me, nv, av, .slice so l.length sc, ev, ov] #[.int .i64 c, .int .i64 d] 29 37
  have B := Lib.hid h0
  have HS := Lib.hid (hs.on h0)
  have X2 := Lib.hid h1
  have X3 := Lib.hid h2
  have lm := hs.most
  unfold maxLen at lm
  obtain ⟨n, hn⟩ : ∃ n, n = l.length := ⟨_, rfl⟩
  have q3 := h1.cell 3
  simp only [List.getElem?_toArray, List.getElem?_cons_zero, List.getElem?_cons_succ] at q3
  rw [← hn] at HS X2 lm q3 B X3 ⊢
  have HN := Lib.hid hn.symm
  clear h0 h1 h2 hs hv hn
  go_enter Tryz.func35, Tryz.ntmps35
  go_upto_region 1 with fail
  generalize (w.alloc (.cells #[.int .i64 me, nv, av, .slice so n sc, ev, ov] 29)).alloc (.cells #[.int .i64 c, .int .i64 d] 37) = W at *
  go_wp2
  go_loopw [10] (fun i wr => ∃ k : Nat, k ≤ n ∧ i = .int .i64 k ∧ Below W.heap.size W wr ∧ ∀ (j : Nat) (y : Id), j < k → l[j]? = some y → y ≠ (c, d)) (fun i _ => n - (intOf i).toNat)
  case atStart => exact ⟨0, Nat.zero_le _, rfl, Below.refl _ _, fun j y h => by omega⟩
  case round =>
    obtain ⟨k, hk, rfl, hbe, hall⟩ := hrel
    have BE := Lib.hid hbe
    have AL := Lib.hid hall
    clear hbe hall
    by_cases hlt : k < n
    · obtain ⟨y, hy⟩ : ∃ y, l[k]? = some y := ⟨_, List.getElem?_eq_getElem (by rw [HN.out]; exact hlt)⟩
      obtain ⟨p, ix, px⟩ := elJ HS.out rfl HN.out hy
      obtain ⟨p0, p1⟩ := px wr BE.out
      obtain ⟨y1, y2⟩ := y
      simp only at p0 p1
      have NB := Lib.hid (newB wr (.cells #[.int .i64 y1, .int .i64 y2] 37))
      have x0 := ((X3.out.on BE.out).on NB.out).cell 0
      have x1 := ((X3.out.on BE.out).on NB.out).cell 1
      simp only [List.getElem?_toArray, List.getElem?_cons_zero, List.getElem?_cons_succ] at x0 x1
      have hw3 : IntKind.i64.wrap ((k : Int) + 1) = (k : Int) + 1 := IntWalk.i64_in _ (by omega)
      obtain ⟨r, hr⟩ : ∃ r, (y1 == c && y2 == d) = r := ⟨_, rfl⟩
      have he := eqId y1 y2 c d r hr
      have HY := Lib.hid hy
      have HR := Lib.hid hr
      clear px hy hr
      cases r
      · go_wp2
        go_roundw
        case rel => exact ⟨k + 1, by omega, by go_num, BE.out.trans (NB.out.mono BE.out.size), fun j y' hj h1 => by
          rcases Nat.lt_or_ge j k with h3 | h3
          · exact AL.out j y' h3 h1
          · obtain rfl : j = k := by omega
            have e1 := HY.out
            rw [h1] at e1
            rw [Option.some.inj e1]
            intro e
            obtain ⟨rfl, rfl⟩ : y1 = c ∧ y2 = d := by simpa using e
            have := HR.out
            simp at this⟩
        case measure => simp [intOf]; omega
      · go_wp2
        go_ret
        have h8 := HR.out
        obtain ⟨rfl, rfl⟩ : y1 = c ∧ y2 = d := by simpa using h8
        exact ⟨by rw [decide_eq_true (List.mem_of_getElem? HY.out)]; rfl, B.out.trans ((BE.out.trans (NB.out.mono BE.out.size)).mono B.out.size)⟩
    · obtain rfl : k = n := by omega
      go_wp2
      go_ret
      have hd : decide ((c, d) ∈ l) = false := decide_eq_false fun hm => by
        obtain ⟨j, hj, hje⟩ := List.getElem_of_mem hm
        exact AL.out j (c, d) (by rw [← HN.out]; exact hj) (by rw [List.getElem?_eq_getElem hj, hje]) rfl
      exact ⟨by rw [hd]; rfl, B.out.trans (BE.out.mono B.out.size)⟩
theorem findI_bd : ∀ (l : List Id) (x : Id), -1 ≤ findI l x
  | [], _ => by simp [findI]
  | a :: l, x => by
    unfold findI
    have := findI_bd l x
    split
    · omega
    · split <;> omega
theorem find_none (l : List XAd) (x : Id) (h : ∀ (j : Nat) (y : XAd), l[j]? = some y → (y.1, y.2.1) ≠ x) : findI (l.map fun y => (y.1, y.2.1)) x = -1 := by
  induction l with
  | nil => rfl
  | cons a l ih =>
    rw [List.map_cons, findI, if_neg (h 0 a rfl), ih fun j y hj => h (j + 1) y (by simpa using hj), if_pos rfl]
theorem find_at (l : List XAd) (k : Nat) (x : Id) (y : XAd) (h : l[k]? = some y) (hx : (y.1, y.2.1) = x) (hall : ∀ (j : Nat) (z : XAd), j < k → l[j]? = some z → (z.1, z.2.1) ≠ x) : findI (l.map fun y => (y.1, y.2.1)) x = k := by
  induction l generalizing k with
  | nil => simp at h
  | cons a l ih =>
    cases k with
    | zero =>
      obtain rfl : a = y := by simpa using h
      rw [List.map_cons, findI, if_pos hx]
      rfl
    | succ k =>
      have h2 := ih k (by simpa using h) fun j z hj hz => hall (j + 1) z (by omega) (by simpa using hz)
      rw [List.map_cons, findI, if_neg (hall 0 a (by omega) rfl), h2, if_neg (by omega)]
      omega
set_option maxRecDepth 100000 in
set_option maxHeartbeats 8000000 in
theorem rfind_any (me : Int) (nv ev sv ov : Value) (av : Sl) (l : List XAd) (x : Id) (w : World) (hs : RowD w (slv av) l) :
    Calls Tryz.prog 15 #[.agg #[.int .i64 me, nv, slv av, sv, ev, ov], idv x] w fun e w' => e = .returned (.int .i64 (findI (l.map fun y => (y.1, y.2.1)) x)) ∧ Below w.heap.size w w' := by
  obtain ⟨c, d⟩ := x
  obtain ⟨so, sn, sc⟩ := av
  obtain ⟨ao, ac, hv⟩ := hs.len
  have hv : Value.slice so sn sc = .slice ao l.length ac := hv
  obtain ⟨rfl, rfl, rfl⟩ : so = ao ∧ sn = l.length ∧ sc = ac := by simpa using hv
  obtain ⟨h0, h1, h2⟩ := two_new w #[.int .i64 me, nv, .slice so l.length sc, sv, ev, ov] #[.int .i64 c, .int .i64 d] 29 37
  have B := Lib.hid h0
  have HS := Lib.hid (hs.on h0)
  have X2 := Lib.hid h1
  have X3 := Lib.hid h2
  have lm := hs.most
  unfold maxLen at lm
  obtain ⟨n, hn⟩ : ∃ n, n = l.length := ⟨_, rfl⟩
  have q3 := h1.cell 2
  simp only [List.getElem?_toArray, List.getElem?_cons_zero, List.getElem?_cons_succ] at q3
  rw [← hn] at HS X2 lm q3 B X3 ⊢
  have HN := Lib.hid hn.symm
  clear h0 h1 h2 hs hv hn
  go_enter Tryz.func15, Tryz.ntmps15
  go_upto_region 1 with fail
  generalize (w.alloc (.cells #[.int .i64 me, nv, .slice so n sc, sv, ev, ov] 29)).alloc (.cells #[.int .i64 c, .int .i64 d] 37) = W at *
  go_wp2
  go_loopw [10] (fun i wr => ∃ k : Nat, k ≤ n ∧ i = .int .i64 k ∧ Below W.heap.size W wr ∧ ∀ (j : Nat) (y : XAd), j < k → l[j]? = some y → (y.1, y.2.1) ≠ (c, d)) (fun i _ => n - (intOf i).toNat)
  case atStart => exact ⟨0, Nat.zero_le _, rfl, Below.refl _ _, fun j y h => by omega⟩
  case round =>
    obtain ⟨k, hk, rfl, hbe, hall⟩ := hrel
    have BE := Lib.hid hbe
    have AL := Lib.hid hall
    clear hbe hall
    by_cases hlt : k < n
    · obtain ⟨y, hy⟩ : ∃ y, l[k]? = some y := ⟨_, List.getElem?_eq_getElem (by rw [HN.out]; exact hlt)⟩
      obtain ⟨p, ix, px⟩ := elD HS.out rfl HN.out hy
      obtain ⟨p0, p1, p2, p3⟩ := px wr BE.out
      obtain ⟨y1, y2, ⟨yo, yn, yc⟩, y4⟩ := y
      simp only at p0 p1 p2 p3
      have NB := Lib.hid (newB wr (.cells #[.int .i64 y1, .int .i64 y2, .slice yo yn yc, .int .i64 y4] 42))
      have x0 := ((X3.out.on BE.out).on NB.out).cell 0
      have x1 := ((X3.out.on BE.out).on NB.out).cell 1
      simp only [List.getElem?_toArray, List.getElem?_cons_zero, List.getElem?_cons_succ] at x0 x1
      have hw3 : IntKind.i64.wrap ((k : Int) + 1) = (k : Int) + 1 := IntWalk.i64_in _ (by omega)
      obtain ⟨r, hr⟩ : ∃ r, (y1 == c && y2 == d) = r := ⟨_, rfl⟩
      have he := eqId y1 y2 c d r hr
      have HY := Lib.hid hy
      have HR := Lib.hid hr
      clear px hy hr
      cases r
      · go_wp2
        go_roundw
        case rel => exact ⟨k + 1, by omega, by go_num, BE.out.trans (NB.out.mono BE.out.size), fun j y' hj h1 => by
          rcases Nat.lt_or_ge j k with h3 | h3
          · exact AL.out j y' h3 h1
          · obtain rfl : j = k := by omega
            have e1 := HY.out
            rw [h1] at e1
            rw [Option.some.inj e1]
            intro e
            obtain ⟨rfl, rfl⟩ : y1 = c ∧ y2 = d := by simpa using e
            have := HR.out
            simp at this⟩
        case measure => simp [intOf]; omega
      · go_wp2
        go_ret
        have h8 := HR.out
        obtain ⟨rfl, rfl⟩ : y1 = c ∧ y2 = d := by simpa using h8
        exact ⟨by rw [find_at l k (y1, y2) _ HY.out rfl AL.out]; rfl, B.out.trans ((BE.out.trans (NB.out.mono BE.out.size)).mono B.out.size)⟩
    · obtain rfl : k = n := by omega
      go_wp2
      go_ret
      have hd : findI (l.map fun y => (y.1, y.2.1)) (c, d) = -1 := find_none l (c, d) fun j y hj => AL.out j y (by rw [← HN.out]; exact (List.getElem?_eq_some_iff.1 hj).1) hj
      exact ⟨by rw [hd]; rfl, B.out.trans (BE.out.mono B.out.size)⟩
end Go.Proofs.YtonoadjmglkhaaaGreat.Bk

namespace Go.Proofs.YtonoadjmglkhaaaGreat.Rw
open Go.RowKit

/-- An append, as one step of a region that draws, met by its run. -/
theorem step_append_run {P : Program} {ops : Array Oper} {o : Oper} {a : Act} {w w' : World} {K : Act → World → Prop} {Q : Exit → Act → World → Prop} {E : Prop}
    (hg : o.guard = none) (s x : Operand) (t : TypeId) (hop : o.op = .call { callee := .builtin .append, args := #[s, x], argTypes := #[t, t] }) {v xv v' : Value} (hs : a.eval s = v) (hx : a.eval x = xv)
    (hr : (Builtin.append_ #[t, t] o.type #[v, xv]).run P w = .ok v' w') (hK : K (a.put o.dst v') w') :
    if Region.wanted o (yielded ops a.tmps) = true then Oper.wp P o a w K Q else E := by
  have hw : Region.wanted o (yielded ops a.tmps) = true := by simp [Region.wanted, hg]
  rw [if_pos hw]
  unfold Oper.wp execOp
  simp only [hop, resolve, invoke, builtin, Sem.run_bind, Sem.run_pure, Result.andThen_ok, List.map_toArray, List.map_cons, List.map_nil, hs, hx, hr]
  exact hK
/-- A call, as one step of a region that draws, met by its contract. -/
theorem step_call_run {P : Program} {ops : Array Oper} {o : Oper} {a : Act} {w : World} {K : Act → World → Prop} {Q : Exit → Act → World → Prop} {E : Prop} {f : FuncId} {args : Array Value} {R : Ending → World → Prop}
    (hg : o.guard = none) (hr : (execOp a.eval o).run P w = .ok (.enter f args) w) (hc : Calls P f args w R) (hR : ∀ e w', R e w' → ∃ v, e = .returned v ∧ K (a.put o.dst v) w') :
    if Region.wanted o (yielded ops a.tmps) = true then Oper.wp P o a w K Q else E := by
  have hw : Region.wanted o (yielded ops a.tmps) = true := by simp [Region.wanted, hg]
  rw [if_pos hw]
  unfold Oper.wp
  rw [hr, Oper.upon_enter]
  refine hc.mono ?_
  intro e w' h
  obtain ⟨v, rfl, hk⟩ := hR e w' h
  exact hk
theorem call_fn {P : Program} {f : FuncId} {fn : Func} {c : Code} (hf : P.funcs[f]? = some fn) (hname : (fn.name == "runtime.NumGoroutine") = false) (hb : fn.body = some c) (args : Array Value) (w : World) : (callFunc f args).run P w = .ok (.enter f args) w := by
  have h1 : fn.name ≠ "runtime.NumGoroutine" := by simpa using hname
  simp [callFunc, hf, h1, hb]
theorem ex_call1 {P : Program} (ρ : Operand → Value) (o : Oper) (x : Operand) (t : TypeId) (f : FuncId) (ho : o.op = .call { callee := .value (.func f), args := #[x], argTypes := #[t] }) {v : Value} (hx : ρ x = v) (hf : ρ (.func f) = .func (.func f) #[] #[]) (w : World)
    (hc : (callFunc f #[v]).run P w = .ok (.enter f #[v]) w) : (execOp ρ o).run P w = .ok (.enter f #[v]) w := by
  simp [execOp, ho, resolve, invoke, hx, hf, Deferred.ofValue, hc]
theorem ex_call2 {P : Program} (ρ : Operand → Value) (o : Oper) (x y : Operand) (t s : TypeId) (f : FuncId) (ho : o.op = .call { callee := .value (.func f), args := #[x, y], argTypes := #[t, s] }) {v u : Value} (hx : ρ x = v) (hy : ρ y = u) (hf : ρ (.func f) = .func (.func f) #[] #[]) (w : World)
    (hc : (callFunc f #[v, u]).run P w = .ok (.enter f #[v, u]) w) : (execOp ρ o).run P w = .ok (.enter f #[v, u]) w := by
  simp [execOp, ho, resolve, invoke, hx, hy, hf, Deferred.ofValue, hc]
end Go.Proofs.YtonoadjmglkhaaaGreat.Rw
