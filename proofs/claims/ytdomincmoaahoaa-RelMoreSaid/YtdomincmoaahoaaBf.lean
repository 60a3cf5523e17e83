/-
  Holds of package pred: does a constraint allow a value. No condition.
  slices.BinarySearchFunc over constraints in the order of their names, as package pred calls it. Condition: at most 100 constraints, their names rising.
  slices.BinarySearchFunc over constraints in the order of their names, as package pred calls it. Condition: at most 100 constraints, their names rising.
  Both of package pred, and the two that it calls: the constraint that holds just where two of one name do. No condition.
  Both of package pred: the constraint that holds just where two of one name do. No condition.
  Name of package tuple and RightOne of package pred: may a constraint stand in a predicate. Condition: texts below a machine's length.
-/
import Derived.Test.YtdomincmoaahoaaBd
import Derived.Test.YtdomincmoaahoaaBc
import Derived.Lib.Strings
import Derived.Lib.Hide
import Derived.Lib.QuietBelow
import Derived.BigQuiet
import Derived.Test.YtdomincmoaahoaaBa
import Derived.Deep.LoopGhost
import Derived.Laws.Externs
import Derived.BigRegion
import Derived.IntWalk
namespace Go.Proofs.Ytdomincmoaahoaa.Pr
open Go.RowKit Go.Sort Go.Proofs.Ytdomincmoaahoaa Go.Proofs.Ytdomincmoaahoaa.Pu Go.Proofs.Ytdomincmoaahoaa.Rw Go.Proofs.Ytdomincmoaahoaa.Va

theorem slite_any (s p : ByteArray) (w : World) : Calls Try.prog 51 #[.string s, .string p] w fun e w' => e = .returned (.bool (pfx p s)) ∧ w' = w := by
  show Calls Try.prog _ _ _ fun e w' => e = .returned (.bool (Lib.hasPrefix s.data.toList p.data.toList)) ∧ w' = w
  rw [← Lib.hasPrefix_of_take, ← Lib.size_eq, ← Lib.size_eq]
  go_enter Try.func51, Try.ntmps51
  go_wp2
  · rename_i h
    go_ret
    refine ⟨?_, rfl⟩
    show Ending.returned (Value.bool ((s.extract 0 p.size).toList == p.toList)) = _
    rw [Lib.extract_toList, Lib.toList_data]
    simp [h]
  · rename_i h
    go_ret
    refine ⟨?_, rfl⟩
    show Ending.returned (Value.bool false) = _
    simp [h]
theorem hasPrefix_any (s p : ByteArray) (w : World) : Calls Try.prog 44 #[.string s, .string p] w fun e w' => e = .returned (.bool (pfx p s)) ∧ w' = w := by
  go_enter Try.func44, Try.ntmps44
  go_wp2_with fail
  refine (slite_any s p w).mono ?_
  rintro e w' ⟨rfl, rfl⟩
  go_wp2
  go_ret
  exact ⟨rfl, rfl⟩
theorem pfx_len (s u : ByteArray) (h : s.size = u.size) : pfx u s = (s.data.toList == u.data.toList) := by
  have hl : u.data.toList.length = s.data.toList.length := by rw [Array.length_toList, Array.length_toList]; exact h.symm
  rw [Bool.eq_iff_iff, beq_iff_eq, pfx_iff]
  exact ⟨fun h1 => (h1.eq_of_length hl).symm, fun h1 => by rw [h1]; exact List.prefix_refl _⟩
theorem size_not (s u : ByteArray) (h : ¬ s.size = u.size) : (s.data.toList == u.data.toList) = false := by
  rw [beq_eq_false_iff_ne]
  intro e
  have := congrArg List.length e
  rw [Array.length_toList, Array.length_toList] at this
  exact h this
theorem hB (w : World) (nm : ByteArray) (k lo hi : Int) (u : ByteArray) (t : Bool) (n : Int) (s : ByteArray) : Below w.heap.size w ((w.alloc (.cells #[.string nm, .int .i64 k, .int .i64 lo, .int .i64 hi, .string u] 23)).alloc (.cells #[.bool t, .int .i64 n, .string s] 45)) :=
  ((Below.refl w.heap.size w).alloc (Nat.le_refl _) _).alloc (by simp) _
set_option maxRecDepth 100000 in
set_option maxHeartbeats 4000000 in
theorem holds_rg (nm : ByteArray) (lo hi : Int) (t : Bool) (n : Int) (s : ByteArray) (w : World) : Calls Try.prog 32 #[cv (r5 (nm, .rg lo hi)), vl t n s] w fun e w' => e = .returned (.bool (holdsK (.rg lo hi) (t, n, s))) ∧ Below w.heap.size w w' := by
  simp only [r5, kN, kLo, kHi, kT]
  have R := Lib.hid (show holdsK (.rg lo hi) (t, n, s) = (!t && (decide (lo ≤ n) && decide (n ≤ hi))) from rfl)
  have B := Lib.hid (hB w nm 1 lo hi ⟨#[]⟩ t n s)
  generalize holdsK (.rg lo hi) (t, n, s) = r at *
  by_cases h1 : lo ≤ n <;> have H1 := Lib.hid h1 <;> cases t <;> go_enter Try.func32, Try.ntmps32 <;> go_wp2 <;> go_ret <;> exact ⟨ret_bool (by rw [R.out]; have h := H1.out; simp [h] <;> omega), B.out⟩
set_option maxRecDepth 100000 in
set_option maxHeartbeats 4000000 in
theorem holds_tx (nm u : ByteArray) (t : Bool) (n : Int) (s : ByteArray) (w : World) : Calls Try.prog 32 #[cv (r5 (nm, .tx u)), vl t n s] w fun e w' => e = .returned (.bool (holdsK (.tx u) (t, n, s))) ∧ Below w.heap.size w w' := by
  simp only [r5, kN, kLo, kHi, kT]
  have R := Lib.hid (show holdsK (.tx u) (t, n, s) = (t && (s.data.toList == u.data.toList)) from rfl)
  have B := Lib.hid (hB w nm 2 0 0 u t n s)
  generalize holdsK (.tx u) (t, n, s) = r at *
  by_cases h1 : s.size = u.size
  · have e1 : (((s.size : Nat) : Int) != ((u.size : Nat) : Int)) = false := by simp [h1]
    have E := Lib.hid (pfx_len s u h1)
    clear h1
    cases t
    · go_enter Try.func32, Try.ntmps32
      go_wp2
      go_ret
      exact ⟨ret_bool (by rw [R.out]; simp), B.out⟩
    · go_enter Try.func32, Try.ntmps32
      go_wp2_with fail
      refine (hasPrefix_any s u _).mono ?_
      rintro e w' ⟨rfl, rfl⟩
      go_wp2
      go_ret
      exact ⟨ret_bool (by rw [R.out, E.out]; simp), B.out⟩
  · have e1 : (((s.size : Nat) : Int) != ((u.size : Nat) : Int)) = true := by simp; omega
    have E := Lib.hid (size_not s u h1)
    clear h1
    go_enter Try.func32, Try.ntmps32
    go_wp2
    go_ret
    exact ⟨ret_bool (by rw [R.out, E.out]; simp), B.out⟩
set_option maxRecDepth 100000 in
set_option maxHeartbeats 4000000 in
theorem holds_pr (nm u : ByteArray) (t : Bool) (n : Int) (s : ByteArray) (w : World) : Calls Try.prog 32 #[cv (r5 (nm, .pr u)), vl t n s] w fun e w' => e = .returned (.bool (holdsK (.pr u) (t, n, s))) ∧ Below w.heap.size w w' := by
  simp only [r5, kN, kLo, kHi, kT]
  have R := Lib.hid (show holdsK (.pr u) (t, n, s) = (t && pfx u s) from rfl)
  have B := Lib.hid (hB w nm 3 0 0 u t n s)
  generalize holdsK (.pr u) (t, n, s) = r at *
  cases t
  · go_enter Try.func32, Try.ntmps32
    go_wp2
    go_ret
    exact ⟨ret_bool (by rw [R.out]; simp), B.out⟩
  · go_enter Try.func32, Try.ntmps32
    go_wp2_with fail
    refine (hasPrefix_any s u _).mono ?_
    rintro e w' ⟨rfl, rfl⟩
    go_wp2
    go_ret
    exact ⟨ret_bool (by rw [R.out]; simp), B.out⟩
theorem holds_any (c : Cn) (t : Bool) (n : Int) (s : ByteArray) (w : World) : Calls Try.prog 32 #[cv (r5 c), vl t n s] w fun e w' => e = .returned (.bool (holdsK c.2 (t, n, s))) ∧ Below w.heap.size w w' := by
  obtain ⟨nm, k⟩ := c
  cases k with
  | rg lo hi => exact holds_rg nm lo hi t n s w
  | tx u => exact holds_tx nm u t n s w
  | pr u => exact holds_pr nm u t n s w
end Go.Proofs.Ytdomincmoaahoaa.Pr

namespace Go.Proofs.Ytdomincmoaahoaa.Pr
open Go.RowKit Go.Sort Go.Proofs.Ytdomincmoaahoaa Go.Proofs.Ytdomincmoaahoaa.Pu Go.Proofs.Ytdomincmoaahoaa.Rw Go.Proofs.Ytdomincmoaahoaa.Va

set_option maxRecDepth 100000 in
set_option maxHeartbeats 1000000 in
theorem cmpStr_any (a b : ByteArray) (w : World) : Calls Try.prog 59 #[.string a, .string b] w fun e w' => e = .returned (.int .i64 (cmpC a b)) ∧ w' = w := by
  go_enter Try.func59, Try.ntmps59
  go_wp2_with fail
  rw [run_callFunc_extern Try.func61 (by kernel_rfl) (by kernel_rfl) (by kernel_rfl) (e := Extern.BytealgCompare.compare) (by kernel_rfl), Lib.run_compareString]
  simp only [Result.andThen]
  rw [Oper.upon_value]
  go_wp2
  go_ret
  exact ⟨rfl, rfl⟩
theorem compare_any (a b : ByteArray) (w : World) : Calls Try.prog 56 #[.string a, .string b] w fun e w' => e = .returned (.int .i64 (cmpC a b)) ∧ w' = w := by
  go_enter Try.func56, Try.ntmps56
  go_wp2_with fail
  refine (cmpStr_any a b w).mono ?_
  rintro e w' ⟨rfl, rfl⟩
  go_wp2
  go_ret
  exact ⟨rfl, rfl⟩
theorem byName_any (c d : C5) (w : World) : Calls Try.prog 53 #[cv c, cv d] w fun e w' => e = .returned (.int .i64 (cmpC c.1 d.1)) ∧ Below w.heap.size w w' := by
  go_enter Try.func53, Try.ntmps53
  go_wp2_with fail
  refine (compare_any c.1 d.1 _).mono ?_
  rintro e w' ⟨rfl, rfl⟩
  go_wp2
  go_ret
  exact ⟨rfl, ((Below.refl w.heap.size w).alloc (Nat.le_refl _) _).alloc (by simp) _⟩
theorem byName_re (c d : C5) (r : Int) (hr : cmpC c.1 d.1 = r) (w : World) (k : Nat) (os : Array Obj) :
    Calls Try.prog 53 #[cv c, cv d] (grow (redrawn w k) os) fun e w'' => e = .returned (.int .i64 r) ∧ ∃ p : Regrown, w'' = grow (redrawn w p.d) p.os := by
  subst hr
  exact Calls.regrown_of (byName_any c d _)
theorem call_byName (args : Array Value) (w : World) : (callFunc 53 args).run Try.prog w = .ok (.enter 53 args) w := by
  have h : ∀ {P : Program} {f : FuncId} {fn : Func} {c : Code} (hf : P.funcs[f]? = some fn) (hname : (fn.name == "runtime.NumGoroutine") = false) (hb : fn.body = some c) (args : Array Value) (w : World), (callFunc f args).run P w = .ok (.enter f args) w := by
    intro P f fn c hf hname hb args w
    have h1 : fn.name ≠ "runtime.NumGoroutine" := by simpa using hname
    simp [callFunc, hf, h1, hb]
  exact h Try.func53 (by kernel_rfl) rfl _ _
end Go.Proofs.Ytdomincmoaahoaa.Pr

namespace Go.Proofs.Ytdomincmoaahoaa.Pr
open Go.RowKit Go.Sort Go.Proofs.Ytdomincmoaahoaa Go.Proofs.Ytdomincmoaahoaa.Pu Go.Proofs.Ytdomincmoaahoaa.Rw Go.Proofs.Ytdomincmoaahoaa.Va

/-- Where an element lies, and its cells, in worlds of the class. -/
theorem el_regrown {W W1 : World} {v : Value} {l : List C5} {ao : Option Addr} {n c k : Nat} {x : C5} (h : RowC W v l) (hv : v = .slice ao n c) (hn : l.length = n) (hk : l[k]? = some x) (hb : Below W.heap.size W W1) :
    ∃ p : Addr, (∀ w, (Instr.indexAt 25 (.slice ao n c) (.int .i64 k)).run Try.prog w = .ok (.pointer (some p)) w) ∧
      (∀ d os, (grow (redrawn W1 d) os).cell? p = some (.string x.1)) ∧ (∀ d os, (grow (redrawn W1 d) os).cell? ⟨p.block, p.off + 1, none⟩ = some (.int .i64 x.2.1)) ∧ (∀ d os, (grow (redrawn W1 d) os).cell? ⟨p.block, p.off + 2, none⟩ = some (.int .i64 x.2.2.1)) ∧ (∀ d os, (grow (redrawn W1 d) os).cell? ⟨p.block, p.off + 3, none⟩ = some (.int .i64 x.2.2.2.1)) ∧ (∀ d os, (grow (redrawn W1 d) os).cell? ⟨p.block, p.off + 4, none⟩ = some (.string x.2.2.2.2)) := by
  obtain ⟨p, h1, h2⟩ := elC h hv hn hk
  obtain ⟨c0, c1, c2, c3, c4⟩ := h2 _ hb
  exact ⟨p, h1, cell_regrown c0, cell_regrown c1, cell_regrown c2, cell_regrown c3, cell_regrown c4⟩
theorem box_regrown {W : World} {b : Nat} {c : C5} (h : Box W b (cells5 c).toArray 23) : (∀ d os, (grow (redrawn W d) os).cell? ⟨b, 0, none⟩ = some (.string c.1)) ∧ (∀ d os, (grow (redrawn W d) os).cell? ⟨b, 1, none⟩ = some (.int .i64 c.2.1)) ∧ (∀ d os, (grow (redrawn W d) os).cell? ⟨b, 2, none⟩ = some (.int .i64 c.2.2.1)) ∧ (∀ d os, (grow (redrawn W d) os).cell? ⟨b, 3, none⟩ = some (.int .i64 c.2.2.2.1)) ∧ (∀ d os, (grow (redrawn W d) os).cell? ⟨b, 4, none⟩ = some (.string c.2.2.2.2)) :=
  ⟨cell_regrown (h.cell 0), cell_regrown (h.cell 1), cell_regrown (h.cell 2), cell_regrown (h.cell 3), cell_regrown (h.cell 4)⟩

set_option maxRecDepth 100000 in
set_option maxHeartbeats 8000000 in
theorem bs_any (v : Value) (l : List Cn) (c : Cn) (w : World) (hv : RowC w v (l.map r5)) (hr : RiseC l) (hl : l.length ≤ 100) :
    Calls Try.prog 52 #[v, cv (r5 c), .func (.func 53) #[] #[]] w fun e w' => e = .returned (.tuple #[.int .i64 (cntC l c.1), .bool (thereC l c.1)]) ∧ Below w.heap.size w w' := by
  have HL := Lib.hid hv
  have HR := Lib.hid hr
  have LN := Lib.hid (show (l.map r5).length = l.length from List.length_map ..)
  have BX := Lib.hid (box_new w (cells5 (r5 c)).toArray 23)
  have B1 := Lib.hid ((Below.refl w.heap.size w).alloc (Nat.le_refl _) (.cells (cells5 (r5 c)).toArray 23))
  obtain ⟨ao, ac, rfl⟩ := hv.len
  rw [List.length_map] at HL ⊢
  obtain ⟨n, hn⟩ : ∃ n, n = l.length := ⟨_, rfl⟩
  rw [← hn] at HL hl ⊢
  have HN := Lib.hid hn
  obtain ⟨cnt, hc⟩ : ∃ k, k = cntC l c.1 := ⟨_, rfl⟩
  obtain ⟨th, ht⟩ : ∃ k, k = thereC l c.1 := ⟨_, rfl⟩
  rw [← hc, ← ht]
  have HC := Lib.hid hc
  have HT := Lib.hid ht
  clear hv hr hn hc ht
  go_enter Try.func52, Try.ntmps52
  go_wp2
  change Code.wp _ _ _ _ (w.alloc (.cells (cells5 (r5 c)).toArray 23))
  generalize w.alloc (.cells (cells5 (r5 c)).toArray 23) = w1 at *
  go_loopg [9, 10] n (fun kx s9 s10 wr => ∃ lo hi : Nat, s9 = .int .i64 lo ∧ s10 = .int .i64 hi ∧ lo ≤ hi ∧ hi ≤ n ∧ hi - lo ≤ kx ∧ Below w.heap.size w wr ∧ Box wr w.heap.size (cells5 (r5 c)).toArray 23 ∧
    (∀ (t : Nat) (y : Cn), t < lo → l[t]? = some y → Op.bytesLess y.1.toList c.1.toList = true) ∧ (∀ (t : Nat) (y : Cn), hi ≤ t → l[t]? = some y → Op.bytesLess y.1.toList c.1.toList = false))
  case atStart => exact ⟨0, n, rfl, rfl, Nat.zero_le _, Nat.le_refl _, by omega, B1.out, BX.out, fun t y h => by omega, fun t y h1 h2 => by have := (List.getElem?_eq_some_iff.1 h2).1; have := HN.out; omega⟩
  case round =>
    clear B1 BX
    obtain ⟨lo, hi, rfl, rfl, hlh, hin, hg, hb, hx, ha, hz⟩ := hrel
    have B := Lib.hid hb
    have X := Lib.hid hx
    have AL := Lib.hid ha
    have ZL := Lib.hid hz
    clear hb hx ha hz
    by_cases hlt : lo < hi
    · obtain ⟨y, hy⟩ : ∃ y, l[(lo + hi) / 2]? = some y := ⟨_, List.getElem?_eq_getElem (by have := HN.out; omega)⟩
      obtain ⟨p, ix, p0, p1, p2, p3, p4⟩ := el_regrown (x := r5 y) HL.out rfl (LN.out.trans HN.out.symm) (by rw [List.getElem?_map, hy]; rfl) B.out
      obtain ⟨b0, b1, b2, b3, b4⟩ := box_regrown X.out
      obtain ⟨r, hr⟩ : ∃ r, cmpC y.1 c.1 = r := ⟨_, rfl⟩
      have C := byName_re (r5 y) (r5 c) r hr wr
      have LE := Lib.hid (show decide (r < 0) = Op.bytesLess y.1.toList c.1.toList by rw [← hr]; exact cmpC_less _ _)
      have Y := Lib.hid hy
      simp only [r5] at p0 p1 p2 p3 p4 b0 b1 b2 b3 b4 C ⊢
      clear hy hr
      have e23 : ((lo : Int) + (hi : Int)) / 2 = (((lo + hi) / 2 : Nat) : Int) := by omega
      generalize hm : (lo + hi) / 2 = m at *
      have BN := Lib.hid (fun dq osq => B.out.trans ((below_regrown wr dq osq).mono B.out.size))
      have XN := Lib.hid (fun dq osq => X.out.on (below_regrown wr dq osq))
      by_cases hneg : r < 0
      · have d0 : decide (r < 0) = true := by simpa using hneg
        have LT := Lib.hid (show Op.bytesLess y.1.toList c.1.toList = true by rw [← LE.out]; exact d0)
        go_wp2
        refine wp_region_quiet_below (by kernel_rfl) (by kernel_rfl) ?_
        repeat (go_big_quiet_step (first | (with_reducible exact C _ _) | exact call_byName _ _))
        refine wpQuiet_nil ?_
        intro _ hw'
        obtain ⟨⟨dq, osq⟩, hw''⟩ := hw'
        subst hw''
        clear ix p0 p1 p2 p3 p4 b0 b1 b2 b3 b4 C
        go_wp2
        go_roundg (hi - (m + 1))
        case measure => omega
        case rel => exact ⟨m + 1, hi, by go_num, rfl, by omega, hin, Nat.le_refl _, BN.out _ _, XN.out _ _, fun t z h1 h2 => by
          rcases Nat.lt_or_ge t m with h3 | h3
          · exact rise_down HR.out (by omega) h2 Y.out LT.out
          · obtain rfl : t = m := by omega
            rw [Y.out] at h2
            rw [← Option.some.inj h2]
            exact LT.out, ZL.out⟩
      · have d0 : decide (r < 0) = false := by simpa using hneg
        have LT := Lib.hid (show Op.bytesLess y.1.toList c.1.toList = false by rw [← LE.out]; exact d0)
        go_wp2
        refine wp_region_quiet_below (by kernel_rfl) (by kernel_rfl) ?_
        repeat (go_big_quiet_step (first | (with_reducible exact C _ _) | exact call_byName _ _))
        refine wpQuiet_nil ?_
        intro _ hw'
        obtain ⟨⟨dq, osq⟩, hw''⟩ := hw'
        subst hw''
        clear ix p0 p1 p2 p3 p4 b0 b1 b2 b3 b4 C
        go_wp2
        go_roundg (m - lo)
        case measure => omega
        case rel => exact ⟨lo, m, rfl, rfl, by omega, by omega, Nat.le_refl _, BN.out _ _, XN.out _ _, AL.out, fun t z h1 h2 => by
          cases h : Op.bytesLess z.1.toList c.1.toList
          · rfl
          · have := rise_down HR.out h1 Y.out h2 h
            rw [LT.out] at this
            cases this⟩
    · obtain rfl : hi = lo := by omega
      have E := Lib.hid (cntC_is l c.1 hi (by have := HN.out; omega) AL.out (fun z hz => ZL.out hi z (Nat.le_refl _) hz))
      by_cases hn : hi < n
      · obtain ⟨y, hy⟩ : ∃ y, l[hi]? = some y := ⟨_, List.getElem?_eq_getElem (by have := HN.out; omega)⟩
        obtain ⟨p, ix, p0, p1, p2, p3, p4⟩ := el_regrown (x := r5 y) HL.out rfl (LN.out.trans HN.out.symm) (by rw [List.getElem?_map, hy]; rfl) B.out
        obtain ⟨b0, b1, b2, b3, b4⟩ := box_regrown X.out
        obtain ⟨r, hr⟩ : ∃ r, cmpC y.1 c.1 = r := ⟨_, rfl⟩
        have C := byName_re (r5 y) (r5 c) r hr wr
        have TH := Lib.hid (show th = (r == 0) by
          rw [HT.out, thereC, E.out, hy, Bool.eq_iff_iff, beq_iff_eq, ← hr, cmpC_same, decide_eq_true_eq])
        simp only [r5] at p0 p1 p2 p3 p4 b0 b1 b2 b3 b4 C ⊢
        have BN := Lib.hid (fun dq osq => B.out.trans ((below_regrown wr dq osq).mono B.out.size))
        have CE := Lib.hid (show cnt = hi by rw [HC.out, E.out])
        clear hy hr hlt
        have g4 : decide ((hi : Int) < (n : Int)) = true := by simp; omega
        go_wp2
        refine wp_region_quiet_below (by kernel_rfl) (by kernel_rfl) ?_
        repeat (go_big_quiet_step (first | (with_reducible exact C _ _) | exact call_byName _ _))
        refine wpQuiet_nil ?_
        intro _ hw'
        obtain ⟨⟨dq, osq⟩, hw''⟩ := hw'
        subst hw''
        clear ix p0 p1 p2 p3 p4 b0 b1 b2 b3 b4 C
        go_wp2
        go_ret2
        exact ⟨by rw [TH.out, CE.out]; rfl, BN.out _ _⟩
      · have TH := Lib.hid (show th = false by
          rw [HT.out, thereC, E.out, List.getElem?_eq_none (by have := HN.out; omega)])
        have CE := Lib.hid (show cnt = hi by rw [HC.out, E.out])
        have BN := Lib.hid (fun dq osq => B.out.trans ((below_regrown wr dq osq).mono B.out.size))
        have g4 : decide ((hi : Int) < (n : Int)) = false := by simp; omega
        clear hlt
        go_wp2
        refine wp_region_quiet_below (by kernel_rfl) (by kernel_rfl) ?_
        repeat (go_big_quiet_step (first | (with_reducible exact C _ _) | exact call_byName _ _))
        refine wpQuiet_nil ?_
        intro _ hw'
        obtain ⟨⟨dq, osq⟩, hw''⟩ := hw'
        subst hw''
        go_wp2
        go_ret2
        exact ⟨by rw [TH.out, CE.out]; rfl, BN.out _ _⟩
end Go.Proofs.Ytdomincmoaahoaa.Pr

namespace Go.Proofs.Ytdomincmoaahoaa.Pr
open Go.RowKit Go.Sort Go.Proofs.Ytdomincmoaahoaa Go.Proofs.Ytdomincmoaahoaa.Pu Go.Proofs.Ytdomincmoaahoaa.Rw Go.Proofs.Ytdomincmoaahoaa.Va

theorem vtext_any (s : ByteArray) (w : World) :
    Calls Try.prog 55 #[.string s] w fun e w' => e = .returned (vl true 0 s) ∧ Below w.heap.size w w' := by
  go_enter Try.func55, Try.ntmps55
  go_wp2
  exact bodyPost_ret (v := vl true 0 s) (by simp [results, Try.results55, go_sem]) rfl ⟨rfl, (Below.refl _ _).alloc (Nat.le_refl _) _⟩
theorem vtext_re (s : ByteArray) (w : World) (d : Nat) (os : Array Obj) :
    Calls Try.prog 55 #[.string s] (grow (redrawn w d) os) fun e w'' => e = .returned (vl true 0 s) ∧ ∃ p : Regrown, w'' = grow (redrawn w p.d) p.os :=
  Calls.regrown_of (vtext_any _ _)
theorem holdsT_re (c : Cn) (s : ByteArray) (r : Bool) (hr : holdsK c.2 (true, 0, s) = r) (w : World) (d : Nat) (os : Array Obj) :
    Calls Try.prog 32 #[cv (r5 c), vl true 0 s] (grow (redrawn w d) os) fun e w'' => e = .returned (.bool r) ∧ ∃ p : Regrown, w'' = grow (redrawn w p.d) p.os := by
  subst hr
  exact Calls.regrown_of (holds_any _ _ _ _ _)
/-- Is the one of texts, and does the other one hold of all of them? -/
def insideK : Kd → Kd → Bool
  | .pr s, .pr t => pfx t s
  | .tx s, k => holdsK k (true, 0, s)
  | _, _ => false
theorem box2 (w : World) (c d : C5) : Box ((w.alloc (.cells (cells5 c).toArray 23)).alloc (.cells (cells5 d).toArray 23)) w.heap.size (cells5 c).toArray 23 ∧ Box ((w.alloc (.cells (cells5 c).toArray 23)).alloc (.cells (cells5 d).toArray 23)) (w.heap.size + 1) (cells5 d).toArray 23 ∧ Below w.heap.size w ((w.alloc (.cells (cells5 c).toArray 23)).alloc (.cells (cells5 d).toArray 23)) := by
  refine ⟨(box_new w _ _).more _, ?_, ((Below.refl w.heap.size w).alloc (Nat.le_refl _) _).alloc (by simp) _⟩
  have h := box_new (w.alloc (.cells (cells5 c).toArray 23)) (cells5 d).toArray 23
  rwa [show (w.alloc (.cells (cells5 c).toArray 23)).heap.size = w.heap.size + 1 by simp] at h

set_option maxRecDepth 100000 in
set_option maxHeartbeats 4000000 in
/-- The last part: it asks Holds of a's text. -/
theorem inside_tx (na nb : ByteArray) (s : ByteArray) (kb : Kd) (w : World) : Calls Try.prog 50 #[cv (r5 (na, .tx s)), cv (r5 (nb, kb))] w fun e w' => e = .returned (.bool (insideK (.tx s) kb)) ∧ Below w.heap.size w w' := by
  obtain ⟨ba, bb, hb⟩ := box2 w (r5 (na, .tx s)) (r5 (nb, kb))
  have BA := Lib.hid ba
  have BB := Lib.hid bb
  have B := Lib.hid hb
  have H := holdsT_re (nb, kb) s _ rfl
  have C := vtext_re s
  have R := Lib.hid (show insideK (.tx s) kb = holdsK kb (true, 0, s) from rfl)
  generalize insideK (.tx s) kb = r at *
  simp only [r5] at H ⊢
  clear ba bb hb
  go_enter Try.func50, Try.ntmps50
  go_wp2
  have HH := Lib.hid H
  have CC := Lib.hid C
  clear H C
  change Code.wp _ _ _ _ ((w.alloc (.cells (cells5 (r5 (na, .tx s))).toArray 23)).alloc (.cells (cells5 (r5 (nb, kb))).toArray 23))
  generalize (w.alloc (.cells (cells5 (r5 (na, .tx s))).toArray 23)).alloc (.cells (cells5 (r5 (nb, kb))).toArray 23) = W at *
  have a4 := cell_regrown (show W.cell? ⟨w.heap.size, 4, none⟩ = some (.string s) from BA.out.cell 4)
  have b0 := cell_regrown (show W.cell? ⟨w.heap.size + 1, 0, none⟩ = some (.string nb) from BB.out.cell 0)
  have b1 := cell_regrown (show W.cell? ⟨w.heap.size + 1, 1, none⟩ = some (.int .i64 (kN kb)) from BB.out.cell 1)
  have b2 := cell_regrown (show W.cell? ⟨w.heap.size + 1, 2, none⟩ = some (.int .i64 (kLo kb)) from BB.out.cell 2)
  have b3 := cell_regrown (show W.cell? ⟨w.heap.size + 1, 3, none⟩ = some (.int .i64 (kHi kb)) from BB.out.cell 3)
  have b4 := cell_regrown (show W.cell? ⟨w.heap.size + 1, 4, none⟩ = some (.string (kT kb)) from BB.out.cell 4)
  refine wp_region_quiet_below (by kernel_rfl) (by kernel_rfl) ?_
  repeat (go_big_quiet_step (first | (with_reducible exact CC.out _ _ _) | (with_reducible exact HH.out _ _ _)))
  refine wpQuiet_nil ?_
  intro _ hw'
  obtain ⟨⟨dq, osq⟩, hw''⟩ := hw'
  subst hw''
  have BZ := Lib.hid (B.out.trans ((below_regrown W dq osq).mono B.out.size))
  clear a4 b0 b1 b2 b3 b4
  go_wp2
  go_ret
  exact ⟨ret_bool R.out.symm, BZ.out⟩
set_option maxRecDepth 100000 in
set_option maxHeartbeats 4000000 in
theorem inside_pr (na nb : ByteArray) (s : ByteArray) (t : ByteArray) (w : World) : Calls Try.prog 50 #[cv (r5 (na, .pr s)), cv (r5 (nb, .pr t))] w fun e w' => e = .returned (.bool (insideK (.pr s) (.pr t))) ∧ Below w.heap.size w w' := by
  obtain ⟨ba, bb, hb⟩ := box2 w (r5 (na, .pr s)) (r5 (nb, .pr t))
  have BA := Lib.hid ba
  have BB := Lib.hid bb
  have B := Lib.hid hb
  have H := holdsT_re (nb, .pr t) s _ rfl
  have C := vtext_re s
  have R := Lib.hid (show insideK (.pr s) (.pr t) = holdsK (.pr t) (true, 0, s) by simp only [insideK, holdsK, Bool.true_and])
  generalize insideK (.pr s) (.pr t) = r at *
  simp only [r5] at H ⊢
  clear ba bb hb
  go_enter Try.func50, Try.ntmps50
  go_wp2
  have HH := Lib.hid H
  have CC := Lib.hid C
  clear H C
  change Code.wp _ _ _ _ ((w.alloc (.cells (cells5 (r5 (na, .pr s))).toArray 23)).alloc (.cells (cells5 (r5 (nb, .pr t))).toArray 23))
  generalize (w.alloc (.cells (cells5 (r5 (na, .pr s))).toArray 23)).alloc (.cells (cells5 (r5 (nb, .pr t))).toArray 23) = W at *
  have a4 := cell_regrown (show W.cell? ⟨w.heap.size, 4, none⟩ = some (.string s) from BA.out.cell 4)
  have b0 := cell_regrown (show W.cell? ⟨w.heap.size + 1, 0, none⟩ = some (.string nb) from BB.out.cell 0)
  have b1 := cell_regrown (show W.cell? ⟨w.heap.size + 1, 1, none⟩ = some (.int .i64 (kN (.pr t))) from BB.out.cell 1)
  have b2 := cell_regrown (show W.cell? ⟨w.heap.size + 1, 2, none⟩ = some (.int .i64 (kLo (.pr t))) from BB.out.cell 2)
  have b3 := cell_regrown (show W.cell? ⟨w.heap.size + 1, 3, none⟩ = some (.int .i64 (kHi (.pr t))) from BB.out.cell 3)
  have b4 := cell_regrown (show W.cell? ⟨w.heap.size + 1, 4, none⟩ = some (.string (kT (.pr t))) from BB.out.cell 4)
  refine wp_region_quiet_below (by kernel_rfl) (by kernel_rfl) ?_
  repeat (go_big_quiet_step (first | (with_reducible exact CC.out _ _ _) | (with_reducible exact HH.out _ _ _)))
  refine wpQuiet_nil ?_
  intro _ hw'
  obtain ⟨⟨dq, osq⟩, hw''⟩ := hw'
  subst hw''
  have BZ := Lib.hid (B.out.trans ((below_regrown W dq osq).mono B.out.size))
  clear a4 b0 b1 b2 b3 b4
  go_wp2
  go_ret
  exact ⟨ret_bool R.out.symm, BZ.out⟩

set_option maxRecDepth 100000 in
set_option maxHeartbeats 4000000 in
theorem inside_no (na nb : ByteArray) (ka kb : Kd) (w : World) (h : (∃ lo hi, ka = .rg lo hi) ∨ (∃ s, ka = .pr s) ∧ ¬ ∃ t, kb = .pr t) : Calls Try.prog 50 #[cv (r5 (na, ka)), cv (r5 (nb, kb))] w fun e w' => e = .returned (.bool (insideK ka kb)) ∧ Below w.heap.size w w' := by
  have B := Lib.hid (box2 w (r5 (na, ka)) (r5 (nb, kb))).2.2
  rcases h with ⟨lo, hi, rfl⟩ | ⟨⟨s, rfl⟩, h⟩
  · have R := Lib.hid (show insideK (.rg lo hi) kb = false from rfl)
    generalize insideK (.rg lo hi) kb = r at *
    simp only [r5]
    go_enter Try.func50, Try.ntmps50
    go_wp2
    go_ret
    exact ⟨ret_bool R.out.symm, B.out⟩
  · have R := Lib.hid (show insideK (.pr s) kb = false by
      cases kb with
      | pr t => exact absurd ⟨t, rfl⟩ h
      | _ => rfl)
    have e : ((kN kb) != (3 : Int)) = true := by
      cases kb with
      | pr t => exact absurd ⟨t, rfl⟩ h
      | _ => rfl
    generalize insideK (.pr s) kb = r at *
    clear h
    simp only [r5]
    go_enter Try.func50, Try.ntmps50
    go_wp2
    go_ret
    exact ⟨ret_bool R.out.symm, B.out⟩
theorem inside_any (a b : Cn) (w : World) : Calls Try.prog 50 #[cv (r5 a), cv (r5 b)] w fun e w' => e = .returned (.bool (insideK a.2 b.2)) ∧ Below w.heap.size w w' := by
  obtain ⟨na, ka⟩ := a
  obtain ⟨nb, kb⟩ := b
  cases ka with
  | rg lo hi => exact inside_no na nb _ kb w (Or.inl ⟨lo, hi, rfl⟩)
  | tx s => exact inside_tx na nb s kb w
  | pr s =>
    cases kb with
    | pr t => exact inside_pr na nb s t w
    | rg lo hi => exact inside_no na nb _ _ w (Or.inr ⟨⟨s, rfl⟩, by rintro ⟨t, h⟩; cases h⟩)
    | tx t => exact inside_no na nb _ _ w (Or.inr ⟨⟨s, rfl⟩, by rintro ⟨t', h⟩; cases h⟩)

/-- What both of two are told as. -/
def BothQ (n : ByteArray) (r : Option Kd) (w : World) (e : Ending) (w' : World) : Prop := (∃ x, e = .returned (.tuple #[cv x, .bool r.isSome]) ∧ ∀ k, r = some k → x = r5 (n, k)) ∧ Below w.heap.size w w'
theorem b3 (w : World) (o p q : Obj) : Below w.heap.size w (((w.alloc o).alloc p).alloc q) := (((Below.refl w.heap.size w).alloc (Nat.le_refl _) _).alloc (by simp) _).alloc (by simp; omega) _
set_option maxRecDepth 100000 in
set_option maxHeartbeats 4000000 in
theorem overlap_any (na nb : ByteArray) (a b c d : Int) (w : World) : Calls Try.prog 49 #[cv (na, 1, a, b, ⟨#[]⟩), cv (nb, 1, c, d, ⟨#[]⟩)] w (BothQ na (bothK (.rg a b) (.rg c d)) w) := by
  have R := Lib.hid (show bothK (.rg a b) (.rg c d) = if max a c ≤ min b d then some (.rg (max a c) (min b d)) else none from rfl)
  generalize bothK (.rg a b) (.rg c d) = r at *
  go_enter Try.func49, Try.ntmps49
  go_wp2_with fail
  go_region
  have e1 : (if a < c then c else a) = max a c := by split <;> omega
  have e2 : (if d < b then d else b) = min b d := by split <;> omega
  rw [e1, e2]
  clear e1 e2
  generalize max a c = M at R ⊢
  generalize min b d = N at R ⊢
  by_cases h : M ≤ N
  · have h1 : ¬ N < M := by omega
    have R2 := Lib.hid (show r = some (.rg M N) by rw [R.out, if_pos h])
    clear h
    go_wp2
    refine bodyPost_ret (v := .tuple #[cv (na, 1, M, N, ⟨#[]⟩), .bool true]) (by simp [results, Try.results49, go_sem]) rfl ?_
    refine ⟨⟨(na, 1, M, N, ⟨#[]⟩), by rw [R2.out]; rfl, fun k hk => ?_⟩, (b3 w _ _ _).drew⟩
    rw [R2.out] at hk
    rw [← Option.some.inj hk]
    rfl
  · have h1 : N < M := by omega
    have R2 := Lib.hid (show r = none by rw [R.out, if_neg h])
    clear h
    go_wp2
    refine bodyPost_ret (v := .tuple #[cv (⟨#[]⟩, 0, 0, 0, ⟨#[]⟩), .bool false]) (by simp [results, Try.results49, go_sem]) rfl ?_
    refine ⟨⟨(⟨#[]⟩, 0, 0, 0, ⟨#[]⟩), by rw [R2.out]; rfl, fun k hk => ?_⟩, (b3 w _ _ _).drew⟩
    rw [R2.out] at hk
    cases hk
theorem both_is (a b : Kd) : bothK a b = (match a, b with
  | .rg p q, .rg r t => if max p r ≤ min q t then some (.rg (max p r) (min q t)) else none
  | a, b => if insideK a b then some a else if insideK b a then some b else none) := by
  cases a <;> cases b <;> simp [bothK, insideK, holdsK]
  · rename_i s t
    by_cases h : s.data = t.data
    · rw [if_pos h, if_pos h]
    · rw [if_neg h, if_neg h, if_neg (fun e => h e.symm)]
  · rename_i s t
    by_cases h1 : pfx s t = true <;> by_cases h2 : pfx t s = true <;> simp [h1, h2]
    have e1 := (pfx_iff _ _).1 h1
    have e2 := (pfx_iff _ _).1 h2
    rw [bytes_eq (e2.eq_of_length_le e1.length_le)]
end Go.Proofs.Ytdomincmoaahoaa.Pr

namespace Go.Proofs.Ytdomincmoaahoaa.Pr
open Go.RowKit Go.Sort Go.Proofs.Ytdomincmoaahoaa Go.Proofs.Ytdomincmoaahoaa.Pu Go.Proofs.Ytdomincmoaahoaa.Rw Go.Proofs.Ytdomincmoaahoaa.Va

theorem boxR (w : World) (c d z : C5) : Box (((w.alloc (.cells (cells5 c).toArray 23)).alloc (.cells (cells5 d).toArray 23)).alloc (.cells (cells5 z).toArray 23)) w.heap.size (cells5 c).toArray 23 ∧ Box (((w.alloc (.cells (cells5 c).toArray 23)).alloc (.cells (cells5 d).toArray 23)).alloc (.cells (cells5 z).toArray 23)) (w.heap.size + 1) (cells5 d).toArray 23 ∧ Box (((w.alloc (.cells (cells5 c).toArray 23)).alloc (.cells (cells5 d).toArray 23)).alloc (.cells (cells5 z).toArray 23)) (w.heap.size + 1 + 1) (cells5 z).toArray 23 ∧ Below w.heap.size w (((w.alloc (.cells (cells5 c).toArray 23)).alloc (.cells (cells5 d).toArray 23)).alloc (.cells (cells5 z).toArray 23)) := by
  obtain ⟨h1, h2, h3⟩ := box2 w c d
  refine ⟨h1.more _, h2.more _, ?_, h3.alloc h3.size _⟩
  have h := box_new ((w.alloc (.cells (cells5 c).toArray 23)).alloc (.cells (cells5 d).toArray 23)) (cells5 z).toArray 23
  rwa [show ((w.alloc (.cells (cells5 c).toArray 23)).alloc (.cells (cells5 d).toArray 23)).heap.size = w.heap.size + 1 + 1 by simp] at h
/-- The cells of a block that holds a constraint. -/
theorem box_five {W : World} {b : Nat} {c : C5} (h : Box W b (cells5 c).toArray 23) : W.cell? ⟨b, 0, none⟩ = some (.string c.1) ∧ W.cell? ⟨b, 1, none⟩ = some (.int .i64 c.2.1) ∧ W.cell? ⟨b, 2, none⟩ = some (.int .i64 c.2.2.1) ∧ W.cell? ⟨b, 3, none⟩ = some (.int .i64 c.2.2.2.1) ∧ W.cell? ⟨b, 4, none⟩ = some (.string c.2.2.2.2) := ⟨h.cell 0, h.cell 1, h.cell 2, h.cell 3, h.cell 4⟩
/-- The result's block, written anew. -/
theorem below_five {B : Nat} {W w : World} (h : Below B W w) (g : Nat) (hB : B ≤ g) (v0 v1 v2 v3 v4 : Value) : Below B W (((((w.setCell ⟨g, 0, none⟩ v0).setCell ⟨g, 1, none⟩ v1).setCell ⟨g, 2, none⟩ v2).setCell ⟨g, 3, none⟩ v3).setCell ⟨g, 4, none⟩ v4) :=
  ((((h.setCell hB _).setCell hB _).setCell hB _).setCell hB _).setCell hB _

set_option maxRecDepth 100000 in
set_option maxHeartbeats 4000000 in
theorem both_rg (na nb : ByteArray) (a b c d : Int) (w : World) : Calls Try.prog 43 #[cv (r5 (na, .rg a b)), cv (r5 (nb, .rg c d))] w (BothQ na (bothK (.rg a b) (.rg c d)) w) := by
  obtain ⟨ba, bb, bz, hb⟩ := boxR w (r5 (na, .rg a b)) (r5 (nb, .rg c d)) (⟨#[]⟩, 0, 0, 0, ⟨#[]⟩)
  have B := Lib.hid hb
  have BA := Lib.hid ba
  have BB := Lib.hid bb
  have BZ := Lib.hid bz
  have O := Lib.hid (overlap_any na nb a b c d (((w.alloc (.cells (cells5 (r5 (na, .rg a b))).toArray 23)).alloc (.cells (cells5 (r5 (nb, .rg c d))).toArray 23)).alloc (.cells (cells5 (⟨#[]⟩, 0, 0, 0, ⟨#[]⟩)).toArray 23)))
  generalize bothK (.rg a b) (.rg c d) = r at *
  clear ba bb bz hb
  simp only [r5, kN, kLo, kHi, kT]
  go_enter Try.func43, Try.ntmps43
  go_wp2_with fail
  refine O.out.mono ?_
  rintro e W2 ⟨⟨x, rfl, hx⟩, hb2⟩
  have B2 := Lib.hid (B.out.trans (hb2.mono B.out.size))
  have Z2 := Lib.hid (BZ.out.on hb2)
  have X := Lib.hid hx
  obtain ⟨z0, z1, z2, z3, z4⟩ := box_five Z2.out
  have fz := fun k => Z2.out.fr k
  simp only at z0 z1 z2 z3 z4
  clear hx hb2 O B BA BB BZ
  go_wp2
  refine bodyPost_ret (v := .tuple #[cv x, .bool r.isSome]) (by simp [results, Try.results43, go_sem, z0, z1, z2, z3, z4]) rfl ?_
  exact ⟨⟨x, rfl, X.out⟩, below_five B2.out (w.heap.size + 1 + 1) (by omega) _ _ _ _ _⟩

set_option maxRecDepth 100000 in
set_option maxHeartbeats 4000000 in
/-- Not both ranges: from the first question on. -/
theorem both_apart (na nb : ByteArray) (ka kb : Kd) (w : World) (hno : (kN ka = 1 ∧ kN kb ≠ 1) ∨ kN ka ≠ 1) (hn : na = nb) (r : Option Kd) (hr : r = if insideK ka kb then some ka else if insideK kb ka then some kb else none) : Calls Try.prog 43 #[cv (r5 (na, ka)), cv (r5 (nb, kb))] w (BothQ na r w) := by
  obtain ⟨ba, bb, bz, hb⟩ := boxR w (r5 (na, ka)) (r5 (nb, kb)) (⟨#[]⟩, 0, 0, 0, ⟨#[]⟩)
  have B := Lib.hid hb
  have BA := Lib.hid ba
  have BB := Lib.hid bb
  have BZ := Lib.hid bz
  have I1 := Lib.hid (inside_any (na, ka) (nb, kb) (((w.alloc (.cells (cells5 (r5 (na, ka))).toArray 23)).alloc (.cells (cells5 (r5 (nb, kb))).toArray 23)).alloc (.cells (cells5 (⟨#[]⟩, 0, 0, 0, ⟨#[]⟩)).toArray 23)))
  have I2 := Lib.hid (fun W => inside_any (nb, kb) (na, ka) W)
  obtain ⟨i1, e1⟩ : ∃ i, insideK ka kb = i := ⟨_, rfl⟩
  obtain ⟨i2, e2⟩ : ∃ i, insideK kb ka = i := ⟨_, rfl⟩
  simp only [e1] at I1
  simp only [e2] at I2
  rw [e1, e2] at hr
  have HR := Lib.hid hr
  have NE := Lib.hid hn
  obtain ⟨j1, g1⟩ : ∃ j, (kN ka == (1 : Int)) = j := ⟨_, rfl⟩
  have g2 : j1 = true → (kN kb == (1 : Int)) = false := fun e => by
    subst e
    rcases hno with ⟨_, h⟩ | h
    · exact beq_eq_false_iff_ne.2 h
    · exact absurd (beq_iff_eq.1 g1) h
  have G2 := Lib.hid g2
  clear ba bb bz hb e1 e2 hn hno g2 hr
  simp only [r5] at I1 I2 ⊢
  cases j1
  all_goals try have g3 := G2.out rfl
  all_goals
    clear G2
    go_enter Try.func43, Try.ntmps43
    go_wp2_with fail
    refine I1.out.mono ?_
    rintro e W2 ⟨rfl, hb2⟩
    have B2 := Lib.hid (B.out.trans (hb2.mono B.out.size))
    have Z2 := Lib.hid (BZ.out.on hb2)
    have A2 := Lib.hid (BA.out.on hb2)
    have D2 := Lib.hid (BB.out.on hb2)
    obtain ⟨a0, a1, a2, a3, a4⟩ := box_five A2.out
    obtain ⟨d0, d1, d2, d3, d4⟩ := box_five D2.out
    obtain ⟨z0, z1, z2, z3, z4⟩ := box_five Z2.out
    have fz := fun k => Z2.out.fr k
    simp only [r5] at a0 a1 a2 a3 a4 d0 d1 d2 d3 d4
    simp only at z0 z1 z2 z3 z4
    clear hb2 B BA BB BZ I1
    rcases Bool.eq_false_or_eq_true i1 with rfl | rfl
    · go_wp2
      refine bodyPost_ret (v := .tuple #[cv (r5 (na, ka)), .bool true]) (by simp [results, Try.results43, go_sem, z0, z1, z2, z3, z4, r5]) rfl ?_
      exact ⟨⟨r5 (na, ka), by rw [HR.out]; rfl, fun k hk => by rw [HR.out] at hk; rw [← Option.some.inj hk]⟩, below_five B2.out (w.heap.size + 1 + 1) (by omega) _ _ _ _ _⟩
    · clear a0 a1 a2 a3 a4 d0 d1 d2 d3 d4
      obtain ⟨a0, a1, a2, a3, a4⟩ := box_five A2.out
      obtain ⟨d0, d1, d2, d3, d4⟩ := box_five D2.out
      simp only [r5] at a0 a1 a2 a3 a4 d0 d1 d2 d3 d4
      go_wp2_with fail
      refine (I2.out _).mono ?_
      rintro e W3 ⟨rfl, hb3⟩
      have B3 := Lib.hid (B2.out.trans (hb3.mono B2.out.size))
      have Z3 := Lib.hid (Z2.out.on hb3)
      have D3 := Lib.hid (D2.out.on hb3)
      clear a0 a1 a2 a3 a4 d0 d1 d2 d3 d4 z0 z1 z2 z3 z4 fz
      obtain ⟨d0, d1, d2, d3, d4⟩ := box_five D3.out
      obtain ⟨z0, z1, z2, z3, z4⟩ := box_five Z3.out
      have fz := fun k => Z3.out.fr k
      simp only [r5] at d0 d1 d2 d3 d4
      simp only at z0 z1 z2 z3 z4
      clear hb3 B2 I2 A2 D2 Z2
      rcases Bool.eq_false_or_eq_true i2 with rfl | rfl
      · go_wp2
        refine bodyPost_ret (v := .tuple #[cv (r5 (nb, kb)), .bool true]) (by simp [results, Try.results43, go_sem, z0, z1, z2, z3, z4, r5]) rfl ?_
        exact ⟨⟨r5 (nb, kb), by rw [HR.out]; rfl, fun k hk => by rw [HR.out] at hk; rw [NE.out, ← Option.some.inj hk]⟩, below_five B3.out (w.heap.size + 1 + 1) (by omega) _ _ _ _ _⟩
      · go_wp2
        refine bodyPost_ret (v := .tuple #[cv ((⟨#[]⟩, 0, 0, 0, ⟨#[]⟩)), .bool false]) (by simp [results, Try.results43, go_sem, z0, z1, z2, z3, z4]) rfl ?_
        exact ⟨⟨(⟨#[]⟩, 0, 0, 0, ⟨#[]⟩), by rw [HR.out]; rfl, fun k hk => by rw [HR.out] at hk; cases hk⟩, below_five B3.out (w.heap.size + 1 + 1) (by omega) _ _ _ _ _⟩

theorem both_any (a b : Cn) (w : World) (hn : a.1 = b.1) : Calls Try.prog 43 #[cv (r5 a), cv (r5 b)] w (BothQ a.1 (bothK a.2 b.2) w) := by
  obtain ⟨na, ka⟩ := a
  obtain ⟨nb, kb⟩ := b
  cases ka with
  | rg p q =>
    cases kb with
    | rg r t => exact both_rg na nb p q r t w
    | tx t => exact both_apart na nb _ _ w (Or.inl ⟨rfl, by simp [kN]⟩) hn _ (both_is _ _)
    | pr t => exact both_apart na nb _ _ w (Or.inl ⟨rfl, by simp [kN]⟩) hn _ (both_is _ _)
  | tx s => exact both_apart na nb _ _ w (Or.inr (by simp [kN])) hn _ (both_is _ _)
  | pr s => exact both_apart na nb _ _ w (Or.inr (by simp [kN])) hn _ (both_is _ _)
end Go.Proofs.Ytdomincmoaahoaa.Pr

namespace Go.Proofs.Ytdomincmoaahoaa.Pr
open Go.RowKit Go.Sort Go.Proofs.Ytdomincmoaahoaa Go.Proofs.Ytdomincmoaahoaa.Pu Go.Proofs.Ytdomincmoaahoaa.Rw Go.Proofs.Ytdomincmoaahoaa.Va

set_option maxHeartbeats 1000000 in
theorem name_same (s : ByteArray) (w : World) (hs : s.size ≤ maxLen) :
    Calls Try.prog 35 #[.string s] w fun e w' => e = .returned (.bool (nameB s)) ∧ w = w' := by
  unfold maxLen at hs
  go_enter Try.func35, Try.ntmps35
  go_wp2
  go_loop [6] (fun i => ∃ k : Nat, k ≤ s.size ∧ i = .int .i64 k ∧ ∀ (j : Nat) (hj : j < s.size), j < k → letB s[j] = true) (fun i => s.size - (intOf i).toNat)
  case atStart => exact ⟨0, Nat.zero_le _, rfl, fun j hj h => by omega⟩
  case round =>
    obtain ⟨k, hk, rfl, hall⟩ := hrel
    have AL := Lib.hid hall
    clear hall
    by_cases hlt : k < s.size
    · have hcl : (s[k].toNat : Int) < 256 := by have := s[k].toNat_lt; omega
      by_cases h1 : 97 ≤ s[k].toNat
      · by_cases h2 : s[k].toNat ≤ 122
        · have L := Lib.hid (show letB s[k] = true by simp [letB, h1, h2])
          have d1 : decide ((s[k].toNat : Int) < 97) = false := by simp; omega
          have d2 : decide ((122 : Int) < (s[k].toNat : Int)) = false := by simp; omega
          clear h1 h2
          go_wp2
          go_round
          case rel => exact ⟨k + 1, by omega, by go_num, fun j hj h => by
            rcases Nat.lt_or_ge j k with h3 | h3
            · exact AL.out j hj h3
            · obtain rfl : j = k := by omega
              exact L.out⟩
          case measure => simp [intOf]; omega
        · have R := Lib.hid (show nameB s = false from nameB_not s k hlt (by simp [letB, h2]))
          have d1 : decide ((s[k].toNat : Int) < 97) = false := by simp; omega
          have d2 : decide ((122 : Int) < (s[k].toNat : Int)) = true := by simp; omega
          clear h1 h2
          go_wp2
          go_ret
          exact ⟨ret_bool R.out.symm, rfl⟩
      · have R := Lib.hid (show nameB s = false from nameB_not s k hlt (by simp [letB, h1]))
        have d1 : decide ((s[k].toNat : Int) < 97) = true := by simp; omega
        clear h1
        go_wp2
        go_ret
        exact ⟨ret_bool R.out.symm, rfl⟩
    · obtain rfl : k = s.size := by omega
      have R := Lib.hid (nameB_end s (fun j hj => AL.out j hj hj))
      by_cases h1 : 1 ≤ s.size
      · have R2 := Lib.hid (show nameB s = decide ((s.size : Int) ≤ 12) by rw [R.out]; simp [h1]; omega)
        go_wp2
        go_ret
        exact ⟨ret_bool R2.out.symm, rfl⟩
      · have R2 := Lib.hid (show nameB s = false by rw [R.out]; simp [h1])
        have d1 : decide ((1 : Int) ≤ (s.size : Int)) = false := by simp; omega
        go_wp2
        go_ret
        exact ⟨ret_bool R2.out.symm, rfl⟩

theorem oB (w : World) (nm : ByteArray) (k lo hi : Int) (u : ByteArray) : Below w.heap.size w (w.alloc (.cells #[.string nm, .int .i64 k, .int .i64 lo, .int .i64 hi, .string u] 23)) :=
  (Below.refl w.heap.size w).alloc (Nat.le_refl _) _
set_option maxRecDepth 100000 in
set_option maxHeartbeats 4000000 in
theorem one_any (c : Cn) (w : World) (hs : c.1.size ≤ maxLen) : Calls Try.prog 45 #[cv (r5 c)] w fun e w' => e = .returned (.bool (goodC c)) ∧ Below w.heap.size w w' := by
  obtain ⟨nm, k⟩ := c
  have NA := Lib.hid (name_same nm (w.alloc (.cells #[.string nm, .int .i64 (kN k), .int .i64 (kLo k), .int .i64 (kHi k), .string (kT k)] 23)) hs)
  have B := Lib.hid (oB w nm (kN k) (kLo k) (kHi k) (kT k))
  have R := Lib.hid (show goodC (nm, k) = (nameB nm && goodK k) from rfl)
  clear hs
  generalize goodC (nm, k) = r at *
  obtain ⟨q, hq⟩ : ∃ q, nameB nm = q := ⟨_, rfl⟩
  rw [hq] at NA R
  clear hq
  cases k with
  | rg lo hi =>
    simp only [r5, kN, kLo, kHi, kT] at *
    cases q
    · go_enter Try.func45, Try.ntmps45
      go_wp2_with fail
      refine NA.out.mono ?_
      rintro e w' ⟨rfl, rfl⟩
      go_wp2
      go_ret
      exact ⟨ret_bool (by rw [R.out]; simp), B.out⟩
    · by_cases h1 : lo ≤ hi <;> have H1 := Lib.hid h1
      all_goals
        go_enter Try.func45, Try.ntmps45
        go_wp2_with fail
        refine NA.out.mono ?_
        rintro e w' ⟨rfl, rfl⟩
        go_wp2
        go_ret
        exact ⟨ret_bool (by rw [R.out]; have h := H1.out; simp [goodK, h] <;> omega), B.out⟩
  | tx u =>
    simp only [r5, kN, kLo, kHi, kT] at *
    cases q
    · go_enter Try.func45, Try.ntmps45
      go_wp2_with fail
      refine NA.out.mono ?_
      rintro e w' ⟨rfl, rfl⟩
      go_wp2
      go_ret
      exact ⟨ret_bool (by rw [R.out]; simp), B.out⟩
    · go_enter Try.func45, Try.ntmps45
      go_wp2_with fail
      refine NA.out.mono ?_
      rintro e w' ⟨rfl, rfl⟩
      go_wp2
      go_ret
      exact ⟨ret_bool (by rw [R.out]; simp [goodK]; omega), B.out⟩
  | pr u =>
    simp only [r5, kN, kLo, kHi, kT] at *
    cases q
    · go_enter Try.func45, Try.ntmps45
      go_wp2_with fail
      refine NA.out.mono ?_
      rintro e w' ⟨rfl, rfl⟩
      go_wp2
      go_ret
      exact ⟨ret_bool (by rw [R.out]; simp), B.out⟩
    · by_cases h1 : u.size < 12
      · have e1 : decide ((12 : Int) ≤ (u.size : Int)) = false := by simp; omega
        have e2 : decide ((u.size : Int) ≤ 12) = true := by simp; omega
        have H1 := Lib.hid h1
        clear h1
        go_enter Try.func45, Try.ntmps45
        go_wp2_with fail
        refine NA.out.mono ?_
        rintro e w' ⟨rfl, rfl⟩
        go_wp2
        go_ret
        exact ⟨ret_bool (by rw [R.out]; have h := H1.out; simp [goodK, h]), B.out⟩
      · have e1 : decide ((12 : Int) ≤ (u.size : Int)) = true := by simp; omega
        have H1 := Lib.hid h1
        clear h1
        go_enter Try.func45, Try.ntmps45
        go_wp2_with fail
        refine NA.out.mono ?_
        rintro e w' ⟨rfl, rfl⟩
        go_wp2
        go_ret
        exact ⟨ret_bool (by rw [R.out]; have h := H1.out; simp [goodK]; omega), B.out⟩
end Go.Proofs.Ytdomincmoaahoaa.Pr
