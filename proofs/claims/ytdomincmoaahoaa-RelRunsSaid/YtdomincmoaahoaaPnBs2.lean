/-
  slices.BinarySearchFunc over constraints in the order of their names, as package pred calls it. Condition: at most 100 constraints, their names rising.
-/
import Derived.Test.YtdomincmoaahoaaPnBs
namespace Go.Proofs.Ytdomincmoaahoaa.Pr
open Go.RowKit Go.Sort Go.Proofs.Ytdomincmoaahoaa Go.Proofs.Ytdomincmoaahoaa.Pu Go.Proofs.Ytdomincmoaahoaa.Rw Go.Proofs.Ytdomincmoaahoaa.Va

/-- Where an element lies, and its cells, in worlds of the class. -/
theorem el_regrown {W W1 : World} {v : Value} {l : List C5} {ao : Option Addr} {n c k : Nat} {x : C5} (h : RowC W v l) (hv : v = .slice ao n c) (hn : l.length = n) (hk : l[k]? = some x) (hb : Below W.heap.size W W1) :
    ∃ p : Addr, (∀ w, (Instr.indexAt 25 (.slice ao n c) (.int .i64 k)).run Try.prog w = .ok (.pointer (some p)) w) ∧
      (∀ d os, (grow (redrawn W1 d) os).cell? p = some (.string x.1)) ∧ (∀ d os, (grow (redrawn W1 d) os).cell? ⟨p.block, p.off + 1, none⟩ = some (.int .i64 x.2.1)) ∧ (∀ d os, (grow (redrawn W1 d) os).cell? ⟨p.block, p.off + 2, none⟩ = some (.int .i64 x.2.2.1)) ∧ (∀ d os, (grow (redrawn W1 d) os).cell? ⟨p.block, p.off + 3, none⟩ = some (.int .i64 x.2.2.2.1)) ∧ (∀ d os, (grow (redrawn W1 d) os).cell? ⟨p.block, p.off + 4, none⟩ = some (.string x.2.2.2.2)) := by
  obtain ⟨p, h1, h2⟩ := elC h hv hn hk
  obtain ⟨c0, c1, c2, c3, c4⟩ := h2 _ hb
  exact ⟨p, h1, cell_regrown c0, cell_regrown c1, cell_regrown c2, cell_regrown c3, cell_regrown c4⟩
theorem box_regrown {W : World} {b : Nat} {c : C5} (h : Box W b (cells5 c).toArray 23) : (∀ d os, (grow (redrawn W d) os).cell? ⟨b, 0, none⟩ = some (.string c.1)) ∧ (∀ d os, (grow (redrawn W d) os).cell? ⟨b, 1, none⟩ = some (.int .i64 c.2.1)) ∧ (∀ d os, (grow (redrawn W d) os).cell? ⟨b, 2, none⟩ = some (.int .i64 c.2.2.1)) ∧ (∀ d os, (grow (redrawn W d) os).cell? ⟨b, 3, none⟩ = some (.int .i64 c.2.2.2.1)) ∧ (∀ d os, (grow (redrawn W d) os).cell? ⟨b, 4, none⟩ = some (.string c.2.2.2.2)) :=
  ⟨cell_regrown (h.cell 0), cell_regrown (h.cell 1), cell_regrown (h.cell 2), cell_regrown (h.cell 3), cell_regrown (h.cell 4)⟩

set_option maxRecDepth 100000 in
set_option maxHeartbeats 8000000 in
theorem bs_any (v : Value) (l : List Cn) (c : Cn) (w : World) (hv : RowC w v (l.map r5)) (hr : RiseC l) (hl : l.length ≤ 100) :
    Calls Try.prog 52 #[v, cv (r5 c), .func (.func 53) #[] #[]] w fun e w' => e = .returned (.tuple #[.int .i64 (cntC l c.1), .bool (thereC l c.1)]) ∧ Below w.heap.size w w' := by
  have HL := Lib.hid hv
  have HR := Lib.hid hr
  have LN := Lib.hid (show (l.map r5).length = l.length from List.length_map ..)
  have BX := Lib.hid (box_new w (cells5 (r5 c)).toArray 23)
  have B1 := Lib.hid ((Below.refl w.heap.size w).alloc (Nat.le_refl _) (.cells (cells5 (r5 c)).toArray 23))
  obtain ⟨ao, ac, rfl⟩ := hv.len
  rw [List.length_map] at HL ⊢
  obtain ⟨n, hn⟩ : ∃ n, n = l.length := ⟨_, rfl⟩
  rw [← hn] at HL hl ⊢
  have HN := Lib.hid hn
  obtain ⟨cnt, hc⟩ : ∃ k, k = cntC l c.1 := ⟨_, rfl⟩
  obtain ⟨th, ht⟩ : ∃ k, k = thereC l c.1 := ⟨_, rfl⟩
  rw [← hc, ← ht]
  have HC := Lib.hid hc
  have HT := Lib.hid ht
  clear hv hr hn hc ht
  go_enter Try.func52, Try.ntmps52
  go_wp2
  change Code.wp _ _ _ _ (w.alloc (.cells (cells5 (r5 c)).toArray 23))
  generalize w.alloc (.cells (cells5 (r5 c)).toArray 23) = w1 at *
  go_loopg [9, 10] n (fun kx s9 s10 wr => ∃ lo hi : Nat, s9 = .int .i64 lo ∧ s10 = .int .i64 hi ∧ lo ≤ hi ∧ hi ≤ n ∧ hi - lo ≤ kx ∧ Below w.heap.size w wr ∧ Box wr w.heap.size (cells5 (r5 c)).toArray 23 ∧
    (∀ (t : Nat) (y : Cn), t < lo → l[t]? = some y → Op.bytesLess y.1.toList c.1.toList = true) ∧ (∀ (t : Nat) (y : Cn), hi ≤ t → l[t]? = some y → Op.bytesLess y.1.toList c.1.toList = false))
  case atStart => exact ⟨0, n, rfl, rfl, Nat.zero_le _, Nat.le_refl _, by omega, B1.out, BX.out, fun t y h => by omega, fun t y h1 h2 => by have := (List.getElem?_eq_some_iff.1 h2).1; have := HN.out; omega⟩
  case round =>
    clear B1 BX
    obtain ⟨lo, hi, rfl, rfl, hlh, hin, hg, hb, hx, ha, hz⟩ := hrel
    have B := Lib.hid hb
    have X := Lib.hid hx
    have AL := Lib.hid ha
    have ZL := Lib.hid hz
    clear hb hx ha hz
    by_cases hlt : lo < hi
    · obtain ⟨y, hy⟩ : ∃ y, l[(lo + hi) / 2]? = some y := ⟨_, List.getElem?_eq_getElem (by have := HN.out; omega)⟩
      obtain ⟨p, ix, p0, p1, p2, p3, p4⟩ := el_regrown (x := r5 y) HL.out rfl (LN.out.trans HN.out.symm) (by rw [List.getElem?_map, hy]; rfl) B.out
      obtain ⟨b0, b1, b2, b3, b4⟩ := box_regrown X.out
      obtain ⟨r, hr⟩ : ∃ r, cmpC y.1 c.1 = r := ⟨_, rfl⟩
      have C := byName_re (r5 y) (r5 c) r hr wr
      have LE := Lib.hid (show decide (r < 0) = Op.bytesLess y.1.toList c.1.toList by rw [← hr]; exact cmpC_less _ _)
      have Y := Lib.hid hy
      simp only [r5] at p0 p1 p2 p3 p4 b0 b1 b2 b3 b4 C ⊢
      clear hy hr
      have e23 : ((lo : Int) + (hi : Int)) / 2 = (((lo + hi) / 2 : Nat) : Int) := by omega
      generalize hm : (lo + hi) / 2 = m at *
      have BN := Lib.hid (fun dq osq => B.out.trans ((below_regrown wr dq osq).mono B.out.size))
      have XN := Lib.hid (fun dq osq => X.out.on (below_regrown wr dq osq))
      by_cases hneg : r < 0
      · have d0 : decide (r < 0) = true := by simpa using hneg
        have LT := Lib.hid (show Op.bytesLess y.1.toList c.1.toList = true by rw [← LE.out]; exact d0)
        go_wp2
        refine wp_region_quiet_below (by kernel_rfl) (by kernel_rfl) ?_
        repeat (go_big_quiet_step (first | (with_reducible exact C _ _) | exact call_byName _ _))
        refine wpQuiet_nil ?_
        intro _ hw'
        obtain ⟨⟨dq, osq⟩, hw''⟩ := hw'
        subst hw''
        clear ix p0 p1 p2 p3 p4 b0 b1 b2 b3 b4 C
        go_wp2
        go_roundg (hi - (m + 1))
        case measure => omega
        case rel => exact ⟨m + 1, hi, by go_num, rfl, by omega, hin, Nat.le_refl _, BN.out _ _, XN.out _ _, fun t z h1 h2 => by
          rcases Nat.lt_or_ge t m with h3 | h3
          · exact rise_down HR.out (by omega) h2 Y.out LT.out
          · obtain rfl : t = m := by omega
            rw [Y.out] at h2
            rw [← Option.some.inj h2]
            exact LT.out, ZL.out⟩
      · have d0 : decide (r < 0) = false := by simpa using hneg
        have LT := Lib.hid (show Op.bytesLess y.1.toList c.1.toList = false by rw [← LE.out]; exact d0)
        go_wp2
        refine wp_region_quiet_below (by kernel_rfl) (by kernel_rfl) ?_
        repeat (go_big_quiet_step (first | (with_reducible exact C _ _) | exact call_byName _ _))
        refine wpQuiet_nil ?_
        intro _ hw'
        obtain ⟨⟨dq, osq⟩, hw''⟩ := hw'
        subst hw''
        clear ix p0 p1 p2 p3 p4 b0 b1 b2 b3 b4 C
        go_wp2
        go_roundg (m - lo)
        case measure => omega
        case rel => exact ⟨lo, m, rfl, rfl, by omega, by omega, Nat.le_refl _, BN.out _ _, XN.out _ _, AL.out, fun t z h1 h2 => by
          cases h : Op.bytesLess z.1.toList c.1.toList
          · rfl
          · have := rise_down HR.out h1 Y.out h2 h
            rw [LT.out] at this
            cases this⟩
    · obtain rfl : hi = lo := by omega
      have E := Lib.hid (cntC_is l c.1 hi (by have := HN.out; omega) AL.out (fun z hz => ZL.out hi z (Nat.le_refl _) hz))
      by_cases hn : hi < n
      · obtain ⟨y, hy⟩ : ∃ y, l[hi]? = some y := ⟨_, List.getElem?_eq_getElem (by have := HN.out; omega)⟩
        obtain ⟨p, ix, p0, p1, p2, p3, p4⟩ := el_regrown (x := r5 y) HL.out rfl (LN.out.trans HN.out.symm) (by rw [List.getElem?_map, hy]; rfl) B.out
        obtain ⟨b0, b1, b2, b3, b4⟩ := box_regrown X.out
        obtain ⟨r, hr⟩ : ∃ r, cmpC y.1 c.1 = r := ⟨_, rfl⟩
        have C := byName_re (r5 y) (r5 c) r hr wr
        have TH := Lib.hid (show th = (r == 0) by
          rw [HT.out, thereC, E.out, hy, Bool.eq_iff_iff, beq_iff_eq, ← hr, cmpC_same, decide_eq_true_eq])
        simp only [r5] at p0 p1 p2 p3 p4 b0 b1 b2 b3 b4 C ⊢
        have BN := Lib.hid (fun dq osq => B.out.trans ((below_regrown wr dq osq).mono B.out.size))
        have CE := Lib.hid (show cnt = hi by rw [HC.out, E.out])
        clear hy hr hlt
        have g4 : decide ((hi : Int) < (n : Int)) = true := by simp; omega
        go_wp2
        refine wp_region_quiet_below (by kernel_rfl) (by kernel_rfl) ?_
        repeat (go_big_quiet_step (first | (with_reducible exact C _ _) | exact call_byName _ _))
        refine wpQuiet_nil ?_
        intro _ hw'
        obtain ⟨⟨dq, osq⟩, hw''⟩ := hw'
        subst hw''
        clear ix p0 p1 p2 p3 p4 b0 b1 b2 b3 b4 C
        go_wp2
        go_ret2
        exact ⟨by rw [TH.out, CE.out]; rfl, BN.out _ _⟩
      · have TH := Lib.hid (show th = false by
          rw [HT.out, thereC, E.out, List.getElem?_eq_none (by have := HN.out; omega)])
        have CE := Lib.hid (show cnt = hi by rw [HC.out, E.out])
        have BN := Lib.hid (fun dq osq => B.out.trans ((below_regrown wr dq osq).mono B.out.size))
        have g4 : decide ((hi : Int) < (n : Int)) = false := by simp; omega
        clear hlt
        go_wp2
        refine wp_region_quiet_below (by kernel_rfl) (by kernel_rfl) ?_
        repeat (go_big_quiet_step (first | (with_reducible exact C _ _) | exact call_byName _ _))
        refine wpQuiet_nil ?_
        intro _ hw'
        obtain ⟨⟨dq, osq⟩, hw''⟩ := hw'
        subst hw''
        go_wp2
        go_ret2
        exact ⟨by rw [TH.out, CE.out]; rfl, BN.out _ _⟩
end Go.Proofs.Ytdomincmoaahoaa.Pr
