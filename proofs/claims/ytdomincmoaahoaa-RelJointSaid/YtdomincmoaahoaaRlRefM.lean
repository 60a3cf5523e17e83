/-
  The document's own Match (package broadsideref1). Condition: lists of no more than a hundred.
-/
import Derived.Test.YtdomincmoaahoaaRlRefC
import Derived.Test.YtdomincmoaahoaaBe
namespace Go.Proofs.Ytdomincmoaahoaa.Rl
open Go.RowKit Go.Proofs.Ytdomincmoaahoaa Go.Proofs.Ytdomincmoaahoaa.Pu Go.Proofs.Ytdomincmoaahoaa.Rw Go.Proofs.Ytdomincmoaahoaa.Pr Go.Proofs.Ytdomincmoaahoaa.Va

def matF (c : Cn) (a : An) : Bool := decide (a.1 = c.1) && holdsK c.2 a.2
theorem four {w : World} {p : Addr} {x : An} (h : ∀ j u, (At.cellsA x)[j]? = some u → w.cell? (p.add j) = some u) :
    w.cell? p = some (.string x.1) ∧ w.cell? ⟨p.block, p.off + 1, none⟩ = some (.bool x.2.1) ∧ w.cell? ⟨p.block, p.off + 2, none⟩ = some (.int .i64 x.2.2.1) ∧ w.cell? ⟨p.block, p.off + 3, none⟩ = some (.string x.2.2.2) := by
  have h0 := h 0 _ rfl
  have h1 := h 1 _ rfl
  have h2 := h 2 _ rfl
  have h3 := h 3 _ rfl
  simp [Addr.add] at h0 h1 h2 h3
  exact ⟨h0, h1, h2, h3⟩
theorem elL {W : World} {v : Value} {l : List An} {ao : Option Addr} {n c k : Nat} {x : An} (h : RowL W v l) (hv : v = .slice ao n c) (hn : l.length = n) (hk : l[k]? = some x) :
    ∃ p : Addr, (∀ w, (Instr.indexAt 32 (.slice ao n c) (.int .i64 k)).run Try.prog w = .ok (.pointer (some p)) w) ∧ ∀ w, Below W.heap.size W w →
      w.cell? p = some (.string x.1) ∧ w.cell? ⟨p.block, p.off + 1, none⟩ = some (.bool x.2.1) ∧ w.cell? ⟨p.block, p.off + 2, none⟩ = some (.int .i64 x.2.2.1) ∧ w.cell? ⟨p.block, p.off + 3, none⟩ = some (.string x.2.2.2) := by
  obtain ⟨p, h1, _, h2⟩ := row_el okA h hv hn hk
  exact ⟨p, h1, fun w hw => four (h2 w hw)⟩
set_option maxRecDepth 100000 in
set_option maxHeartbeats 4000000 in
theorem rmatch_any (av_ bv : Value) (a : List Cn) (b : List An) (w : World) (ha : RowC w av_ (a.map r5)) (hb : RowL w bv b) (hl : a.length ≤ 100) (hm : b.length ≤ 100) :
    Calls Try.prog 15 #[av_, bv] w fun e w' => e = .returned (.bool (matchL a b)) ∧ Below w.heap.size w w' := by
  have HA := Lib.hid ha
  have HB := Lib.hid hb
  have CO := Lib.hid (show matchL a b = a.all fun x => b.any (matF x) from rfl)
  obtain ⟨ao, ac, rfl⟩ := ha.len
  obtain ⟨bo, bc, rfl⟩ := hb.len
  clear ha hb
  rw [List.length_map] at HA ⊢
  generalize matchL a b = r at *
  generalize hn : a.length = n at *
  generalize hm' : b.length = m at *
  have HN := Lib.hid hn
  have HM := Lib.hid hm'
  clear hn hm'
  go_enter Try.func15, Try.ntmps15
  go_wp2
  go_loopw [12] (fun i wr => ∃ k : Nat, k ≤ n ∧ i = .int .i64 k ∧ Below w.heap.size w wr ∧ (a.take k).all (fun x => b.any (matF x)) = true) (fun i _ => n - (intOf i).toNat)
  case atStart => exact ⟨0, Nat.zero_le _, rfl, Below.refl _ _, rfl⟩
  case round =>
    obtain ⟨k, hk, rfl, hbe, hall⟩ := hrel
    have BE := Lib.hid hbe
    have AL := Lib.hid hall
    clear hbe hall
    by_cases hlt : k < n
    · obtain ⟨x, hx⟩ : ∃ x, a[k]? = some x := ⟨_, List.getElem?_eq_getElem (by rw [HN.out]; exact hlt)⟩
      obtain ⟨p, ix, px⟩ := elC HA.out rfl (by rw [List.length_map]; exact HN.out) (show (a.map r5)[k]? = some (r5 x) by rw [List.getElem?_map, hx]; rfl)
      have p0 := (px _ BE.out).1
      have p1 := (px _ BE.out).2.1
      have p2 := (px _ BE.out).2.2.1
      have p3 := (px _ BE.out).2.2.2.1
      have p4 := (px _ BE.out).2.2.2.2
      have HX := Lib.hid hx
      have B1 := Lib.hid (BE.out.alloc BE.out.size (.cells #[.string (r5 x).1, .int .i64 (r5 x).2.1, .int .i64 (r5 x).2.2.1, .int .i64 (r5 x).2.2.2.1, .string (r5 x).2.2.2.2] 23))
      have Z1 := Lib.hid (show wr.heap.size < (wr.alloc (.cells #[.string (r5 x).1, .int .i64 (r5 x).2.1, .int .i64 (r5 x).2.2.1, .int .i64 (r5 x).2.2.2.1, .string (r5 x).2.2.2.2] 23)).heap.size by simp)
      have e0 : (wr.alloc (.cells #[.string (r5 x).1, .int .i64 (r5 x).2.1, .int .i64 (r5 x).2.2.1, .int .i64 (r5 x).2.2.2.1, .string (r5 x).2.2.2.2] 23)).cell? ⟨wr.heap.size, 0, none⟩ = some (.string (r5 x).1) := by simp [go_sem]
      have e1 : (wr.alloc (.cells #[.string (r5 x).1, .int .i64 (r5 x).2.1, .int .i64 (r5 x).2.2.1, .int .i64 (r5 x).2.2.2.1, .string (r5 x).2.2.2.2] 23)).cell? ⟨wr.heap.size, 1, none⟩ = some (.int .i64 (r5 x).2.1) := by simp [go_sem]
      have e2 : (wr.alloc (.cells #[.string (r5 x).1, .int .i64 (r5 x).2.1, .int .i64 (r5 x).2.2.1, .int .i64 (r5 x).2.2.2.1, .string (r5 x).2.2.2.2] 23)).cell? ⟨wr.heap.size, 2, none⟩ = some (.int .i64 (r5 x).2.2.1) := by simp [go_sem]
      have e3 : (wr.alloc (.cells #[.string (r5 x).1, .int .i64 (r5 x).2.1, .int .i64 (r5 x).2.2.1, .int .i64 (r5 x).2.2.2.1, .string (r5 x).2.2.2.2] 23)).cell? ⟨wr.heap.size, 3, none⟩ = some (.int .i64 (r5 x).2.2.2.1) := by simp [go_sem]
      have e4 : (wr.alloc (.cells #[.string (r5 x).1, .int .i64 (r5 x).2.1, .int .i64 (r5 x).2.2.1, .int .i64 (r5 x).2.2.2.1, .string (r5 x).2.2.2.2] 23)).cell? ⟨wr.heap.size, 4, none⟩ = some (.string (r5 x).2.2.2.2) := by simp [go_sem]
      clear px hx
      go_wp2
      generalize wr.alloc (.cells #[.string (r5 x).1, .int .i64 (r5 x).2.1, .int .i64 (r5 x).2.2.1, .int .i64 (r5 x).2.2.2.1, .string (r5 x).2.2.2.2] 23) = W1 at *
      generalize wr.heap.size = bx at *
      have E0 := Lib.hid e0
      have E1 := Lib.hid e1
      have E2 := Lib.hid e2
      have E3 := Lib.hid e3
      have E4 := Lib.hid e4
      clear e0 e1 e2 e3 e4 ix p0 p1 p2 p3 p4
      go_loopw [7, 18] (fun v i wi => ∃ j : Nat, j ≤ m ∧ i = .int .i64 j ∧ v = .bool ((b.take j).any (matF x)) ∧ Below W1.heap.size W1 wi) (fun _ i _ => m - (intOf i).toNat)
      case atStart => exact ⟨0, Nat.zero_le _, rfl, rfl, Below.refl _ _⟩
      case round =>
        obtain ⟨j, hj, rfl, rfl, hbi⟩ := hrel
        have BI := Lib.hid hbi
        have TK := Lib.hid (B1.out.trans (hbi.mono B1.out.size))
        clear hbi
        by_cases hjt : j < m
        · obtain ⟨y, hy⟩ : ∃ y, b[j]? = some y := ⟨_, List.getElem?_eq_getElem (by rw [HM.out]; exact hjt)⟩
          obtain ⟨q, iy, py⟩ := elL HB.out rfl HM.out hy
          have q0 := (py _ TK.out).1
          have q1 := (py _ TK.out).2.1
          have q2 := (py _ TK.out).2.2.1
          have q3 := (py _ TK.out).2.2.2
          have MO := Lib.hid (any_more (matF x) b j y hy)
          have BI2 := Lib.hid (BI.out.alloc BI.out.size (.cells #[.string y.1, .bool y.2.1, .int .i64 y.2.2.1, .string y.2.2.2] 47))
          have f0 := (BI2.out.cell (p := ⟨bx, 0, none⟩) Z1.out).trans E0.out
          have f1 := (BI2.out.cell (p := ⟨bx, 1, none⟩) Z1.out).trans E1.out
          have f2 := (BI2.out.cell (p := ⟨bx, 2, none⟩) Z1.out).trans E2.out
          have f3 := (BI2.out.cell (p := ⟨bx, 3, none⟩) Z1.out).trans E3.out
          have f4 := (BI2.out.cell (p := ⟨bx, 4, none⟩) Z1.out).trans E4.out
          clear py hy
          cases hv : (b.take j).any (matF x)
          · rw [hv] at MO
            clear hv
            by_cases hne : y.1 = x.1
            · have g0 := str_eq y.1 (r5 x).1 hne
              have CV := Lib.hid (show matF x y = holdsK x.2 y.2 by simp [matF, hne])
              clear hne
              go_wp2_with fail
              refine (rholds_any x y.2.1 y.2.2.1 y.2.2.2 _).mono ?_
              rintro e w2 ⟨rfl, hc⟩
              have BC := Lib.hid (BI2.out.trans (hc.mono BI2.out.size))
              clear hc
              go_wp2
              go_roundw
              case rel => exact ⟨j + 1, by omega, by go_num, by rw [MO.out, CV.out]; rfl, BC.out⟩
              case measure => simp [intOf]; omega
            · have g0 := str_ne y.1 (r5 x).1 hne
              have CV := Lib.hid (show matF x y = false by simp [matF, hne])
              go_wp2
              go_roundw
              case rel => exact ⟨j + 1, by omega, by go_num, by rw [MO.out, CV.out]; rfl, BI2.out⟩
              case measure => simp [intOf]; omega
          · rw [hv] at MO
            clear hv
            go_wp2
            go_roundw
            case rel => exact ⟨j + 1, by omega, by go_num, by rw [MO.out]; rfl, BI2.out⟩
            case measure => simp [intOf]; omega
        · obtain rfl : j = m := by omega
          have TA := Lib.hid (show (b.take j).any (matF x) = b.any (matF x) by rw [← HM.out, List.take_length])
          have AM := Lib.hid (all_more (fun x => b.any (matF x)) a k x HX.out)
          rw [TA.out]
          cases hv : b.any (matF x)
          · have R := Lib.hid (show r = false from CO.out.trans (all_not _ a k x HX.out hv))
            clear hv
            go_wp2
            go_ret
            exact ⟨ret_bool R.out.symm, TK.out⟩
          · have HV := Lib.hid hv
            clear hv
            go_wp2
            go_roundw
            case rel => exact ⟨k + 1, by omega, by go_num, TK.out, by rw [AM.out, AL.out, HV.out]; rfl⟩
            case measure => simp [intOf]; omega
    · obtain rfl : k = n := by omega
      have R := Lib.hid (show r = true by rw [CO.out, ← AL.out, ← HN.out, List.take_length])
      go_wp2
      go_ret
      exact ⟨ret_bool R.out.symm, BE.out⟩
end Go.Proofs.Ytdomincmoaahoaa.Rl
