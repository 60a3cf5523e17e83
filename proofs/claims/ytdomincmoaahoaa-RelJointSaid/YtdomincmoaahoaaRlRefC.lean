/-
  The document's own Covers (package broadsideref1). Condition: lists of no more than a hundred.
-/
import Derived.Test.YtdomincmoaahoaaRlRefI
import Derived.Test.YtdomincmoaahoaaBd
namespace Go.Proofs.Ytdomincmoaahoaa.Rl
open Go.RowKit Go.Proofs.Ytdomincmoaahoaa Go.Proofs.Ytdomincmoaahoaa.Pu Go.Proofs.Ytdomincmoaahoaa.Rw Go.Proofs.Ytdomincmoaahoaa.Pr Go.Proofs.Ytdomincmoaahoaa.Va

def covF (x y : Cn) : Bool := decide (y.1 = x.1) && impliesK y.2 x.2
theorem any_more {α : Type} (f : α → Bool) (l : List α) (k : Nat) (y : α) (h : l[k]? = some y) : (l.take (k + 1)).any f = ((l.take k).any f || f y) := by
  rw [List.take_add_one, h, List.any_append]
  simp
theorem all_more {α : Type} (f : α → Bool) (l : List α) (k : Nat) (y : α) (h : l[k]? = some y) : (l.take (k + 1)).all f = ((l.take k).all f && f y) := by
  rw [List.take_add_one, h, List.all_append]
  simp
theorem all_not {α : Type} (f : α → Bool) (l : List α) (k : Nat) (y : α) (h : l[k]? = some y) (hf : f y = false) : l.all f = false := by
  rw [List.all_eq_false]
  exact ⟨y, List.mem_of_getElem? h, by simp [hf]⟩
theorem str_eq (a b : ByteArray) (h : a = b) : (a.toList == b.toList) = true := by simp [h]
theorem str_ne (a b : ByteArray) (h : ¬ a = b) : (a.toList == b.toList) = false := by
  rw [beq_eq_false_iff_ne]
  intro e
  rw [Lib.toList_data, Lib.toList_data] at e
  exact h (bytes_eq e)
set_option maxRecDepth 100000 in
set_option maxHeartbeats 4000000 in
theorem rcovers_any (av_ bv : Value) (a b : List Cn) (w : World) (ha : RowC w av_ (a.map r5)) (hb : RowC w bv (b.map r5)) (hl : a.length ≤ 100) (hm : b.length ≤ 100) :
    Calls Try.prog 17 #[av_, bv] w fun e w' => e = .returned (.bool (coversL a b)) ∧ Below w.heap.size w w' := by
  have HA := Lib.hid ha
  have HB := Lib.hid hb
  have CO := Lib.hid (show coversL a b = a.all fun x => b.any (covF x) from rfl)
  obtain ⟨ao, ac, rfl⟩ := ha.len
  obtain ⟨bo, bc, rfl⟩ := hb.len
  clear ha hb
  rw [List.length_map] at HA HB ⊢
  rw [List.length_map]
  generalize coversL a b = r at *
  generalize hn : a.length = n at *
  generalize hm' : b.length = m at *
  have HN := Lib.hid hn
  have HM := Lib.hid hm'
  clear hn hm'
  go_enter Try.func17, Try.ntmps17
  go_wp2
  go_loopw [12] (fun i wr => ∃ k : Nat, k ≤ n ∧ i = .int .i64 k ∧ Below w.heap.size w wr ∧ (a.take k).all (fun x => b.any (covF x)) = true) (fun i _ => n - (intOf i).toNat)
  case atStart => exact ⟨0, Nat.zero_le _, rfl, Below.refl _ _, rfl⟩
  case round =>
    obtain ⟨k, hk, rfl, hbe, hall⟩ := hrel
    have BE := Lib.hid hbe
    have AL := Lib.hid hall
    clear hbe hall
    by_cases hlt : k < n
    · obtain ⟨x, hx⟩ : ∃ x, a[k]? = some x := ⟨_, List.getElem?_eq_getElem (by rw [HN.out]; exact hlt)⟩
      obtain ⟨p, ix, px⟩ := elC HA.out rfl (by rw [List.length_map]; exact HN.out) (show (a.map r5)[k]? = some (r5 x) by rw [List.getElem?_map, hx]; rfl)
      have p0 := (px _ BE.out).1
      have p1 := (px _ BE.out).2.1
      have p2 := (px _ BE.out).2.2.1
      have p3 := (px _ BE.out).2.2.2.1
      have p4 := (px _ BE.out).2.2.2.2
      have HX := Lib.hid hx
      have B1 := Lib.hid (BE.out.alloc BE.out.size (.cells #[.string (r5 x).1, .int .i64 (r5 x).2.1, .int .i64 (r5 x).2.2.1, .int .i64 (r5 x).2.2.2.1, .string (r5 x).2.2.2.2] 23))
      have Z1 := Lib.hid (show wr.heap.size < (wr.alloc (.cells #[.string (r5 x).1, .int .i64 (r5 x).2.1, .int .i64 (r5 x).2.2.1, .int .i64 (r5 x).2.2.2.1, .string (r5 x).2.2.2.2] 23)).heap.size by simp)
      have e0 : (wr.alloc (.cells #[.string (r5 x).1, .int .i64 (r5 x).2.1, .int .i64 (r5 x).2.2.1, .int .i64 (r5 x).2.2.2.1, .string (r5 x).2.2.2.2] 23)).cell? ⟨wr.heap.size, 0, none⟩ = some (.string (r5 x).1) := by simp [go_sem]
      have e1 : (wr.alloc (.cells #[.string (r5 x).1, .int .i64 (r5 x).2.1, .int .i64 (r5 x).2.2.1, .int .i64 (r5 x).2.2.2.1, .string (r5 x).2.2.2.2] 23)).cell? ⟨wr.heap.size, 1, none⟩ = some (.int .i64 (r5 x).2.1) := by simp [go_sem]
      have e2 : (wr.alloc (.cells #[.string (r5 x).1, .int .i64 (r5 x).2.1, .int .i64 (r5 x).2.2.1, .int .i64 (r5 x).2.2.2.1, .string (r5 x).2.2.2.2] 23)).cell? ⟨wr.heap.size, 2, none⟩ = some (.int .i64 (r5 x).2.2.1) := by simp [go_sem]
      have e3 : (wr.alloc (.cells #[.string (r5 x).1, .int .i64 (r5 x).2.1, .int .i64 (r5 x).2.2.1, .int .i64 (r5 x).2.2.2.1, .string (r5 x).2.2.2.2] 23)).cell? ⟨wr.heap.size, 3, none⟩ = some (.int .i64 (r5 x).2.2.2.1) := by simp [go_sem]
      have e4 : (wr.alloc (.cells #[.string (r5 x).1, .int .i64 (r5 x).2.1, .int .i64 (r5 x).2.2.1, .int .i64 (r5 x).2.2.2.1, .string (r5 x).2.2.2.2] 23)).cell? ⟨wr.heap.size, 4, none⟩ = some (.string (r5 x).2.2.2.2) := by simp [go_sem]
      clear px hx
      go_wp2
      generalize wr.alloc (.cells #[.string (r5 x).1, .int .i64 (r5 x).2.1, .int .i64 (r5 x).2.2.1, .int .i64 (r5 x).2.2.2.1, .string (r5 x).2.2.2.2] 23) = W1 at *
      generalize wr.heap.size = bx at *
      have E0 := Lib.hid e0
      have E1 := Lib.hid e1
      have E2 := Lib.hid e2
      have E3 := Lib.hid e3
      have E4 := Lib.hid e4
      clear e0 e1 e2 e3 e4 ix p0 p1 p2 p3 p4
      go_loopw [7, 18] (fun v i wi => ∃ j : Nat, j ≤ m ∧ i = .int .i64 j ∧ v = .bool ((b.take j).any (covF x)) ∧ Below W1.heap.size W1 wi) (fun _ i _ => m - (intOf i).toNat)
      case atStart => exact ⟨0, Nat.zero_le _, rfl, rfl, Below.refl _ _⟩
      case round =>
        obtain ⟨j, hj, rfl, rfl, hbi⟩ := hrel
        have BI := Lib.hid hbi
        have TK := Lib.hid (B1.out.trans (hbi.mono B1.out.size))
        clear hbi
        by_cases hjt : j < m
        · obtain ⟨y, hy⟩ : ∃ y, b[j]? = some y := ⟨_, List.getElem?_eq_getElem (by rw [HM.out]; exact hjt)⟩
          obtain ⟨q, iy, py⟩ := elC HB.out rfl (by rw [List.length_map]; exact HM.out) (show (b.map r5)[j]? = some (r5 y) by rw [List.getElem?_map, hy]; rfl)
          have q0 := (py _ TK.out).1
          have q1 := (py _ TK.out).2.1
          have q2 := (py _ TK.out).2.2.1
          have q3 := (py _ TK.out).2.2.2.1
          have q4 := (py _ TK.out).2.2.2.2
          have MO := Lib.hid (any_more (covF x) b j y hy)
          have BI2 := Lib.hid (BI.out.alloc BI.out.size (.cells #[.string (r5 y).1, .int .i64 (r5 y).2.1, .int .i64 (r5 y).2.2.1, .int .i64 (r5 y).2.2.2.1, .string (r5 y).2.2.2.2] 23))
          have f0 := (BI2.out.cell (p := ⟨bx, 0, none⟩) Z1.out).trans E0.out
          have f1 := (BI2.out.cell (p := ⟨bx, 1, none⟩) Z1.out).trans E1.out
          have f2 := (BI2.out.cell (p := ⟨bx, 2, none⟩) Z1.out).trans E2.out
          have f3 := (BI2.out.cell (p := ⟨bx, 3, none⟩) Z1.out).trans E3.out
          have f4 := (BI2.out.cell (p := ⟨bx, 4, none⟩) Z1.out).trans E4.out
          clear py hy
          cases hv : (b.take j).any (covF x)
          · rw [hv] at MO
            clear hv
            by_cases hne : y.1 = x.1
            · have g0 := str_eq (r5 y).1 (r5 x).1 hne
              have CV := Lib.hid (show covF x y = impliesK y.2 x.2 by simp [covF, hne])
              go_wp2_with fail
              refine (implies_any y x _).mono ?_
              rintro e w2 ⟨rfl, hc⟩
              have BC := Lib.hid (BI2.out.trans (hc.mono BI2.out.size))
              clear hc
              go_wp2
              go_roundw
              case rel => exact ⟨j + 1, by omega, by go_num, by rw [MO.out, CV.out]; rfl, BC.out⟩
              case measure => simp [intOf]; omega
            · have g0 := str_ne (r5 y).1 (r5 x).1 hne
              have CV := Lib.hid (show covF x y = false by simp [covF, hne])
              go_wp2
              go_roundw
              case rel => exact ⟨j + 1, by omega, by go_num, by rw [MO.out, CV.out]; rfl, BI2.out⟩
              case measure => simp [intOf]; omega
          · rw [hv] at MO
            clear hv
            go_wp2
            go_roundw
            case rel => exact ⟨j + 1, by omega, by go_num, by rw [MO.out]; rfl, BI2.out⟩
            case measure => simp [intOf]; omega
        · obtain rfl : j = m := by omega
          have TA := Lib.hid (show (b.take j).any (covF x) = b.any (covF x) by rw [← HM.out, List.take_length])
          have AM := Lib.hid (all_more (fun x => b.any (covF x)) a k x HX.out)
          rw [TA.out]
          cases hv : b.any (covF x)
          · have R := Lib.hid (show r = false from CO.out.trans (all_not _ a k x HX.out hv))
            clear hv
            go_wp2
            go_ret
            exact ⟨ret_bool R.out.symm, TK.out⟩
          · have HV := Lib.hid hv
            clear hv
            go_wp2
            go_roundw
            case rel => exact ⟨k + 1, by omega, by go_num, TK.out, by rw [AM.out, AL.out, HV.out]; rfl⟩
            case measure => simp [intOf]; omega
    · obtain rfl : k = n := by omega
      have R := Lib.hid (show r = true by rw [CO.out, ← AL.out, ← HN.out, List.take_length])
      go_wp2
      go_ret
      exact ⟨ret_bool R.out.symm, BE.out⟩
end Go.Proofs.Ytdomincmoaahoaa.Rl
