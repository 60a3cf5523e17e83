/-
  The law NumRuns: chapter 7's runs of package num. No condition.
-/
import Derived.Test.YtobdddggdfcdlaaNmIntact
import Derived.Test.YtobdddggdfcdlaaNmRdr2
namespace Go.Proofs.Ytobdddggdfcdlaa.Nm
open Go.RowKit Go.Proofs.Ytobdddggdfcdlaa Go.Proofs.Ytobdddggdfcdlaa.Rw

theorem litB (w : World) (l : List UInt8) (n : Nat) (cs : Array Value) (hn : n = l.length) (hl : l.length ≤ 1000) (hcs : cs.toList = l.map (fun x => Value.int .u8 x.toNat)) : OwnB (w.alloc (.cells cs 5)) w.heap.size (.slice (some ⟨w.heap.size, 0, none⟩) n n) l := row_lit okB w l n hn hl cs (by rw [flatB]; exact hcs)
theorem litI (w : World) (l : List Int) (n : Nat) (cs : Array Value) (hn : n = l.length) (hl : l.length ≤ 1000) (hcs : cs.toList = l.map (fun x => Value.int .i64 x)) : OwnI (w.alloc (.cells cs 3)) w.heap.size (.slice (some ⟨w.heap.size, 0, none⟩) n n) l := row_lit okI w l n hn hl cs (by rw [flatI]; exact hcs)
theorem new_below (w : World) (o : Obj) : Below w.heap.size w (w.alloc o) := (Below.refl _ _).alloc (Nat.le_refl _) _
theorem num_one : numsB [1] = [0, 0, 0, 0, 0, 0, 0, 1] := by decide
theorem text_ab : textB ⟨#[97, 98]⟩ = [2, 97, 98] := by decide
set_option maxRecDepth 100000 in
set_option maxHeartbeats 8000000 in
theorem runs_any (w : World) : Calls Try.prog 3 #[] w fun e w' => e = .returned (.bool true) ∧ Below w.heap.size w w' := by
  have N1 := Lib.hid (new_below w (.cells #[.int .u8 2, .int .u8 97] 5))
  have R1 := Lib.hid (read_any _ [2, 97] _ (Row.of_own (litB w [2, 97] 2 #[.int .u8 2, .int .u8 97] rfl (by decide) rfl)) (by decide))
  go_enter Try.func3, Try.ntmps3
  go_wp2_with fail
  refine R1.out.mono ?_
  rintro e w1 ⟨⟨rb, rfl, hrb, hd⟩, hb⟩
  have B1 := Lib.hid (N1.out.trans (hb.mono N1.out.size))
  have LB := Lib.hid (Nat.le_trans N1.out.size hrb)
  have T := Lib.hid (rtext_any rb _ w1 hd)
  have D1 := Lib.hid hd
  clear hd hb hrb R1 N1
  have E := Lib.hid (show textS ([2, 97], false) = (⟨#[]⟩, ([], true)) by decide)
  go_wp2_with fail
  refine T.out.mono ?_
  rw [E.out]
  rintro e w2 ⟨rfl, hd, hg⟩
  have B2 := Lib.hid (B1.out.trans (D1.out.below LB.out hg))
  have D2 := Lib.hid hd
  clear hd hg B1 D1 T
  have N2 := Lib.hid (new_below w2 (.cells #[.int .i64 1] 3))
  have C2 := Lib.hid (number_any _ [1] _ (Row.of_own (litI w2 [1] 1 #[.int .i64 1] rfl (by decide) rfl)) (by decide))
  go_wp2_with fail
  refine C2.out.mono ?_
  rw [num_one]
  rintro e w3 ⟨⟨v3, rfl, ho⟩, hb⟩
  have Z3 := N2.out.trans (hb.mono N2.out.size)
  have B3 := Lib.hid (B2.out.trans (Z3.mono B2.out.size))
  have D3 := Lib.hid (D2.out.on Z3)
  have N3 := Lib.hid (new_below w3 (.cells #[.int .u8 0, .int .u8 0, .int .u8 0, .int .u8 0, .int .u8 0, .int .u8 0, .int .u8 0, .int .u8 1] 5))
  have S3 := Lib.hid (sameB v3 _ _ [0, 0, 0, 0, 0, 0, 0, 1] _ ((Row.of_own ho).on N3.out) (Row.of_own (litB w3 [0, 0, 0, 0, 0, 0, 0, 1] 8 #[.int .u8 0, .int .u8 0, .int .u8 0, .int .u8 0, .int .u8 0, .int .u8 0, .int .u8 0, .int .u8 1] rfl (by decide) rfl)))
  clear ho hb Z3 N2 C2 D2 B2
  go_wp2_with fail
  refine S3.out.mono ?_
  rintro e w4 ⟨rfl, hb⟩
  have Z4 := N3.out.trans (hb.mono N3.out.size)
  have B4 := Lib.hid (B3.out.trans (Z4.mono B3.out.size))
  have D4 := Lib.hid (D3.out.on Z4)
  have T4 := Lib.hid (text_any ⟨#[97, 98]⟩ w4)
  clear hb Z4 N3 S3 D3 B3
  simp only [decide_true]
  go_wp2_with fail
  refine T4.out.mono ?_
  rw [text_ab]
  rintro e w5 ⟨⟨v5, rfl, ho⟩, hb⟩
  have B5 := Lib.hid (B4.out.trans (hb.mono B4.out.size))
  have D5 := Lib.hid (D4.out.on hb)
  have N5 := Lib.hid (new_below w5 (.cells #[.int .u8 2, .int .u8 97, .int .u8 98] 5))
  have S5 := Lib.hid (sameB v5 _ _ [2, 97, 98] _ ((Row.of_own ho).on N5.out) (Row.of_own (litB w5 [2, 97, 98] 3 #[.int .u8 2, .int .u8 97, .int .u8 98] rfl (by decide) rfl)))
  clear ho hb T4 D4 B4
  go_wp2_with fail
  refine S5.out.mono ?_
  rintro e w6 ⟨rfl, hb⟩
  have Z6 := N5.out.trans (hb.mono N5.out.size)
  have B6 := Lib.hid (B5.out.trans (Z6.mono B5.out.size))
  have D6 := D5.out.on Z6
  have G6 := Lib.hid (good_any rb _ w6 D6)
  have F6 := Lib.hid (done_any rb _ w6 D6)
  clear hb Z6 N5 S5 D5 B5 D6
  simp only [decide_true]
  go_wp2_with fail
  refine G6.out.mono ?_
  rintro e w7 ⟨rfl, rfl⟩
  go_wp2_with fail
  refine F6.out.mono ?_
  rintro e w7 ⟨rfl, rfl⟩
  simp only [doneS]
  go_wp2_with fail
  go_ret
  exact ⟨rfl, B6.out⟩
end Go.Proofs.Ytobdddggdfcdlaa.Nm
