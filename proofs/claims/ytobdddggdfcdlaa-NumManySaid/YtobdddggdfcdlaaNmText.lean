/-
  Text and ID of package num: a text's length and its bytes; an ID's two numbers. Conditions: texts no longer than a machine holds; numbers of 64 bits.
-/
import Derived.Test.YtobdddggdfcdlaaNmNum
namespace Go.Proofs.Ytobdddggdfcdlaa.Nm
open Go.RowKit Go.Proofs.Ytobdddggdfcdlaa Go.Proofs.Ytobdddggdfcdlaa.Rw

set_option maxRecDepth 100000 in
set_option maxHeartbeats 8000000 in
theorem text_any (s : ByteArray) (w : World) :
    Calls Try.prog 12 #[.string s] w fun e w' => (∃ v, e = .returned v ∧ OwnB w' w.heap.size v (textB s)) ∧ Below w.heap.size w w' := by
  by_cases h255 : 255 < s.size
  · have T := Lib.hid (textB_no h255)
    have hd : (255 : Int) < (s.size : Int) := by omega
    go_enter Try.func12, Try.ntmps12
    go_wp2
    go_ret
    exact ⟨⟨_, rfl, by rw [T.out]; exact own_nil w w.heap.size⟩, Below.refl _ _⟩
  · have T := Lib.hid (textB_ok (s := s) (by omega))
    have hd : (s.size : Int) ≤ 255 := by omega
    have hwr : IntKind.u8.wrap (s.size : Int) = s.size := IntWalk.u8_in _ (by omega)
    have hlit := own_lit1 w (UInt8.ofNat s.size)
    rw [show ((UInt8.ofNat s.size).toNat : Int) = s.size by rw [UInt8.toNat_ofNat']; omega] at hlit
    obtain ⟨v', w', r, o', gr⟩ := appS w.heap.size s hlit (by simp; omega) (by simp) 24
    have B4 := Lib.hid (((Below.refl w.heap.size w).alloc (Nat.le_refl _) (.cells #[.int .u8 s.size] 5)).trans (below_own hlit (by simp) gr))
    have O4 := Lib.hid o'
    clear hlit o' gr
    go_enter Try.func12, Try.ntmps12
    go_wp2_with (first | (at_builtin; refine wpList_append_run2 rfl _ _ 24 9 rfl rfl rfl r ?_) | fail)
    go_ret
    exact ⟨⟨_, rfl, by rw [T.out]; exact O4.out⟩, B4.out⟩
set_option maxRecDepth 100000 in
set_option maxHeartbeats 8000000 in
theorem id_any (c q : Int) (w : World) :
    Calls Try.prog 15 #[.agg #[.int .i64 c, .int .i64 q]] w fun e w' => (∃ v, e = .returned v ∧ OwnB w' w.heap.size v (numB c ++ numB q)) ∧ Below w.heap.size w w' := by
  have B1 := Lib.hid (show Below w.heap.size w (w.alloc (.cells #[.int .i64 c, .int .i64 q] 31)) from (Below.refl _ _).alloc (Nat.le_refl _) _)
  have hs : (w.alloc (.cells #[.int .i64 c, .int .i64 q] 31)).heap.size = w.heap.size + 1 := by simp
  have N := number_any _ [c, q] _ (Row.of_own (row_lit okI (w.alloc (.cells #[.int .i64 c, .int .i64 q] 31)) [c, q] 2 rfl (by simp) #[.int .i64 c, .int .i64 q] rfl)) (by simp)
  have B2 := Lib.hid (B1.out.trans ((((Below.refl _ (w.alloc (.cells #[.int .i64 c, .int .i64 q] 31))).alloc (Nat.le_refl _) (.cells #[.int .i64 c, .int .i64 q] 3))).mono B1.out.size))
  rw [hs] at N
  go_enter Try.func15, Try.ntmps15
  go_wp2_with fail
  refine N.mono ?_
  rintro e w' ⟨⟨v, rfl, ho⟩, hb⟩
  have B3 := Lib.hid (B2.out.trans (hb.mono B2.out.size))
  have O3 := Lib.hid (own_less (by have := B2.out.size; exact this) ho)
  clear hb ho N
  go_wp2_with fail
  go_ret
  exact ⟨⟨_, rfl, by have h := O3.out; rwa [show numsB [c, q] = numB c ++ numB q by simp [numsB]] at h⟩, B3.out⟩
end Go.Proofs.Ytobdddggdfcdlaa.Nm
