/-
  Number of package num: eight bytes of each number, the highest first. Conditions: at most 1000 numbers of 64 bits.
  Text and ID of package num: a text's length and its bytes; an ID's two numbers. Conditions: texts no longer than a machine holds; numbers of 64 bits.
-/
import Derived.Test.YtfcgfnmokbbcaaaDoorQ000
import Derived.Test.YtfcgfnmokbbcaaaDoorQ001
import Derived.WalkKit
import Derived.ProofKit
import Derived.Lib.Hide
import Derived.Lib.QuietBelow
import Derived.BigQuiet
import Derived.IntWalk
namespace Go.Proofs.YtfcgfnmokbbcaaaDoor.Nm
open Go.RowKit Go.Proofs.YtfcgfnmokbbcaaaDoor Go.Proofs.YtfcgfnmokbbcaaaDoor.Rw

theorem below_own {α : Type} {w w' : World} {B : Nat} {E : Ek α} {v : Value} {l : List α} (h : Own E w B v l) (hB : B ≤ w.heap.size) (hg : w.grownBy w' v.ownBlock) : Below B w w' := (Below.refl B w).grown hg hB (fun j hj => (h.lt j hj).1)
theorem makeB (w : World) (B c : Nat) (hc : c ≤ 1000000) (hB : B ≤ w.heap.size) :
    ∃ w', (Instr.makeSlice 22 (.int .i64 0) (.int .i64 (c : Int))).run Tryd.prog w = .ok (.slice (some ⟨w.heap.size, 0, none⟩) 0 c) w' ∧ OwnB w' B (.slice (some ⟨w.heap.size, 0, none⟩) 0 c) [] ∧ w.grownBy w' none := by
  obtain ⟨i, i1, i2, i3, i4⟩ := infoB
  exact run_make_own (P := Tryd.prog) w B 22 5 i _ 1 Tryd.underlying22 i1 i2 i3 .i64 .i64 c (by rw [i4]; omega) (by unfold maxLen; omega) hB
theorem own_lit1 (w : World) (x : UInt8) : OwnB (w.alloc (.cells #[.int .u8 x.toNat] 5)) w.heap.size (.slice (some ⟨w.heap.size, 0, none⟩) 1 1) [x] := row_lit okB w [x] 1 rfl (by simp) _ rfl

set_option maxRecDepth 100000 in
set_option maxHeartbeats 8000000 in
theorem number_any (nv : Value) (ns : List Int) (w : World) (hn : RowI w nv ns) (h1000 : ns.length ≤ 1000) :
    Calls Tryd.prog 50 #[nv] w fun e w' => (∃ v, e = .returned v ∧ OwnB w' w.heap.size v (numsB ns)) ∧ Below w.heap.size w w' := by
  have HN := Lib.hid hn
  obtain ⟨ao, ac, rfl⟩ := hn.len
  obtain ⟨m, hm⟩ : ∃ m, m = ns.length := ⟨_, rfl⟩
  have HM := Lib.hid hm
  rw [← hm] at HN h1000 ⊢
  clear hn hm
  obtain ⟨w1, mk, o1, g1⟩ := makeB w w.heap.size (8 * m) (by omega) (Nat.le_refl _)
  rw [show ((8 * m : Nat) : Int) = 8 * (m : Int) by omega] at mk
  have B1 := Lib.hid ((Below.refl w.heap.size w).grown g1 (Nat.le_refl _) (fun j hj => by cases hj))
  have O1 := Lib.hid o1
  clear o1 g1
  go_enter Tryd.func50, Tryd.ntmps50
  go_wp2
  go_loopw [3, 13] (fun v i wr => ∃ k : Nat, k ≤ m ∧ i = .int .i64 k ∧ Below w.heap.size w wr ∧ OwnB wr w.heap.size v (numsB (ns.take k))) (fun _ i _ => m - (intOf i).toNat)
  case atStart => exact ⟨0, Nat.zero_le _, rfl, B1.out, O1.out⟩
  case round =>
    obtain ⟨k, hk, rfl, hb, how⟩ := hrel
    have HB := Lib.hid hb
    have HO := Lib.hid how
    clear hb how
    by_cases hlt : k < m
    · obtain ⟨x, hx⟩ : ∃ x, ns[k]? = some x := ⟨_, List.getElem?_eq_getElem (by rw [← HM.out]; exact hlt)⟩
      obtain ⟨p, ix, _, px⟩ := elI HN.out rfl HM.out.symm hx
      have p0 := px _ HB.out
      have TK := Lib.hid (show numsB (ns.take (k + 1)) = numsB (ns.take k) ++ numB x by rw [List.take_add_one, hx]; exact numsB_snoc _ _)
      have HL := Lib.hid (show (numsB (ns.take k)).length ≤ 8 * k by rw [numsB_len]; simp; omega)
      clear px hx
      generalize numsB (ns.take k) = s at *
      go_wp2
      go_loopw [3, 6] (fun v i wr2 => ∃ j : Nat, j ≤ 8 ∧ i = .int .i64 (56 - 8 * (j : Int)) ∧ Below w.heap.size w wr2 ∧ OwnB wr2 w.heap.size v (s ++ (numB x).take j)) (fun _ i _ => (intOf i + 8).toNat)
      case atStart => exact ⟨0, Nat.zero_le _, rfl, HB.out, by simpa using HO.out⟩
      case round =>
        obtain ⟨j, hj, rfl, hb2, how2⟩ := hrel
        have HB2 := Lib.hid hb2
        have HO2 := Lib.hid how2
        clear hb2 how2
        by_cases hlt8 : j < 8
        · have hge : (8 : Int) * (j : Int) ≤ 56 := by omega
          have hlit := own_lit1 wr (byteOf x j)
          rw [byteOf_nat] at hlit
          have ho3 := own_on HO2.out ((Below.refl _ _).alloc (Nat.le_refl _) (.cells #[.int .u8 (x / 2 ^ (56 - 8 * j) % 256)] 5))
          have hl3 : (s ++ (numB x).take j).length + [byteOf x j].length ≤ 1000000000 := by
            have h1 := HL.out
            have h2 : ((numB x).take j).length ≤ 8 := by simp [numB_len]; omega
            rw [List.length_append]
            simp
            omega
          have hb3 := HB2.out.size
          obtain ⟨v', w', r, o', gr⟩ := appB w.heap.size ho3 (Row.of_own hlit) hl3 (by simp; omega) 22
          have TN := Lib.hid (show s ++ (numB x).take (j + 1) = s ++ (numB x).take j ++ [byteOf x j] by rw [numB_take x j hlt8, List.append_assoc])
          have B4 := Lib.hid (HB2.out.trans (((Below.refl w.heap.size wr).alloc hb3 (.cells #[.int .u8 (x / 2 ^ (56 - 8 * j) % 256)] 5)).trans (below_own ho3 (by simp; omega) gr)))
          have O4 := Lib.hid o'
          clear hlit ho3 hl3 o' gr
          go_wp2_with (first | (at_builtin; refine wpList_append_run rfl _ _ 22 rfl rfl rfl r ?_) | fail)
          go_roundw
          case rel => exact ⟨j + 1, by omega, by go_num, B4.out, by rw [TN.out]; exact O4.out⟩
          case measure => simp [intOf]; omega
        · obtain rfl : j = 8 := by omega
          go_wp2
          go_roundw
          case rel => exact ⟨k + 1, by omega, by go_num, HB2.out, by rw [TK.out]; exact HO2.out⟩
          case measure => simp [intOf]; omega
    · obtain rfl : k = m := by omega
      rw [List.take_of_length_le (by rw [HM.out]; exact Nat.le_refl _)] at HO
      go_wp2
      go_ret
      exact ⟨⟨_, rfl, HO.out⟩, HB.out⟩
end Go.Proofs.YtfcgfnmokbbcaaaDoor.Nm

namespace Go.Proofs.YtfcgfnmokbbcaaaDoor.Nm
open Go.RowKit Go.Proofs.YtfcgfnmokbbcaaaDoor Go.Proofs.YtfcgfnmokbbcaaaDoor.Rw

set_option maxRecDepth 100000 in
set_option maxHeartbeats 8000000 in
theorem text_any (s : ByteArray) (w : World) :
    Calls Tryd.prog 51 #[.string s] w fun e w' => (∃ v, e = .returned v ∧ OwnB w' w.heap.size v (textB s)) ∧ Below w.heap.size w w' := by
  by_cases h255 : 255 < s.size
  · have T := Lib.hid (textB_no h255)
    have hd : (255 : Int) < (s.size : Int) := by omega
    go_enter Tryd.func51, Tryd.ntmps51
    go_wp2
    go_ret
    exact ⟨⟨_, rfl, by rw [T.out]; exact own_nil w w.heap.size⟩, Below.refl _ _⟩
  · have T := Lib.hid (textB_ok (s := s) (by omega))
    have hd : (s.size : Int) ≤ 255 := by omega
    have hwr : IntKind.u8.wrap (s.size : Int) = s.size := IntWalk.u8_in _ (by omega)
    have hlit := own_lit1 w (UInt8.ofNat s.size)
    rw [show ((UInt8.ofNat s.size).toNat : Int) = s.size by rw [UInt8.toNat_ofNat']; omega] at hlit
    obtain ⟨v', w', r, o', gr⟩ := appS w.heap.size s hlit (by simp; omega) (by simp) 22
    have B4 := Lib.hid (((Below.refl w.heap.size w).alloc (Nat.le_refl _) (.cells #[.int .u8 s.size] 5)).trans (below_own hlit (by simp) gr))
    have O4 := Lib.hid o'
    clear hlit o' gr
    go_enter Tryd.func51, Tryd.ntmps51
    go_wp2_with (first | (at_builtin; refine wpList_append_run2 rfl _ _ 22 9 rfl rfl rfl r ?_) | fail)
    go_ret
    exact ⟨⟨_, rfl, by rw [T.out]; exact O4.out⟩, B4.out⟩
set_option maxRecDepth 100000 in
set_option maxHeartbeats 8000000 in
theorem id_any (c q : Int) (w : World) :
    Calls Tryd.prog 26 #[.agg #[.int .i64 c, .int .i64 q]] w fun e w' => (∃ v, e = .returned v ∧ OwnB w' w.heap.size v (numB c ++ numB q)) ∧ Below w.heap.size w w' := by
  have B1 := Lib.hid (show Below w.heap.size w (w.alloc (.cells #[.int .i64 c, .int .i64 q] 28)) from (Below.refl _ _).alloc (Nat.le_refl _) _)
  have hs : (w.alloc (.cells #[.int .i64 c, .int .i64 q] 28)).heap.size = w.heap.size + 1 := by simp
  have N := number_any _ [c, q] _ (Row.of_own (row_lit okI (w.alloc (.cells #[.int .i64 c, .int .i64 q] 28)) [c, q] 2 rfl (by simp) #[.int .i64 c, .int .i64 q] rfl)) (by simp)
  have B2 := Lib.hid (B1.out.trans ((((Below.refl _ (w.alloc (.cells #[.int .i64 c, .int .i64 q] 28))).alloc (Nat.le_refl _) (.cells #[.int .i64 c, .int .i64 q] 3))).mono B1.out.size))
  rw [hs] at N
  go_enter Tryd.func26, Tryd.ntmps26
  go_wp2_with fail
  refine N.mono ?_
  rintro e w' ⟨⟨v, rfl, ho⟩, hb⟩
  have B3 := Lib.hid (B2.out.trans (hb.mono B2.out.size))
  have O3 := Lib.hid (own_less (by have := B2.out.size; exact this) ho)
  clear hb ho N
  go_wp2_with fail
  go_ret
  exact ⟨⟨_, rfl, by have h := O3.out; rwa [show numsB [c, q] = numB c ++ numB q by simp [numsB]] at h⟩, B3.out⟩
end Go.Proofs.YtfcgfnmokbbcaaaDoor.Nm
