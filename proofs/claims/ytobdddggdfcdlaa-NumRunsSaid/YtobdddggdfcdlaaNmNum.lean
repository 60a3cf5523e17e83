/-
  Number of package num: eight bytes of each number, the highest first. Conditions: at most 1000 numbers of 64 bits.
-/
import Derived.Test.YtobdddggdfcdlaaNmBase
import Derived.Test.YtobdddggdfcdlaaNmInts
import Derived.Test.YtobdddggdfcdlaaNmPure
import Derived.WalkKit
import Derived.ProofKit
import Derived.Lib.Hide
import Derived.Lib.QuietBelow
import Derived.BigQuiet
import Derived.IntWalk
namespace Go.Proofs.Ytobdddggdfcdlaa.Nm
open Go.RowKit Go.Proofs.Ytobdddggdfcdlaa Go.Proofs.Ytobdddggdfcdlaa.Rw

theorem below_own {α : Type} {w w' : World} {B : Nat} {E : Ek α} {v : Value} {l : List α} (h : Own E w B v l) (hB : B ≤ w.heap.size) (hg : w.grownBy w' v.ownBlock) : Below B w w' := (Below.refl B w).grown hg hB (fun j hj => (h.lt j hj).1)
theorem makeB (w : World) (B c : Nat) (hc : c ≤ 1000000) (hB : B ≤ w.heap.size) :
    ∃ w', (Instr.makeSlice 24 (.int .i64 0) (.int .i64 (c : Int))).run Try.prog w = .ok (.slice (some ⟨w.heap.size, 0, none⟩) 0 c) w' ∧ OwnB w' B (.slice (some ⟨w.heap.size, 0, none⟩) 0 c) [] ∧ w.grownBy w' none := by
  obtain ⟨i, i1, i2, i3, i4⟩ := infoB
  exact run_make_own (P := Try.prog) w B 24 5 i _ 1 Try.underlying24 i1 i2 i3 .i64 .i64 c (by rw [i4]; omega) (by unfold maxLen; omega) hB
theorem own_lit1 (w : World) (x : UInt8) : OwnB (w.alloc (.cells #[.int .u8 x.toNat] 5)) w.heap.size (.slice (some ⟨w.heap.size, 0, none⟩) 1 1) [x] := row_lit okB w [x] 1 rfl (by simp) _ rfl

set_option maxRecDepth 100000 in
set_option maxHeartbeats 8000000 in
theorem number_any (nv : Value) (ns : List Int) (w : World) (hn : RowI w nv ns) (h1000 : ns.length ≤ 1000) :
    Calls Try.prog 11 #[nv] w fun e w' => (∃ v, e = .returned v ∧ OwnB w' w.heap.size v (numsB ns)) ∧ Below w.heap.size w w' := by
  have HN := Lib.hid hn
  obtain ⟨ao, ac, rfl⟩ := hn.len
  obtain ⟨m, hm⟩ : ∃ m, m = ns.length := ⟨_, rfl⟩
  have HM := Lib.hid hm
  rw [← hm] at HN h1000 ⊢
  clear hn hm
  obtain ⟨w1, mk, o1, g1⟩ := makeB w w.heap.size (8 * m) (by omega) (Nat.le_refl _)
  rw [show ((8 * m : Nat) : Int) = 8 * (m : Int) by omega] at mk
  have B1 := Lib.hid ((Below.refl w.heap.size w).grown g1 (Nat.le_refl _) (fun j hj => by cases hj))
  have O1 := Lib.hid o1
  clear o1 g1
  go_enter Try.func11, Try.ntmps11
  go_wp2
  go_loopw [3, 13] (fun v i wr => ∃ k : Nat, k ≤ m ∧ i = .int .i64 k ∧ Below w.heap.size w wr ∧ OwnB wr w.heap.size v (numsB (ns.take k))) (fun _ i _ => m - (intOf i).toNat)
  case atStart => exact ⟨0, Nat.zero_le _, rfl, B1.out, O1.out⟩
  case round =>
    obtain ⟨k, hk, rfl, hb, how⟩ := hrel
    have HB := Lib.hid hb
    have HO := Lib.hid how
    clear hb how
    by_cases hlt : k < m
    · obtain ⟨x, hx⟩ : ∃ x, ns[k]? = some x := ⟨_, List.getElem?_eq_getElem (by rw [← HM.out]; exact hlt)⟩
      obtain ⟨p, ix, _, px⟩ := elI HN.out rfl HM.out.symm hx
      have p0 := px _ HB.out
      have TK := Lib.hid (show numsB (ns.take (k + 1)) = numsB (ns.take k) ++ numB x by rw [List.take_add_one, hx]; exact numsB_snoc _ _)
      have HL := Lib.hid (show (numsB (ns.take k)).length ≤ 8 * k by rw [numsB_len]; simp; omega)
      clear px hx
      generalize numsB (ns.take k) = s at *
      go_wp2
      go_loopw [3, 6] (fun v i wr2 => ∃ j : Nat, j ≤ 8 ∧ i = .int .i64 (56 - 8 * (j : Int)) ∧ Below w.heap.size w wr2 ∧ OwnB wr2 w.heap.size v (s ++ (numB x).take j)) (fun _ i _ => (intOf i + 8).toNat)
      case atStart => exact ⟨0, Nat.zero_le _, rfl, HB.out, by simpa using HO.out⟩
      case round =>
        obtain ⟨j, hj, rfl, hb2, how2⟩ := hrel
        have HB2 := Lib.hid hb2
        have HO2 := Lib.hid how2
        clear hb2 how2
        by_cases hlt8 : j < 8
        · have hge : (8 : Int) * (j : Int) ≤ 56 := by omega
          have hlit := own_lit1 wr (byteOf x j)
          rw [byteOf_nat] at hlit
          have ho3 := own_on HO2.out ((Below.refl _ _).alloc (Nat.le_refl _) (.cells #[.int .u8 (x / 2 ^ (56 - 8 * j) % 256)] 5))
          have hl3 : (s ++ (numB x).take j).length + [byteOf x j].length ≤ 1000000000 := by
            have h1 := HL.out
            have h2 : ((numB x).take j).length ≤ 8 := by simp [numB_len]; omega
            rw [List.length_append]
            simp
            omega
          have hb3 := HB2.out.size
          obtain ⟨v', w', r, o', gr⟩ := appB w.heap.size ho3 (Row.of_own hlit) hl3 (by simp; omega) 24
          have TN := Lib.hid (show s ++ (numB x).take (j + 1) = s ++ (numB x).take j ++ [byteOf x j] by rw [numB_take x j hlt8, List.append_assoc])
          have B4 := Lib.hid (HB2.out.trans (((Below.refl w.heap.size wr).alloc hb3 (.cells #[.int .u8 (x / 2 ^ (56 - 8 * j) % 256)] 5)).trans (below_own ho3 (by simp; omega) gr)))
          have O4 := Lib.hid o'
          clear hlit ho3 hl3 o' gr
          go_wp2_with (first | (at_builtin; refine wpList_append_run rfl _ _ 24 rfl rfl rfl r ?_) | fail)
          go_roundw
          case rel => exact ⟨j + 1, by omega, by go_num, B4.out, by rw [TN.out]; exact O4.out⟩
          case measure => simp [intOf]; omega
        · obtain rfl : j = 8 := by omega
          go_wp2
          go_roundw
          case rel => exact ⟨k + 1, by omega, by go_num, HB2.out, by rw [TK.out]; exact HO2.out⟩
          case measure => simp [intOf]; omega
    · obtain rfl : k = m := by omega
      rw [List.take_of_length_le (by rw [HM.out]; exact Nat.le_refl _)] at HO
      go_wp2
      go_ret
      exact ⟨⟨_, rfl, HO.out⟩, HB.out⟩
end Go.Proofs.Ytobdddggdfcdlaa.Nm
