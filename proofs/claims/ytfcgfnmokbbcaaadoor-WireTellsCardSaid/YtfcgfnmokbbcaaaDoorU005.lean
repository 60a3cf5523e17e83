/-
  Numbers as eight bytes, and back; what a reader of bytes takes. Plain mathematics: no program in it. No condition beyond what each theorem states.
  Number of package num: eight bytes of each number, the highest first. Conditions: at most 1000 numbers of 64 bits.
-/
import Derived.IntWalk
import Derived.Test.YtfcgfnmokbbcaaaDoorU004
import Derived.WalkKit
import Derived.ProofKit
import Derived.Lib.Hide
import Derived.Lib.QuietBelow
import Derived.BigQuiet
namespace Go.Proofs.YtfcgfnmokbbcaaaDoor.Nm

/-- One byte of a number, of the eight, the highest first. -/
def byteOf (n : Int) (k : Nat) : UInt8 := UInt8.ofNat ((n / 2 ^ (56 - 8 * k)) % 256).toNat
/-- A number's eight bytes. -/
def numB (n : Int) : List UInt8 := [byteOf n 0, byteOf n 1, byteOf n 2, byteOf n 3, byteOf n 4, byteOf n 5, byteOf n 6, byteOf n 7]
def numsB (ns : List Int) : List UInt8 := ns.flatMap numB
theorem numB_len (n : Int) : (numB n).length = 8 := rfl
theorem numsB_len : ∀ ns : List Int, (numsB ns).length = 8 * ns.length
  | [] => rfl
  | n :: r => by
    have h := numsB_len r
    unfold numsB at h ⊢
    rw [List.flatMap_cons, List.length_append, h, numB_len, List.length_cons]
    omega
theorem numsB_snoc (ns : List Int) (n : Int) : numsB (ns ++ [n]) = numsB ns ++ numB n := by unfold numsB; simp
theorem byteOf_nat (n : Int) (k : Nat) : ((byteOf n k).toNat : Int) = (n / 2 ^ (56 - 8 * k)) % 256 := by
  unfold byteOf
  have h1 := Int.emod_nonneg (n / 2 ^ (56 - 8 * k)) (show (256 : Int) ≠ 0 by decide)
  have h2 := Int.emod_lt_of_pos (n / 2 ^ (56 - 8 * k)) (show (0 : Int) < 256 by decide)
  rw [UInt8.toNat_ofNat']
  omega
theorem numB_take (n : Int) (k : Nat) (hk : k < 8) : (numB n).take (k + 1) = (numB n).take k ++ [byteOf n k] := by
  match k, hk with
  | 0, _ => rfl
  | 1, _ => rfl
  | 2, _ => rfl
  | 3, _ => rfl
  | 4, _ => rfl
  | 5, _ => rfl
  | 6, _ => rfl
  | 7, _ => rfl
/-- What the bytes say, without a sign. -/
def hor (l : List UInt8) : Int := l.foldl (fun h b => h * 256 + (b.toNat : Int)) 0
/-- What the bytes say. -/
def valN (l : List UInt8) : Int := IntKind.i64.wrap (hor l)
theorem hor_snoc (l : List UInt8) (b : UInt8) : hor (l ++ [b]) = hor l * 256 + (b.toNat : Int) := by unfold hor; simp
theorem wrap_emod (n : Int) : IntKind.i64.wrap n % 18446744073709551616 = n % 18446744073709551616 := by rw [IntKind.wrap_i64]; omega
theorem wrap_congr {a b : Int} (h : a % 18446744073709551616 = b % 18446744073709551616) : IntKind.i64.wrap a = IntKind.i64.wrap b := by rw [IntKind.wrap_i64, IntKind.wrap_i64]; omega
theorem wrap_bd (n : Int) : -9223372036854775808 ≤ IntKind.i64.wrap n ∧ IntKind.i64.wrap n ≤ 9223372036854775807 := by rw [IntKind.wrap_i64]; omega
theorem valN_bd (l : List UInt8) : -9223372036854775808 ≤ valN l ∧ valN l ≤ 9223372036854775807 := wrap_bd _
theorem valN_nil : valN [] = 0 := by decide
/-- One step of the reading: eight places up, and the next byte below. -/
theorem or_step (v : Int) (b : Nat) (hb : b < 256) : IntKind.i64.wrap (((BitVec.ofInt 64 (IntKind.i64.wrap (v * 256)) ||| BitVec.ofInt 64 (b : Int)).toNat : Nat) : Int) = IntKind.i64.wrap (v * 256 + b) := by
  apply wrap_congr
  have hA : ((BitVec.ofInt 64 (IntKind.i64.wrap (v * 256))).toNat : Int) = v * 256 % 18446744073709551616 := by
    rw [BitVec.toNat_ofInt]
    have h1 := Int.emod_nonneg (IntKind.i64.wrap (v * 256)) (show (18446744073709551616 : Int) ≠ 0 by decide)
    have h2 := wrap_emod (v * 256)
    have h3 : ((2 : Nat) ^ 64 : Nat) = 18446744073709551616 := by decide
    rw [h3]
    omega
  have hB : (BitVec.ofInt 64 (b : Int)).toNat = b := by
    rw [BitVec.toNat_ofInt]
    have h3 : ((2 : Nat) ^ 64 : Nat) = 18446744073709551616 := by decide
    rw [h3]
    omega
  rw [BitVec.toNat_or, hB]
  obtain ⟨q, hq⟩ : ∃ q, (BitVec.ofInt 64 (IntKind.i64.wrap (v * 256))).toNat = 2 ^ 8 * q := ⟨(BitVec.ofInt 64 (IntKind.i64.wrap (v * 256))).toNat / 256, by omega⟩
  rw [hq] at hA ⊢
  rw [← Nat.two_pow_add_eq_or_of_lt (show b < 2 ^ 8 from hb)]
  omega
theorem valN_snoc (l : List UInt8) (b : UInt8) : IntKind.i64.wrap (((BitVec.ofInt 64 (IntKind.i64.wrap (valN l * 256)) ||| BitVec.ofInt 64 (b.toNat : Int)).toNat : Nat) : Int) = valN (l ++ [b]) := by
  rw [or_step _ _ b.toNat_lt]
  unfold valN
  rw [hor_snoc]
  apply wrap_congr
  have h := wrap_emod (hor l)
  omega
theorem hor_num (n : Int) : hor (numB n) = n % 18446744073709551616 := by
  unfold hor numB
  simp only [List.foldl_cons, List.foldl_nil, byteOf_nat]
  simp only [Nat.mul_zero, Nat.sub_zero, Nat.mul_one, Nat.reduceMul, Nat.reduceSub, Int.reducePow, Int.zero_mul, Int.zero_add, Int.pow_zero, Int.ediv_one]
  omega
theorem valN_num (n : Int) (h1 : -9223372036854775808 ≤ n) (h2 : n ≤ 9223372036854775807) : valN (numB n) = n := by
  unfold valN
  rw [hor_num, IntKind.wrap_i64]
  omega
theorem hor_cons8 (a b c d e f g h : UInt8) : hor [a, b, c, d, e, f, g, h] = (((((((a.toNat : Int) * 256 + b.toNat) * 256 + c.toNat) * 256 + d.toNat) * 256 + e.toNat) * 256 + f.toNat) * 256 + g.toNat) * 256 + h.toNat := by
  unfold hor
  simp only [List.foldl_cons, List.foldl_nil, Int.zero_mul, Int.zero_add]
theorem up_div (x : Int) (b : UInt8) : (x * 256 + (b.toNat : Int)) / 256 = x := by
  have h := b.toNat_lt
  omega
theorem up_mod (x : Int) (b : UInt8) : (x * 256 + (b.toNat : Int)) % 256 = b.toNat := by
  have h := b.toNat_lt
  omega
theorem div_up (x : Int) (b : UInt8) (m : Int) : (x * 256 + (b.toNat : Int)) / (256 * m) = x / m := by
  rw [← Int.ediv_ediv_of_nonneg (show (0 : Int) ≤ 256 by decide), up_div]
theorem wrap_digit (h : Int) (k : Nat) (hk : k < 8) : (IntKind.i64.wrap h / 2 ^ (56 - 8 * k)) % 256 = (h / 2 ^ (56 - 8 * k)) % 256 := by
  rw [IntKind.wrap_i64]
  match k, hk with
  | 0, _ => simp only [Nat.mul_zero, Nat.sub_zero, Int.reducePow]; omega
  | 1, _ => simp only [Nat.mul_one, Nat.reduceSub, Int.reducePow]; omega
  | 2, _ => simp only [Nat.reduceMul, Nat.reduceSub, Int.reducePow]; omega
  | 3, _ => simp only [Nat.reduceMul, Nat.reduceSub, Int.reducePow]; omega
  | 4, _ => simp only [Nat.reduceMul, Nat.reduceSub, Int.reducePow]; omega
  | 5, _ => simp only [Nat.reduceMul, Nat.reduceSub, Int.reducePow]; omega
  | 6, _ => simp only [Nat.reduceMul, Nat.reduceSub, Int.reducePow]; omega
  | 7, _ => simp only [Nat.reduceMul, Nat.reduceSub, Int.pow_zero, Int.ediv_one]; omega
theorem byte_wrap (h : Int) (k : Nat) (hk : k < 8) (x : UInt8) (hx : (h / 2 ^ (56 - 8 * k)) % 256 = x.toNat) : byteOf (IntKind.i64.wrap h) k = x := by
  unfold byteOf
  rw [wrap_digit h k hk, hx]
  simp
theorem num_val (l : List UInt8) (h8 : l.length = 8) : numB (valN l) = l := by
  match l, h8 with
  | [a, b, c, d, e, f, g, h], _ =>
    have ha := a.toNat_lt
    unfold valN
    rw [hor_cons8]
    unfold numB
    rw [byte_wrap _ 7 (by decide) h ?_, byte_wrap _ 6 (by decide) g ?_, byte_wrap _ 5 (by decide) f ?_, byte_wrap _ 4 (by decide) e ?_, byte_wrap _ 3 (by decide) d ?_, byte_wrap _ 2 (by decide) c ?_, byte_wrap _ 1 (by decide) b ?_, byte_wrap _ 0 (by decide) a ?_]
    · rw [show (2 : Int) ^ (56 - 8 * 0) = 256 * (256 * (256 * (256 * (256 * (256 * 256))))) by decide, div_up, div_up, div_up, div_up, div_up, div_up, up_div]
      omega
    · rw [show (2 : Int) ^ (56 - 8 * 1) = 256 * (256 * (256 * (256 * (256 * 256)))) by decide, div_up, div_up, div_up, div_up, div_up, up_div, up_mod]
    · rw [show (2 : Int) ^ (56 - 8 * 2) = 256 * (256 * (256 * (256 * 256))) by decide, div_up, div_up, div_up, div_up, up_div, up_mod]
    · rw [show (2 : Int) ^ (56 - 8 * 3) = 256 * (256 * (256 * 256)) by decide, div_up, div_up, div_up, up_div, up_mod]
    · rw [show (2 : Int) ^ (56 - 8 * 4) = 256 * (256 * 256) by decide, div_up, div_up, up_div, up_mod]
    · rw [show (2 : Int) ^ (56 - 8 * 5) = 256 * 256 by decide, div_up, up_div, up_mod]
    · rw [show (2 : Int) ^ (56 - 8 * 6) = 256 by decide, up_div, up_mod]
    · rw [show (2 : Int) ^ (56 - 8 * 7) = 1 by decide, Int.ediv_one, up_mod]
  | [], h => cases h
  | [_], h => cases h
  | [_, _], h => cases h
  | [_, _, _], h => cases h
  | [_, _, _, _], h => cases h
  | [_, _, _, _, _], h => cases h
  | [_, _, _, _, _, _], h => cases h
  | [_, _, _, _, _, _, _], h => cases h
  | _ :: _ :: _ :: _ :: _ :: _ :: _ :: _ :: _ :: _, h => simp at h
theorem numB_inj {n m : Int} (hn1 : -9223372036854775808 ≤ n) (hn2 : n ≤ 9223372036854775807) (hm1 : -9223372036854775808 ≤ m) (hm2 : m ≤ 9223372036854775807) (h : numB n = numB m) : n = m := by
  rw [← valN_num n hn1 hn2, ← valN_num m hm1 hm2, h]

/-- A text's bytes: how many there are, and these; none, if one byte can't tell it. -/
def textB (s : ByteArray) : List UInt8 := if 255 < s.size then [] else UInt8.ofNat s.size :: s.data.toList
theorem size_data (s : ByteArray) : s.data.toList.length = s.size := by rw [Array.length_toList]; rfl
theorem textB_ok {s : ByteArray} (h : s.size ≤ 255) : textB s = UInt8.ofNat s.size :: s.data.toList := by unfold textB; rw [if_neg (by omega)]
theorem textB_no {s : ByteArray} (h : 255 < s.size) : textB s = [] := by unfold textB; rw [if_pos h]
/-- A reader: what is left, and whether something was asked in vain. -/
abbrev St := List UInt8 × Bool
def gone (n : Nat) (s : St) : Bool := s.2 || decide (s.1.length < n)
/-- Is it there whole? Then it, and what is left; else nothing, from now on. -/
def takeS (n : Nat) (s : St) : List UInt8 × St := if gone n s then ([], ([], true)) else (s.1.take n, (s.1.drop n, false))
def byteS (s : St) : UInt8 × St := ((takeS 1 s).1.headD 0, (takeS 1 s).2)
def numS (s : St) : Int × St := (valN (takeS 8 s).1, (takeS 8 s).2)
def textS (s : St) : ByteArray × St := (⟨(takeS (byteS s).1.toNat (byteS s).2).1.toArray⟩, (takeS (byteS s).1.toNat (byteS s).2).2)
def idS (s : St) : (Int × Int) × St := (if (numS (numS s).2).2.2 then (0, 0) else ((numS s).1, (numS (numS s).2).1), (numS (numS s).2).2)
def doneS (s : St) : Bool := !s.2 && s.1.isEmpty
theorem takeS_ok {n : Nat} {l : List UInt8} (h : n ≤ l.length) : takeS n (l, false) = (l.take n, (l.drop n, false)) := by
  unfold takeS gone
  rw [if_neg (by simp; omega)]
theorem takeS_short {n : Nat} {l : List UInt8} (b : Bool) (h : l.length < n) : takeS n (l, b) = ([], ([], true)) := by
  unfold takeS gone
  rw [if_pos (by simp [h])]
theorem takeS_bad (n : Nat) (l : List UInt8) : takeS n (l, true) = ([], ([], true)) := by
  unfold takeS gone
  simp
theorem takeS_app {n : Nat} {a l : List UInt8} (h : a.length = n) : takeS n (a ++ l, false) = (a, (l, false)) := by
  subst h
  rw [takeS_ok (by simp), List.take_left, List.drop_left]
theorem byteS_cons (c : UInt8) (l : List UInt8) : byteS (c :: l, false) = (c, (l, false)) := by
  unfold byteS
  rw [takeS_ok (by simp)]
  simp
theorem byteS_bad (l : List UInt8) : byteS (l, true) = (0, ([], true)) := by
  unfold byteS
  rw [takeS_bad]
  rfl
theorem byteS_nil (b : Bool) : byteS ([], b) = (0, ([], true)) := by
  unfold byteS
  rw [takeS_short b (by simp)]
  rfl
theorem numS_num {n : Int} (h1 : -9223372036854775808 ≤ n) (h2 : n ≤ 9223372036854775807) (l : List UInt8) : numS (numB n ++ l, false) = (n, (l, false)) := by
  unfold numS
  rw [takeS_app (numB_len n), valN_num n h1 h2]
theorem numS_bad (l : List UInt8) : numS (l, true) = (0, ([], true)) := by
  unfold numS
  rw [takeS_bad, valN_nil]
theorem numS_short {l : List UInt8} (b : Bool) (h : l.length < 8) : numS (l, b) = (0, ([], true)) := by
  unfold numS
  rw [takeS_short b h, valN_nil]
theorem textS_bad (l : List UInt8) : textS (l, true) = (⟨#[]⟩, ([], true)) := by
  unfold textS
  rw [byteS_bad, takeS_bad]
theorem textS_text {s : ByteArray} (h : s.size ≤ 255) (l : List UInt8) : textS (textB s ++ l, false) = (s, (l, false)) := by
  rw [textB_ok h]
  unfold textS
  rw [List.cons_append, byteS_cons]
  have e : (UInt8.ofNat s.size).toNat = s.size := by rw [UInt8.toNat_ofNat']; omega
  simp only [e]
  rw [takeS_app (size_data s)]
theorem textS_nil (b : Bool) : textS ([], b) = (⟨#[]⟩, ([], true)) := by
  unfold textS
  rw [byteS_nil, takeS_bad]
theorem idS_id {c q : Int} (h1 : -9223372036854775808 ≤ c) (h2 : c ≤ 9223372036854775807) (h3 : -9223372036854775808 ≤ q) (h4 : q ≤ 9223372036854775807) (l : List UInt8) : idS (numB c ++ (numB q ++ l), false) = ((c, q), (l, false)) := by
  unfold idS
  rw [numS_num h1 h2, numS_num h3 h4]
  rfl
theorem idS_bad (l : List UInt8) : idS (l, true) = ((0, 0), ([], true)) := by
  unfold idS
  rw [numS_bad, numS_bad]
  rfl
end Go.Proofs.YtfcgfnmokbbcaaaDoor.Nm

namespace Go.Proofs.YtfcgfnmokbbcaaaDoor.Nm
open Go.RowKit Go.Proofs.YtfcgfnmokbbcaaaDoor Go.Proofs.YtfcgfnmokbbcaaaDoor.Rw

theorem below_own {α : Type} {w w' : World} {B : Nat} {E : Ek α} {v : Value} {l : List α} (h : Own E w B v l) (hB : B ≤ w.heap.size) (hg : w.grownBy w' v.ownBlock) : Below B w w' := (Below.refl B w).grown hg hB (fun j hj => (h.lt j hj).1)
theorem makeB (w : World) (B c : Nat) (hc : c ≤ 1000000) (hB : B ≤ w.heap.size) :
    ∃ w', (Instr.makeSlice 22 (.int .i64 0) (.int .i64 (c : Int))).run Tryd.prog w = .ok (.slice (some ⟨w.heap.size, 0, none⟩) 0 c) w' ∧ OwnB w' B (.slice (some ⟨w.heap.size, 0, none⟩) 0 c) [] ∧ w.grownBy w' none := by
  obtain ⟨i, i1, i2, i3, i4⟩ := infoB
  exact run_make_own (P := Tryd.prog) w B 22 5 i _ 1 Tryd.underlying22 i1 i2 i3 .i64 .i64 c (by rw [i4]; omega) (by unfold maxLen; omega) hB
theorem own_lit1 (w : World) (x : UInt8) : OwnB (w.alloc (.cells #[.int .u8 x.toNat] 5)) w.heap.size (.slice (some ⟨w.heap.size, 0, none⟩) 1 1) [x] := row_lit okB w [x] 1 rfl (by simp) _ rfl

set_option maxRecDepth 100000 in
set_option maxHeartbeats 8000000 in
theorem number_any (nv : Value) (ns : List Int) (w : World) (hn : RowI w nv ns) (h1000 : ns.length ≤ 1000) :
    Calls Tryd.prog 50 #[nv] w fun e w' => (∃ v, e = .returned v ∧ OwnB w' w.heap.size v (numsB ns)) ∧ Below w.heap.size w w' := by
  have HN := Lib.hid hn
  obtain ⟨ao, ac, rfl⟩ := hn.len
  obtain ⟨m, hm⟩ : ∃ m, m = ns.length := ⟨_, rfl⟩
  have HM := Lib.hid hm
  rw [← hm] at HN h1000 ⊢
  clear hn hm
  obtain ⟨w1, mk, o1, g1⟩ := makeB w w.heap.size (8 * m) (by omega) (Nat.le_refl _)
  rw [show ((8 * m : Nat) : Int) = 8 * (m : Int) by omega] at mk
  have B1 := Lib.hid ((Below.refl w.heap.size w).grown g1 (Nat.le_refl _) (fun j hj => by cases hj))
  have O1 := Lib.hid o1
  clear o1 g1
  go_enter Tryd.func50, Tryd.ntmps50
  go_wp2
  go_loopw [3, 13] (fun v i wr => ∃ k : Nat, k ≤ m ∧ i = .int .i64 k ∧ Below w.heap.size w wr ∧ OwnB wr w.heap.size v (numsB (ns.take k))) (fun _ i _ => m - (intOf i).toNat)
  case atStart => exact ⟨0, Nat.zero_le _, rfl, B1.out, O1.out⟩
  case round =>
    obtain ⟨k, hk, rfl, hb, how⟩ := hrel
    have HB := Lib.hid hb
    have HO := Lib.hid how
    clear hb how
    by_cases hlt : k < m
    · obtain ⟨x, hx⟩ : ∃ x, ns[k]? = some x := ⟨_, List.getElem?_eq_getElem (by rw [← HM.out]; exact hlt)⟩
      obtain ⟨p, ix, _, px⟩ := elI HN.out rfl HM.out.symm hx
      have p0 := px _ HB.out
      have TK := Lib.hid (show numsB (ns.take (k + 1)) = numsB (ns.take k) ++ numB x by rw [List.take_add_one, hx]; exact numsB_snoc _ _)
      have HL := Lib.hid (show (numsB (ns.take k)).length ≤ 8 * k by rw [numsB_len]; simp; omega)
      clear px hx
      generalize numsB (ns.take k) = s at *
      go_wp2
      go_loopw [3, 6] (fun v i wr2 => ∃ j : Nat, j ≤ 8 ∧ i = .int .i64 (56 - 8 * (j : Int)) ∧ Below w.heap.size w wr2 ∧ OwnB wr2 w.heap.size v (s ++ (numB x).take j)) (fun _ i _ => (intOf i + 8).toNat)
      case atStart => exact ⟨0, Nat.zero_le _, rfl, HB.out, by simpa using HO.out⟩
      case round =>
        obtain ⟨j, hj, rfl, hb2, how2⟩ := hrel
        have HB2 := Lib.hid hb2
        have HO2 := Lib.hid how2
        clear hb2 how2
        by_cases hlt8 : j < 8
        · have hge : (8 : Int) * (j : Int) ≤ 56 := by omega
          have hlit := own_lit1 wr (byteOf x j)
          rw [byteOf_nat] at hlit
          have ho3 := own_on HO2.out ((Below.refl _ _).alloc (Nat.le_refl _) (.cells #[.int .u8 (x / 2 ^ (56 - 8 * j) % 256)] 5))
          have hl3 : (s ++ (numB x).take j).length + [byteOf x j].length ≤ 1000000000 := by
            have h1 := HL.out
            have h2 : ((numB x).take j).length ≤ 8 := by simp [numB_len]; omega
            rw [List.length_append]
            simp
            omega
          have hb3 := HB2.out.size
          obtain ⟨v', w', r, o', gr⟩ := appB w.heap.size ho3 (Row.of_own hlit) hl3 (by simp; omega) 22
          have TN := Lib.hid (show s ++ (numB x).take (j + 1) = s ++ (numB x).take j ++ [byteOf x j] by rw [numB_take x j hlt8, List.append_assoc])
          have B4 := Lib.hid (HB2.out.trans (((Below.refl w.heap.size wr).alloc hb3 (.cells #[.int .u8 (x / 2 ^ (56 - 8 * j) % 256)] 5)).trans (below_own ho3 (by simp; omega) gr)))
          have O4 := Lib.hid o'
          clear hlit ho3 hl3 o' gr
          go_wp2_with (first | (at_builtin; refine wpList_append_run rfl _ _ 22 rfl rfl rfl r ?_) | fail)
          go_roundw
          case rel => exact ⟨j + 1, by omega, by go_num, B4.out, by rw [TN.out]; exact O4.out⟩
          case measure => simp [intOf]; omega
        · obtain rfl : j = 8 := by omega
          go_wp2
          go_roundw
          case rel => exact ⟨k + 1, by omega, by go_num, HB2.out, by rw [TK.out]; exact HO2.out⟩
          case measure => simp [intOf]; omega
    · obtain rfl : k = m := by omega
      rw [List.take_of_length_le (by rw [HM.out]; exact Nat.le_refl _)] at HO
      go_wp2
      go_ret
      exact ⟨⟨_, rfl, HO.out⟩, HB.out⟩
end Go.Proofs.YtfcgfnmokbbcaaaDoor.Nm
