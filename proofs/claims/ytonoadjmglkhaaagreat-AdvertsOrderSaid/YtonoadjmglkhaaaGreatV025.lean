/-
  Name and RightTuple of the statements' own package. Condition: lists and texts below a machine's length.
  Numbers as eight bytes, and back; what a reader of bytes takes. Plain mathematics: no program in it. No condition beyond what each theorem states.
  Messages: which are right, their bytes, and how they are read again. Mostly plain mathematics. No condition beyond what each theorem states.
-/
import Derived.Test.YtonoadjmglkhaaaGreatV024
import Derived.IntWalk
import Derived.Test.YtonoadjmglkhaaaGreatV007
namespace Go.Proofs.YtonoadjmglkhaaaGreat.At
open Go.RowKit Go.Sort Go.Proofs.YtonoadjmglkhaaaGreat.Va Go.Proofs.YtonoadjmglkhaaaGreat.In

/-- Is it a small letter? -/
def letB (c : UInt8) : Bool := decide (97 ≤ c.toNat) && decide (c.toNat ≤ 122)
/-- Is it a name? -/
def nameB (s : ByteArray) : Bool := s.data.toList.all letB && (decide (1 ≤ s.size) && decide (s.size ≤ 12))
theorem nameB_not (s : ByteArray) (k : Nat) (h : k < s.size) (hc : letB s[k] = false) : nameB s = false := by
  have : s.data.toList.all letB = false := by
    rw [List.all_eq_false]
    exact ⟨s[k], by rw [Array.mem_toList_iff]; exact Array.getElem_mem h, by rw [hc]; decide⟩
  simp [nameB, this]
theorem nameB_end (s : ByteArray) (h : ∀ (j : Nat) (hj : j < s.size), letB s[j] = true) : nameB s = (decide (1 ≤ s.size) && decide (s.size ≤ 12)) := by
  have : s.data.toList.all letB = true := by
    rw [List.all_eq_true]
    intro c hc
    obtain ⟨j, hj, rfl⟩ := List.getElem_of_mem hc
    exact h j (by rw [Array.length_toList] at hj; exact hj)
  simp [nameB, this]

def pairB (p x : A4) : Bool := Op.bytesLess p.1.toList x.1.toList
/-- Is the attribute at that place right, and behind the one ahead of it? -/
def goodB (l : List A4) (k : Nat) : Bool := match l[k]? with
  | some x => nameB x.1 && rightV x.2.1 x.2.2.1 x.2.2.2 && (k == 0 || (match l[k - 1]? with
    | some p => pairB p x
    | none => true))
  | none => true
/-- May it be published? -/
def rightT (l : List A4) : Bool := (List.range l.length).all (goodB l) && decide (l.length ≤ 5)
theorem rightT_not (l : List A4) (k : Nat) (h : k < l.length) (hg : goodB l k = false) : rightT l = false := by
  have : (List.range l.length).all (goodB l) = false := by
    rw [List.all_eq_false]
    exact ⟨k, List.mem_range.2 h, by rw [hg]; decide⟩
  simp [rightT, this]
theorem rightT_end (l : List A4) (h : ∀ j, j < l.length → goodB l j = true) : rightT l = decide (l.length ≤ 5) := by
  have : (List.range l.length).all (goodB l) = true := by
    rw [List.all_eq_true]
    exact fun j hj => h j (List.mem_range.1 hj)
  simp [rightT, this]
end Go.Proofs.YtonoadjmglkhaaaGreat.At

namespace Go.Proofs.YtonoadjmglkhaaaGreat.Nm

/-- One byte of a number, of the eight, the highest first. -/
def byteOf (n : Int) (k : Nat) : UInt8 := UInt8.ofNat ((n / 2 ^ (56 - 8 * k)) % 256).toNat
/-- A number's eight bytes. -/
def numB (n : Int) : List UInt8 := [byteOf n 0, byteOf n 1, byteOf n 2, byteOf n 3, byteOf n 4, byteOf n 5, byteOf n 6, byteOf n 7]
def numsB (ns : List Int) : List UInt8 := ns.flatMap numB
theorem numB_len (n : Int) : (numB n).length = 8 := rfl
theorem numsB_len : ∀ ns : List Int, (numsB ns).length = 8 * ns.length
  | [] => rfl
  | n :: r => by
    have h := numsB_len r
    unfold numsB at h ⊢
    rw [List.flatMap_cons, List.length_append, h, numB_len, List.length_cons]
    omega
theorem numsB_snoc (ns : List Int) (n : Int) : numsB (ns ++ [n]) = numsB ns ++ numB n := by unfold numsB; simp
theorem byteOf_nat (n : Int) (k : Nat) : ((byteOf n k).toNat : Int) = (n / 2 ^ (56 - 8 * k)) % 256 := by
  unfold byteOf
  have h1 := Int.emod_nonneg (n / 2 ^ (56 - 8 * k)) (show (256 : Int) ≠ 0 by decide)
  have h2 := Int.emod_lt_of_pos (n / 2 ^ (56 - 8 * k)) (show (0 : Int) < 256 by decide)
  rw [UInt8.toNat_ofNat']
  omega
theorem numB_take (n : Int) (k : Nat) (hk : k < 8) : (numB n).take (k + 1) = (numB n).take k ++ [byteOf n k] := by
  match k, hk with
  | 0, _ => rfl
  | 1, _ => rfl
  | 2, _ => rfl
  | 3, _ => rfl
  | 4, _ => rfl
  | 5, _ => rfl
  | 6, _ => rfl
  | 7, _ => rfl
/-- What the bytes say, without a sign. -/
def hor (l : List UInt8) : Int := l.foldl (fun h b => h * 256 + (b.toNat : Int)) 0
/-- What the bytes say. -/
def valN (l : List UInt8) : Int := IntKind.i64.wrap (hor l)
theorem hor_snoc (l : List UInt8) (b : UInt8) : hor (l ++ [b]) = hor l * 256 + (b.toNat : Int) := by unfold hor; simp
theorem wrap_emod (n : Int) : IntKind.i64.wrap n % 18446744073709551616 = n % 18446744073709551616 := by rw [IntKind.wrap_i64]; omega
theorem wrap_congr {a b : Int} (h : a % 18446744073709551616 = b % 18446744073709551616) : IntKind.i64.wrap a = IntKind.i64.wrap b := by rw [IntKind.wrap_i64, IntKind.wrap_i64]; omega
theorem wrap_bd (n : Int) : -9223372036854775808 ≤ IntKind.i64.wrap n ∧ IntKind.i64.wrap n ≤ 9223372036854775807 := by rw [IntKind.wrap_i64]; omega
theorem valN_bd (l : List UInt8) : -9223372036854775808 ≤ valN l ∧ valN l ≤ 9223372036854775807 := wrap_bd _
theorem valN_nil : valN [] = 0 := by decide
/-- One step of the reading: eight places up, and the next byte below. -/
theorem or_step (v : Int) (b : Nat) (hb : b < 256) : IntKind.i64.wrap (((BitVec.ofInt 64 (IntKind.i64.wrap (v * 256)) ||| BitVec.ofInt 64 (b : Int)).toNat : Nat) : Int) = IntKind.i64.wrap (v * 256 + b) := by
  apply wrap_congr
  have hA : ((BitVec.ofInt 64 (IntKind.i64.wrap (v * 256))).toNat : Int) = v * 256 % 18446744073709551616 := by
    rw [BitVec.toNat_ofInt]
    have h1 := Int.emod_nonneg (IntKind.i64.wrap (v * 256)) (show (18446744073709551616 : Int) ≠ 0 by decide)
    have h2 := wrap_emod (v * 256)
    have h3 : ((2 : Nat) ^ 64 : Nat) = 18446744073709551616 := by decide
    rw [h3]
    omega
  have hB : (BitVec.ofInt 64 (b : Int)).toNat = b := by
    rw [BitVec.toNat_ofInt]
    have h3 : ((2 : Nat) ^ 64 : Nat) = 18446744073709551616 := by decide
    rw [h3]
    omega
  rw [BitVec.toNat_or, hB]
  obtain ⟨q, hq⟩ : ∃ q, (BitVec.ofInt 64 (IntKind.i64.wrap (v * 256))).toNat = 2 ^ 8 * q := ⟨(BitVec.ofInt 64 (IntKind.i64.wrap (v * 256))).toNat / 256, by omega⟩
  rw [hq] at hA ⊢
  rw [← Nat.two_pow_add_eq_or_of_lt (show b < 2 ^ 8 from hb)]
  omega
theorem valN_snoc (l : List UInt8) (b : UInt8) : IntKind.i64.wrap (((BitVec.ofInt 64 (IntKind.i64.wrap (valN l * 256)) ||| BitVec.ofInt 64 (b.toNat : Int)).toNat : Nat) : Int) = valN (l ++ [b]) := by
  rw [or_step _ _ b.toNat_lt]
  unfold valN
  rw [hor_snoc]
  apply wrap_congr
  have h := wrap_emod (hor l)
  omega
theorem hor_num (n : Int) : hor (numB n) = n % 18446744073709551616 := by
  unfold hor numB
  simp only [List.foldl_cons, List.foldl_nil, byteOf_nat]
  simp only [Nat.mul_zero, Nat.sub_zero, Nat.mul_one, Nat.reduceMul, Nat.reduceSub, Int.reducePow, Int.zero_mul, Int.zero_add, Int.pow_zero, Int.ediv_one]
  omega
theorem valN_num (n : Int) (h1 : -9223372036854775808 ≤ n) (h2 : n ≤ 9223372036854775807) : valN (numB n) = n := by
  unfold valN
  rw [hor_num, IntKind.wrap_i64]
  omega
theorem hor_cons8 (a b c d e f g h : UInt8) : hor [a, b, c, d, e, f, g, h] = (((((((a.toNat : Int) * 256 + b.toNat) * 256 + c.toNat) * 256 + d.toNat) * 256 + e.toNat) * 256 + f.toNat) * 256 + g.toNat) * 256 + h.toNat := by
  unfold hor
  simp only [List.foldl_cons, List.foldl_nil, Int.zero_mul, Int.zero_add]
theorem up_div (x : Int) (b : UInt8) : (x * 256 + (b.toNat : Int)) / 256 = x := by
  have h := b.toNat_lt
  omega
theorem up_mod (x : Int) (b : UInt8) : (x * 256 + (b.toNat : Int)) % 256 = b.toNat := by
  have h := b.toNat_lt
  omega
theorem div_up (x : Int) (b : UInt8) (m : Int) : (x * 256 + (b.toNat : Int)) / (256 * m) = x / m := by
  rw [← Int.ediv_ediv_of_nonneg (show (0 : Int) ≤ 256 by decide), up_div]
theorem wrap_digit (h : Int) (k : Nat) (hk : k < 8) : (IntKind.i64.wrap h / 2 ^ (56 - 8 * k)) % 256 = (h / 2 ^ (56 - 8 * k)) % 256 := by
  rw [IntKind.wrap_i64]
  match k, hk with
  | 0, _ => simp only [Nat.mul_zero, Nat.sub_zero, Int.reducePow]; omega
  | 1, _ => simp only [Nat.mul_one, Nat.reduceSub, Int.reducePow]; omega
  | 2, _ => simp only [Nat.reduceMul, Nat.reduceSub, Int.reducePow]; omega
  | 3, _ => simp only [Nat.reduceMul, Nat.reduceSub, Int.reducePow]; omega
  | 4, _ => simp only [Nat.reduceMul, Nat.reduceSub, Int.reducePow]; omega
  | 5, _ => simp only [Nat.reduceMul, Nat.reduceSub, Int.reducePow]; omega
  | 6, _ => simp only [Nat.reduceMul, Nat.reduceSub, Int.reducePow]; omega
  | 7, _ => simp only [Nat.reduceMul, Nat.reduceSub, Int.pow_zero, Int.ediv_one]; omega
theorem byte_wrap (h : Int) (k : Nat) (hk : k < 8) (x : UInt8) (hx : (h / 2 ^ (56 - 8 * k)) % 256 = x.toNat) : byteOf (IntKind.i64.wrap h) k = x := by
  unfold byteOf
  rw [wrap_digit h k hk, hx]
  simp
theorem num_val (l : List UInt8) (h8 : l.length = 8) : numB (valN l) = l := by
  match l, h8 with
  | [a, b, c, d, e, f, g, h], _ =>
    have ha := a.toNat_lt
    unfold valN
    rw [hor_cons8]
    unfold numB
    rw [byte_wrap _ 7 (by decide) h ?_, byte_wrap _ 6 (by decide) g ?_, byte_wrap _ 5 (by decide) f ?_, byte_wrap _ 4 (by decide) e ?_, byte_wrap _ 3 (by decide) d ?_, byte_wrap _ 2 (by decide) c ?_, byte_wrap _ 1 (by decide) b ?_, byte_wrap _ 0 (by decide) a ?_]
    · rw [show (2 : Int) ^ (56 - 8 * 0) = 256 * (256 * (256 * (256 * (256 * (256 * 256))))) by decide, div_up, div_up, div_up, div_up, div_up, div_up, up_div]
      omega
    · rw [show (2 : Int) ^ (56 - 8 * 1) = 256 * (256 * (256 * (256 * (256 * 256)))) by decide, div_up, div_up, div_up, div_up, div_up, up_div, up_mod]
    · rw [show (2 : Int) ^ (56 - 8 * 2) = 256 * (256 * (256 * (256 * 256))) by decide, div_up, div_up, div_up, div_up, up_div, up_mod]
    · rw [show (2 : Int) ^ (56 - 8 * 3) = 256 * (256 * (256 * 256)) by decide, div_up, div_up, div_up, up_div, up_mod]
    · rw [show (2 : Int) ^ (56 - 8 * 4) = 256 * (256 * 256) by decide, div_up, div_up, up_div, up_mod]
    · rw [show (2 : Int) ^ (56 - 8 * 5) = 256 * 256 by decide, div_up, up_div, up_mod]
    · rw [show (2 : Int) ^ (56 - 8 * 6) = 256 by decide, up_div, up_mod]
    · rw [show (2 : Int) ^ (56 - 8 * 7) = 1 by decide, Int.ediv_one, up_mod]
  | [], h => cases h
  | [_], h => cases h
  | [_, _], h => cases h
  | [_, _, _], h => cases h
  | [_, _, _, _], h => cases h
  | [_, _, _, _, _], h => cases h
  | [_, _, _, _, _, _], h => cases h
  | [_, _, _, _, _, _, _], h => cases h
  | _ :: _ :: _ :: _ :: _ :: _ :: _ :: _ :: _ :: _, h => simp at h
theorem numB_inj {n m : Int} (hn1 : -9223372036854775808 ≤ n) (hn2 : n ≤ 9223372036854775807) (hm1 : -9223372036854775808 ≤ m) (hm2 : m ≤ 9223372036854775807) (h : numB n = numB m) : n = m := by
  rw [← valN_num n hn1 hn2, ← valN_num m hm1 hm2, h]

/-- A text's bytes: how many there are, and these; none, if one byte can't tell it. -/
def textB (s : ByteArray) : List UInt8 := if 255 < s.size then [] else UInt8.ofNat s.size :: s.data.toList
theorem size_data (s : ByteArray) : s.data.toList.length = s.size := by rw [Array.length_toList]; rfl
theorem textB_ok {s : ByteArray} (h : s.size ≤ 255) : textB s = UInt8.ofNat s.size :: s.data.toList := by unfold textB; rw [if_neg (by omega)]
theorem textB_no {s : ByteArray} (h : 255 < s.size) : textB s = [] := by unfold textB; rw [if_pos h]
/-- A reader: what is left, and whether something was asked in vain. -/
abbrev St := List UInt8 × Bool
def gone (n : Nat) (s : St) : Bool := s.2 || decide (s.1.length < n)
/-- Is it there whole? Then it, and what is left; else nothing, from now on. -/
def takeS (n : Nat) (s : St) : List UInt8 × St := if gone n s then ([], ([], true)) else (s.1.take n, (s.1.drop n, false))
def byteS (s : St) : UInt8 × St := ((takeS 1 s).1.headD 0, (takeS 1 s).2)
def numS (s : St) : Int × St := (valN (takeS 8 s).1, (takeS 8 s).2)
def textS (s : St) : ByteArray × St := (⟨(takeS (byteS s).1.toNat (byteS s).2).1.toArray⟩, (takeS (byteS s).1.toNat (byteS s).2).2)
def idS (s : St) : (Int × Int) × St := (if (numS (numS s).2).2.2 then (0, 0) else ((numS s).1, (numS (numS s).2).1), (numS (numS s).2).2)
def doneS (s : St) : Bool := !s.2 && s.1.isEmpty
theorem takeS_ok {n : Nat} {l : List UInt8} (h : n ≤ l.length) : takeS n (l, false) = (l.take n, (l.drop n, false)) := by
  unfold takeS gone
  rw [if_neg (by simp; omega)]
theorem takeS_short {n : Nat} {l : List UInt8} (b : Bool) (h : l.length < n) : takeS n (l, b) = ([], ([], true)) := by
  unfold takeS gone
  rw [if_pos (by simp [h])]
theorem takeS_bad (n : Nat) (l : List UInt8) : takeS n (l, true) = ([], ([], true)) := by
  unfold takeS gone
  simp
theorem takeS_app {n : Nat} {a l : List UInt8} (h : a.length = n) : takeS n (a ++ l, false) = (a, (l, false)) := by
  subst h
  rw [takeS_ok (by simp), List.take_left, List.drop_left]
theorem byteS_cons (c : UInt8) (l : List UInt8) : byteS (c :: l, false) = (c, (l, false)) := by
  unfold byteS
  rw [takeS_ok (by simp)]
  simp
theorem byteS_bad (l : List UInt8) : byteS (l, true) = (0, ([], true)) := by
  unfold byteS
  rw [takeS_bad]
  rfl
theorem byteS_nil (b : Bool) : byteS ([], b) = (0, ([], true)) := by
  unfold byteS
  rw [takeS_short b (by simp)]
  rfl
theorem numS_num {n : Int} (h1 : -9223372036854775808 ≤ n) (h2 : n ≤ 9223372036854775807) (l : List UInt8) : numS (numB n ++ l, false) = (n, (l, false)) := by
  unfold numS
  rw [takeS_app (numB_len n), valN_num n h1 h2]
theorem numS_bad (l : List UInt8) : numS (l, true) = (0, ([], true)) := by
  unfold numS
  rw [takeS_bad, valN_nil]
theorem numS_short {l : List UInt8} (b : Bool) (h : l.length < 8) : numS (l, b) = (0, ([], true)) := by
  unfold numS
  rw [takeS_short b h, valN_nil]
theorem textS_bad (l : List UInt8) : textS (l, true) = (⟨#[]⟩, ([], true)) := by
  unfold textS
  rw [byteS_bad, takeS_bad]
theorem textS_text {s : ByteArray} (h : s.size ≤ 255) (l : List UInt8) : textS (textB s ++ l, false) = (s, (l, false)) := by
  rw [textB_ok h]
  unfold textS
  rw [List.cons_append, byteS_cons]
  have e : (UInt8.ofNat s.size).toNat = s.size := by rw [UInt8.toNat_ofNat']; omega
  simp only [e]
  rw [takeS_app (size_data s)]
theorem textS_nil (b : Bool) : textS ([], b) = (⟨#[]⟩, ([], true)) := by
  unfold textS
  rw [byteS_nil, takeS_bad]
theorem idS_id {c q : Int} (h1 : -9223372036854775808 ≤ c) (h2 : c ≤ 9223372036854775807) (h3 : -9223372036854775808 ≤ q) (h4 : q ≤ 9223372036854775807) (l : List UInt8) : idS (numB c ++ (numB q ++ l), false) = ((c, q), (l, false)) := by
  unfold idS
  rw [numS_num h1 h2, numS_num h3 h4]
  rfl
theorem idS_bad (l : List UInt8) : idS (l, true) = ((0, 0), ([], true)) := by
  unfold idS
  rw [numS_bad, numS_bad]
  rfl
end Go.Proofs.YtonoadjmglkhaaaGreat.Nm

namespace Go.Proofs.YtonoadjmglkhaaaGreat.Wr
open Go.Proofs.YtonoadjmglkhaaaGreat Go.Proofs.YtonoadjmglkhaaaGreat.Nm Go.Proofs.YtonoadjmglkhaaaGreat.At Go.Proofs.YtonoadjmglkhaaaGreat.Pr

def I64 (n : Int) : Prop := -9223372036854775808 ≤ n ∧ n ≤ 9223372036854775807
/-- A message. -/
structure Mg where
  k : Int
  tc : Int
  ts : Int
  ic : Int
  is : Int
  p : List C5
  l : List A4
/-- May a constraint be? -/
def oneB (c : C5) : Bool := nameB c.1 && (if c.2.1 = 1 then decide (c.2.2.2.2.size = 0) && decide (c.2.2.1 ≤ c.2.2.2.1) else if c.2.1 = 2 then decide (c.2.2.1 = 0) && (decide (c.2.2.2.1 = 0) && decide (c.2.2.2.2.size ≤ 12)) else if c.2.1 = 3 then decide (c.2.2.1 = 0) && (decide (c.2.2.2.1 = 0) && decide (c.2.2.2.2.size ≤ 11)) else false)
def pairC (p x : C5) : Bool := Op.bytesLess p.1.toList x.1.toList
def goodP (l : List C5) (k : Nat) : Bool := match l[k]? with
  | some x => oneB x && (k == 0 || (match l[k - 1]? with
    | some p => pairC p x
    | none => true))
  | none => true
/-- May a predicate be? -/
def rightP (l : List C5) : Bool := (List.range l.length).all (goodP l) && decide (l.length ≤ 5)
theorem rightP_not (l : List C5) (k : Nat) (h : k < l.length) (hg : goodP l k = false) : rightP l = false := by
  unfold rightP
  rw [Bool.and_eq_false_iff]
  refine Or.inl (List.all_eq_false.2 ⟨k, List.mem_range.2 h, by rw [hg]; simp⟩)
theorem rightP_end (l : List C5) (h : ∀ j, j < l.length → goodP l j = true) : rightP l = decide (l.length ≤ 5) := by
  unfold rightP
  rw [List.all_eq_true.2 fun j hj => h j (List.mem_range.1 hj), Bool.true_and]
theorem rightP_one {l : List C5} (h : rightP l = true) : ∀ c ∈ l, oneB c = true := by
  intro c hc
  unfold rightP at h
  rw [Bool.and_eq_true] at h
  obtain ⟨i, hi, hic⟩ := List.mem_iff_getElem.1 hc
  have h1 := List.all_eq_true.1 h.1 i (List.mem_range.2 hi)
  unfold goodP at h1
  rw [List.getElem?_eq_getElem hi, hic] at h1
  simp only [Bool.and_eq_true] at h1
  exact h1.1
theorem rightP_len {l : List C5} (h : rightP l = true) : l.length ≤ 5 := by
  unfold rightP at h
  rw [Bool.and_eq_true] at h
  simpa using h.2
theorem rightT_len {l : List A4} (h : rightT l = true) : l.length ≤ 5 := by
  unfold rightT at h
  rw [Bool.and_eq_true] at h
  simpa using h.2
theorem rightT_one {l : List A4} (h : rightT l = true) : ∀ a ∈ l, nameB a.1 = true ∧ Va.rightV a.2.1 a.2.2.1 a.2.2.2 = true := by
  intro c hc
  unfold rightT at h
  rw [Bool.and_eq_true] at h
  obtain ⟨i, hi, hic⟩ := List.mem_iff_getElem.1 hc
  have h1 := List.all_eq_true.1 h.1 i (List.mem_range.2 hi)
  unfold goodB at h1
  rw [List.getElem?_eq_getElem hi, hic] at h1
  simp only [Bool.and_eq_true] at h1
  exact ⟨h1.1.1, h1.1.2⟩
def rightI (c s : Int) : Bool := decide (0 ≤ c) && (decide (c < 32) && decide (0 ≤ s))
/-- May a message be? -/
def rightM (m : Mg) : Bool := rightI m.tc m.ts && (
  if m.k = 1 then decide (m.ic = 0) && (decide (m.is = 0) && (rightP m.p && m.l.isEmpty))
  else if m.k = 2 then decide (m.ic = 0) && (decide (m.is = 0) && (m.p.isEmpty && m.l.isEmpty))
  else if m.k = 3 then rightI m.ic m.is && (rightP m.p && m.l.isEmpty)
  else if m.k = 4 then rightI m.ic m.is && (m.p.isEmpty && m.l.isEmpty)
  else if m.k = 5 then rightI m.ic m.is && (m.p.isEmpty && rightT m.l)
  else false)
/-- All its numbers are of 64 bits. -/
structure M64 (m : Mg) : Prop where
  k : I64 m.k
  tc : I64 m.tc
  ts : I64 m.ts
  ic : I64 m.ic
  is : I64 m.is
  p : ∀ c ∈ m.p, I64 c.2.1 ∧ I64 c.2.2.1 ∧ I64 c.2.2.2.1
  l : ∀ a ∈ m.l, I64 a.2.2.1
/-- A constraint's bytes. -/
def conB (c : C5) : List UInt8 := textB c.1 ++ (UInt8.ofNat c.2.1.toNat :: (if c.2.1 = 1 then numB c.2.2.1 ++ numB c.2.2.2.1 else textB c.2.2.2.2))
/-- An attribute's bytes. -/
def attB (a : A4) : List UInt8 := textB a.1 ++ (if a.2.1 then 1 :: textB a.2.2.2 else 0 :: numB a.2.2.1)
def idB (k c s : Int) : List UInt8 := if 3 ≤ k then numB c ++ numB s else []
def predsB (k : Int) (p : List C5) : List UInt8 := if k = 1 ∨ k = 3 then UInt8.ofNat p.length :: p.flatMap conB else []
def attrsB (k : Int) (l : List A4) : List UInt8 := if k = 5 then UInt8.ofNat l.length :: l.flatMap attB else []
/-- A message's bytes. -/
def bytesM (m : Mg) : List UInt8 := UInt8.ofNat m.k.toNat :: ((numB m.tc ++ numB m.ts) ++ (idB m.k m.ic m.is ++ (predsB m.k m.p ++ attrsB m.k m.l)))
/-- How they are read. -/
def readC (s : St) : C5 × St :=
  let a := textS s
  let b := byteS a.2
  if b.1 = 1 then
    let x := numS b.2
    let y := numS x.2
    ((a.1, 1, x.1, y.1, ⟨#[]⟩), y.2)
  else
    let t := textS b.2
    ((a.1, b.1.toNat, 0, 0, t.1), t.2)
def readA (s : St) : A4 × St :=
  let a := textS s
  let b := byteS a.2
  if b.1 = 1 then
    let t := textS b.2
    ((a.1, true, 0, t.1), t.2)
  else
    let x := numS b.2
    ((a.1, false, x.1, ⟨#[]⟩), x.2)
def readL {α : Type} (f : St → α × St) : Nat → St → List α × St
  | 0, s => ([], s)
  | n + 1, s => ((f s).1 :: (readL f n (f s).2).1, (readL f n (f s).2).2)
theorem readL_ok {α : Type} (f : St → α × St) (g : α → List UInt8) : ∀ (l : List α) (r : List UInt8), (∀ x ∈ l, ∀ r, f (g x ++ r, false) = (x, (r, false))) → readL f l.length (l.flatMap g ++ r, false) = (l, (r, false))
  | [], r, _ => rfl
  | x :: l, r, h => by
    have h1 := h x (List.mem_cons_self ..)
    have h2 := readL_ok f g l r (fun y hy => h y (List.mem_cons_of_mem _ hy))
    rw [List.flatMap_cons, List.append_assoc, List.length_cons]
    simp only [readL, h1, h2]
theorem nameB_size {s : ByteArray} (h : nameB s = true) : 1 ≤ s.size ∧ s.size ≤ 12 := by
  unfold nameB at h
  simp only [Bool.and_eq_true, decide_eq_true_eq] at h
  exact h.2
theorem empty_of_size {s : ByteArray} (h : s.size = 0) : s = ⟨#[]⟩ := by
  obtain ⟨⟨l⟩⟩ := s
  have h1 : l.length = 0 := h
  rw [List.length_eq_zero_iff.1 h1]
theorem byte_small (n : Nat) (h : n < 256) : (UInt8.ofNat n).toNat = n := by rw [UInt8.toNat_ofNat']; omega
theorem readC_ok (c : C5) (hc : oneB c = true) (hl : I64 c.2.2.1) (hh : I64 c.2.2.2.1) (r : List UInt8) : readC (conB c ++ r, false) = (c, (r, false)) := by
  obtain ⟨nm, k, lo, hi, t⟩ := c
  unfold oneB at hc
  simp only [Bool.and_eq_true] at hc
  obtain ⟨hn, hc⟩ := hc
  have hs := nameB_size hn
  unfold conB readC
  rw [List.append_assoc]
  simp only at hc hl hh ⊢
  by_cases h1 : k = 1
  · subst h1
    rw [if_pos rfl] at hc ⊢
    simp only [Bool.and_eq_true, decide_eq_true_eq] at hc
    obtain rfl := empty_of_size hc.1
    rw [textS_text (show nm.size ≤ 255 by omega), List.cons_append, List.append_assoc]
    simp only [byteS_cons, show UInt8.ofNat (Int.toNat 1) = 1 from rfl, if_true, numS_num hl.1 hl.2, numS_num hh.1 hh.2]
  · rw [if_neg h1] at hc ⊢
    have h23 : (k = 2 ∨ k = 3) ∧ lo = 0 ∧ hi = 0 ∧ t.size ≤ 12 := by
      by_cases h2 : k = 2
      · rw [if_pos h2] at hc
        simp only [Bool.and_eq_true, decide_eq_true_eq] at hc
        exact ⟨Or.inl h2, hc.1, hc.2.1, hc.2.2⟩
      · rw [if_neg h2] at hc
        by_cases h3 : k = 3
        · rw [if_pos h3] at hc
          simp only [Bool.and_eq_true, decide_eq_true_eq] at hc
          exact ⟨Or.inr h3, hc.1, hc.2.1, by have := hc.2.2; omega⟩
        · rw [if_neg h3] at hc
          cases hc
    obtain ⟨hk, rfl, rfl, ht⟩ := h23
    rw [textS_text (show nm.size ≤ 255 by omega), List.cons_append]
    have hb : UInt8.ofNat k.toNat ≠ 1 := by rcases hk with rfl | rfl <;> decide
    have hb2 : ((UInt8.ofNat k.toNat).toNat : Int) = k := by rcases hk with rfl | rfl <;> decide
    simp only [byteS_cons, if_neg hb, textS_text (show t.size ≤ 255 by omega), hb2]
theorem readA_ok (a : A4) (hn : nameB a.1 = true) (hv : Va.rightV a.2.1 a.2.2.1 a.2.2.2 = true) (h64 : I64 a.2.2.1) (r : List UInt8) : readA (attB a ++ r, false) = (a, (r, false)) := by
  obtain ⟨nm, b, n, t⟩ := a
  have hs := nameB_size hn
  unfold attB readA
  rw [List.append_assoc]
  simp only at hv h64 hs ⊢
  cases b
  · have ht : t = ⟨#[]⟩ := by
      unfold Va.rightV at hv
      simp only [Bool.false_eq_true, if_false] at hv
      apply empty_of_size
      rw [← size_data, show t.data.toList = t.toList from (ByteArray.toList_eq t).symm]
      simpa using hv
    subst ht
    simp only [Bool.false_eq_true, if_false]
    rw [textS_text (show nm.size ≤ 255 by omega), List.cons_append]
    simp only [byteS_cons, show ¬ (0 : UInt8) = 1 by decide, if_false, numS_num h64.1 h64.2]
  · unfold Va.rightV at hv
    simp only [if_true, Bool.and_eq_true, decide_eq_true_eq] at hv
    obtain ⟨rfl, ht⟩ := hv
    simp only [if_true]
    rw [textS_text (show nm.size ≤ 255 by omega), List.cons_append]
    simp only [byteS_cons, if_true, textS_text (show t.size ≤ 255 by omega)]
def readM (s : St) : Mg × St :=
  let a := byteS s
  let t := idS a.2
  let i := if 3 ≤ (a.1.toNat : Int) then idS t.2 else ((0, 0), t.2)
  let p := if (a.1.toNat : Int) = 1 ∨ (a.1.toNat : Int) = 3 then readL readC (byteS i.2).1.toNat (byteS i.2).2 else ([], i.2)
  let l := if (a.1.toNat : Int) = 5 then readL readA (byteS p.2).1.toNat (byteS p.2).2 else ([], p.2)
  (⟨a.1.toNat, t.1.1, t.1.2, i.1.1, i.1.2, p.1, l.1⟩, l.2)
/-- What a right message is. -/
structure RightIs (m : Mg) : Prop where
  kind : m.k = 1 ∨ m.k = 2 ∨ m.k = 3 ∨ m.k = 4 ∨ m.k = 5
  tree : rightI m.tc m.ts = true
  id : 3 ≤ m.k → rightI m.ic m.is = true
  noid : m.k < 3 → m.ic = 0 ∧ m.is = 0
  pred : m.k = 1 ∨ m.k = 3 → rightP m.p = true
  nopred : ¬ (m.k = 1 ∨ m.k = 3) → m.p = []
  attrs : m.k = 5 → rightT m.l = true
  noattrs : m.k ≠ 5 → m.l = []
theorem rightM_is {m : Mg} (h : rightM m = true) : RightIs m := by
  unfold rightM at h
  rw [Bool.and_eq_true] at h
  obtain ⟨ht, h⟩ := h
  by_cases h1 : m.k = 1
  · rw [if_pos h1] at h
    simp only [Bool.and_eq_true, decide_eq_true_eq, List.isEmpty_iff] at h
    exact ⟨Or.inl h1, ht, fun h => by omega, fun _ => ⟨h.1, h.2.1⟩, fun _ => h.2.2.1, fun h => absurd (Or.inl h1) h, fun h => by omega, fun _ => h.2.2.2⟩
  rw [if_neg h1] at h
  by_cases h2 : m.k = 2
  · rw [if_pos h2] at h
    simp only [Bool.and_eq_true, decide_eq_true_eq, List.isEmpty_iff] at h
    exact ⟨Or.inr (Or.inl h2), ht, fun h => by omega, fun _ => ⟨h.1, h.2.1⟩, fun h => by omega, fun _ => h.2.2.1, fun h => by omega, fun _ => h.2.2.2⟩
  rw [if_neg h2] at h
  by_cases h3 : m.k = 3
  · rw [if_pos h3] at h
    simp only [Bool.and_eq_true, List.isEmpty_iff] at h
    exact ⟨Or.inr (Or.inr (Or.inl h3)), ht, fun _ => h.1, fun h => by omega, fun _ => h.2.1, fun h => absurd (Or.inr h3) h, fun h => by omega, fun _ => h.2.2⟩
  rw [if_neg h3] at h
  by_cases h4 : m.k = 4
  · rw [if_pos h4] at h
    simp only [Bool.and_eq_true, List.isEmpty_iff] at h
    exact ⟨Or.inr (Or.inr (Or.inr (Or.inl h4))), ht, fun _ => h.1, fun h => by omega, fun h => by omega, fun _ => h.2.1, fun h => by omega, fun _ => h.2.2⟩
  rw [if_neg h4] at h
  by_cases h5 : m.k = 5
  · rw [if_pos h5] at h
    simp only [Bool.and_eq_true, List.isEmpty_iff] at h
    exact ⟨Or.inr (Or.inr (Or.inr (Or.inr h5))), ht, fun _ => h.1, fun h => by omega, fun h => by omega, fun _ => h.2.1, fun _ => h.2.2, fun h => absurd h5 h⟩
  · rw [if_neg h5] at h
    cases h
theorem readM_ok {m : Mg} (h : rightM m = true) (w : M64 m) (r : List UInt8) : readM (bytesM m ++ r, false) = (m, (r, false)) := by
  have R := rightM_is h
  have hk : ((UInt8.ofNat m.k.toNat).toNat : Int) = m.k := by rw [UInt8.toNat_ofNat']; have := R.kind; omega
  have e1 : bytesM m ++ r = UInt8.ofNat m.k.toNat :: (numB m.tc ++ (numB m.ts ++ (idB m.k m.ic m.is ++ (predsB m.k m.p ++ (attrsB m.k m.l ++ r))))) := by
    unfold bytesM
    simp [List.append_assoc]
  rw [e1]
  have e2 : (if 3 ≤ m.k then idS (idB m.k m.ic m.is ++ (predsB m.k m.p ++ (attrsB m.k m.l ++ r)), false) else ((0, 0), (idB m.k m.ic m.is ++ (predsB m.k m.p ++ (attrsB m.k m.l ++ r)), false))) = ((m.ic, m.is), (predsB m.k m.p ++ (attrsB m.k m.l ++ r), false)) := by
    unfold idB
    by_cases h3 : 3 ≤ m.k
    · rw [if_pos h3, if_pos h3, List.append_assoc, idS_id w.ic.1 w.ic.2 w.is.1 w.is.2]
    · rw [if_neg h3, if_neg h3]
      obtain ⟨e1, e2⟩ := R.noid (by omega)
      rw [e1, e2]
      rfl
  have e3 : (if m.k = 1 ∨ m.k = 3 then readL readC (byteS (predsB m.k m.p ++ (attrsB m.k m.l ++ r), false)).1.toNat (byteS (predsB m.k m.p ++ (attrsB m.k m.l ++ r), false)).2 else ([], (predsB m.k m.p ++ (attrsB m.k m.l ++ r), false))) = (m.p, (attrsB m.k m.l ++ r, false)) := by
    unfold predsB
    by_cases h3 : m.k = 1 ∨ m.k = 3
    · have hp := R.pred h3
      have hl := rightP_len hp
      rw [if_pos h3, if_pos h3, List.cons_append, byteS_cons]
      simp only [byte_small m.p.length (by omega)]
      exact readL_ok readC conB m.p _ fun c hc r => readC_ok c (rightP_one hp c hc) (w.p c hc).2.1 (w.p c hc).2.2 r
    · rw [if_neg h3, if_neg h3, R.nopred h3]
      rfl
  have e4 : (if m.k = 5 then readL readA (byteS (attrsB m.k m.l ++ r, false)).1.toNat (byteS (attrsB m.k m.l ++ r, false)).2 else ([], (attrsB m.k m.l ++ r, false))) = (m.l, (r, false)) := by
    unfold attrsB
    by_cases h3 : m.k = 5
    · have hp := R.attrs h3
      have hl := rightT_len hp
      rw [if_pos h3, if_pos h3, List.cons_append, byteS_cons]
      simp only [byte_small m.l.length (by omega)]
      exact readL_ok readA attB m.l _ fun c hc r => readA_ok c (rightT_one hp c hc).1 (rightT_one hp c hc).2 (w.l c hc) r
    · rw [if_neg h3, if_neg h3, R.noattrs h3]
      rfl
  unfold readM
  simp only [byteS_cons, hk, idS_id w.tc.1 w.tc.2 w.ts.1 w.ts.2, e2, e3, e4]
/-- No message is another one's beginning. -/
theorem bytes_pre {m m' : Mg} (h : rightM m = true) (w : M64 m) (h' : rightM m' = true) (w' : M64 m') {r : List UInt8} (e : bytesM m' = bytesM m ++ r) : m' = m ∧ r = [] := by
  have h1 := readM_ok h w r
  have h2 := readM_ok h' w' []
  rw [List.append_nil, e, h1] at h2
  simp only [Prod.mk.injEq] at h2
  exact ⟨h2.1.symm, h2.2.1⟩
theorem bytes_inj {m m' : Mg} (h : rightM m = true) (w : M64 m) (h' : rightM m' = true) (w' : M64 m') (e : bytesM m' = bytesM m) : m' = m := (bytes_pre h w h' w' (r := []) (by rw [List.append_nil]; exact e)).1
theorem conB_len {c : C5} (h : oneB c = true) : (conB c).length ≤ 30 := by
  unfold oneB at h
  simp only [Bool.and_eq_true] at h
  have hs := nameB_size h.1
  unfold conB
  rw [List.length_append, textB_ok (by omega), List.length_cons, size_data, List.length_cons]
  split
  · rw [List.length_append, numB_len, numB_len]; omega
  · rename_i h1
    have ht : c.2.2.2.2.size ≤ 12 := by
      have h2 := h.2
      rw [if_neg h1] at h2
      split at h2
      · simp only [Bool.and_eq_true, decide_eq_true_eq] at h2
        exact h2.2.2
      · split at h2
        · simp only [Bool.and_eq_true, decide_eq_true_eq] at h2
          omega
        · cases h2
    rw [textB_ok (by omega), List.length_cons, size_data]
    omega
theorem attB_len {a : A4} (hn : nameB a.1 = true) (hv : Va.rightV a.2.1 a.2.2.1 a.2.2.2 = true) : (attB a).length ≤ 30 := by
  have hs := nameB_size hn
  unfold attB
  rw [List.length_append, textB_ok (by omega), List.length_cons, size_data]
  split
  · rename_i h1
    unfold Va.rightV at hv
    rw [h1] at hv
    simp only [if_true, Bool.and_eq_true, decide_eq_true_eq] at hv
    rw [List.length_cons, textB_ok (by omega), List.length_cons, size_data]
    omega
  · rw [List.length_cons, numB_len]; omega
theorem flat_len {α : Type} (g : α → List UInt8) (n : Nat) : ∀ l : List α, (∀ x ∈ l, (g x).length ≤ n) → (l.flatMap g).length ≤ n * l.length
  | [], _ => by simp
  | x :: l, h => by
    have h1 := h x (List.mem_cons_self ..)
    have h2 := flat_len g n l fun y hy => h y (List.mem_cons_of_mem _ hy)
    rw [List.flatMap_cons, List.length_append, List.length_cons, Nat.mul_add]
    omega
/-- No right message has more than 185 bytes, none fewer than 17. -/
theorem bytesM_len {m : Mg} (h : rightM m = true) : 17 ≤ (bytesM m).length ∧ (bytesM m).length ≤ 185 := by
  have R := rightM_is h
  have h1 : (idB m.k m.ic m.is).length ≤ 16 := by
    unfold idB
    split
    · rw [List.length_append, numB_len, numB_len]; omega
    · simp
  have h2 : (predsB m.k m.p).length + (attrsB m.k m.l).length ≤ 151 := by
    unfold predsB attrsB
    by_cases hp : m.k = 1 ∨ m.k = 3
    · rw [if_pos hp, if_neg (by omega), List.length_cons]
      have hr := R.pred hp
      have := flat_len conB 30 m.p fun c hc => conB_len (rightP_one hr c hc)
      have := rightP_len hr
      rw [List.length_nil]
      omega
    · rw [if_neg hp]
      by_cases ha : m.k = 5
      · rw [if_pos ha, List.length_cons]
        have hr := R.attrs ha
        have := flat_len attB 30 m.l fun c hc => attB_len (rightT_one hr c hc).1 (rightT_one hr c hc).2
        have := rightT_len hr
        rw [List.length_nil]
        omega
      · rw [if_neg ha]
        simp
  unfold bytesM
  rw [List.length_cons, List.length_append, List.length_append, List.length_append, List.length_append, numB_len, numB_len]
  omega
end Go.Proofs.YtonoadjmglkhaaaGreat.Wr
