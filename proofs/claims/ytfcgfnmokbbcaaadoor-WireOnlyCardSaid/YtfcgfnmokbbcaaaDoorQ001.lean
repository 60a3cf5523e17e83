/-
  Numbers in memory, as lists. No program's function in it.
  Numbers as eight bytes, and back; what a reader of bytes takes. Plain mathematics: no program in it. No condition beyond what each theorem states.
-/
import Derived.Test.YtfcgfnmokbbcaaaDoorQ000
import Derived.IntWalk
namespace Go.Proofs.YtfcgfnmokbbcaaaDoor.Nm
open Go.RowKit Go.Proofs.YtfcgfnmokbbcaaaDoor Go.Proofs.YtfcgfnmokbbcaaaDoor.Rw

def EI : Ek Int := ⟨3, 37, 1, 8, .int .i64 0, fun n => .int .i64 n, fun n => [.int .i64 n]⟩
theorem infoI0 : (Tryd.prog.info? 3).map (fun i => (i.zero, i.size, i.bytes)) = some (some (.int .i64 0), 1, 8) := by kernel_rfl
theorem okI : EI.Ok where
  hu := Tryd.underlying37
  info := by
    have h := infoI0
    cases hi : Tryd.prog.info? 3 with
    | none => rw [hi] at h; cases h
    | some i =>
      rw [hi] at h
      simp only [Option.map_some, Option.some.injEq, Prod.mk.injEq] at h
      exact ⟨i, hi, h.1, h.2.1, h.2.2⟩
  zs := rfl
  len := fun _ => rfl
  one := fun x u hu => by
    simp only [EI, List.mem_cons, List.not_mem_nil, or_false] at hu
    rw [hu]
    rfl
  pos := by decide
  few := by decide
  load := fun w p x h => by
    have h0 := h 0 _ rfl
    rw [add_zero] at h0
    show (Instr.loadAt 3 (.pointer (some p))).run Tryd.prog w = .ok (.int .i64 x) w
    simp [go_sem, h0]
abbrev RowI (W : World) (v : Value) (l : List Int) : Prop := Row EI W v l
abbrev OwnI (W : World) (B : Nat) (v : Value) (l : List Int) : Prop := Own EI W B v l
theorem elI {W : World} {v : Value} {l : List Int} {ao : Option Addr} {n c k : Nat} {x : Int} (h : RowI W v l) (hv : v = .slice ao n c) (hn : l.length = n) (hk : l[k]? = some x) :
    ∃ p : Addr, (∀ w, (Instr.indexAt 37 (.slice ao n c) (.int .i64 k)).run Tryd.prog w = .ok (.pointer (some p)) w) ∧ p.block < W.heap.size ∧ ∀ w, Below W.heap.size W w → w.cell? p = some (.int .i64 x) := by
  obtain ⟨p, h1, h3, h2⟩ := row_el okI h hv hn hk
  exact ⟨p, h1, h3, fun w hw => by
    have h0 := h2 w hw 0 _ rfl
    rwa [add_zero] at h0⟩
theorem appI {w : World} (B : Nat) {v x : Value} {l m : List Int} (hown : OwnI w B v l) (hx : RowI w x m) (hn : l.length ≤ 1000) (hm : m.length ≤ 1000) (hB : B ≤ w.heap.size) :
    ∃ v' w', (Builtin.append_ #[37, 37] 37 #[v, x]).run Tryd.prog w = .ok v' w' ∧ OwnI w' B v' (l ++ m) ∧ w.grownBy w' v.ownBlock := app_row okI B hown hx hn hm hB 37
theorem row_oneI (w : World) (c : Int) : RowI (w.alloc (.cells #[.int .i64 c] 3)) (.slice (some ⟨w.heap.size, 0, none⟩) 1 1) [c] :=
  Row.of_own (row_lit okI w [c] 1 rfl (by simp) _ rfl)
theorem own_oneI (w : World) (c : Int) : OwnI (w.alloc (.cells #[.int .i64 c] 3)) w.heap.size (.slice (some ⟨w.heap.size, 0, none⟩) 1 1) [c] := row_lit okI w [c] 1 rfl (by simp) _ rfl
theorem flatI : ∀ l : List Int, flat EI l = l.map (fun n => .int .i64 n)
  | [] => rfl
  | x :: r => by
    show EI.cells x ++ flat EI r = _
    rw [flatI r]
    rfl
end Go.Proofs.YtfcgfnmokbbcaaaDoor.Nm

namespace Go.Proofs.YtfcgfnmokbbcaaaDoor.Nm

/-- One byte of a number, of the eight, the highest first. -/
def byteOf (n : Int) (k : Nat) : UInt8 := UInt8.ofNat ((n / 2 ^ (56 - 8 * k)) % 256).toNat
/-- A number's eight bytes. -/
def numB (n : Int) : List UInt8 := [byteOf n 0, byteOf n 1, byteOf n 2, byteOf n 3, byteOf n 4, byteOf n 5, byteOf n 6, byteOf n 7]
def numsB (ns : List Int) : List UInt8 := ns.flatMap numB
theorem numB_len (n : Int) : (numB n).length = 8 := rfl
theorem numsB_len : ∀ ns : List Int, (numsB ns).length = 8 * ns.length
  | [] => rfl
  | n :: r => by
    have h := numsB_len r
    unfold numsB at h ⊢
    rw [List.flatMap_cons, List.length_append, h, numB_len, List.length_cons]
    omega
theorem numsB_snoc (ns : List Int) (n : Int) : numsB (ns ++ [n]) = numsB ns ++ numB n := by unfold numsB; simp
theorem byteOf_nat (n : Int) (k : Nat) : ((byteOf n k).toNat : Int) = (n / 2 ^ (56 - 8 * k)) % 256 := by
  unfold byteOf
  have h1 := Int.emod_nonneg (n / 2 ^ (56 - 8 * k)) (show (256 : Int) ≠ 0 by decide)
  have h2 := Int.emod_lt_of_pos (n / 2 ^ (56 - 8 * k)) (show (0 : Int) < 256 by decide)
  rw [UInt8.toNat_ofNat']
  omega
theorem numB_take (n : Int) (k : Nat) (hk : k < 8) : (numB n).take (k + 1) = (numB n).take k ++ [byteOf n k] := by
  match k, hk with
  | 0, _ => rfl
  | 1, _ => rfl
  | 2, _ => rfl
  | 3, _ => rfl
  | 4, _ => rfl
  | 5, _ => rfl
  | 6, _ => rfl
  | 7, _ => rfl
/-- What the bytes say, without a sign. -/
def hor (l : List UInt8) : Int := l.foldl (fun h b => h * 256 + (b.toNat : Int)) 0
/-- What the bytes say. -/
def valN (l : List UInt8) : Int := IntKind.i64.wrap (hor l)
theorem hor_snoc (l : List UInt8) (b : UInt8) : hor (l ++ [b]) = hor l * 256 + (b.toNat : Int) := by unfold hor; simp
theorem wrap_emod (n : Int) : IntKind.i64.wrap n % 18446744073709551616 = n % 18446744073709551616 := by rw [IntKind.wrap_i64]; omega
theorem wrap_congr {a b : Int} (h : a % 18446744073709551616 = b % 18446744073709551616) : IntKind.i64.wrap a = IntKind.i64.wrap b := by rw [IntKind.wrap_i64, IntKind.wrap_i64]; omega
theorem wrap_bd (n : Int) : -9223372036854775808 ≤ IntKind.i64.wrap n ∧ IntKind.i64.wrap n ≤ 9223372036854775807 := by rw [IntKind.wrap_i64]; omega
theorem valN_bd (l : List UInt8) : -9223372036854775808 ≤ valN l ∧ valN l ≤ 9223372036854775807 := wrap_bd _
theorem valN_nil : valN [] = 0 := by decide
/-- One step of the reading: eight places up, and the next byte below. -/
theorem or_step (v : Int) (b : Nat) (hb : b < 256) : IntKind.i64.wrap (((BitVec.ofInt 64 (IntKind.i64.wrap (v * 256)) ||| BitVec.ofInt 64 (b : Int)).toNat : Nat) : Int) = IntKind.i64.wrap (v * 256 + b) := by
  apply wrap_congr
  have hA : ((BitVec.ofInt 64 (IntKind.i64.wrap (v * 256))).toNat : Int) = v * 256 % 18446744073709551616 := by
    rw [BitVec.toNat_ofInt]
    have h1 := Int.emod_nonneg (IntKind.i64.wrap (v * 256)) (show (18446744073709551616 : Int) ≠ 0 by decide)
    have h2 := wrap_emod (v * 256)
    have h3 : ((2 : Nat) ^ 64 : Nat) = 18446744073709551616 := by decide
    rw [h3]
    omega
  have hB : (BitVec.ofInt 64 (b : Int)).toNat = b := by
    rw [BitVec.toNat_ofInt]
    have h3 : ((2 : Nat) ^ 64 : Nat) = 18446744073709551616 := by decide
    rw [h3]
    omega
  rw [BitVec.toNat_or, hB]
  obtain ⟨q, hq⟩ : ∃ q, (BitVec.ofInt 64 (IntKind.i64.wrap (v * 256))).toNat = 2 ^ 8 * q := ⟨(BitVec.ofInt 64 (IntKind.i64.wrap (v * 256))).toNat / 256, by omega⟩
  rw [hq] at hA ⊢
  rw [← Nat.two_pow_add_eq_or_of_lt (show b < 2 ^ 8 from hb)]
  omega
theorem valN_snoc (l : List UInt8) (b : UInt8) : IntKind.i64.wrap (((BitVec.ofInt 64 (IntKind.i64.wrap (valN l * 256)) ||| BitVec.ofInt 64 (b.toNat : Int)).toNat : Nat) : Int) = valN (l ++ [b]) := by
  rw [or_step _ _ b.toNat_lt]
  unfold valN
  rw [hor_snoc]
  apply wrap_congr
  have h := wrap_emod (hor l)
  omega
theorem hor_num (n : Int) : hor (numB n) = n % 18446744073709551616 := by
  unfold hor numB
  simp only [List.foldl_cons, List.foldl_nil, byteOf_nat]
  simp only [Nat.mul_zero, Nat.sub_zero, Nat.mul_one, Nat.reduceMul, Nat.reduceSub, Int.reducePow, Int.zero_mul, Int.zero_add, Int.pow_zero, Int.ediv_one]
  omega
theorem valN_num (n : Int) (h1 : -9223372036854775808 ≤ n) (h2 : n ≤ 9223372036854775807) : valN (numB n) = n := by
  unfold valN
  rw [hor_num, IntKind.wrap_i64]
  omega
theorem hor_cons8 (a b c d e f g h : UInt8) : hor [a, b, c, d, e, f, g, h] = (((((((a.toNat : Int) * 256 + b.toNat) * 256 + c.toNat) * 256 + d.toNat) * 256 + e.toNat) * 256 + f.toNat) * 256 + g.toNat) * 256 + h.toNat := by
  unfold hor
  simp only [List.foldl_cons, List.foldl_nil, Int.zero_mul, Int.zero_add]
theorem up_div (x : Int) (b : UInt8) : (x * 256 + (b.toNat : Int)) / 256 = x := by
  have h := b.toNat_lt
  omega
theorem up_mod (x : Int) (b : UInt8) : (x * 256 + (b.toNat : Int)) % 256 = b.toNat := by
  have h := b.toNat_lt
  omega
theorem div_up (x : Int) (b : UInt8) (m : Int) : (x * 256 + (b.toNat : Int)) / (256 * m) = x / m := by
  rw [← Int.ediv_ediv_of_nonneg (show (0 : Int) ≤ 256 by decide), up_div]
theorem wrap_digit (h : Int) (k : Nat) (hk : k < 8) : (IntKind.i64.wrap h / 2 ^ (56 - 8 * k)) % 256 = (h / 2 ^ (56 - 8 * k)) % 256 := by
  rw [IntKind.wrap_i64]
  match k, hk with
  | 0, _ => simp only [Nat.mul_zero, Nat.sub_zero, Int.reducePow]; omega
  | 1, _ => simp only [Nat.mul_one, Nat.reduceSub, Int.reducePow]; omega
  | 2, _ => simp only [Nat.reduceMul, Nat.reduceSub, Int.reducePow]; omega
  | 3, _ => simp only [Nat.reduceMul, Nat.reduceSub, Int.reducePow]; omega
  | 4, _ => simp only [Nat.reduceMul, Nat.reduceSub, Int.reducePow]; omega
  | 5, _ => simp only [Nat.reduceMul, Nat.reduceSub, Int.reducePow]; omega
  | 6, _ => simp only [Nat.reduceMul, Nat.reduceSub, Int.reducePow]; omega
  | 7, _ => simp only [Nat.reduceMul, Nat.reduceSub, Int.pow_zero, Int.ediv_one]; omega
theorem byte_wrap (h : Int) (k : Nat) (hk : k < 8) (x : UInt8) (hx : (h / 2 ^ (56 - 8 * k)) % 256 = x.toNat) : byteOf (IntKind.i64.wrap h) k = x := by
  unfold byteOf
  rw [wrap_digit h k hk, hx]
  simp
theorem num_val (l : List UInt8) (h8 : l.length = 8) : numB (valN l) = l := by
  match l, h8 with
  | [a, b, c, d, e, f, g, h], _ =>
    have ha := a.toNat_lt
    unfold valN
    rw [hor_cons8]
    unfold numB
    rw [byte_wrap _ 7 (by decide) h ?_, byte_wrap _ 6 (by decide) g ?_, byte_wrap _ 5 (by decide) f ?_, byte_wrap _ 4 (by decide) e ?_, byte_wrap _ 3 (by decide) d ?_, byte_wrap _ 2 (by decide) c ?_, byte_wrap _ 1 (by decide) b ?_, byte_wrap _ 0 (by decide) a ?_]
    · rw [show (2 : Int) ^ (56 - 8 * 0) = 256 * (256 * (256 * (256 * (256 * (256 * 256))))) by decide, div_up, div_up, div_up, div_up, div_up, div_up, up_div]
      omega
    · rw [show (2 : Int) ^ (56 - 8 * 1) = 256 * (256 * (256 * (256 * (256 * 256)))) by decide, div_up, div_up, div_up, div_up, div_up, up_div, up_mod]
    · rw [show (2 : Int) ^ (56 - 8 * 2) = 256 * (256 * (256 * (256 * 256))) by decide, div_up, div_up, div_up, div_up, up_div, up_mod]
    · rw [show (2 : Int) ^ (56 - 8 * 3) = 256 * (256 * (256 * 256)) by decide, div_up, div_up, div_up, up_div, up_mod]
    · rw [show (2 : Int) ^ (56 - 8 * 4) = 256 * (256 * 256) by decide, div_up, div_up, up_div, up_mod]
    · rw [show (2 : Int) ^ (56 - 8 * 5) = 256 * 256 by decide, div_up, up_div, up_mod]
    · rw [show (2 : Int) ^ (56 - 8 * 6) = 256 by decide, up_div, up_mod]
    · rw [show (2 : Int) ^ (56 - 8 * 7) = 1 by decide, Int.ediv_one, up_mod]
  | [], h => cases h
  | [_], h => cases h
  | [_, _], h => cases h
  | [_, _, _], h => cases h
  | [_, _, _, _], h => cases h
  | [_, _, _, _, _], h => cases h
  | [_, _, _, _, _, _], h => cases h
  | [_, _, _, _, _, _, _], h => cases h
  | _ :: _ :: _ :: _ :: _ :: _ :: _ :: _ :: _ :: _, h => simp at h
theorem numB_inj {n m : Int} (hn1 : -9223372036854775808 ≤ n) (hn2 : n ≤ 9223372036854775807) (hm1 : -9223372036854775808 ≤ m) (hm2 : m ≤ 9223372036854775807) (h : numB n = numB m) : n = m := by
  rw [← valN_num n hn1 hn2, ← valN_num m hm1 hm2, h]

/-- A text's bytes: how many there are, and these; none, if one byte can't tell it. -/
def textB (s : ByteArray) : List UInt8 := if 255 < s.size then [] else UInt8.ofNat s.size :: s.data.toList
theorem size_data (s : ByteArray) : s.data.toList.length = s.size := by rw [Array.length_toList]; rfl
theorem textB_ok {s : ByteArray} (h : s.size ≤ 255) : textB s = UInt8.ofNat s.size :: s.data.toList := by unfold textB; rw [if_neg (by omega)]
theorem textB_no {s : ByteArray} (h : 255 < s.size) : textB s = [] := by unfold textB; rw [if_pos h]
/-- A reader: what is left, and whether something was asked in vain. -/
abbrev St := List UInt8 × Bool
def gone (n : Nat) (s : St) : Bool := s.2 || decide (s.1.length < n)
/-- Is it there whole? Then it, and what is left; else nothing, from now on. -/
def takeS (n : Nat) (s : St) : List UInt8 × St := if gone n s then ([], ([], true)) else (s.1.take n, (s.1.drop n, false))
def byteS (s : St) : UInt8 × St := ((takeS 1 s).1.headD 0, (takeS 1 s).2)
def numS (s : St) : Int × St := (valN (takeS 8 s).1, (takeS 8 s).2)
def textS (s : St) : ByteArray × St := (⟨(takeS (byteS s).1.toNat (byteS s).2).1.toArray⟩, (takeS (byteS s).1.toNat (byteS s).2).2)
def idS (s : St) : (Int × Int) × St := (if (numS (numS s).2).2.2 then (0, 0) else ((numS s).1, (numS (numS s).2).1), (numS (numS s).2).2)
def doneS (s : St) : Bool := !s.2 && s.1.isEmpty
theorem takeS_ok {n : Nat} {l : List UInt8} (h : n ≤ l.length) : takeS n (l, false) = (l.take n, (l.drop n, false)) := by
  unfold takeS gone
  rw [if_neg (by simp; omega)]
theorem takeS_short {n : Nat} {l : List UInt8} (b : Bool) (h : l.length < n) : takeS n (l, b) = ([], ([], true)) := by
  unfold takeS gone
  rw [if_pos (by simp [h])]
theorem takeS_bad (n : Nat) (l : List UInt8) : takeS n (l, true) = ([], ([], true)) := by
  unfold takeS gone
  simp
theorem takeS_app {n : Nat} {a l : List UInt8} (h : a.length = n) : takeS n (a ++ l, false) = (a, (l, false)) := by
  subst h
  rw [takeS_ok (by simp), List.take_left, List.drop_left]
theorem byteS_cons (c : UInt8) (l : List UInt8) : byteS (c :: l, false) = (c, (l, false)) := by
  unfold byteS
  rw [takeS_ok (by simp)]
  simp
theorem byteS_bad (l : List UInt8) : byteS (l, true) = (0, ([], true)) := by
  unfold byteS
  rw [takeS_bad]
  rfl
theorem byteS_nil (b : Bool) : byteS ([], b) = (0, ([], true)) := by
  unfold byteS
  rw [takeS_short b (by simp)]
  rfl
theorem numS_num {n : Int} (h1 : -9223372036854775808 ≤ n) (h2 : n ≤ 9223372036854775807) (l : List UInt8) : numS (numB n ++ l, false) = (n, (l, false)) := by
  unfold numS
  rw [takeS_app (numB_len n), valN_num n h1 h2]
theorem numS_bad (l : List UInt8) : numS (l, true) = (0, ([], true)) := by
  unfold numS
  rw [takeS_bad, valN_nil]
theorem numS_short {l : List UInt8} (b : Bool) (h : l.length < 8) : numS (l, b) = (0, ([], true)) := by
  unfold numS
  rw [takeS_short b h, valN_nil]
theorem textS_bad (l : List UInt8) : textS (l, true) = (⟨#[]⟩, ([], true)) := by
  unfold textS
  rw [byteS_bad, takeS_bad]
theorem textS_text {s : ByteArray} (h : s.size ≤ 255) (l : List UInt8) : textS (textB s ++ l, false) = (s, (l, false)) := by
  rw [textB_ok h]
  unfold textS
  rw [List.cons_append, byteS_cons]
  have e : (UInt8.ofNat s.size).toNat = s.size := by rw [UInt8.toNat_ofNat']; omega
  simp only [e]
  rw [takeS_app (size_data s)]
theorem textS_nil (b : Bool) : textS ([], b) = (⟨#[]⟩, ([], true)) := by
  unfold textS
  rw [byteS_nil, takeS_bad]
theorem idS_id {c q : Int} (h1 : -9223372036854775808 ≤ c) (h2 : c ≤ 9223372036854775807) (h3 : -9223372036854775808 ≤ q) (h4 : q ≤ 9223372036854775807) (l : List UInt8) : idS (numB c ++ (numB q ++ l), false) = ((c, q), (l, false)) := by
  unfold idS
  rw [numS_num h1 h2, numS_num h3 h4]
  rfl
theorem idS_bad (l : List UInt8) : idS (l, true) = ((0, 0), ([], true)) := by
  unfold idS
  rw [numS_bad, numS_bad]
  rfl
end Go.Proofs.YtfcgfnmokbbcaaaDoor.Nm
