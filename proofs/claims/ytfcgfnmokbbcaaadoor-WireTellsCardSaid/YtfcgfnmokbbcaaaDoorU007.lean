/-
  Text and ID of package num's Reader. No condition beyond the Reader's own.
  Within of the statements' own package: a number brought into bounds. Condition: bounds up to a million; numbers of 64 bits.
-/
import Derived.Test.YtfcgfnmokbbcaaaDoorU006
import Derived.Test.YtfcgfnmokbbcaaaDoorProg
import Derived.WalkKit
import Derived.Lib.Hide
namespace Go.Proofs.YtfcgfnmokbbcaaaDoor.Nm
open Go.RowKit Go.Proofs.YtfcgfnmokbbcaaaDoor Go.Proofs.YtfcgfnmokbbcaaaDoor.Rw

set_option maxRecDepth 100000 in
set_option maxHeartbeats 8000000 in
theorem rtext_any (rb : Nat) (s : St) (w : World) (h : Rd w rb s) :
    Calls Tryd.prog 80 #[.pointer (some ⟨rb, 0, none⟩)] w fun e w' => e = .returned (.string (textS s).1) ∧ Rd w' rb (textS s).2 ∧ w.grownBy w' (some rb) := by
  have T := Lib.hid (byte_any rb s w h)
  clear h
  go_enter Tryd.func80, Tryd.ntmps80
  go_wp2_with fail
  refine T.out.mono ?_
  rintro e w1 ⟨rfl, hd, hg⟩
  have HG := Lib.hid hg
  have U := Lib.hid (take_any rb (byteS s).1.toNat (byteS s).2 w1 hd)
  have F := Lib.hid (show textS s = (⟨(takeS (byteS s).1.toNat (byteS s).2).1.toArray⟩, (takeS (byteS s).1.toNat (byteS s).2).2) from rfl)
  clear T hd hg
  have hlt := (byteS s).1.toNat_lt
  generalize (byteS s).1.toNat = n at *
  generalize (byteS s).2 = s1 at *
  have hwr : IntKind.i64.wrap (n : Int) = n := IntWalk.i64_in _ (by omega)
  go_wp2_with fail
  refine U.out.mono ?_
  rintro e w2 ⟨⟨v, rfl, hr⟩, hd, hg⟩
  have HD := Lib.hid hd
  have HG2 := Lib.hid (grown_more HG.out hg)
  obtain ⟨b, hb⟩ : ∃ b, (!gone n s1) = b := ⟨_, rfl⟩
  rw [hb]
  have cv := conv_row hr
  generalize (takeS n s1).1 = l at *
  generalize (takeS n s1).2 = s2 at *
  clear hd hg hr hb U hwr
  go_wp2_with fail
  go_ret
  exact ⟨by rw [F.out]; rfl, by rw [F.out]; exact HD.out, HG2.out⟩
/-- A write to another block, which holds no bytes. -/
theorem Rd.other {W : World} {rb h k : Nat} {s : St} (hr : Rd W rb s) {cs : Array Value} {t : TypeId} (hb : Box W h cs t) (hcs : ∀ (j : Nat) (n : Int), cs[j]? ≠ some (.int .u8 n)) (hne : h ≠ rb) (x : Value) : Rd (W.setCell ⟨h, k, none⟩ x) rb s := by
  obtain ⟨lv, h1, h2, h3⟩ := hr
  refine ⟨lv, ?_, row_apart hb hcs h2 fun j _ hj => RowKit.Below.heap_setCell _ _ _ _ hj, h3⟩
  exact (RowKit.Below.heap_setCell _ _ _ _ (fun e => hne e.symm)).trans h1
theorem grown_new {W W1 : World} {r : Option Nat} (h1 : W.grownBy W1 r) (k : Nat) (x : Value) (h : Nat) (hh : W.heap.size ≤ h) : W.grownBy (W1.setCell ⟨h, k, none⟩ x) r :=
  ⟨h1.os, h1.tape, h1.output, by have := h1.size; simpa [World.setCell] using this, fun j hj hne => (RowKit.Below.heap_setCell _ _ _ _ (fun e => by simp at e; omega)).trans (h1.block j hj hne)⟩
theorem two_ints (a b : Int) : ∀ (j : Nat) (n : Int), (#[.int .i64 a, .int .i64 b] : Array Value)[j]? ≠ some (.int .u8 n) := by
  intro j n h
  match j with
  | 0 => simp at h
  | 1 => simp at h
  | j + 2 => simp at h
set_option maxRecDepth 100000 in
set_option maxHeartbeats 8000000 in
theorem rid_any (rb : Nat) (s : St) (w : World) (h : Rd w rb s) :
    Calls Tryd.prog 68 #[.pointer (some ⟨rb, 0, none⟩)] w fun e w' => e = .returned (.agg #[.int .i64 (idS s).1.1, .int .i64 (idS s).1.2]) ∧ Rd w' rb (idS s).2 ∧ w.grownBy w' (some rb) := by
  have h1 := h.on ((Below.refl w.heap.size w).alloc (Nat.le_refl _) (.cells #[.int .i64 0, .int .i64 0] 28))
  have G1 := Lib.hid (World.grownBy_alloc w (.cells #[.int .i64 0, .int .i64 0] 28) (some rb))
  have T := Lib.hid (num_any rb s _ h1)
  have X := Lib.hid (box_new w #[.int .i64 0, .int .i64 0] 28)
  have hne : w.heap.size ≠ rb := by have := h.lt; omega
  have NE := Lib.hid hne
  clear h h1 hne
  go_enter Tryd.func68, Tryd.ntmps68
  go_wp2_with fail
  refine T.out.mono ?_
  rintro e w1 ⟨rfl, hd, hg⟩
  have X1 := Lib.hid (show Box w1 w.heap.size #[.int .i64 0, .int .i64 0] 28 from (hg.block _ X.out.lt (fun e => NE.out (Option.some.inj e))).trans X.out)
  have HG1 := Lib.hid (grown_more G1.out hg)
  have U := Lib.hid (num_any rb (numS s).2 w1 hd)
  have F := Lib.hid (show idS s = (if (numS (numS s).2).2.2 then (0, 0) else ((numS s).1, (numS (numS s).2).1), (numS (numS s).2).2) from rfl)
  clear T hd hg G1 X
  generalize (numS s).1 = c at *
  generalize (numS s).2 = s1 at *
  go_wp2_with fail
  refine U.out.mono ?_
  rintro e w2 ⟨rfl, hd, hg⟩
  have X2 := Lib.hid (show Box w2 w.heap.size #[.int .i64 0, .int .i64 0] 28 from (hg.block _ X1.out.lt (fun e => NE.out (Option.some.inj e))).trans X1.out)
  have HG2 := Lib.hid (grown_more HG1.out hg)
  have V := Lib.hid (good_any rb (numS s1).2 w2 hd)
  have HD := Lib.hid hd
  clear U hd hg X1 HG1
  generalize (numS s1).1 = q at *
  generalize (numS s1).2 = s2 at *
  go_wp2_with fail
  refine V.out.mono ?_
  rintro e w3 ⟨rfl, rfl⟩
  obtain ⟨l2, b2⟩ := s2
  have x0 := X2.out.cell 0
  have x1 := X2.out.cell 1
  have y0 := X2.out.fr 0
  have y1 := X2.out.fr 1
  have z := X2.out.lt
  simp at x0 x1
  have FIN := Lib.hid (fun a b : Int => show Rd ((w2.setCell ⟨w.heap.size, 0, none⟩ (.int .i64 a)).setCell ⟨w.heap.size, 1, none⟩ (.int .i64 b)) rb (l2, b2) from
    (HD.out.other (k := 0) X2.out (two_ints 0 0) NE.out (.int .i64 a)).other (k := 1) (box_set (k := 0) X2.out (.int .i64 a)) (two_ints a 0) NE.out (.int .i64 b))
  have GR := Lib.hid (fun a b : Int => grown_new (grown_new HG2.out 0 (.int .i64 a) w.heap.size (Nat.le_refl _)) 1 (.int .i64 b) w.heap.size (Nat.le_refl _))
  have x2 := Lib.hid (fun a b : Int => box_set (k := 1) (box_set (k := 0) X2.out (.int .i64 a)) (.int .i64 b))
  clear V
  cases b2
  · go_wp2_with fail
    have B := x2.out c q
    have z0 := B.cell 0
    have z1 := B.cell 1
    simp at z0 z1
    refine bodyPost_ret (v := .agg #[.int .i64 c, .int .i64 q]) (by simp [results, Tryd.results68, go_sem, z0, z1]) rfl ⟨?_, ?_, GR.out c q⟩
    · rw [F.out]; rfl
    · rw [F.out]; exact FIN.out c q
  · go_wp2_with fail
    have B := x2.out 0 0
    have z0 := B.cell 0
    have z1 := B.cell 1
    simp at z0 z1
    refine bodyPost_ret (v := .agg #[.int .i64 0, .int .i64 0]) (by simp [results, Tryd.results68, go_sem, z0, z1]) rfl ⟨?_, ?_, GR.out 0 0⟩
    · rw [F.out]; rfl
    · rw [F.out]; exact FIN.out 0 0
end Go.Proofs.YtfcgfnmokbbcaaaDoor.Nm

namespace Go.Proofs.YtfcgfnmokbbcaaaDoor.Wi
open Go.RowKit

/-- n brought into lo .. hi. -/
def within (n lo hi : Int) : Int := lo + n % (hi - lo + 1)
theorem within_bd (n lo hi : Int) (h : lo ≤ hi) : lo ≤ within n lo hi ∧ within n lo hi ≤ hi := by
  unfold within
  have h1 := Int.emod_nonneg n (show hi - lo + 1 ≠ 0 by omega)
  have h2 := Int.emod_lt_of_pos n (show 0 < hi - lo + 1 by omega)
  omega
theorem within_pos (n lo hi : Int) (h : lo ≤ hi) (hn : ¬ n.tmod (hi - lo + 1) < 0) : lo + n.tmod (hi - lo + 1) = within n lo hi := by
  unfold within
  rw [Int.tmod_eq_emod] at hn ⊢
  split at hn
  · rename_i h0; rw [if_pos h0]; omega
  · rename_i h0
    rw [if_neg h0] at *
    have h2 := Int.emod_lt_of_pos n (show 0 < hi - lo + 1 by omega)
    have : ((hi - lo + 1).natAbs : Int) = hi - lo + 1 := by omega
    omega
theorem within_neg (n lo hi : Int) (h : lo ≤ hi) (hn : n.tmod (hi - lo + 1) < 0) : lo + (n.tmod (hi - lo + 1) + hi - lo + 1) = within n lo hi := by
  unfold within
  rw [Int.tmod_eq_emod] at hn ⊢
  split at hn
  · have h1 := Int.emod_nonneg n (show hi - lo + 1 ≠ 0 by omega)
    omega
  · rename_i h0
    rw [if_neg h0] at *
    have : ((hi - lo + 1).natAbs : Int) = hi - lo + 1 := by omega
    omega
theorem tmod_bd (n m : Int) (h : 0 < m) : -m < n.tmod m ∧ n.tmod m < m := by
  rw [Int.tmod_eq_emod]
  have h1 := Int.emod_nonneg n (show m ≠ 0 by omega)
  have h2 := Int.emod_lt_of_pos n h
  split <;> omega
theorem ret_int {k : IntKind} {a b : Int} (h : a = b) : Ending.returned (.int k a) = .returned (.int k b) := by rw [h]

set_option maxHeartbeats 1000000 in
theorem within_any (n lo hi : Int) (w : World) (h : lo ≤ hi) (h1 : -1000000 ≤ lo) (h2 : hi ≤ 1000000) (_hn1 : -9223372036854775808 ≤ n) (_hn2 : n ≤ 9223372036854775807) :
    Calls Tryd.prog 20 #[.int .i64 n, .int .i64 lo, .int .i64 hi] w fun e w' => e = .returned (.int .i64 (within n lo hi)) ∧ w = w' := by
  have hm : 0 < hi - lo + 1 := by omega
  have hm2 : hi - lo + 1 ≤ 2000001 := by omega
  have hb := tmod_bd n (hi - lo + 1) hm
  have P := Lib.hid (within_pos n lo hi h)
  have Q := Lib.hid (within_neg n lo hi h)
  go_enter Tryd.func20, Tryd.ntmps20
  go_wp2
  · go_ret
    exact ⟨ret_int (Q.out (by omega)), rfl⟩
  · go_ret
    exact ⟨ret_int (P.out (by omega)), rfl⟩

end Go.Proofs.YtfcgfnmokbbcaaaDoor.Wi
