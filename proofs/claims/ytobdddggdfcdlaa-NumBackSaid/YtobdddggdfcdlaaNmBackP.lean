/-
  What is read of numbers, a text, a byte, an ID, a text, that stand one behind the other: whole, and cut. Plain mathematics: no program in it. No condition beyond what each theorem states.
-/
import Derived.Test.YtobdddggdfcdlaaNmBackR
namespace Go.Proofs.Ytobdddggdfcdlaa.Nm

theorem bl4_eq (n m : Int) (s : ByteArray) (c : UInt8) (x y : Int) (t : ByteArray) : bl4 n m s c x y t = numB n ++ (numB m ++ (textB s ++ (c :: (numB x ++ (numB y ++ textB t))))) := by
  unfold bl4 bl3 bl2 bl1 bl0
  simp [List.append_assoc]
/-- The six things that are asked, one behind the other. -/
structure Six where
  p : Int
  q : Int
  u : ByteArray
  d : UInt8
  z : Int × Int
  v : ByteArray
  e : St
def six (a : St) : Six :=
  let a1 := numS a
  let a2 := numS a1.2
  let a3 := textS a2.2
  let a4 := byteS a3.2
  let a5 := idS a4.2
  let a6 := textS a5.2
  ⟨a1.1, a2.1, a3.1, a4.1, a5.1, a6.1, a6.2⟩
theorem six_whole (n m : Int) (s : ByteArray) (c : UInt8) (x y : Int) (t : ByteArray) (hn : I64 n) (hm : I64 m) (hs : s.size ≤ 255) (hx : I64 x) (hy : I64 y) (ht : t.size ≤ 255) :
    six (bl4 n m s c x y t, false) = ⟨n, m, s, c, (x, y), t, ([], false)⟩ := by
  have h : textS (textB t, false) = (t, ([], false)) := by have h := textS_text ht []; rwa [List.append_nil] at h
  rw [bl4_eq]
  simp only [six, numS_num hn.1 hn.2, numS_num hm.1 hm.2, textS_text hs, byteS_cons, idS_id hx.1 hx.2 hy.1 hy.2, h]
/-- Once something was not there, all is nothing. -/
theorem six_bad1 (l : List UInt8) : (let a2 := numS (l, true); let a3 := textS a2.2; let a4 := byteS a3.2; let a5 := idS a4.2; let a6 := textS a5.2; (a2.1, a3.1, a4.1, a5.1, a6.1, a6.2)) = (0, ⟨#[]⟩, 0, (0, 0), ⟨#[]⟩, ([], true)) := by
  simp only [numS_bad, textS_bad, byteS_bad, idS_bad]
theorem take_app {a b : List UInt8} {k : Nat} (h : a.length ≤ k) : (a ++ b).take k = a ++ b.take (k - a.length) := by
  rw [List.take_append, List.take_of_length_le h]
theorem take_short {a b : List UInt8} {k : Nat} (h : k ≤ a.length) : (a ++ b).take k = a.take k := by
  rw [List.take_append, show k - a.length = 0 by omega, List.take_zero, List.append_nil]
theorem textS_cut {s : ByteArray} (h : s.size ≤ 255) (b : List UInt8) {k : Nat} (hk : k < s.size + 1) : textS ((textB s ++ b).take k, false) = (⟨#[]⟩, ([], true)) := by
  rw [take_short (by rw [textB_len s h]; omega), textB_ok h]
  cases k with
  | zero => rw [List.take_zero, textS_nil]
  | succ k =>
    rw [List.take_succ_cons]
    unfold textS
    rw [byteS_cons]
    have e : (UInt8.ofNat s.size).toNat = s.size := by rw [UInt8.toNat_ofNat']; omega
    simp only [e]
    rw [takeS_short false (by rw [List.length_take, size_data]; omega)]
theorem idS_cut {x y : Int} (hx : I64 x) (b : List UInt8) {k : Nat} (hk : k < 16) : idS ((numB x ++ (numB y ++ b)).take k, false) = ((0, 0), ([], true)) := by
  by_cases h8 : k < 8
  · unfold idS
    rw [numS_short false (by rw [List.length_take]; omega), numS_bad]
    rfl
  · rw [take_app (by rw [numB_len]; omega)]
    unfold idS
    rw [numS_num hx.1 hx.2, numS_short false (by rw [List.length_take, numB_len]; omega)]
    rfl
/-- What a cut leaves. -/
structure Cut (n : Int) (k : Nat) (r : Six) : Prop where
  e : r.e = ([], true)
  v : r.v = ⟨#[]⟩
  lo : k < 8 → r.p = 0 ∧ r.q = 0 ∧ r.u = ⟨#[]⟩ ∧ r.d = 0 ∧ r.z = (0, 0)
  mid : 8 ≤ k → r.p = n
  hi : 8 ≤ k → k < 16 → r.q = 0 ∧ r.u = ⟨#[]⟩ ∧ r.d = 0 ∧ r.z = (0, 0)
theorem six_cut (n m : Int) (s : ByteArray) (c : UInt8) (x y : Int) (t : ByteArray) (hn : I64 n) (hm : I64 m) (hs : s.size ≤ 255) (hx : I64 x) (hy : I64 y) (ht : t.size ≤ 255) (k : Nat) (hk : k < (bl4 n m s c x y t).length) :
    Cut n k (six ((bl4 n m s c x y t).take k, false)) := by
  rw [bl4_len n m s c x y t hs ht] at hk
  rw [bl4_eq]
  by_cases h8 : k < 8
  · have h : six ((numB n ++ (numB m ++ (textB s ++ (c :: (numB x ++ (numB y ++ textB t)))))).take k, false) = ⟨0, 0, ⟨#[]⟩, 0, (0, 0), ⟨#[]⟩, ([], true)⟩ := by
      simp only [six, numS_short (l := (numB n ++ (numB m ++ (textB s ++ (c :: (numB x ++ (numB y ++ textB t)))))).take k) false (by rw [List.length_take]; omega), numS_bad, textS_bad, byteS_bad, idS_bad]
    rw [h]
    exact ⟨rfl, rfl, fun _ => ⟨rfl, rfl, rfl, rfl, rfl⟩, fun h => by omega, fun h => by omega⟩
  rw [take_app (by rw [numB_len]; omega), numB_len]
  by_cases h16 : k < 16
  · have h : six (numB n ++ (numB m ++ (textB s ++ (c :: (numB x ++ (numB y ++ textB t))))).take (k - 8), false) = ⟨n, 0, ⟨#[]⟩, 0, (0, 0), ⟨#[]⟩, ([], true)⟩ := by
      simp only [six, numS_num hn.1 hn.2, numS_short (l := (numB m ++ (textB s ++ (c :: (numB x ++ (numB y ++ textB t))))).take (k - 8)) false (by rw [List.length_take]; omega), textS_bad, byteS_bad, idS_bad]
    rw [h]
    exact ⟨rfl, rfl, fun h => by omega, fun _ => rfl, fun _ _ => ⟨rfl, rfl, rfl, rfl⟩⟩
  rw [take_app (by rw [numB_len]; omega), numB_len]
  have fin : ∀ q u d z, six (numB n ++ (numB m ++ (textB s ++ (c :: (numB x ++ (numB y ++ textB t)))).take (k - 8 - 8)), false) = ⟨n, q, u, d, z, ⟨#[]⟩, ([], true)⟩ → Cut n k (six (numB n ++ (numB m ++ (textB s ++ (c :: (numB x ++ (numB y ++ textB t)))).take (k - 8 - 8)), false)) := fun q u d z h => by
    rw [h]
    exact ⟨rfl, rfl, fun h => by omega, fun _ => rfl, fun _ h => by omega⟩
  by_cases hs1 : k - 8 - 8 < s.size + 1
  · exact fin m ⟨#[]⟩ 0 (0, 0) (by simp only [six, numS_num hn.1 hn.2, numS_num hm.1 hm.2, textS_cut hs _ hs1, byteS_bad, idS_bad, textS_bad])
  have e1 : (textB s ++ (c :: (numB x ++ (numB y ++ textB t)))).take (k - 8 - 8) = textB s ++ (c :: (numB x ++ (numB y ++ textB t))).take (k - 8 - 8 - (s.size + 1)) := by
    rw [take_app (by rw [textB_len s hs]; omega), textB_len s hs]
  by_cases hs2 : k - 8 - 8 - (s.size + 1) = 0
  · exact fin m s 0 (0, 0) (by rw [e1, hs2]; simp only [six, numS_num hn.1 hn.2, numS_num hm.1 hm.2, List.take_zero, textS_text hs, byteS_nil, idS_bad, textS_bad])
  obtain ⟨j, hj⟩ : ∃ j, k - 8 - 8 - (s.size + 1) = j + 1 := ⟨k - 8 - 8 - (s.size + 1) - 1, by omega⟩
  rw [hj, List.take_succ_cons] at e1
  by_cases hs3 : j < 16
  · exact fin m s c (0, 0) (by rw [e1]; simp only [six, numS_num hn.1 hn.2, numS_num hm.1 hm.2, textS_text hs, byteS_cons, idS_cut hx _ hs3, textS_bad])
  · have e2 : (numB x ++ (numB y ++ textB t)).take j = numB x ++ (numB y ++ (textB t).take (j - 8 - 8)) := by
      rw [take_app (by rw [numB_len]; omega), numB_len, take_app (by rw [numB_len]; omega), numB_len]
    have e3 := textS_cut ht [] (k := j - 8 - 8) (by omega)
    rw [List.append_nil] at e3
    exact fin m s c (x, y) (by rw [e1, e2]; simp only [six, numS_num hn.1 hn.2, numS_num hm.1 hm.2, textS_text hs, byteS_cons, idS_id hx.1 hx.2 hy.1 hy.2, e3])
end Go.Proofs.Ytobdddggdfcdlaa.Nm
