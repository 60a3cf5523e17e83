/-
  Say of package tuple: each name and its value, with commas between. Conditions: at most 100 attributes, names and texts of at most 100 bytes; strconv's table of powers of ten is as its text lays it.
-/
import Derived.Test.YtpmhnmdienlgoaaDoorAtBox
import Derived.Test.YtpmhnmdienlgoaaDoorAtLaw
import Derived.Test.YtpmhnmdienlgoaaDoorVaVal
import Derived.Test.YtpmhnmdienlgoaaDoorTuShelf
import Derived.Lib.ItoaLen
namespace Go.Proofs.YtpmhnmdienlgoaaDoor.At
open Go.RowKit Go.Sort Go.Proofs.YtpmhnmdienlgoaaDoor.Va Go.Proofs.YtpmhnmdienlgoaaDoor.In

theorem sayA_snoc : ∀ (l : List A4) (x : A4), sayA (l ++ [x]) = sayA l ++ (if l = [] then [] else [44]) ++ sayOne x
  | [], x => by simp [sayA]
  | [y], x => by simp [sayA]
  | y :: z :: r, x => by
    have h := sayA_snoc (z :: r) x
    simp only [List.cons_append, sayA] at h ⊢
    rw [h]
    simp
theorem say_take (l : List A4) (k : Nat) (x : A4) (h : l[k]? = some x) : sayA (l.take (k + 1)) = sayA (l.take k) ++ (if k = 0 then [] else [44]) ++ sayOne x := by
  obtain ⟨hk, e⟩ := List.getElem?_eq_some_iff.1 h
  rw [List.take_succ_eq_append_getElem hk, sayA_snoc, e]
  have : (l.take k = []) ↔ k = 0 := by
    rw [List.take_eq_nil_iff]
    constructor
    · rintro (h1 | h1)
      · exact h1
      · subst h1; simp at hk
    · exact Or.inl
  simp [this]
theorem sayOne_len (x : A4) (h : x.1.size ≤ 100 ∧ x.2.2.2.size ≤ 100 ∧ -9223372036854775808 ≤ x.2.2.1 ∧ x.2.2.1 ≤ 9223372036854775807) : (sayOne x).length ≤ 400 := by
  have h1 : x.1.data.toList.length = x.1.size := by rw [Array.length_toList]; rfl
  have h2 : x.2.2.2.data.toList.length = x.2.2.2.size := by rw [Array.length_toList]; rfl
  have h3 := Lib.itoa_length_le x.2.2.1 h.2.2.1 h.2.2.2
  have h4 := esc_len x.2.2.2.data.toList
  unfold sayOne VaP.say
  split <;> simp only [List.length_append, List.length_cons, List.length_nil] <;> omega
theorem say_len (l : List A4) (hs : Small l) : ∀ k, k ≤ l.length → (sayA (l.take k)).length ≤ k * 401
  | 0, _ => by simp [sayA]
  | k + 1, hk => by
    have hx : l[k]? = some l[k] := List.getElem?_eq_getElem (by omega)
    have h1 := say_len l hs k (by omega)
    have h2 := sayOne_len l[k] (hs.2 _ (List.mem_of_getElem? hx))
    rw [say_take l k _ hx]
    simp only [List.length_append]
    split <;> simp only [List.length_cons, List.length_nil] <;> omega
theorem str_more {W : World} {B b : Nat} {acc : List UInt8} {s : ByteArray} (h : Lib.BuilderAtF 52 5 B b (.pointer (some ⟨b, 0, none⟩)) (Lib.byteCells acc ++ Lib.strCells s) W) : Lib.IsBuilderF 52 5 B b (Lib.byteCells (acc ++ s.data.toList)) W := by
  rw [Lib.strCells_eq, ← Lib.byteCells_append] at h
  exact Or.inr h
theorem bld_below {B b : Nat} {bs : List Value} {W W' : World} (h : Lib.IsBuilderF 52 5 B b bs W) (hb : Below W.heap.size W W') : Lib.IsBuilderF 52 5 B b bs W' := by
  have one : ∀ {p : Value}, Lib.BuilderAtF 52 5 B b p bs W → Lib.BuilderAtF 52 5 B b p bs W' := fun h => by
    have hlt := h.lt
    obtain ⟨hB, v, hv, hown, hne⟩ := h
    exact ⟨hB, v, (hb.block b hlt).trans hv, hown.kept (row := none) ⟨hb.os, hb.tape, hb.output, hb.size, fun k hk _ => hb.block k hk⟩ (Classical.em _), hne⟩
  exact h.elim (fun x => .inl (one x)) (fun x => .inr (one x))
theorem bld_lt {B b : Nat} {bs : List Value} {W : World} (h : Lib.IsBuilderF 52 5 B b bs W) : b < W.heap.size := h.elim (fun x => x.lt) (fun x => x.lt)
theorem BoxA.kept {W W' : World} {b g : Nat} {x : A4} (h : BoxA W g x) (k : Lib.OthersKept 5 (some b) W W') (hne : g ≠ b) : BoxA W' g x :=
  k g _ h (by simpa using hne) (by simp)
theorem room8 (n : Nat) (acc : List UInt8) (h : acc.length ≤ n) (m : Nat) (hn : n + m ≤ 1000000) : (Lib.byteCells acc).length + m ≤ 140737488355328 := by
  rw [Lib.byteCells_length]; omega

set_option maxRecDepth 100000 in
set_option maxHeartbeats 8000000 in
theorem sayOk : SayOk VG := by
  intro lv l w hg hl hs
  have HL := Lib.hid hl
  have HS := Lib.hid hs
  have HG := Lib.hid hg
  have hn := hs.1
  obtain ⟨ao, ac, rfl⟩ := hl.len
  clear hl hs hg
  have BF := Lib.hid (Lib.IsBuilderF.of (Lib.fresh_isBuilder 52 5 w))
  have W0 := Lib.hid (show Below w.heap.size w (w.alloc (.cells #[.pointer none, .slice none 0 0] 52)) from (Below.refl _ _).alloc (Nat.le_refl _) _)
  go_enter Tryd.func9, Tryd.ntmps9
  go_wp2
  generalize w.alloc (.cells #[.pointer none, .slice none 0 0] 52) = w0 at BF W0 ⊢
  go_loopw [8] (fun i wr => ∃ k : Nat, k ≤ l.length ∧ i = .int .i64 k ∧ Lib.IsBuilderF 52 5 w.heap.size w.heap.size (Lib.byteCells (sayA (l.take k))) wr ∧ Below w.heap.size w wr) (fun i _ => l.length - (intOf i).toNat)
  case atStart => exact ⟨0, Nat.zero_le _, rfl, by simpa [sayA, Lib.byteCells] using BF.out, W0.out⟩
  case round =>
    obtain ⟨k, hk, rfl, hbf, hb⟩ := hrel
    have HB := Lib.hid hb
    have HF := Lib.hid hbf
    clear hb hbf
    by_cases hlt : k < l.length
    · obtain ⟨⟨xn, xt, xi, xs⟩, hx⟩ : ∃ x, l[k]? = some x := ⟨_, List.getElem?_eq_getElem hlt⟩
      obtain ⟨p, ix, px⟩ := row_cells HL.out rfl rfl hx
      obtain ⟨p0, p1, p2, p3⟩ := px _ HB.out
      have SZ := Lib.hid (HS.out.2 _ (List.mem_of_getElem? hx))
      have NL := Lib.hid (show xn.data.toList.length = xn.size by rw [Array.length_toList]; rfl)
      have LN := Lib.hid (say_len l HS.out k hk)
      have ST := Lib.hid (say_take l k _ hx)
      have VL := Lib.hid (show (VaP.say xt xi xs.data.toList).length ≤ 400 by
        have h1 := sayOne_len (xn, xt, xi, xs) SZ.out
        unfold sayOne at h1
        simp only [List.length_append] at h1
        omega)
      have B4 := Lib.hid (HB.out.alloc HB.out.size (.cells #[.string xn, .bool xt, .int .i64 xi, .string xs] 25))
      have F4 := Lib.hid (bld_below HF.out ((Below.refl _ _).alloc (Nat.le_refl _) (.cells #[.string xn, .bool xt, .int .i64 xi, .string xs] 25)))
      have A4' := Lib.hid (boxA_new wr (xn, xt, xi, xs))
      have NE := Lib.hid (show wr.heap.size ≠ w.heap.size by have := bld_lt HF.out; omega)
      clear hx px
      simp only at p0 p1 p2 p3
      cases k with
      | zero =>
        rw [show ((0 : Nat) : Int) = 0 from rfl] at ix ⊢
        have F1 := F4
        have B1 := B4
        have X1 := A4'
        have c0 := X1.out.cell 0
        simp at c0
        go_wp2_with fail
        clear c0
        refine (Tryd.Builder_WriteString_k w.heap.size w.heap.size _ xn _ F1.out (room8 (0 * 401) _ (by exact LN.out) _ (by have h9 : xn.size ≤ 100 := SZ.out.1; omega)) B1.out.size).mono ?_
        rintro e2 w2 ⟨rfl, h2, b2, k2⟩
        have F2 := Lib.hid (str_more h2)
        have B2 := Lib.hid (B1.out.trans b2)
        have X2 := Lib.hid (X1.out.kept k2 NE.out)
        clear h2 b2 k2
        go_wp2_with fail
        refine (Tryd.Builder_WriteByte_k w.heap.size w.heap.size _ 61 _ F2.out (room8 (0 * 401 + 100) _ (by have h8 := LN.out; have h9 : xn.size ≤ 100 := SZ.out.1; have h7 := NL.out; simp only [List.length_append]; omega) _ (by omega)) B2.out.size).mono ?_
        rintro e3 w3 ⟨rfl, h3, b3, k3⟩
        have F3 := Lib.hid (bld_more (c := 61) h3)
        have B3 := Lib.hid (B2.out.trans b3)
        have X3 := Lib.hid (X2.out.kept k3 NE.out)
        clear h3 b3 k3
        have c1 := X3.out.cell 1
        have c2 := X3.out.cell 2
        have c3 := X3.out.cell 3
        simp at c1 c2 c3
        go_wp2_with fail
        clear c1 c2 c3
        refine (say_any xt xi xs _ (HG.out.bel B3.out) (by have h9 : xs.size ≤ 100 := SZ.out.2.1; omega) SZ.out.2.2.1 SZ.out.2.2.2).mono ?_
        rintro e5 w5 ⟨rfl, b5⟩
        have F5 := Lib.hid (bld_below F3.out b5)
        have B5 := Lib.hid (B3.out.trans (b5.mono B3.out.size))
        clear b5
        go_wp2_with fail
        refine (Tryd.Builder_WriteString_k w.heap.size w.heap.size _ ⟨(VaP.say xt xi xs.data.toList).toArray⟩ _ F5.out (room8 (0 * 401 + 101) _ (by have h8 := LN.out; have h9 : xn.size ≤ 100 := SZ.out.1; have h7 := NL.out; simp only [List.length_append, List.length_cons, List.length_nil]; omega) _ (by have h1 := VL.out; show _ + (VaP.say xt xi xs.data.toList).toArray.size ≤ _; rw [List.size_toArray]; omega)) B5.out.size).mono ?_
        rintro e6 w6 ⟨rfl, h6, b6, _⟩
        have F6 := Lib.hid (str_more h6)
        have B6 := Lib.hid (B5.out.trans b6)
        clear h6 b6
        go_wp2
        go_roundw
        case rel => exact ⟨0 + 1, by omega, by go_num, by
          have h1 := F6.out
          have h2 : sayA (l.take (0 + 1)) = sayA (l.take 0) ++ [] ++ sayOne (xn, xt, xi, xs) := ST.out
          refine (congrArg (fun z => Lib.IsBuilderF 52 5 w.heap.size w.heap.size (Lib.byteCells z) w6) h2).mpr ?_
          simpa [sayOne] using h1, B6.out⟩
        case measure => simp [intOf]; omega
      | succ m =>
        rw [show ((m + 1 : Nat) : Int) = (m : Int) + 1 from rfl] at ix ⊢
        go_wp2_with fail
        clear p0 p1 p2 p3 ix
        generalize wr.alloc (.cells #[.string xn, .bool xt, .int .i64 xi, .string xs] 25) = W4 at *
        refine (Tryd.Builder_WriteByte_k w.heap.size w.heap.size _ 44 _ F4.out (room8 ((m + 1) * 401) _ LN.out _ (by omega)) B4.out.size).mono ?_
        rintro e1 w1 ⟨rfl, h1, b1, k1⟩
        have F1 := Lib.hid (bld_more (c := 44) h1)
        have B1 := Lib.hid (B4.out.trans b1)
        have X1 := Lib.hid (A4'.out.kept k1 NE.out)
        clear h1 b1 k1 F4 B4 A4'
        have c0 := X1.out.cell 0
        simp at c0
        go_wp2_with fail
        clear c0
        refine (Tryd.Builder_WriteString_k w.heap.size w.heap.size _ xn _ F1.out (room8 ((m + 1) * 401 + 1) _ (by have h8 := LN.out; simp only [List.length_append, List.length_cons, List.length_nil] at *; omega) _ (by have h9 : xn.size ≤ 100 := SZ.out.1; omega)) B1.out.size).mono ?_
        rintro e2 w2 ⟨rfl, h2, b2, k2⟩
        have F2 := Lib.hid (str_more h2)
        have B2 := Lib.hid (B1.out.trans b2)
        have X2 := Lib.hid (X1.out.kept k2 NE.out)
        clear h2 b2 k2
        go_wp2_with fail
        refine (Tryd.Builder_WriteByte_k w.heap.size w.heap.size _ 61 _ F2.out (room8 (((m + 1) * 401 + 1) + 100) _ (by have h8 := LN.out; have h9 : xn.size ≤ 100 := SZ.out.1; have h7 := NL.out; simp only [List.length_append, List.length_cons, List.length_nil] at *; omega) _ (by omega)) B2.out.size).mono ?_
        rintro e3 w3 ⟨rfl, h3, b3, k3⟩
        have F3 := Lib.hid (bld_more (c := 61) h3)
        have B3 := Lib.hid (B2.out.trans b3)
        have X3 := Lib.hid (X2.out.kept k3 NE.out)
        clear h3 b3 k3
        have c1 := X3.out.cell 1
        have c2 := X3.out.cell 2
        have c3 := X3.out.cell 3
        simp at c1 c2 c3
        go_wp2_with fail
        clear c1 c2 c3
        refine (say_any xt xi xs _ (HG.out.bel B3.out) (by have h9 : xs.size ≤ 100 := SZ.out.2.1; omega) SZ.out.2.2.1 SZ.out.2.2.2).mono ?_
        rintro e5 w5 ⟨rfl, b5⟩
        have F5 := Lib.hid (bld_below F3.out b5)
        have B5 := Lib.hid (B3.out.trans (b5.mono B3.out.size))
        clear b5
        go_wp2_with fail
        refine (Tryd.Builder_WriteString_k w.heap.size w.heap.size _ ⟨(VaP.say xt xi xs.data.toList).toArray⟩ _ F5.out (room8 (((m + 1) * 401 + 1) + 101) _ (by have h8 := LN.out; have h9 : xn.size ≤ 100 := SZ.out.1; have h7 := NL.out; simp only [List.length_append, List.length_cons, List.length_nil] at *; omega) _ (by have h1 := VL.out; show _ + (VaP.say xt xi xs.data.toList).toArray.size ≤ _; rw [List.size_toArray]; omega)) B5.out.size).mono ?_
        rintro e6 w6 ⟨rfl, h6, b6, _⟩
        have F6 := Lib.hid (str_more h6)
        have B6 := Lib.hid (B5.out.trans b6)
        clear h6 b6
        go_wp2
        go_roundw
        case rel => exact ⟨m + 1 + 1, by omega, by go_num, by
          have h1 := F6.out
          have h2 := ST.out
          rw [if_neg (Nat.succ_ne_zero m)] at h2
          refine (congrArg (fun z => Lib.IsBuilderF 52 5 w.heap.size w.heap.size (Lib.byteCells z) w6) h2).mpr ?_
          simpa [sayOne] using h1, B6.out⟩
        case measure => simp [intOf]; omega
    · obtain rfl : k = l.length := by omega
      have E := Lib.hid (List.take_of_length_le (Nat.le_refl l.length))
      go_wp2_with fail
      refine (Tryd.Builder_String_any_k w.heap.size w.heap.size _ _ HF.out HB.out.size).mono ?_
      rintro e2 w2 ⟨rfl, _, b2, _⟩
      have B2 := Lib.hid (HB.out.trans b2)
      clear b2
      rw [E.out]
      go_wp2
      go_ret
      exact ⟨rfl, B2.out⟩
end Go.Proofs.YtpmhnmdienlgoaaDoor.At
