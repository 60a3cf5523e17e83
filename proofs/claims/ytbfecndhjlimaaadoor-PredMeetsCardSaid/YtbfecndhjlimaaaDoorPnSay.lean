/-
  Say of package pred: each constraint, with commas between. Conditions: at most 100 constraints, names and texts of at most 100 bytes; strconv's table of powers of ten is as its text lays it.
-/
import Derived.Test.YtbfecndhjlimaaaDoorPnAllow
import Derived.Test.YtbfecndhjlimaaaDoorTuShelf
import Derived.Test.YtbfecndhjlimaaaDoorPnBoth2
namespace Go.Proofs.YtbfecndhjlimaaaDoor.Pr
open Go.RowKit Go.Sort Go.Proofs.YtbfecndhjlimaaaDoor Go.Proofs.YtbfecndhjlimaaaDoor.Pu Go.Proofs.YtbfecndhjlimaaaDoor.Rw Go.Proofs.YtbfecndhjlimaaaDoor.Va

theorem sayC_snoc : ∀ (l : List Cn) (x : Cn), sayC (l ++ [x]) = sayC l ++ (if l = [] then [] else [44]) ++ sayK x
  | [], x => by simp [sayC]
  | [y], x => by simp [sayC]
  | y :: z :: r, x => by
    have h := sayC_snoc (z :: r) x
    simp only [List.cons_append, sayC] at h ⊢
    rw [h]
    simp
theorem sayC_take (l : List Cn) (k : Nat) (x : Cn) (h : l[k]? = some x) : sayC (l.take (k + 1)) = sayC (l.take k) ++ (if k = 0 then [] else [44]) ++ sayK x := by
  obtain ⟨hk, e⟩ := List.getElem?_eq_some_iff.1 h
  rw [List.take_succ_eq_append_getElem hk, sayC_snoc, e]
  have : (l.take k = []) ↔ k = 0 := by
    rw [List.take_eq_nil_iff]
    constructor
    · rintro (h1 | h1)
      · exact h1
      · subst h1; simp at hk
    · exact Or.inl
  simp [this]
theorem allowedK_len (c : Cn) (h : smallC c) : (allowedK c.2).length ≤ 300 := by
  obtain ⟨n, k⟩ := c
  obtain ⟨_, h2, h3, h4⟩ := h
  cases k with
  | rg lo hi =>
    have e1 := Lib.itoa_length_le lo h3.1 h3.2
    have e2 := Lib.itoa_length_le hi h4.1 h4.2
    simp only [allowedK, List.length_append, List.length_cons]
    omega
  | tx u =>
    have e1 := esc_len u.data.toList
    have e2 : u.data.toList.length = u.size := by rw [Array.length_toList]; rfl
    have e3 : u.size ≤ 100 := h2
    simp [allowedK, VaP.say]
    omega
  | pr u =>
    have e1 := esc_len u.data.toList
    have e2 : u.data.toList.length = u.size := by rw [Array.length_toList]; rfl
    have e3 : u.size ≤ 100 := h2
    simp [allowedK, VaP.say]
    omega
theorem sayK_len (c : Cn) (h : smallC c) : (sayK c).length ≤ 400 := by
  have h1 : c.1.data.toList.length = c.1.size := by rw [Array.length_toList]; rfl
  have h2 := allowedK_len c h
  have h3 := h.1
  rw [sayK_is, List.length_append]
  omega
theorem sayC_len (l : List Cn) (hs : ∀ c ∈ l, smallC c) : ∀ k, k ≤ l.length → (sayC (l.take k)).length ≤ k * 401
  | 0, _ => by simp [sayC]
  | k + 1, hk => by
    have hx : l[k]? = some l[k] := List.getElem?_eq_getElem (by omega)
    have h1 := sayC_len l hs k (by omega)
    have h2 := sayK_len l[k] (hs _ (List.mem_of_getElem? hx))
    rw [sayC_take l k _ hx]
    simp only [List.length_append]
    split <;> simp only [List.length_cons, List.length_nil] <;> omega
theorem str_more {W : World} {B b : Nat} {acc : List UInt8} {s : ByteArray} (h : Lib.BuilderAtF 66 5 B b (.pointer (some ⟨b, 0, none⟩)) (Lib.byteCells acc ++ Lib.strCells s) W) : Lib.IsBuilderF 66 5 B b (Lib.byteCells (acc ++ s.data.toList)) W := by
  rw [Lib.strCells_eq, ← Lib.byteCells_append] at h
  exact Or.inr h
theorem bld_below {B b : Nat} {bs : List Value} {W W' : World} (h : Lib.IsBuilderF 66 5 B b bs W) (hb : Below W.heap.size W W') : Lib.IsBuilderF 66 5 B b bs W' := by
  have one : ∀ {p : Value}, Lib.BuilderAtF 66 5 B b p bs W → Lib.BuilderAtF 66 5 B b p bs W' := fun h => by
    have hlt := h.lt
    obtain ⟨hB, v, hv, hown, hne⟩ := h
    exact ⟨hB, v, (hb.block b hlt).trans hv, hown.kept (row := none) ⟨hb.os, hb.tape, hb.output, hb.size, fun k hk _ => hb.block k hk⟩ (Classical.em _), hne⟩
  exact h.elim (fun x => .inl (one x)) (fun x => .inr (one x))
theorem bld_lt {B b : Nat} {bs : List Value} {W : World} (h : Lib.IsBuilderF 66 5 B b bs W) : b < W.heap.size := h.elim (fun x => x.lt) (fun x => x.lt)
theorem box_kept {W W' : World} {b g : Nat} {x : C5} (h : Box W g (cells5 x).toArray 23) (k : Lib.OthersKept 5 (some b) W W') (hne : g ≠ b) : Box W' g (cells5 x).toArray 23 :=
  k g _ h (by simpa using hne) (by simp)
theorem room8 (n : Nat) (acc : List UInt8) (h : acc.length ≤ n) (m : Nat) (hn : n + m ≤ 1000000) : (Lib.byteCells acc).length + m ≤ 140737488355328 := by
  rw [Lib.byteCells_length]; omega

set_option maxRecDepth 100000 in
set_option maxHeartbeats 8000000 in
theorem psay_any (lv : Value) (l : List Cn) (w : World) (hg : VG w) (hl : RowC w lv (l.map r5)) (hs : SmallP l) : Calls Tryd.prog 10 #[lv] w fun e w' => e = .returned (.string ⟨(sayC l).toArray⟩) ∧ Below w.heap.size w w' := by
  have HL := Lib.hid hl
  have LM := Lib.hid (show (l.map r5).length = l.length from List.length_map ..)
  have SM := Lib.hid hs.2
  have HG := Lib.hid hg
  have hn := hs.1
  obtain ⟨ao, ac, rfl⟩ := hl.len
  rw [List.length_map] at HL ⊢
  clear hl hs hg
  have BF := Lib.hid (Lib.IsBuilderF.of (Lib.fresh_isBuilder 66 5 w))
  have W0 := Lib.hid (show Below w.heap.size w (w.alloc (.cells #[.pointer none, .slice none 0 0] 66)) from (Below.refl _ _).alloc (Nat.le_refl _) _)
  go_enter Tryd.func10, Tryd.ntmps10
  go_wp2
  generalize w.alloc (.cells #[.pointer none, .slice none 0 0] 66) = w0 at BF W0 ⊢
  go_loopw [8] (fun i wr => ∃ k : Nat, k ≤ l.length ∧ i = .int .i64 k ∧ Lib.IsBuilderF 66 5 w.heap.size w.heap.size (Lib.byteCells (sayC (l.take k))) wr ∧ Below w.heap.size w wr) (fun i _ => l.length - (intOf i).toNat)
  case atStart => exact ⟨0, Nat.zero_le _, rfl, by simpa [sayC, Lib.byteCells] using BF.out, W0.out⟩
  case round =>
    obtain ⟨k, hk, rfl, hbf, hb⟩ := hrel
    have HB := Lib.hid hb
    have HF := Lib.hid hbf
    clear hb hbf
    by_cases hlt : k < l.length
    · obtain ⟨⟨xn, xk⟩, hx⟩ : ∃ x, l[k]? = some x := ⟨_, List.getElem?_eq_getElem hlt⟩
      obtain ⟨p, ix, px⟩ := elC (x := r5 (xn, xk)) HL.out rfl LM.out (by rw [List.getElem?_map, hx]; rfl)
      obtain ⟨p0, p1, p2, p3, p4⟩ := px _ HB.out
      have SZ := Lib.hid (SM.out _ (List.mem_of_getElem? hx))
      have NS := Lib.hid (show xn.size ≤ 100 from SZ.out.1)
      have NL := Lib.hid (show xn.data.toList.length = xn.size by rw [Array.length_toList]; rfl)
      have LN := Lib.hid (sayC_len l SM.out k hk)
      have ST := Lib.hid (sayC_take l k _ hx)
      have VL := Lib.hid (show (allowedK xk).length ≤ 300 from allowedK_len _ SZ.out)
      have B4 := Lib.hid (HB.out.alloc HB.out.size (.cells (cells5 (r5 (xn, xk))).toArray 23))
      have F4 := Lib.hid (bld_below HF.out ((Below.refl _ _).alloc (Nat.le_refl _) (.cells (cells5 (r5 (xn, xk))).toArray 23)))
      have X4 := Lib.hid (box_new wr (cells5 (r5 (xn, xk))).toArray 23)
      have NE := Lib.hid (show wr.heap.size ≠ w.heap.size by have := bld_lt HF.out; omega)
      have AL := Lib.hid (fun W hW => allowed_any (xn, xk) W hW SZ.out)
      clear hx px
      simp only [r5] at p0 p1 p2 p3 p4 AL
      cases k with
      | zero =>
        rw [show ((0 : Nat) : Int) = 0 from rfl] at ix ⊢
        have F1 := F4
        have B1 := B4
        have X1 := X4
        have c0 : (wr.alloc (.cells (cells5 (r5 (xn, xk))).toArray 23)).cell? ⟨wr.heap.size, 0, none⟩ = some (.string xn) := X1.out.cell 0
        go_wp2_with fail
        clear c0
        refine (Tryd.Builder_WriteString_k w.heap.size w.heap.size _ xn _ F1.out (room8 (0 * 401) _ (by exact LN.out) _ (by have h9 := NS.out; omega)) B1.out.size).mono ?_
        rintro e2 w2 ⟨rfl, h2, b2, k2⟩
        have F2 := Lib.hid (str_more h2)
        have B2 := Lib.hid (B1.out.trans b2)
        have X2 := Lib.hid (box_kept X1.out k2 NE.out)
        clear h2 b2 k2
        obtain ⟨c0, c1, c2, c3, c4⟩ := box_five X2.out
        simp only [r5] at c0 c1 c2 c3 c4
        go_wp2_with fail
        clear c0 c1 c2 c3 c4
        refine (AL.out _ (HG.out.bel B2.out)).mono ?_
        rintro e5 w5 ⟨rfl, b5⟩
        have F5 := Lib.hid (bld_below F2.out b5)
        have B5 := Lib.hid (B2.out.trans (b5.mono B2.out.size))
        clear b5
        go_wp2_with fail
        refine (Tryd.Builder_WriteString_k w.heap.size w.heap.size _ ⟨(allowedK xk).toArray⟩ _ F5.out (room8 (0 * 401 + 100) _ (by have h8 := LN.out; have h9 := NS.out; have h7 := NL.out; simp only [List.length_append] at *; omega) _ (by have h1 := VL.out; show _ + (allowedK xk).toArray.size ≤ _; rw [List.size_toArray]; omega)) B5.out.size).mono ?_
        rintro e6 w6 ⟨rfl, h6, b6, _⟩
        have F6 := Lib.hid (str_more h6)
        have B6 := Lib.hid (B5.out.trans b6)
        clear h6 b6
        go_wp2
        go_roundw
        case rel => exact ⟨0 + 1, by omega, by go_num, by
          have h1 := F6.out
          have h2 := ST.out
          rw [if_pos trivial] at h2
          refine (congrArg (fun z => Lib.IsBuilderF 66 5 w.heap.size w.heap.size (Lib.byteCells z) w6) h2).mpr ?_
          simpa [sayK_is] using h1, B6.out⟩
        case measure => simp [intOf]; omega
      | succ m =>
        rw [show ((m + 1 : Nat) : Int) = (m : Int) + 1 from rfl] at ix ⊢
        go_wp2_with fail
        clear p0 p1 p2 p3 p4 ix
        change Calls _ _ _ (wr.alloc (.cells (cells5 (r5 (xn, xk))).toArray 23)) _
        generalize wr.alloc (.cells (cells5 (r5 (xn, xk))).toArray 23) = W4 at *
        refine (Tryd.Builder_WriteByte_k w.heap.size w.heap.size _ 44 _ F4.out (room8 ((m + 1) * 401) _ LN.out _ (by omega)) B4.out.size).mono ?_
        rintro e1 w1 ⟨rfl, h1, b1, k1⟩
        have F1 := Lib.hid (bld_more (c := 44) h1)
        have B1 := Lib.hid (B4.out.trans b1)
        have X1 := Lib.hid (box_kept X4.out k1 NE.out)
        clear h1 b1 k1 F4 B4 X4
        have c0 : w1.cell? ⟨wr.heap.size, 0, none⟩ = some (.string xn) := X1.out.cell 0
        go_wp2_with fail
        clear c0
        refine (Tryd.Builder_WriteString_k w.heap.size w.heap.size _ xn _ F1.out (room8 (((m + 1) * 401 + 1)) _ (by have h8 := LN.out; simp only [List.length_append, List.length_cons, List.length_nil] at *; omega) _ (by have h9 := NS.out; omega)) B1.out.size).mono ?_
        rintro e2 w2 ⟨rfl, h2, b2, k2⟩
        have F2 := Lib.hid (str_more h2)
        have B2 := Lib.hid (B1.out.trans b2)
        have X2 := Lib.hid (box_kept X1.out k2 NE.out)
        clear h2 b2 k2
        obtain ⟨c0, c1, c2, c3, c4⟩ := box_five X2.out
        simp only [r5] at c0 c1 c2 c3 c4
        go_wp2_with fail
        clear c0 c1 c2 c3 c4
        refine (AL.out _ (HG.out.bel B2.out)).mono ?_
        rintro e5 w5 ⟨rfl, b5⟩
        have F5 := Lib.hid (bld_below F2.out b5)
        have B5 := Lib.hid (B2.out.trans (b5.mono B2.out.size))
        clear b5
        go_wp2_with fail
        refine (Tryd.Builder_WriteString_k w.heap.size w.heap.size _ ⟨(allowedK xk).toArray⟩ _ F5.out (room8 (((m + 1) * 401 + 1) + 100) _ (by have h8 := LN.out; have h9 := NS.out; have h7 := NL.out; simp only [List.length_append, List.length_cons, List.length_nil] at *; omega) _ (by have h1 := VL.out; show _ + (allowedK xk).toArray.size ≤ _; rw [List.size_toArray]; omega)) B5.out.size).mono ?_
        rintro e6 w6 ⟨rfl, h6, b6, _⟩
        have F6 := Lib.hid (str_more h6)
        have B6 := Lib.hid (B5.out.trans b6)
        clear h6 b6
        go_wp2
        go_roundw
        case rel => exact ⟨m + 1 + 1, by omega, by go_num, by
          have h1 := F6.out
          have h2 := ST.out
          rw [if_neg (Nat.succ_ne_zero m)] at h2
          refine (congrArg (fun z => Lib.IsBuilderF 66 5 w.heap.size w.heap.size (Lib.byteCells z) w6) h2).mpr ?_
          simpa [sayK_is] using h1, B6.out⟩
        case measure => simp [intOf]; omega
    · obtain rfl : k = l.length := by omega
      have E := Lib.hid (List.take_of_length_le (Nat.le_refl l.length))
      go_wp2_with fail
      refine (Tryd.Builder_String_any_k w.heap.size w.heap.size _ _ HF.out HB.out.size).mono ?_
      rintro e2 w2 ⟨rfl, _, b2, _⟩
      have B2 := Lib.hid (HB.out.trans b2)
      clear b2
      rw [E.out]
      go_wp2
      go_ret
      exact ⟨rfl, B2.out⟩
end Go.Proofs.YtbfecndhjlimaaaDoor.Pr
