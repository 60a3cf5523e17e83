/-
  (*Fault).Error of a chain of faults that ends in the Errno 7. Condition: places from 0 to 99; the text has at most 1048576 bytes; the faults lie at falling blocks; package errors' variable holds the handle of the type 'error'.
-/
import Derived.Test.YtiiobgbebpapnaaDoorFaError
namespace Go.Proofs.YtiiobgbebpapnaaDoor.Fa
open Go.RowKit Go.Extern.Stop Go.Stop Go.Extern

/-- The relation at the head of a round of Error's loop. W: the world ahead of the call; b0: the builder's block; cur: the row of the faults, in block g. -/
structure ERel (W : World) (g : Nat) (cur : Array Value) (l : List (Nat × ByteArray × Int)) (n : Nat) (rs i : Value) (wr : World) (done todo : List (Nat × ByteArray × Int)) : Prop where
  left : n = todo.length
  all : l = done ++ todo
  bld : Lib.IsBuilderF 108 5 W.heap.size W.heap.size (Lib.byteCells (txt done)) wr
  rest : done = [] ∨ Ch W todo rs (.iface 25 (.int .i64 7))
  ix : i = .int .i64 done.length
  row : wr.heap[g]? = some (.cells cur 38 (0, 0))
  bel : Below W.heap.size W wr

theorem bld_more {W : World} {B b : Nat} {acc : List UInt8} {s : ByteArray} {p : Value} (h : Lib.BuilderAtF 108 5 B b (.pointer (some ⟨b, 0, none⟩)) (Lib.byteCells acc ++ Lib.strCells s) W) : Lib.IsBuilderF 108 5 B b (Lib.byteCells (acc ++ s.data.toList)) W := by
  have _ := p
  rw [Lib.strCells_eq, ← Lib.byteCells_append] at h
  exact Or.inr h
theorem room1 (acc : List UInt8) (s : ByteArray) (h : acc.length + s.data.toList.length ≤ 1048576) : (Lib.byteCells acc).length + s.size ≤ 140737488355328 := by
  rw [Lib.byteCells_length]
  have h2 : s.size = s.data.toList.length := by rw [Array.length_toList]; rfl
  omega
theorem kept_row {w w' : World} {b g : Nat} {cur : Array Value} (k : Lib.OthersKept 5 (some b) w w') (h : w.heap[g]? = some (.cells cur 38 (0, 0))) (hne : g ≠ b) : w'.heap[g]? = some (.cells cur 38 (0, 0)) :=
  k g _ h (by simpa using hne) (by simp)
theorem Ch.nth2 {w : World} {u : Value} (r : List (Nat × ByteArray × Int)) (b : Nat) (op : ByteArray) (at_ : Int) : ∀ (done : List (Nat × ByteArray × Int)) (v : Value), Ch w (done ++ (b, op, at_) :: r) v u → ∃ v', w.heap[b]? = some (.cells #[.string op, .int .i64 at_, v'] 42 (0, 0)) ∧ Ch w r v' u := by
  intro done
  induction done with
  | nil => intro v h; obtain ⟨_, v', h2, h3⟩ := h; exact ⟨v', h2, h3⟩
  | cons y d ih => intro v h; obtain ⟨b0, op0, at0⟩ := y; obtain ⟨_, v', _, h3⟩ := h; exact ih v' h3

set_option maxRecDepth 100000 in
set_option maxHeartbeats 4000000 in
theorem Error_7 (l : List (Nat × ByteArray × Int)) (e : Addr) (w : World) (hg : EG w) (hc : Ch w l (.iface 38 (.pointer (some e))) (.iface 25 (.int .i64 7))) (hf : Falls l) (hlen : l.length ≤ 1048576)
    (hat : ∀ x ∈ l, ∃ n : Nat, n < 100 ∧ x.2.2 = n) (htx : (txt l).length + 4 ≤ 1048576) :
    Calls Tryd.prog 51 #[.pointer (some e)] w fun ev w' => ev = .returned (.string ⟨(txt l ++ [102, 117, 108, 108]).toArray⟩) ∧ Below w.heap.size w w' := by
  have hne : l ≠ [] := by rintro rfl; cases hc
  have hw0 : Below w.heap.size w (w.alloc (.cells #[.pointer none, .slice none 0 0] 108)) := (Below.refl _ _).alloc (Nat.le_refl _) _
  have C := Lib.hid (walk_itself _ (blk l) _ hf.nodup (hc.bel hw0).flt (by simpa using hlen) (Lst.itself_E (hg.bel hw0) (hc.bel hw0)))
  have BF := Lib.hid (Lib.IsBuilderF.of (Lib.fresh_isBuilder 108 5 w))
  have HC := Lib.hid hc
  have LE := Lib.hid hlen
  have AT := Lib.hid hat
  have TX := Lib.hid htx
  have NE := Lib.hid hne
  clear hg hf hc hlen hat htx hne hw0
  go_enter Tryd.func51, Tryd.ntmps51
  go_wp2_with fail
  refine C.out.mono ?_
  rintro e1 w1 ⟨s, rfl, hown, hb⟩
  have hx : ∃ g cap cur, s = .slice (some ⟨g, 0, none⟩) (l.length : Nat) cap ∧ w.heap.size + 1 ≤ g ∧ w1.heap[g]? = some (.cells cur 38 (0, 0)) ∧ (∀ j (h : j < l.length), cur[j]? = some (ptr l[j].1)) := by
    rcases hown.2 with ⟨_, h0⟩ | ⟨g, cap, cur, hv, hgb, hh, _, _, _, ht⟩
    · simp at h0; exact absurd h0 NE.out
    · refine ⟨g, cap, cur, by simpa using hv, by simpa using hgb, hh, fun j hj => ?_⟩
      have h1 : (cur.toList.take ((blk l).length * 1))[j]? = ((blk l).map ptr)[j]? := by rw [ht]
      rw [List.getElem?_take_of_lt (by simpa using hj)] at h1
      simpa [hj] using h1
  obtain ⟨g, cap, cur, hs, hgb, hrow, hcur⟩ := hx
  have HB := Lib.hid (Below.after_alloc hb)
  have hbld : Lib.IsBuilderF 108 5 w.heap.size w.heap.size [] w1 := by
    rcases BF.out with h | h
    · obtain ⟨h1, v, h2, h3, h4⟩ := h
      exact Or.inl ⟨h1, v, by rw [hb.block _ (lt_of_heap h2)]; exact h2, h3.kept (row := none) ⟨hb.os, hb.tape, hb.output, hb.size, fun k hk _ => hb.block k hk⟩ (by cases v.ownBlock <;> simp), h4⟩
    · obtain ⟨h1, v, h2, h3, h4⟩ := h
      exact Or.inr ⟨h1, v, by rw [hb.block _ (lt_of_heap h2)]; exact h2, h3.kept (row := none) ⟨hb.os, hb.tape, hb.output, hb.size, fun k hk _ => hb.block k hk⟩ (by cases v.ownBlock <;> simp), h4⟩
  have BL := Lib.hid hbld
  have CU := Lib.hid hcur
  have RO := Lib.hid hrow
  rw [hs]
  clear hs hown hb hbld hcur hrow
  have hll : l.length ≤ 1048576 := LE.out
  go_wp2
  go_loopg [4, 17] l.length (fun n rs i wr => ∃ done todo, ERel w g cur l n rs i wr done todo)
  case atStart => exact ⟨[], l, ⟨rfl, rfl, BL.out, Or.inl rfl, rfl, RO.out, HB.out⟩⟩
  case round =>
    obtain ⟨done, todo, hR⟩ := hrel
    cases todo with
    | nil =>
      obtain ⟨h1, h2, h3, h4, rfl, h6, h7⟩ := hR
      have z : l = done := by simpa using h2
      have BD := Lib.hid h3
      have B := Lib.hid h7
      have hrs : u4 = .iface 25 (.int .i64 7) := by
        rcases h4 with h | h
        · exact absurd (z.trans h) NE.out
        · exact h
      subst hrs
      have hdl : ¬ done.length < l.length := by rw [z]; omega
      have Z := Lib.hid z
      clear h1 h2 h3 h4 h6 h7 z
      go_wp2_with fail
      refine (text_7 _).mono ?_
      rintro e2 w2 ⟨rfl, hb2⟩
      have BD2 : Lib.IsBuilderF 108 5 w.heap.size w.heap.size (Lib.byteCells (txt done)) w2 := by
        rcases BD.out with h | h
        · obtain ⟨h1, v, h2, h3, h4⟩ := h
          exact Or.inl ⟨h1, v, by rw [hb2.block _ (lt_of_heap h2)]; exact h2, h3.kept (row := none) ⟨hb2.os, hb2.tape, hb2.output, hb2.size, fun k hk _ => hb2.block k hk⟩ (by cases v.ownBlock <;> simp), h4⟩
        · obtain ⟨h1, v, h2, h3, h4⟩ := h
          exact Or.inr ⟨h1, v, by rw [hb2.block _ (lt_of_heap h2)]; exact h2, h3.kept (row := none) ⟨hb2.os, hb2.tape, hb2.output, hb2.size, fun k hk _ => hb2.block k hk⟩ (by cases v.ownBlock <;> simp), h4⟩
      have HB2 := Lib.hid (B.out.trans (hb2.mono B.out.size))
      have BD3 := Lib.hid BD2
      clear hb2 BD2
      go_wp2_with fail
      refine (Tryd.Builder_WriteString_k w.heap.size w.heap.size _ _ _ BD3.out ?_ HB2.out.size).mono ?_
      · exact room1 _ _ (by have h1 := TX.out; rw [Z.out] at h1; exact h1)
      rintro e3 w3 ⟨rfl, hbd, hb3, _⟩
      have BD4 := Lib.hid (bld_more (p := .nilIface) hbd)
      have HB3 := Lib.hid (HB2.out.trans hb3)
      clear hbd hb3
      go_wp2_with fail
      refine (Tryd.Builder_String_any_k w.heap.size w.heap.size _ _ BD4.out HB3.out.size).mono ?_
      rintro e4 w4 ⟨rfl, _, hb4, _⟩
      have HB4 := Lib.hid (HB3.out.trans hb4)
      clear hb4
      go_wp2
      go_ret
      have z := Z.out
      subst z
      exact ⟨rfl, HB4.out⟩
    | cons y r =>
      obtain ⟨b, op, at_⟩ := y
      obtain ⟨h1, h2, h3, h4, rfl, h6, h7⟩ := hR
      obtain ⟨n, hn, hnat⟩ := AT.out (b, op, at_) (by rw [h2]; simp)
      simp only at hnat
      subst hnat
      obtain ⟨v', hv', hch⟩ := Ch.nth2 r b op n done _ (by rw [← h2]; exact HC.out)
      have hdl : done.length < l.length := by rw [h2]; simp
      have hcg : wr.cell? ⟨g, done.length, none⟩ = some (ptr b) := by
        rw [cell_of_heap h6, CU.out done.length hdl]
        simp [h2]
      have hbw : b < w.heap.size := lt_of_heap hv'
      have hc0 : wr.cell? ⟨b, 0, none⟩ = some (.string op) := by rw [h7.cell (p := ⟨b, 0, none⟩) hbw]; simp [cell_of_heap hv']
      have hb0 : ∀ i, w.cell? ⟨b, i, none⟩ = #[.string op, .int .i64 (n : Int), v'][i]? := fun i => cell_of_heap hv' i
      have TL := txt_len done r b op n
      rw [← h2] at TL
      have T2 := Lib.hid TL
      have B0 := Lib.hid hb0
      have HCH := Lib.hid hch
      have H1 := Lib.hid (show gk = r.length + 1 from h1)
      have H2 := Lib.hid h2
      have H3 := Lib.hid h3
      have H6 := Lib.hid h6
      have H7 := Lib.hid h7
      have HN := Lib.hid hn
      have hgne : g ≠ w.heap.size := by omega
      have GN := Lib.hid hgne
      clear h1 h2 h3 h4 h6 h7 hb0 hv' hch TL hn hgne
      -- op
      go_wp2_with fail
      refine (Tryd.Builder_WriteString_k w.heap.size w.heap.size _ _ _ H3.out ?_ H7.out.size).mono ?_
      · exact room1 _ _ (by have h1 := TX.out; have h2 := T2.out; omega)
      rintro e2 w2 ⟨rfl, hbd, hb2, hk2⟩
      have BD2 := Lib.hid (bld_more (p := .nilIface) hbd)
      have HB2 := Lib.hid (H7.out.trans hb2)
      have RO2 := Lib.hid (kept_row hk2 H6.out GN.out)
      clear hbd hb2 hk2 hc0 hcg
      -- a blank
      go_wp2_with fail
      refine (Tryd.Builder_WriteString_k w.heap.size w.heap.size _ _ _ BD2.out ?_ HB2.out.size).mono ?_
      · exact room1 _ _ (by have h1 := TX.out; have h2 := T2.out; rw [List.length_append]; show _ + _ + 1 ≤ _; omega)
      rintro e3 w3 ⟨rfl, hbd, hb3, hk3⟩
      have BD3 := Lib.hid (bld_more (p := .nilIface) hbd)
      have HB3 := Lib.hid (HB2.out.trans hb3)
      have RO3 := Lib.hid (kept_row hk3 RO2.out GN.out)
      have hc1 : w3.cell? ⟨b, 1, none⟩ = some (.int .i64 (n : Int)) := by rw [HB3.out.cell (p := ⟨b, 1, none⟩) hbw, B0.out 1]; rfl
      clear hbd hb3 hk3
      -- the place
      go_wp2_with fail
      refine (Tryd.strconv_Itoa_small n HN.out _).mono ?_
      rintro e4 w4 ⟨rfl, rfl⟩
      go_wp2_with fail
      refine (Tryd.Builder_WriteString_k w.heap.size w.heap.size _ _ _ BD3.out ?_ HB3.out.size).mono ?_
      · exact room1 _ _ (by have h1 := TX.out; have h2 := T2.out; rw [List.length_append, List.length_append]; show _ + _ + 1 + (Lib.decDigits n).length ≤ _; omega)
      rintro e5 w5 ⟨rfl, hbd, hb5, hk5⟩
      have BD5 := Lib.hid (bld_more (p := .nilIface) hbd)
      have HB5 := Lib.hid (HB3.out.trans hb5)
      have RO5 := Lib.hid (kept_row hk5 RO3.out GN.out)
      clear hbd hb5 hk5 hc1
      -- a colon, a blank
      go_wp2_with fail
      refine (Tryd.Builder_WriteString_k w.heap.size w.heap.size _ _ _ BD5.out ?_ HB5.out.size).mono ?_
      · exact room1 _ _ (by have h1 := TX.out; have h2 := T2.out; rw [List.length_append, List.length_append, List.length_append]; show _ + _ + 1 + (Lib.decDigits n).length + 2 ≤ _; omega)
      rintro e6 w6 ⟨rfl, hbd, hb6, hk6⟩
      have BD6 := Lib.hid (bld_more (p := .nilIface) hbd)
      have HB6 := Lib.hid (HB5.out.trans hb6)
      have RO6 := Lib.hid (kept_row hk6 RO5.out GN.out)
      have hc2 : w6.cell? ⟨b, 2, none⟩ = some v' := by rw [HB6.out.cell (p := ⟨b, 2, none⟩) hbw, B0.out 2]; rfl
      clear hbd hb6 hk6
      go_wp2
      go_roundg r.length
      case measure => have := H1.out; omega
      case rel =>
        refine ⟨done ++ [(b, op, (n : Int))], r, ⟨rfl, by rw [H2.out]; simp, ?_, Or.inr HCH.out, by simp, RO6.out, HB6.out⟩⟩
        have h := BD6.out
        rw [txt_snoc]
        exact h
end Go.Proofs.YtiiobgbebpapnaaDoor.Fa
