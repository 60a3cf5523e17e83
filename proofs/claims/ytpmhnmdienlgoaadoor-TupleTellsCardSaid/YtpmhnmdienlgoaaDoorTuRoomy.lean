/-
  Roomy of a list of attributes, of the statements' own package: a copy in new memory with 80 marks behind it. Condition: at most 100 attributes.
-/
import Derived.Test.YtpmhnmdienlgoaaDoorAtNamesC
import Derived.Test.YtpmhnmdienlgoaaDoorTuPut
import Derived.Laws.CopyRow
import Derived.Laws.MakeOwn
namespace Go.Proofs.YtpmhnmdienlgoaaDoor.At
open Go.RowKit Go.Sort Go.Proofs.YtpmhnmdienlgoaaDoor.Va Go.Proofs.YtpmhnmdienlgoaaDoor.In Go.Proofs.YtpmhnmdienlgoaaDoor.Rg

abbrev z4 : A4 := (⟨#[]⟩, false, 0, ⟨#[]⟩)
/-- A copy, met by its run. -/
theorem wpList_copy_run {P : Program} {ops : Array Oper} {rest : List Oper} {o : Oper} {a : Act} {Q : Exit → Act → World → Prop} {w w' : World} (hgd : o.guard = none) (s x : Operand) (t : TypeId)
    (ho : o.op = .call { callee := .builtin .copy, args := #[s, x], argTypes := #[t, t] }) {v xv v' : Value} (hs : a.eval s = v) (hx : a.eval x = xv) (hr : (Builtin.copy_ #[t, t] o.type #[v, xv]).run P w = .ok v' w')
    (h : wpList P ops Q rest (a.put o.dst v') w') : wpList P ops Q (o :: rest) a w := by
  refine wpList_plain hgd fun K hK => ?_
  unfold Oper.wp execOp
  simp only [ho, resolve, invoke, builtin, Sem.run_bind, Sem.run_pure, Result.andThen_ok, List.map_toArray, List.map_cons, List.map_nil, hs, hx, hr]
  exact hK _ _ h
theorem flatA_zeros : ∀ n, flatA (List.replicate n z4) = (madeCells #[.string ⟨#[]⟩, .bool false, .int .i64 0, .string ⟨#[]⟩] (n * 4)).toList := by
  intro n
  apply List.ext_getElem?
  intro j
  by_cases hj : j < n * 4
  · have h := flatA_at (List.replicate n z4) (j / 4) z4 (by rw [List.getElem?_replicate, if_pos (by omega)])
    have e : (madeCells #[.string ⟨#[]⟩, .bool false, .int .i64 0, .string ⟨#[]⟩] (n * 4)).toList[j]? = some (#[.string ⟨#[]⟩, .bool false, .int .i64 0, .string ⟨#[]⟩][j % 4]! : Value) := by
      unfold madeCells
      rw [Array.getElem?_toList, Array.getElem?_map, Array.getElem?_range, if_pos hj]
      rfl
    rw [e]
    have h4 : j % 4 = 0 ∨ j % 4 = 1 ∨ j % 4 = 2 ∨ j % 4 = 3 := by omega
    rcases h4 with h4 | h4 | h4 | h4
    · rw [h4]
      have e4 : (flatA (List.replicate n z4))[j]? = (flatA (List.replicate n z4))[j / 4 * 4]? := by rw [show j / 4 * 4 = j by omega]
      rw [e4]; exact h.1
    · rw [h4]
      have e4 : (flatA (List.replicate n z4))[j]? = (flatA (List.replicate n z4))[j / 4 * 4 + 1]? := by rw [show j / 4 * 4 + 1 = j by omega]
      rw [e4]; exact h.2.1
    · rw [h4]
      have e4 : (flatA (List.replicate n z4))[j]? = (flatA (List.replicate n z4))[j / 4 * 4 + 2]? := by rw [show j / 4 * 4 + 2 = j by omega]
      rw [e4]; exact h.2.2.1
    · rw [h4]
      have e4 : (flatA (List.replicate n z4))[j]? = (flatA (List.replicate n z4))[j / 4 * 4 + 3]? := by rw [show j / 4 * 4 + 3 = j by omega]
      rw [e4]; exact h.2.2.2
  · rw [List.getElem?_eq_none (by rw [flatA_length]; simp; omega), List.getElem?_eq_none (by simp [madeCells]; omega)]
theorem make_fullA (w : World) (n : Nat) (hn : n ≤ 1000) :
    ∃ w', (Instr.makeSlice 26 (.int .i64 (n : Int)) (.int .i64 (n : Int))).run Tryd.prog w = .ok (.slice (some ⟨w.heap.size, 0, none⟩) n n) w' ∧ w'.ownsRow w.heap.size 25 4 (.slice (some ⟨w.heap.size, 0, none⟩) n n) n (flatA (List.replicate n z4)) ∧ w.grownBy w' none := by
  obtain ⟨i, i1, i2, i3, i4⟩ := infoA
  obtain ⟨w', h1, h2, h3⟩ := run_make_full (P := Tryd.prog) w w.heap.size 26 25 i _ 4 Tryd.underlying26 i1 i2 i3 .i64 .i64 n (by rw [i4]; omega) (by unfold maxLen; omega) (Nat.le_refl _)
  exact ⟨w', h1, by rw [flatA_zeros]; exact h2, h3⟩
theorem below_setRow {B g : Nat} {W w : World} (h : Below B W w) (hB : B ≤ g) (cs : Array Value) : Below B W (w.setRow g cs) :=
  ⟨h.os, h.tape, h.output, by simp [World.setRow]; exact h.size, fun k hk => by
    have hne : g ≠ k := by omega
    have h2 := h.block k hk
    simp [World.setRow, Array.getElem?_modify, hne, h2]⟩
theorem copy_rowA (w : World) (B g n : Nat) (x : Value) (l m : List A4) (hx : RowA w x l) (ho : w.ownsRow B 25 4 (.slice (some ⟨g, 0, none⟩) n n) n (flatA (List.replicate l.length z4 ++ m))) (hn : n = l.length + m.length) (hB : B ≤ g) (ty : TypeId) :
    ∃ w', (Builtin.copy_ #[26, 26] ty #[.slice (some ⟨g, 0, none⟩) n n, x]).run Tryd.prog w = .ok (.int .i64 l.length) w' ∧ w'.ownsRow B 25 4 (.slice (some ⟨g, 0, none⟩) n n) n (flatA (l ++ m)) ∧ Below B w w' := by
  obtain ⟨i, i1, i2, i3, i4⟩ := infoA
  obtain ⟨ho1, ho2⟩ := ho
  rcases ho2 with ⟨h, _⟩ | ⟨g', cap, cur, h1, h2, h3, h4, h5, h6, h7⟩
  · cases h
  · obtain ⟨rfl, rfl⟩ : g = g' ∧ n = cap := by simpa using h1
    rcases hx with ⟨rfl, rfl⟩ | ⟨a, c, rfl, hc1, hc2, hc3⟩
    · refine ⟨w, ?_, ⟨by simpa using ho1, Or.inr ⟨g, n, cur, rfl, h2, h3, h4, h5, h6, by simpa using h7⟩⟩, Below.refl _ _⟩
      simp [Builtin.copy_, run_underlying Tryd.underlying26, Builtin.lenOf, Builtin.firstCells, sizeOf, typeInfo, i1, storeCells, goInt]
    · have hmin : min l.length n = l.length := by omega
      have hl := run_loadCells_list (P := Tryd.prog) w a (flatA l) hc3
      have hst := run_storeCells_at Tryd.prog g 0 25 (flatA l) 0 cur w h3 (by rw [flatA_length, h6]; omega) (flatA_one l)
      refine ⟨w.setRow g (cur.toList.take 0 ++ flatA l ++ cur.toList.drop (0 + (flatA l).length)).toArray, ?_, ⟨by simp [flatA_length, hn], Or.inr ⟨g, n, _, rfl, h2, setRow_heap w g cur _ 25 (0, 0) h3, h4, h5, ?_, ?_⟩⟩, below_setRow (Below.refl _ _) hB _⟩
      · rw [flatA_length] at hl
        simp [Builtin.copy_, run_underlying Tryd.underlying26, Builtin.lenOf, Builtin.firstCells, sizeOf, typeInfo, i1, i3, hmin, hl, goInt]
        simpa using congrArg (fun r => r.andThen fun _ w => Result.ok (Value.int .i64 l.length) w) hst
      · simp [flatA_length, h6]; omega
      · have h8 : cur.toList = flatA (List.replicate l.length z4 ++ m) := by
          rw [← h7, List.take_of_length_le (by rw [Array.length_toList, h6]; exact Nat.le_refl _)]
        rw [h8, flatA_append, flatA_append, flatA_length]
        have h9 : (flatA (List.replicate l.length z4)).length = l.length * 4 := by rw [flatA_length]; simp
        rw [show 0 + l.length * 4 = (flatA (List.replicate l.length z4)).length by rw [h9]; omega, List.drop_left]
        rw [List.take_of_length_le (by simp [flatA_length]; omega)]
        simp

theorem below_four {B : Nat} {W w : World} (hb : Below B W w) (g : Nat) (hB : B ≤ g) (o : Nat) (v0 v1 v2 v3 : Value) : Below B W ((((w.setCell ⟨g, o, none⟩ v0).setCell ⟨g, o + 1, none⟩ v1).setCell ⟨g, o + 2, none⟩ v2).setCell ⟨g, o + 3, none⟩ v3) :=
  (((hb.setCell hB _).setCell hB _).setCell hB _).setCell hB _
theorem set_mid (a r : List A4) (z x : A4) : (a ++ z :: r).set a.length x = a ++ x :: r := by
  induction a with
  | nil => rfl
  | cons y a ih => simp
theorem set_room (l : List A4) (k : Nat) (x : A4) (hk : k < 80) : (l ++ List.replicate k x ++ List.replicate (80 - k) z4).set (l.length + k) x = l ++ List.replicate (k + 1) x ++ List.replicate (80 - (k + 1)) z4 := by
  rw [show 80 - k = (80 - (k + 1)) + 1 by omega, List.replicate_succ]
  have h := set_mid (l ++ List.replicate k x) (List.replicate (80 - (k + 1)) z4) z4 x
  rw [show (l ++ List.replicate k x).length = l.length + k by simp] at h
  rw [h, List.replicate_succ']
  simp
theorem room_at (l : List A4) (k : Nat) (x : A4) (hk : k < 80) : (l ++ List.replicate k x ++ List.replicate (80 - k) z4)[l.length + k]? = some z4 := by
  rw [List.getElem?_append_right (by simp), List.getElem?_replicate, if_pos (by simp; omega)]
theorem index_own (g m len cap : Nat) (h : m < len) (w : World) : (Instr.indexAt 26 (.slice (some ⟨g, 0, none⟩) len cap) (.int .i64 m)).run Tryd.prog w = .ok (.pointer (some ⟨g, m * 4, none⟩)) w := by
  rw [index_runA ⟨g, 0, none⟩ m len cap h w]
  have e : (⟨g, 0, none⟩ : Addr).add (m * 4) = ⟨g, m * 4, none⟩ := by unfold Addr.add; split <;> simp_all
  rw [e]

set_option maxRecDepth 100000 in
set_option maxHeartbeats 8000000 in
theorem roomy_any (lv : Value) (l : List A4) (x : A4) (w : World) (hl : RowA w lv l) (h5 : l.length ≤ 100) :
    Calls Tryd.prog 13 #[lv, av x] w fun e w' => ∃ g, e = .returned (.slice (some ⟨g, 0, none⟩) (l.length + 80) (l.length + 80)) ∧ w'.ownsRow w.heap.size 25 4 (.slice (some ⟨g, 0, none⟩) (l.length + 80) (l.length + 80)) (l.length + 80) (flatA (l ++ List.replicate 80 x)) ∧ Below w.heap.size w w' := by
  obtain ⟨xn, xt, xi, xs⟩ := x
  have B1 := Lib.hid (show Below w.heap.size w (w.alloc (.cells #[.string xn, .bool xt, .int .i64 xi, .string xs] 25)) from (Below.refl _ _).alloc (Nat.le_refl _) _)
  have BX := Lib.hid (boxA_new w (xn, xt, xi, xs))
  have HL := Lib.hid (hl.on B1.out)
  obtain ⟨ao, ac, rfl⟩ := hl.len
  clear hl
  have SZ : (w.alloc (.cells #[.string xn, .bool xt, .int .i64 xi, .string xs] 25)).heap.size = w.heap.size + 1 := by simp
  obtain ⟨w2, mk, o2, g2⟩ := make_fullA (w.alloc (.cells #[.string xn, .bool xt, .int .i64 xi, .string xs] 25)) (l.length + 80) (by omega)
  have B2 := Lib.hid ((Below.refl (w.alloc (.cells #[.string xn, .bool xt, .int .i64 xi, .string xs] 25)).heap.size (w.alloc (.cells #[.string xn, .bool xt, .int .i64 xi, .string xs] 25))).grown g2 (Nat.le_refl _) (fun j hj => by cases hj))
  have o2' : w2.ownsRow (w.heap.size + 1) 25 4 (.slice (some ⟨w.heap.size + 1, 0, none⟩) (l.length + 80) (l.length + 80)) (l.length + 80) (flatA (List.replicate l.length z4 ++ List.replicate 80 z4)) := by
    rw [List.replicate_append_replicate, ← SZ]; exact o2
  obtain ⟨w3, r3, o3, b3⟩ := copy_rowA w2 (w.heap.size + 1) (w.heap.size + 1) (l.length + 80) _ l (List.replicate 80 z4) (HL.out.on B2.out) o2' (by simp) (Nat.le_refl _) 3
  rw [SZ] at B2 mk
  have O3 := Lib.hid o3
  have B3 := Lib.hid (B2.out.trans b3)
  rw [show ((l.length + 80 : Nat) : Int) = (l.length : Int) + 80 from rfl] at mk
  have SZH := Lib.hid SZ
  clear o2 g2 o2' o3 b3 SZ
  go_enter Tryd.func13, Tryd.ntmps13
  go_wp2_with (first | (at_builtin; refine wpList_copy_run rfl _ _ 26 rfl rfl rfl r3 ?_) | fail)
  clear mk r3
  go_loopw [6] (fun i wr => ∃ k : Nat, k ≤ 80 ∧ i = .int .i64 ((l.length : Int) + k) ∧ Below (w.heap.size + 1) (w.alloc (.cells #[.string xn, .bool xt, .int .i64 xi, .string xs] 25)) wr ∧
    wr.ownsRow (w.heap.size + 1) 25 4 (.slice (some ⟨w.heap.size + 1, 0, none⟩) (l.length + 80) (l.length + 80)) (l.length + 80) (flatA (l ++ List.replicate k (xn, xt, xi, xs) ++ List.replicate (80 - k) z4))) (fun i _ => l.length + 80 - (intOf i).toNat)
  case atStart => exact ⟨0, by omega, by simp, B3.out, by simpa using O3.out⟩
  case round =>
    obtain ⟨k, hk, rfl, hb, how⟩ := hrel
    have HB := Lib.hid hb
    have OW := Lib.hid how
    have BW := Lib.hid (B1.out.trans (hb.mono (by omega)))
    have X0 := BX.out.on (by rw [SZH.out]; exact hb)
    have c0 := X0.cell 0
    have c1 := X0.cell 1
    have c2 := X0.cell 2
    have c3 := X0.cell 3
    simp at c0 c1 c2 c3
    clear hb X0
    by_cases hlt : k < 80
    · have hf := flatA_at _ _ _ (room_at l k (xn, xt, xi, xs) hlt)
      have s0 := (how.cellAt _ (by omega)).trans hf.1
      have s1 := (how.cellAt _ (by omega)).trans hf.2.1
      have s2 := (how.cellAt _ (by omega)).trans hf.2.2.1
      have s3 := (how.cellAt _ (by omega)).trans hf.2.2.2
      have f := fun j => how.frozenAt j
      have ix := index_own (w.heap.size + 1) (l.length + k) (l.length + 80) (l.length + 80) (by omega)
      rw [show ((l.length + k : Nat) : Int) = (l.length : Int) + k from rfl] at ix
      have o1 := (how.stored ((l.length + k) * 4) (.string xn)).1
      have o2 := (o1.stored ((l.length + k) * 4 + 1) (.bool xt)).1
      have o3 := (o2.stored ((l.length + k) * 4 + 2) (.int .i64 xi)).1
      have o4 := (o3.stored ((l.length + k) * 4 + 3) (.string xs)).1
      rw [← flatA_set _ (l.length + k) (xn, xt, xi, xs) (by simp; omega), set_room l k _ hlt] at o4
      have B4 := Lib.hid (below_four HB.out (w.heap.size + 1) (Nat.le_refl _) ((l.length + k) * 4) (.string xn) (.bool xt) (.int .i64 xi) (.string xs))
      have O4 := Lib.hid o4
      have h81 : (l.length : Int) + k < (l.length : Int) + 80 := by omega
      clear hf o1 o2 o3 o4 how
      go_wp2
      go_roundw
      case rel => exact ⟨k + 1, by omega, by go_num, B4.out, O4.out⟩
      case measure => simp [intOf]; omega
    · obtain rfl : k = 80 := by omega
      have h81 : ¬ (l.length : Int) + 80 < (l.length : Int) + 80 := by omega
      clear how
      go_wp2
      go_ret
      exact ⟨_, rfl, own_less (Nat.le_succ _) (by simpa using OW.out), BW.out⟩
end Go.Proofs.YtpmhnmdienlgoaaDoor.At
