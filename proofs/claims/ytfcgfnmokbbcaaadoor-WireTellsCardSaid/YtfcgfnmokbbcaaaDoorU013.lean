/-
  Roomy and Intact of the statements' own package, of bytes and of numbers: a copy in new memory with 80 marks behind it, and whether all of it is there still. Condition: lists of at most 10000.
  Intact of the statements' own package, where all is there still: bytes, numbers. Condition: lists of at most 10000.
  The law NumRuns: chapter 7's runs of package num. No condition.
-/
import Derived.Test.YtfcgfnmokbbcaaaDoorU012
import Derived.Test.YtfcgfnmokbbcaaaDoorU007
namespace Go.Proofs.YtfcgfnmokbbcaaaDoor.Nm
open Go.RowKit Go.Proofs.YtfcgfnmokbbcaaaDoor Go.Proofs.YtfcgfnmokbbcaaaDoor.Rw

theorem set_mid {α : Type} (a r : List α) (z x : α) : (a ++ z :: r).set a.length x = a ++ x :: r := by
  induction a with
  | nil => rfl
  | cons y a ih => simp
theorem set_room {α : Type} (l : List α) (k : Nat) (x z : α) (hk : k < 80) : (l ++ List.replicate k x ++ List.replicate (80 - k) z).set (l.length + k) x = l ++ List.replicate (k + 1) x ++ List.replicate (80 - (k + 1)) z := by
  rw [show 80 - k = (80 - (k + 1)) + 1 by omega, List.replicate_succ]
  have h := set_mid (l ++ List.replicate k x) (List.replicate (80 - (k + 1)) z) z x
  rw [show (l ++ List.replicate k x).length = l.length + k by simp] at h
  rw [h, List.replicate_succ']
  simp
theorem room_at {α : Type} (l : List α) (k : Nat) (x z : α) (hk : k < 80) : (l ++ List.replicate k x ++ List.replicate (80 - k) z)[l.length + k]? = some z := by
  rw [List.getElem?_append_right (by simp), List.getElem?_replicate, if_pos (by simp; omega)]
theorem infoI : ∃ i, Tryd.prog.info? 3 = some i ∧ i.zero = some (.int .i64 0) ∧ i.size = 1 ∧ i.bytes = 8 := okI.info
theorem make_fullI (w : World) (n : Nat) (hn : n ≤ 1000000) :
    ∃ w', (Instr.makeSlice 37 (.int .i64 (n : Int)) (.int .i64 (n : Int))).run Tryd.prog w = .ok (.slice (some ⟨w.heap.size, 0, none⟩) n n) w' ∧ OwnI w' w.heap.size (.slice (some ⟨w.heap.size, 0, none⟩) n n) (List.replicate n 0) ∧ w.grownBy w' none := by
  obtain ⟨i, i1, i2, i3, i4⟩ := infoI
  obtain ⟨w', h1, h2, h3⟩ := run_make_full (P := Tryd.prog) w w.heap.size 37 3 i _ 1 Tryd.underlying37 i1 i2 i3 .i64 .i64 n (by rw [i4]; omega) (by unfold maxLen; omega) (Nat.le_refl _)
  refine ⟨w', h1, ?_, h3⟩
  rw [OwnI, Own, flatI, List.length_replicate]
  have e : (List.replicate n (0 : Int)).map (fun n => Value.int .i64 n) = (madeCells #[.int .i64 0] (n * 1)).toList := by
    rw [toList_madeCells_one]
    simp
  rw [e]
  exact h2
theorem own_lt {w : World} {B g n cap m size : Nat} {e : TypeId} {xs : List Value} (h : w.ownsRow B e size (.slice (some ⟨g, 0, none⟩) n cap) m xs) : g < w.heap.size := by
  rcases h.2 with ⟨h, _⟩ | ⟨g', cap, cur, h1, h2, h3, _⟩
  · cases h
  · obtain ⟨rfl, _⟩ : g = g' ∧ _ := by simpa using h1
    exact Rw.lt_of_heap h3
theorem own_of {α : Type} {E : Ek α} {w : World} {B n : Nat} {v : Value} {l : List α} (hn : l.length = n) (h : w.ownsRow B E.t E.n v n (flat E l)) : Own E w B v l := by
  subst hn
  exact h
theorem own_cut {α : Type} {E : Ek α} (K : E.Ok) {w : World} {B g n cap : Nat} {l : List α} (h : Own E w B (.slice (some ⟨g, 0, none⟩) n cap) l) (hn : n = l.length) (k : Nat) (hk : k ≤ n) : Row E w (.slice (some ⟨g, 0, none⟩) k cap) (l.take k) :=
  row_take K (Row.of_own h) (by omega)
theorem copyB (w : World) (B g n : Nat) (x : Value) (l m : List UInt8) (hx : RowB w x l) (ho : w.ownsRow B 5 1 (.slice (some ⟨g, 0, none⟩) n n) n (flat EB (List.replicate l.length 0 ++ m))) (hn : n = l.length + m.length) (hB : B ≤ g) (ty : TypeId) :
    ∃ w', (Builtin.copy_ #[22, 22] ty #[.slice (some ⟨g, 0, none⟩) n n, x]).run Tryd.prog w = .ok (.int .i64 l.length) w' ∧ w'.ownsRow B 5 1 (.slice (some ⟨g, 0, none⟩) n n) n (flat EB (l ++ m)) ∧ Below B w w' := by
  obtain ⟨i, i1, i2, i3, i4⟩ := infoB
  have fl : ∀ l : List UInt8, (flat EB l).length = l.length := fun l => by rw [flatB]; simp
  obtain ⟨ho1, ho2⟩ := ho
  rcases ho2 with ⟨h, _⟩ | ⟨g', cap, cur, h1, h2, h3, h4, h5, h6, h7⟩
  · cases h
  · obtain ⟨rfl, rfl⟩ : g = g' ∧ n = cap := by simpa using h1
    rcases hx with ⟨rfl, rfl⟩ | ⟨a, c, rfl, hc1, hc2, hc3⟩
    · refine ⟨w, ?_, ⟨by simpa using ho1, Or.inr ⟨g, n, cur, rfl, h2, h3, h4, h5, h6, by simpa using h7⟩⟩, Below.refl _ _⟩
      simp [Builtin.copy_, run_underlying Tryd.underlying22, Builtin.lenOf, Builtin.firstCells, sizeOf, typeInfo, i1, storeCells, goInt]
    · have hmin : min l.length n = l.length := by omega
      have hl := run_loadCells_list (P := Tryd.prog) w a (flat EB l) hc3
      have hst := run_storeCells_at Tryd.prog g 0 5 (flat EB l) 0 cur w h3 (by rw [fl, h6]; omega) (flat_cell okB l)
      refine ⟨w.setRow g (cur.toList.take 0 ++ flat EB l ++ cur.toList.drop (0 + (flat EB l).length)).toArray, ?_, ⟨by simp [fl, hn], Or.inr ⟨g, n, _, rfl, h2, setRow_heap w g cur _ 5 (0, 0) h3, h4, h5, ?_, ?_⟩⟩, below_setRow (Below.refl _ _) hB _⟩
      · rw [fl] at hl
        simp [Builtin.copy_, run_underlying Tryd.underlying22, Builtin.lenOf, Builtin.firstCells, sizeOf, typeInfo, i1, i3, hmin, hl, goInt]
        simpa using congrArg (fun r => r.andThen fun _ w => Result.ok (Value.int .i64 l.length) w) hst
      · simp [fl, h6]; omega
      · have h8 : cur.toList = flat EB (List.replicate l.length 0 ++ m) := by
          rw [← h7, List.take_of_length_le (by rw [Array.length_toList, h6]; exact Nat.le_refl _)]
        rw [h8, flat_append, flat_append, fl]
        have h9 : (flat EB (List.replicate l.length 0)).length = l.length := by rw [fl]; simp
        rw [show 0 + l.length = (flat EB (List.replicate l.length 0)).length by rw [h9]; omega, List.drop_left]
        rw [List.take_of_length_le (by simp [fl]; omega)]
        simp
set_option maxRecDepth 100000 in
set_option maxHeartbeats 8000000 in
theorem roomyB (lv : Value) (l : List UInt8) (x : UInt8) (w : World) (hl : RowB w lv l) (h5 : l.length ≤ 10000) :
    Calls Tryd.prog 21 #[lv, (.int .u8 x.toNat)] w fun e w' => ∃ g, e = .returned (.slice (some ⟨g, 0, none⟩) (l.length + 80) (l.length + 80)) ∧ OwnB w' w.heap.size (.slice (some ⟨g, 0, none⟩) (l.length + 80) (l.length + 80)) (l ++ List.replicate 80 x) ∧ Below w.heap.size w w' := by
  have HL := Lib.hid hl
  obtain ⟨ao, ac, rfl⟩ := hl.len
  clear hl
  have fl : ∀ l : List UInt8, (flat EB l).length = l.length := fun l => by rw [flatB]; simp
  have FL := Lib.hid fl
  clear fl
  obtain ⟨w2, mk, o2, g2⟩ := make_full8 w (l.length + 80) (by omega)
  have B2 := Lib.hid ((Below.refl w.heap.size w).grown g2 (Nat.le_refl _) (fun j hj => by cases hj))
  have o2' : w2.ownsRow w.heap.size 5 1 (.slice (some ⟨w.heap.size, 0, none⟩) (l.length + 80) (l.length + 80)) (l.length + 80) (flat EB (List.replicate l.length 0 ++ List.replicate 80 0)) := by
    rw [List.replicate_append_replicate]
    have h := o2
    rw [OwnB, Own, List.length_replicate] at h
    exact h
  obtain ⟨w3, r3, o3, b3⟩ := copyB w2 w.heap.size w.heap.size (l.length + 80) _ l (List.replicate 80 0) (HL.out.on B2.out) o2' (by simp) (Nat.le_refl _) 3
  have O3 := Lib.hid o3
  have B3 := Lib.hid (B2.out.trans b3)
  rw [show ((l.length + 80 : Nat) : Int) = (l.length : Int) + 80 from rfl] at mk
  clear o2 g2 o2' o3 b3
  obtain ⟨n, hn⟩ : ∃ n, n = l.length := ⟨_, rfl⟩
  have HN := Lib.hid hn
  simp only [← hn] at mk r3 O3 h5 HL ⊢
  clear hn
  go_enter Tryd.func21, Tryd.ntmps21
  go_wp2_with (first | (at_builtin; fail) | (refine wpList_copy_run rfl _ _ 22 rfl rfl rfl r3 ?_) | fail)
  clear mk r3
  go_loopw [6] (fun i wr => ∃ k : Nat, k ≤ 80 ∧ i = .int .i64 ((n : Int) + k) ∧ Below w.heap.size w wr ∧
    wr.ownsRow w.heap.size 5 1 (.slice (some ⟨w.heap.size, 0, none⟩) (n + 80) (n + 80)) (n + 80) (flat EB (l ++ List.replicate k x ++ List.replicate (80 - k) 0))) (fun i _ => n + 80 - (intOf i).toNat)
  case atStart => exact ⟨0, by omega, by simp, B3.out, by simpa using O3.out⟩
  case round =>
    obtain ⟨k, hk, rfl, hb, how⟩ := hrel
    have HB := Lib.hid hb
    have OW := Lib.hid how
    clear hb
    by_cases hlt : k < 80
    · have hf := flat_at okB _ _ _ (room_at l k x 0 hlt) 0 (by decide)
      rw [← HN.out] at hf
      have s0 := (how.cellAt ((n + k) * 1 + 0) (by omega)).trans hf
      have f := how.frozenAt (n + k)
      have ix := index_own okB w.heap.size (n + k) (n + 80) (n + 80) (by omega)
      have o1 := (how.stored (n + k) (.int .u8 x.toNat)).1
      have e1 : (flat EB (l ++ List.replicate k x ++ List.replicate (80 - k) 0)).set (n + k) (.int .u8 x.toNat) = flat EB (l ++ List.replicate (k + 1) x ++ List.replicate (80 - (k + 1)) 0) := by
        rw [← set_room l k x 0 hlt, flatB, flatB, List.map_set, HN.out]
      rw [e1] at o1
      have B4 := Lib.hid (HB.out.setCell (p := ⟨w.heap.size, n + k, none⟩) (Nat.le_refl _) (.int .u8 x.toNat))
      have O4 := Lib.hid o1
      have LT := own_lt how
      have h81 : (n : Int) + k < (n : Int) + 80 := by omega
      rw [show EB.n = 1 from rfl, Nat.mul_one] at ix
      rw [Nat.mul_one, Nat.add_zero] at s0
      rw [show ((n + k : Nat) : Int) = (n : Int) + k from rfl] at ix
      rw [show (EB.cells 0)[0]? = some (.int .u8 0) from rfl] at s0
      rw [show EB.ts = 22 from rfl] at ix
      clear hf o1 how e1
      go_wp2
      go_roundw
      case rel => exact ⟨k + 1, by omega, by go_num, B4.out, O4.out⟩
      case measure => simp [intOf]; omega
    · obtain rfl : k = 80 := by omega
      have h81 : ¬ (n : Int) + 80 < (n : Int) + 80 := by omega
      clear how
      go_wp2
      go_ret
      refine ⟨_, rfl, ?_, HB.out⟩
      have h := OW.out
      rw [Nat.sub_self, List.replicate_zero, List.append_nil] at h
      exact own_of (l := l ++ List.replicate 80 x) (by rw [List.length_append, List.length_replicate, ← HN.out]) h
theorem copyI (w : World) (B g n : Nat) (x : Value) (l m : List Int) (hx : RowI w x l) (ho : w.ownsRow B 3 1 (.slice (some ⟨g, 0, none⟩) n n) n (flat EI (List.replicate l.length 0 ++ m))) (hn : n = l.length + m.length) (hB : B ≤ g) (ty : TypeId) :
    ∃ w', (Builtin.copy_ #[37, 37] ty #[.slice (some ⟨g, 0, none⟩) n n, x]).run Tryd.prog w = .ok (.int .i64 l.length) w' ∧ w'.ownsRow B 3 1 (.slice (some ⟨g, 0, none⟩) n n) n (flat EI (l ++ m)) ∧ Below B w w' := by
  obtain ⟨i, i1, i2, i3, i4⟩ := infoI
  have fl : ∀ l : List Int, (flat EI l).length = l.length := fun l => by rw [flatI]; simp
  obtain ⟨ho1, ho2⟩ := ho
  rcases ho2 with ⟨h, _⟩ | ⟨g', cap, cur, h1, h2, h3, h4, h5, h6, h7⟩
  · cases h
  · obtain ⟨rfl, rfl⟩ : g = g' ∧ n = cap := by simpa using h1
    rcases hx with ⟨rfl, rfl⟩ | ⟨a, c, rfl, hc1, hc2, hc3⟩
    · refine ⟨w, ?_, ⟨by simpa using ho1, Or.inr ⟨g, n, cur, rfl, h2, h3, h4, h5, h6, by simpa using h7⟩⟩, Below.refl _ _⟩
      simp [Builtin.copy_, run_underlying Tryd.underlying37, Builtin.lenOf, Builtin.firstCells, sizeOf, typeInfo, i1, storeCells, goInt]
    · have hmin : min l.length n = l.length := by omega
      have hl := run_loadCells_list (P := Tryd.prog) w a (flat EI l) hc3
      have hst := run_storeCells_at Tryd.prog g 0 3 (flat EI l) 0 cur w h3 (by rw [fl, h6]; omega) (flat_cell okI l)
      refine ⟨w.setRow g (cur.toList.take 0 ++ flat EI l ++ cur.toList.drop (0 + (flat EI l).length)).toArray, ?_, ⟨by simp [fl, hn], Or.inr ⟨g, n, _, rfl, h2, setRow_heap w g cur _ 3 (0, 0) h3, h4, h5, ?_, ?_⟩⟩, below_setRow (Below.refl _ _) hB _⟩
      · rw [fl] at hl
        simp [Builtin.copy_, run_underlying Tryd.underlying37, Builtin.lenOf, Builtin.firstCells, sizeOf, typeInfo, i1, i3, hmin, hl, goInt]
        simpa using congrArg (fun r => r.andThen fun _ w => Result.ok (Value.int .i64 l.length) w) hst
      · simp [fl, h6]; omega
      · have h8 : cur.toList = flat EI (List.replicate l.length 0 ++ m) := by
          rw [← h7, List.take_of_length_le (by rw [Array.length_toList, h6]; exact Nat.le_refl _)]
        rw [h8, flat_append, flat_append, fl]
        have h9 : (flat EI (List.replicate l.length 0)).length = l.length := by rw [fl]; simp
        rw [show 0 + l.length = (flat EI (List.replicate l.length 0)).length by rw [h9]; omega, List.drop_left]
        rw [List.take_of_length_le (by simp [fl]; omega)]
        simp
end Go.Proofs.YtfcgfnmokbbcaaaDoor.Nm

namespace Go.Proofs.YtfcgfnmokbbcaaaDoor.Nm
open Go.RowKit Go.Proofs.YtfcgfnmokbbcaaaDoor Go.Proofs.YtfcgfnmokbbcaaaDoor.Rw

set_option maxRecDepth 100000 in
set_option maxHeartbeats 8000000 in
theorem intactB (a : Addr) (cap : Nat) (wv : Value) (l : List UInt8) (x : UInt8) (w : World) (hf : RowB w (.slice (some a) (l.length + 80) cap) (l ++ List.replicate 80 x)) (hw : RowB w wv l) (hl : l.length ≤ 10000) :
    Calls Tryd.prog 22 #[.slice (some a) (l.length + 80) cap, wv, (.int .u8 x.toNat)] w fun e w' => e = .returned (.bool true) ∧ Below w.heap.size w w' := by
  have hlen : (l ++ List.replicate 80 x).length = l.length + 80 := by rw [List.length_append, List.length_replicate]
  have HF := Lib.hid hf
  have HW := Lib.hid hw
  obtain ⟨wo, wc, rfl⟩ := hw.len
  obtain ⟨v, sl, hv⟩ := row_lo okB hf l.length (by omega)
  rw [List.take_left] at hv
  have S := Lib.hid (show Calls Tryd.prog 9 #[v, .slice wo l.length wc] w fun e w' => e = .returned (.bool true) ∧ Below w.heap.size w w' by
    have h := sameB v _ l l w hv hw
    rwa [decide_eq_true rfl] at h)
  have LE := Lib.hid hlen
  obtain ⟨n, hn⟩ : ∃ n, n = l.length := ⟨_, rfl⟩
  have HN := Lib.hid hn
  rw [show EB.ts = 22 from rfl] at sl
  simp only [← hn] at sl S hl ⊢
  clear hf hw hv hn hlen
  go_enter Tryd.func22, Tryd.ntmps22
  go_wp2_with fail
  refine S.out.mono ?_
  rintro e2 w2 ⟨rfl, hb⟩
  have B2 := Lib.hid hb
  clear hb sl S
  go_wp2_with fail
  go_loop [7] (fun i => ∃ k : Nat, k ≤ 80 ∧ i = .int .i64 ((n : Int) + k)) (fun i => n + 80 - (intOf i).toNat)
  case atStart => exact ⟨0, by omega, by simp⟩
  case round =>
    obtain ⟨k, hk, rfl⟩ := hrel
    by_cases hlt : k < 80
    · have hx : (l ++ List.replicate 80 x)[n + k]? = some x := by
        rw [List.getElem?_append_right (by rw [← HN.out]; omega), List.getElem?_replicate, if_pos (by rw [← HN.out]; omega)]
      obtain ⟨p, ix, _, px⟩ := elB HF.out rfl LE.out hx
      have p0 := px _ B2.out
      rw [← HN.out] at ix
      rw [show ((n + k : Nat) : Int) = (n : Int) + k from rfl] at ix
      have h81 : (n : Int) + k < (n : Int) + 80 := by omega
      clear px hx
      go_wp2
      go_round
      case rel => exact ⟨k + 1, by omega, by go_num⟩
      case measure => simp [intOf]; omega
    · obtain rfl : k = 80 := by omega
      have h81 : ¬ (n : Int) + 80 < (n : Int) + 80 := by omega
      go_wp2
      go_ret
      exact ⟨rfl, B2.out⟩
end Go.Proofs.YtfcgfnmokbbcaaaDoor.Nm

namespace Go.Proofs.YtfcgfnmokbbcaaaDoor.Nm
open Go.RowKit Go.Proofs.YtfcgfnmokbbcaaaDoor Go.Proofs.YtfcgfnmokbbcaaaDoor.Rw

theorem litB (w : World) (l : List UInt8) (n : Nat) (cs : Array Value) (hn : n = l.length) (hl : l.length ≤ 1000) (hcs : cs.toList = l.map (fun x => Value.int .u8 x.toNat)) : OwnB (w.alloc (.cells cs 5)) w.heap.size (.slice (some ⟨w.heap.size, 0, none⟩) n n) l := row_lit okB w l n hn hl cs (by rw [flatB]; exact hcs)
theorem litI (w : World) (l : List Int) (n : Nat) (cs : Array Value) (hn : n = l.length) (hl : l.length ≤ 1000) (hcs : cs.toList = l.map (fun x => Value.int .i64 x)) : OwnI (w.alloc (.cells cs 3)) w.heap.size (.slice (some ⟨w.heap.size, 0, none⟩) n n) l := row_lit okI w l n hn hl cs (by rw [flatI]; exact hcs)
theorem new_below (w : World) (o : Obj) : Below w.heap.size w (w.alloc o) := (Below.refl _ _).alloc (Nat.le_refl _) _
theorem num_one : numsB [1] = [0, 0, 0, 0, 0, 0, 0, 1] := by decide
theorem text_ab : textB ⟨#[97, 98]⟩ = [2, 97, 98] := by decide
end Go.Proofs.YtfcgfnmokbbcaaaDoor.Nm
