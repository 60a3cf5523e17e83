/-
  Chapter 1's runs: the law answers true. Condition: package errors' variable holds the handle of the type 'error'.
-/
import Derived.Test.YtiiobgbebpapnaaDoorFaError2
import Derived.Test.YtiiobgbebpapnaaDoorFaSame
import Derived.WideLaws
namespace Go.Proofs.YtiiobgbebpapnaaDoor.Fa
open Go.RowKit Go.Extern.Stop Go.Stop Go.Extern

abbrev opNet : ByteArray := ⟨#[110, 101, 116]⟩
abbrev opTable : ByteArray := ⟨#[116, 97, 98, 108, 101]⟩
theorem runs_text (a b : Nat) : (txt [(a, opNet, 3), (b, opTable, 7)] ++ [102, 117, 108, 108]).toArray = #[110, 101, 116, 32, 51, 58, 32, 116, 97, 98, 108, 101, 32, 55, 58, 32, 102, 117, 108, 108] := by
  have h3 : Lib.decDigits 3 = [51] := Lib.decDigits_one (by decide)
  have h7 : Lib.decDigits 7 = [55] := Lib.decDigits_one (by decide)
  simp [txt, h3, h7]
theorem runs_len (a b : Nat) : (txt [(a, opNet, 3), (b, opTable, 7)]).length + 4 ≤ 1048576 := by
  have h3 : Lib.decDigits 3 = [51] := Lib.decDigits_one (by decide)
  have h7 : Lib.decDigits 7 = [55] := Lib.decDigits_one (by decide)
  simp [txt, h3, h7]

set_option maxRecDepth 100000 in
set_option maxHeartbeats 4000000 in
theorem runs_any (w : World) (hg : EG w) :
    Calls Tryd.prog 3 #[] w fun e w' => e = .returned (.bool true) ∧ Below w.heap.size w w' := by
  obtain ⟨c1, hc1⟩ : ∃ o : Obj, o = .cells #[.string opTable, .int .i64 7, .iface 25 (.int .i64 7)] 42 := ⟨_, rfl⟩
  obtain ⟨c2, hc2⟩ : ∃ o : Obj, o = .cells #[.string opNet, .int .i64 3, .iface 38 (.pointer (some ⟨w.heap.size, 0, none⟩))] 42 := ⟨_, rfl⟩
  have hch1 : Ch (w.alloc c1) [(w.heap.size, opTable, 7)] (.iface 38 (.pointer (some ⟨w.heap.size, 0, none⟩))) (.iface 25 (.int .i64 7)) := by
    rw [hc1]; exact Ch.new (l := []) rfl opTable 7
  have hch2 : Ch ((w.alloc c1).alloc c2) [(w.heap.size + 1, opNet, 3), (w.heap.size, opTable, 7)] (.iface 38 (.pointer (some ⟨w.heap.size + 1, 0, none⟩))) (.iface 25 (.int .i64 7)) := by
    have h := Ch.new hch1 opNet 3
    rw [World.size_alloc] at h
    rw [hc2]; exact h
  have hfalls : Falls [(w.heap.size + 1, opNet, 3), (w.heap.size, opTable, 7)] := by
    unfold Falls; simp
  have hb2 : Below w.heap.size w ((w.alloc c1).alloc c2) := ((Below.refl _ _).alloc (Nat.le_refl _) _).alloc (by simp) _
  have hg2 : EG ((w.alloc c1).alloc c2) := (hg.alloc _).alloc _
  have HF := Lib.hid hfalls
  have HC := Lib.hid hch2
  have HG := Lib.hid hg2
  have B2 := Lib.hid hb2
  have E1 := Lib.hid hc1
  have E2 := Lib.hid hc2
  have C1 := Error_7 _ ⟨w.heap.size + 1, 0, none⟩ _ hg2 hch2 hfalls (by simp) (fun x hx => by
    simp at hx
    rcases hx with rfl | rfl
    · exact ⟨3, by omega, rfl⟩
    · exact ⟨7, by omega, rfl⟩) (runs_len _ _)
  rw [runs_text] at C1
  have HC1 := Lib.hid C1
  clear hg hc1 hc2 hch1 hch2 hfalls hb2 hg2 C1
  have mE := methodErrorF
  have hn := @run_eql_nil_nil
  go_enter Tryd.func3, Tryd.ntmps3
  go_wp2_with fail
  refine (New_some _ _ _ _ _).mono ?_
  rintro e1 w1 ⟨rfl, rfl⟩
  rw [← E1.out]
  go_wp2_with fail
  refine (New_some _ _ _ _ _).mono ?_
  rintro e2 w2 ⟨rfl, rfl⟩
  rw [World.size_alloc]
  rw [← E2.out]
  generalize (w.alloc c1).alloc c2 = W at HC HG B2 HC1 ⊢
  clear E1 E2
  -- its text
  go_wp2_with fail
  refine HC1.out.mono ?_
  rintro e3 w3 ⟨rfl, hb3⟩
  have B3 := Lib.hid hb3
  have K3 := Lib.hid (Kind_E _ _ 7 w3 (HG.out.bel hb3) (HC.out.bel hb3) HF.out (by simp))
  clear hb3 HC1
  -- its kind
  go_wp2_with fail
  refine K3.out.mono ?_
  rintro e4 w4 ⟨rfl, hb4⟩
  have B4 := Lib.hid (B3.out.trans (hb4.mono B3.out.size))
  have T4 := Lib.hid (Trace_E _ _ 7 w4 (HG.out.bel B4.out) (HC.out.bel B4.out) HF.out (by simp))
  clear hb4 K3
  -- its trace
  go_wp2_with fail
  refine T4.out.mono ?_
  rintro e5 w5 ⟨s, rfl, hown, hb5⟩
  have B5 := Lib.hid (B4.out.trans (hb5.mono B4.out.size))
  have hs : ∃ g cap, s = .slice (some ⟨g, 0, none⟩) 2 cap ∧ w5.cell? ⟨g, 0, none⟩ = some (.string opNet) ∧ w5.cell? ⟨g, 1, none⟩ = some (.string opTable) := by
    obtain ⟨g, cap, hs⟩ := row_form (n := 1) hown
    refine ⟨g, cap, hs, ?_, ?_⟩
    · rw [hs] at hown
      have h := hown.cellAt 0 (by simp)
      simpa using h
    · rw [hs] at hown
      have h := hown.cellAt 1 (by simp)
      simpa using h
  obtain ⟨g, cap, hs, hs0, hs1⟩ := hs
  have S5 := Lib.hid (Same_true [opNet, opTable] g w5.heap.size cap 2 (w5.alloc (.cells #[.string opNet, .string opTable] 9)) (by simp)
    (by
      intro j hj
      rw [World.cell?_alloc_lt _ _ ⟨g, j, none⟩ (lt_of_cell hs0)]
      match j, hj with
      | 0, _ => exact hs0
      | 1, _ => exact hs1)
    (by
      intro j hj
      rw [World.cell?_alloc_at _ _ _ _ rfl]
      match j, hj with
      | 0, _ => rfl
      | 1, _ => rfl))
  rw [hs]
  clear hs hs0 hs1 hown hb5 T4
  go_wp2_with fail
  refine S5.out.mono ?_
  rintro e6 w6 ⟨rfl, hb6⟩
  have B6 := Lib.hid (B5.out.trans ((Below.after_alloc hb6).mono B5.out.size))
  clear hb6 S5
  obtain ⟨_, v', hv', _⟩ := HC.out.bel B6.out
  have P6 := Lib.hid (Place_F _ _ _ _ w6 (HG.out.bel B6.out) hv')
  clear hv'
  -- its place
  go_wp2_with fail
  refine P6.out.mono ?_
  rintro e7 w7 ⟨rfl, hb7⟩
  have B7 := Lib.hid (B6.out.trans (hb7.mono B6.out.size))
  have I7 := Lib.hid (Is_Ch_E _ _ 7 7 w7 (HC.out.bel B7.out))
  clear hb7 P6
  -- nothing wrapped
  go_wp2_with fail
  refine (New_nil _ _ _).mono ?_
  rintro e8 w8 ⟨rfl, rfl⟩
  -- it is what it wraps
  go_wp2_with fail
  refine I7.out.mono ?_
  rintro e9 w9 ⟨rfl, rfl⟩
  go_wp2
  go_ret
  exact ⟨rfl, B2.out.trans (B7.out.mono B2.out.size)⟩
end Go.Proofs.YtiiobgbebpapnaaDoor.Fa
