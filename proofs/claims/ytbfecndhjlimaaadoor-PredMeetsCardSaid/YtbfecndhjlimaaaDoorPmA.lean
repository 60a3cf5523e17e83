/-
  The law PredMeets: plain facts, and its first loop, which makes the constraints. Conditions: numbers of 64 bits.
-/
import Derived.Test.YtbfecndhjlimaaaDoorPrLaw
import Derived.Test.YtbfecndhjlimaaaDoorPrPred
import Derived.Test.YtbfecndhjlimaaaDoorPrForms
import Derived.Test.YtbfecndhjlimaaaDoorIn
namespace Go.Proofs.YtbfecndhjlimaaaDoor.Pr
open Go.RowKit Go.Sort Go.Proofs.YtbfecndhjlimaaaDoor Go.Proofs.YtbfecndhjlimaaaDoor.Pu Go.Proofs.YtbfecndhjlimaaaDoor.Rw Go.Proofs.YtbfecndhjlimaaaDoor.Va Go.Proofs.YtbfecndhjlimaaaDoor.Kp Go.Proofs.YtbfecndhjlimaaaDoor.In

def nM : ByteArray := ⟨#[109]⟩
theorem name_M : nameB nM = true := by decide
/-- The constraints of so many numbers. -/
def mk (zs : List Int) (j : Nat) : List Cn := (zs.take j).map fun z => (nM, kdOf z)
def mt (zs : List Int) : List Cn := mk zs 4
theorem mk_len (zs : List Int) (j : Nat) (h : j ≤ zs.length) : (mk zs j).length = j := by simp [mk]; omega
theorem mk_succ (zs : List Int) (j : Nat) (z : Int) (h : zs[j]? = some z) : mk zs (j + 1) = mk zs j ++ [(nM, kdOf z)] := by
  obtain ⟨hj, e⟩ := List.getElem?_eq_some_iff.1 h
  unfold mk
  rw [List.take_succ_eq_append_getElem hj, List.map_append, e]
  rfl
theorem mk_end (zs : List Int) (j : Nat) (h : j ≤ 4) (h2 : j ≤ zs.length) (h3 : ¬ (j < zs.length ∧ j < 4)) : mk zs j = mt zs := by
  unfold mt
  rcases Nat.lt_or_ge j 4 with h4 | h4
  · unfold mk
    rw [List.take_of_length_le (show zs.length ≤ j by omega), List.take_of_length_le (show zs.length ≤ 4 by omega)]
  · obtain rfl : j = 4 := by omega
    rfl
theorem mt_len (zs : List Int) : (mt zs).length ≤ 4 := by simp [mt, mk]; omega
theorem mk_good (zs : List Int) (j : Nat) : ∀ c ∈ mk zs j, goodC c = true := fun c hc => by
  obtain ⟨z, _, rfl⟩ := List.mem_map.1 hc
  simp only [goodC, name_M, kdOf_good, Bool.and_self]
theorem mk_small (zs : List Int) (j : Nat) : ∀ c ∈ mk zs j, smallC c := fun c hc => by
  obtain ⟨z, _, rfl⟩ := List.mem_map.1 hc
  exact ⟨(by decide : nM.size ≤ 100), kd_small z⟩
theorem row_oneM (w : World) (c : C5) : RowC (w.alloc (.cells (cells5 c).toArray 23)) (.slice (some ⟨w.heap.size, 0, none⟩) 1 1) [c] :=
  Row.of_own (row_lit okC w [c] 1 rfl (by simp) _ (by simp [flat, EC]))

noncomputable def meetB0 : Code := ((Tryd.f7.body.bind (findBlock 0)).getD .skip)
noncomputable def meetB2 : Code := ((Tryd.f7.body.bind (findBlock 2)).getD .skip)
noncomputable def meetB4 : Code := ((Tryd.f7.body.bind (findBlock 4)).getD .skip)
noncomputable def meetB6 : Code := ((Tryd.f7.body.bind (findBlock 6)).getD .skip)

set_option maxRecDepth 100000 in
set_option maxHeartbeats 4000000 in
theorem meet_loop1 (Q : Exit → Act → World → Prop) (W : World) (nv : Value) (zs : List Int) (hz : InInts W nv zs) (u1 u2 u3 u4 u5 u6 u9 u10 u11 u12 u13 u14 u15 u16 u17 u18 u19 u20 u21 u22 u23 u24 u25 u26 u27 u28 u29 u30 u31 u32 u33 u34 u35 u36 u37 u38 u39 u40 u41 u42 u43 u44 u45 u46 u47 u48 u49 u50 u51 u52 u53 u54 u55 u56 u57 u58 u59 u60 u61 u62 u63 u64 u65 u66 u67 u68 u69 u70 u71 u72 u73 u74 u75 u76 u77 u78 u79 u80 u81 u82 u83 u84 u85 u86 u87 u88 u89 u90 u91 u92 u93 u94 u95 u96 u97 u98 u99 u100 u101 u102 u103 u104 u105 u106 u107 u108 u109 u110 u111 u112 u113 u114 u115 u116 u117 u118 u119 u120 u121 u122 u123 u124 u125 u126 u127 u128 u129 u130 u131 u132 u133 u134 u135 u136 u137 u138 u139 u140 u141 u142 u143 u144 u145 u146 u147 u148 u149 u150 u151 u152 u153 u154 : Value)
    (hQ : ∀ (w' : World) (lv u21 u22 u23 u24 u25 u26 u27 u28 u29 u30 u31 u32 u33 u34 u35 u36 u37 u38 : Value), Below W.heap.size W w' → OwnC w' W.heap.size lv ((mt zs).map r5) → Q .normal ⟨(nv :: u1 :: u2 :: u3 :: u4 :: u5 :: u6 :: lv :: .int .i64 (mt zs).length :: u9 :: u10 :: u11 :: u12 :: u13 :: u14 :: u15 :: u16 :: u17 :: u18 :: u19 :: u20 :: u21 :: u22 :: u23 :: u24 :: u25 :: u26 :: u27 :: u28 :: u29 :: u30 :: u31 :: u32 :: u33 :: u34 :: u35 :: u36 :: u37 :: u38 :: u39 :: u40 :: u41 :: u42 :: u43 :: u44 :: u45 :: u46 :: u47 :: u48 :: u49 :: u50 :: u51 :: u52 :: u53 :: u54 :: u55 :: u56 :: u57 :: u58 :: u59 :: u60 :: u61 :: u62 :: u63 :: u64 :: u65 :: u66 :: u67 :: u68 :: u69 :: u70 :: u71 :: u72 :: u73 :: u74 :: u75 :: u76 :: u77 :: u78 :: u79 :: u80 :: u81 :: u82 :: u83 :: u84 :: u85 :: u86 :: u87 :: u88 :: u89 :: u90 :: u91 :: u92 :: u93 :: u94 :: u95 :: u96 :: u97 :: u98 :: u99 :: u100 :: u101 :: u102 :: u103 :: u104 :: u105 :: u106 :: u107 :: u108 :: u109 :: u110 :: u111 :: u112 :: u113 :: u114 :: u115 :: u116 :: u117 :: u118 :: u119 :: u120 :: u121 :: u122 :: u123 :: u124 :: u125 :: u126 :: u127 :: u128 :: u129 :: u130 :: u131 :: u132 :: u133 :: u134 :: u135 :: u136 :: u137 :: u138 :: u139 :: u140 :: u141 :: u142 :: u143 :: u144 :: u145 :: u146 :: u147 :: u148 :: u149 :: u150 :: u151 :: u152 :: u153 :: u154 :: []).toArray, []⟩ w') :
    Code.wp Tryd.prog meetB0 Q ⟨(nv :: u1 :: u2 :: u3 :: u4 :: u5 :: u6 :: .slice none 0 0 :: .int .i64 0 :: u9 :: u10 :: u11 :: u12 :: u13 :: u14 :: u15 :: u16 :: u17 :: u18 :: u19 :: u20 :: u21 :: u22 :: u23 :: u24 :: u25 :: u26 :: u27 :: u28 :: u29 :: u30 :: u31 :: u32 :: u33 :: u34 :: u35 :: u36 :: u37 :: u38 :: u39 :: u40 :: u41 :: u42 :: u43 :: u44 :: u45 :: u46 :: u47 :: u48 :: u49 :: u50 :: u51 :: u52 :: u53 :: u54 :: u55 :: u56 :: u57 :: u58 :: u59 :: u60 :: u61 :: u62 :: u63 :: u64 :: u65 :: u66 :: u67 :: u68 :: u69 :: u70 :: u71 :: u72 :: u73 :: u74 :: u75 :: u76 :: u77 :: u78 :: u79 :: u80 :: u81 :: u82 :: u83 :: u84 :: u85 :: u86 :: u87 :: u88 :: u89 :: u90 :: u91 :: u92 :: u93 :: u94 :: u95 :: u96 :: u97 :: u98 :: u99 :: u100 :: u101 :: u102 :: u103 :: u104 :: u105 :: u106 :: u107 :: u108 :: u109 :: u110 :: u111 :: u112 :: u113 :: u114 :: u115 :: u116 :: u117 :: u118 :: u119 :: u120 :: u121 :: u122 :: u123 :: u124 :: u125 :: u126 :: u127 :: u128 :: u129 :: u130 :: u131 :: u132 :: u133 :: u134 :: u135 :: u136 :: u137 :: u138 :: u139 :: u140 :: u141 :: u142 :: u143 :: u144 :: u145 :: u146 :: u147 :: u148 :: u149 :: u150 :: u151 :: u152 :: u153 :: u154 :: []).toArray, []⟩ W := by
  have HQ := Lib.hid hQ
  have HZ := Lib.hid hz
  clear hQ
  obtain ⟨no, nc, rfl⟩ := hz.shape
  clear hz
  conv => arg 2; whnf
  go_wp2
  go_loopw [7, 8] (fun q i wr => ∃ j : Nat, j ≤ zs.length ∧ j ≤ 4 ∧ i = .int .i64 j ∧ Below W.heap.size W wr ∧ OwnC wr W.heap.size q ((mk zs j).map r5)) (fun _ i _ => 4 - (intOf i).toNat)
  case atStart => exact ⟨0, Nat.zero_le _, by decide, rfl, Below.refl _ _, own_nil _ _⟩
  case round =>
    obtain ⟨j, hj, hj4, rfl, hb, how⟩ := hrel
    have HB := Lib.hid hb
    have OW := Lib.hid how
    clear hb how
    by_cases hlt : j < zs.length
    · have g1 : decide ((j : Int) < (zs.length : Int)) = true := by simp; omega
      by_cases hl4 : j < 4
      · have g2 : decide ((j : Int) < 4) = true := by simp; omega
        obtain ⟨z, hz⟩ : ∃ z, zs[j]? = some z := ⟨_, List.getElem?_eq_getElem hlt⟩
        obtain ⟨bd, p, _, ix, cz⟩ := (HZ.out.on HB.out).at_ j z hz
        have MS := Lib.hid (mk_succ zs j z hz)
        have ML := Lib.hid (mk_len zs j hj)
        have CC := Lib.hid (fun w => constraint_any nM z w bd.1 bd.2)
        clear hz bd
        go_wp2_with fail
        refine (CC.out wr).mono ?_
        rintro e1 w1 ⟨rfl, hb1⟩
        have O1 := Lib.hid ((own_on OW.out hb1).alloc (.cells (cells5 (r5 (nM, kdOf z))).toArray 23))
        have R1 := Lib.hid (row_oneM w1 (r5 (nM, kdOf z)))
        have B1 := Lib.hid (HB.out.trans (hb1.mono HB.out.size))
        have BA := Lib.hid (B1.out.alloc B1.out.size (.cells (cells5 (r5 (nM, kdOf z))).toArray 23))
        obtain ⟨q2, w6, r6, o6, g6⟩ := appC W.heap.size O1.out R1.out (by rw [List.length_map, ML.out]; omega) (by simp) BA.out.size
        have O6 := Lib.hid (show OwnC w6 W.heap.size q2 ((mk zs (j + 1)).map r5) by rw [MS.out, List.map_append]; exact o6)
        have B6 := Lib.hid (BA.out.grown g6 BA.out.size (fun i hi => (O1.out.lt i hi).1))
        clear o6 g6 hb1 CC ix cz
        go_wp2_with (first | (at_builtin; refine wpList_append_run rfl _ _ 25 rfl rfl rfl r6 ?_) | fail)
        clear r6
        go_wp2
        go_roundw
        case rel => exact ⟨j + 1, by omega, by omega, by go_num, B6.out, O6.out⟩
        case measure => simp [intOf]; omega
      · have g2 : decide ((j : Int) < 4) = false := by simp; omega
        have E := Lib.hid (mk_end zs j hj4 hj (by omega))
        have EL := Lib.hid (show (mt zs).length = j by rw [← E.out]; exact mk_len zs j hj)
        have O2 := OW.out
        rw [E.out] at O2
        have OO := Lib.hid O2
        clear O2
        go_wp2
        have h9 := HQ.out
        rw [EL.out] at h9
        exact h9 _ _ _ _ _ _ _ _ _ _ _ _ _ _ _ _ _ _ _ _  HB.out OO.out
    · have g1 : decide ((j : Int) < (zs.length : Int)) = false := by simp; omega
      have E := Lib.hid (mk_end zs j hj4 hj (by omega))
      have EL := Lib.hid (show (mt zs).length = j by rw [← E.out]; exact mk_len zs j hj)
      have O2 := OW.out
      rw [E.out] at O2
      have OO := Lib.hid O2
      clear O2
      go_wp2
      have h9 := HQ.out
      rw [EL.out] at h9
      exact h9 _ _ _ _ _ _ _ _ _ _ _ _ _ _ _ _ _ _ _ _  HB.out OO.out
end Go.Proofs.YtbfecndhjlimaaaDoor.Pr
