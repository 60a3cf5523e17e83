/-
  The law PredLimits: its two loops. Condition: none beyond the walk's.
-/
import Derived.Test.YtbfecndhjlimaaaDoorPrLimA
namespace Go.Proofs.YtbfecndhjlimaaaDoor.Pr
open Go.RowKit Go.Sort Go.Proofs.YtbfecndhjlimaaaDoor Go.Proofs.YtbfecndhjlimaaaDoor.Pu Go.Proofs.YtbfecndhjlimaaaDoor.Rw Go.Proofs.YtbfecndhjlimaaaDoor.Va Go.Proofs.YtbfecndhjlimaaaDoor.Kp

noncomputable def limB0 : Code := ((Tryd.f5.body.bind (findBlock 0)).getD .skip)
noncomputable def limB2 : Code := ((Tryd.f5.body.bind (findBlock 2)).getD .skip)
set_option maxRecDepth 100000 in
set_option maxHeartbeats 4000000 in
theorem lim_loop (Q : Exit → Act → World → Prop) (W : World) (k : Nat) (hk : k ≤ 7) (u0 u1 u2 u3 u4 u5 u6 u7 u8 u9 u11 u12 u13 u14 u15 u16 u17 u18 u19 u20 u21 u22 u23 u24 u25 u26 u29 u30 u31 u32 u33 u34 u35 u36 u37 u38 u39 u40 u41 u42 u43 u44 u45 u46 u47 u48 u49 u50 u51 u52 u53 u54 u55 u56 u57 u58 u59 u60 u61 u62 u63 u64 u65 u66 u67 u68 u69 u70 u71 u72 u73 u74 u75 u76 u77 u78 u79 u80 u81 u82 u83 u84 u85 u86 u87 u88 u89 u90 u91 u92 u93 u94 u95 u96 u97 u98 u99 u100 u101 u102 u103 u104 u105 u106 u107 u108 u109 u110 u111 u112 u113 u114 u115 u116 u117 u118 u119 u120 u121 u122 u123 u124 u125 u126 u127 u128 u129 u130 u131 u132 u133 u134 u135 u136 u137 u138 u139 u140 u141 u142 u143 u144 u145 u146 u147 u148 u149 u150 u151 u152 u153 u154 u155 u156 u157 u158 u159 u160 u161 u162 u163 u164 u165 u166 : Value)
    (hQ : ∀ (w' : World) (pv u11 u28 u29 u30 u31 u32 u33 u34 u35 u36 u37 u38 u39 : Value), Below W.heap.size W w' → OwnC w' W.heap.size pv ((lim k).map r5) → Q .normal ⟨(u0 :: u1 :: u2 :: u3 :: u4 :: u5 :: u6 :: u7 :: u8 :: u9 :: pv :: u11 :: u12 :: u13 :: u14 :: u15 :: u16 :: u17 :: u18 :: u19 :: u20 :: u21 :: u22 :: u23 :: u24 :: u25 :: u26 :: .int .i64 (k : Nat) :: u28 :: u29 :: u30 :: u31 :: u32 :: u33 :: u34 :: u35 :: u36 :: u37 :: u38 :: u39 :: u40 :: u41 :: u42 :: u43 :: u44 :: u45 :: u46 :: u47 :: u48 :: u49 :: u50 :: u51 :: u52 :: u53 :: u54 :: u55 :: u56 :: u57 :: u58 :: u59 :: u60 :: u61 :: u62 :: u63 :: u64 :: u65 :: u66 :: u67 :: u68 :: u69 :: u70 :: u71 :: u72 :: u73 :: u74 :: u75 :: u76 :: u77 :: u78 :: u79 :: u80 :: u81 :: u82 :: u83 :: u84 :: u85 :: u86 :: u87 :: u88 :: u89 :: u90 :: u91 :: u92 :: u93 :: u94 :: u95 :: u96 :: u97 :: u98 :: u99 :: u100 :: u101 :: u102 :: u103 :: u104 :: u105 :: u106 :: u107 :: u108 :: u109 :: u110 :: u111 :: u112 :: u113 :: u114 :: u115 :: u116 :: u117 :: u118 :: u119 :: u120 :: u121 :: u122 :: u123 :: u124 :: u125 :: u126 :: u127 :: u128 :: u129 :: u130 :: u131 :: u132 :: u133 :: u134 :: u135 :: u136 :: u137 :: u138 :: u139 :: u140 :: u141 :: u142 :: u143 :: u144 :: u145 :: u146 :: u147 :: u148 :: u149 :: u150 :: u151 :: u152 :: u153 :: u154 :: u155 :: u156 :: u157 :: u158 :: u159 :: u160 :: u161 :: u162 :: u163 :: u164 :: u165 :: u166 :: []).toArray, []⟩ w') :
    Code.wp Tryd.prog limB0 Q ⟨(u0 :: u1 :: u2 :: u3 :: u4 :: u5 :: u6 :: u7 :: u8 :: u9 :: .slice none 0 0 :: u11 :: u12 :: u13 :: u14 :: u15 :: u16 :: u17 :: u18 :: u19 :: u20 :: u21 :: u22 :: u23 :: u24 :: u25 :: u26 :: .int .i64 (k : Nat) :: .int .i64 0 :: u29 :: u30 :: u31 :: u32 :: u33 :: u34 :: u35 :: u36 :: u37 :: u38 :: u39 :: u40 :: u41 :: u42 :: u43 :: u44 :: u45 :: u46 :: u47 :: u48 :: u49 :: u50 :: u51 :: u52 :: u53 :: u54 :: u55 :: u56 :: u57 :: u58 :: u59 :: u60 :: u61 :: u62 :: u63 :: u64 :: u65 :: u66 :: u67 :: u68 :: u69 :: u70 :: u71 :: u72 :: u73 :: u74 :: u75 :: u76 :: u77 :: u78 :: u79 :: u80 :: u81 :: u82 :: u83 :: u84 :: u85 :: u86 :: u87 :: u88 :: u89 :: u90 :: u91 :: u92 :: u93 :: u94 :: u95 :: u96 :: u97 :: u98 :: u99 :: u100 :: u101 :: u102 :: u103 :: u104 :: u105 :: u106 :: u107 :: u108 :: u109 :: u110 :: u111 :: u112 :: u113 :: u114 :: u115 :: u116 :: u117 :: u118 :: u119 :: u120 :: u121 :: u122 :: u123 :: u124 :: u125 :: u126 :: u127 :: u128 :: u129 :: u130 :: u131 :: u132 :: u133 :: u134 :: u135 :: u136 :: u137 :: u138 :: u139 :: u140 :: u141 :: u142 :: u143 :: u144 :: u145 :: u146 :: u147 :: u148 :: u149 :: u150 :: u151 :: u152 :: u153 :: u154 :: u155 :: u156 :: u157 :: u158 :: u159 :: u160 :: u161 :: u162 :: u163 :: u164 :: u165 :: u166 :: []).toArray, []⟩ W := by
  have HQ := Lib.hid hQ
  clear hQ
  conv => arg 2; whnf
  go_wp2
  go_loopw [10, 28] (fun q i wr => ∃ j : Nat, j ≤ k ∧ i = .int .i64 j ∧ Below W.heap.size W wr ∧ OwnC wr W.heap.size q ((lim j).map r5)) (fun _ i _ => k - (intOf i).toNat)
  case atStart => exact ⟨0, Nat.zero_le _, rfl, Below.refl _ _, own_nil _ _⟩
  case round =>
    obtain ⟨j, hj, rfl, hb, how⟩ := hrel
    have HB := Lib.hid hb
    have OW := Lib.hid how
    clear hb how
    by_cases hlt : j < k
    · have hj7 : (j : Int) < 7 := by omega
      have hc : (wr.alloc (.cells nmCells 9)).cell? ⟨wr.heap.size, j, none⟩ = some (.string (nm j)) := by rw [World.cell?_alloc_at _ _ _ _ rfl]; exact nm_at j (by omega)
      have O1 := Lib.hid ((OW.out.alloc (.cells nmCells 9)).alloc (.cells #[.string (nm j), .int .i64 3, .int .i64 0, .int .i64 0, .string ⟨#[]⟩] 23))
      have e1 : (wr.alloc (.cells nmCells 9)).heap.size = wr.heap.size + 1 := by simp
      have R1 := Lib.hid (row_oneC (wr.alloc (.cells nmCells 9)) (nm j, 3, 0, 0, ⟨#[]⟩))
      rw [e1] at R1
      have BA := Lib.hid ((HB.out.alloc HB.out.size (.cells nmCells 9)).alloc (HB.out.alloc HB.out.size (.cells nmCells 9)).size (.cells #[.string (nm j), .int .i64 3, .int .i64 0, .int .i64 0, .string ⟨#[]⟩] 23))
      obtain ⟨q2, w6, r6, o6, g6⟩ := appC W.heap.size O1.out R1.out (by rw [List.length_map, lim_len]; omega) (by simp) BA.out.size
      have O6 := Lib.hid (show OwnC w6 W.heap.size q2 ((lim (j + 1)).map r5) by rw [lim_succ, List.map_append]; exact o6)
      have B6 := Lib.hid (BA.out.grown g6 BA.out.size (fun i hi => (O1.out.lt i hi).1))
      clear o6 g6 e1
      go_wp2_with fail
      refine (names_any _).mono ?_
      rintro e1 w1 ⟨rfl, rfl⟩
      go_wp2_with (first | (at_builtin; refine wpList_append_run rfl _ _ 25 rfl rfl rfl r6 ?_) | fail)
      clear r6 hc
      go_wp2
      go_roundw
      case rel => exact ⟨j + 1, by omega, by go_num, B6.out, O6.out⟩
      case measure => simp [intOf]; omega
    · obtain rfl : j = k := by omega
      go_wp2
      exact HQ.out _ _ _ _ _ _ _ _ _ _ _ _ _ _ _  HB.out OW.out

set_option maxRecDepth 100000 in
set_option maxHeartbeats 4000000 in
theorem many_loop (Q : Exit → Act → World → Prop) (W : World) (c : Nat) (hc : c ≤ 4) (u0 u1 u2 u3 u4 u5 u6 u7 u8 u9 u10 u11 u12 u13 u14 u15 u16 u17 u18 u21 u22 u23 u24 u25 u26 u27 u28 u29 u30 u31 u32 u33 u34 u35 u36 u37 u38 u39 u40 u41 u42 u43 u44 u45 u46 u47 u48 u49 u50 u51 u52 u53 u54 u55 u56 u57 u58 u59 u60 u61 u62 u63 u64 u65 u66 u67 u68 u69 u70 u71 u72 u73 u74 u75 u76 u77 u78 u79 u80 u81 u82 u83 u84 u85 u86 u87 u88 u89 u90 u91 u92 u93 u94 u95 u96 u97 u98 u99 u100 u101 u102 u103 u104 u105 u106 u107 u108 u109 u110 u111 u112 u113 u114 u115 u116 u117 u118 u119 u120 u121 u122 u123 u124 u125 u126 u128 u129 u130 u131 u132 u133 u134 u135 u136 u137 u138 u139 u140 u141 u142 u143 u144 u145 u146 u147 u148 u149 u150 u151 u152 u153 u154 u155 u156 u157 u158 u159 u160 u161 u162 u163 u164 u165 u166 : Value)
    (hQ : ∀ (w' : World) (pv u21 u22 u127 u128 u129 u130 u131 u132 u133 u134 u135 u136 u137 u138 u139 u140 u141 u142 : Value), Below W.heap.size W w' → OwnC w' W.heap.size pv ((many c 6).map r5) → Q .normal ⟨(u0 :: u1 :: u2 :: u3 :: u4 :: u5 :: u6 :: u7 :: u8 :: u9 :: u10 :: u11 :: u12 :: u13 :: u14 :: u15 :: u16 :: u17 :: u18 :: pv :: .int .i64 (c : Nat) :: u21 :: u22 :: u23 :: u24 :: u25 :: u26 :: u27 :: u28 :: u29 :: u30 :: u31 :: u32 :: u33 :: u34 :: u35 :: u36 :: u37 :: u38 :: u39 :: u40 :: u41 :: u42 :: u43 :: u44 :: u45 :: u46 :: u47 :: u48 :: u49 :: u50 :: u51 :: u52 :: u53 :: u54 :: u55 :: u56 :: u57 :: u58 :: u59 :: u60 :: u61 :: u62 :: u63 :: u64 :: u65 :: u66 :: u67 :: u68 :: u69 :: u70 :: u71 :: u72 :: u73 :: u74 :: u75 :: u76 :: u77 :: u78 :: u79 :: u80 :: u81 :: u82 :: u83 :: u84 :: u85 :: u86 :: u87 :: u88 :: u89 :: u90 :: u91 :: u92 :: u93 :: u94 :: u95 :: u96 :: u97 :: u98 :: u99 :: u100 :: u101 :: u102 :: u103 :: u104 :: u105 :: u106 :: u107 :: u108 :: u109 :: u110 :: u111 :: u112 :: u113 :: u114 :: u115 :: u116 :: u117 :: u118 :: u119 :: u120 :: u121 :: u122 :: u123 :: u124 :: u125 :: u126 :: u127 :: u128 :: u129 :: u130 :: u131 :: u132 :: u133 :: u134 :: u135 :: u136 :: u137 :: u138 :: u139 :: u140 :: u141 :: u142 :: u143 :: u144 :: u145 :: u146 :: u147 :: u148 :: u149 :: u150 :: u151 :: u152 :: u153 :: u154 :: u155 :: u156 :: u157 :: u158 :: u159 :: u160 :: u161 :: u162 :: u163 :: u164 :: u165 :: u166 :: []).toArray, []⟩ w') :
    Code.wp Tryd.prog limB2 Q ⟨(u0 :: u1 :: u2 :: u3 :: u4 :: u5 :: u6 :: u7 :: u8 :: u9 :: u10 :: u11 :: u12 :: u13 :: u14 :: u15 :: u16 :: u17 :: u18 :: .slice none 0 0 :: .int .i64 (c : Nat) :: u21 :: u22 :: u23 :: u24 :: u25 :: u26 :: u27 :: u28 :: u29 :: u30 :: u31 :: u32 :: u33 :: u34 :: u35 :: u36 :: u37 :: u38 :: u39 :: u40 :: u41 :: u42 :: u43 :: u44 :: u45 :: u46 :: u47 :: u48 :: u49 :: u50 :: u51 :: u52 :: u53 :: u54 :: u55 :: u56 :: u57 :: u58 :: u59 :: u60 :: u61 :: u62 :: u63 :: u64 :: u65 :: u66 :: u67 :: u68 :: u69 :: u70 :: u71 :: u72 :: u73 :: u74 :: u75 :: u76 :: u77 :: u78 :: u79 :: u80 :: u81 :: u82 :: u83 :: u84 :: u85 :: u86 :: u87 :: u88 :: u89 :: u90 :: u91 :: u92 :: u93 :: u94 :: u95 :: u96 :: u97 :: u98 :: u99 :: u100 :: u101 :: u102 :: u103 :: u104 :: u105 :: u106 :: u107 :: u108 :: u109 :: u110 :: u111 :: u112 :: u113 :: u114 :: u115 :: u116 :: u117 :: u118 :: u119 :: u120 :: u121 :: u122 :: u123 :: u124 :: u125 :: u126 :: .int .i64 0 :: u128 :: u129 :: u130 :: u131 :: u132 :: u133 :: u134 :: u135 :: u136 :: u137 :: u138 :: u139 :: u140 :: u141 :: u142 :: u143 :: u144 :: u145 :: u146 :: u147 :: u148 :: u149 :: u150 :: u151 :: u152 :: u153 :: u154 :: u155 :: u156 :: u157 :: u158 :: u159 :: u160 :: u161 :: u162 :: u163 :: u164 :: u165 :: u166 :: []).toArray, []⟩ W := by
  have HQ := Lib.hid hQ
  clear hQ
  conv => arg 2; whnf
  go_wp2
  go_loopw [19, 127] (fun q i wr => ∃ j : Nat, j ≤ 6 ∧ i = .int .i64 j ∧ Below W.heap.size W wr ∧ OwnC wr W.heap.size q ((many c j).map r5)) (fun _ i _ => 6 - (intOf i).toNat)
  case atStart => exact ⟨0, Nat.zero_le _, rfl, Below.refl _ _, own_nil _ _⟩
  case round =>
    obtain ⟨j, hj, rfl, hb, how⟩ := hrel
    have HB := Lib.hid hb
    have OW := Lib.hid how
    clear hb how
    by_cases hlt : j < 6
    · have hj7 : (j : Int) < 6 := by omega
      have ML := Lib.hid (many_len c j)
      have hs : (9 : Int) - j ≤ 9 := by omega
      have hs2 : 0 ≤ (9 : Int) - j := by omega
      by_cases he : j = c + 1
      · subst he
        have KD := Lib.hid (show r5 (nY, kdM c (c + 1)) = (nY, 2, 0, 0, tNo) by simp [kdM, r5, kN, kLo, kHi, kT])
        have e1 : (wr.alloc (.cells #[.string nY, .int .i64 2, .int .i64 0, .int .i64 0, .string tNo] 23)).heap.size = wr.heap.size + 1 := by simp
        have O1 := Lib.hid ((OW.out.alloc (.cells #[.string nY, .int .i64 2, .int .i64 0, .int .i64 0, .string tNo] 23)).alloc (.cells #[.string nY, .int .i64 2, .int .i64 0, .int .i64 0, .string tNo] 23))
        have R1 := Lib.hid (row_oneC (wr.alloc (.cells #[.string nY, .int .i64 2, .int .i64 0, .int .i64 0, .string tNo] 23)) (nY, 2, 0, 0, tNo))
        rw [e1] at R1
        have BA := Lib.hid ((HB.out.alloc HB.out.size (.cells #[.string nY, .int .i64 2, .int .i64 0, .int .i64 0, .string tNo] 23)).alloc (HB.out.alloc HB.out.size (.cells #[.string nY, .int .i64 2, .int .i64 0, .int .i64 0, .string tNo] 23)).size (.cells #[.string nY, .int .i64 2, .int .i64 0, .int .i64 0, .string tNo] 23))
        obtain ⟨q2, w6, r6, o6, g6⟩ := appC W.heap.size O1.out R1.out (by rw [List.length_map, ML.out]; omega) (by simp) BA.out.size
        have O6 := Lib.hid (show OwnC w6 W.heap.size q2 ((many c (c + 1 + 1)).map r5) by rw [many_succ, List.map_append, List.map_cons, List.map_nil, KD.out]; exact o6)
        have B6 := Lib.hid (BA.out.grown g6 BA.out.size (fun i hi => (O1.out.lt i hi).1))
        clear o6 g6 e1
        rw [show ((c + 1 : Nat) : Int) = (c : Int) + 1 from rfl] at *
        go_wp2_with (first | (at_builtin; refine wpList_append_run rfl _ _ 25 rfl rfl rfl r6 ?_) | fail)
        clear r6
        go_wp2
        go_roundw
        case rel => exact ⟨c + 1 + 1, by omega, by go_num, B6.out, O6.out⟩
        case measure => simp [intOf]; omega
      · have hne : ((j : Int) == (c : Int) + 1) = false := by rw [beq_eq_false_iff_ne]; omega
        have hne2 : ¬ (j : Int) = (c : Int) + 1 := by omega
        have KD := Lib.hid (show r5 (nY, kdM c j) = (nY, 1, 0, 9 - (j : Int), ⟨#[]⟩) by simp [kdM, he, r5, kN, kLo, kHi, kT])
        have HE := Lib.hid he
        clear he
        have e1 : (wr.alloc (.cells #[.string nY, .int .i64 1, .int .i64 0, .int .i64 (9 - (j : Int)), .string ⟨#[]⟩] 23)).heap.size = wr.heap.size + 1 := by simp
        have O1 := Lib.hid ((OW.out.alloc (.cells #[.string nY, .int .i64 1, .int .i64 0, .int .i64 (9 - (j : Int)), .string ⟨#[]⟩] 23)).alloc (.cells #[.string nY, .int .i64 1, .int .i64 0, .int .i64 (9 - (j : Int)), .string ⟨#[]⟩] 23))
        have R1 := Lib.hid (row_oneC (wr.alloc (.cells #[.string nY, .int .i64 1, .int .i64 0, .int .i64 (9 - (j : Int)), .string ⟨#[]⟩] 23)) (nY, 1, 0, 9 - (j : Int), ⟨#[]⟩))
        rw [e1] at R1
        have BA := Lib.hid ((HB.out.alloc HB.out.size (.cells #[.string nY, .int .i64 1, .int .i64 0, .int .i64 (9 - (j : Int)), .string ⟨#[]⟩] 23)).alloc (HB.out.alloc HB.out.size (.cells #[.string nY, .int .i64 1, .int .i64 0, .int .i64 (9 - (j : Int)), .string ⟨#[]⟩] 23)).size (.cells #[.string nY, .int .i64 1, .int .i64 0, .int .i64 (9 - (j : Int)), .string ⟨#[]⟩] 23))
        obtain ⟨q2, w6, r6, o6, g6⟩ := appC W.heap.size O1.out R1.out (by rw [List.length_map, ML.out]; omega) (by simp) BA.out.size
        have O6 := Lib.hid (show OwnC w6 W.heap.size q2 ((many c (j + 1)).map r5) by rw [many_succ, List.map_append, List.map_cons, List.map_nil, KD.out]; exact o6)
        have B6 := Lib.hid (BA.out.grown g6 BA.out.size (fun i hi => (O1.out.lt i hi).1))
        clear o6 g6 e1
        go_wp2_with (first | (at_builtin; refine wpList_append_run rfl _ _ 25 rfl rfl rfl r6 ?_) | fail)
        clear r6
        go_wp2
        go_roundw
        case rel => exact ⟨j + 1, by omega, by go_num, B6.out, O6.out⟩
        case measure => simp [intOf]; omega
    · obtain rfl : j = 6 := by omega
      go_wp2
      exact HQ.out _ _ _ _ _ _ _ _ _ _ _ _ _ _ _ _ _ _ _ _  HB.out OW.out
end Go.Proofs.YtbfecndhjlimaaaDoor.Pr
