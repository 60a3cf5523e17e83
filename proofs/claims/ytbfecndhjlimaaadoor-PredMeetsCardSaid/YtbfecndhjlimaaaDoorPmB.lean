/-
  The law PredMeets: its second loop, which turns the list. Conditions: numbers of 64 bits; at most four constraints.
-/
import Derived.Test.YtbfecndhjlimaaaDoorPmA
import Derived.Deep.RegionLaw
namespace Go.Proofs.YtbfecndhjlimaaaDoor.Pr
open Go.RowKit Go.Sort Go.Proofs.YtbfecndhjlimaaaDoor Go.Proofs.YtbfecndhjlimaaaDoor.Pu Go.Proofs.YtbfecndhjlimaaaDoor.Rw Go.Proofs.YtbfecndhjlimaaaDoor.Va Go.Proofs.YtbfecndhjlimaaaDoor.Kp Go.Proofs.YtbfecndhjlimaaaDoor.In

/-- The three appends of one turn. -/
theorem rot_steps (W0 w2 : World) (ev xv lo hi : Value) (l : List C5) (x : C5) (k : Nat) (hl : l.length ≤ 100) (he : OwnC w2 W0.heap.size ev []) (hxr : RowC w2 xv [x]) (hlo : RowC W0 lo (l.take k)) (hhi : RowC W0 hi (l.drop (k + 1))) (hb : Below W0.heap.size W0 w2) :
    ∃ v1 w3 v2 w4 v3 w5, (Builtin.append_ #[25, 25] 25 #[ev, xv]).run Tryd.prog w2 = .ok v1 w3 ∧ (Builtin.append_ #[25, 25] 25 #[v1, lo]).run Tryd.prog w3 = .ok v2 w4 ∧ (Builtin.append_ #[25, 25] 25 #[v2, hi]).run Tryd.prog w4 = .ok v3 w5 ∧ RowC w5 v3 (x :: (l.take k ++ l.drop (k + 1))) ∧ Below W0.heap.size W0 w5 := by
  obtain ⟨v1, w3, r1, o1, g1⟩ := appC W0.heap.size he hxr (by simp) (by simp) hb.size
  have B3 := hb.grown g1 hb.size (fun i hi => (he.lt i hi).1)
  obtain ⟨v2, w4, r2, o2, g2⟩ := appC W0.heap.size o1 (hlo.on B3) (by simp) (by simp; omega) B3.size
  have B4 := B3.grown g2 B3.size (fun i hi => (o1.lt i hi).1)
  obtain ⟨v3, w5, r3, o3, g3⟩ := appC W0.heap.size o2 (hhi.on B4) (by simp; omega) (by simp; omega) B4.size
  exact ⟨v1, w3, v2, w4, v3, w5, r1, r2, r3, by simpa using Row.of_own o3, B4.grown g3 B4.size (fun i hi => (o2.lt i hi).1)⟩
theorem turn_perm {l : List Cn} {k : Nat} {x : Cn} (h : l[k]? = some x) : (x :: (l.take k ++ l.drop (k + 1))).Perm l := by
  obtain ⟨hk, e⟩ := List.getElem?_eq_some_iff.1 h
  have h2 : l.take k ++ x :: l.drop (k + 1) = l := by rw [← e, ← List.drop_eq_getElem_cons hk, List.take_append_drop]
  have h3 := List.perm_middle (a := x) (l₁ := l.take k) (l₂ := l.drop (k + 1))
  rw [h2] at h3
  exact h3.symm

/-- A post that is false at every other exit. -/
def Nrm (Q : Exit → Act → World → Prop) : Exit → Act → World → Prop := fun e a w => match e with
  | .normal => Q .normal a w
  | _ => False
theorem nrm {P : Program} {c : Code} {Q : Exit → Act → World → Prop} {a : Act} {w : World} (h : Code.wp P c (Nrm Q) a w) : Code.wp P c Q a w :=
  Code.wp_mono (fun e a w q => by cases e <;> first | exact q | exact q.elim) h
noncomputable def meetR11 : Code := ((Tryd.f7.body.bind (findRegion 11)).getD .skip)
set_option maxRecDepth 100000 in
set_option maxHeartbeats 4000000 in
theorem meet_rot (Q : Exit → Act → World → Prop) (wr : World) (tO : Option Addr) (tC_ : Nat) (own : List Cn) (k : Nat) (x : Cn) (ON : own.length ≤ 4) (hr : RowC wr (.slice tO own.length tC_) (own.map r5)) (hx : own[k]? = some x) (u0 u1 u2 u3 u4 u5 u6 u7 u8 u10 u12 u13 u14 u15 u16 u17 u18 u19 u20 u21 u22 u23 u24 u25 u26 u27 u28 u29 u30 u31 u32 u33 u34 u35 u36 u37 u38 u39 u40 u41 u42 u43 u44 u45 u46 u47 u48 u49 u50 u51 u52 u53 u54 u55 u56 u57 u58 u59 u60 u61 u62 u63 u64 u65 u66 u67 u68 u69 u70 u71 u72 u73 u74 u75 u76 u77 u78 u79 u80 u81 u82 u83 u84 u85 u86 u87 u88 u89 u90 u91 u92 u93 u94 u95 u96 u97 u98 u99 u100 u101 u102 u103 u104 u105 u106 u107 u108 u109 u110 u111 u112 u113 u114 u115 u116 u117 u118 u119 u120 u121 u122 u123 u124 u125 u126 u127 u128 u129 u130 u131 u132 u133 u134 u135 u136 u137 u138 u139 u140 u141 u142 u143 u144 u145 u146 u147 u148 u149 u150 u151 u152 u153 u154 : Value)
    (hQ : ∀ (w' : World) (tv2 u61 u62 u63 u64 u65 u66 u67 u68 u69 u70 u71 u72 u73 u74 u75 u76 : Value), Below wr.heap.size wr w' → RowC w' tv2 ((x :: (own.take k ++ own.drop (k + 1))).map r5) → Q .normal ⟨(u0 :: u1 :: u2 :: u3 :: u4 :: u5 :: u6 :: u7 :: u8 :: tv2 :: u10 :: .int .i64 (k : Nat) :: u12 :: u13 :: u14 :: u15 :: u16 :: u17 :: u18 :: u19 :: u20 :: u21 :: u22 :: u23 :: u24 :: u25 :: u26 :: u27 :: u28 :: u29 :: u30 :: u31 :: u32 :: u33 :: u34 :: u35 :: u36 :: u37 :: u38 :: u39 :: u40 :: u41 :: u42 :: u43 :: u44 :: u45 :: u46 :: u47 :: u48 :: u49 :: u50 :: u51 :: u52 :: u53 :: u54 :: u55 :: u56 :: u57 :: u58 :: u59 :: u60 :: u61 :: u62 :: u63 :: u64 :: u65 :: u66 :: u67 :: u68 :: u69 :: u70 :: u71 :: u72 :: u73 :: u74 :: u75 :: u76 :: u77 :: u78 :: u79 :: u80 :: u81 :: u82 :: u83 :: u84 :: u85 :: u86 :: u87 :: u88 :: u89 :: u90 :: u91 :: u92 :: u93 :: u94 :: u95 :: u96 :: u97 :: u98 :: u99 :: u100 :: u101 :: u102 :: u103 :: u104 :: u105 :: u106 :: u107 :: u108 :: u109 :: u110 :: u111 :: u112 :: u113 :: u114 :: u115 :: u116 :: u117 :: u118 :: u119 :: u120 :: u121 :: u122 :: u123 :: u124 :: u125 :: u126 :: u127 :: u128 :: u129 :: u130 :: u131 :: u132 :: u133 :: u134 :: u135 :: u136 :: u137 :: u138 :: u139 :: u140 :: u141 :: u142 :: u143 :: u144 :: u145 :: u146 :: u147 :: u148 :: u149 :: u150 :: u151 :: u152 :: u153 :: u154 :: []).toArray, []⟩ w') :
    Code.wp Tryd.prog meetR11 Q ⟨(u0 :: u1 :: u2 :: u3 :: u4 :: u5 :: u6 :: u7 :: u8 :: .slice tO own.length tC_ :: u10 :: .int .i64 (k : Nat) :: u12 :: u13 :: u14 :: u15 :: u16 :: u17 :: u18 :: u19 :: u20 :: u21 :: u22 :: u23 :: u24 :: u25 :: u26 :: u27 :: u28 :: u29 :: u30 :: u31 :: u32 :: u33 :: u34 :: u35 :: u36 :: u37 :: u38 :: u39 :: u40 :: u41 :: u42 :: u43 :: u44 :: u45 :: u46 :: u47 :: u48 :: u49 :: u50 :: u51 :: u52 :: u53 :: u54 :: u55 :: u56 :: u57 :: u58 :: u59 :: u60 :: u61 :: u62 :: u63 :: u64 :: u65 :: u66 :: u67 :: u68 :: u69 :: u70 :: u71 :: u72 :: u73 :: u74 :: u75 :: u76 :: u77 :: u78 :: u79 :: u80 :: u81 :: u82 :: u83 :: u84 :: u85 :: u86 :: u87 :: u88 :: u89 :: u90 :: u91 :: u92 :: u93 :: u94 :: u95 :: u96 :: u97 :: u98 :: u99 :: u100 :: u101 :: u102 :: u103 :: u104 :: u105 :: u106 :: u107 :: u108 :: u109 :: u110 :: u111 :: u112 :: u113 :: u114 :: u115 :: u116 :: u117 :: u118 :: u119 :: u120 :: u121 :: u122 :: u123 :: u124 :: u125 :: u126 :: u127 :: u128 :: u129 :: u130 :: u131 :: u132 :: u133 :: u134 :: u135 :: u136 :: u137 :: u138 :: u139 :: u140 :: u141 :: u142 :: u143 :: u144 :: u145 :: u146 :: u147 :: u148 :: u149 :: u150 :: u151 :: u152 :: u153 :: u154 :: []).toArray, []⟩ wr := by
  have HQ := Lib.hid hQ
  have HR := Lib.hid hr
  have hk : k < own.length := (List.getElem?_eq_some_iff.1 hx).1
  have LM := Lib.hid (show (own.map r5).length = own.length from List.length_map ..)
  clear hQ hr
  have hx5 : (own.map r5)[k]? = some (r5 x) := by rw [List.getElem?_map, hx]; rfl
  obtain ⟨q, iq, hqb, hq⟩ := row_el okC HR.out rfl LM.out hx5
  change ∀ w, (Instr.indexAt 25 (.slice tO own.length tC_) (.int .i64 k)).run Tryd.prog w = .ok (.pointer (some q)) w at iq
  obtain ⟨q0, q1, q2, q3, q4⟩ := five (hq wr (Below.refl _ _))
  obtain ⟨lo, rlo, llo⟩ := loC HR.out k (by rw [LM.out]; omega)
  obtain ⟨hi, rhi, lhi⟩ := hiC HR.out (k + 1) (by rw [LM.out]; omega)
  have BD := (Below.refl wr.heap.size wr).drew
  have nA := ownC_nil wr.drew
  have xA := row_oneM (wr.drew.alloc (.cells #[] 23)) (r5 x)
  have sA : (wr.drew.alloc (.cells #[] 23)).heap.size = wr.heap.size + 1 := by simp
  have xB := row_oneM wr.drew (r5 x)
  have nB := ownC_nil (wr.drew.alloc (.cells (cells5 (r5 x)).toArray 23))
  have sB : (wr.drew.alloc (.cells (cells5 (r5 x)).toArray 23)).heap.size = wr.heap.size + 1 := by simp
  have bA := (BD.alloc (Nat.le_refl _) (.cells #[] 23)).alloc (by simp) (.cells (cells5 (r5 x)).toArray 23)
  have bB := (BD.alloc (Nat.le_refl _) (.cells (cells5 (r5 x)).toArray 23)).alloc (by simp) (.cells #[] 23)
  obtain ⟨a1, A3, a2, A4, a3, A5, ra1, ra2, ra3, rowA, belA⟩ := rot_steps wr _ _ _ lo hi (own.map r5) (r5 x) k (by rw [LM.out]; omega) (own_on nA ((Below.refl _ _).alloc (Nat.le_refl _) (.cells (cells5 (r5 x)).toArray 23))) xA llo lhi bA
  obtain ⟨b1, B3, b2, B4, b3, B5, rb1, rb2, rb3, rowB, belB⟩ := rot_steps wr _ _ _ lo hi (own.map r5) (r5 x) k (by rw [LM.out]; omega) (own_less (by simp) nB) (xB.on ((Below.refl _ _).alloc (Nat.le_refl _) (.cells #[] 23))) llo lhi bB
  rw [sA] at ra1
  rw [sB] at rb1
  rw [show wr.drew.heap.size = wr.heap.size from rfl] at ra1 rb1
  have RA := Lib.hid (show RowC A5 a3 ((x :: (own.take k ++ own.drop (k + 1))).map r5) by rw [List.map_cons, List.map_append, List.map_take, List.map_drop]; exact rowA)
  have RB := Lib.hid (show RowC B5 b3 ((x :: (own.take k ++ own.drop (k + 1))).map r5) by rw [List.map_cons, List.map_append, List.map_take, List.map_drop]; exact rowB)
  have LA := Lib.hid belA
  have LB := Lib.hid belB
  have hw1 : IntKind.i64.wrap ((k : Int) + 1) = (k : Int) + 1 := by rw [IntKind.wrap_i64]; omega
  change ∀ w, (Instr.sliceAt 25 (.slice tO own.length tC_) (some (.int .i64 ((k : Int) + 1))) none none).run Tryd.prog w = .ok hi w at rhi
  simp only [r5] at q0 q1 q2 q3 q4 ra1 rb1
  clear nA xA xB nB bA bB sA sB rowA rowB belA belB hq hx hx5 llo lhi BD
  refine nrm ?_
  conv => arg 2; whnf
  go_region_law (first
    | (refine step_append_run rfl (.tmp 61) (.tmp 66) 25 rfl (v := .slice (some ⟨wr.heap.size, 0, none⟩) 0 0) (xv := .slice (some ⟨wr.heap.size + 1, 0, none⟩) 1 1) (by simp [Act.eval]) (by simp [Act.eval]) ra1 ?_)
    | (refine step_append_run rfl (.tmp 61) (.tmp 66) 25 rfl (v := .slice (some ⟨wr.heap.size + 1, 0, none⟩) 0 0) (xv := .slice (some ⟨wr.heap.size, 0, none⟩) 1 1) (by simp [Act.eval]) (by simp [Act.eval]) rb1 ?_)
    | (refine step_append_run rfl (.tmp 67) (.tmp 70) 25 rfl (v := a1) (xv := lo) (by simp [Act.eval]) (by simp [Act.eval]) ra2 ?_)
    | (refine step_append_run rfl (.tmp 67) (.tmp 70) 25 rfl (v := b1) (xv := lo) (by simp [Act.eval]) (by simp [Act.eval]) rb2 ?_)
    | (refine step_append_run rfl (.tmp 71) (.tmp 75) 25 rfl (v := a2) (xv := hi) (by simp [Act.eval]) (by simp [Act.eval]) ra3 ?_)
    | (refine step_append_run rfl (.tmp 71) (.tmp 75) 25 rfl (v := b2) (xv := hi) (by simp [Act.eval]) (by simp [Act.eval]) rb3 ?_))
  all_goals first
    | exact HQ.out _ _ _ _ _ _ _ _ _ _ _ _ _ _ _ _ _ _ LA.out RA.out
    | exact HQ.out _ _ _ _ _ _ _ _ _ _ _ _ _ _ _ _ _ _ LB.out RB.out

set_option maxRecDepth 100000 in
set_option maxHeartbeats 4000000 in
theorem meet_loop2 (Q : Exit → Act → World → Prop) (W : World) (ov tv : Value) (l : List Cn) (os : List Int) (hos : InInts W ov os) (ht : RowC W tv (l.map r5)) (hl : l.length ≤ 4) (lz : os.length ≤ maxLen) (u0 u1 u3 u4 u5 u6 u7 u8 u11 u12 u13 u14 u15 u16 u17 u18 u19 u20 u21 u22 u23 u24 u25 u26 u27 u28 u29 u30 u31 u32 u33 u34 u35 u36 u37 u38 u39 u40 u41 u42 u43 u44 u45 u46 u47 u48 u49 u50 u51 u52 u53 u54 u55 u56 u57 u58 u59 u60 u61 u62 u63 u64 u65 u66 u67 u68 u69 u70 u71 u72 u73 u74 u75 u76 u77 u78 u79 u80 u81 u82 u83 u84 u85 u86 u87 u88 u89 u90 u91 u92 u93 u94 u95 u96 u97 u98 u99 u100 u101 u102 u103 u104 u105 u106 u107 u108 u109 u110 u111 u112 u113 u114 u115 u116 u117 u118 u119 u120 u121 u122 u123 u124 u125 u126 u127 u128 u129 u130 u131 u132 u133 u134 u135 u136 u137 u138 u139 u140 u141 u142 u143 u144 u145 u146 u147 u148 u149 u150 u151 u152 u153 u154 : Value)
    (hQ : ∀ (w' : World) (own : List Cn) (tv2 u10 u11 u42 u43 u44 u45 u46 u47 u48 u49 u50 u51 u52 u53 u54 u55 u56 u57 u58 u59 u60 u61 u62 u63 u64 u65 u66 u67 u68 u69 u70 u71 u72 u73 u74 u75 u76 : Value), Below W.heap.size W w' → own.Perm l → RowC w' tv2 (own.map r5) → Q .normal ⟨(u0 :: u1 :: ov :: u3 :: u4 :: u5 :: u6 :: u7 :: u8 :: tv2 :: u10 :: u11 :: u12 :: u13 :: u14 :: u15 :: u16 :: u17 :: u18 :: u19 :: u20 :: u21 :: u22 :: u23 :: u24 :: u25 :: u26 :: u27 :: u28 :: u29 :: u30 :: u31 :: u32 :: u33 :: u34 :: u35 :: u36 :: u37 :: u38 :: u39 :: u40 :: u41 :: u42 :: u43 :: u44 :: u45 :: u46 :: u47 :: u48 :: u49 :: u50 :: u51 :: u52 :: u53 :: u54 :: u55 :: u56 :: u57 :: u58 :: u59 :: u60 :: u61 :: u62 :: u63 :: u64 :: u65 :: u66 :: u67 :: u68 :: u69 :: u70 :: u71 :: u72 :: u73 :: u74 :: u75 :: u76 :: u77 :: u78 :: u79 :: u80 :: u81 :: u82 :: u83 :: u84 :: u85 :: u86 :: u87 :: u88 :: u89 :: u90 :: u91 :: u92 :: u93 :: u94 :: u95 :: u96 :: u97 :: u98 :: u99 :: u100 :: u101 :: u102 :: u103 :: u104 :: u105 :: u106 :: u107 :: u108 :: u109 :: u110 :: u111 :: u112 :: u113 :: u114 :: u115 :: u116 :: u117 :: u118 :: u119 :: u120 :: u121 :: u122 :: u123 :: u124 :: u125 :: u126 :: u127 :: u128 :: u129 :: u130 :: u131 :: u132 :: u133 :: u134 :: u135 :: u136 :: u137 :: u138 :: u139 :: u140 :: u141 :: u142 :: u143 :: u144 :: u145 :: u146 :: u147 :: u148 :: u149 :: u150 :: u151 :: u152 :: u153 :: u154 :: []).toArray, []⟩ w') :
    Code.wp Tryd.prog meetB2 Q ⟨(u0 :: u1 :: ov :: u3 :: u4 :: u5 :: u6 :: u7 :: u8 :: tv :: .int .i64 0 :: u11 :: u12 :: u13 :: u14 :: u15 :: u16 :: u17 :: u18 :: u19 :: u20 :: u21 :: u22 :: u23 :: u24 :: u25 :: u26 :: u27 :: u28 :: u29 :: u30 :: u31 :: u32 :: u33 :: u34 :: u35 :: u36 :: u37 :: u38 :: u39 :: u40 :: u41 :: u42 :: u43 :: u44 :: u45 :: u46 :: u47 :: u48 :: u49 :: u50 :: u51 :: u52 :: u53 :: u54 :: u55 :: u56 :: u57 :: u58 :: u59 :: u60 :: u61 :: u62 :: u63 :: u64 :: u65 :: u66 :: u67 :: u68 :: u69 :: u70 :: u71 :: u72 :: u73 :: u74 :: u75 :: u76 :: u77 :: u78 :: u79 :: u80 :: u81 :: u82 :: u83 :: u84 :: u85 :: u86 :: u87 :: u88 :: u89 :: u90 :: u91 :: u92 :: u93 :: u94 :: u95 :: u96 :: u97 :: u98 :: u99 :: u100 :: u101 :: u102 :: u103 :: u104 :: u105 :: u106 :: u107 :: u108 :: u109 :: u110 :: u111 :: u112 :: u113 :: u114 :: u115 :: u116 :: u117 :: u118 :: u119 :: u120 :: u121 :: u122 :: u123 :: u124 :: u125 :: u126 :: u127 :: u128 :: u129 :: u130 :: u131 :: u132 :: u133 :: u134 :: u135 :: u136 :: u137 :: u138 :: u139 :: u140 :: u141 :: u142 :: u143 :: u144 :: u145 :: u146 :: u147 :: u148 :: u149 :: u150 :: u151 :: u152 :: u153 :: u154 :: []).toArray, []⟩ W := by
  have HQ := Lib.hid hQ
  have HZ := Lib.hid hos
  have HT := Lib.hid ht
  clear hQ ht
  unfold maxLen at lz
  obtain ⟨oo, oc, rfl⟩ := hos.shape
  clear hos
  conv => arg 2; whnf
  go_wp2
  go_loopw [9, 10] (fun t i wr => ∃ (j : Nat) (own : List Cn), j ≤ os.length ∧ i = .int .i64 j ∧ own.Perm l ∧ RowC wr t (own.map r5) ∧ Below W.heap.size W wr) (fun _ i _ => os.length - (intOf i).toNat)
  case atStart => exact ⟨0, l, Nat.zero_le _, rfl, .refl _, HT.out, Below.refl _ _⟩
  case round =>
    obtain ⟨j, own, hj, rfl, hp, hr, hb⟩ := hrel
    have HB := Lib.hid hb
    have HP := Lib.hid hp
    have HR := Lib.hid hr
    have ON := Lib.hid (show own.length ≤ 4 by rw [hp.length_eq]; exact hl)
    have LM := Lib.hid (show (own.map r5).length = own.length from List.length_map ..)
    obtain ⟨tO, tC_, rfl⟩ := hr.len
    rw [LM.out] at HR
    rw [List.length_map]
    clear hb hp hr
    by_cases hlt : j < os.length
    · have g1 : decide ((j : Int) < (os.length : Int)) = true := by simp; omega
      by_cases h1 : 1 < own.length
      · have g2 : decide ((1 : Int) < (own.length : Int)) = true := by simp; omega
        obtain ⟨z, hz⟩ : ∃ z, os[j]? = some z := ⟨_, List.getElem?_eq_getElem hlt⟩
        obtain ⟨bd, p, _, ix, cz⟩ := (HZ.out.on HB.out).at_ j z hz
        have hon := ON.out
        have WI := Lib.hid (fun wx => Wi.within_any z 0 ((own.length : Int) - 1) wx (by omega) (by omega) (by omega) bd.1 bd.2)
        have wb := Wi.within_bd z 0 ((own.length : Int) - 1) (by omega)
        obtain ⟨k, hcw⟩ := Int.eq_ofNat_of_zero_le wb.1
        have hk : k < own.length := by omega
        rw [hcw] at WI
        clear hz bd wb hcw
        go_wp2_with fail
        refine (WI.out wr).mono ?_
        rintro e1 w1 ⟨rfl, rfl⟩
        obtain ⟨x, hx⟩ : ∃ x, own[k]? = some x := ⟨_, List.getElem?_eq_getElem hk⟩
        have TP := Lib.hid ((turn_perm hx).trans HP.out)
        have HX := Lib.hid hx
        clear hx ix cz WI
        go_wp2
        refine meet_rot _ wr tO tC_ own k x ON.out HR.out HX.out _ _ _ _ _ _ _ _ _ _ _ _ _ _ _ _ _ _ _ _ _ _ _ _ _ _ _ _ _ _ _ _ _ _ _ _ _ _ _ _ _ _ _ _ _ _ _ _ _ _ _ _ _ _ _ _ _ _ _ _ _ _ _ _ _ _ _ _ _ _ _ _ _ _ _ _ _ _ _ _ _ _ _ _ _ _ _ _ _ _ _ _ _ _ _ _ _ _ _ _ _ _ _ _ _ _ _ _ _ _ _ _ _ _ _ _ _ _ _ _ _ _ _ _ _ _ _ _ _ _ _ _ _ _ _ _ _ _ _ _ _ _ _ _ _ _ _ _ _ _ _ _ _ ?_
        intro w3 tv2 u61 u62 u63 u64 u65 u66 u67 u68 u69 u70 u71 u72 u73 u74 u75 u76 hb3 hr3
        have B3 := Lib.hid (HB.out.trans (hb3.mono HB.out.size))
        have R3 := Lib.hid hr3
        clear hb3 hr3
        simp only [Exit.inBlock, Exit.then]
        go_wp2
        go_roundw
        case rel => exact ⟨j + 1, _, by omega, by go_num, TP.out, R3.out, B3.out⟩
        case measure => simp [intOf]; omega
      · have g2 : decide ((1 : Int) < (own.length : Int)) = false := by simp; omega
        go_wp2
        exact HQ.out _ own _ _ _ _ _ _ _ _ _ _ _ _ _ _ _ _ _ _ _ _ _ _ _ _ _ _ _ _ _ _ _ _ _ _ _ _ _ _ HB.out HP.out HR.out
    · have g1 : decide ((j : Int) < (os.length : Int)) = false := by simp; omega
      go_wp2
      exact HQ.out _ own _ _ _ _ _ _ _ _ _ _ _ _ _ _ _ _ _ _ _ _ _ _ _ _ _ _ _ _ _ _ _ _ _ _ _ _ _ _ HB.out HP.out HR.out
end Go.Proofs.YtbfecndhjlimaaaDoor.Pr
