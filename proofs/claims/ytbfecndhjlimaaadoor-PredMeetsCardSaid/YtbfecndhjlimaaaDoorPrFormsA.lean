/-
  The law PredForms: its last part. Condition: the contracts of package pred.
-/
import Derived.Test.YtbfecndhjlimaaaDoorPrLaw
import Derived.Test.YtbfecndhjlimaaaDoorPrPred
namespace Go.Proofs.YtbfecndhjlimaaaDoor.Pr
open Go.RowKit Go.Sort Go.Proofs.YtbfecndhjlimaaaDoor Go.Proofs.YtbfecndhjlimaaaDoor.Pu Go.Proofs.YtbfecndhjlimaaaDoor.Rw Go.Proofs.YtbfecndhjlimaaaDoor.Va Go.Proofs.YtbfecndhjlimaaaDoor.Kp

/-- What a right predicate of numbers is. -/
structure NF (l : List Cn) : Prop where
  rise : RiseC l
  five : l.length ≤ 5
  good : ∀ c ∈ l, goodC c = true
  small : ∀ c ∈ l, smallC c
theorem NF.goodK {l : List Cn} (h : NF l) : ∀ c ∈ l, Pr.goodK c.2 = true := fun c hc => by
  have := h.good c hc
  simp only [goodC, Bool.and_eq_true] at this
  exact this.2
theorem NF.names {l : List Cn} (h : NF l) : ∀ c ∈ l, c.1.data.toList.all letB = true := fun c hc => by
  have := h.good c hc
  simp only [goodC, nameB, Bool.and_eq_true] at this
  exact this.1.1
theorem NF.smallP {l : List Cn} (h : NF l) : SmallP l := ⟨by have := h.five; omega, h.small⟩
theorem nameB_nm (i : Nat) (h : i < 7) : nameB (nm i) = true := by
  match i, h with
  | 0, _ => decide
  | 1, _ => decide
  | 2, _ => decide
  | 3, _ => decide
  | 4, _ => decide
  | 5, _ => decide
  | 6, _ => decide
theorem nm_size (i : Nat) : (nm i).size = 1 := rfl
theorem kd_small (n : Int) : (kT (kdOf n)).size ≤ 100 ∧ (-9223372036854775808 ≤ kLo (kdOf n) ∧ kLo (kdOf n) ≤ 9223372036854775807) ∧ (-9223372036854775808 ≤ kHi (kdOf n) ∧ kHi (kdOf n) ≤ 9223372036854775807) := by
  have h1 := Wi.within_bd (n.tdiv 4) 0 9 (by omega)
  have h2 := Wi.within_bd (n.tdiv 40) 0 9 (by omega)
  have ht : (tx6 n).size ≤ 3 := txt_size _
  unfold kdOf lo9
  split
  · refine ⟨by show (0 : Nat) ≤ 100; omega, ?_, ?_⟩ <;> simp only [kLo, kHi] <;> omega
  · split
    · refine ⟨by show (tx6 n).size ≤ 100; omega, ?_, ?_⟩ <;> simp only [kLo, kHi] <;> omega
    · refine ⟨by show (tx6 n).size ≤ 100; omega, ?_, ?_⟩ <;> simp only [kLo, kHi] <;> omega
theorem prd_small (has vals : List Int) : ∀ k, ∀ x ∈ prd has vals k, smallC x
  | 0, x, h => by simp [prd] at h
  | k + 1, x, h => by
    simp only [prd] at h
    split at h
    · rcases List.mem_append.1 h with h | h
      · exact prd_small has vals k x h
      · simp at h
        rw [h]
        exact ⟨by show (nm k).size ≤ 100; rw [nm_size]; omega, kd_small _⟩
    · exact prd_small has vals k x h
theorem prd_nf (has vals : List Int) : NF (prd has vals 7) :=
  ⟨prd_rise has vals 7 (Nat.le_refl _), prd_five has vals 7, fun c hc => by
    obtain ⟨i, h1, h2⟩ := prd_names has vals 7 c hc
    simp only [goodC, Bool.and_eq_true]
    exact ⟨by rw [h2]; exact nameB_nm i h1, prd_good has vals 7 c hc⟩, prd_small has vals 7⟩
theorem r5_inj {a b : Cn} (h : r5 a = r5 b) : a = b := by
  obtain ⟨n, a⟩ := a
  obtain ⟨m, b⟩ := b
  simp only [r5, Prod.mk.injEq] at h
  obtain ⟨rfl, h1, h2, h3, h4⟩ := h
  cases a <;> cases b <;> simp [kN, kLo, kHi, kT] at h1 h2 h3 h4 <;> simp [*]
theorem map_r5_inj : ∀ {l m : List Cn}, l.map r5 = m.map r5 → l = m
  | [], [], _ => rfl
  | [], y :: m, h => by simp at h
  | x :: l, [], h => by simp at h
  | x :: l, y :: m, h => by
    simp only [List.map_cons, List.cons.injEq] at h
    rw [r5_inj h.1, map_r5_inj h.2]
theorem sayP_eq {l m : List Cn} (hl : NF l) (hm : NF m) : ((⟨(sayC l).toArray⟩ : ByteArray).toList == (⟨(sayC m).toArray⟩ : ByteArray).toList) = sameC (l.map r5) (m.map r5) := by
  rw [ByteArray.toList_eq, ByteArray.toList_eq]
  cases h : sameC (l.map r5) (m.map r5)
  · rw [beq_eq_false_iff_ne]
    intro e
    rw [sayC_inj l m hl.names hm.names (by simpa using e), sameC_refl] at h
    cases h
  · rw [map_r5_inj ((sameC_iff _ _).1 h)]
    exact beq_self_eq_true _
theorem make_ok {G : World → Prop} (K : POks G) (lv : Value) (l : List Cn) (m : List Cn) (w : World) (hm : makeC l = .ok m) (hg : G w) (hl : RowC w lv (l.map r5)) (hs : SmallP l) (hgd : ∀ c ∈ l, goodC c = true) :
    Calls Tryd.prog 9 #[lv] w fun e w' => ∃ pv, e = .returned (.tuple #[pv, .nilIface]) ∧ RowC w' pv (m.map r5) ∧ Below w.heap.size w w' :=
  (K.make lv l w hg hl hs hgd).mono fun e w' ⟨hb, h⟩ => by
    rw [hm] at h
    obtain ⟨pv, h1, h2⟩ := h
    exact ⟨pv, h1, h2, hb⟩
noncomputable def forms4 : Code := afterN 4 (Tryd.f4.body.getD .skip)
noncomputable def forms5 : Code := afterN 5 (Tryd.f4.body.getD .skip)
def PFQ (w : World) (e : Ending) (w' : World) : Prop := e = .returned (.bool true) ∧ Below w.heap.size w w'

set_option maxRecDepth 100000 in
set_option maxHeartbeats 4000000 in
theorem forms_tail {G : World → Prop} (K : POks G) (w W : World) (pv qv xv yv : Value) (l m : List Cn) (hg : G w) (hb : Below w.heap.size w W) (hp : RowC W pv (l.map r5)) (hq : RowC W qv (m.map r5)) (hx : RowC W xv (l.map r5)) (hy : RowC W yv (l.map r5)) (nl : NF l) (nm_ : NF m)
    (u0 u1 u2 u3 u4 u5 u6 u11 u14 u15 u16 u17 u18 u19 u20 u21 u22 u23 u24 u25 u26 u27 u28 u29 u30 u31 u32 u33 u34 u35 u36 u37 u38 u39 u40 u41 u42 u43 u44 u45 u46 u47 u48 u49 u50 u51 u52 u53 u54 u55 u56 u57 u58 u59 u60 u61 u62 u63 u64 u65 u66 u67 u68 u69 u70 u71 u72 u73 u74 u75 u76 u77 u78 u79 u80 u81 u82 u83 u84 u85 u86 u87 u88 u89 u90 u91 u92 u93 u94 u95 u96 u97 u98 u99 u100 u101 u102 u103 u104 u105 u106 u107 u108 u109 u110 u111 u112 u113 u114 u115 u116 u117 : Value) :
    Code.wp Tryd.prog forms5 (bodyPost Tryd.prog Tryd.f4 (PFQ w)) ⟨(u0 :: u1 :: u2 :: u3 :: u4 :: u5 :: u6 :: pv :: qv :: xv :: .nilIface :: u11 :: yv :: .nilIface :: u14 :: u15 :: u16 :: u17 :: u18 :: u19 :: u20 :: u21 :: u22 :: u23 :: u24 :: u25 :: u26 :: u27 :: u28 :: u29 :: u30 :: u31 :: u32 :: u33 :: u34 :: u35 :: u36 :: u37 :: u38 :: u39 :: u40 :: u41 :: u42 :: u43 :: u44 :: u45 :: u46 :: u47 :: u48 :: u49 :: u50 :: u51 :: u52 :: u53 :: u54 :: u55 :: u56 :: u57 :: u58 :: u59 :: u60 :: u61 :: u62 :: u63 :: u64 :: u65 :: u66 :: u67 :: u68 :: u69 :: u70 :: u71 :: u72 :: u73 :: u74 :: u75 :: u76 :: u77 :: u78 :: u79 :: u80 :: u81 :: u82 :: u83 :: u84 :: u85 :: u86 :: u87 :: u88 :: u89 :: u90 :: u91 :: u92 :: u93 :: u94 :: u95 :: u96 :: u97 :: u98 :: u99 :: u100 :: u101 :: u102 :: u103 :: u104 :: u105 :: u106 :: u107 :: u108 :: u109 :: u110 :: u111 :: u112 :: u113 :: u114 :: u115 :: u116 :: u117 :: []).toArray, []⟩ W := by
  have KK := Lib.hid K
  have HG := Lib.hid hg
  have B0 := Lib.hid hb
  have P0 := Lib.hid hp
  have Q0 := Lib.hid hq
  have X0 := Lib.hid hx
  have Y0 := Lib.hid hy
  have L5 := Lib.hid nl.five
  have M5 := Lib.hid nm_.five
  have NL := Lib.hid nl
  have NM := Lib.hid nm_
  have l5 := nl.five
  have m5 := nm_.five
  have MK := ownC_nil W
  have BA := Lib.hid ((Below.refl W.heap.size W).alloc (Nat.le_refl _) (.cells #[] 23))
  obtain ⟨v1, w1, r1, o1, g1⟩ := appC W.heap.size MK (hp.on BA.out) (by decide) (by simp; omega) (by simp)
  have B1 := Lib.hid (BA.out.grown g1 (by simp) (fun j hj => (MK.lt j hj).1))
  obtain ⟨v2, w2, r2, o2, g2⟩ := appC W.heap.size o1 (hp.on B1.out) (by simp; omega) (by simp; omega) B1.out.size
  have B2 := Lib.hid (B1.out.grown g2 B1.out.size (fun j hj => (o1.lt j hj).1))
  have R2 := Lib.hid (show RowC w2 v2 ((l ++ l).map r5) by rw [List.map_append]; exact Row.of_own (by simpa using o2))
  have BB := Lib.hid (B0.out.trans (B2.out.mono B0.out.size))
  have P2 := Lib.hid (P0.out.on B2.out)
  have Q2 := Lib.hid (Q0.out.on B2.out)
  have X2 := Lib.hid (X0.out.on B2.out)
  have Y2 := Lib.hid (Y0.out.on B2.out)
  obtain ⟨po, pc, hpv⟩ := hp.len
  obtain ⟨qo, qc, hqv⟩ := hq.len
  rw [List.length_map] at hpv hqv
  subst hpv hqv
  clear K hg hb hp hq hx hy nl nm_ MK o1 g1 o2 g2 BA B1 B2 P0 Q0 X0 Y0 B0
  have CZ := make_ok KK.out v2 (l ++ l) l w2 (make_twice NL.out.rise NL.out.five NL.out.goodK) (KK.out.bel _ _ HG.out BB.out) R2.out ⟨by have := L5.out; simp; omega, fun c hc => by rcases List.mem_append.1 hc with h | h <;> exact NL.out.small c h⟩ (fun c hc => by rcases List.mem_append.1 hc with h | h <;> exact NL.out.good c h)
  have HZ := Lib.hid CZ
  clear CZ
  conv => arg 2; whnf
  go_wp2_with (first | (at_builtin; refine wpList_append_run rfl _ _ 25 rfl rfl rfl r1 ?_) | (at_builtin; refine wpList_append_run rfl _ _ 25 rfl rfl rfl r2 ?_) | fail)
  clear r1 r2
  refine HZ.out.mono ?_
  rintro e3 w3 ⟨zv, rfl, hz, hb⟩
  have B3 := Lib.hid (BB.out.trans (hb.mono BB.out.size))
  have P3 := Lib.hid (P2.out.on hb)
  have Q3 := Lib.hid (Q2.out.on hb)
  have X3 := Lib.hid (X2.out.on hb)
  have Y3 := Lib.hid (Y2.out.on hb)
  have Z3 := Lib.hid hz
  clear hb hz BB P2 Q2 X2 Y2 R2 HZ
  have CN := make_ok KK.out (.slice none 0 0) [] [] w3 rfl (KK.out.bel _ _ HG.out B3.out) (row_nil _) ⟨by decide, fun c hc => by cases hc⟩ (fun c hc => by cases hc)
  go_wp2_with fail
  refine CN.mono ?_
  clear CN
  rintro e4 w4 ⟨nv, rfl, hn, hb⟩
  have B4 := Lib.hid (B3.out.trans (hb.mono B3.out.size))
  have P4 := Lib.hid (P3.out.on hb)
  have Q4 := Lib.hid (Q3.out.on hb)
  have X4 := Lib.hid (X3.out.on hb)
  have Y4 := Lib.hid (Y3.out.on hb)
  have Z4 := Lib.hid (Z3.out.on hb)
  obtain ⟨no, nc, hnv⟩ := hn.len
  rw [show ((([] : List Cn).map r5).length) = 0 from rfl] at hnv
  subst hnv
  clear hb hn B3 P3 Q3 X3 Y3 Z3
  go_wp2_with fail
  refine (sameC_any _ _ _ _ w4 X4.out P4.out (by simp; omega) (by simp; omega)).mono ?_
  rintro e5 w5 ⟨rfl, hb⟩
  have B5 := Lib.hid (B4.out.trans (hb.mono B4.out.size))
  have P5 := Lib.hid (P4.out.on hb)
  have Q5 := Lib.hid (Q4.out.on hb)
  have Y5 := Lib.hid (Y4.out.on hb)
  have Z5 := Lib.hid (Z4.out.on hb)
  clear hb B4 P4 Q4 Y4 Z4
  rw [sameC_refl]
  go_wp2_with fail
  refine (sameC_any _ _ _ _ w5 Y5.out P5.out (by simp; omega) (by simp; omega)).mono ?_
  rintro e6 w6 ⟨rfl, hb⟩
  have B6 := Lib.hid (B5.out.trans (hb.mono B5.out.size))
  have P6 := Lib.hid (P5.out.on hb)
  have Q6 := Lib.hid (Q5.out.on hb)
  have Z6 := Lib.hid (Z5.out.on hb)
  clear hb B5 P5 Q5 Z5
  rw [sameC_refl]
  go_wp2_with fail
  refine (sameC_any _ _ _ _ w6 Z6.out P6.out (by simp; omega) (by simp; omega)).mono ?_
  rintro e7 w7 ⟨rfl, hb⟩
  have B7 := Lib.hid (B6.out.trans (hb.mono B6.out.size))
  have P7 := Lib.hid (P6.out.on hb)
  have Q7 := Lib.hid (Q6.out.on hb)
  clear hb B6 P6 Q6
  rw [sameC_refl]
  go_wp2_with fail
  have CR := KK.out.right _ l w7 P7.out NL.out.smallP NL.out.rise NL.out.five NL.out.good
  refine CR.mono ?_
  clear CR
  rintro e8 w8 ⟨rfl, hb⟩
  have B8 := Lib.hid (B7.out.trans (hb.mono B7.out.size))
  have P8 := Lib.hid (P7.out.on hb)
  have Q8 := Lib.hid (Q7.out.on hb)
  clear hb B7 P7 Q7
  go_wp2_with fail
  have CS := KK.out.same _ _ (l.map r5) (m.map r5) w8 P8.out Q8.out (by simp; omega) (by simp; omega)
  refine CS.mono ?_
  clear CS
  rintro e9 w9 ⟨rfl, hb⟩
  have B9 := Lib.hid (B8.out.trans (hb.mono B8.out.size))
  have P9 := Lib.hid (P8.out.on hb)
  have Q9 := Lib.hid (Q8.out.on hb)
  clear hb B8 P8 Q8
  generalize hsm : sameC (l.map r5) (m.map r5) = sm
  have SM := Lib.hid hsm
  clear hsm
  go_wp2_with fail
  have CS := sameC_any _ _ (l.map r5) (m.map r5) w9 P9.out Q9.out (by simp; omega) (by simp; omega)
  rw [SM.out] at CS
  refine CS.mono ?_
  clear CS
  rintro e10 w10 ⟨rfl, hb⟩
  have B10 := Lib.hid (B9.out.trans (hb.mono B9.out.size))
  have P10 := Lib.hid (P9.out.on hb)
  have Q10 := Lib.hid (Q9.out.on hb)
  clear hb B9 P9 Q9
  go_wp2_with fail
  have CS := KK.out.say _ l w10 (KK.out.bel _ _ HG.out B10.out) P10.out NL.out.smallP
  refine CS.mono ?_
  clear CS
  rintro e11 w11 ⟨rfl, hb⟩
  have B11 := Lib.hid (B10.out.trans (hb.mono B10.out.size))
  have P11 := Lib.hid (P10.out.on hb)
  have Q11 := Lib.hid (Q10.out.on hb)
  clear hb B10 P10 Q10
  go_wp2_with fail
  have CS := KK.out.say _ m w11 (KK.out.bel _ _ HG.out B11.out) Q11.out NM.out.smallP
  refine CS.mono ?_
  clear CS
  rintro e12 w12 ⟨rfl, hb⟩
  have B12 := Lib.hid (B11.out.trans (hb.mono B11.out.size))
  have P12 := Lib.hid (P11.out.on hb)
  have Q12 := Lib.hid (Q11.out.on hb)
  clear hb B11 P11 Q11
  have se := sayP_eq NL.out NM.out
  rw [SM.out] at se
  generalize (⟨(sayC l).toArray⟩ : ByteArray) = s1 at *
  generalize (⟨(sayC m).toArray⟩ : ByteArray) = s2 at *
  go_wp2_with fail
  have CS := sameC_any _ _ (l.map r5) (m.map r5) w12 P12.out Q12.out (by simp; omega) (by simp; omega)
  rw [SM.out] at CS
  refine CS.mono ?_
  clear CS
  rintro e13 w13 ⟨rfl, hb⟩
  have B13 := Lib.hid (B12.out.trans (hb.mono B12.out.size))
  clear hb B12 P12 Q12
  go_wp2_with fail
  refine (pruns_any KK.out w13 (KK.out.bel _ _ HG.out B13.out)).mono ?_
  rintro e14 w14 ⟨rfl, hb⟩
  have B14 := Lib.hid (B13.out.trans (hb.mono B13.out.size))
  clear hb
  go_wp2
  go_ret
  exact ⟨rfl, B14.out⟩
end Go.Proofs.YtbfecndhjlimaaaDoor.Pr
