/-
  The law RelJoint, whole, out of the contracts wanted of package rel. Conditions: those contracts; lists no longer than a machine holds.
-/
import Derived.Test.YtdomincmoaahoaaRlRefE
import Derived.Test.YtdomincmoaahoaaRlTrue
import Derived.Deep.Cut
import Derived.Deep.CutBlock
namespace Go.Proofs.Ytdomincmoaahoaa.Rl
open Go.RowKit Go.Sort Go.Proofs.Ytdomincmoaahoaa Go.Proofs.Ytdomincmoaahoaa.Pu Go.Proofs.Ytdomincmoaahoaa.Rw Go.Proofs.Ytdomincmoaahoaa.Pr Go.Proofs.Ytdomincmoaahoaa.In Go.Proofs.Ytdomincmoaahoaa.Kp

/-- What the document's own normal form of both is, where it is one. -/
theorem joint_R {a b p : List Cn} (na : NF a) (nb : NF b) (h : foldR a b = some p) (h5 : p.length ≤ 5) : foldC a.length a b = .ok p := (foldC_R b a p a.length na.rise na.five).2 ⟨h, h5⟩
theorem joint_both {a b p : List Cn} {l : List An} (na : NF a) (nb : NF b) (h : foldC a.length a b = .ok p) (hl : (l.map (·.1)).Nodup) (h1 : matchL a l = true) (h2 : matchL b l = true) : matchL p l = true := by
  have e := (fold_match hl b a a.length p na.goodK nb.goodK h).1
  rw [e, h1, h2]
  rfl
noncomputable def joint2 : Code := afterN 2 (Try.f9.body.getD .skip)
set_option maxRecDepth 100000 in
set_option maxHeartbeats 8000000 in
theorem joint_2 {G : World → Prop} (K : ROks G) (w W : World) (hg : G w) (hb : Below w.heap.size w W) (av_ bv : Value) (a b : List Cn) (hp : RowC W av_ (a.map r5)) (hq : RowC W bv (b.map r5)) (na : NF a) (nb : NF b)
    (u0 u1 u2 u3 u4 u7 u8 u9 u10 u11 u12 u13 u14 u15 u16 u17 u18 u19 u20 u21 u22 u23 u24 u25 u26 u27 u28 u29 u30 u31 u32 u33 u34 u35 u36 u37 u38 u39 u40 u41 u42 u43 u44 u45 u46 u47 u48 u49 u50 u51 u52 u53 u54 u55 u56 u57 u58 u59 u60 u61 u62 u63 u64 u65 u66 u67 u68 u69 u70 u71 u72 u73 u74 u75 u76 u77 u78 u79 u80 u81 : Value) :
    Code.wp Try.prog joint2 (bodyPost Try.prog Try.f9 (RQ w)) ⟨(u0 :: u1 :: u2 :: u3 :: u4 :: av_ :: bv :: u7 :: u8 :: u9 :: u10 :: u11 :: u12 :: u13 :: u14 :: u15 :: u16 :: u17 :: u18 :: u19 :: u20 :: u21 :: u22 :: u23 :: u24 :: u25 :: u26 :: u27 :: u28 :: u29 :: u30 :: u31 :: u32 :: u33 :: u34 :: u35 :: u36 :: u37 :: u38 :: u39 :: u40 :: u41 :: u42 :: u43 :: u44 :: u45 :: u46 :: u47 :: u48 :: u49 :: u50 :: u51 :: u52 :: u53 :: u54 :: u55 :: u56 :: u57 :: u58 :: u59 :: u60 :: u61 :: u62 :: u63 :: u64 :: u65 :: u66 :: u67 :: u68 :: u69 :: u70 :: u71 :: u72 :: u73 :: u74 :: u75 :: u76 :: u77 :: u78 :: u79 :: u80 :: u81 :: []).toArray, []⟩ W := by
  have KK := Lib.hid K
  have HG := Lib.hid hg
  have B0 := Lib.hid hb
  have P0 := Lib.hid hp
  have Q0 := Lib.hid hq
  have NA := Lib.hid na
  have NB := Lib.hid nb
  clear K hg hb hp hq na nb
  unfold joint2
  conv => arg 2; whnf
  obtain ⟨ok, hok⟩ : ∃ k, meetsB a b = k := ⟨_, rfl⟩
  have OK := Lib.hid hok
  have MR := Lib.hid (meetsB_R (b := b) NA.out.rise NA.out.five)
  have JR := Lib.hid (fun p (h : foldR a b = some p) (h5 : p.length ≤ 5) => joint_R NA.out NB.out h h5)
  have RB := Lib.hid (ref_both (b := b) NA.out.rise)
  have L10 := Lib.hid (show (a ++ b).length ≤ 10 by have := NA.out.five; have := NB.out.five; simp; omega)
  rw [hok] at MR
  obtain ⟨res, hres⟩ : ∃ r, foldR a b = r := ⟨_, rfl⟩
  rw [hres] at MR RB
  simp only [hres] at JR
  clear hok hres
  go_wp2_with fail
  refine (KK.out.joint _ _ a b _ (KK.out.bel _ _ HG.out B0.out) P0.out Q0.out NA.out NB.out).mono ?_
  rintro e1 w1 ⟨jv, j, rfl, hj, hj0, hj1, hb⟩
  rw [OK.out] at hj0 hj1 ⊢
  have J0 := Lib.hid hj0
  have J1 := Lib.hid hj1
  clear hj0 hj1
  have B1 := Lib.hid (B0.out.trans (hb.mono B0.out.size))
  have P1 := Lib.hid (P0.out.on hb)
  have Q1 := Lib.hid (Q0.out.on hb)
  have J1 := Lib.hid hj
  clear hb hj B0 P0 Q0
  obtain ⟨v1, wa, v2, wb, r1, r2, ro, hb⟩ := both_runs P1.out Q1.out NA.out.five NB.out.five
  have MK := Lib.hid (rmake_any v2 (a ++ b) wb ro L10.out)
  rw [RB.out] at MK
  clear ro
  have B2 := Lib.hid (B1.out.trans (hb.mono B1.out.size))
  have P2 := Lib.hid (P1.out.on hb)
  have Q2 := Lib.hid (Q1.out.on hb)
  have J2 := Lib.hid (J1.out.on hb)
  clear hb B1 P1 Q1 J1
  go_wp2_with (first | (at_builtin; refine wpList_append_run rfl _ _ 25 rfl rfl rfl r1 ?_) | (at_builtin; refine wpList_append_run rfl _ _ 25 rfl rfl rfl r2 ?_) | fail)
  refine MK.out.mono ?_
  rintro e3 w3 ⟨hb, h3⟩
  have B3 := Lib.hid (B2.out.trans (hb.mono B2.out.size))
  have P3 := Lib.hid (P2.out.on hb)
  have Q3 := Lib.hid (Q2.out.on hb)
  have J3 := Lib.hid (J2.out.on hb)
  clear hb B2 P2 Q2 J2
  clear MK r1 r2 RB
  obtain ⟨jo, jc, rfl⟩ := J3.out.len
  rcases res with _ | p
  · obtain rfl : ok = false := MR.out
    obtain rfl := J0.out rfl
    obtain rfl := h3
    clear MR JR J0 J1
    go_wp2_with fail
    refine (runs_any KK.out _ (KK.out.bel _ _ HG.out B3.out)).mono ?_
    rintro e4 w4 ⟨rfl, hb⟩
    have B4 := Lib.hid (B3.out.trans (hb.mono B3.out.size))
    have P4 := Lib.hid (P3.out.on hb)
    have Q4 := Lib.hid (Q3.out.on hb)
    have J4 := Lib.hid (J3.out.on hb)
    clear hb B3 P3 Q3 J3
    go_wp2
    go_ret
    exact ⟨rfl, B4.out⟩
  · obtain ⟨pv, rfl, hp⟩ := h3
    have R3 := Lib.hid hp
    obtain ⟨po, pc, rfl⟩ := hp.len
    rw [List.length_map] at R3 ⊢
    clear hp
    by_cases h5 : p.length ≤ 5
    · obtain rfl : ok = true := MR.out.trans (by simpa using h5)
      have d1 : decide ((p.length : Int) ≤ 5) = true := by simp; omega
      obtain ⟨nj, rj, m1, m2⟩ := J1.out rfl
      have FC := Lib.hid (JR.out p rfl h5)
      have NP := Lib.hid (nf_joint NA.out NB.out FC.out)
      have M0 := Lib.hid (joint_both NA.out NB.out FC.out nj.nodup m1 m2)
      have CV := Lib.hid (fold_covers b a a.length p NA.out.goodK NB.out.goodK FC.out)
      have NJ := Lib.hid nj
      have RJ := Lib.hid rj
      have M1 := Lib.hid m1
      have M2 := Lib.hid m2
      clear nj rj m1 m2 MR JR J0 J1 h5
      go_wp2_with fail
      refine (KK.out.match_ _ _ p j _ (KK.out.bel _ _ HG.out B3.out) R3.out J3.out NP.out NJ.out).mono ?_
      rintro e4 w4 ⟨rfl, hb⟩
      rw [M0.out]
      have B4 := Lib.hid (B3.out.trans (hb.mono B3.out.size))
      have P4 := Lib.hid (P3.out.on hb)
      have Q4 := Lib.hid (Q3.out.on hb)
      have J4 := Lib.hid (J3.out.on hb)
      have R4 := Lib.hid (R3.out.on hb)
      clear hb B3 P3 Q3 J3 R3
      go_wp2_with fail
      refine (KK.out.match_ _ _ a j _ (KK.out.bel _ _ HG.out B4.out) P4.out J4.out NA.out NJ.out).mono ?_
      rintro e5 w5 ⟨rfl, hb⟩
      rw [M1.out]
      have B5 := Lib.hid (B4.out.trans (hb.mono B4.out.size))
      have P5 := Lib.hid (P4.out.on hb)
      have Q5 := Lib.hid (Q4.out.on hb)
      have J5 := Lib.hid (J4.out.on hb)
      have R5 := Lib.hid (R4.out.on hb)
      clear hb B4 P4 Q4 J4 R4
      go_wp2_with fail
      refine (KK.out.match_ _ _ b j _ (KK.out.bel _ _ HG.out B5.out) Q5.out J5.out NB.out NJ.out).mono ?_
      rintro e6 w6 ⟨rfl, hb⟩
      rw [M2.out]
      have B6 := Lib.hid (B5.out.trans (hb.mono B5.out.size))
      have P6 := Lib.hid (P5.out.on hb)
      have Q6 := Lib.hid (Q5.out.on hb)
      have J6 := Lib.hid (J5.out.on hb)
      have R6 := Lib.hid (R5.out.on hb)
      clear hb B5 P5 Q5 J5 R5
      go_wp2_with fail
      refine (tright_any _ j _ J6.out NJ.out).mono ?_
      rintro e7 w7 ⟨rfl, hb⟩
      rw [RJ.out]
      have B7 := Lib.hid (B6.out.trans (hb.mono B6.out.size))
      have P7 := Lib.hid (P6.out.on hb)
      have Q7 := Lib.hid (Q6.out.on hb)
      have J7 := Lib.hid (J6.out.on hb)
      have R7 := Lib.hid (R6.out.on hb)
      clear hb B6 P6 Q6 J6 R6
      go_wp2_with fail
      refine (KK.out.covers _ _ a p _ (KK.out.bel _ _ HG.out B7.out) P7.out R7.out NA.out NP.out).mono ?_
      rintro e8 w8 ⟨rfl, hb⟩
      rw [CV.out.1]
      have B8 := Lib.hid (B7.out.trans (hb.mono B7.out.size))
      have P8 := Lib.hid (P7.out.on hb)
      have Q8 := Lib.hid (Q7.out.on hb)
      have J8 := Lib.hid (J7.out.on hb)
      have R8 := Lib.hid (R7.out.on hb)
      clear hb B7 P7 Q7 J7 R7
      go_wp2_with fail
      refine (KK.out.covers _ _ b p _ (KK.out.bel _ _ HG.out B8.out) Q8.out R8.out NB.out NP.out).mono ?_
      rintro e9 w9 ⟨rfl, hb⟩
      rw [CV.out.2]
      have B9 := Lib.hid (B8.out.trans (hb.mono B8.out.size))
      have P9 := Lib.hid (P8.out.on hb)
      have Q9 := Lib.hid (Q8.out.on hb)
      have J9 := Lib.hid (J8.out.on hb)
      have R9 := Lib.hid (R8.out.on hb)
      clear hb B8 P8 Q8 J8 R8
      go_wp2_with fail
      refine (KK.out.sample _ p _ (KK.out.bel _ _ HG.out B9.out) R9.out NP.out).mono ?_
      rintro e10 w10 ⟨sv, s, rfl, hs, hn, _, hm, _, hb⟩
      have SM := Lib.hid hm
      have NS := Lib.hid hn
      clear hm hn
      have B10 := Lib.hid (B9.out.trans (hb.mono B9.out.size))
      have P10 := Lib.hid (P9.out.on hb)
      have Q10 := Lib.hid (Q9.out.on hb)
      have J10 := Lib.hid (J9.out.on hb)
      have R10 := Lib.hid (R9.out.on hb)
      have S10 := Lib.hid hs
      clear hb hs B9 P9 Q9 J9 R9
      go_wp2_with fail
      refine (KK.out.match_ _ _ p s _ (KK.out.bel _ _ HG.out B10.out) R10.out S10.out NP.out NS.out).mono ?_
      rintro e11 w11 ⟨rfl, hb⟩
      rw [SM.out]
      have B11 := Lib.hid (B10.out.trans (hb.mono B10.out.size))
      have P11 := Lib.hid (P10.out.on hb)
      have Q11 := Lib.hid (Q10.out.on hb)
      have J11 := Lib.hid (J10.out.on hb)
      have R11 := Lib.hid (R10.out.on hb)
      have S11 := Lib.hid (S10.out.on hb)
      clear hb B10 P10 Q10 J10 R10 S10
      go_wp2_with fail
      refine (runs_any KK.out _ (KK.out.bel _ _ HG.out B11.out)).mono ?_
      rintro e12 w12 ⟨rfl, hb⟩
      have B12 := Lib.hid (B11.out.trans (hb.mono B11.out.size))
      have P12 := Lib.hid (P11.out.on hb)
      have Q12 := Lib.hid (Q11.out.on hb)
      have J12 := Lib.hid (J11.out.on hb)
      have R12 := Lib.hid (R11.out.on hb)
      have S12 := Lib.hid (S11.out.on hb)
      clear hb B11 P11 Q11 J11 R11 S11
      go_wp2
      go_ret
      exact ⟨rfl, B12.out⟩
    · obtain rfl : ok = false := MR.out.trans (by simpa using h5)
      have d1 : decide ((p.length : Int) ≤ 5) = false := by simp; omega
      obtain rfl := J0.out rfl
      clear MR JR J0 J1 h5 R3
      go_wp2_with fail
      refine (runs_any KK.out _ (KK.out.bel _ _ HG.out B3.out)).mono ?_
      rintro e4 w4 ⟨rfl, hb⟩
      have B4 := Lib.hid (B3.out.trans (hb.mono B3.out.size))
      have P4 := Lib.hid (P3.out.on hb)
      have Q4 := Lib.hid (Q3.out.on hb)
      have J4 := Lib.hid (J3.out.on hb)
      clear hb B3 P3 Q3 J3
      go_wp2
      go_ret
      exact ⟨rfl, B4.out⟩
set_option maxRecDepth 100000 in
set_option maxHeartbeats 8000000 in
theorem joint_any {G : World → Prop} (K : ROks G) (hv vv ov_ uv : Value) (has vals has2 vals2 : List Int) (w : World) (hg : G w) (i1 : InInts w hv has) (i2 : InInts w vv vals) (i3 : InInts w ov_ has2) (i4 : InInts w uv vals2)
    (l1 : has.length ≤ maxLen) (l2 : vals.length ≤ maxLen) (l3 : has2.length ≤ maxLen) (l4 : vals2.length ≤ maxLen) :
    Calls Try.prog 9 #[.agg #[hv, vv], .agg #[ov_, uv]] w (RQ w) := by
  have HG := Lib.hid hg
  have B0 := Lib.hid (show Below w.heap.size w (lay2 w hv vv ov_ uv) from (((Below.refl _ _).alloc (Nat.le_refl _) _).alloc (by simp) _).drew)
  have T1 := Lib.hid (fun W hW => pred_row hv vv has vals (lay2 w hv vv ov_ uv) W hW (i1.on B0.out) (i2.on B0.out) l1 l2)
  have T2 := Lib.hid (fun W hW => pred_row ov_ uv has2 vals2 (lay2 w hv vv ov_ uv) W hW (i3.on B0.out) (i4.on B0.out) l3 l4)
  have NA := Lib.hid (prd_nf has vals)
  have NB := Lib.hid (prd_nf has2 vals2)
  have LL := Lib.hid (lp2_lay w hv vv ov_ uv)
  have a0 := LL.out.a0
  have a1 := LL.out.a1
  have b0 := LL.out.b0
  have b1 := LL.out.b1
  have hsz : (lay2 w hv vv ov_ uv).heap.size = w.heap.size + 1 + 1 := by simp
  have HSZ := Lib.hid (Nat.le_of_eq hsz.symm)
  clear hg i1 i2 i3 i4 l1 l2 l3 l4 hsz
  generalize prd has vals 7 = l at *
  generalize prd has2 vals2 7 = m at *
  go_enter Try.func9, Try.ntmps9
  go_wp2_with fail
  go_region_law (first
    | (refine step_call_run rfl (ex_call1 _ _ (.tmp 11) 29 12 rfl rfl rfl _ (call_pred _ _)) (T1.out _ (Below.refl _ _)) ?_; rintro e3 w3 ⟨pv, rfl, hp, hbp⟩; have L3 := Lib.hid (LL.out.on hbp HSZ.out); have d0 := L3.out.b0; have d1 := L3.out.b1; refine ⟨_, rfl, ?_⟩)
    | (refine step_call_run rfl (ex_call1 _ _ (.tmp 13) 29 12 rfl rfl rfl _ (call_pred _ _)) (T2.out _ hbp) ?_; rintro e4 w4 ⟨qv, rfl, hq, hbq⟩; have hbQ := hbp.trans (hbq.mono hbp.size); refine ⟨_, rfl, ?_⟩))
  all_goals simp only [Exit.then]
  all_goals apply_assumption
  all_goals exact joint_2 K w _ HG.out (B0.out.trans (hbQ.mono B0.out.size)) _ _ l m (hp.on hbq) hq NA.out NB.out _ _ _ _ _ _ _ _ _ _ _ _ _ _ _ _ _ _ _ _ _ _ _ _ _ _ _ _ _ _ _ _ _ _ _ _ _ _ _ _ _ _ _ _ _ _ _ _ _ _ _ _ _ _ _ _ _ _ _ _ _ _ _ _ _ _ _ _ _ _ _ _ _ _ _ _ _ _ _ _
end Go.Proofs.Ytdomincmoaahoaa.Rl
