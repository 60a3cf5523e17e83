/-
  The law RelLaws out of the contracts wanted of package rel: how the predicates are to each other.
-/
import Derived.Test.YtdomincmoaahoaaRlLawsA
namespace Go.Proofs.Ytdomincmoaahoaa.Rl
open Go.RowKit Go.Sort Go.Proofs.Ytdomincmoaahoaa Go.Proofs.Ytdomincmoaahoaa.Pu Go.Proofs.Ytdomincmoaahoaa.Rw Go.Proofs.Ytdomincmoaahoaa.Pr

theorem meets_symB {a b : List Cn} (na : NF a) (nb : NF b) : meetsB b a = meetsB a b := by
  rw [Bool.eq_iff_iff, meetsB_iff nb.rise na.rise nb.five, meetsB_iff na.rise nb.rise na.five]
  exact ⟨fun h => h.symm nb.rise na.rise nb.goodK na.goodK, fun h => h.symm na.rise nb.rise na.goodK nb.goodK⟩
theorem covers_meetsB {a b c : List Cn} (na : NF a) (nb : NF b) (nc : NF c) (h : coversL a b = true) (hm : meetsB b c = true) : meetsB a c = true :=
  (meetsB_iff na.rise nc.rise na.five).2 (covers_meets na.rise nc.rise nb.goodK nc.goodK h ((meetsB_iff nb.rise nc.rise nb.five).1 hm))
set_option maxRecDepth 100000 in
set_option maxHeartbeats 8000000 in
theorem laws_2 {G : World → Prop} (K : ROks G) (w W : World) (av_ bv cv_ : Value) (a b c : List Cn) (hg : G w) (hb : Below w.heap.size w W) (hp : RowC W av_ (a.map r5)) (hq : RowC W bv (b.map r5)) (hr : RowC W cv_ (c.map r5)) (na : NF a) (nb : NF b) (nc : NF c)
    (u0 u1 u2 u3 u4 u5 u10 u11 u12 u13 u14 u15 u16 u17 u18 u19 u20 u21 u22 u23 u24 u25 u26 u27 u28 u29 u30 u31 u32 u33 u34 u35 u36 u37 u38 u39 u40 u41 u42 u43 u44 u45 u46 u47 u48 u49 u50 u51 u52 u53 u54 u55 u56 u57 u58 u59 u60 u61 u62 u63 u64 u65 u66 u67 u68 u69 u70 u71 u72 u73 u74 u75 u76 u77 u78 u79 u80 u81 u82 u83 u84 u85 u86 u87 u88 u89 u90 u91 u92 u93 u94 u95 u96 : Value) :
    Code.wp Try.prog laws2 (bodyPost Try.prog Try.f6 (RQ w)) ⟨(u0 :: u1 :: u2 :: u3 :: u4 :: u5 :: .bool false :: av_ :: bv :: cv_ :: u10 :: u11 :: u12 :: u13 :: u14 :: u15 :: u16 :: u17 :: u18 :: u19 :: u20 :: u21 :: u22 :: u23 :: u24 :: u25 :: u26 :: u27 :: u28 :: u29 :: u30 :: u31 :: u32 :: u33 :: u34 :: u35 :: u36 :: u37 :: u38 :: u39 :: u40 :: u41 :: u42 :: u43 :: u44 :: u45 :: u46 :: u47 :: u48 :: u49 :: u50 :: u51 :: u52 :: u53 :: u54 :: u55 :: u56 :: u57 :: u58 :: u59 :: u60 :: u61 :: u62 :: u63 :: u64 :: u65 :: u66 :: u67 :: u68 :: u69 :: u70 :: u71 :: u72 :: u73 :: u74 :: u75 :: u76 :: u77 :: u78 :: u79 :: u80 :: u81 :: u82 :: u83 :: u84 :: u85 :: u86 :: u87 :: u88 :: u89 :: u90 :: u91 :: u92 :: u93 :: u94 :: u95 :: u96 :: []).toArray, []⟩ W := by
  have KK := Lib.hid K
  have HG := Lib.hid hg
  have B0 := Lib.hid hb
  have P0 := Lib.hid hp
  have Q0 := Lib.hid hq
  have R0 := Lib.hid hr
  have NA := Lib.hid na
  have NB := Lib.hid nb
  have NC := Lib.hid nc
  have SY := Lib.hid (meets_symB na nb)
  clear K hg hb hp hq hr na nb nc
  unfold laws2
  conv => enter [2, 1]; whnf
  cases hm : meetsB a b
  all_goals (have HM := Lib.hid hm; clear hm)
  all_goals (cases hab : coversL a b)
  all_goals (have HAB := Lib.hid hab; clear hab)
  · skip
    go_wp2_with fail
    refine (KK.out.covers _ _ a b _ (KK.out.bel _ _ HG.out B0.out) P0.out Q0.out NA.out NB.out).mono ?_
    rintro e1 w1 ⟨rfl, hb⟩
    rw [HAB.out]
    have B1 := Lib.hid (B0.out.trans (hb.mono B0.out.size))
    have P1 := Lib.hid (P0.out.on hb)
    have Q1 := Lib.hid (Q0.out.on hb)
    have R1 := Lib.hid (R0.out.on hb)
    clear hb B0 P0 Q0 R0
    go_wp2_with fail
    refine (KK.out.meets _ _ a b _ (KK.out.bel _ _ HG.out B1.out) P1.out Q1.out NA.out NB.out).mono ?_
    rintro e2 w2 ⟨rfl, hb⟩
    rw [HM.out]
    have B2 := Lib.hid (B1.out.trans (hb.mono B1.out.size))
    have P2 := Lib.hid (P1.out.on hb)
    have Q2 := Lib.hid (Q1.out.on hb)
    have R2 := Lib.hid (R1.out.on hb)
    clear hb B1 P1 Q1 R1
    go_wp2_with fail
    refine (KK.out.meets _ _ b a _ (KK.out.bel _ _ HG.out B2.out) Q2.out P2.out NB.out NA.out).mono ?_
    rintro e3 w3 ⟨rfl, hb⟩
    rw [SY.out, HM.out]
    have B3 := Lib.hid (B2.out.trans (hb.mono B2.out.size))
    have P3 := Lib.hid (P2.out.on hb)
    have Q3 := Lib.hid (Q2.out.on hb)
    have R3 := Lib.hid (R2.out.on hb)
    clear hb B2 P2 Q2 R2
    go_wp2_with fail
    refine (KK.out.covers _ _ a a _ (KK.out.bel _ _ HG.out B3.out) P3.out P3.out NA.out NA.out).mono ?_
    rintro e4 w4 ⟨rfl, hb⟩
    rw [covers_self]
    have B4 := Lib.hid (B3.out.trans (hb.mono B3.out.size))
    have P4 := Lib.hid (P3.out.on hb)
    have Q4 := Lib.hid (Q3.out.on hb)
    have R4 := Lib.hid (R3.out.on hb)
    clear hb B3 P3 Q3 R3
    go_wp2_with fail
    refine (KK.out.covers _ _ [] a _ (KK.out.bel _ _ HG.out B4.out) (row_nil _) P4.out nf_nil NA.out).mono ?_
    rintro e5 w5 ⟨rfl, hb⟩
    rw [covers_nil]
    have B5 := Lib.hid (B4.out.trans (hb.mono B4.out.size))
    have P5 := Lib.hid (P4.out.on hb)
    have Q5 := Lib.hid (Q4.out.on hb)
    have R5 := Lib.hid (R4.out.on hb)
    clear hb B4 P4 Q4 R4
    go_wp2_with fail
    refine (KK.out.covers _ _ a b _ (KK.out.bel _ _ HG.out B5.out) P5.out Q5.out NA.out NB.out).mono ?_
    rintro e6 w6 ⟨rfl, hb⟩
    rw [HAB.out]
    have B6 := Lib.hid (B5.out.trans (hb.mono B5.out.size))
    have P6 := Lib.hid (P5.out.on hb)
    have Q6 := Lib.hid (Q5.out.on hb)
    have R6 := Lib.hid (R5.out.on hb)
    clear hb B5 P5 Q5 R5
    go_wp2_with fail
    exact laws_4 KK.out w _ _ _ _ a b HG.out B6.out P6.out Q6.out NA.out NB.out _ _ _ _ _ _ _ _ _ _ _ _ _ _ _ _ _ _ _ _ _ _ _ _ _ _ _ _ _ _ _ _ _ _ _ _ _ _ _ _ _ _ _ _ _ _ _ _ _ _ _ _ _ _ _ _ _ _ _ _ _ _ _ _ _ _ _ _ _ _ _ _ _ _ _ _ _ _ _ _ _ _ _ _ _ _ _ _ _ _ _ _ _ 
  · skip
    cases hbc : coversL b c
    all_goals (have HBC := Lib.hid hbc; clear hbc)
    all_goals (cases hn : meetsB b c)
    all_goals (have HN := Lib.hid hn; clear hn)
    · skip
      go_wp2_with fail
      refine (KK.out.covers _ _ a b _ (KK.out.bel _ _ HG.out B0.out) P0.out Q0.out NA.out NB.out).mono ?_
      rintro e1 w1 ⟨rfl, hb⟩
      rw [HAB.out]
      have B1 := Lib.hid (B0.out.trans (hb.mono B0.out.size))
      have P1 := Lib.hid (P0.out.on hb)
      have Q1 := Lib.hid (Q0.out.on hb)
      have R1 := Lib.hid (R0.out.on hb)
      clear hb B0 P0 Q0 R0
      go_wp2_with fail
      refine (KK.out.covers _ _ b c _ (KK.out.bel _ _ HG.out B1.out) Q1.out R1.out NB.out NC.out).mono ?_
      rintro e2 w2 ⟨rfl, hb⟩
      rw [HBC.out]
      have B2 := Lib.hid (B1.out.trans (hb.mono B1.out.size))
      have P2 := Lib.hid (P1.out.on hb)
      have Q2 := Lib.hid (Q1.out.on hb)
      have R2 := Lib.hid (R1.out.on hb)
      clear hb B1 P1 Q1 R1
      go_wp2_with fail
      refine (KK.out.meets _ _ a b _ (KK.out.bel _ _ HG.out B2.out) P2.out Q2.out NA.out NB.out).mono ?_
      rintro e3 w3 ⟨rfl, hb⟩
      rw [HM.out]
      have B3 := Lib.hid (B2.out.trans (hb.mono B2.out.size))
      have P3 := Lib.hid (P2.out.on hb)
      have Q3 := Lib.hid (Q2.out.on hb)
      have R3 := Lib.hid (R2.out.on hb)
      clear hb B2 P2 Q2 R2
      go_wp2_with fail
      refine (KK.out.meets _ _ b a _ (KK.out.bel _ _ HG.out B3.out) Q3.out P3.out NB.out NA.out).mono ?_
      rintro e4 w4 ⟨rfl, hb⟩
      rw [SY.out, HM.out]
      have B4 := Lib.hid (B3.out.trans (hb.mono B3.out.size))
      have P4 := Lib.hid (P3.out.on hb)
      have Q4 := Lib.hid (Q3.out.on hb)
      have R4 := Lib.hid (R3.out.on hb)
      clear hb B3 P3 Q3 R3
      go_wp2_with fail
      refine (KK.out.covers _ _ a a _ (KK.out.bel _ _ HG.out B4.out) P4.out P4.out NA.out NA.out).mono ?_
      rintro e5 w5 ⟨rfl, hb⟩
      rw [covers_self]
      have B5 := Lib.hid (B4.out.trans (hb.mono B4.out.size))
      have P5 := Lib.hid (P4.out.on hb)
      have Q5 := Lib.hid (Q4.out.on hb)
      have R5 := Lib.hid (R4.out.on hb)
      clear hb B4 P4 Q4 R4
      go_wp2_with fail
      refine (KK.out.covers _ _ [] a _ (KK.out.bel _ _ HG.out B5.out) (row_nil _) P5.out nf_nil NA.out).mono ?_
      rintro e6 w6 ⟨rfl, hb⟩
      rw [covers_nil]
      have B6 := Lib.hid (B5.out.trans (hb.mono B5.out.size))
      have P6 := Lib.hid (P5.out.on hb)
      have Q6 := Lib.hid (Q5.out.on hb)
      have R6 := Lib.hid (R5.out.on hb)
      clear hb B5 P5 Q5 R5
      go_wp2_with fail
      refine (KK.out.covers _ _ a b _ (KK.out.bel _ _ HG.out B6.out) P6.out Q6.out NA.out NB.out).mono ?_
      rintro e7 w7 ⟨rfl, hb⟩
      rw [HAB.out]
      have B7 := Lib.hid (B6.out.trans (hb.mono B6.out.size))
      have P7 := Lib.hid (P6.out.on hb)
      have Q7 := Lib.hid (Q6.out.on hb)
      have R7 := Lib.hid (R6.out.on hb)
      clear hb B6 P6 Q6 R6
      go_wp2_with fail
      refine (KK.out.meets _ _ b c _ (KK.out.bel _ _ HG.out B7.out) Q7.out R7.out NB.out NC.out).mono ?_
      rintro e8 w8 ⟨rfl, hb⟩
      rw [HN.out]
      have B8 := Lib.hid (B7.out.trans (hb.mono B7.out.size))
      have P8 := Lib.hid (P7.out.on hb)
      have Q8 := Lib.hid (Q7.out.on hb)
      have R8 := Lib.hid (R7.out.on hb)
      clear hb B7 P7 Q7 R7
      go_wp2_with fail
      exact laws_4 KK.out w _ _ _ _ a b HG.out B8.out P8.out Q8.out NA.out NB.out _ _ _ _ _ _ _ _ _ _ _ _ _ _ _ _ _ _ _ _ _ _ _ _ _ _ _ _ _ _ _ _ _ _ _ _ _ _ _ _ _ _ _ _ _ _ _ _ _ _ _ _ _ _ _ _ _ _ _ _ _ _ _ _ _ _ _ _ _ _ _ _ _ _ _ _ _ _ _ _ _ _ _ _ _ _ _ _ _ _ _ _ _ 
    · skip
      go_wp2_with fail
      refine (KK.out.covers _ _ a b _ (KK.out.bel _ _ HG.out B0.out) P0.out Q0.out NA.out NB.out).mono ?_
      rintro e1 w1 ⟨rfl, hb⟩
      rw [HAB.out]
      have B1 := Lib.hid (B0.out.trans (hb.mono B0.out.size))
      have P1 := Lib.hid (P0.out.on hb)
      have Q1 := Lib.hid (Q0.out.on hb)
      have R1 := Lib.hid (R0.out.on hb)
      clear hb B0 P0 Q0 R0
      go_wp2_with fail
      refine (KK.out.covers _ _ b c _ (KK.out.bel _ _ HG.out B1.out) Q1.out R1.out NB.out NC.out).mono ?_
      rintro e2 w2 ⟨rfl, hb⟩
      rw [HBC.out]
      have B2 := Lib.hid (B1.out.trans (hb.mono B1.out.size))
      have P2 := Lib.hid (P1.out.on hb)
      have Q2 := Lib.hid (Q1.out.on hb)
      have R2 := Lib.hid (R1.out.on hb)
      clear hb B1 P1 Q1 R1
      go_wp2_with fail
      refine (KK.out.meets _ _ a b _ (KK.out.bel _ _ HG.out B2.out) P2.out Q2.out NA.out NB.out).mono ?_
      rintro e3 w3 ⟨rfl, hb⟩
      rw [HM.out]
      have B3 := Lib.hid (B2.out.trans (hb.mono B2.out.size))
      have P3 := Lib.hid (P2.out.on hb)
      have Q3 := Lib.hid (Q2.out.on hb)
      have R3 := Lib.hid (R2.out.on hb)
      clear hb B2 P2 Q2 R2
      go_wp2_with fail
      refine (KK.out.meets _ _ b a _ (KK.out.bel _ _ HG.out B3.out) Q3.out P3.out NB.out NA.out).mono ?_
      rintro e4 w4 ⟨rfl, hb⟩
      rw [SY.out, HM.out]
      have B4 := Lib.hid (B3.out.trans (hb.mono B3.out.size))
      have P4 := Lib.hid (P3.out.on hb)
      have Q4 := Lib.hid (Q3.out.on hb)
      have R4 := Lib.hid (R3.out.on hb)
      clear hb B3 P3 Q3 R3
      go_wp2_with fail
      refine (KK.out.covers _ _ a a _ (KK.out.bel _ _ HG.out B4.out) P4.out P4.out NA.out NA.out).mono ?_
      rintro e5 w5 ⟨rfl, hb⟩
      rw [covers_self]
      have B5 := Lib.hid (B4.out.trans (hb.mono B4.out.size))
      have P5 := Lib.hid (P4.out.on hb)
      have Q5 := Lib.hid (Q4.out.on hb)
      have R5 := Lib.hid (R4.out.on hb)
      clear hb B4 P4 Q4 R4
      go_wp2_with fail
      refine (KK.out.covers _ _ [] a _ (KK.out.bel _ _ HG.out B5.out) (row_nil _) P5.out nf_nil NA.out).mono ?_
      rintro e6 w6 ⟨rfl, hb⟩
      rw [covers_nil]
      have B6 := Lib.hid (B5.out.trans (hb.mono B5.out.size))
      have P6 := Lib.hid (P5.out.on hb)
      have Q6 := Lib.hid (Q5.out.on hb)
      have R6 := Lib.hid (R5.out.on hb)
      clear hb B5 P5 Q5 R5
      go_wp2_with fail
      refine (KK.out.covers _ _ a b _ (KK.out.bel _ _ HG.out B6.out) P6.out Q6.out NA.out NB.out).mono ?_
      rintro e7 w7 ⟨rfl, hb⟩
      rw [HAB.out]
      have B7 := Lib.hid (B6.out.trans (hb.mono B6.out.size))
      have P7 := Lib.hid (P6.out.on hb)
      have Q7 := Lib.hid (Q6.out.on hb)
      have R7 := Lib.hid (R6.out.on hb)
      clear hb B6 P6 Q6 R6
      go_wp2_with fail
      refine (KK.out.meets _ _ b c _ (KK.out.bel _ _ HG.out B7.out) Q7.out R7.out NB.out NC.out).mono ?_
      rintro e8 w8 ⟨rfl, hb⟩
      rw [HN.out]
      have B8 := Lib.hid (B7.out.trans (hb.mono B7.out.size))
      have P8 := Lib.hid (P7.out.on hb)
      have Q8 := Lib.hid (Q7.out.on hb)
      have R8 := Lib.hid (R7.out.on hb)
      clear hb B7 P7 Q7 R7
      go_wp2_with fail
      refine (KK.out.meets _ _ a c _ (KK.out.bel _ _ HG.out B8.out) P8.out R8.out NA.out NC.out).mono ?_
      rintro e9 w9 ⟨rfl, hb⟩
      rw [covers_meetsB NA.out NB.out NC.out HAB.out HN.out]
      have B9 := Lib.hid (B8.out.trans (hb.mono B8.out.size))
      have P9 := Lib.hid (P8.out.on hb)
      have Q9 := Lib.hid (Q8.out.on hb)
      have R9 := Lib.hid (R8.out.on hb)
      clear hb B8 P8 Q8 R8
      go_wp2_with fail
      exact laws_4 KK.out w _ _ _ _ a b HG.out B9.out P9.out Q9.out NA.out NB.out _ _ _ _ _ _ _ _ _ _ _ _ _ _ _ _ _ _ _ _ _ _ _ _ _ _ _ _ _ _ _ _ _ _ _ _ _ _ _ _ _ _ _ _ _ _ _ _ _ _ _ _ _ _ _ _ _ _ _ _ _ _ _ _ _ _ _ _ _ _ _ _ _ _ _ _ _ _ _ _ _ _ _ _ _ _ _ _ _ _ _ _ _ 
    · skip
      go_wp2_with fail
      refine (KK.out.covers _ _ a b _ (KK.out.bel _ _ HG.out B0.out) P0.out Q0.out NA.out NB.out).mono ?_
      rintro e1 w1 ⟨rfl, hb⟩
      rw [HAB.out]
      have B1 := Lib.hid (B0.out.trans (hb.mono B0.out.size))
      have P1 := Lib.hid (P0.out.on hb)
      have Q1 := Lib.hid (Q0.out.on hb)
      have R1 := Lib.hid (R0.out.on hb)
      clear hb B0 P0 Q0 R0
      go_wp2_with fail
      refine (KK.out.covers _ _ b c _ (KK.out.bel _ _ HG.out B1.out) Q1.out R1.out NB.out NC.out).mono ?_
      rintro e2 w2 ⟨rfl, hb⟩
      rw [HBC.out]
      have B2 := Lib.hid (B1.out.trans (hb.mono B1.out.size))
      have P2 := Lib.hid (P1.out.on hb)
      have Q2 := Lib.hid (Q1.out.on hb)
      have R2 := Lib.hid (R1.out.on hb)
      clear hb B1 P1 Q1 R1
      go_wp2_with fail
      refine (KK.out.covers _ _ a c _ (KK.out.bel _ _ HG.out B2.out) P2.out R2.out NA.out NC.out).mono ?_
      rintro e3 w3 ⟨rfl, hb⟩
      rw [covers_trans NC.out.goodK HAB.out HBC.out]
      have B3 := Lib.hid (B2.out.trans (hb.mono B2.out.size))
      have P3 := Lib.hid (P2.out.on hb)
      have Q3 := Lib.hid (Q2.out.on hb)
      have R3 := Lib.hid (R2.out.on hb)
      clear hb B2 P2 Q2 R2
      go_wp2_with fail
      refine (KK.out.meets _ _ a b _ (KK.out.bel _ _ HG.out B3.out) P3.out Q3.out NA.out NB.out).mono ?_
      rintro e4 w4 ⟨rfl, hb⟩
      rw [HM.out]
      have B4 := Lib.hid (B3.out.trans (hb.mono B3.out.size))
      have P4 := Lib.hid (P3.out.on hb)
      have Q4 := Lib.hid (Q3.out.on hb)
      have R4 := Lib.hid (R3.out.on hb)
      clear hb B3 P3 Q3 R3
      go_wp2_with fail
      refine (KK.out.meets _ _ b a _ (KK.out.bel _ _ HG.out B4.out) Q4.out P4.out NB.out NA.out).mono ?_
      rintro e5 w5 ⟨rfl, hb⟩
      rw [SY.out, HM.out]
      have B5 := Lib.hid (B4.out.trans (hb.mono B4.out.size))
      have P5 := Lib.hid (P4.out.on hb)
      have Q5 := Lib.hid (Q4.out.on hb)
      have R5 := Lib.hid (R4.out.on hb)
      clear hb B4 P4 Q4 R4
      go_wp2_with fail
      refine (KK.out.covers _ _ a a _ (KK.out.bel _ _ HG.out B5.out) P5.out P5.out NA.out NA.out).mono ?_
      rintro e6 w6 ⟨rfl, hb⟩
      rw [covers_self]
      have B6 := Lib.hid (B5.out.trans (hb.mono B5.out.size))
      have P6 := Lib.hid (P5.out.on hb)
      have Q6 := Lib.hid (Q5.out.on hb)
      have R6 := Lib.hid (R5.out.on hb)
      clear hb B5 P5 Q5 R5
      go_wp2_with fail
      refine (KK.out.covers _ _ [] a _ (KK.out.bel _ _ HG.out B6.out) (row_nil _) P6.out nf_nil NA.out).mono ?_
      rintro e7 w7 ⟨rfl, hb⟩
      rw [covers_nil]
      have B7 := Lib.hid (B6.out.trans (hb.mono B6.out.size))
      have P7 := Lib.hid (P6.out.on hb)
      have Q7 := Lib.hid (Q6.out.on hb)
      have R7 := Lib.hid (R6.out.on hb)
      clear hb B6 P6 Q6 R6
      go_wp2_with fail
      refine (KK.out.covers _ _ a b _ (KK.out.bel _ _ HG.out B7.out) P7.out Q7.out NA.out NB.out).mono ?_
      rintro e8 w8 ⟨rfl, hb⟩
      rw [HAB.out]
      have B8 := Lib.hid (B7.out.trans (hb.mono B7.out.size))
      have P8 := Lib.hid (P7.out.on hb)
      have Q8 := Lib.hid (Q7.out.on hb)
      have R8 := Lib.hid (R7.out.on hb)
      clear hb B7 P7 Q7 R7
      go_wp2_with fail
      refine (KK.out.meets _ _ b c _ (KK.out.bel _ _ HG.out B8.out) Q8.out R8.out NB.out NC.out).mono ?_
      rintro e9 w9 ⟨rfl, hb⟩
      rw [HN.out]
      have B9 := Lib.hid (B8.out.trans (hb.mono B8.out.size))
      have P9 := Lib.hid (P8.out.on hb)
      have Q9 := Lib.hid (Q8.out.on hb)
      have R9 := Lib.hid (R8.out.on hb)
      clear hb B8 P8 Q8 R8
      go_wp2_with fail
      exact laws_4 KK.out w _ _ _ _ a b HG.out B9.out P9.out Q9.out NA.out NB.out _ _ _ _ _ _ _ _ _ _ _ _ _ _ _ _ _ _ _ _ _ _ _ _ _ _ _ _ _ _ _ _ _ _ _ _ _ _ _ _ _ _ _ _ _ _ _ _ _ _ _ _ _ _ _ _ _ _ _ _ _ _ _ _ _ _ _ _ _ _ _ _ _ _ _ _ _ _ _ _ _ _ _ _ _ _ _ _ _ _ _ _ _ 
    · skip
      go_wp2_with fail
      refine (KK.out.covers _ _ a b _ (KK.out.bel _ _ HG.out B0.out) P0.out Q0.out NA.out NB.out).mono ?_
      rintro e1 w1 ⟨rfl, hb⟩
      rw [HAB.out]
      have B1 := Lib.hid (B0.out.trans (hb.mono B0.out.size))
      have P1 := Lib.hid (P0.out.on hb)
      have Q1 := Lib.hid (Q0.out.on hb)
      have R1 := Lib.hid (R0.out.on hb)
      clear hb B0 P0 Q0 R0
      go_wp2_with fail
      refine (KK.out.covers _ _ b c _ (KK.out.bel _ _ HG.out B1.out) Q1.out R1.out NB.out NC.out).mono ?_
      rintro e2 w2 ⟨rfl, hb⟩
      rw [HBC.out]
      have B2 := Lib.hid (B1.out.trans (hb.mono B1.out.size))
      have P2 := Lib.hid (P1.out.on hb)
      have Q2 := Lib.hid (Q1.out.on hb)
      have R2 := Lib.hid (R1.out.on hb)
      clear hb B1 P1 Q1 R1
      go_wp2_with fail
      refine (KK.out.covers _ _ a c _ (KK.out.bel _ _ HG.out B2.out) P2.out R2.out NA.out NC.out).mono ?_
      rintro e3 w3 ⟨rfl, hb⟩
      rw [covers_trans NC.out.goodK HAB.out HBC.out]
      have B3 := Lib.hid (B2.out.trans (hb.mono B2.out.size))
      have P3 := Lib.hid (P2.out.on hb)
      have Q3 := Lib.hid (Q2.out.on hb)
      have R3 := Lib.hid (R2.out.on hb)
      clear hb B2 P2 Q2 R2
      go_wp2_with fail
      refine (KK.out.meets _ _ a b _ (KK.out.bel _ _ HG.out B3.out) P3.out Q3.out NA.out NB.out).mono ?_
      rintro e4 w4 ⟨rfl, hb⟩
      rw [HM.out]
      have B4 := Lib.hid (B3.out.trans (hb.mono B3.out.size))
      have P4 := Lib.hid (P3.out.on hb)
      have Q4 := Lib.hid (Q3.out.on hb)
      have R4 := Lib.hid (R3.out.on hb)
      clear hb B3 P3 Q3 R3
      go_wp2_with fail
      refine (KK.out.meets _ _ b a _ (KK.out.bel _ _ HG.out B4.out) Q4.out P4.out NB.out NA.out).mono ?_
      rintro e5 w5 ⟨rfl, hb⟩
      rw [SY.out, HM.out]
      have B5 := Lib.hid (B4.out.trans (hb.mono B4.out.size))
      have P5 := Lib.hid (P4.out.on hb)
      have Q5 := Lib.hid (Q4.out.on hb)
      have R5 := Lib.hid (R4.out.on hb)
      clear hb B4 P4 Q4 R4
      go_wp2_with fail
      refine (KK.out.covers _ _ a a _ (KK.out.bel _ _ HG.out B5.out) P5.out P5.out NA.out NA.out).mono ?_
      rintro e6 w6 ⟨rfl, hb⟩
      rw [covers_self]
      have B6 := Lib.hid (B5.out.trans (hb.mono B5.out.size))
      have P6 := Lib.hid (P5.out.on hb)
      have Q6 := Lib.hid (Q5.out.on hb)
      have R6 := Lib.hid (R5.out.on hb)
      clear hb B5 P5 Q5 R5
      go_wp2_with fail
      refine (KK.out.covers _ _ [] a _ (KK.out.bel _ _ HG.out B6.out) (row_nil _) P6.out nf_nil NA.out).mono ?_
      rintro e7 w7 ⟨rfl, hb⟩
      rw [covers_nil]
      have B7 := Lib.hid (B6.out.trans (hb.mono B6.out.size))
      have P7 := Lib.hid (P6.out.on hb)
      have Q7 := Lib.hid (Q6.out.on hb)
      have R7 := Lib.hid (R6.out.on hb)
      clear hb B6 P6 Q6 R6
      go_wp2_with fail
      refine (KK.out.covers _ _ a b _ (KK.out.bel _ _ HG.out B7.out) P7.out Q7.out NA.out NB.out).mono ?_
      rintro e8 w8 ⟨rfl, hb⟩
      rw [HAB.out]
      have B8 := Lib.hid (B7.out.trans (hb.mono B7.out.size))
      have P8 := Lib.hid (P7.out.on hb)
      have Q8 := Lib.hid (Q7.out.on hb)
      have R8 := Lib.hid (R7.out.on hb)
      clear hb B7 P7 Q7 R7
      go_wp2_with fail
      refine (KK.out.meets _ _ b c _ (KK.out.bel _ _ HG.out B8.out) Q8.out R8.out NB.out NC.out).mono ?_
      rintro e9 w9 ⟨rfl, hb⟩
      rw [HN.out]
      have B9 := Lib.hid (B8.out.trans (hb.mono B8.out.size))
      have P9 := Lib.hid (P8.out.on hb)
      have Q9 := Lib.hid (Q8.out.on hb)
      have R9 := Lib.hid (R8.out.on hb)
      clear hb B8 P8 Q8 R8
      go_wp2_with fail
      refine (KK.out.meets _ _ a c _ (KK.out.bel _ _ HG.out B9.out) P9.out R9.out NA.out NC.out).mono ?_
      rintro e10 w10 ⟨rfl, hb⟩
      rw [covers_meetsB NA.out NB.out NC.out HAB.out HN.out]
      have B10 := Lib.hid (B9.out.trans (hb.mono B9.out.size))
      have P10 := Lib.hid (P9.out.on hb)
      have Q10 := Lib.hid (Q9.out.on hb)
      have R10 := Lib.hid (R9.out.on hb)
      clear hb B9 P9 Q9 R9
      go_wp2_with fail
      exact laws_4 KK.out w _ _ _ _ a b HG.out B10.out P10.out Q10.out NA.out NB.out _ _ _ _ _ _ _ _ _ _ _ _ _ _ _ _ _ _ _ _ _ _ _ _ _ _ _ _ _ _ _ _ _ _ _ _ _ _ _ _ _ _ _ _ _ _ _ _ _ _ _ _ _ _ _ _ _ _ _ _ _ _ _ _ _ _ _ _ _ _ _ _ _ _ _ _ _ _ _ _ _ _ _ _ _ _ _ _ _ _ _ _ _ 
  · skip
    go_wp2_with fail
    refine (KK.out.covers _ _ a b _ (KK.out.bel _ _ HG.out B0.out) P0.out Q0.out NA.out NB.out).mono ?_
    rintro e1 w1 ⟨rfl, hb⟩
    rw [HAB.out]
    have B1 := Lib.hid (B0.out.trans (hb.mono B0.out.size))
    have P1 := Lib.hid (P0.out.on hb)
    have Q1 := Lib.hid (Q0.out.on hb)
    have R1 := Lib.hid (R0.out.on hb)
    clear hb B0 P0 Q0 R0
    go_wp2_with fail
    refine (KK.out.meets _ _ a b _ (KK.out.bel _ _ HG.out B1.out) P1.out Q1.out NA.out NB.out).mono ?_
    rintro e2 w2 ⟨rfl, hb⟩
    rw [HM.out]
    have B2 := Lib.hid (B1.out.trans (hb.mono B1.out.size))
    have P2 := Lib.hid (P1.out.on hb)
    have Q2 := Lib.hid (Q1.out.on hb)
    have R2 := Lib.hid (R1.out.on hb)
    clear hb B1 P1 Q1 R1
    go_wp2_with fail
    refine (KK.out.meets _ _ b a _ (KK.out.bel _ _ HG.out B2.out) Q2.out P2.out NB.out NA.out).mono ?_
    rintro e3 w3 ⟨rfl, hb⟩
    rw [SY.out, HM.out]
    have B3 := Lib.hid (B2.out.trans (hb.mono B2.out.size))
    have P3 := Lib.hid (P2.out.on hb)
    have Q3 := Lib.hid (Q2.out.on hb)
    have R3 := Lib.hid (R2.out.on hb)
    clear hb B2 P2 Q2 R2
    go_wp2_with fail
    refine (KK.out.covers _ _ a a _ (KK.out.bel _ _ HG.out B3.out) P3.out P3.out NA.out NA.out).mono ?_
    rintro e4 w4 ⟨rfl, hb⟩
    rw [covers_self]
    have B4 := Lib.hid (B3.out.trans (hb.mono B3.out.size))
    have P4 := Lib.hid (P3.out.on hb)
    have Q4 := Lib.hid (Q3.out.on hb)
    have R4 := Lib.hid (R3.out.on hb)
    clear hb B3 P3 Q3 R3
    go_wp2_with fail
    refine (KK.out.covers _ _ [] a _ (KK.out.bel _ _ HG.out B4.out) (row_nil _) P4.out nf_nil NA.out).mono ?_
    rintro e5 w5 ⟨rfl, hb⟩
    rw [covers_nil]
    have B5 := Lib.hid (B4.out.trans (hb.mono B4.out.size))
    have P5 := Lib.hid (P4.out.on hb)
    have Q5 := Lib.hid (Q4.out.on hb)
    have R5 := Lib.hid (R4.out.on hb)
    clear hb B4 P4 Q4 R4
    go_wp2_with fail
    refine (KK.out.covers _ _ a b _ (KK.out.bel _ _ HG.out B5.out) P5.out Q5.out NA.out NB.out).mono ?_
    rintro e6 w6 ⟨rfl, hb⟩
    rw [HAB.out]
    have B6 := Lib.hid (B5.out.trans (hb.mono B5.out.size))
    have P6 := Lib.hid (P5.out.on hb)
    have Q6 := Lib.hid (Q5.out.on hb)
    have R6 := Lib.hid (R5.out.on hb)
    clear hb B5 P5 Q5 R5
    go_wp2_with fail
    exact laws_4 KK.out w _ _ _ _ a b HG.out B6.out P6.out Q6.out NA.out NB.out _ _ _ _ _ _ _ _ _ _ _ _ _ _ _ _ _ _ _ _ _ _ _ _ _ _ _ _ _ _ _ _ _ _ _ _ _ _ _ _ _ _ _ _ _ _ _ _ _ _ _ _ _ _ _ _ _ _ _ _ _ _ _ _ _ _ _ _ _ _ _ _ _ _ _ _ _ _ _ _ _ _ _ _ _ _ _ _ _ _ _ _ _ 
  · skip
    cases hbc : coversL b c
    all_goals (have HBC := Lib.hid hbc; clear hbc)
    all_goals (cases hn : meetsB b c)
    all_goals (have HN := Lib.hid hn; clear hn)
    · skip
      go_wp2_with fail
      refine (KK.out.covers _ _ a b _ (KK.out.bel _ _ HG.out B0.out) P0.out Q0.out NA.out NB.out).mono ?_
      rintro e1 w1 ⟨rfl, hb⟩
      rw [HAB.out]
      have B1 := Lib.hid (B0.out.trans (hb.mono B0.out.size))
      have P1 := Lib.hid (P0.out.on hb)
      have Q1 := Lib.hid (Q0.out.on hb)
      have R1 := Lib.hid (R0.out.on hb)
      clear hb B0 P0 Q0 R0
      go_wp2_with fail
      refine (KK.out.covers _ _ b c _ (KK.out.bel _ _ HG.out B1.out) Q1.out R1.out NB.out NC.out).mono ?_
      rintro e2 w2 ⟨rfl, hb⟩
      rw [HBC.out]
      have B2 := Lib.hid (B1.out.trans (hb.mono B1.out.size))
      have P2 := Lib.hid (P1.out.on hb)
      have Q2 := Lib.hid (Q1.out.on hb)
      have R2 := Lib.hid (R1.out.on hb)
      clear hb B1 P1 Q1 R1
      go_wp2_with fail
      refine (KK.out.meets _ _ a b _ (KK.out.bel _ _ HG.out B2.out) P2.out Q2.out NA.out NB.out).mono ?_
      rintro e3 w3 ⟨rfl, hb⟩
      rw [HM.out]
      have B3 := Lib.hid (B2.out.trans (hb.mono B2.out.size))
      have P3 := Lib.hid (P2.out.on hb)
      have Q3 := Lib.hid (Q2.out.on hb)
      have R3 := Lib.hid (R2.out.on hb)
      clear hb B2 P2 Q2 R2
      go_wp2_with fail
      refine (KK.out.meets _ _ b a _ (KK.out.bel _ _ HG.out B3.out) Q3.out P3.out NB.out NA.out).mono ?_
      rintro e4 w4 ⟨rfl, hb⟩
      rw [SY.out, HM.out]
      have B4 := Lib.hid (B3.out.trans (hb.mono B3.out.size))
      have P4 := Lib.hid (P3.out.on hb)
      have Q4 := Lib.hid (Q3.out.on hb)
      have R4 := Lib.hid (R3.out.on hb)
      clear hb B3 P3 Q3 R3
      go_wp2_with fail
      refine (KK.out.covers _ _ a a _ (KK.out.bel _ _ HG.out B4.out) P4.out P4.out NA.out NA.out).mono ?_
      rintro e5 w5 ⟨rfl, hb⟩
      rw [covers_self]
      have B5 := Lib.hid (B4.out.trans (hb.mono B4.out.size))
      have P5 := Lib.hid (P4.out.on hb)
      have Q5 := Lib.hid (Q4.out.on hb)
      have R5 := Lib.hid (R4.out.on hb)
      clear hb B4 P4 Q4 R4
      go_wp2_with fail
      refine (KK.out.covers _ _ [] a _ (KK.out.bel _ _ HG.out B5.out) (row_nil _) P5.out nf_nil NA.out).mono ?_
      rintro e6 w6 ⟨rfl, hb⟩
      rw [covers_nil]
      have B6 := Lib.hid (B5.out.trans (hb.mono B5.out.size))
      have P6 := Lib.hid (P5.out.on hb)
      have Q6 := Lib.hid (Q5.out.on hb)
      have R6 := Lib.hid (R5.out.on hb)
      clear hb B5 P5 Q5 R5
      go_wp2_with fail
      refine (KK.out.covers _ _ a b _ (KK.out.bel _ _ HG.out B6.out) P6.out Q6.out NA.out NB.out).mono ?_
      rintro e7 w7 ⟨rfl, hb⟩
      rw [HAB.out]
      have B7 := Lib.hid (B6.out.trans (hb.mono B6.out.size))
      have P7 := Lib.hid (P6.out.on hb)
      have Q7 := Lib.hid (Q6.out.on hb)
      have R7 := Lib.hid (R6.out.on hb)
      clear hb B6 P6 Q6 R6
      go_wp2_with fail
      refine (KK.out.meets _ _ b c _ (KK.out.bel _ _ HG.out B7.out) Q7.out R7.out NB.out NC.out).mono ?_
      rintro e8 w8 ⟨rfl, hb⟩
      rw [HN.out]
      have B8 := Lib.hid (B7.out.trans (hb.mono B7.out.size))
      have P8 := Lib.hid (P7.out.on hb)
      have Q8 := Lib.hid (Q7.out.on hb)
      have R8 := Lib.hid (R7.out.on hb)
      clear hb B7 P7 Q7 R7
      go_wp2_with fail
      exact laws_4 KK.out w _ _ _ _ a b HG.out B8.out P8.out Q8.out NA.out NB.out _ _ _ _ _ _ _ _ _ _ _ _ _ _ _ _ _ _ _ _ _ _ _ _ _ _ _ _ _ _ _ _ _ _ _ _ _ _ _ _ _ _ _ _ _ _ _ _ _ _ _ _ _ _ _ _ _ _ _ _ _ _ _ _ _ _ _ _ _ _ _ _ _ _ _ _ _ _ _ _ _ _ _ _ _ _ _ _ _ _ _ _ _ 
    · skip
      go_wp2_with fail
      refine (KK.out.covers _ _ a b _ (KK.out.bel _ _ HG.out B0.out) P0.out Q0.out NA.out NB.out).mono ?_
      rintro e1 w1 ⟨rfl, hb⟩
      rw [HAB.out]
      have B1 := Lib.hid (B0.out.trans (hb.mono B0.out.size))
      have P1 := Lib.hid (P0.out.on hb)
      have Q1 := Lib.hid (Q0.out.on hb)
      have R1 := Lib.hid (R0.out.on hb)
      clear hb B0 P0 Q0 R0
      go_wp2_with fail
      refine (KK.out.covers _ _ b c _ (KK.out.bel _ _ HG.out B1.out) Q1.out R1.out NB.out NC.out).mono ?_
      rintro e2 w2 ⟨rfl, hb⟩
      rw [HBC.out]
      have B2 := Lib.hid (B1.out.trans (hb.mono B1.out.size))
      have P2 := Lib.hid (P1.out.on hb)
      have Q2 := Lib.hid (Q1.out.on hb)
      have R2 := Lib.hid (R1.out.on hb)
      clear hb B1 P1 Q1 R1
      go_wp2_with fail
      refine (KK.out.meets _ _ a b _ (KK.out.bel _ _ HG.out B2.out) P2.out Q2.out NA.out NB.out).mono ?_
      rintro e3 w3 ⟨rfl, hb⟩
      rw [HM.out]
      have B3 := Lib.hid (B2.out.trans (hb.mono B2.out.size))
      have P3 := Lib.hid (P2.out.on hb)
      have Q3 := Lib.hid (Q2.out.on hb)
      have R3 := Lib.hid (R2.out.on hb)
      clear hb B2 P2 Q2 R2
      go_wp2_with fail
      refine (KK.out.meets _ _ b a _ (KK.out.bel _ _ HG.out B3.out) Q3.out P3.out NB.out NA.out).mono ?_
      rintro e4 w4 ⟨rfl, hb⟩
      rw [SY.out, HM.out]
      have B4 := Lib.hid (B3.out.trans (hb.mono B3.out.size))
      have P4 := Lib.hid (P3.out.on hb)
      have Q4 := Lib.hid (Q3.out.on hb)
      have R4 := Lib.hid (R3.out.on hb)
      clear hb B3 P3 Q3 R3
      go_wp2_with fail
      refine (KK.out.covers _ _ a a _ (KK.out.bel _ _ HG.out B4.out) P4.out P4.out NA.out NA.out).mono ?_
      rintro e5 w5 ⟨rfl, hb⟩
      rw [covers_self]
      have B5 := Lib.hid (B4.out.trans (hb.mono B4.out.size))
      have P5 := Lib.hid (P4.out.on hb)
      have Q5 := Lib.hid (Q4.out.on hb)
      have R5 := Lib.hid (R4.out.on hb)
      clear hb B4 P4 Q4 R4
      go_wp2_with fail
      refine (KK.out.covers _ _ [] a _ (KK.out.bel _ _ HG.out B5.out) (row_nil _) P5.out nf_nil NA.out).mono ?_
      rintro e6 w6 ⟨rfl, hb⟩
      rw [covers_nil]
      have B6 := Lib.hid (B5.out.trans (hb.mono B5.out.size))
      have P6 := Lib.hid (P5.out.on hb)
      have Q6 := Lib.hid (Q5.out.on hb)
      have R6 := Lib.hid (R5.out.on hb)
      clear hb B5 P5 Q5 R5
      go_wp2_with fail
      refine (KK.out.covers _ _ a b _ (KK.out.bel _ _ HG.out B6.out) P6.out Q6.out NA.out NB.out).mono ?_
      rintro e7 w7 ⟨rfl, hb⟩
      rw [HAB.out]
      have B7 := Lib.hid (B6.out.trans (hb.mono B6.out.size))
      have P7 := Lib.hid (P6.out.on hb)
      have Q7 := Lib.hid (Q6.out.on hb)
      have R7 := Lib.hid (R6.out.on hb)
      clear hb B6 P6 Q6 R6
      go_wp2_with fail
      refine (KK.out.meets _ _ b c _ (KK.out.bel _ _ HG.out B7.out) Q7.out R7.out NB.out NC.out).mono ?_
      rintro e8 w8 ⟨rfl, hb⟩
      rw [HN.out]
      have B8 := Lib.hid (B7.out.trans (hb.mono B7.out.size))
      have P8 := Lib.hid (P7.out.on hb)
      have Q8 := Lib.hid (Q7.out.on hb)
      have R8 := Lib.hid (R7.out.on hb)
      clear hb B7 P7 Q7 R7
      go_wp2_with fail
      refine (KK.out.meets _ _ a c _ (KK.out.bel _ _ HG.out B8.out) P8.out R8.out NA.out NC.out).mono ?_
      rintro e9 w9 ⟨rfl, hb⟩
      rw [covers_meetsB NA.out NB.out NC.out HAB.out HN.out]
      have B9 := Lib.hid (B8.out.trans (hb.mono B8.out.size))
      have P9 := Lib.hid (P8.out.on hb)
      have Q9 := Lib.hid (Q8.out.on hb)
      have R9 := Lib.hid (R8.out.on hb)
      clear hb B8 P8 Q8 R8
      go_wp2_with fail
      exact laws_4 KK.out w _ _ _ _ a b HG.out B9.out P9.out Q9.out NA.out NB.out _ _ _ _ _ _ _ _ _ _ _ _ _ _ _ _ _ _ _ _ _ _ _ _ _ _ _ _ _ _ _ _ _ _ _ _ _ _ _ _ _ _ _ _ _ _ _ _ _ _ _ _ _ _ _ _ _ _ _ _ _ _ _ _ _ _ _ _ _ _ _ _ _ _ _ _ _ _ _ _ _ _ _ _ _ _ _ _ _ _ _ _ _ 
    · skip
      go_wp2_with fail
      refine (KK.out.covers _ _ a b _ (KK.out.bel _ _ HG.out B0.out) P0.out Q0.out NA.out NB.out).mono ?_
      rintro e1 w1 ⟨rfl, hb⟩
      rw [HAB.out]
      have B1 := Lib.hid (B0.out.trans (hb.mono B0.out.size))
      have P1 := Lib.hid (P0.out.on hb)
      have Q1 := Lib.hid (Q0.out.on hb)
      have R1 := Lib.hid (R0.out.on hb)
      clear hb B0 P0 Q0 R0
      go_wp2_with fail
      refine (KK.out.covers _ _ b c _ (KK.out.bel _ _ HG.out B1.out) Q1.out R1.out NB.out NC.out).mono ?_
      rintro e2 w2 ⟨rfl, hb⟩
      rw [HBC.out]
      have B2 := Lib.hid (B1.out.trans (hb.mono B1.out.size))
      have P2 := Lib.hid (P1.out.on hb)
      have Q2 := Lib.hid (Q1.out.on hb)
      have R2 := Lib.hid (R1.out.on hb)
      clear hb B1 P1 Q1 R1
      go_wp2_with fail
      refine (KK.out.covers _ _ a c _ (KK.out.bel _ _ HG.out B2.out) P2.out R2.out NA.out NC.out).mono ?_
      rintro e3 w3 ⟨rfl, hb⟩
      rw [covers_trans NC.out.goodK HAB.out HBC.out]
      have B3 := Lib.hid (B2.out.trans (hb.mono B2.out.size))
      have P3 := Lib.hid (P2.out.on hb)
      have Q3 := Lib.hid (Q2.out.on hb)
      have R3 := Lib.hid (R2.out.on hb)
      clear hb B2 P2 Q2 R2
      go_wp2_with fail
      refine (KK.out.meets _ _ a b _ (KK.out.bel _ _ HG.out B3.out) P3.out Q3.out NA.out NB.out).mono ?_
      rintro e4 w4 ⟨rfl, hb⟩
      rw [HM.out]
      have B4 := Lib.hid (B3.out.trans (hb.mono B3.out.size))
      have P4 := Lib.hid (P3.out.on hb)
      have Q4 := Lib.hid (Q3.out.on hb)
      have R4 := Lib.hid (R3.out.on hb)
      clear hb B3 P3 Q3 R3
      go_wp2_with fail
      refine (KK.out.meets _ _ b a _ (KK.out.bel _ _ HG.out B4.out) Q4.out P4.out NB.out NA.out).mono ?_
      rintro e5 w5 ⟨rfl, hb⟩
      rw [SY.out, HM.out]
      have B5 := Lib.hid (B4.out.trans (hb.mono B4.out.size))
      have P5 := Lib.hid (P4.out.on hb)
      have Q5 := Lib.hid (Q4.out.on hb)
      have R5 := Lib.hid (R4.out.on hb)
      clear hb B4 P4 Q4 R4
      go_wp2_with fail
      refine (KK.out.covers _ _ a a _ (KK.out.bel _ _ HG.out B5.out) P5.out P5.out NA.out NA.out).mono ?_
      rintro e6 w6 ⟨rfl, hb⟩
      rw [covers_self]
      have B6 := Lib.hid (B5.out.trans (hb.mono B5.out.size))
      have P6 := Lib.hid (P5.out.on hb)
      have Q6 := Lib.hid (Q5.out.on hb)
      have R6 := Lib.hid (R5.out.on hb)
      clear hb B5 P5 Q5 R5
      go_wp2_with fail
      refine (KK.out.covers _ _ [] a _ (KK.out.bel _ _ HG.out B6.out) (row_nil _) P6.out nf_nil NA.out).mono ?_
      rintro e7 w7 ⟨rfl, hb⟩
      rw [covers_nil]
      have B7 := Lib.hid (B6.out.trans (hb.mono B6.out.size))
      have P7 := Lib.hid (P6.out.on hb)
      have Q7 := Lib.hid (Q6.out.on hb)
      have R7 := Lib.hid (R6.out.on hb)
      clear hb B6 P6 Q6 R6
      go_wp2_with fail
      refine (KK.out.covers _ _ a b _ (KK.out.bel _ _ HG.out B7.out) P7.out Q7.out NA.out NB.out).mono ?_
      rintro e8 w8 ⟨rfl, hb⟩
      rw [HAB.out]
      have B8 := Lib.hid (B7.out.trans (hb.mono B7.out.size))
      have P8 := Lib.hid (P7.out.on hb)
      have Q8 := Lib.hid (Q7.out.on hb)
      have R8 := Lib.hid (R7.out.on hb)
      clear hb B7 P7 Q7 R7
      go_wp2_with fail
      refine (KK.out.meets _ _ b c _ (KK.out.bel _ _ HG.out B8.out) Q8.out R8.out NB.out NC.out).mono ?_
      rintro e9 w9 ⟨rfl, hb⟩
      rw [HN.out]
      have B9 := Lib.hid (B8.out.trans (hb.mono B8.out.size))
      have P9 := Lib.hid (P8.out.on hb)
      have Q9 := Lib.hid (Q8.out.on hb)
      have R9 := Lib.hid (R8.out.on hb)
      clear hb B8 P8 Q8 R8
      go_wp2_with fail
      exact laws_4 KK.out w _ _ _ _ a b HG.out B9.out P9.out Q9.out NA.out NB.out _ _ _ _ _ _ _ _ _ _ _ _ _ _ _ _ _ _ _ _ _ _ _ _ _ _ _ _ _ _ _ _ _ _ _ _ _ _ _ _ _ _ _ _ _ _ _ _ _ _ _ _ _ _ _ _ _ _ _ _ _ _ _ _ _ _ _ _ _ _ _ _ _ _ _ _ _ _ _ _ _ _ _ _ _ _ _ _ _ _ _ _ _ 
    · skip
      go_wp2_with fail
      refine (KK.out.covers _ _ a b _ (KK.out.bel _ _ HG.out B0.out) P0.out Q0.out NA.out NB.out).mono ?_
      rintro e1 w1 ⟨rfl, hb⟩
      rw [HAB.out]
      have B1 := Lib.hid (B0.out.trans (hb.mono B0.out.size))
      have P1 := Lib.hid (P0.out.on hb)
      have Q1 := Lib.hid (Q0.out.on hb)
      have R1 := Lib.hid (R0.out.on hb)
      clear hb B0 P0 Q0 R0
      go_wp2_with fail
      refine (KK.out.covers _ _ b c _ (KK.out.bel _ _ HG.out B1.out) Q1.out R1.out NB.out NC.out).mono ?_
      rintro e2 w2 ⟨rfl, hb⟩
      rw [HBC.out]
      have B2 := Lib.hid (B1.out.trans (hb.mono B1.out.size))
      have P2 := Lib.hid (P1.out.on hb)
      have Q2 := Lib.hid (Q1.out.on hb)
      have R2 := Lib.hid (R1.out.on hb)
      clear hb B1 P1 Q1 R1
      go_wp2_with fail
      refine (KK.out.covers _ _ a c _ (KK.out.bel _ _ HG.out B2.out) P2.out R2.out NA.out NC.out).mono ?_
      rintro e3 w3 ⟨rfl, hb⟩
      rw [covers_trans NC.out.goodK HAB.out HBC.out]
      have B3 := Lib.hid (B2.out.trans (hb.mono B2.out.size))
      have P3 := Lib.hid (P2.out.on hb)
      have Q3 := Lib.hid (Q2.out.on hb)
      have R3 := Lib.hid (R2.out.on hb)
      clear hb B2 P2 Q2 R2
      go_wp2_with fail
      refine (KK.out.meets _ _ a b _ (KK.out.bel _ _ HG.out B3.out) P3.out Q3.out NA.out NB.out).mono ?_
      rintro e4 w4 ⟨rfl, hb⟩
      rw [HM.out]
      have B4 := Lib.hid (B3.out.trans (hb.mono B3.out.size))
      have P4 := Lib.hid (P3.out.on hb)
      have Q4 := Lib.hid (Q3.out.on hb)
      have R4 := Lib.hid (R3.out.on hb)
      clear hb B3 P3 Q3 R3
      go_wp2_with fail
      refine (KK.out.meets _ _ b a _ (KK.out.bel _ _ HG.out B4.out) Q4.out P4.out NB.out NA.out).mono ?_
      rintro e5 w5 ⟨rfl, hb⟩
      rw [SY.out, HM.out]
      have B5 := Lib.hid (B4.out.trans (hb.mono B4.out.size))
      have P5 := Lib.hid (P4.out.on hb)
      have Q5 := Lib.hid (Q4.out.on hb)
      have R5 := Lib.hid (R4.out.on hb)
      clear hb B4 P4 Q4 R4
      go_wp2_with fail
      refine (KK.out.covers _ _ a a _ (KK.out.bel _ _ HG.out B5.out) P5.out P5.out NA.out NA.out).mono ?_
      rintro e6 w6 ⟨rfl, hb⟩
      rw [covers_self]
      have B6 := Lib.hid (B5.out.trans (hb.mono B5.out.size))
      have P6 := Lib.hid (P5.out.on hb)
      have Q6 := Lib.hid (Q5.out.on hb)
      have R6 := Lib.hid (R5.out.on hb)
      clear hb B5 P5 Q5 R5
      go_wp2_with fail
      refine (KK.out.covers _ _ [] a _ (KK.out.bel _ _ HG.out B6.out) (row_nil _) P6.out nf_nil NA.out).mono ?_
      rintro e7 w7 ⟨rfl, hb⟩
      rw [covers_nil]
      have B7 := Lib.hid (B6.out.trans (hb.mono B6.out.size))
      have P7 := Lib.hid (P6.out.on hb)
      have Q7 := Lib.hid (Q6.out.on hb)
      have R7 := Lib.hid (R6.out.on hb)
      clear hb B6 P6 Q6 R6
      go_wp2_with fail
      refine (KK.out.covers _ _ a b _ (KK.out.bel _ _ HG.out B7.out) P7.out Q7.out NA.out NB.out).mono ?_
      rintro e8 w8 ⟨rfl, hb⟩
      rw [HAB.out]
      have B8 := Lib.hid (B7.out.trans (hb.mono B7.out.size))
      have P8 := Lib.hid (P7.out.on hb)
      have Q8 := Lib.hid (Q7.out.on hb)
      have R8 := Lib.hid (R7.out.on hb)
      clear hb B7 P7 Q7 R7
      go_wp2_with fail
      refine (KK.out.meets _ _ b c _ (KK.out.bel _ _ HG.out B8.out) Q8.out R8.out NB.out NC.out).mono ?_
      rintro e9 w9 ⟨rfl, hb⟩
      rw [HN.out]
      have B9 := Lib.hid (B8.out.trans (hb.mono B8.out.size))
      have P9 := Lib.hid (P8.out.on hb)
      have Q9 := Lib.hid (Q8.out.on hb)
      have R9 := Lib.hid (R8.out.on hb)
      clear hb B8 P8 Q8 R8
      go_wp2_with fail
      refine (KK.out.meets _ _ a c _ (KK.out.bel _ _ HG.out B9.out) P9.out R9.out NA.out NC.out).mono ?_
      rintro e10 w10 ⟨rfl, hb⟩
      rw [covers_meetsB NA.out NB.out NC.out HAB.out HN.out]
      have B10 := Lib.hid (B9.out.trans (hb.mono B9.out.size))
      have P10 := Lib.hid (P9.out.on hb)
      have Q10 := Lib.hid (Q9.out.on hb)
      have R10 := Lib.hid (R9.out.on hb)
      clear hb B9 P9 Q9 R9
      go_wp2_with fail
      exact laws_4 KK.out w _ _ _ _ a b HG.out B10.out P10.out Q10.out NA.out NB.out _ _ _ _ _ _ _ _ _ _ _ _ _ _ _ _ _ _ _ _ _ _ _ _ _ _ _ _ _ _ _ _ _ _ _ _ _ _ _ _ _ _ _ _ _ _ _ _ _ _ _ _ _ _ _ _ _ _ _ _ _ _ _ _ _ _ _ _ _ _ _ _ _ _ _ _ _ _ _ _ _ _ _ _ _ _ _ _ _ _ _ _ _ 
end Go.Proofs.Ytdomincmoaahoaa.Rl
