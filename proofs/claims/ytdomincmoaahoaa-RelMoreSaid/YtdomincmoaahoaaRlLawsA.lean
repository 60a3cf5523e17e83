/-
  The law RelLaws out of the contracts wanted of package rel: behind the predicates.
-/
import Derived.Test.YtdomincmoaahoaaRlRuns
import Derived.Test.YtdomincmoaahoaaBd
import Derived.Deep.Cut
import Derived.Deep.CutBlock
namespace Go.Proofs.Ytdomincmoaahoaa.Rl
open Go.RowKit Go.Sort Go.Proofs.Ytdomincmoaahoaa Go.Proofs.Ytdomincmoaahoaa.Pu Go.Proofs.Ytdomincmoaahoaa.Rw Go.Proofs.Ytdomincmoaahoaa.Pr

noncomputable def lw (k : Nat) : Code := headN k (Try.f6.body.getD .skip)
noncomputable def laws4 : Code := .seq (lw 3) (.seq (lw 4) .ret)
noncomputable def laws2 : Code := .seq (lw 2) laws4
def RQ (w : World) (e : Ending) (w' : World) : Prop := e = .returned (.bool true) ∧ Below w.heap.size w w'
theorem nf_nil : NF [] := ⟨List.Pairwise.nil, by simp, by simp, by simp⟩
theorem both_same {a b : List Cn} (na : NF a) (nb : NF b) : (coversL a b && coversL b a) = sameC (a.map r5) (b.map r5) := by
  rw [Bool.eq_iff_iff, Bool.and_eq_true, sameC_iff]
  constructor
  · rintro ⟨h1, h2⟩
    rw [covers_anti na.rise nb.rise na.goodK nb.goodK h1 h2]
  · intro h
    rw [map_r5_inj h]
    exact ⟨covers_self _, covers_self _⟩
theorem meets_nilB {a : List Cn} (na : NF a) : meetsB [] a = true := (meetsB_iff nf_nil.rise na.rise nf_nil.five).2 (meets_nil a na.five)
theorem meets_selfB {a : List Cn} (na : NF a) : meetsB a a = true := (meetsB_iff na.rise na.rise na.five).2 (meets_self na.rise na.goodK na.five)
theorem len5 {a : List Cn} (na : NF a) : (a.map r5).length ≤ 1000000 := by
  rw [List.length_map]
  exact Nat.le_trans na.five (by decide)
set_option maxRecDepth 100000 in
set_option maxHeartbeats 8000000 in
theorem laws_4 {G : World → Prop} (K : ROks G) (w W : World) (av_ bv cv_ : Value) (a b : List Cn) (hg : G w) (hb : Below w.heap.size w W) (hp : RowC W av_ (a.map r5)) (hq : RowC W bv (b.map r5)) (na : NF a) (nb : NF b)
    (u0 u1 u2 u3 u4 u5 u10 u11 u12 u13 u14 u15 u16 u17 u18 u19 u20 u21 u22 u23 u24 u25 u26 u27 u28 u29 u30 u31 u32 u33 u34 u35 u36 u37 u38 u39 u40 u41 u42 u43 u44 u45 u46 u47 u48 u49 u50 u51 u52 u53 u54 u55 u56 u57 u58 u59 u60 u61 u62 u63 u64 u65 u66 u67 u68 u69 u70 u71 u72 u73 u74 u75 u76 u77 u78 u79 u80 u81 u82 u83 u84 u85 u86 u87 u88 u89 u90 u91 u92 u93 u94 u95 u96 : Value) :
    Code.wp Try.prog laws4 (bodyPost Try.prog Try.f6 (RQ w)) ⟨(u0 :: u1 :: u2 :: u3 :: u4 :: u5 :: .bool false :: av_ :: bv :: cv_ :: u10 :: u11 :: u12 :: u13 :: u14 :: u15 :: u16 :: u17 :: u18 :: u19 :: u20 :: u21 :: u22 :: u23 :: u24 :: u25 :: u26 :: u27 :: u28 :: u29 :: u30 :: u31 :: u32 :: u33 :: u34 :: u35 :: u36 :: u37 :: u38 :: u39 :: u40 :: u41 :: u42 :: u43 :: u44 :: u45 :: u46 :: u47 :: u48 :: u49 :: u50 :: u51 :: u52 :: u53 :: u54 :: u55 :: u56 :: u57 :: u58 :: u59 :: u60 :: u61 :: u62 :: u63 :: u64 :: u65 :: u66 :: u67 :: u68 :: u69 :: u70 :: u71 :: u72 :: u73 :: u74 :: u75 :: u76 :: u77 :: u78 :: u79 :: u80 :: u81 :: u82 :: u83 :: u84 :: u85 :: u86 :: u87 :: u88 :: u89 :: u90 :: u91 :: u92 :: u93 :: u94 :: u95 :: u96 :: []).toArray, []⟩ W := by
  have KK := Lib.hid K
  have HG := Lib.hid hg
  have B0 := Lib.hid hb
  have P0 := Lib.hid hp
  have Q0 := Lib.hid hq
  have NA := Lib.hid na
  have NB := Lib.hid nb
  have hs := both_same na nb
  clear K hg hb hp hq na nb
  unfold laws4
  conv => enter [2, 1]; whnf
  conv => enter [2, 2, 1]; whnf
  cases hab : coversL a b
  · rw [hab] at hs
    have HAB := Lib.hid hab
    have HS := Lib.hid hs.symm
    clear hab hs
    go_wp2_with fail
    refine (KK.out.covers _ _ a b _ (KK.out.bel _ _ HG.out B0.out) P0.out Q0.out NA.out NB.out).mono ?_
    rintro e1 w1 ⟨rfl, hb⟩
    rw [HAB.out]
    have B1 := Lib.hid (B0.out.trans (hb.mono B0.out.size))
    have P1 := Lib.hid (P0.out.on hb)
    have Q1 := Lib.hid (Q0.out.on hb)
    clear hb B0 P0 Q0
    go_wp2_with fail
    refine (sameC_any _ _ (a.map r5) (b.map r5) _ P1.out Q1.out (len5 NA.out) (len5 NB.out)).mono ?_
    rintro e2 w2 ⟨rfl, hb⟩
    rw [HS.out]
    have B2 := Lib.hid (B1.out.trans (hb.mono B1.out.size))
    have P2 := Lib.hid (P1.out.on hb)
    have Q2 := Lib.hid (Q1.out.on hb)
    clear hb B1 P1 Q1
    go_wp2_with fail
    refine (KK.out.meets _ _ a a _ (KK.out.bel _ _ HG.out B2.out) P2.out P2.out NA.out NA.out).mono ?_
    rintro e3 w3 ⟨rfl, hb⟩
    rw [meets_selfB NA.out]
    have B3 := Lib.hid (B2.out.trans (hb.mono B2.out.size))
    have P3 := Lib.hid (P2.out.on hb)
    have Q3 := Lib.hid (Q2.out.on hb)
    clear hb B2 P2 Q2
    go_wp2_with fail
    refine (KK.out.meets _ _ [] a _ (KK.out.bel _ _ HG.out B3.out) (row_nil _) P3.out nf_nil NA.out).mono ?_
    rintro e4 w4 ⟨rfl, hb⟩
    rw [meets_nilB NA.out]
    have B4 := Lib.hid (B3.out.trans (hb.mono B3.out.size))
    have P4 := Lib.hid (P3.out.on hb)
    have Q4 := Lib.hid (Q3.out.on hb)
    clear hb B3 P3 Q3
    go_wp2_with fail
    refine (KK.out.sample _ a _ (KK.out.bel _ _ HG.out B4.out) P4.out NA.out).mono ?_
    rintro e5 w5 ⟨lv, s, rfl, hr, hn, _, _, _, hb⟩
    have B5 := Lib.hid (B4.out.trans (hb.mono B4.out.size))
    have P5 := Lib.hid (P4.out.on hb)
    have Q5 := Lib.hid (Q4.out.on hb)
    clear hb B4 P4 Q4
    go_wp2_with fail
    refine (KK.out.match_ _ _ [] s _ (KK.out.bel _ _ HG.out B5.out) (row_nil _) hr nf_nil hn).mono ?_
    rintro e6 w6 ⟨rfl, hb⟩
    rw [show matchL [] s = true from rfl]
    have B6 := Lib.hid (B5.out.trans (hb.mono B5.out.size))
    have P6 := Lib.hid (P5.out.on hb)
    have Q6 := Lib.hid (Q5.out.on hb)
    clear hb B5 P5 Q5
    go_wp2_with fail
    refine (runs_any KK.out _ (KK.out.bel _ _ HG.out B6.out)).mono ?_
    rintro e7 w7 ⟨rfl, hb⟩
    have B7 := Lib.hid (B6.out.trans (hb.mono B6.out.size))
    have P7 := Lib.hid (P6.out.on hb)
    have Q7 := Lib.hid (Q6.out.on hb)
    clear hb B6 P6 Q6
    go_wp2
    go_ret
    exact ⟨rfl, B7.out⟩
  · cases hba : coversL b a
    · rw [hab, hba] at hs
      have HAB := Lib.hid hab
      have HBA := Lib.hid hba
      have HS := Lib.hid hs.symm
      clear hab hba hs
      go_wp2_with fail
      refine (KK.out.covers _ _ a b _ (KK.out.bel _ _ HG.out B0.out) P0.out Q0.out NA.out NB.out).mono ?_
      rintro e1 w1 ⟨rfl, hb⟩
      rw [HAB.out]
      have B1 := Lib.hid (B0.out.trans (hb.mono B0.out.size))
      have P1 := Lib.hid (P0.out.on hb)
      have Q1 := Lib.hid (Q0.out.on hb)
      clear hb B0 P0 Q0
      go_wp2_with fail
      refine (KK.out.covers _ _ b a _ (KK.out.bel _ _ HG.out B1.out) Q1.out P1.out NB.out NA.out).mono ?_
      rintro e2 w2 ⟨rfl, hb⟩
      rw [HBA.out]
      have B2 := Lib.hid (B1.out.trans (hb.mono B1.out.size))
      have P2 := Lib.hid (P1.out.on hb)
      have Q2 := Lib.hid (Q1.out.on hb)
      clear hb B1 P1 Q1
      go_wp2_with fail
      refine (sameC_any _ _ (a.map r5) (b.map r5) _ P2.out Q2.out (len5 NA.out) (len5 NB.out)).mono ?_
      rintro e3 w3 ⟨rfl, hb⟩
      rw [HS.out]
      have B3 := Lib.hid (B2.out.trans (hb.mono B2.out.size))
      have P3 := Lib.hid (P2.out.on hb)
      have Q3 := Lib.hid (Q2.out.on hb)
      clear hb B2 P2 Q2
      go_wp2_with fail
      refine (KK.out.meets _ _ a a _ (KK.out.bel _ _ HG.out B3.out) P3.out P3.out NA.out NA.out).mono ?_
      rintro e4 w4 ⟨rfl, hb⟩
      rw [meets_selfB NA.out]
      have B4 := Lib.hid (B3.out.trans (hb.mono B3.out.size))
      have P4 := Lib.hid (P3.out.on hb)
      have Q4 := Lib.hid (Q3.out.on hb)
      clear hb B3 P3 Q3
      go_wp2_with fail
      refine (KK.out.meets _ _ [] a _ (KK.out.bel _ _ HG.out B4.out) (row_nil _) P4.out nf_nil NA.out).mono ?_
      rintro e5 w5 ⟨rfl, hb⟩
      rw [meets_nilB NA.out]
      have B5 := Lib.hid (B4.out.trans (hb.mono B4.out.size))
      have P5 := Lib.hid (P4.out.on hb)
      have Q5 := Lib.hid (Q4.out.on hb)
      clear hb B4 P4 Q4
      go_wp2_with fail
      refine (KK.out.sample _ a _ (KK.out.bel _ _ HG.out B5.out) P5.out NA.out).mono ?_
      rintro e6 w6 ⟨lv, s, rfl, hr, hn, _, _, _, hb⟩
      have B6 := Lib.hid (B5.out.trans (hb.mono B5.out.size))
      have P6 := Lib.hid (P5.out.on hb)
      have Q6 := Lib.hid (Q5.out.on hb)
      clear hb B5 P5 Q5
      go_wp2_with fail
      refine (KK.out.match_ _ _ [] s _ (KK.out.bel _ _ HG.out B6.out) (row_nil _) hr nf_nil hn).mono ?_
      rintro e7 w7 ⟨rfl, hb⟩
      rw [show matchL [] s = true from rfl]
      have B7 := Lib.hid (B6.out.trans (hb.mono B6.out.size))
      have P7 := Lib.hid (P6.out.on hb)
      have Q7 := Lib.hid (Q6.out.on hb)
      clear hb B6 P6 Q6
      go_wp2_with fail
      refine (runs_any KK.out _ (KK.out.bel _ _ HG.out B7.out)).mono ?_
      rintro e8 w8 ⟨rfl, hb⟩
      have B8 := Lib.hid (B7.out.trans (hb.mono B7.out.size))
      have P8 := Lib.hid (P7.out.on hb)
      have Q8 := Lib.hid (Q7.out.on hb)
      clear hb B7 P7 Q7
      go_wp2
      go_ret
      exact ⟨rfl, B8.out⟩
    · rw [hab, hba] at hs
      have HAB := Lib.hid hab
      have HBA := Lib.hid hba
      have HS := Lib.hid hs.symm
      clear hab hba hs
      go_wp2_with fail
      refine (KK.out.covers _ _ a b _ (KK.out.bel _ _ HG.out B0.out) P0.out Q0.out NA.out NB.out).mono ?_
      rintro e1 w1 ⟨rfl, hb⟩
      rw [HAB.out]
      have B1 := Lib.hid (B0.out.trans (hb.mono B0.out.size))
      have P1 := Lib.hid (P0.out.on hb)
      have Q1 := Lib.hid (Q0.out.on hb)
      clear hb B0 P0 Q0
      go_wp2_with fail
      refine (KK.out.covers _ _ b a _ (KK.out.bel _ _ HG.out B1.out) Q1.out P1.out NB.out NA.out).mono ?_
      rintro e2 w2 ⟨rfl, hb⟩
      rw [HBA.out]
      have B2 := Lib.hid (B1.out.trans (hb.mono B1.out.size))
      have P2 := Lib.hid (P1.out.on hb)
      have Q2 := Lib.hid (Q1.out.on hb)
      clear hb B1 P1 Q1
      go_wp2_with fail
      refine (sameC_any _ _ (a.map r5) (b.map r5) _ P2.out Q2.out (len5 NA.out) (len5 NB.out)).mono ?_
      rintro e3 w3 ⟨rfl, hb⟩
      rw [HS.out]
      have B3 := Lib.hid (B2.out.trans (hb.mono B2.out.size))
      have P3 := Lib.hid (P2.out.on hb)
      have Q3 := Lib.hid (Q2.out.on hb)
      clear hb B2 P2 Q2
      go_wp2_with fail
      refine (KK.out.meets _ _ a a _ (KK.out.bel _ _ HG.out B3.out) P3.out P3.out NA.out NA.out).mono ?_
      rintro e4 w4 ⟨rfl, hb⟩
      rw [meets_selfB NA.out]
      have B4 := Lib.hid (B3.out.trans (hb.mono B3.out.size))
      have P4 := Lib.hid (P3.out.on hb)
      have Q4 := Lib.hid (Q3.out.on hb)
      clear hb B3 P3 Q3
      go_wp2_with fail
      refine (KK.out.meets _ _ [] a _ (KK.out.bel _ _ HG.out B4.out) (row_nil _) P4.out nf_nil NA.out).mono ?_
      rintro e5 w5 ⟨rfl, hb⟩
      rw [meets_nilB NA.out]
      have B5 := Lib.hid (B4.out.trans (hb.mono B4.out.size))
      have P5 := Lib.hid (P4.out.on hb)
      have Q5 := Lib.hid (Q4.out.on hb)
      clear hb B4 P4 Q4
      go_wp2_with fail
      refine (KK.out.sample _ a _ (KK.out.bel _ _ HG.out B5.out) P5.out NA.out).mono ?_
      rintro e6 w6 ⟨lv, s, rfl, hr, hn, _, _, _, hb⟩
      have B6 := Lib.hid (B5.out.trans (hb.mono B5.out.size))
      have P6 := Lib.hid (P5.out.on hb)
      have Q6 := Lib.hid (Q5.out.on hb)
      clear hb B5 P5 Q5
      go_wp2_with fail
      refine (KK.out.match_ _ _ [] s _ (KK.out.bel _ _ HG.out B6.out) (row_nil _) hr nf_nil hn).mono ?_
      rintro e7 w7 ⟨rfl, hb⟩
      rw [show matchL [] s = true from rfl]
      have B7 := Lib.hid (B6.out.trans (hb.mono B6.out.size))
      have P7 := Lib.hid (P6.out.on hb)
      have Q7 := Lib.hid (Q6.out.on hb)
      clear hb B6 P6 Q6
      go_wp2_with fail
      refine (runs_any KK.out _ (KK.out.bel _ _ HG.out B7.out)).mono ?_
      rintro e8 w8 ⟨rfl, hb⟩
      have B8 := Lib.hid (B7.out.trans (hb.mono B7.out.size))
      have P8 := Lib.hid (P7.out.on hb)
      have Q8 := Lib.hid (Q7.out.on hb)
      clear hb B7 P7 Q7
      go_wp2
      go_ret
      exact ⟨rfl, B8.out⟩
end Go.Proofs.Ytdomincmoaahoaa.Rl
