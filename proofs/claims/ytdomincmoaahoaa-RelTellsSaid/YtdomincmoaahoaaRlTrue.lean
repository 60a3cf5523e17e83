/-
  The law RelTrue, whole, out of the contracts wanted of package rel. Conditions: those contracts; lists no longer than a machine holds.
-/
import Derived.Test.YtdomincmoaahoaaRlTup
import Derived.Test.YtdomincmoaahoaaBi
import Derived.Test.YtdomincmoaahoaaRlLawsA
import Derived.Deep.Cut
import Derived.Deep.CutBlock
namespace Go.Proofs.Ytdomincmoaahoaa.Rl
open Go.RowKit Go.Sort Go.Proofs.Ytdomincmoaahoaa Go.Proofs.Ytdomincmoaahoaa.Pu Go.Proofs.Ytdomincmoaahoaa.Rw Go.Proofs.Ytdomincmoaahoaa.Pr Go.Proofs.Ytdomincmoaahoaa.In Go.Proofs.Ytdomincmoaahoaa.Kp

noncomputable def true6 : Code := afterN 6 (Try.f5.body.getD .skip)
noncomputable def true5 : Code := .seq (headN 5 (Try.f5.body.getD .skip)) true6
noncomputable def true2 : Code := .seq (headN 2 (Try.f5.body.getD .skip)) (.seq (headN 3 (Try.f5.body.getD .skip)) (.seq (headN 4 (Try.f5.body.getD .skip)) true5))
set_option maxRecDepth 100000 in
set_option maxHeartbeats 8000000 in
theorem true_6 {G : World → Prop} (K : ROks G) (w W : World) (av_ bv : Value) (a b : List Cn) (hg : G w) (hb : Below w.heap.size w W) (hp : RowC W av_ (a.map r5)) (hq : RowC W bv (b.map r5)) (na : NF a) (nb : NF b)
    (u0 u1 u2 u3 u4 u5 u6 u9 u10 u11 u12 u13 u14 u15 u16 u17 u18 u19 u20 u21 u22 u23 u24 u25 u26 u27 u28 u29 u30 u31 u32 u33 u34 u35 u36 u37 u38 u39 u40 u41 u42 u43 u44 u45 u46 u47 u48 u49 u50 u51 u52 u53 u54 u55 u56 u57 u58 u59 u60 u61 u62 u63 u64 u65 u66 u67 u68 u69 u70 u71 u72 u73 u74 u75 u76 u77 u78 u79 u80 u81 u82 u83 u84 u85 u86 u87 u88 u89 u90 u91 u92 u93 u94 u95 u96 u97 u98 u99 u100 u101 u102 u103 u104 u105 u106 u107 u108 u109 u110 u111 u112 u113 u114 u115 u116 u117 u118 u119 u120 u121 u122 u123 u124 u125 u126 u127 u128 u129 u130 u131 : Value) :
    Code.wp Try.prog true6 (bodyPost Try.prog Try.f5 (RQ w)) ⟨(u0 :: u1 :: u2 :: u3 :: u4 :: u5 :: u6 :: av_ :: bv :: u9 :: u10 :: u11 :: u12 :: u13 :: u14 :: u15 :: u16 :: u17 :: u18 :: u19 :: u20 :: u21 :: u22 :: u23 :: u24 :: u25 :: u26 :: u27 :: u28 :: u29 :: u30 :: u31 :: u32 :: u33 :: u34 :: u35 :: u36 :: u37 :: u38 :: u39 :: u40 :: u41 :: u42 :: u43 :: u44 :: u45 :: u46 :: u47 :: u48 :: u49 :: u50 :: u51 :: u52 :: u53 :: u54 :: u55 :: u56 :: u57 :: u58 :: u59 :: u60 :: u61 :: u62 :: u63 :: u64 :: u65 :: u66 :: u67 :: u68 :: u69 :: u70 :: u71 :: u72 :: u73 :: u74 :: u75 :: u76 :: u77 :: u78 :: u79 :: u80 :: u81 :: u82 :: u83 :: u84 :: u85 :: u86 :: u87 :: u88 :: u89 :: u90 :: u91 :: u92 :: u93 :: u94 :: u95 :: u96 :: u97 :: u98 :: u99 :: u100 :: u101 :: u102 :: u103 :: u104 :: u105 :: u106 :: u107 :: u108 :: u109 :: u110 :: u111 :: u112 :: u113 :: u114 :: u115 :: u116 :: u117 :: u118 :: u119 :: u120 :: u121 :: u122 :: u123 :: u124 :: u125 :: u126 :: u127 :: u128 :: u129 :: u130 :: u131 :: []).toArray, []⟩ W := by
  have KK := Lib.hid K
  have HG := Lib.hid hg
  have B0 := Lib.hid hb
  have P0 := Lib.hid hp
  have Q0 := Lib.hid hq
  have NA := Lib.hid na
  have NB := Lib.hid nb
  clear K hg hb hp hq na nb
  unfold true6
  conv => arg 2; whnf
  cases hc : coversL a b
  · have HC := Lib.hid hc
    clear hc
    go_wp2_with fail
    refine (KK.out.covers _ _ a b _ (KK.out.bel _ _ HG.out B0.out) P0.out Q0.out NA.out NB.out).mono ?_
    rintro e1 w1 ⟨rfl, hb⟩
    rw [HC.out]
    have B1 := Lib.hid (B0.out.trans (hb.mono B0.out.size))
    have P1 := Lib.hid (P0.out.on hb)
    have Q1 := Lib.hid (Q0.out.on hb)
    clear hb B0 P0 Q0
    go_wp2_with fail
    refine (runs_any KK.out _ (KK.out.bel _ _ HG.out B1.out)).mono ?_
    rintro e2 w2 ⟨rfl, hb⟩
    have B2 := Lib.hid (B1.out.trans (hb.mono B1.out.size))
    have P2 := Lib.hid (P1.out.on hb)
    have Q2 := Lib.hid (Q1.out.on hb)
    clear hb B1 P1 Q1
    go_wp2
    go_ret
    exact ⟨rfl, B2.out⟩
  · have HC := Lib.hid hc
    have CM := Lib.hid (fun s (h : matchL b s = true) => covers_match hc h)
    clear hc
    go_wp2_with fail
    refine (KK.out.covers _ _ a b _ (KK.out.bel _ _ HG.out B0.out) P0.out Q0.out NA.out NB.out).mono ?_
    rintro e1 w1 ⟨rfl, hb⟩
    rw [HC.out]
    have B1 := Lib.hid (B0.out.trans (hb.mono B0.out.size))
    have P1 := Lib.hid (P0.out.on hb)
    have Q1 := Lib.hid (Q0.out.on hb)
    clear hb B0 P0 Q0
    go_wp2_with fail
    refine (KK.out.sample _ b _ (KK.out.bel _ _ HG.out B1.out) Q1.out NB.out).mono ?_
    rintro e2 w2 ⟨lv, s, rfl, hr, hn, _, hm, _, hb⟩
    have HM := Lib.hid (CM.out s hm)
    have NS := Lib.hid hn
    clear hm hn CM
    have B2 := Lib.hid (B1.out.trans (hb.mono B1.out.size))
    have P2 := Lib.hid (P1.out.on hb)
    have Q2 := Lib.hid (Q1.out.on hb)
    have S2 := Lib.hid hr
    clear hb hr B1 P1 Q1
    go_wp2_with fail
    refine (KK.out.match_ _ _ a s _ (KK.out.bel _ _ HG.out B2.out) P2.out S2.out NA.out NS.out).mono ?_
    rintro e3 w3 ⟨rfl, hb⟩
    rw [HM.out]
    have B3 := Lib.hid (B2.out.trans (hb.mono B2.out.size))
    have P3 := Lib.hid (P2.out.on hb)
    have Q3 := Lib.hid (Q2.out.on hb)
    have S3 := Lib.hid (S2.out.on hb)
    clear hb B2 P2 Q2 S2
    go_wp2_with fail
    refine (runs_any KK.out _ (KK.out.bel _ _ HG.out B3.out)).mono ?_
    rintro e4 w4 ⟨rfl, hb⟩
    have B4 := Lib.hid (B3.out.trans (hb.mono B3.out.size))
    have P4 := Lib.hid (P3.out.on hb)
    have Q4 := Lib.hid (Q3.out.on hb)
    have S4 := Lib.hid (S3.out.on hb)
    clear hb B3 P3 Q3 S3
    go_wp2
    go_ret
    exact ⟨rfl, B4.out⟩
set_option maxRecDepth 100000 in
set_option maxHeartbeats 8000000 in
theorem true_5 {G : World → Prop} (K : ROks G) (w W : World) (av_ bv : Value) (a b : List Cn) (hg : G w) (hb : Below w.heap.size w W) (hp : RowC W av_ (a.map r5)) (hq : RowC W bv (b.map r5)) (na : NF a) (nb : NF b) (tv : Value) (n : Nat) (hT : InTups W tv n) (hn : n ≤ maxLen) (ok : Bool) (hok : meetsB a b = ok)
    (u0 u1 u3 u4 u5 u9 u10 u12 u13 u14 u15 u16 u17 u18 u19 u20 u21 u22 u23 u24 u25 u26 u27 u28 u29 u30 u31 u32 u33 u34 u35 u36 u37 u38 u39 u40 u41 u42 u43 u44 u45 u46 u47 u48 u49 u50 u51 u52 u53 u54 u55 u56 u57 u58 u59 u60 u61 u62 u63 u64 u65 u66 u67 u68 u69 u70 u71 u72 u73 u74 u75 u76 u77 u78 u79 u80 u81 u82 u83 u84 u85 u86 u87 u88 u89 u90 u91 u92 u93 u94 u95 u96 u97 u98 u99 u100 u101 u102 u103 u104 u105 u106 u107 u108 u109 u110 u111 u112 u113 u114 u115 u116 u117 u118 u119 u120 u121 u122 u123 u124 u125 u126 u127 u128 u129 u130 u131 : Value) :
    Code.wp Try.prog true5 (bodyPost Try.prog Try.f5 (RQ w)) ⟨(u0 :: u1 :: tv :: u3 :: u4 :: u5 :: .bool false :: av_ :: bv :: u9 :: u10 :: .bool ok :: u12 :: u13 :: u14 :: u15 :: u16 :: u17 :: u18 :: u19 :: u20 :: u21 :: u22 :: u23 :: u24 :: u25 :: u26 :: u27 :: u28 :: u29 :: u30 :: u31 :: u32 :: u33 :: u34 :: u35 :: u36 :: u37 :: u38 :: u39 :: u40 :: u41 :: u42 :: u43 :: u44 :: u45 :: u46 :: u47 :: u48 :: u49 :: u50 :: u51 :: u52 :: u53 :: u54 :: u55 :: u56 :: u57 :: u58 :: u59 :: u60 :: u61 :: u62 :: u63 :: u64 :: u65 :: u66 :: u67 :: u68 :: u69 :: u70 :: u71 :: u72 :: u73 :: u74 :: u75 :: u76 :: u77 :: u78 :: u79 :: u80 :: u81 :: u82 :: u83 :: u84 :: u85 :: u86 :: u87 :: u88 :: u89 :: u90 :: u91 :: u92 :: u93 :: u94 :: u95 :: u96 :: u97 :: u98 :: u99 :: u100 :: u101 :: u102 :: u103 :: u104 :: u105 :: u106 :: u107 :: u108 :: u109 :: u110 :: u111 :: u112 :: u113 :: u114 :: u115 :: u116 :: u117 :: u118 :: u119 :: u120 :: u121 :: u122 :: u123 :: u124 :: u125 :: u126 :: u127 :: u128 :: u129 :: u130 :: u131 :: []).toArray, []⟩ W := by
  have KK := Lib.hid K
  have HG := Lib.hid hg
  have B0 := Lib.hid hb
  have P0 := Lib.hid hp
  have Q0 := Lib.hid hq
  have NA := Lib.hid na
  have NB := Lib.hid nb
  clear K hg hb hp hq na nb
  have T0 := Lib.hid hT
  have ME := Lib.hid (fun l (nl : NL l) (h1 : matchL a l = true) (h2 : matchL b l = true) => (show ok = true from hok.symm.trans ((meetsB_iff NA.out.rise NB.out.rise NA.out.five).2 (match_meets NA.out.rise NB.out.rise nl.nodup nl.five h1 h2))))
  have CM := Lib.hid (fun l (h : coversL a b = true) (h2 : matchL b l = true) => covers_match h h2)
  obtain ⟨cov, hcov⟩ : ∃ c, coversL a b = c := ⟨_, rfl⟩
  have HC := Lib.hid hcov
  rw [hcov] at CM
  obtain ⟨tso, tsc, rfl⟩ := hT.shape
  have hn' : n ≤ maxLen := hn
  unfold maxLen at hn'
  clear hT hok hcov
  unfold true5
  conv => enter [2, 1]; whnf
  go_wp2
  go_loopw [12] (fun i wr => ∃ k : Nat, k ≤ n ∧ k ≤ 12 ∧ i = .int .i64 k ∧ Below W.heap.size W wr) (fun i _ => n - (intOf i).toNat)
  case atStart => exact ⟨0, Nat.zero_le _, Nat.zero_le _, rfl, Below.refl _ _⟩
  case round =>
    obtain ⟨k, hk, hk12, rfl, hbr⟩ := hrel
    have BR := Lib.hid hbr
    have B1 := Lib.hid (B0.out.trans (hbr.mono B0.out.size))
    have P1 := Lib.hid (P0.out.on hbr)
    have Q1 := Lib.hid (Q0.out.on hbr)
    have T1 := Lib.hid (T0.out.on hbr)
    clear hbr B0 P0 Q0 T0
    by_cases hkn : k < n
    · by_cases hk2 : k < 12
      · obtain ⟨p, hv, vv, has, vals, i1, i2, i3, i4, i5, i6, i7, i8⟩ := T1.out.at_ k hkn
        have TR := Lib.hid (tup_row hv vv has vals wr i5 i6 i7 i8)
        have NL0 := Lib.hid (tup_nl has vals)
        generalize At.tup has vals 7 = l at *
        obtain ⟨x, hx⟩ : ∃ x, matchL a l = x := ⟨_, rfl⟩
        obtain ⟨y, hy⟩ : ∃ y, matchL b l = y := ⟨_, rfl⟩
        have HX := Lib.hid hx
        have HY := Lib.hid hy
        have XY := Lib.hid (fun (h1 : x = true) (h2 : y = true) => ME.out l NL0.out (hx.trans h1) (hy.trans h2))
        have CY := Lib.hid (fun (h1 : cov = true) (h2 : y = true) => hx.symm.trans (CM.out l h1 (hy.trans h2)))
        clear hx hy i1 i5 i6 i7 i8 ME CM
        go_wp2_with fail
        refine TR.out.mono ?_
        rintro e2 w2 ⟨lv, rfl, hl, hb⟩
        have BQ := Lib.hid (BR.out.trans (hb.mono BR.out.size))
        clear TR i2 i3 i4 BR T1
        have B2 := Lib.hid (B1.out.trans (hb.mono B1.out.size))
        have P2 := Lib.hid (P1.out.on hb)
        have Q2 := Lib.hid (Q1.out.on hb)
        have L2 := Lib.hid hl
        clear hb hl B1 P1 Q1
        go_wp2_with fail
        refine (KK.out.match_ _ _ a l _ (KK.out.bel _ _ HG.out B2.out) P2.out L2.out NA.out NL0.out).mono ?_
        rintro e3 w3 ⟨rfl, hb⟩
        rw [HX.out]
        have BZ2 := Lib.hid (BQ.out.trans (hb.mono BQ.out.size))
        clear BQ
        have BQ := BZ2
        clear BZ2
        have B3 := Lib.hid (B2.out.trans (hb.mono B2.out.size))
        have P3 := Lib.hid (P2.out.on hb)
        have Q3 := Lib.hid (Q2.out.on hb)
        have L3 := Lib.hid (L2.out.on hb)
        clear hb B2 P2 Q2 L2
        go_wp2_with fail
        refine (KK.out.match_ _ _ b l _ (KK.out.bel _ _ HG.out B3.out) Q3.out L3.out NB.out NL0.out).mono ?_
        rintro e4 w4 ⟨rfl, hb⟩
        rw [HY.out]
        have BZ3 := Lib.hid (BQ.out.trans (hb.mono BQ.out.size))
        clear BQ
        have BQ := BZ3
        clear BZ3
        have B4 := Lib.hid (B3.out.trans (hb.mono B3.out.size))
        have P4 := Lib.hid (P3.out.on hb)
        have Q4 := Lib.hid (Q3.out.on hb)
        have L4 := Lib.hid (L3.out.on hb)
        clear hb B3 P3 Q3 L3
        rcases x with _ | _ <;> rcases y with _ | _ <;> rcases ok with _ | _ <;> rcases cov with _ | _
        all_goals first
          | (exfalso; have h := XY.out rfl rfl; cases h; done)
          | (exfalso; have h := CY.out rfl rfl; cases h; done)
          | skip
        all_goals clear XY CY
        all_goals
          go_wp2_with fail
          refine (KK.out.covers _ _ a b _ (KK.out.bel _ _ HG.out B4.out) P4.out Q4.out NA.out NB.out).mono ?_
          rintro e5 w5 ⟨rfl, hb⟩
          rw [HC.out]
          have BZ4 := Lib.hid (BQ.out.trans (hb.mono BQ.out.size))
          clear BQ
          have BQ := BZ4
          clear BZ4
          have B5 := Lib.hid (B4.out.trans (hb.mono B4.out.size))
          have P5 := Lib.hid (P4.out.on hb)
          have Q5 := Lib.hid (Q4.out.on hb)
          have L5 := Lib.hid (L4.out.on hb)
          clear hb B4 P4 Q4 L4
          go_wp2
          go_roundw
          case rel => exact ⟨k + 1, by omega, by omega, by go_num, BQ.out⟩
          case measure => simp [intOf]; omega
      · go_wp2
        exact true_6 KK.out w _ _ _ a b HG.out B1.out P1.out Q1.out NA.out NB.out _ _ _ _ _ _ _ _ _ _ _ _ _ _ _ _ _ _ _ _ _ _ _ _ _ _ _ _ _ _ _ _ _ _ _ _ _ _ _ _ _ _ _ _ _ _ _ _ _ _ _ _ _ _ _ _ _ _ _ _ _ _ _ _ _ _ _ _ _ _ _ _ _ _ _ _ _ _ _ _ _ _ _ _ _ _ _ _ _ _ _ _ _ _ _ _ _ _ _ _ _ _ _ _ _ _ _ _ _ _ _ _ _ _ _ _ _ _ _ _ _ _ _ _ _ _ _ _ _ _
    · go_wp2
      exact true_6 KK.out w _ _ _ a b HG.out B1.out P1.out Q1.out NA.out NB.out _ _ _ _ _ _ _ _ _ _ _ _ _ _ _ _ _ _ _ _ _ _ _ _ _ _ _ _ _ _ _ _ _ _ _ _ _ _ _ _ _ _ _ _ _ _ _ _ _ _ _ _ _ _ _ _ _ _ _ _ _ _ _ _ _ _ _ _ _ _ _ _ _ _ _ _ _ _ _ _ _ _ _ _ _ _ _ _ _ _ _ _ _ _ _ _ _ _ _ _ _ _ _ _ _ _ _ _ _ _ _ _ _ _ _ _ _ _ _ _ _ _ _ _ _ _ _ _ _ _
set_option maxRecDepth 100000 in
set_option maxHeartbeats 8000000 in
theorem true_2 {G : World → Prop} (K : ROks G) (w W : World) (av_ bv : Value) (a b : List Cn) (hg : G w) (hb : Below w.heap.size w W) (hp : RowC W av_ (a.map r5)) (hq : RowC W bv (b.map r5)) (na : NF a) (nb : NF b) (tv : Value) (n : Nat) (hT : InTups W tv n) (hn : n ≤ maxLen)
    (u0 u1 u3 u4 u5 u9 u10 u11 u12 u13 u14 u15 u16 u17 u18 u19 u20 u21 u22 u23 u24 u25 u26 u27 u28 u29 u30 u31 u32 u33 u34 u35 u36 u37 u38 u39 u40 u41 u42 u43 u44 u45 u46 u47 u48 u49 u50 u51 u52 u53 u54 u55 u56 u57 u58 u59 u60 u61 u62 u63 u64 u65 u66 u67 u68 u69 u70 u71 u72 u73 u74 u75 u76 u77 u78 u79 u80 u81 u82 u83 u84 u85 u86 u87 u88 u89 u90 u91 u92 u93 u94 u95 u96 u97 u98 u99 u100 u101 u102 u103 u104 u105 u106 u107 u108 u109 u110 u111 u112 u113 u114 u115 u116 u117 u118 u119 u120 u121 u122 u123 u124 u125 u126 u127 u128 u129 u130 u131 : Value) :
    Code.wp Try.prog true2 (bodyPost Try.prog Try.f5 (RQ w)) ⟨(u0 :: u1 :: tv :: u3 :: u4 :: u5 :: .bool false :: av_ :: bv :: u9 :: u10 :: u11 :: u12 :: u13 :: u14 :: u15 :: u16 :: u17 :: u18 :: u19 :: u20 :: u21 :: u22 :: u23 :: u24 :: u25 :: u26 :: u27 :: u28 :: u29 :: u30 :: u31 :: u32 :: u33 :: u34 :: u35 :: u36 :: u37 :: u38 :: u39 :: u40 :: u41 :: u42 :: u43 :: u44 :: u45 :: u46 :: u47 :: u48 :: u49 :: u50 :: u51 :: u52 :: u53 :: u54 :: u55 :: u56 :: u57 :: u58 :: u59 :: u60 :: u61 :: u62 :: u63 :: u64 :: u65 :: u66 :: u67 :: u68 :: u69 :: u70 :: u71 :: u72 :: u73 :: u74 :: u75 :: u76 :: u77 :: u78 :: u79 :: u80 :: u81 :: u82 :: u83 :: u84 :: u85 :: u86 :: u87 :: u88 :: u89 :: u90 :: u91 :: u92 :: u93 :: u94 :: u95 :: u96 :: u97 :: u98 :: u99 :: u100 :: u101 :: u102 :: u103 :: u104 :: u105 :: u106 :: u107 :: u108 :: u109 :: u110 :: u111 :: u112 :: u113 :: u114 :: u115 :: u116 :: u117 :: u118 :: u119 :: u120 :: u121 :: u122 :: u123 :: u124 :: u125 :: u126 :: u127 :: u128 :: u129 :: u130 :: u131 :: []).toArray, []⟩ W := by
  have KK := Lib.hid K
  have HG := Lib.hid hg
  have B0 := Lib.hid hb
  have P0 := Lib.hid hp
  have Q0 := Lib.hid hq
  have NA := Lib.hid na
  have NB := Lib.hid nb
  clear K hg hb hp hq na nb
  have T0 := Lib.hid hT
  have HN := Lib.hid hn
  obtain ⟨ok, hok⟩ : ∃ k, meetsB a b = k := ⟨_, rfl⟩
  have OK := Lib.hid hok
  clear hT hn hok
  unfold true2
  conv => enter [2, 1]; whnf
  conv => enter [2, 2, 1]; whnf
  conv => enter [2, 2, 2, 1]; whnf
  go_wp2_with fail
  refine (KK.out.sample _ a _ (KK.out.bel _ _ HG.out B0.out) P0.out NA.out).mono ?_
  rintro e1 w1 ⟨lv, s, rfl, hr, hn, hrt, hm, hl, hb⟩
  have HM := Lib.hid hm
  have NS := Lib.hid hn
  have RT := Lib.hid hrt
  have SL := Lib.hid hl
  clear hm hn hrt hl
  have B1 := Lib.hid (B0.out.trans (hb.mono B0.out.size))
  have P1 := Lib.hid (P0.out.on hb)
  have Q1 := Lib.hid (Q0.out.on hb)
  have T1 := Lib.hid (T0.out.on hb)
  have S1 := Lib.hid hr
  clear hb hr B0 P0 Q0 T0
  go_wp2_with fail
  refine (KK.out.joint _ _ a b _ (KK.out.bel _ _ HG.out B1.out) P1.out Q1.out NA.out NB.out).mono ?_
  rintro e2 w2 ⟨jv, j, rfl, hj, hj0, hj1, hb⟩
  rw [OK.out] at hj0 hj1 ⊢
  have J0 := Lib.hid hj0
  have J1 := Lib.hid hj1
  clear hj0 hj1
  have B2 := Lib.hid (B1.out.trans (hb.mono B1.out.size))
  have P2 := Lib.hid (P1.out.on hb)
  have Q2 := Lib.hid (Q1.out.on hb)
  have T2 := Lib.hid (T1.out.on hb)
  have S2 := Lib.hid (S1.out.on hb)
  have J2 := Lib.hid hj
  clear hb hj B1 P1 Q1 T1 S1
  obtain ⟨so, sc, rfl⟩ := S2.out.len
  obtain ⟨ao, ac, rfl⟩ := P2.out.len
  obtain ⟨jo, jc, rfl⟩ := J2.out.len
  simp only [List.length_map] at *
  rw [SL.out] at S2 ⊢
  rcases ok with _ | _
  · obtain rfl := J0.out rfl
    clear J0 J1
    go_wp2_with fail
    refine (KK.out.match_ _ _ a s _ (KK.out.bel _ _ HG.out B2.out) P2.out S2.out NA.out NS.out).mono ?_
    rintro e3 w3 ⟨rfl, hb⟩
    rw [HM.out]
    have B3 := Lib.hid (B2.out.trans (hb.mono B2.out.size))
    have P3 := Lib.hid (P2.out.on hb)
    have Q3 := Lib.hid (Q2.out.on hb)
    have T3 := Lib.hid (T2.out.on hb)
    have S3 := Lib.hid (S2.out.on hb)
    have J3 := Lib.hid (J2.out.on hb)
    clear hb B2 P2 Q2 T2 S2 J2
    go_wp2_with fail
    refine (tright_any _ s _ S3.out NS.out).mono ?_
    rintro e4 w4 ⟨rfl, hb⟩
    rw [RT.out]
    have B4 := Lib.hid (B3.out.trans (hb.mono B3.out.size))
    have P4 := Lib.hid (P3.out.on hb)
    have Q4 := Lib.hid (Q3.out.on hb)
    have T4 := Lib.hid (T3.out.on hb)
    have S4 := Lib.hid (S3.out.on hb)
    have J4 := Lib.hid (J3.out.on hb)
    clear hb B3 P3 Q3 T3 S3 J3
    go_wp2_with fail
    refine (KK.out.meets _ _ a b _ (KK.out.bel _ _ HG.out B4.out) P4.out Q4.out NA.out NB.out).mono ?_
    rintro e5 w5 ⟨rfl, hb⟩
    rw [OK.out]
    have B5 := Lib.hid (B4.out.trans (hb.mono B4.out.size))
    have P5 := Lib.hid (P4.out.on hb)
    have Q5 := Lib.hid (Q4.out.on hb)
    have T5 := Lib.hid (T4.out.on hb)
    have S5 := Lib.hid (S4.out.on hb)
    have J5 := Lib.hid (J4.out.on hb)
    clear hb B4 P4 Q4 T4 S4 J4
    go_wp2
    exact true_5 KK.out w _ _ _ a b HG.out B5.out P5.out Q5.out NA.out NB.out _ n T5.out HN.out _ OK.out _ _ _ _ _ _ _ _ _ _ _ _ _ _ _ _ _ _ _ _ _ _ _ _ _ _ _ _ _ _ _ _ _ _ _ _ _ _ _ _ _ _ _ _ _ _ _ _ _ _ _ _ _ _ _ _ _ _ _ _ _ _ _ _ _ _ _ _ _ _ _ _ _ _ _ _ _ _ _ _ _ _ _ _ _ _ _ _ _ _ _ _ _ _ _ _ _ _ _ _ _ _ _ _ _ _ _ _ _ _ _ _ _ _ _ _ _ _ _ _ _ _ _ _ _ _ _
  · obtain ⟨nj, rj, m1, m2⟩ := J1.out rfl
    have NJ := Lib.hid nj
    have RJ := Lib.hid rj
    have M1 := Lib.hid m1
    have M2 := Lib.hid m2
    clear nj rj m1 m2
    clear J0 J1
    go_wp2_with fail
    refine (KK.out.match_ _ _ a s _ (KK.out.bel _ _ HG.out B2.out) P2.out S2.out NA.out NS.out).mono ?_
    rintro e3 w3 ⟨rfl, hb⟩
    rw [HM.out]
    have B3 := Lib.hid (B2.out.trans (hb.mono B2.out.size))
    have P3 := Lib.hid (P2.out.on hb)
    have Q3 := Lib.hid (Q2.out.on hb)
    have T3 := Lib.hid (T2.out.on hb)
    have S3 := Lib.hid (S2.out.on hb)
    have J3 := Lib.hid (J2.out.on hb)
    clear hb B2 P2 Q2 T2 S2 J2
    go_wp2_with fail
    refine (tright_any _ s _ S3.out NS.out).mono ?_
    rintro e4 w4 ⟨rfl, hb⟩
    rw [RT.out]
    have B4 := Lib.hid (B3.out.trans (hb.mono B3.out.size))
    have P4 := Lib.hid (P3.out.on hb)
    have Q4 := Lib.hid (Q3.out.on hb)
    have T4 := Lib.hid (T3.out.on hb)
    have S4 := Lib.hid (S3.out.on hb)
    have J4 := Lib.hid (J3.out.on hb)
    clear hb B3 P3 Q3 T3 S3 J3
    go_wp2_with fail
    refine (KK.out.meets _ _ a b _ (KK.out.bel _ _ HG.out B4.out) P4.out Q4.out NA.out NB.out).mono ?_
    rintro e5 w5 ⟨rfl, hb⟩
    rw [OK.out]
    have B5 := Lib.hid (B4.out.trans (hb.mono B4.out.size))
    have P5 := Lib.hid (P4.out.on hb)
    have Q5 := Lib.hid (Q4.out.on hb)
    have T5 := Lib.hid (T4.out.on hb)
    have S5 := Lib.hid (S4.out.on hb)
    have J5 := Lib.hid (J4.out.on hb)
    clear hb B4 P4 Q4 T4 S4 J4
    go_wp2_with fail
    refine (KK.out.match_ _ _ a j _ (KK.out.bel _ _ HG.out B5.out) P5.out J5.out NA.out NJ.out).mono ?_
    rintro e6 w6 ⟨rfl, hb⟩
    rw [M1.out]
    have B6 := Lib.hid (B5.out.trans (hb.mono B5.out.size))
    have P6 := Lib.hid (P5.out.on hb)
    have Q6 := Lib.hid (Q5.out.on hb)
    have T6 := Lib.hid (T5.out.on hb)
    have S6 := Lib.hid (S5.out.on hb)
    have J6 := Lib.hid (J5.out.on hb)
    clear hb B5 P5 Q5 T5 S5 J5
    go_wp2_with fail
    refine (KK.out.match_ _ _ b j _ (KK.out.bel _ _ HG.out B6.out) Q6.out J6.out NB.out NJ.out).mono ?_
    rintro e7 w7 ⟨rfl, hb⟩
    rw [M2.out]
    have B7 := Lib.hid (B6.out.trans (hb.mono B6.out.size))
    have P7 := Lib.hid (P6.out.on hb)
    have Q7 := Lib.hid (Q6.out.on hb)
    have T7 := Lib.hid (T6.out.on hb)
    have S7 := Lib.hid (S6.out.on hb)
    have J7 := Lib.hid (J6.out.on hb)
    clear hb B6 P6 Q6 T6 S6 J6
    go_wp2_with fail
    refine (tright_any _ j _ J7.out NJ.out).mono ?_
    rintro e8 w8 ⟨rfl, hb⟩
    rw [RJ.out]
    have B8 := Lib.hid (B7.out.trans (hb.mono B7.out.size))
    have P8 := Lib.hid (P7.out.on hb)
    have Q8 := Lib.hid (Q7.out.on hb)
    have T8 := Lib.hid (T7.out.on hb)
    have S8 := Lib.hid (S7.out.on hb)
    have J8 := Lib.hid (J7.out.on hb)
    clear hb B7 P7 Q7 T7 S7 J7
    go_wp2
    exact true_5 KK.out w _ _ _ a b HG.out B8.out P8.out Q8.out NA.out NB.out _ n T8.out HN.out _ OK.out _ _ _ _ _ _ _ _ _ _ _ _ _ _ _ _ _ _ _ _ _ _ _ _ _ _ _ _ _ _ _ _ _ _ _ _ _ _ _ _ _ _ _ _ _ _ _ _ _ _ _ _ _ _ _ _ _ _ _ _ _ _ _ _ _ _ _ _ _ _ _ _ _ _ _ _ _ _ _ _ _ _ _ _ _ _ _ _ _ _ _ _ _ _ _ _ _ _ _ _ _ _ _ _ _ _ _ _ _ _ _ _ _ _ _ _ _ _ _ _ _ _ _ _ _ _ _
abbrev lay2 (w : World) (a b c d : Value) : World := ((w.alloc (.cells #[a, b] 29)).alloc (.cells #[c, d] 29)).drew
structure LP2 (n : Nat) (a b c d : Value) (w : World) : Prop where
  a0 : w.cell? ⟨n, 0, none⟩ = some a
  a1 : w.cell? ⟨n, 1, none⟩ = some b
  b0 : w.cell? ⟨n + 1, 0, none⟩ = some c
  b1 : w.cell? ⟨n + 1, 1, none⟩ = some d
theorem lp2_lay (w : World) (a b c d : Value) : LP2 w.heap.size a b c d (lay2 w a b c d) := by constructor <;> simp [go_sem, lay2]
theorem LP2.on {n B : Nat} {a b c d : Value} {w w' : World} (h : LP2 n a b c d w) (hb : Below B w w') (hB : n + 1 + 1 ≤ B) : LP2 n a b c d w' := by
  have k : ∀ i p : Nat, i < B → w'.cell? ⟨i, p, none⟩ = w.cell? ⟨i, p, none⟩ := fun i p hi => hb.cell (p := ⟨i, p, none⟩) hi
  exact ⟨(k _ _ (by omega)).trans h.a0, (k _ _ (by omega)).trans h.a1, (k _ _ (by omega)).trans h.b0, (k _ _ (by omega)).trans h.b1⟩
set_option maxRecDepth 100000 in
set_option maxHeartbeats 8000000 in
theorem true_any {G : World → Prop} (K : ROks G) (hv vv ov_ uv tv : Value) (has vals has2 vals2 : List Int) (n : Nat) (w : World) (hg : G w) (i1 : InInts w hv has) (i2 : InInts w vv vals) (i3 : InInts w ov_ has2) (i4 : InInts w uv vals2) (i5 : InTups w tv n)
    (l1 : has.length ≤ maxLen) (l2 : vals.length ≤ maxLen) (l3 : has2.length ≤ maxLen) (l4 : vals2.length ≤ maxLen) (l5 : n ≤ maxLen) :
    Calls Try.prog 5 #[.agg #[hv, vv], .agg #[ov_, uv], tv] w (RQ w) := by
  have HG := Lib.hid hg
  have B0 := Lib.hid (show Below w.heap.size w (lay2 w hv vv ov_ uv) from (((Below.refl _ _).alloc (Nat.le_refl _) _).alloc (by simp) _).drew)
  have T1 := Lib.hid (fun W hW => pred_row hv vv has vals (lay2 w hv vv ov_ uv) W hW (i1.on B0.out) (i2.on B0.out) l1 l2)
  have T2 := Lib.hid (fun W hW => pred_row ov_ uv has2 vals2 (lay2 w hv vv ov_ uv) W hW (i3.on B0.out) (i4.on B0.out) l3 l4)
  have TT := Lib.hid (i5.on B0.out)
  have NA := Lib.hid (prd_nf has vals)
  have NB := Lib.hid (prd_nf has2 vals2)
  have LL := Lib.hid (lp2_lay w hv vv ov_ uv)
  have L5 := Lib.hid l5
  have a0 := LL.out.a0
  have a1 := LL.out.a1
  have b0 := LL.out.b0
  have b1 := LL.out.b1
  have hsz : (lay2 w hv vv ov_ uv).heap.size = w.heap.size + 1 + 1 := by simp
  have HSZ := Lib.hid (Nat.le_of_eq hsz.symm)
  clear hg i1 i2 i3 i4 i5 l1 l2 l3 l4 l5 hsz
  generalize prd has vals 7 = l at *
  generalize prd has2 vals2 7 = m at *
  go_enter Try.func5, Try.ntmps5
  go_wp2_with fail
  go_region_law (first
    | (refine step_call_run rfl (ex_call1 _ _ (.tmp 16) 29 12 rfl rfl rfl _ (call_pred _ _)) (T1.out _ (Below.refl _ _)) ?_; rintro e3 w3 ⟨pv, rfl, hp, hbp⟩; have L3 := Lib.hid (LL.out.on hbp HSZ.out); have d0 := L3.out.b0; have d1 := L3.out.b1; refine ⟨_, rfl, ?_⟩)
    | (refine step_call_run rfl (ex_call1 _ _ (.tmp 18) 29 12 rfl rfl rfl _ (call_pred _ _)) (T2.out _ hbp) ?_; rintro e4 w4 ⟨qv, rfl, hq, hbq⟩; have hbQ := hbp.trans (hbq.mono hbp.size); refine ⟨_, rfl, ?_⟩))
  all_goals simp only [Exit.then]
  all_goals apply_assumption
  all_goals exact true_2 K w _ _ _ l m HG.out (B0.out.trans (hbQ.mono B0.out.size)) (hp.on hbq) hq NA.out NB.out _ n (TT.out.on hbQ) L5.out _ _ _ _ _ _ _ _ _ _ _ _ _ _ _ _ _ _ _ _ _ _ _ _ _ _ _ _ _ _ _ _ _ _ _ _ _ _ _ _ _ _ _ _ _ _ _ _ _ _ _ _ _ _ _ _ _ _ _ _ _ _ _ _ _ _ _ _ _ _ _ _ _ _ _ _ _ _ _ _ _ _ _ _ _ _ _ _ _ _ _ _ _ _ _ _ _ _ _ _ _ _ _ _ _ _ _ _ _ _ _ _ _ _ _ _ _ _ _ _ _ _ _ _ _ _ _ _
end Go.Proofs.Ytdomincmoaahoaa.Rl
