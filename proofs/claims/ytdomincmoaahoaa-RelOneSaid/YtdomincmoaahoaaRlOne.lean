/-
  The law RelOne, whole, out of the contracts wanted of package rel. Conditions: those contracts; numbers of 64 bits.
-/
import Derived.Test.YtdomincmoaahoaaRlOneQ
import Derived.Test.YtdomincmoaahoaaRlRefH
import Derived.Test.YtdomincmoaahoaaRlLawsA
import Derived.Test.YtdomincmoaahoaaBb
import Derived.Lib.QuietBelow
import Derived.BigQuiet
import Derived.BigRegion
import Derived.Deep.Cut
import Derived.Deep.CutBlock
namespace Go.Proofs.Ytdomincmoaahoaa.Rl
open Go.RowKit Go.Sort Go.Proofs.Ytdomincmoaahoaa Go.Proofs.Ytdomincmoaahoaa.Pu Go.Proofs.Ytdomincmoaahoaa.Rw Go.Proofs.Ytdomincmoaahoaa.Pr Go.Proofs.Ytdomincmoaahoaa.In Go.Proofs.Ytdomincmoaahoaa.Kp Go.Proofs.Ytdomincmoaahoaa.Va

abbrev oX (t : Bool) (n : Int) (s : ByteArray) : Obj := .cells #[.string ⟨#[97]⟩, .bool t, .int .i64 n, .string s] 47
theorem row_x (w : World) (m : ByteArray) (t : Bool) (n : Int) (s : ByteArray) : RowL (w.alloc (.cells #[.string m, .bool t, .int .i64 n, .string s] 47)) (.slice (some ⟨w.heap.size, 0, none⟩) 1 1) [(m, t, n, s)] :=
  Row.of_own (row_lit okA w [(m, t, n, s)] 1 rfl (by simp) _ rfl)
theorem rholds_re (c : Cn) (t : Bool) (n : Int) (s : ByteArray) (r : Bool) (hr : holdsK c.2 (t, n, s) = r) (w : World) (d : Nat) (os : Array Obj) :
    Calls Try.prog 23 #[cv (r5 c), vl t n s] (grow (redrawn w d) os) fun e w'' => e = .returned (.bool r) ∧ ∃ p : Regrown, w'' = grow (redrawn w p.d) p.os := by
  subst hr
  exact Calls.regrown_of (rholds_any _ _ _ _ _)
noncomputable def one6 : Code := afterN 6 (Try.f7.body.getD .skip)
noncomputable def one5 : Code := .seq (headN 5 (Try.f7.body.getD .skip)) (one6)
noncomputable def one3 : Code := .seq (headN 3 (Try.f7.body.getD .skip)) (.seq (headN 4 (Try.f7.body.getD .skip)) (one5))
set_option maxRecDepth 100000 in
set_option maxHeartbeats 8000000 in
theorem one_6 {G : World → Prop} (K : ROks G) (w W : World) (hg : G w) (hb : Below w.heap.size w W) (ka kb : Kd) (pv qv : Value) (hp : RowC W pv ([(nA, ka)].map r5)) (hq : RowC W qv ([(nA, kb)].map r5)) (na : NF [(nA, ka)]) (nb : NF [(nA, kb)]) (mt : meetsB [(nA, ka)] [(nA, kb)] = allV.any (fM ka kb)) (ct : coversL [(nA, ka)] [(nA, kb)] = allV.all (fC ka kb)) (v : Int) (v1 : -9223372036854775808 ≤ v) (v2 : v ≤ 9223372036854775807)
    (u0 u1 u3 u4 u5 u6 u7 u8 u13 u14 u15 u16 u17 u18 u19 u20 u21 u22 u23 u24 u25 u26 u27 u28 u29 u30 u31 u32 u33 u34 u35 u36 u37 u38 u39 u40 u41 u42 u43 u44 u45 u46 u47 u48 u49 u50 u51 u52 u53 u54 u55 u56 u57 u58 u59 u60 u61 u62 u63 u64 u65 u66 u67 u68 u69 u70 u71 u72 u73 u74 u75 u76 u77 u78 u79 u80 u81 u82 u83 u84 u85 u86 u87 u88 u89 u90 u91 u92 u93 u94 u95 u96 u97 u98 u99 u100 u101 u102 u103 u104 u105 u106 u107 u108 u109 u110 u111 u112 u113 u114 u115 u116 u117 u118 u119 u120 u121 u122 : Value) :
    Code.wp Try.prog one6 (bodyPost Try.prog Try.f7 (RQ w)) ⟨(u0 :: u1 :: .int .i64 v :: u3 :: u4 :: u5 :: u6 :: u7 :: u8 :: pv :: qv :: .bool (allV.any (fM ka kb)) :: .bool (allV.all (fC ka kb)) :: u13 :: u14 :: u15 :: u16 :: u17 :: u18 :: u19 :: u20 :: u21 :: u22 :: u23 :: u24 :: u25 :: u26 :: u27 :: u28 :: u29 :: u30 :: u31 :: u32 :: u33 :: u34 :: u35 :: u36 :: u37 :: u38 :: u39 :: u40 :: u41 :: u42 :: u43 :: u44 :: u45 :: u46 :: u47 :: u48 :: u49 :: u50 :: u51 :: u52 :: u53 :: u54 :: u55 :: u56 :: u57 :: u58 :: u59 :: u60 :: u61 :: u62 :: u63 :: u64 :: u65 :: u66 :: u67 :: u68 :: u69 :: u70 :: u71 :: u72 :: u73 :: u74 :: u75 :: u76 :: u77 :: u78 :: u79 :: u80 :: u81 :: u82 :: u83 :: u84 :: u85 :: u86 :: u87 :: u88 :: u89 :: u90 :: u91 :: u92 :: u93 :: u94 :: u95 :: u96 :: u97 :: u98 :: u99 :: u100 :: u101 :: u102 :: u103 :: u104 :: u105 :: u106 :: u107 :: u108 :: u109 :: u110 :: u111 :: u112 :: u113 :: u114 :: u115 :: u116 :: u117 :: u118 :: u119 :: u120 :: u121 :: u122 :: []).toArray, []⟩ W := by
  have KK := Lib.hid K
  have HG := Lib.hid hg
  have B0 := Lib.hid hb
  have P0 := Lib.hid hp
  have Q0 := Lib.hid hq
  have NA := Lib.hid na
  have NB := Lib.hid nb
  have MT := Lib.hid mt
  have CT := Lib.hid ct
  have V1 := Lib.hid v1
  have V2 := Lib.hid v2
  clear K hg hb hp hq na nb mt ct v1 v2
  unfold one6
  conv => arg 2; whnf
  have KV := Lib.hid (fun W => kvalue_any v W V1.out V2.out)
  have NV := Lib.hid (nl_one ⟨#[98]⟩ (!(evn v), kvN v, kvS v) (by decide) (by have := kvS_size v; show (kvS v).size ≤ 100; omega))
  have M2 := Lib.hid (match_two nA ⟨#[98]⟩ (by decide) ka (!(evn v), kvN v, kvS v))
  rw [MT.out.symm, CT.out.symm]
  obtain ⟨m, hm⟩ : ∃ m, meetsB [(nA, ka)] [(nA, kb)] = m := ⟨_, rfl⟩
  obtain ⟨c, hc⟩ : ∃ c, coversL [(nA, ka)] [(nA, kb)] = c := ⟨_, rfl⟩
  have HM := Lib.hid hm
  have HC := Lib.hid hc
  rw [hm, hc]
  generalize (!(evn v)) = vt at *
  generalize kvN v = vn at *
  generalize kvS v = vs at *
  clear hm hc MT CT
  rcases m with _ | _ <;> rcases c with _ | _
  all_goals
    go_wp2_with fail
    refine (KK.out.meets _ _ [(nA, ka)] [(nA, kb)] _ (KK.out.bel _ _ HG.out B0.out) P0.out Q0.out NA.out NB.out).mono ?_
    rintro e1 w1 ⟨rfl, hb⟩
    rw [HM.out]
    have B1 := Lib.hid (B0.out.trans (hb.mono B0.out.size))
    have P1 := Lib.hid (P0.out.on hb)
    have Q1 := Lib.hid (Q0.out.on hb)
    clear hb B0 P0 Q0
    go_wp2_with fail
    refine (KK.out.covers _ _ [(nA, ka)] [(nA, kb)] _ (KK.out.bel _ _ HG.out B1.out) P1.out Q1.out NA.out NB.out).mono ?_
    rintro e2 w2 ⟨rfl, hb⟩
    rw [HC.out]
    have B2 := Lib.hid (B1.out.trans (hb.mono B1.out.size))
    have P2 := Lib.hid (P1.out.on hb)
    have Q2 := Lib.hid (Q1.out.on hb)
    clear hb B1 P1 Q1
    go_wp2_with fail
    refine (KV.out _).mono ?_
    rintro e3 w3 ⟨rfl, hb⟩
    have B3 := Lib.hid (B2.out.trans (hb.mono B2.out.size))
    have P3 := Lib.hid (P2.out.on hb)
    have Q3 := Lib.hid (Q2.out.on hb)
    clear hb B2 P2 Q2
    have BX := Lib.hid ((Below.refl w3.heap.size w3).alloc (Nat.le_refl _) (.cells #[.string ⟨#[98]⟩, .bool vt, .int .i64 vn, .string vs] 47))
    have X := Lib.hid (row_x w3 ⟨#[98]⟩ vt vn vs)
    have BB := Lib.hid (B3.out.trans (BX.out.mono B3.out.size))
    go_wp2_with fail
    refine (KK.out.match_ _ _ [(nA, ka)] [(⟨#[98]⟩, vt, vn, vs)] _ (KK.out.bel _ _ HG.out BB.out) (P3.out.on BX.out) X.out NA.out NV.out).mono ?_
    rintro e4 w4 ⟨rfl, hb⟩
    rw [M2.out]
    have B4 := Lib.hid (BB.out.trans (hb.mono BB.out.size))
    clear hb
    go_wp2_with fail
    refine (runs_any KK.out _ (KK.out.bel _ _ HG.out B4.out)).mono ?_
    rintro e5 w5 ⟨rfl, hb⟩
    have B5 := Lib.hid (B4.out.trans (hb.mono B4.out.size))
    clear hb B4 
    go_wp2
    go_ret
    exact ⟨rfl, B5.out⟩
set_option maxRecDepth 100000 in
set_option maxHeartbeats 8000000 in
theorem one_5 {G : World → Prop} (K : ROks G) (w W : World) (hg : G w) (hb : Below w.heap.size w W) (ka kb : Kd) (pv qv : Value) (hp : RowC W pv ([(nA, ka)].map r5)) (hq : RowC W qv ([(nA, kb)].map r5)) (na : NF [(nA, ka)]) (nb : NF [(nA, kb)]) (mt : meetsB [(nA, ka)] [(nA, kb)] = allV.any (fM ka kb)) (ct : coversL [(nA, ka)] [(nA, kb)] = allV.all (fC ka kb)) (v : Int) (v1 : -9223372036854775808 ≤ v) (v2 : v ≤ 9223372036854775807)
    (u0 u1 u3 u4 u5 u6 u7 u8 u13 u14 u15 u16 u17 u18 u19 u20 u21 u22 u23 u24 u25 u26 u27 u28 u29 u30 u31 u32 u33 u34 u35 u36 u37 u38 u39 u40 u41 u42 u43 u44 u45 u46 u47 u48 u49 u50 u51 u52 u53 u54 u55 u56 u57 u58 u59 u60 u61 u62 u63 u64 u65 u66 u67 u68 u69 u70 u71 u72 u73 u74 u75 u76 u77 u78 u79 u80 u81 u82 u83 u84 u85 u86 u87 u88 u89 u90 u91 u92 u93 u94 u95 u96 u97 u98 u99 u100 u101 u102 u103 u104 u105 u106 u107 u108 u109 u110 u111 u112 u113 u114 u115 u116 u117 u118 u119 u120 u121 u122 : Value) :
    Code.wp Try.prog one5 (bodyPost Try.prog Try.f7 (RQ w)) ⟨(u0 :: u1 :: .int .i64 v :: u3 :: u4 :: u5 :: u6 :: u7 :: u8 :: pv :: qv :: .bool ((allV.take 25).any (fM ka kb)) :: .bool ((allV.take 25).all (fC ka kb)) :: u13 :: u14 :: u15 :: u16 :: u17 :: u18 :: u19 :: u20 :: u21 :: u22 :: u23 :: u24 :: u25 :: u26 :: u27 :: u28 :: u29 :: u30 :: u31 :: u32 :: u33 :: u34 :: u35 :: u36 :: u37 :: u38 :: u39 :: u40 :: u41 :: u42 :: u43 :: u44 :: u45 :: u46 :: u47 :: u48 :: u49 :: u50 :: u51 :: u52 :: u53 :: u54 :: u55 :: u56 :: u57 :: u58 :: u59 :: u60 :: u61 :: u62 :: u63 :: u64 :: u65 :: u66 :: u67 :: u68 :: u69 :: u70 :: u71 :: u72 :: u73 :: u74 :: u75 :: u76 :: u77 :: u78 :: u79 :: u80 :: u81 :: u82 :: u83 :: u84 :: u85 :: u86 :: u87 :: u88 :: u89 :: u90 :: u91 :: u92 :: u93 :: u94 :: u95 :: u96 :: u97 :: u98 :: u99 :: u100 :: u101 :: u102 :: u103 :: u104 :: u105 :: u106 :: u107 :: u108 :: u109 :: u110 :: u111 :: u112 :: u113 :: u114 :: u115 :: u116 :: u117 :: u118 :: u119 :: u120 :: u121 :: u122 :: []).toArray, []⟩ W := by
  have KK := Lib.hid K
  have HG := Lib.hid hg
  have B0 := Lib.hid hb
  have P0 := Lib.hid hp
  have Q0 := Lib.hid hq
  have NA := Lib.hid na
  have NB := Lib.hid nb
  have MT := Lib.hid mt
  have CT := Lib.hid ct
  have V1 := Lib.hid v1
  have V2 := Lib.hid v2
  clear K hg hb hp hq na nb mt ct v1 v2
  unfold one5
  conv => enter [2, 1]; whnf
  have C0 := Lib.hid (fun (k : Nat) (s : ByteArray) (h : txC[k]? = some (.string s)) => (show (W.alloc (.cells txC 9)).cell? ⟨W.heap.size, k, none⟩ = some (.string s) by rw [World.cell?_alloc_at _ _ _ _ rfl]; exact h))
  have BA := Lib.hid ((Below.refl W.heap.size W).alloc (Nat.le_refl _) (.cells txC 9))
  have P1 := Lib.hid (P0.out.on BA.out)
  have Q1 := Lib.hid (Q0.out.on BA.out)
  have B1 := Lib.hid (B0.out.trans (BA.out.mono B0.out.size))
  have hlt : W.heap.size < (W.alloc (.cells txC 9)).heap.size := by simp
  have eC : W.alloc (.cells txC 9) = W.alloc (.cells #[.string ⟨#[]⟩, .string ⟨#[120]⟩, .string ⟨#[120, 121]⟩, .string ⟨#[120, 121, 122]⟩, .string ⟨#[120, 122]⟩, .string ⟨#[121]⟩, .string ⟨#[121, 121]⟩, .string ⟨#[121, 121, 121]⟩, .string ⟨#[120, 121, 122, 122]⟩, .string ⟨#[120, 120]⟩, .string ⟨#[121, 120]⟩, .string ⟨#[122]⟩, .string ⟨#[120, 122, 113]⟩] 9) := rfl
  rw [eC] at C0 hlt P1 Q1 B1
  clear B0 P0 Q0 BA eC
  go_wp2
  generalize W.alloc (.cells #[.string ⟨#[]⟩, .string ⟨#[120]⟩, .string ⟨#[120, 121]⟩, .string ⟨#[120, 121, 122]⟩, .string ⟨#[120, 122]⟩, .string ⟨#[121]⟩, .string ⟨#[121, 121]⟩, .string ⟨#[121, 121, 121]⟩, .string ⟨#[120, 121, 122, 122]⟩, .string ⟨#[120, 120]⟩, .string ⟨#[121, 120]⟩, .string ⟨#[122]⟩, .string ⟨#[120, 122, 113]⟩] 9) = W1 at *
  generalize W.heap.size = sb at *
  go_loopw [11, 12, 69] (fun m c i wr => ∃ k : Nat, k ≤ 13 ∧ i = .int .i64 k ∧ m = .bool ((allV.take (25 + k)).any (fM ka kb)) ∧ c = .bool ((allV.take (25 + k)).all (fC ka kb)) ∧ Below W1.heap.size W1 wr) (fun _ _ i _ => 13 - (intOf i).toNat)
  case atStart => exact ⟨0, Nat.zero_le _, rfl, rfl, rfl, Below.refl _ _⟩
  case round =>
    obtain ⟨k, hk, rfl, rfl, rfl, hbr⟩ := hrel
    have BR := Lib.hid hbr
    have HLT := Lib.hid hlt
    have B2 := Lib.hid (B1.out.trans (hbr.mono B1.out.size))
    have P2 := Lib.hid (P1.out.on hbr)
    have Q2 := Lib.hid (Q1.out.on hbr)
    clear hbr hlt
    by_cases hlt13 : k < 13
    · obtain ⟨s, c1, c2, c3⟩ := txt_at k hlt13
      have n0 := (BR.out.cell (p := ⟨sb, k, none⟩) HLT.out).trans (C0.out k s c1)
      have NX := Lib.hid (nl_one nA (true, 0, s) (by decide) c3)
      have MO := Lib.hid (take_any (fM ka kb) allV (25 + k) _ c2)
      have CO := Lib.hid (take_all (fC ka kb) allV (25 + k) _ c2)
      have RX := Lib.hid (row_x wr ⟨#[97]⟩ true 0 s)
      have BX := Lib.hid ((Below.refl wr.heap.size wr).alloc (Nat.le_refl _) (.cells #[.string ⟨#[97]⟩, .bool true, .int .i64 0, .string s] 47))
      obtain ⟨m, hm⟩ : ∃ m, holdsK ka (true, 0, s) = m := ⟨_, rfl⟩
      obtain ⟨o, ho⟩ : ∃ o, holdsK kb (true, 0, s) = o := ⟨_, rfl⟩
      have F1 := Lib.hid (show fM ka kb (true, 0, s) = (m && o) by unfold fM; rw [hm, ho])
      have F2 := Lib.hid (show fC ka kb (true, 0, s) = (m || !o) by unfold fC; rw [hm, ho])
      have HM := Lib.hid ((match_one nA ka (true, 0, s)).trans hm)
      have HO := Lib.hid ((match_one nA kb (true, 0, s)).trans ho)
      have B3 := Lib.hid (B2.out.trans (BX.out.mono B2.out.size))
      have P3 := Lib.hid (P2.out.on BX.out)
      have Q3 := Lib.hid (Q2.out.on BX.out)
      have BQ := Lib.hid (BR.out.trans (BX.out.mono BR.out.size))
      generalize (allV.take (25 + k)).any (fM ka kb) = me at *
      generalize (allV.take (25 + k)).all (fC ka kb) = co at *
      clear c1 c2 c3 hm ho BX BR B2 P2 Q2
      have X3 := RX
      clear RX
      go_wp2_with fail
      refine (KK.out.match_ _ _ [(nA, ka)] [(nA, true, 0, s)] _ (KK.out.bel _ _ HG.out B3.out) P3.out X3.out NA.out NX.out).mono ?_
      rintro e4 w4 ⟨rfl, hb⟩
      rw [HM.out]
      have BZ3 := Lib.hid (BQ.out.trans (hb.mono BQ.out.size))
      clear BQ
      have BQ := BZ3
      clear BZ3
      have B4 := Lib.hid (B3.out.trans (hb.mono B3.out.size))
      have P4 := Lib.hid (P3.out.on hb)
      have Q4 := Lib.hid (Q3.out.on hb)
      have X4 := Lib.hid (X3.out.on hb)
      clear hb B3 P3 Q3 X3
      go_wp2_with fail
      refine (KK.out.match_ _ _ [(nA, kb)] [(nA, true, 0, s)] _ (KK.out.bel _ _ HG.out B4.out) Q4.out X4.out NB.out NX.out).mono ?_
      rintro e5 w5 ⟨rfl, hb⟩
      rw [HO.out]
      have BZ4 := Lib.hid (BQ.out.trans (hb.mono BQ.out.size))
      clear BQ
      have BQ := BZ4
      clear BZ4
      have B5 := Lib.hid (B4.out.trans (hb.mono B4.out.size))
      have P5 := Lib.hid (P4.out.on hb)
      have Q5 := Lib.hid (Q4.out.on hb)
      have X5 := Lib.hid (X4.out.on hb)
      clear hb B4 P4 Q4 X4
      rcases me with _ | _ <;> rcases co with _ | _ <;> rcases m with _ | _ <;> rcases o with _ | _
      all_goals
        go_wp2
        go_roundw
        case rel => exact ⟨k + 1, by omega, by go_num, by rw [show 25 + (k + 1) = 25 + k + 1 by omega, MO.out, F1.out]; rfl, by rw [show 25 + (k + 1) = 25 + k + 1 by omega, CO.out, F2.out]; rfl, BQ.out⟩
        case measure => simp [intOf]; omega
    · obtain rfl : k = 13 := by omega
      rw [show 25 + 13 = 38 from rfl, all_take]
      go_wp2
      exact one_6 KK.out w _ HG.out B2.out ka kb _ _ P2.out Q2.out NA.out NB.out MT.out CT.out v V1.out V2.out _ _ _ _ _ _ _ _ _ _ _ _ _ _ _ _ _ _ _ _ _ _ _ _ _ _ _ _ _ _ _ _ _ _ _ _ _ _ _ _ _ _ _ _ _ _ _ _ _ _ _ _ _ _ _ _ _ _ _ _ _ _ _ _ _ _ _ _ _ _ _ _ _ _ _ _ _ _ _ _ _ _ _ _ _ _ _ _ _ _ _ _ _ _ _ _ _ _ _ _ _ _ _ _ _ _ _ _ _ _ _ _ _ _ _ _ _ _
set_option maxRecDepth 100000 in
set_option maxHeartbeats 8000000 in
theorem one_3 {G : World → Prop} (K : ROks G) (w W : World) (hg : G w) (hb : Below w.heap.size w W) (ka kb : Kd) (pv qv : Value) (hp : RowC W pv ([(nA, ka)].map r5)) (hq : RowC W qv ([(nA, kb)].map r5)) (na : NF [(nA, ka)]) (nb : NF [(nA, kb)]) (mt : meetsB [(nA, ka)] [(nA, kb)] = allV.any (fM ka kb)) (ct : coversL [(nA, ka)] [(nA, kb)] = allV.all (fC ka kb)) (v : Int) (v1 : -9223372036854775808 ≤ v) (v2 : v ≤ 9223372036854775807) (ba : Nat) (ha : Box W ba (cells5 (r5 (nA, ka))).toArray 23)
    (u0 u1 u3 u4 u5 u6 u8 u11 u12 u13 u14 u15 u16 u17 u18 u19 u20 u21 u22 u23 u24 u25 u26 u27 u28 u29 u30 u31 u32 u33 u34 u35 u36 u37 u38 u39 u40 u41 u42 u43 u44 u45 u46 u47 u48 u49 u50 u51 u52 u53 u54 u55 u56 u57 u58 u59 u60 u61 u62 u63 u64 u65 u66 u67 u68 u69 u70 u71 u72 u73 u74 u75 u76 u77 u78 u79 u80 u81 u82 u83 u84 u85 u86 u87 u88 u89 u90 u91 u92 u93 u94 u95 u96 u97 u98 u99 u100 u101 u102 u103 u104 u105 u106 u107 u108 u109 u110 u111 u112 u113 u114 u115 u116 u117 u118 u119 u120 u121 u122 : Value) :
    Code.wp Try.prog one3 (bodyPost Try.prog Try.f7 (RQ w)) ⟨(u0 :: u1 :: .int .i64 v :: u3 :: u4 :: u5 :: u6 :: .pointer (some ⟨ba, 0, none⟩) :: u8 :: pv :: qv :: u11 :: u12 :: u13 :: u14 :: u15 :: u16 :: u17 :: u18 :: u19 :: u20 :: u21 :: u22 :: u23 :: u24 :: u25 :: u26 :: u27 :: u28 :: u29 :: u30 :: u31 :: u32 :: u33 :: u34 :: u35 :: u36 :: u37 :: u38 :: u39 :: u40 :: u41 :: u42 :: u43 :: u44 :: u45 :: u46 :: u47 :: u48 :: u49 :: u50 :: u51 :: u52 :: u53 :: u54 :: u55 :: u56 :: u57 :: u58 :: u59 :: u60 :: u61 :: u62 :: u63 :: u64 :: u65 :: u66 :: u67 :: u68 :: u69 :: u70 :: u71 :: u72 :: u73 :: u74 :: u75 :: u76 :: u77 :: u78 :: u79 :: u80 :: u81 :: u82 :: u83 :: u84 :: u85 :: u86 :: u87 :: u88 :: u89 :: u90 :: u91 :: u92 :: u93 :: u94 :: u95 :: u96 :: u97 :: u98 :: u99 :: u100 :: u101 :: u102 :: u103 :: u104 :: u105 :: u106 :: u107 :: u108 :: u109 :: u110 :: u111 :: u112 :: u113 :: u114 :: u115 :: u116 :: u117 :: u118 :: u119 :: u120 :: u121 :: u122 :: []).toArray, []⟩ W := by
  have KK := Lib.hid K
  have HG := Lib.hid hg
  have B0 := Lib.hid hb
  have P0 := Lib.hid hp
  have Q0 := Lib.hid hq
  have NA := Lib.hid na
  have NB := Lib.hid nb
  have MT := Lib.hid mt
  have CT := Lib.hid ct
  have V1 := Lib.hid v1
  have V2 := Lib.hid v2
  clear K hg hb hp hq na nb mt ct v1 v2
  have A0 := Lib.hid ha
  clear ha
  unfold one3
  conv => enter [2, 1]; whnf
  conv => enter [2, 2, 1]; whnf
  go_wp2
  go_loopw [11, 12, 13] (fun m c i wr => ∃ (k : Nat) (n : Int), k ≤ 25 ∧ n = (k : Int) - 2 ∧ i = .int .i64 n ∧ m = .bool ((allV.take k).any (fM ka kb)) ∧ c = .bool ((allV.take k).all (fC ka kb)) ∧ Below W.heap.size W wr) (fun _ _ i _ => (23 - intOf i).toNat)
  case atStart => exact ⟨0, -2, Nat.zero_le _, rfl, rfl, rfl, rfl, Below.refl _ _⟩
  case round =>
    obtain ⟨k, n, hk, hn, rfl, rfl, rfl, hbr⟩ := hrel
    have BR := Lib.hid hbr
    have B2 := Lib.hid (B0.out.trans (hbr.mono B0.out.size))
    have P2 := Lib.hid (P0.out.on hbr)
    have Q2 := Lib.hid (Q0.out.on hbr)
    have A2 := Lib.hid (A0.out.on hbr)
    have b1 : -2 ≤ n := by omega
    have b2 : n ≤ 23 := by omega
    have HN := Lib.hid hn
    clear hbr
    by_cases hlt25 : k < 25
    · have b3 : n ≤ 22 := by omega
      have d1 : decide (n ≤ 22) = true := by simp; omega
      have c2 := num_at k hlt25
      rw [← hn] at c2
      have NX := Lib.hid (nl_one nA (false, n, ⟨#[]⟩) (by decide) (by show (0 : Nat) ≤ 100; omega))
      have MO := Lib.hid (take_any (fM ka kb) allV k _ c2)
      have CO := Lib.hid (take_all (fC ka kb) allV k _ c2)
      have RX := Lib.hid (row_x wr ⟨#[97]⟩ false n ⟨#[]⟩)
      have BX := Lib.hid ((Below.refl wr.heap.size wr).alloc (Nat.le_refl _) (.cells #[.string ⟨#[97]⟩, .bool false, .int .i64 n, .string ⟨#[]⟩] 47))
      have CX := Lib.hid (show Box (wr.alloc (.cells #[.string ⟨#[97]⟩, .bool false, .int .i64 n, .string ⟨#[]⟩] 47)) wr.heap.size #[.string ⟨#[97]⟩, .bool false, .int .i64 n, .string ⟨#[]⟩] 47 from box_new wr _ _)
      obtain ⟨m, hm⟩ : ∃ m, holdsK ka (false, n, ⟨#[]⟩) = m := ⟨_, rfl⟩
      obtain ⟨o, ho⟩ : ∃ o, holdsK kb (false, n, ⟨#[]⟩) = o := ⟨_, rfl⟩
      have F1 := Lib.hid (show fM ka kb (false, n, ⟨#[]⟩) = (m && o) by unfold fM; rw [hm, ho])
      have F2 := Lib.hid (show fC ka kb (false, n, ⟨#[]⟩) = (m || !o) by unfold fC; rw [hm, ho])
      have HM := Lib.hid ((match_one nA ka (false, n, ⟨#[]⟩)).trans hm)
      have HO := Lib.hid ((match_one nA kb (false, n, ⟨#[]⟩)).trans ho)
      have HH := Lib.hid (fun w d os => rholds_re (nA, ka) false n ⟨#[]⟩ m hm w d os)
      simp only [r5] at HH
      have B3 := Lib.hid (B2.out.trans (BX.out.mono B2.out.size))
      have P3 := Lib.hid (P2.out.on BX.out)
      have Q3 := Lib.hid (Q2.out.on BX.out)
      have A3 := Lib.hid (A2.out.on BX.out)
      have BQ := Lib.hid (BR.out.trans (BX.out.mono BR.out.size))
      generalize (allV.take k).any (fM ka kb) = me at *
      generalize (allV.take k).all (fC ka kb) = co at *
      clear c2 hm ho BX BR B2 P2 Q2 A2 hn
      have X3 := RX
      clear RX
      have C3 := CX
      clear CX
      go_wp2_with fail
      refine (KK.out.match_ _ _ [(nA, ka)] [(nA, false, n, ⟨#[]⟩)] _ (KK.out.bel _ _ HG.out B3.out) P3.out X3.out NA.out NX.out).mono ?_
      rintro e4 w4 ⟨rfl, hb⟩
      rw [HM.out]
      have BZ3 := Lib.hid (BQ.out.trans (hb.mono BQ.out.size))
      clear BQ
      have BQ := BZ3
      clear BZ3
      have B4 := Lib.hid (B3.out.trans (hb.mono B3.out.size))
      have P4 := Lib.hid (P3.out.on hb)
      have Q4 := Lib.hid (Q3.out.on hb)
      have X4 := Lib.hid (X3.out.on hb)
      have A4 := Lib.hid (A3.out.on hb)
      have C4 := Lib.hid (C3.out.on hb)
      clear hb B3 P3 Q3 X3 A3 C3
      go_wp2_with fail
      refine (KK.out.match_ _ _ [(nA, kb)] [(nA, false, n, ⟨#[]⟩)] _ (KK.out.bel _ _ HG.out B4.out) Q4.out X4.out NB.out NX.out).mono ?_
      rintro e5 w5 ⟨rfl, hb⟩
      rw [HO.out]
      have BZ4 := Lib.hid (BQ.out.trans (hb.mono BQ.out.size))
      clear BQ
      have BQ := BZ4
      clear BZ4
      have B5 := Lib.hid (B4.out.trans (hb.mono B4.out.size))
      have P5 := Lib.hid (P4.out.on hb)
      have Q5 := Lib.hid (Q4.out.on hb)
      have X5 := Lib.hid (X4.out.on hb)
      have A5 := Lib.hid (A4.out.on hb)
      have C5 := Lib.hid (C4.out.on hb)
      clear hb B4 P4 Q4 X4 A4 C4
      have f0 := A5.out.cell 0
      have f1 := A5.out.cell 1
      have f2 := A5.out.cell 2
      have f3 := A5.out.cell 3
      have f4 := A5.out.cell 4
      have y1 := C5.out.cell 1
      have y2 := C5.out.cell 2
      have y3 := C5.out.cell 3
      simp [cells5, r5] at f0 f1 f2 f3 f4
      simp at y1 y2 y3
      have f0 := cell_regrown f0
      have f1 := cell_regrown f1
      have f2 := cell_regrown f2
      have f3 := cell_regrown f3
      have f4 := cell_regrown f4
      have y1 := cell_regrown y1
      have y2 := cell_regrown y2
      have y3 := cell_regrown y3
      rcases me with _ | _ <;> rcases co with _ | _ <;> rcases m with _ | _ <;> rcases o with _ | _
      all_goals
        go_wp2
        refine wp_region_quiet_below (by kernel_rfl) (by kernel_rfl) ?_
        repeat (go_big_quiet_step (with_reducible exact HH.out _ _ _))
        refine wpQuiet_nil ?_
        intro _ hw'
        obtain ⟨⟨dq, osq⟩, hw''⟩ := hw'
        subst hw''
        have BZ := Lib.hid (BQ.out.trans ((below_regrown w5 dq osq).mono BQ.out.size))
        clear f0 f1 f2 f3 f4 y1 y2 y3
        go_wp2
        go_roundw
        case rel => exact ⟨k + 1, n + 1, by omega, by have := HN.out; omega, rfl, by rw [MO.out, F1.out]; rfl, by rw [CO.out, F2.out]; rfl, BZ.out⟩
        case measure => simp [intOf]; omega
    · obtain rfl : k = 25 := by omega
      have d1 : decide (n ≤ 22) = false := by simp; omega
      clear hn
      go_wp2
      exact one_5 KK.out w _ HG.out B2.out ka kb _ _ P2.out Q2.out NA.out NB.out MT.out CT.out v V1.out V2.out _ _ _ _ _ _ _ _ _ _ _ _ _ _ _ _ _ _ _ _ _ _ _ _ _ _ _ _ _ _ _ _ _ _ _ _ _ _ _ _ _ _ _ _ _ _ _ _ _ _ _ _ _ _ _ _ _ _ _ _ _ _ _ _ _ _ _ _ _ _ _ _ _ _ _ _ _ _ _ _ _ _ _ _ _ _ _ _ _ _ _ _ _ _ _ _ _ _ _ _ _ _ _ _ _ _ _ _ _ _ _ _ _ _ _ _ _ _
/-- Two literals of one, one behind the other. -/
theorem two_x (U : World) (n : Nat) (hn : U.heap.size = n) (c d : C5) : RowC ((U.alloc (.cells #[.string c.1, .int .i64 c.2.1, .int .i64 c.2.2.1, .int .i64 c.2.2.2.1, .string c.2.2.2.2] 23)).alloc (.cells #[.string d.1, .int .i64 d.2.1, .int .i64 d.2.2.1, .int .i64 d.2.2.2.1, .string d.2.2.2.2] 23)).drew (.slice (some ⟨n, 0, none⟩) 1 1) [c] ∧
    RowC ((U.alloc (.cells #[.string c.1, .int .i64 c.2.1, .int .i64 c.2.2.1, .int .i64 c.2.2.2.1, .string c.2.2.2.2] 23)).alloc (.cells #[.string d.1, .int .i64 d.2.1, .int .i64 d.2.2.1, .int .i64 d.2.2.2.1, .string d.2.2.2.2] 23)).drew (.slice (some ⟨n + 1, 0, none⟩) 1 1) [d] := by
  subst hn
  refine ⟨((row_one U c).on ((Below.refl _ _).alloc (Nat.le_refl _) _)).on (Below.refl _ _).drew, ?_⟩
  have h := (row_one (U.alloc (.cells #[.string c.1, .int .i64 c.2.1, .int .i64 c.2.2.1, .int .i64 c.2.2.2.1, .string c.2.2.2.2] 23)) d).on (Below.refl _ _).drew
  rwa [show (U.alloc (.cells #[.string c.1, .int .i64 c.2.1, .int .i64 c.2.2.1, .int .i64 c.2.2.2.1, .string c.2.2.2.2] 23)).heap.size = U.heap.size + 1 by simp] at h
theorem four_below {w U : World} (h : Below w.heap.size w U) (p q r s : Obj) : Below w.heap.size w ((((U.alloc p).alloc q).alloc r).alloc s).drew :=
  ((((h.alloc h.size _).alloc (h.alloc h.size _).size _).alloc ((h.alloc h.size _).alloc (h.alloc h.size _).size _).size _).alloc (((h.alloc h.size _).alloc (h.alloc h.size _).size _).alloc ((h.alloc h.size _).alloc (h.alloc h.size _).size _).size _).size _).drew
theorem four_box (U : World) (c : C5) (q r s : Obj) : Box ((((U.alloc (.cells (cells5 c).toArray 23)).alloc q).alloc r).alloc s).drew U.heap.size (cells5 c).toArray 23 := (((box_new U _ _).more q).more r).more s
theorem call_cons (a b : Value) (w : World) : (callFunc 22 #[a, b]).run Try.prog w = .ok (.enter 22 #[a, b]) w := call_fn Try.func22 (by kernel_rfl) rfl _ _
set_option maxRecDepth 100000 in
set_option maxHeartbeats 8000000 in
theorem one_any_law {G : World → Prop} (K : ROks G) (i j v : Int) (w : World) (hg : G w) (i1 : -9223372036854775808 ≤ i) (i2 : i ≤ 9223372036854775807) (j1 : -9223372036854775808 ≤ j) (j2 : j ≤ 9223372036854775807) (v1 : -9223372036854775808 ≤ v) (v2 : v ≤ 9223372036854775807) :
    Calls Try.prog 7 #[.int .i64 i, .int .i64 j, .int .i64 v] w (RQ w) := by
  have HG := Lib.hid hg
  have C1 := Lib.hid (fun W => constraint_any ⟨#[97]⟩ i W i1 i2)
  have C2 := Lib.hid (fun W => constraint_any ⟨#[97]⟩ j W j1 j2)
  have NA := Lib.hid (nf_kd nA (by decide) (by decide) i)
  have NB := Lib.hid (nf_kd nA (by decide) (by decide) j)
  have MT := Lib.hid (tried_meets nA i j)
  have CT := Lib.hid (tried_covers nA i j)
  clear hg i1 i2 j1 j2
  generalize kdOf i = ka at *
  generalize kdOf j = kb at *
  simp only [r5] at C1 C2
  go_enter Try.func7, Try.ntmps7
  go_wp2_with fail
  refine (C1.out _).mono ?_
  rintro e1 w1 ⟨rfl, hb1⟩
  have B1 := Lib.hid hb1
  clear hb1
  go_wp2_with fail
  refine (C2.out _).mono ?_
  rintro e2 w2 ⟨rfl, hb2⟩
  have B2 := Lib.hid (B1.out.trans (hb2.mono B1.out.size))
  clear hb2 C1 C2
  go_wp2
  go_region
  all_goals simp only [Exit.then]
  all_goals apply_assumption
  all_goals first
    | exact one_3 K w _ HG.out (four_below B2.out _ _ _ _) ka kb _ _ (two_x _ _ (by simp) _ _).1 (two_x _ _ (by simp) _ _).2 NA.out NB.out MT.out CT.out v v1 v2 _ (four_box _ _ _ _ _) _ _ _ _ _ _ _ _ _ _ _ _ _ _ _ _ _ _ _ _ _ _ _ _ _ _ _ _ _ _ _ _ _ _ _ _ _ _ _ _ _ _ _ _ _ _ _ _ _ _ _ _ _ _ _ _ _ _ _ _ _ _ _ _ _ _ _ _ _ _ _ _ _ _ _ _ _ _ _ _ _ _ _ _ _ _ _ _ _ _ _ _ _ _ _ _ _ _ _ _ _ _ _ _ _ _ _ _ _ _ _ _ _ _ _ _ _ _ _
    | exact one_3 K w _ HG.out (four_below B2.out _ _ _ _) ka kb _ _ (two_x _ _ (by simp) _ _).2 (two_x _ _ (by simp) _ _).1 NA.out NB.out MT.out CT.out v v1 v2 _ (four_box _ _ _ _ _) _ _ _ _ _ _ _ _ _ _ _ _ _ _ _ _ _ _ _ _ _ _ _ _ _ _ _ _ _ _ _ _ _ _ _ _ _ _ _ _ _ _ _ _ _ _ _ _ _ _ _ _ _ _ _ _ _ _ _ _ _ _ _ _ _ _ _ _ _ _ _ _ _ _ _ _ _ _ _ _ _ _ _ _ _ _ _ _ _ _ _ _ _ _ _ _ _ _ _ _ _ _ _ _ _ _ _ _ _ _ _ _ _ _ _ _ _ _ _
end Go.Proofs.Ytdomincmoaahoaa.Rl
