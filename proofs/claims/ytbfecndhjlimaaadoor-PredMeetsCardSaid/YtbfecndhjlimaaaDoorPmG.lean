/-
  The law PredMeets: the whole. Condition: the contracts of package pred.
-/
import Derived.Test.YtbfecndhjlimaaaDoorPmF
namespace Go.Proofs.YtbfecndhjlimaaaDoor.Pr
open Go.RowKit Go.Sort Go.Proofs.YtbfecndhjlimaaaDoor Go.Proofs.YtbfecndhjlimaaaDoor.Pu Go.Proofs.YtbfecndhjlimaaaDoor.Rw Go.Proofs.YtbfecndhjlimaaaDoor.Va Go.Proofs.YtbfecndhjlimaaaDoor.Kp Go.Proofs.YtbfecndhjlimaaaDoor.In

set_option maxRecDepth 100000 in
set_option maxHeartbeats 4000000 in
theorem meet_5 {G : World → Prop} (K : POks G) (w W : World) (hg : G w) (hb : Below w.heap.size w W) (v : Int) (h1 : -9223372036854775808 ≤ v) (h2 : v ≤ 9223372036854775807) (lo : Option Addr) (lc n : Nat) (l own : List Cn) (hn : n = l.length) (h4 : n ≤ 4) (hl : RowC W (.slice lo n lc) (l.map r5)) (tv : Value) (ht : RowC W tv (own.map r5)) (hp : own.Perm l) (hnm : ∀ c ∈ l, c.1 = nM) (hgd : ∀ c ∈ l, goodC c = true) (hsm : ∀ c ∈ l, smallC c) (u0 u2 u3 u4 u5 u6 u8 u10 u11 u12 u13 u14 u15 u16 u17 u18 u19 u20 u21 u22 u23 u24 u25 u26 u27 u28 u29 u30 u31 u32 u33 u34 u35 u36 u37 u38 u39 u40 u41 u42 u43 u44 u45 u46 u47 u48 u49 u50 u51 u52 u53 u54 u55 u56 u57 u58 u59 u60 u61 u62 u63 u64 u65 u66 u67 u68 u69 u70 u71 u72 u73 u74 u75 u76 u77 u78 u79 u80 u81 u82 u83 u84 u85 u86 u87 u88 u89 u90 u91 u92 u93 u94 u95 u96 u97 u98 u99 u100 u101 u102 u103 u104 u105 u106 u107 u108 u109 u110 u111 u112 u113 u114 u115 u116 u117 u118 u119 u120 u121 u122 u123 u124 u125 u126 u127 u128 u129 u130 u131 u132 u133 u134 u135 u136 u137 u138 u139 u140 u141 u142 u143 u144 u145 u146 u147 u148 u149 u150 u151 u152 u153 u154 : Value) :
    Code.wp Tryd.prog meet5 (bodyPost Tryd.prog Tryd.f7 (PFQ w)) ⟨(u0 :: .int .i64 v :: u2 :: u3 :: u4 :: u5 :: u6 :: .slice lo n lc :: u8 :: tv :: u10 :: u11 :: u12 :: u13 :: u14 :: u15 :: u16 :: u17 :: u18 :: u19 :: u20 :: u21 :: u22 :: u23 :: u24 :: u25 :: u26 :: u27 :: u28 :: u29 :: u30 :: u31 :: u32 :: u33 :: u34 :: u35 :: u36 :: u37 :: u38 :: u39 :: u40 :: u41 :: u42 :: u43 :: u44 :: u45 :: u46 :: u47 :: u48 :: u49 :: u50 :: u51 :: u52 :: u53 :: u54 :: u55 :: u56 :: u57 :: u58 :: u59 :: u60 :: u61 :: u62 :: u63 :: u64 :: u65 :: u66 :: u67 :: u68 :: u69 :: u70 :: u71 :: u72 :: u73 :: u74 :: u75 :: u76 :: u77 :: u78 :: u79 :: u80 :: u81 :: u82 :: u83 :: u84 :: u85 :: u86 :: u87 :: u88 :: u89 :: u90 :: u91 :: u92 :: u93 :: u94 :: u95 :: u96 :: u97 :: u98 :: u99 :: u100 :: u101 :: u102 :: u103 :: u104 :: u105 :: u106 :: u107 :: u108 :: u109 :: u110 :: u111 :: u112 :: u113 :: u114 :: u115 :: u116 :: u117 :: u118 :: u119 :: u120 :: u121 :: u122 :: u123 :: u124 :: u125 :: u126 :: u127 :: u128 :: u129 :: u130 :: u131 :: u132 :: u133 :: u134 :: u135 :: u136 :: u137 :: u138 :: u139 :: u140 :: u141 :: u142 :: u143 :: u144 :: u145 :: u146 :: u147 :: u148 :: u149 :: u150 :: u151 :: u152 :: u153 :: u154 :: []).toArray, []⟩ W := by
  have HG := Lib.hid hg
  have B0 := Lib.hid hb
  have HL := Lib.hid hl
  have HT := Lib.hid ht
  have gk : ∀ c ∈ l, goodK c.2 = true := fun c hc => by
    have := hgd c hc
    simp only [goodC, Bool.and_eq_true] at this
    exact this.2
  have S1 : SmallP l := ⟨by omega, hsm⟩
  have HN := Lib.hid hn
  have H4 := Lib.hid h4
  have H1 := Lib.hid h1
  have H2 := Lib.hid h2
  have S2 : SmallP own := ⟨by rw [hp.length_eq]; omega, fun c hc => hsm c (hp.mem_iff.1 hc)⟩
  have G2 : ∀ c ∈ own, goodC c = true := fun c hc => hgd c (hp.mem_iff.1 hc)
  rcases make_pair l own hp hnm gk with ⟨e1, e2⟩ | ⟨h0, c, e1, e2, hall⟩ | ⟨h0, i, j, e1, e2, hall⟩
  · have M1 := Lib.hid (make_ok K (.slice lo n lc) l [] W (by rw [e1]; rfl) (K.bel _ _ hg hb) hl S1 hgd)
    have M2 := Lib.hid (fun W2 (hb2 : Below W.heap.size W W2) => make_ok K tv own [] W2 (by rw [e2]; rfl) (K.bel _ _ hg (hb.trans (hb2.mono hb.size))) (ht.on hb2) S2 G2)
    have L0 := Lib.hid (show l.length = 0 by rw [e1]; rfl)
    clear hg hb hl ht S1 S2 G2 gk hgd hsm hnm hp e1 e2 hn h4 h1 h2
    unfold meet5
    conv => enter [2, 1]; whnf
    conv => enter [2, 2, 1]; whnf
    go_wp2_with fail
    refine M1.out.mono ?_
    rintro e1 w1 ⟨pv, rfl, hp1, hb1⟩
    have B1 := Lib.hid (B0.out.trans (hb1.mono B0.out.size))
    have P1 := Lib.hid hp1
    have L1 := Lib.hid (HL.out.on hb1)
    have M3 := Lib.hid (M2.out w1 hb1)
    clear hb1 hp1 M1 M2
    go_wp2_with fail
    refine M3.out.mono ?_
    rintro e2 w2 ⟨qv, rfl, hq2, hb2⟩
    have B2 := Lib.hid (B1.out.trans (hb2.mono B1.out.size))
    have P2 := Lib.hid (P1.out.on hb2)
    have Q2 := Lib.hid hq2
    have L2 := Lib.hid (L1.out.on hb2)
    clear hb2 hq2 M3 P1 L1 B1
    go_wp2_with fail
    exact meet_7ok K w w2 HG.out B2.out v H1.out H2.out lo lc n l HN.out H4.out L2.out pv qv [] (by simp) P2.out Q2.out (Or.inl L0.out) _ _ _ _ _ _ _ _ _ _ _ _ _ _ _ _ _ _ _ _ _ _ _ _ _ _ _ _ _ _ _ _ _ _ _ _ _ _ _ _ _ _ _ _ _ _ _ _ _ _ _ _ _ _ _ _ _ _ _ _ _ _ _ _ _ _ _ _ _ _ _ _ _ _ _ _ _ _ _ _ _ _ _ _ _ _ _ _ _ _ _ _ _ _ _ _ _ _ _ _ _ _ _ _ _ _ _ _ _ _ _ _ _ _ _ _ _ _ _ _ _ _ _ _ _ _ _ _ _ _ _ _ _ _ _ _ _ _ _ _ _ _ _ _ _ _ _ _ _ 
  · have M1 := Lib.hid (make_ok K (.slice lo n lc) l [(nM, c)] W e1 (K.bel _ _ hg hb) hl S1 hgd)
    have M2 := Lib.hid (fun W2 (hb2 : Below W.heap.size W W2) => make_ok K tv own [(nM, c)] W2 e2 (K.bel _ _ hg (hb.trans (hb2.mono hb.size))) (ht.on hb2) S2 G2)
    have HA := Lib.hid hall
    clear hg hb hl ht S1 S2 G2 gk hgd hsm hnm hp e1 e2 hn h4 h1 h2 hall
    unfold meet5
    conv => enter [2, 1]; whnf
    conv => enter [2, 2, 1]; whnf
    go_wp2_with fail
    refine M1.out.mono ?_
    rintro e1 w1 ⟨pv, rfl, hp1, hb1⟩
    have B1 := Lib.hid (B0.out.trans (hb1.mono B0.out.size))
    have P1 := Lib.hid hp1
    have L1 := Lib.hid (HL.out.on hb1)
    have M3 := Lib.hid (M2.out w1 hb1)
    clear hb1 hp1 M1 M2
    go_wp2_with fail
    refine M3.out.mono ?_
    rintro e2 w2 ⟨qv, rfl, hq2, hb2⟩
    have B2 := Lib.hid (B1.out.trans (hb2.mono B1.out.size))
    have P2 := Lib.hid (P1.out.on hb2)
    have Q2 := Lib.hid hq2
    have L2 := Lib.hid (L1.out.on hb2)
    clear hb2 hq2 M3 P1 L1 B1
    go_wp2_with fail
    exact meet_7ok K w w2 HG.out B2.out v H1.out H2.out lo lc n l HN.out H4.out L2.out pv qv [r5 (nM, c)] (by simp) P2.out Q2.out (Or.inr (Or.inl ⟨h0, c, P2.out, HA.out⟩)) _ _ _ _ _ _ _ _ _ _ _ _ _ _ _ _ _ _ _ _ _ _ _ _ _ _ _ _ _ _ _ _ _ _ _ _ _ _ _ _ _ _ _ _ _ _ _ _ _ _ _ _ _ _ _ _ _ _ _ _ _ _ _ _ _ _ _ _ _ _ _ _ _ _ _ _ _ _ _ _ _ _ _ _ _ _ _ _ _ _ _ _ _ _ _ _ _ _ _ _ _ _ _ _ _ _ _ _ _ _ _ _ _ _ _ _ _ _ _ _ _ _ _ _ _ _ _ _ _ _ _ _ _ _ _ _ _ _ _ _ _ _ _ _ _ _ _ _ _ 
  · have M1 := Lib.hid (makeM_err K (.slice lo n lc) l 5 i W e1 (K.bel _ _ hg hb) hl S1 hgd)
    have M2 := Lib.hid (fun W2 (hb2 : Below W.heap.size W W2) => makeM_err K tv own 5 j W2 e2 (K.bel _ _ hg (hb.trans (hb2.mono hb.size))) (ht.on hb2) S2 G2)
    have HA := Lib.hid hall
    clear hg hb hl ht S1 S2 G2 gk hgd hsm hnm hp e1 e2 hn h4 h1 h2 hall
    unfold meet5
    conv => enter [2, 1]; whnf
    conv => enter [2, 2, 1]; whnf
    go_wp2_with fail
    refine M1.out.mono ?_
    rintro e1 w1 ⟨b, ev, rfl, hc, hb1⟩
    have B1 := Lib.hid (B0.out.trans (hb1.mono B0.out.size))
    have C1 := Lib.hid hc
    have L1 := Lib.hid (HL.out.on hb1)
    obtain ⟨rfl, _⟩ := hc
    have M3 := Lib.hid (M2.out w1 hb1)
    clear hb1 M1 M2
    go_wp2_with fail
    refine M3.out.mono ?_
    rintro e2 w2 ⟨b2, fv, rfl, hc2, hb2⟩
    have B2 := Lib.hid (B1.out.trans (hb2.mono B1.out.size))
    have C2 := Lib.hid (C1.out.bel hb2)
    have L2 := Lib.hid (L1.out.on hb2)
    obtain ⟨rfl, _⟩ := hc2
    clear hb2 M3 C1 L1 B1
    go_wp2_with fail
    exact meet_7err K w w2 HG.out B2.out v H1.out H2.out lo lc n l HN.out H4.out L2.out b b2 i C2.out (Or.inr (Or.inr ⟨h0, rfl, HA.out⟩)) _ _ _ _ _ _ _ _ _ _ _ _ _ _ _ _ _ _ _ _ _ _ _ _ _ _ _ _ _ _ _ _ _ _ _ _ _ _ _ _ _ _ _ _ _ _ _ _ _ _ _ _ _ _ _ _ _ _ _ _ _ _ _ _ _ _ _ _ _ _ _ _ _ _ _ _ _ _ _ _ _ _ _ _ _ _ _ _ _ _ _ _ _ _ _ _ _ _ _ _ _ _ _ _ _ _ _ _ _ _ _ _ _ _ _ _ _ _ _ _ _ _ _ _ _ _ _ _ _ _ _ _ _ _ _ _ _ _ _ _ _ _ _ _ _ _ _ _ _ 

set_option maxRecDepth 100000 in
set_option maxHeartbeats 4000000 in
theorem meets_any {G : World → Prop} (K : POks G) (nv ov : Value) (zs os : List Int) (v : Int) (w : World) (hg : G w) (hz : InInts w nv zs) (hos : InInts w ov os) (lz : os.length ≤ maxLen) (h1 : -9223372036854775808 ≤ v) (h2 : v ≤ 9223372036854775807) :
    Calls Tryd.prog 7 #[nv, .int .i64 v, ov] w fun e w' => e = .returned (.bool true) ∧ Below w.heap.size w w' := by
  show Calls Tryd.prog 7 #[nv, .int .i64 v, ov] w (PFQ w)
  have HG := Lib.hid hg
  have HO := Lib.hid hos
  have LZ := Lib.hid lz
  have H1 := Lib.hid h1
  have H2 := Lib.hid h2
  have HZ := Lib.hid hz
  clear hg hos lz h1 h2 hz
  go_enter Tryd.func7, Tryd.ntmps7
  go_upto_block 0 with (fail)
  refine meet_loop1 _ w nv zs HZ.out _ _ _ _ _ _ _ _ _ _ _ _ _ _ _ _ _ _ _ _ _ _ _ _ _ _ _ _ _ _ _ _ _ _ _ _ _ _ _ _ _ _ _ _ _ _ _ _ _ _ _ _ _ _ _ _ _ _ _ _ _ _ _ _ _ _ _ _ _ _ _ _ _ _ _ _ _ _ _ _ _ _ _ _ _ _ _ _ _ _ _ _ _ _ _ _ _ _ _ _ _ _ _ _ _ _ _ _ _ _ _ _ _ _ _ _ _ _ _ _ _ _ _ _ _ _ _ _ _ _ _ _ _ _ _ _ _ _ _ _ _ _ _ _ _ _ _ _ _ _ _ _ ?_
  intro w1 lv u21 u22 u23 u24 u25 u26 u27 u28 u29 u30 u31 u32 u33 u34 u35 u36 u37 u38 hb1 ho1
  have B1 := Lib.hid hb1
  have O1 := Lib.hid ho1
  have L5 := mt_len zs
  obtain ⟨lo, lc, hlv⟩ := (Row.of_own ho1).len
  rw [List.length_map] at hlv
  subst hlv
  have MK := ownC_nil w1
  have BA := Lib.hid ((Below.refl w1.heap.size w1).alloc (Nat.le_refl _) (.cells #[] 23))
  obtain ⟨v2, w2, r2, o2, g2⟩ := appC w1.heap.size MK ((Row.of_own ho1).on BA.out) (by simp) (by simp; omega) (by simp)
  have B2 := Lib.hid (BA.out.grown g2 (by simp) (fun j hj => (MK.lt j hj).1))
  have R2 := Lib.hid (show RowC w2 v2 ((mt zs).map r5) from Row.of_own (by simpa using o2))
  have T2 := Lib.hid ((Row.of_own ho1).on B2.out)
  clear hb1 ho1 MK BA o2 g2
  simp only [Exit.then]
  apply_assumption
  go_upto_block 2 with (first | (at_builtin; refine wpList_append_run rfl _ _ 25 rfl rfl rfl r2 ?_) | fail)
  clear r2
  refine meet_loop2 _ w2 ov v2 (mt zs) os (HO.out.on (B1.out.trans (B2.out.mono B1.out.size))) R2.out L5 LZ.out _ _ _ _ _ _ _ _ _ _ _ _ _ _ _ _ _ _ _ _ _ _ _ _ _ _ _ _ _ _ _ _ _ _ _ _ _ _ _ _ _ _ _ _ _ _ _ _ _ _ _ _ _ _ _ _ _ _ _ _ _ _ _ _ _ _ _ _ _ _ _ _ _ _ _ _ _ _ _ _ _ _ _ _ _ _ _ _ _ _ _ _ _ _ _ _ _ _ _ _ _ _ _ _ _ _ _ _ _ _ _ _ _ _ _ _ _ _ _ _ _ _ _ _ _ _ _ _ _ _ _ _ _ _ _ _ _ _ _ _ _ _ _ _ _ _ _ _ _ _ _ _ ?_
  intro w3 own tv2 u10 u11 u42 u43 u44 u45 u46 u47 u48 u49 u50 u51 u52 u53 u54 u55 u56 u57 u58 u59 u60 u61 u62 u63 u64 u65 u66 u67 u68 u69 u70 u71 u72 u73 u74 u75 u76 hb3 hp3 hr3
  have B3 := Lib.hid ((B1.out.trans (B2.out.mono B1.out.size)).trans (hb3.mono (by have := B1.out.size; have := B2.out.size; omega)))
  have T3 := Lib.hid (T2.out.on hb3)
  clear hb3
  simp only [Exit.then]
  apply_assumption
  exact meet_5 K w w3 HG.out B3.out v H1.out H2.out lo lc _ (mt zs) own rfl L5 T3.out tv2 hr3 hp3 (fun c hc => by obtain ⟨z, _, rfl⟩ := List.mem_map.1 hc; rfl) (mk_good zs 4) (mk_small zs 4) _ _ _ _ _ _ _ _ _ _ _ _ _ _ _ _ _ _ _ _ _ _ _ _ _ _ _ _ _ _ _ _ _ _ _ _ _ _ _ _ _ _ _ _ _ _ _ _ _ _ _ _ _ _ _ _ _ _ _ _ _ _ _ _ _ _ _ _ _ _ _ _ _ _ _ _ _ _ _ _ _ _ _ _ _ _ _ _ _ _ _ _ _ _ _ _ _ _ _ _ _ _ _ _ _ _ _ _ _ _ _ _ _ _ _ _ _ _ _ _ _ _ _ _ _ _ _ _ _ _ _ _ _ _ _ _ _ _ _ _ _ _ _ _ _ _ _ _ _ _ _ _ 
end Go.Proofs.YtbfecndhjlimaaaDoor.Pr
