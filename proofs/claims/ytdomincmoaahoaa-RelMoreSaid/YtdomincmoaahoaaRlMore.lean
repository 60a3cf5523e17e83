/-
  The law RelMore, whole, out of the contracts wanted of package rel. Conditions: those contracts; numbers of 64 bits; lists no longer than a machine holds.
-/
import Derived.Test.YtdomincmoaahoaaRlMoreQ
import Derived.Test.YtdomincmoaahoaaBi
import Derived.Test.YtdomincmoaahoaaRlLawsA
import Derived.Deep.Cut
import Derived.Deep.CutBlock
namespace Go.Proofs.Ytdomincmoaahoaa.Rl
open Go.RowKit Go.Sort Go.Proofs.Ytdomincmoaahoaa Go.Proofs.Ytdomincmoaahoaa.Pu Go.Proofs.Ytdomincmoaahoaa.Rw Go.Proofs.Ytdomincmoaahoaa.Pr Go.Proofs.Ytdomincmoaahoaa.In Go.Proofs.Ytdomincmoaahoaa.Kp

/-- Two cells of a block. -/
def Two (W : World) (b : Nat) (x y : Value) : Prop := W.cell? ⟨b, 0, none⟩ = some x ∧ W.cell? ⟨b, 1, none⟩ = some y
theorem Two.on {W W' : World} {b : Nat} {x y : Value} (h : Two W b x y) (hb : Below W.heap.size W W') : Two W' b x y :=
  ⟨(hb.cell (p := ⟨b, 0, none⟩) (World.block_lt_of_cell? W _ h.1)).trans h.1, (hb.cell (p := ⟨b, 1, none⟩) (World.block_lt_of_cell? W _ h.2)).trans h.2⟩
noncomputable def more11 : Code := afterN 11 (Try.f8.body.getD .skip)
noncomputable def more9 : Code := .seq (headN 9 (Try.f8.body.getD .skip)) (.seq (headN 10 (Try.f8.body.getD .skip)) (more11))
noncomputable def more7 : Code := .seq (headN 7 (Try.f8.body.getD .skip)) (.seq (headN 8 (Try.f8.body.getD .skip)) (more9))
noncomputable def more6 : Code := .seq (headN 6 (Try.f8.body.getD .skip)) (more7)
noncomputable def more5 : Code := .seq (headN 5 (Try.f8.body.getD .skip)) (more6)
noncomputable def more3 : Code := .seq (headN 3 (Try.f8.body.getD .skip)) (.seq (headN 4 (Try.f8.body.getD .skip)) (more5))
noncomputable def more2 : Code := .seq (headN 2 (Try.f8.body.getD .skip)) (more3)
set_option maxRecDepth 100000 in
set_option maxHeartbeats 8000000 in
theorem more_11 {G : World → Prop} (K : ROks G) (w W : World) (hg : G w) (hb : Below w.heap.size w W) (pv : Value) (p : List Cn) (hp : RowC W pv (p.map r5)) (np : NF p) (lp : ∀ x ∈ p, Low x.1) (sv : Value) (hs : RowC W sv (sixL.map r5))
    (u0 u1 u2 u3 u4 u5 u6 u7 u8 u10 u11 u12 u13 u15 u16 u17 u18 u19 u20 u21 u22 u23 u24 u25 u26 u27 u28 u29 u30 u31 u32 u33 u34 u35 u36 u37 u38 u39 u40 u41 u42 u43 u44 u45 u46 u47 u48 u49 u50 u51 u52 u53 u54 u55 u56 u57 u58 u59 u60 u61 u62 u63 u64 u65 u66 u67 u68 u69 u70 u71 u72 u73 u74 u75 u76 u77 u78 u79 u80 u81 u82 u83 u84 u85 u86 u87 u88 u89 u90 u91 u92 u93 u94 u95 u96 u97 u98 u99 u100 u101 u102 u103 u104 u105 u106 : Value) :
    Code.wp Try.prog more11 (bodyPost Try.prog Try.f8 (RQ w)) ⟨(u0 :: u1 :: u2 :: u3 :: u4 :: u5 :: u6 :: u7 :: u8 :: pv :: u10 :: u11 :: u12 :: u13 :: sv :: u15 :: u16 :: u17 :: u18 :: u19 :: u20 :: u21 :: u22 :: u23 :: u24 :: u25 :: u26 :: u27 :: u28 :: u29 :: u30 :: u31 :: u32 :: u33 :: u34 :: u35 :: u36 :: u37 :: u38 :: u39 :: u40 :: u41 :: u42 :: u43 :: u44 :: u45 :: u46 :: u47 :: u48 :: u49 :: u50 :: u51 :: u52 :: u53 :: u54 :: u55 :: u56 :: u57 :: u58 :: u59 :: u60 :: u61 :: u62 :: u63 :: u64 :: u65 :: u66 :: u67 :: u68 :: u69 :: u70 :: u71 :: u72 :: u73 :: u74 :: u75 :: u76 :: u77 :: u78 :: u79 :: u80 :: u81 :: u82 :: u83 :: u84 :: u85 :: u86 :: u87 :: u88 :: u89 :: u90 :: u91 :: u92 :: u93 :: u94 :: u95 :: u96 :: u97 :: u98 :: u99 :: u100 :: u101 :: u102 :: u103 :: u104 :: u105 :: u106 :: []).toArray, []⟩ W := by
  have KK := Lib.hid K
  have HG := Lib.hid hg
  have B0 := Lib.hid hb
  clear K hg hb
  have P0 := Lib.hid hp
  have NP := Lib.hid np
  have LP := Lib.hid lp
  clear hp np lp
  have S0 := Lib.hid hs
  clear hs
  obtain ⟨po, pc, rfl⟩ := P0.out.len
  obtain ⟨lo, slo, rlo⟩ := loC S0.out 3 (by decide)
  change ∀ w, (Instr.sliceAt 25 sv none (some (.int .i64 3)) none).run Try.prog w = .ok lo w at slo
  have O0 := Lib.hid (show RowC W lo ((sixL.take 3).map r5) by rw [List.map_take]; exact rlo)
  clear rlo
  simp only [List.length_map] at *
  have SM := Lib.hid (six_meets NP.out LP.out)
  obtain ⟨z, hz⟩ : ∃ z, ((p.length : Int) == 0) = z := ⟨_, rfl⟩
  rw [hz] at SM
  unfold more11
  conv => arg 2; whnf
  rcases z with _ | _
  all_goals
    go_wp2_with fail
    refine (KK.out.meets _ _ sixL p _ (KK.out.bel _ _ HG.out B0.out) S0.out P0.out nf_six NP.out).mono ?_
    rintro e1 w1 ⟨rfl, hb⟩
    rw [SM.out]
    have B1 := Lib.hid (B0.out.trans (hb.mono B0.out.size))
    have P1 := Lib.hid (P0.out.on hb)
    have S1 := Lib.hid (S0.out.on hb)
    have O1 := Lib.hid (O0.out.on hb)
    clear hb B0 P0 S0 O0
    go_wp2_with fail
    refine (KK.out.meets _ _ sixL (sixL.take 3) _ (KK.out.bel _ _ HG.out B1.out) S1.out O1.out nf_six (nf_take nf_six 3)).mono ?_
    rintro e2 w2 ⟨rfl, hb⟩
    rw [six_three]
    have B2 := Lib.hid (B1.out.trans (hb.mono B1.out.size))
    have P2 := Lib.hid (P1.out.on hb)
    have S2 := Lib.hid (S1.out.on hb)
    have O2 := Lib.hid (O1.out.on hb)
    clear hb B1 P1 S1 O1
    go_wp2_with fail
    refine (runs_any KK.out _ (KK.out.bel _ _ HG.out B2.out)).mono ?_
    rintro e3 w3 ⟨rfl, hb⟩
    have B3 := Lib.hid (B2.out.trans (hb.mono B2.out.size))
    have P3 := Lib.hid (P2.out.on hb)
    have S3 := Lib.hid (S2.out.on hb)
    have O3 := Lib.hid (O2.out.on hb)
    clear hb B2 P2 S2 O2
    go_wp2
    go_ret
    exact ⟨rfl, B3.out⟩
set_option maxRecDepth 100000 in
set_option maxHeartbeats 8000000 in
theorem more_9 {G : World → Prop} (K : ROks G) (w W : World) (hg : G w) (hb : Below w.heap.size w W) (pv : Value) (p : List Cn) (hp : RowC W pv (p.map r5)) (np : NF p) (lp : ∀ x ∈ p, Low x.1)
    (u0 u1 u2 u3 u4 u5 u6 u7 u8 u10 u11 u12 u13 u14 u15 u16 u17 u18 u19 u20 u21 u22 u23 u24 u25 u26 u27 u28 u29 u30 u31 u32 u33 u34 u35 u36 u37 u38 u39 u40 u41 u42 u43 u44 u45 u46 u47 u48 u49 u50 u51 u52 u53 u54 u55 u56 u57 u58 u59 u60 u61 u62 u63 u64 u65 u66 u67 u68 u69 u70 u71 u72 u73 u74 u75 u76 u77 u78 u79 u80 u81 u82 u83 u84 u85 u86 u87 u88 u89 u90 u91 u92 u93 u94 u95 u96 u97 u98 u99 u100 u101 u102 u103 u104 u105 u106 : Value) :
    Code.wp Try.prog more9 (bodyPost Try.prog Try.f8 (RQ w)) ⟨(u0 :: u1 :: u2 :: u3 :: u4 :: u5 :: u6 :: u7 :: u8 :: pv :: u10 :: u11 :: u12 :: u13 :: u14 :: u15 :: u16 :: u17 :: u18 :: u19 :: u20 :: u21 :: u22 :: u23 :: u24 :: u25 :: u26 :: u27 :: u28 :: u29 :: u30 :: u31 :: u32 :: u33 :: u34 :: u35 :: u36 :: u37 :: u38 :: u39 :: u40 :: u41 :: u42 :: u43 :: u44 :: u45 :: u46 :: u47 :: u48 :: u49 :: u50 :: u51 :: u52 :: u53 :: u54 :: u55 :: u56 :: u57 :: u58 :: u59 :: u60 :: u61 :: u62 :: u63 :: u64 :: u65 :: u66 :: u67 :: u68 :: u69 :: u70 :: u71 :: u72 :: u73 :: u74 :: u75 :: u76 :: u77 :: u78 :: u79 :: u80 :: u81 :: u82 :: u83 :: u84 :: u85 :: u86 :: u87 :: u88 :: u89 :: u90 :: u91 :: u92 :: u93 :: u94 :: u95 :: u96 :: u97 :: u98 :: u99 :: u100 :: u101 :: u102 :: u103 :: u104 :: u105 :: u106 :: []).toArray, []⟩ W := by
  have KK := Lib.hid K
  have HG := Lib.hid hg
  have B0 := Lib.hid hb
  clear K hg hb
  have P0 := Lib.hid hp
  have NP := Lib.hid np
  have LP := Lib.hid lp
  clear hp np lp
  unfold more9
  conv => enter [2, 1]; whnf
  conv => enter [2, 2, 1]; whnf
  have C0 := Lib.hid (fun (k : Nat) (h : k < 5) => (show (W.alloc (.cells sixC 9)).cell? ⟨W.heap.size, k, none⟩ = some (.string (sn k)) by rw [World.cell?_alloc_at _ _ _ _ rfl]; exact sn_at k h))
  have BA := Lib.hid ((Below.refl W.heap.size W).alloc (Nat.le_refl _) (.cells sixC 9))
  have hlt : W.heap.size < (W.alloc (.cells sixC 9)).heap.size := by simp
  have P1 := Lib.hid (P0.out.on BA.out)
  have B1 := Lib.hid (B0.out.trans (BA.out.mono B0.out.size))
  unfold sixC at C0 BA hlt P1 B1
  clear B0 P0 BA
  go_wp2
  generalize W.alloc (.cells #[.string ⟨#[117]⟩, .string ⟨#[118]⟩, .string ⟨#[119]⟩, .string ⟨#[120]⟩, .string ⟨#[121]⟩] 9) = W1 at *
  generalize W.heap.size = sb at *
  go_loopw [14, 81] (fun v i wr => ∃ k : Nat, k ≤ 5 ∧ i = .int .i64 k ∧ OwnC wr W1.heap.size v ((sixL.take k).map r5) ∧ Below W1.heap.size W1 wr) (fun _ i _ => 5 - (intOf i).toNat)
  case atStart => exact ⟨0, Nat.zero_le _, rfl, own_nil _ _, Below.refl _ _⟩
  case round =>
    obtain ⟨k, hk, rfl, ho, hbr⟩ := hrel
    have BR := Lib.hid hbr
    have OW := Lib.hid ho
    have HLT := Lib.hid hlt
    clear ho hbr hlt
    by_cases hlt5 : k < 5
    · have n0 := (BR.out.cell (p := ⟨sb, k, none⟩) HLT.out).trans (C0.out k hlt5)
      have SM := Lib.hid (show (sixL.take (k + 1)).map r5 = (sixL.take k).map r5 ++ [(sn k, 3, 0, 0, ⟨#[]⟩)] by rw [six_more k hlt5, List.map_append]; rfl)
      have BX := Lib.hid ((Below.refl wr.heap.size wr).alloc (Nat.le_refl _) (.cells #[.string (sn k), .int .i64 3, .int .i64 0, .int .i64 0, .string ⟨#[]⟩] 23))
      obtain ⟨v', w', r, o', gr⟩ := appC W1.heap.size (own_on OW.out BX.out) (row_oneC wr (sn k, 3, 0, 0, ⟨#[]⟩)) (by rw [List.length_map, List.length_take]; omega) (by simp) (by have := BR.out.size; simp; omega)
      have B' := Lib.hid ((BR.out.trans (BX.out.mono BR.out.size)).grown gr (by have := BR.out.size; simp; omega) (fun j hj => (OW.out.lt j hj).1))
      have O' := Lib.hid o'
      clear o' gr
      go_wp2_with (first | (at_builtin; refine wpList_append_run rfl _ _ 25 rfl rfl rfl r ?_) | fail)
      go_roundw
      case rel => exact ⟨k + 1, by omega, by go_num, by rw [SM.out]; exact O'.out, B'.out⟩
      case measure => simp [intOf]; omega
    · obtain rfl : k = 5 := by omega
      go_wp2
      exact more_11 KK.out w _ HG.out (B1.out.trans (BR.out.mono B1.out.size)) _ p (P1.out.on BR.out) NP.out LP.out _ (Row.of_own OW.out) _ _ _ _ _ _ _ _ _ _ _ _ _ _ _ _ _ _ _ _ _ _ _ _ _ _ _ _ _ _ _ _ _ _ _ _ _ _ _ _ _ _ _ _ _ _ _ _ _ _ _ _ _ _ _ _ _ _ _ _ _ _ _ _ _ _ _ _ _ _ _ _ _ _ _ _ _ _ _ _ _ _ _ _ _ _ _ _ _ _ _ _ _ _ _ _ _ _ _ _ _ _ _ _ _
set_option maxRecDepth 100000 in
set_option maxHeartbeats 8000000 in
theorem more_7 {G : World → Prop} (K : ROks G) (w W : World) (hg : G w) (hb : Below w.heap.size w W) (pv : Value) (p : List Cn) (hp : RowC W pv (p.map r5)) (np : NF p) (lp : ∀ x ∈ p, Low x.1) (qv : Value) (q : List Cn) (hq : RowC W qv (q.map r5)) (nq : NF q) (mv : Value) (n : Int) (hm : RowC W mv ((p ++ [(nZ, kdOf n)]).map r5)) (nm_ : NF (p ++ [(nZ, kdOf n)])) (lv : Value) (l : List An) (hl : RowL W lv l) (nl : NL l) (ll : ∀ x ∈ l, Low x.1) (wv : Value) (hw : RowL W wv (l ++ [(nZZ, false, 1, ⟨#[]⟩)])) (nw : NL (l ++ [(nZZ, false, 1, ⟨#[]⟩)]))
    (u0 u1 u2 u3 u4 u5 u6 u7 u8 u14 u15 u16 u17 u18 u19 u20 u21 u22 u23 u24 u25 u26 u27 u28 u29 u30 u31 u32 u33 u34 u35 u36 u37 u38 u39 u40 u41 u42 u43 u44 u45 u46 u47 u48 u49 u50 u51 u52 u53 u54 u55 u56 u57 u58 u59 u60 u61 u62 u63 u64 u65 u66 u67 u68 u69 u70 u71 u72 u73 u74 u75 u76 u77 u78 u79 u80 u81 u82 u83 u84 u85 u86 u87 u88 u89 u90 u91 u92 u93 u94 u95 u96 u97 u98 u99 u100 u101 u102 u103 u104 u105 u106 : Value) :
    Code.wp Try.prog more7 (bodyPost Try.prog Try.f8 (RQ w)) ⟨(u0 :: u1 :: u2 :: u3 :: u4 :: u5 :: u6 :: u7 :: u8 :: pv :: qv :: mv :: lv :: wv :: u14 :: u15 :: u16 :: u17 :: u18 :: u19 :: u20 :: u21 :: u22 :: u23 :: u24 :: u25 :: u26 :: u27 :: u28 :: u29 :: u30 :: u31 :: u32 :: u33 :: u34 :: u35 :: u36 :: u37 :: u38 :: u39 :: u40 :: u41 :: u42 :: u43 :: u44 :: u45 :: u46 :: u47 :: u48 :: u49 :: u50 :: u51 :: u52 :: u53 :: u54 :: u55 :: u56 :: u57 :: u58 :: u59 :: u60 :: u61 :: u62 :: u63 :: u64 :: u65 :: u66 :: u67 :: u68 :: u69 :: u70 :: u71 :: u72 :: u73 :: u74 :: u75 :: u76 :: u77 :: u78 :: u79 :: u80 :: u81 :: u82 :: u83 :: u84 :: u85 :: u86 :: u87 :: u88 :: u89 :: u90 :: u91 :: u92 :: u93 :: u94 :: u95 :: u96 :: u97 :: u98 :: u99 :: u100 :: u101 :: u102 :: u103 :: u104 :: u105 :: u106 :: []).toArray, []⟩ W := by
  have KK := Lib.hid K
  have HG := Lib.hid hg
  have B0 := Lib.hid hb
  clear K hg hb
  have P0 := Lib.hid hp
  have NP := Lib.hid np
  have LP := Lib.hid lp
  clear hp np lp
  have Q0 := Lib.hid hq
  have NQ := Lib.hid nq
  clear hq nq
  have M0 := Lib.hid hm
  have NM := Lib.hid nm_
  clear hm nm_
  have L0 := Lib.hid hl
  have NLL := Lib.hid nl
  have LL := Lib.hid ll
  clear hl nl ll
  have V0 := Lib.hid hw
  have NV := Lib.hid nw
  clear hw nw
  have C1 := Lib.hid (covers_more p (nZ, kdOf n))
  have C2 := Lib.hid (z_cover LP.out n)
  have C3 := Lib.hid (z_match (p := p) LL.out n)
  have C4 := Lib.hid (z_wide (l := l) LP.out)
  have C5 := Lib.hid (fun h => z_meets NP.out NQ.out NM.out h)
  obtain ⟨x, hx⟩ : ∃ x, matchL p l = x := ⟨_, rfl⟩
  have HX := Lib.hid hx
  rw [hx] at C4
  obtain ⟨m, hm⟩ : ∃ m, meetsB (p ++ [(nZ, kdOf n)]) q = m := ⟨_, rfl⟩
  have HM := Lib.hid hm
  rw [hm] at C5
  clear hx hm
  unfold more7
  conv => enter [2, 1]; whnf
  conv => enter [2, 2, 1]; whnf
  rcases x with _ | _
  all_goals
    go_wp2_with fail
    refine (KK.out.covers _ _ p (p ++ [(nZ, kdOf n)]) _ (KK.out.bel _ _ HG.out B0.out) P0.out M0.out NP.out NM.out).mono ?_
    rintro e1 w1 ⟨rfl, hb⟩
    rw [C1.out]
    have B1 := Lib.hid (B0.out.trans (hb.mono B0.out.size))
    have P1 := Lib.hid (P0.out.on hb)
    have Q1 := Lib.hid (Q0.out.on hb)
    have M1 := Lib.hid (M0.out.on hb)
    have L1 := Lib.hid (L0.out.on hb)
    have V1 := Lib.hid (V0.out.on hb)
    clear hb B0 P0 Q0 M0 L0 V0
    go_wp2_with fail
    refine (KK.out.covers _ _ (p ++ [(nZ, kdOf n)]) p _ (KK.out.bel _ _ HG.out B1.out) M1.out P1.out NM.out NP.out).mono ?_
    rintro e2 w2 ⟨rfl, hb⟩
    rw [C2.out]
    have B2 := Lib.hid (B1.out.trans (hb.mono B1.out.size))
    have P2 := Lib.hid (P1.out.on hb)
    have Q2 := Lib.hid (Q1.out.on hb)
    have M2 := Lib.hid (M1.out.on hb)
    have L2 := Lib.hid (L1.out.on hb)
    have V2 := Lib.hid (V1.out.on hb)
    clear hb B1 P1 Q1 M1 L1 V1
    go_wp2_with fail
    refine (KK.out.match_ _ _ (p ++ [(nZ, kdOf n)]) l _ (KK.out.bel _ _ HG.out B2.out) M2.out L2.out NM.out NLL.out).mono ?_
    rintro e3 w3 ⟨rfl, hb⟩
    rw [C3.out]
    have B3 := Lib.hid (B2.out.trans (hb.mono B2.out.size))
    have P3 := Lib.hid (P2.out.on hb)
    have Q3 := Lib.hid (Q2.out.on hb)
    have M3 := Lib.hid (M2.out.on hb)
    have L3 := Lib.hid (L2.out.on hb)
    have V3 := Lib.hid (V2.out.on hb)
    clear hb B2 P2 Q2 M2 L2 V2
    go_wp2_with fail
    refine (KK.out.match_ _ _ p l _ (KK.out.bel _ _ HG.out B3.out) P3.out L3.out NP.out NLL.out).mono ?_
    rintro e4 w4 ⟨rfl, hb⟩
    rw [HX.out]
    have B4 := Lib.hid (B3.out.trans (hb.mono B3.out.size))
    have P4 := Lib.hid (P3.out.on hb)
    have Q4 := Lib.hid (Q3.out.on hb)
    have M4 := Lib.hid (M3.out.on hb)
    have L4 := Lib.hid (L3.out.on hb)
    have V4 := Lib.hid (V3.out.on hb)
    clear hb B3 P3 Q3 M3 L3 V3
    go_wp2_with fail
    refine (KK.out.match_ _ _ p (l ++ [(nZZ, false, 1, ⟨#[]⟩)]) _ (KK.out.bel _ _ HG.out B4.out) P4.out V4.out NP.out NV.out).mono ?_
    rintro e5 w5 ⟨rfl, hb⟩
    rw [C4.out]
    have B5 := Lib.hid (B4.out.trans (hb.mono B4.out.size))
    have P5 := Lib.hid (P4.out.on hb)
    have Q5 := Lib.hid (Q4.out.on hb)
    have M5 := Lib.hid (M4.out.on hb)
    have L5 := Lib.hid (L4.out.on hb)
    have V5 := Lib.hid (V4.out.on hb)
    clear hb B4 P4 Q4 M4 L4 V4
    rcases m with _ | _
    · skip
      go_wp2_with fail
      refine (KK.out.meets _ _ (p ++ [(nZ, kdOf n)]) q _ (KK.out.bel _ _ HG.out B5.out) M5.out Q5.out NM.out NQ.out).mono ?_
      rintro e6 w6 ⟨rfl, hb⟩
      rw [HM.out]
      have B6 := Lib.hid (B5.out.trans (hb.mono B5.out.size))
      have P6 := Lib.hid (P5.out.on hb)
      have Q6 := Lib.hid (Q5.out.on hb)
      have M6 := Lib.hid (M5.out.on hb)
      have L6 := Lib.hid (L5.out.on hb)
      have V6 := Lib.hid (V5.out.on hb)
      clear hb B5 P5 Q5 M5 L5 V5
      go_wp2
      exact more_9 KK.out w _ HG.out B6.out _ p P6.out NP.out LP.out _ _ _ _ _ _ _ _ _ _ _ _ _ _ _ _ _ _ _ _ _ _ _ _ _ _ _ _ _ _ _ _ _ _ _ _ _ _ _ _ _ _ _ _ _ _ _ _ _ _ _ _ _ _ _ _ _ _ _ _ _ _ _ _ _ _ _ _ _ _ _ _ _ _ _ _ _ _ _ _ _ _ _ _ _ _ _ _ _ _ _ _ _ _ _ _ _ _ _ _ _ _ _ _ _ _
    · have C6 := Lib.hid (C5.out rfl)
      go_wp2_with fail
      refine (KK.out.meets _ _ (p ++ [(nZ, kdOf n)]) q _ (KK.out.bel _ _ HG.out B5.out) M5.out Q5.out NM.out NQ.out).mono ?_
      rintro e6 w6 ⟨rfl, hb⟩
      rw [HM.out]
      have B6 := Lib.hid (B5.out.trans (hb.mono B5.out.size))
      have P6 := Lib.hid (P5.out.on hb)
      have Q6 := Lib.hid (Q5.out.on hb)
      have M6 := Lib.hid (M5.out.on hb)
      have L6 := Lib.hid (L5.out.on hb)
      have V6 := Lib.hid (V5.out.on hb)
      clear hb B5 P5 Q5 M5 L5 V5
      go_wp2_with fail
      refine (KK.out.meets _ _ p q _ (KK.out.bel _ _ HG.out B6.out) P6.out Q6.out NP.out NQ.out).mono ?_
      rintro e7 w7 ⟨rfl, hb⟩
      rw [C6.out]
      have B7 := Lib.hid (B6.out.trans (hb.mono B6.out.size))
      have P7 := Lib.hid (P6.out.on hb)
      have Q7 := Lib.hid (Q6.out.on hb)
      have M7 := Lib.hid (M6.out.on hb)
      have L7 := Lib.hid (L6.out.on hb)
      have V7 := Lib.hid (V6.out.on hb)
      clear hb B6 P6 Q6 M6 L6 V6
      go_wp2
      exact more_9 KK.out w _ HG.out B7.out _ p P7.out NP.out LP.out _ _ _ _ _ _ _ _ _ _ _ _ _ _ _ _ _ _ _ _ _ _ _ _ _ _ _ _ _ _ _ _ _ _ _ _ _ _ _ _ _ _ _ _ _ _ _ _ _ _ _ _ _ _ _ _ _ _ _ _ _ _ _ _ _ _ _ _ _ _ _ _ _ _ _ _ _ _ _ _ _ _ _ _ _ _ _ _ _ _ _ _ _ _ _ _ _ _ _ _ _ _ _ _ _ _
set_option maxRecDepth 100000 in
set_option maxHeartbeats 8000000 in
theorem more_6 {G : World → Prop} (K : ROks G) (w W : World) (hg : G w) (hb : Below w.heap.size w W) (pv : Value) (p : List Cn) (hp : RowC W pv (p.map r5)) (np : NF p) (lp : ∀ x ∈ p, Low x.1) (qv : Value) (q : List Cn) (hq : RowC W qv (q.map r5)) (nq : NF q) (mv : Value) (n : Int) (hm : RowC W mv ((p ++ [(nZ, kdOf n)]).map r5)) (nm_ : NF (p ++ [(nZ, kdOf n)])) (lv : Value) (l : List An) (hl : RowL W lv l) (nl : NL l) (ll : ∀ x ∈ l, Low x.1) (l4 : l.length ≤ 4)
    (u0 u1 u2 u3 u4 u5 u6 u7 u8 u13 u14 u15 u16 u17 u18 u19 u20 u21 u22 u23 u24 u25 u26 u27 u28 u29 u30 u31 u32 u33 u34 u35 u36 u37 u38 u39 u40 u41 u42 u43 u44 u45 u46 u47 u48 u49 u50 u51 u52 u53 u54 u55 u56 u57 u58 u59 u60 u61 u62 u63 u64 u65 u66 u67 u68 u69 u70 u71 u72 u73 u74 u75 u76 u77 u78 u79 u80 u81 u82 u83 u84 u85 u86 u87 u88 u89 u90 u91 u92 u93 u94 u95 u96 u97 u98 u99 u100 u101 u102 u103 u104 u105 u106 : Value) :
    Code.wp Try.prog more6 (bodyPost Try.prog Try.f8 (RQ w)) ⟨(u0 :: u1 :: u2 :: u3 :: u4 :: u5 :: u6 :: u7 :: u8 :: pv :: qv :: mv :: lv :: u13 :: u14 :: u15 :: u16 :: u17 :: u18 :: u19 :: u20 :: u21 :: u22 :: u23 :: u24 :: u25 :: u26 :: u27 :: u28 :: u29 :: u30 :: u31 :: u32 :: u33 :: u34 :: u35 :: u36 :: u37 :: u38 :: u39 :: u40 :: u41 :: u42 :: u43 :: u44 :: u45 :: u46 :: u47 :: u48 :: u49 :: u50 :: u51 :: u52 :: u53 :: u54 :: u55 :: u56 :: u57 :: u58 :: u59 :: u60 :: u61 :: u62 :: u63 :: u64 :: u65 :: u66 :: u67 :: u68 :: u69 :: u70 :: u71 :: u72 :: u73 :: u74 :: u75 :: u76 :: u77 :: u78 :: u79 :: u80 :: u81 :: u82 :: u83 :: u84 :: u85 :: u86 :: u87 :: u88 :: u89 :: u90 :: u91 :: u92 :: u93 :: u94 :: u95 :: u96 :: u97 :: u98 :: u99 :: u100 :: u101 :: u102 :: u103 :: u104 :: u105 :: u106 :: []).toArray, []⟩ W := by
  have KK := Lib.hid K
  have HG := Lib.hid hg
  have B0 := Lib.hid hb
  clear K hg hb
  have P0 := Lib.hid hp
  have NP := Lib.hid np
  have LP := Lib.hid lp
  clear hp np lp
  have Q0 := Lib.hid hq
  have NQ := Lib.hid nq
  clear hq nq
  have M0 := Lib.hid hm
  have NM := Lib.hid nm_
  clear hm nm_
  have L0 := Lib.hid hl
  have NLL := Lib.hid nl
  have LL := Lib.hid ll
  clear hl nl ll
  unfold more6
  conv => enter [2, 1]; whnf
  have BA := Lib.hid ((Below.refl W.heap.size W).alloc (Nat.le_refl _) (.cells #[] 47))
  have MK : OwnL (W.alloc (.cells #[] 47)) W.heap.size (.slice (some ⟨W.heap.size, 0, none⟩) 0 0) [] := own_made W
  obtain ⟨v1, w1, r1, o1, g1⟩ := app_row okA W.heap.size MK (L0.out.on BA.out) (by simp) (by omega) (by simp) 32
  have B1 := Lib.hid (BA.out.grown g1 (by simp) (fun j hj => (MK.lt j hj).1))
  have BX := Lib.hid (B1.out.alloc B1.out.size (.cells #[.string ⟨#[122, 122]⟩, .bool false, .int .i64 1, .string ⟨#[]⟩] 47))
  obtain ⟨v2, w2, r2, o2, g2⟩ := app_row okA W.heap.size (own_on o1 ((Below.refl _ _).alloc (Nat.le_refl _) (.cells #[.string ⟨#[122, 122]⟩, .bool false, .int .i64 1, .string ⟨#[]⟩] 47))) (Row.of_own (row_lit okA w1 [(nZZ, false, 1, ⟨#[]⟩)] 1 rfl (by simp) #[.string ⟨#[122, 122]⟩, .bool false, .int .i64 1, .string ⟨#[]⟩] rfl)) (by simp; omega) (by simp) BX.out.size 32
  have B2 := Lib.hid (BX.out.grown g2 BX.out.size (fun j hj => (o1.lt j hj).1))
  have V2 := Lib.hid (show RowL w2 v2 (l ++ [(nZZ, false, 1, ⟨#[]⟩)]) from Row.of_own (by simpa using o2))
  have NW := Lib.hid (nl_z NLL.out LL.out l4)
  change (Builtin.append_ #[32, 32] 32 #[.slice (some ⟨W.heap.size, 0, none⟩) 0 0, lv]).run Try.prog (W.alloc (.cells #[] 47)) = .ok v1 w1 at r1
  change (Builtin.append_ #[32, 32] 32 #[v1, .slice (some ⟨w1.heap.size, 0, none⟩) 1 1]).run Try.prog (w1.alloc (.cells #[.string ⟨#[122, 122]⟩, .bool false, .int .i64 1, .string ⟨#[]⟩] 47)) = .ok v2 w2 at r2
  clear MK o1 g1 o2 g2 BA B1 BX
  go_wp2_with (first | (at_builtin; refine wpList_append_run rfl _ _ 32 rfl rfl rfl r1 ?_) | (at_builtin; refine wpList_append_run rfl _ _ 32 rfl rfl rfl r2 ?_) | fail)
  exact more_7 KK.out w _ HG.out (B0.out.trans (B2.out.mono B0.out.size)) _ p (P0.out.on B2.out) NP.out LP.out _ q (Q0.out.on B2.out) NQ.out _ n (M0.out.on B2.out) NM.out _ l (L0.out.on B2.out) NLL.out LL.out _ V2.out NW.out _ _ _ _ _ _ _ _ _ _ _ _ _ _ _ _ _ _ _ _ _ _ _ _ _ _ _ _ _ _ _ _ _ _ _ _ _ _ _ _ _ _ _ _ _ _ _ _ _ _ _ _ _ _ _ _ _ _ _ _ _ _ _ _ _ _ _ _ _ _ _ _ _ _ _ _ _ _ _ _ _ _ _ _ _ _ _ _ _ _ _ _ _ _ _ _ _ _ _ _ _ _
set_option maxRecDepth 100000 in
set_option maxHeartbeats 8000000 in
theorem more_5 {G : World → Prop} (K : ROks G) (w W : World) (hg : G w) (hb : Below w.heap.size w W) (pv : Value) (p : List Cn) (hp : RowC W pv (p.map r5)) (np : NF p) (lp : ∀ x ∈ p, Low x.1) (qv : Value) (q : List Cn) (hq : RowC W qv (q.map r5)) (nq : NF q) (mv : Value) (n : Int) (hm : RowC W mv ((p ++ [(nZ, kdOf n)]).map r5)) (nm_ : NF (p ++ [(nZ, kdOf n)])) (lv : Value) (l : List An) (hl : RowL W lv l) (nl : NL l) (ll : ∀ x ∈ l, Low x.1)
    (u0 u1 u2 u3 u4 u5 u6 u7 u8 u13 u14 u15 u16 u17 u18 u19 u20 u21 u22 u23 u24 u25 u26 u27 u28 u29 u30 u31 u32 u33 u34 u35 u36 u37 u38 u39 u40 u41 u42 u43 u44 u45 u46 u47 u48 u49 u50 u51 u52 u53 u54 u55 u56 u57 u58 u59 u60 u61 u62 u63 u64 u65 u66 u67 u68 u69 u70 u71 u72 u73 u74 u75 u76 u77 u78 u79 u80 u81 u82 u83 u84 u85 u86 u87 u88 u89 u90 u91 u92 u93 u94 u95 u96 u97 u98 u99 u100 u101 u102 u103 u104 u105 u106 : Value) :
    Code.wp Try.prog more5 (bodyPost Try.prog Try.f8 (RQ w)) ⟨(u0 :: u1 :: u2 :: u3 :: u4 :: u5 :: u6 :: u7 :: u8 :: pv :: qv :: mv :: lv :: u13 :: u14 :: u15 :: u16 :: u17 :: u18 :: u19 :: u20 :: u21 :: u22 :: u23 :: u24 :: u25 :: u26 :: u27 :: u28 :: u29 :: u30 :: u31 :: u32 :: u33 :: u34 :: u35 :: u36 :: u37 :: u38 :: u39 :: u40 :: u41 :: u42 :: u43 :: u44 :: u45 :: u46 :: u47 :: u48 :: u49 :: u50 :: u51 :: u52 :: u53 :: u54 :: u55 :: u56 :: u57 :: u58 :: u59 :: u60 :: u61 :: u62 :: u63 :: u64 :: u65 :: u66 :: u67 :: u68 :: u69 :: u70 :: u71 :: u72 :: u73 :: u74 :: u75 :: u76 :: u77 :: u78 :: u79 :: u80 :: u81 :: u82 :: u83 :: u84 :: u85 :: u86 :: u87 :: u88 :: u89 :: u90 :: u91 :: u92 :: u93 :: u94 :: u95 :: u96 :: u97 :: u98 :: u99 :: u100 :: u101 :: u102 :: u103 :: u104 :: u105 :: u106 :: []).toArray, []⟩ W := by
  have KK := Lib.hid K
  have HG := Lib.hid hg
  have B0 := Lib.hid hb
  clear K hg hb
  have P0 := Lib.hid hp
  have NP := Lib.hid np
  have LP := Lib.hid lp
  clear hp np lp
  have Q0 := Lib.hid hq
  have NQ := Lib.hid nq
  clear hq nq
  have M0 := Lib.hid hm
  have NM := Lib.hid nm_
  clear hm nm_
  have L0 := Lib.hid hl
  have NLL := Lib.hid nl
  have LL := Lib.hid ll
  clear hl nl ll
  unfold more5
  conv => enter [2, 1]; whnf
  obtain ⟨lo, lc, rfl⟩ := L0.out.len
  by_cases h5 : l.length = 5
  · obtain ⟨hi, shi, rhi⟩ := row_hi okA L0.out 1 (by omega)
    change ∀ w, (Instr.sliceAt 32 (.slice lo l.length lc) (some (.int .i64 1)) none none).run Try.prog w = .ok hi w at shi
    have R := Lib.hid rhi
    have N4 := Lib.hid (nl_drop NLL.out 1)
    have LD := Lib.hid (show ∀ x ∈ l.drop 1, Low x.1 from fun x hx => LL.out x (List.mem_of_mem_drop hx))
    have H4 := Lib.hid (show (l.drop 1).length ≤ 4 by rw [List.length_drop]; omega)
    have e5 : ((l.length : Int) == 5) = true := by rw [h5]; rfl
    clear rhi h5
    go_wp2
    exact more_6 KK.out w _ HG.out B0.out _ p P0.out NP.out LP.out _ q Q0.out NQ.out _ n M0.out NM.out _ _ R.out N4.out LD.out H4.out _ _ _ _ _ _ _ _ _ _ _ _ _ _ _ _ _ _ _ _ _ _ _ _ _ _ _ _ _ _ _ _ _ _ _ _ _ _ _ _ _ _ _ _ _ _ _ _ _ _ _ _ _ _ _ _ _ _ _ _ _ _ _ _ _ _ _ _ _ _ _ _ _ _ _ _ _ _ _ _ _ _ _ _ _ _ _ _ _ _ _ _ _ _ _ _ _ _ _ _ _ _ _
  · have H4 := Lib.hid (show l.length ≤ 4 by have := NLL.out.five; omega)
    have e5 : ((l.length : Int) == 5) = false := by rw [beq_eq_false_iff_ne]; omega
    clear h5
    go_wp2
    exact more_6 KK.out w _ HG.out B0.out _ p P0.out NP.out LP.out _ q Q0.out NQ.out _ n M0.out NM.out _ _ L0.out NLL.out LL.out H4.out _ _ _ _ _ _ _ _ _ _ _ _ _ _ _ _ _ _ _ _ _ _ _ _ _ _ _ _ _ _ _ _ _ _ _ _ _ _ _ _ _ _ _ _ _ _ _ _ _ _ _ _ _ _ _ _ _ _ _ _ _ _ _ _ _ _ _ _ _ _ _ _ _ _ _ _ _ _ _ _ _ _ _ _ _ _ _ _ _ _ _ _ _ _ _ _ _ _ _ _ _ _ _
set_option maxRecDepth 100000 in
set_option maxHeartbeats 8000000 in
theorem more_3 {G : World → Prop} (K : ROks G) (w W : World) (hg : G w) (hb : Below w.heap.size w W) (pv : Value) (p : List Cn) (hp : RowC W pv (p.map r5)) (np : NF p) (lp : ∀ x ∈ p, Low x.1) (p4 : p.length ≤ 4) (qv : Value) (q : List Cn) (hq : RowC W qv (q.map r5)) (nq : NF q) (n : Int) (n1 : -9223372036854775808 ≤ n) (n2 : n ≤ 9223372036854775807) (tb : Nat) (hv vv : Value) (has vals : List Int) (ht : Two W tb hv vv) (i5 : InInts W hv has) (i6 : InInts W vv vals) (l7 : has.length ≤ maxLen) (l8 : vals.length ≤ maxLen)
    (u0 u2 u3 u4 u5 u7 u8 u11 u12 u13 u14 u15 u16 u17 u18 u19 u20 u21 u22 u23 u24 u25 u26 u27 u28 u29 u30 u31 u32 u33 u34 u35 u36 u37 u38 u39 u40 u41 u42 u43 u44 u45 u46 u47 u48 u49 u50 u51 u52 u53 u54 u55 u56 u57 u58 u59 u60 u61 u62 u63 u64 u65 u66 u67 u68 u69 u70 u71 u72 u73 u74 u75 u76 u77 u78 u79 u80 u81 u82 u83 u84 u85 u86 u87 u88 u89 u90 u91 u92 u93 u94 u95 u96 u97 u98 u99 u100 u101 u102 u103 u104 u105 u106 : Value) :
    Code.wp Try.prog more3 (bodyPost Try.prog Try.f8 (RQ w)) ⟨(u0 :: .int .i64 n :: u2 :: u3 :: u4 :: u5 :: .pointer (some ⟨tb, 0, none⟩) :: u7 :: u8 :: pv :: qv :: u11 :: u12 :: u13 :: u14 :: u15 :: u16 :: u17 :: u18 :: u19 :: u20 :: u21 :: u22 :: u23 :: u24 :: u25 :: u26 :: u27 :: u28 :: u29 :: u30 :: u31 :: u32 :: u33 :: u34 :: u35 :: u36 :: u37 :: u38 :: u39 :: u40 :: u41 :: u42 :: u43 :: u44 :: u45 :: u46 :: u47 :: u48 :: u49 :: u50 :: u51 :: u52 :: u53 :: u54 :: u55 :: u56 :: u57 :: u58 :: u59 :: u60 :: u61 :: u62 :: u63 :: u64 :: u65 :: u66 :: u67 :: u68 :: u69 :: u70 :: u71 :: u72 :: u73 :: u74 :: u75 :: u76 :: u77 :: u78 :: u79 :: u80 :: u81 :: u82 :: u83 :: u84 :: u85 :: u86 :: u87 :: u88 :: u89 :: u90 :: u91 :: u92 :: u93 :: u94 :: u95 :: u96 :: u97 :: u98 :: u99 :: u100 :: u101 :: u102 :: u103 :: u104 :: u105 :: u106 :: []).toArray, []⟩ W := by
  have KK := Lib.hid K
  have HG := Lib.hid hg
  have B0 := Lib.hid hb
  clear K hg hb
  have P0 := Lib.hid hp
  have NP := Lib.hid np
  have LP := Lib.hid lp
  clear hp np lp
  have Q0 := Lib.hid hq
  have NQ := Lib.hid nq
  clear hq nq
  have T0 := Lib.hid ht
  have H0 := Lib.hid i5
  have I0 := Lib.hid i6
  have M7 := Lib.hid l7
  have M8 := Lib.hid l8
  clear ht i5 i6 l7 l8
  unfold more3
  conv => enter [2, 1]; whnf
  conv => enter [2, 2, 1]; whnf
  have BA := Lib.hid ((Below.refl W.heap.size W).alloc (Nat.le_refl _) (.cells #[] 23))
  have MK := ownC_nil W
  obtain ⟨v1, w1, r1, o1, g1⟩ := appC W.heap.size MK (P0.out.on BA.out) (by simp) (by rw [List.length_map]; omega) (by simp)
  have B1 := Lib.hid (BA.out.grown g1 (by simp) (fun j hj => (MK.lt j hj).1))
  have O1 := Lib.hid o1
  have CK := Lib.hid (constraint_any ⟨#[122]⟩ n w1 n1 n2)
  have NM := Lib.hid (nf_z NP.out LP.out p4 n)
  change (Builtin.append_ #[25, 25] 25 #[.slice (some ⟨W.heap.size, 0, none⟩) 0 0, pv]).run Try.prog (W.alloc (.cells #[] 23)) = .ok v1 w1 at r1
  clear MK o1 g1 BA n1 n2
  obtain ⟨c, hc⟩ : ∃ c, r5 (nZ, kdOf n) = c := ⟨_, rfl⟩
  have HC := Lib.hid hc
  rw [hc] at CK
  clear hc
  go_wp2_with (first | (at_builtin; refine wpList_append_run rfl _ _ 25 rfl rfl rfl r1 ?_) | fail)
  refine CK.out.mono ?_
  rintro e2 w2 ⟨rfl, hb2⟩
  have B2 := Lib.hid (B1.out.trans (hb2.mono B1.out.size))
  have BX := Lib.hid (B2.out.alloc B2.out.size (.cells #[.string c.1, .int .i64 c.2.1, .int .i64 c.2.2.1, .int .i64 c.2.2.2.1, .string c.2.2.2.2] 23))
  obtain ⟨v3, w3, r3, o3, g3⟩ := appC W.heap.size (own_on O1.out (hb2.alloc hb2.size (.cells #[.string c.1, .int .i64 c.2.1, .int .i64 c.2.2.1, .int .i64 c.2.2.2.1, .string c.2.2.2.2] 23))) (row_oneC w2 c) (by simp; omega) (by simp) BX.out.size
  have B3 := Lib.hid (BX.out.grown g3 BX.out.size (fun j hj => (O1.out.lt j hj).1))
  have M3 := Lib.hid (show RowC w3 v3 ((p ++ [(nZ, kdOf n)]).map r5) by rw [List.map_append, List.map_cons, List.map_nil, HC.out]; exact Row.of_own (by simpa using o3))
  have T3 := Lib.hid (T0.out.on B3.out)
  have t0 := T3.out.1
  have t1 := T3.out.2
  clear hb2 CK r1 o3 g3 B1 B2 BX O1
  go_wp2_with (first | (at_builtin; refine wpList_append_run rfl _ _ 25 rfl rfl rfl r3 ?_) | fail)
  refine (tup_row hv vv has vals w3 (H0.out.on B3.out) (I0.out.on B3.out) M7.out M8.out).mono ?_
  rintro e4 w4 ⟨lv, rfl, hl, hb4⟩
  have B4 := Lib.hid (B3.out.trans (hb4.mono B3.out.size))
  have L4 := Lib.hid hl
  have M4 := Lib.hid (M3.out.on hb4)
  clear hl hb4 t0 t1 r3
  go_wp2
  exact more_5 KK.out w _ HG.out (B0.out.trans (B4.out.mono B0.out.size)) _ p (P0.out.on B4.out) NP.out LP.out _ q (Q0.out.on B4.out) NQ.out _ n M4.out NM.out _ _ L4.out (tup_nl has vals) (tup_low has vals) _ _ _ _ _ _ _ _ _ _ _ _ _ _ _ _ _ _ _ _ _ _ _ _ _ _ _ _ _ _ _ _ _ _ _ _ _ _ _ _ _ _ _ _ _ _ _ _ _ _ _ _ _ _ _ _ _ _ _ _ _ _ _ _ _ _ _ _ _ _ _ _ _ _ _ _ _ _ _ _ _ _ _ _ _ _ _ _ _ _ _ _ _ _ _ _ _ _ _ _ _ _ _
set_option maxRecDepth 100000 in
set_option maxHeartbeats 8000000 in
theorem more_2 {G : World → Prop} (K : ROks G) (w W : World) (hg : G w) (hb : Below w.heap.size w W) (pv : Value) (p : List Cn) (hp : RowC W pv (p.map r5)) (np : NF p) (lp : ∀ x ∈ p, Low x.1) (qv : Value) (q : List Cn) (hq : RowC W qv (q.map r5)) (nq : NF q) (n : Int) (n1 : -9223372036854775808 ≤ n) (n2 : n ≤ 9223372036854775807) (tb : Nat) (hv vv : Value) (has vals : List Int) (ht : Two W tb hv vv) (i5 : InInts W hv has) (i6 : InInts W vv vals) (l7 : has.length ≤ maxLen) (l8 : vals.length ≤ maxLen)
    (u0 u2 u3 u4 u5 u7 u8 u11 u12 u13 u14 u15 u16 u17 u18 u19 u20 u21 u22 u23 u24 u25 u26 u27 u28 u29 u30 u31 u32 u33 u34 u35 u36 u37 u38 u39 u40 u41 u42 u43 u44 u45 u46 u47 u48 u49 u50 u51 u52 u53 u54 u55 u56 u57 u58 u59 u60 u61 u62 u63 u64 u65 u66 u67 u68 u69 u70 u71 u72 u73 u74 u75 u76 u77 u78 u79 u80 u81 u82 u83 u84 u85 u86 u87 u88 u89 u90 u91 u92 u93 u94 u95 u96 u97 u98 u99 u100 u101 u102 u103 u104 u105 u106 : Value) :
    Code.wp Try.prog more2 (bodyPost Try.prog Try.f8 (RQ w)) ⟨(u0 :: .int .i64 n :: u2 :: u3 :: u4 :: u5 :: .pointer (some ⟨tb, 0, none⟩) :: u7 :: u8 :: pv :: qv :: u11 :: u12 :: u13 :: u14 :: u15 :: u16 :: u17 :: u18 :: u19 :: u20 :: u21 :: u22 :: u23 :: u24 :: u25 :: u26 :: u27 :: u28 :: u29 :: u30 :: u31 :: u32 :: u33 :: u34 :: u35 :: u36 :: u37 :: u38 :: u39 :: u40 :: u41 :: u42 :: u43 :: u44 :: u45 :: u46 :: u47 :: u48 :: u49 :: u50 :: u51 :: u52 :: u53 :: u54 :: u55 :: u56 :: u57 :: u58 :: u59 :: u60 :: u61 :: u62 :: u63 :: u64 :: u65 :: u66 :: u67 :: u68 :: u69 :: u70 :: u71 :: u72 :: u73 :: u74 :: u75 :: u76 :: u77 :: u78 :: u79 :: u80 :: u81 :: u82 :: u83 :: u84 :: u85 :: u86 :: u87 :: u88 :: u89 :: u90 :: u91 :: u92 :: u93 :: u94 :: u95 :: u96 :: u97 :: u98 :: u99 :: u100 :: u101 :: u102 :: u103 :: u104 :: u105 :: u106 :: []).toArray, []⟩ W := by
  have KK := Lib.hid K
  have HG := Lib.hid hg
  have B0 := Lib.hid hb
  clear K hg hb
  have P0 := Lib.hid hp
  have NP := Lib.hid np
  have LP := Lib.hid lp
  clear hp np lp
  have Q0 := Lib.hid hq
  have NQ := Lib.hid nq
  clear hq nq
  have T0 := Lib.hid ht
  have H0 := Lib.hid i5
  have I0 := Lib.hid i6
  have M7 := Lib.hid l7
  have M8 := Lib.hid l8
  clear ht i5 i6 l7 l8
  unfold more2
  conv => enter [2, 1]; whnf
  obtain ⟨po, pc, rfl⟩ := P0.out.len
  by_cases h5 : p.length = 5
  · obtain ⟨hi, shi, rhi⟩ := hiC P0.out 1 (by rw [List.length_map]; omega)
    change ∀ w, (Instr.sliceAt 25 (.slice po (p.map r5).length pc) (some (.int .i64 1)) none none).run Try.prog w = .ok hi w at shi
    have R := Lib.hid (show RowC W hi ((p.drop 1).map r5) by rw [List.map_drop]; exact rhi)
    have N4 := Lib.hid (nf_drop NP.out 1)
    have LD := Lib.hid (show ∀ x ∈ p.drop 1, Low x.1 from fun x hx => LP.out x (List.mem_of_mem_drop hx))
    have H4 := Lib.hid (show (p.drop 1).length ≤ 4 by rw [List.length_drop]; omega)
    simp only [List.length_map] at shi P0 ⊢
    have e5 : ((p.length : Int) == 5) = true := by rw [h5]; rfl
    clear rhi h5
    go_wp2
    exact more_3 KK.out w _ HG.out B0.out _ _ R.out N4.out LD.out H4.out _ q Q0.out NQ.out n n1 n2 tb hv vv has vals T0.out H0.out I0.out M7.out M8.out _ _ _ _ _ _ _ _ _ _ _ _ _ _ _ _ _ _ _ _ _ _ _ _ _ _ _ _ _ _ _ _ _ _ _ _ _ _ _ _ _ _ _ _ _ _ _ _ _ _ _ _ _ _ _ _ _ _ _ _ _ _ _ _ _ _ _ _ _ _ _ _ _ _ _ _ _ _ _ _ _ _ _ _ _ _ _ _ _ _ _ _ _ _ _ _ _ _ _ _ _ _ _
  · have H4 := Lib.hid (show p.length ≤ 4 by have := NP.out.five; omega)
    simp only [List.length_map] at P0 ⊢
    have e5 : ((p.length : Int) == 5) = false := by rw [beq_eq_false_iff_ne]; omega
    clear h5
    go_wp2
    exact more_3 KK.out w _ HG.out B0.out _ _ P0.out NP.out LP.out H4.out _ q Q0.out NQ.out n n1 n2 tb hv vv has vals T0.out H0.out I0.out M7.out M8.out _ _ _ _ _ _ _ _ _ _ _ _ _ _ _ _ _ _ _ _ _ _ _ _ _ _ _ _ _ _ _ _ _ _ _ _ _ _ _ _ _ _ _ _ _ _ _ _ _ _ _ _ _ _ _ _ _ _ _ _ _ _ _ _ _ _ _ _ _ _ _ _ _ _ _ _ _ _ _ _ _ _ _ _ _ _ _ _ _ _ _ _ _ _ _ _ _ _ _ _ _ _ _
abbrev layM (w : World) (a b c d e f : Value) : World := (((w.alloc (.cells #[a, b] 29)).alloc (.cells #[c, d] 30)).alloc (.cells #[e, f] 29)).drew
set_option maxRecDepth 100000 in
set_option maxHeartbeats 8000000 in
theorem more_any {G : World → Prop} (K : ROks G) (hv vv tv sv ov_ uv : Value) (has vals has2 vals2 has3 vals3 : List Int) (n : Int) (w : World) (hg : G w) (n1 : -9223372036854775808 ≤ n) (n2 : n ≤ 9223372036854775807) (i1 : InInts w hv has) (i2 : InInts w vv vals) (i3 : InInts w tv has2) (i4 : InInts w sv vals2) (i5 : InInts w ov_ has3) (i6 : InInts w uv vals3)
    (l1 : has.length ≤ maxLen) (l2 : vals.length ≤ maxLen) (l3 : has2.length ≤ maxLen) (l4 : vals2.length ≤ maxLen) (l5 : has3.length ≤ maxLen) (l6 : vals3.length ≤ maxLen) :
    Calls Try.prog 8 #[.agg #[hv, vv], .int .i64 n, .agg #[tv, sv], .agg #[ov_, uv]] w (RQ w) := by
  have HG := Lib.hid hg
  have B0 := Lib.hid (show Below w.heap.size w (layM w hv vv tv sv ov_ uv) from ((((Below.refl _ _).alloc (Nat.le_refl _) _).alloc (by simp) _).alloc (by simp; omega) _).drew)
  have T1 := Lib.hid (fun W hW => pred_row hv vv has vals (layM w hv vv tv sv ov_ uv) W hW (i1.on B0.out) (i2.on B0.out) l1 l2)
  have T3 := Lib.hid (fun W hW => pred_row ov_ uv has3 vals3 (layM w hv vv tv sv ov_ uv) W hW (i5.on B0.out) (i6.on B0.out) l5 l6)
  have TT := Lib.hid (show Two (layM w hv vv tv sv ov_ uv) (w.heap.size + 1) tv sv by constructor <;> simp [go_sem, layM])
  have X3 := Lib.hid (i3.on B0.out)
  have X4 := Lib.hid (i4.on B0.out)
  have Y3 := Lib.hid l3
  have Y4 := Lib.hid l4
  have NA := Lib.hid (prd_nf has vals)
  have NB := Lib.hid (prd_nf has3 vals3)
  have LA := Lib.hid (prd_low has vals)
  have A0 := Lib.hid (show Two (layM w hv vv tv sv ov_ uv) w.heap.size hv vv by constructor <;> simp [go_sem, layM])
  have C0 := Lib.hid (show Two (layM w hv vv tv sv ov_ uv) (w.heap.size + 1 + 1) ov_ uv by constructor <;> simp [go_sem, layM])
  have a0 := A0.out.1
  have a1 := A0.out.2
  have c0 := C0.out.1
  have c1 := C0.out.2
  clear hg i1 i2 i3 i4 i5 i6 l1 l2 l3 l4 l5 l6
  generalize prd has vals 7 = l at *
  generalize prd has3 vals3 7 = m at *
  go_enter Try.func8, Try.ntmps8
  go_wp2_with fail
  go_region_law (first
    | (refine step_call_run rfl (ex_call1 _ _ (.tmp 17) 29 12 rfl rfl rfl _ (call_pred _ _)) (T1.out _ (Below.refl _ _)) ?_; rintro e3 w3 ⟨pv, rfl, hp, hbp⟩; have L3 := Lib.hid (C0.out.on hbp); have d0 := L3.out.1; have d1 := L3.out.2; refine ⟨_, rfl, ?_⟩)
    | (refine step_call_run rfl (ex_call1 _ _ (.tmp 19) 29 12 rfl rfl rfl _ (call_pred _ _)) (T3.out _ hbp) ?_; rintro e4 w4 ⟨qv, rfl, hq, hbq⟩; have hbQ := hbp.trans (hbq.mono hbp.size); refine ⟨_, rfl, ?_⟩))
  all_goals simp only [Exit.then]
  all_goals apply_assumption
  all_goals exact more_2 K w _ HG.out (B0.out.trans (hbQ.mono B0.out.size)) _ l (hp.on hbq) NA.out LA.out _ m hq NB.out n n1 n2 _ tv sv has2 vals2 (TT.out.on hbQ) (X3.out.on hbQ) (X4.out.on hbQ) Y3.out Y4.out _ _ _ _ _ _ _ _ _ _ _ _ _ _ _ _ _ _ _ _ _ _ _ _ _ _ _ _ _ _ _ _ _ _ _ _ _ _ _ _ _ _ _ _ _ _ _ _ _ _ _ _ _ _ _ _ _ _ _ _ _ _ _ _ _ _ _ _ _ _ _ _ _ _ _ _ _ _ _ _ _ _ _ _ _ _ _ _ _ _ _ _ _ _ _ _ _ _ _ _ _ _ _
end Go.Proofs.Ytdomincmoaahoaa.Rl
