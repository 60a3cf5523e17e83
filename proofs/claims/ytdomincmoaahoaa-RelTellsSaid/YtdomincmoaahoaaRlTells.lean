/-
  The law RelTells, whole, out of the contracts wanted of package rel. Conditions: those contracts; lists no longer than a machine holds.
-/
import Derived.Test.YtdomincmoaahoaaRlRefE
import Derived.Test.YtdomincmoaahoaaRlTrue
import Derived.Deep.Cut
import Derived.Deep.CutBlock
namespace Go.Proofs.Ytdomincmoaahoaa.Rl
open Go.RowKit Go.Sort Go.Proofs.Ytdomincmoaahoaa Go.Proofs.Ytdomincmoaahoaa.Pu Go.Proofs.Ytdomincmoaahoaa.Rw Go.Proofs.Ytdomincmoaahoaa.Pr Go.Proofs.Ytdomincmoaahoaa.In Go.Proofs.Ytdomincmoaahoaa.Kp

noncomputable def tells2 : Code := afterN 2 (Try.f4.body.getD .skip)
set_option maxRecDepth 100000 in
set_option maxHeartbeats 8000000 in
theorem tells_2 {G : World → Prop} (K : ROks G) (w W : World) (hg : G w) (hb : Below w.heap.size w W) (av_ bv : Value) (a b : List Cn) (hp : RowC W av_ (a.map r5)) (hq : RowC W bv (b.map r5)) (na : NF a) (nb : NF b) (lv : Value) (l : List An) (hl : RowL W lv l) (nl : NL l)
    (u0 u1 u2 u3 u4 u5 u6 u10 u11 u12 u13 u14 u15 u16 u17 u18 u19 u20 u21 u22 u23 u24 u25 u26 u27 u28 u29 u30 u31 u32 u33 u34 u35 u36 u37 u38 u39 u40 u41 u42 u43 : Value) :
    Code.wp Try.prog tells2 (bodyPost Try.prog Try.f4 (RQ w)) ⟨(u0 :: u1 :: u2 :: u3 :: u4 :: u5 :: u6 :: av_ :: bv :: lv :: u10 :: u11 :: u12 :: u13 :: u14 :: u15 :: u16 :: u17 :: u18 :: u19 :: u20 :: u21 :: u22 :: u23 :: u24 :: u25 :: u26 :: u27 :: u28 :: u29 :: u30 :: u31 :: u32 :: u33 :: u34 :: u35 :: u36 :: u37 :: u38 :: u39 :: u40 :: u41 :: u42 :: u43 :: []).toArray, []⟩ W := by
  have KK := Lib.hid K
  have HG := Lib.hid hg
  have B0 := Lib.hid hb
  have P0 := Lib.hid hp
  have Q0 := Lib.hid hq
  have NA := Lib.hid na
  have NB := Lib.hid nb
  clear K hg hb hp hq na nb
  have L0 := Lib.hid hl
  have NLL := Lib.hid nl
  clear hl nl
  have a5 := NA.out.five
  have b5 := NB.out.five
  have l5 := NLL.out.five
  have FA := Lib.hid (show a.length ≤ 100 by omega)
  have FB := Lib.hid (show b.length ≤ 100 by omega)
  have FL := Lib.hid (show l.length ≤ 100 by omega)
  obtain ⟨x, hx⟩ : ∃ x, matchL a l = x := ⟨_, rfl⟩
  obtain ⟨m, hm⟩ : ∃ m, meetsB a b = m := ⟨_, rfl⟩
  obtain ⟨c, hc⟩ : ∃ c, coversL a b = c := ⟨_, rfl⟩
  have HX := Lib.hid hx
  have HM := Lib.hid hm
  have HC := Lib.hid hc
  clear hx hm hc a5 b5 l5
  unfold tells2
  conv => arg 2; whnf
  rcases x with _ | _ <;> rcases m with _ | _ <;> rcases c with _ | _
  all_goals
    go_wp2_with fail
    refine (KK.out.match_ _ _ a l _ (KK.out.bel _ _ HG.out B0.out) P0.out L0.out NA.out NLL.out).mono ?_
    rintro e1 w1 ⟨rfl, hb⟩
    rw [HX.out]
    have B1 := Lib.hid (B0.out.trans (hb.mono B0.out.size))
    have P1 := Lib.hid (P0.out.on hb)
    have Q1 := Lib.hid (Q0.out.on hb)
    have L1 := Lib.hid (L0.out.on hb)
    clear hb B0 P0 Q0 L0
    go_wp2_with fail
    refine (rmatch_any _ _ a l _ P1.out L1.out FA.out FL.out).mono ?_
    rintro e2 w2 ⟨rfl, hb⟩
    rw [HX.out]
    have B2 := Lib.hid (B1.out.trans (hb.mono B1.out.size))
    have P2 := Lib.hid (P1.out.on hb)
    have Q2 := Lib.hid (Q1.out.on hb)
    have L2 := Lib.hid (L1.out.on hb)
    clear hb B1 P1 Q1 L1
    go_wp2_with fail
    refine (KK.out.meets _ _ a b _ (KK.out.bel _ _ HG.out B2.out) P2.out Q2.out NA.out NB.out).mono ?_
    rintro e3 w3 ⟨rfl, hb⟩
    rw [HM.out]
    have B3 := Lib.hid (B2.out.trans (hb.mono B2.out.size))
    have P3 := Lib.hid (P2.out.on hb)
    have Q3 := Lib.hid (Q2.out.on hb)
    have L3 := Lib.hid (L2.out.on hb)
    clear hb B2 P2 Q2 L2
    go_wp2_with fail
    refine (rmeetsR_any _ _ a b _ P3.out Q3.out NA.out NB.out).mono ?_
    rintro e4 w4 ⟨rfl, hb⟩
    rw [HM.out]
    have B4 := Lib.hid (B3.out.trans (hb.mono B3.out.size))
    have P4 := Lib.hid (P3.out.on hb)
    have Q4 := Lib.hid (Q3.out.on hb)
    have L4 := Lib.hid (L3.out.on hb)
    clear hb B3 P3 Q3 L3
    go_wp2_with fail
    refine (KK.out.covers _ _ a b _ (KK.out.bel _ _ HG.out B4.out) P4.out Q4.out NA.out NB.out).mono ?_
    rintro e5 w5 ⟨rfl, hb⟩
    rw [HC.out]
    have B5 := Lib.hid (B4.out.trans (hb.mono B4.out.size))
    have P5 := Lib.hid (P4.out.on hb)
    have Q5 := Lib.hid (Q4.out.on hb)
    have L5 := Lib.hid (L4.out.on hb)
    clear hb B4 P4 Q4 L4
    go_wp2_with fail
    refine (rcovers_any _ _ a b _ P5.out Q5.out FA.out FB.out).mono ?_
    rintro e6 w6 ⟨rfl, hb⟩
    rw [HC.out]
    have B6 := Lib.hid (B5.out.trans (hb.mono B5.out.size))
    have P6 := Lib.hid (P5.out.on hb)
    have Q6 := Lib.hid (Q5.out.on hb)
    have L6 := Lib.hid (L5.out.on hb)
    clear hb B5 P5 Q5 L5
    go_wp2_with fail
    refine (runs_any KK.out _ (KK.out.bel _ _ HG.out B6.out)).mono ?_
    rintro e7 w7 ⟨rfl, hb⟩
    have B7 := Lib.hid (B6.out.trans (hb.mono B6.out.size))
    have P7 := Lib.hid (P6.out.on hb)
    have Q7 := Lib.hid (Q6.out.on hb)
    have L7 := Lib.hid (L6.out.on hb)
    clear hb B6 P6 Q6 L6
    go_wp2
    go_ret
    exact ⟨rfl, B7.out⟩
abbrev layT (w : World) (a b c d e f : Value) : World := (((w.alloc (.cells #[a, b] 29)).alloc (.cells #[c, d] 29)).alloc (.cells #[e, f] 30)).drew
def Two (W : World) (b : Nat) (x y : Value) : Prop := W.cell? ⟨b, 0, none⟩ = some x ∧ W.cell? ⟨b, 1, none⟩ = some y
theorem Two.on {W W' : World} {b : Nat} {x y : Value} (h : Two W b x y) (hb : Below W.heap.size W W') : Two W' b x y :=
  ⟨(hb.cell (p := ⟨b, 0, none⟩) (World.block_lt_of_cell? W _ h.1)).trans h.1, (hb.cell (p := ⟨b, 1, none⟩) (World.block_lt_of_cell? W _ h.2)).trans h.2⟩
theorem call_tuple (v : Value) (w : World) : (callFunc 13 #[v]).run Try.prog w = .ok (.enter 13 #[v]) w := call_fn Try.func13 (by kernel_rfl) rfl _ _
set_option maxRecDepth 100000 in
set_option maxHeartbeats 8000000 in
theorem tells_any {G : World → Prop} (K : ROks G) (hv vv ov_ uv tv sv : Value) (has vals has2 vals2 has3 vals3 : List Int) (w : World) (hg : G w) (i1 : InInts w hv has) (i2 : InInts w vv vals) (i3 : InInts w ov_ has2) (i4 : InInts w uv vals2) (i5 : InInts w tv has3) (i6 : InInts w sv vals3)
    (l1 : has.length ≤ maxLen) (l2 : vals.length ≤ maxLen) (l3 : has2.length ≤ maxLen) (l4 : vals2.length ≤ maxLen) (l5 : has3.length ≤ maxLen) (l6 : vals3.length ≤ maxLen) :
    Calls Try.prog 4 #[.agg #[hv, vv], .agg #[ov_, uv], .agg #[tv, sv]] w (RQ w) := by
  have HG := Lib.hid hg
  have B0 := Lib.hid (show Below w.heap.size w (layT w hv vv ov_ uv tv sv) from ((((Below.refl _ _).alloc (Nat.le_refl _) _).alloc (by simp) _).alloc (by simp; omega) _).drew)
  have T1 := Lib.hid (fun W hW => pred_row hv vv has vals (layT w hv vv ov_ uv tv sv) W hW (i1.on B0.out) (i2.on B0.out) l1 l2)
  have T2 := Lib.hid (fun W hW => pred_row ov_ uv has2 vals2 (layT w hv vv ov_ uv tv sv) W hW (i3.on B0.out) (i4.on B0.out) l3 l4)
  have T3 := Lib.hid (fun W (hW : Below (layT w hv vv ov_ uv tv sv).heap.size (layT w hv vv ov_ uv tv sv) W) => tup_row tv sv has3 vals3 W ((i5.on B0.out).on hW) ((i6.on B0.out).on hW) l5 l6)
  have NA := Lib.hid (prd_nf has vals)
  have NB := Lib.hid (prd_nf has2 vals2)
  have NL3 := Lib.hid (tup_nl has3 vals3)
  have A0 := Lib.hid (show Two (layT w hv vv ov_ uv tv sv) w.heap.size hv vv by constructor <;> simp [go_sem, layT])
  have C0 := Lib.hid (show Two (layT w hv vv ov_ uv tv sv) (w.heap.size + 1) ov_ uv by constructor <;> simp [go_sem, layT])
  have E0 := Lib.hid (show Two (layT w hv vv ov_ uv tv sv) (w.heap.size + 1 + 1) tv sv by constructor <;> simp [go_sem, layT])
  have a0 := A0.out.1
  have a1 := A0.out.2
  have c0 := C0.out.1
  have c1 := C0.out.2
  have f0 := E0.out.1
  have f1 := E0.out.2
  clear hg i1 i2 i3 i4 i5 i6 l1 l2 l3 l4 l5 l6
  generalize prd has vals 7 = l at *
  generalize prd has2 vals2 7 = m at *
  generalize At.tup has3 vals3 7 = k at *
  go_enter Try.func4, Try.ntmps4
  go_wp2_with fail
  go_region_law (first
    | (refine step_call_run rfl (ex_call1 _ _ (.tmp 10) 29 12 rfl rfl rfl _ (call_pred _ _)) (T1.out _ (Below.refl _ _)) ?_; rintro e3 w3 ⟨pv, rfl, hp, hbp⟩; have L3 := Lib.hid (C0.out.on hbp); have d0 := L3.out.1; have d1 := L3.out.2; have M3 := Lib.hid (E0.out.on hbp); have g0 := M3.out.1; have g1 := M3.out.2; refine ⟨_, rfl, ?_⟩)
    | (refine step_call_run rfl (ex_call1 _ _ (.tmp 12) 29 12 rfl rfl rfl _ (call_pred _ _)) (T2.out _ hbp) ?_; rintro e4 w4 ⟨qv, rfl, hq, hbq⟩; have hbQ := hbp.trans (hbq.mono hbp.size); have M4 := Lib.hid (E0.out.on hbQ); have k0 := M4.out.1; have k1 := M4.out.2; refine ⟨_, rfl, ?_⟩)
    | (refine step_call_run rfl (ex_call1 _ _ (.tmp 14) 30 13 rfl rfl rfl _ (call_tuple _ _)) (T3.out _ hbQ) ?_; rintro e5 w5 ⟨rv, rfl, hr, hbr⟩; refine ⟨_, rfl, ?_⟩))
  all_goals simp only [Exit.then]
  all_goals apply_assumption
  all_goals exact tells_2 K w _ HG.out (B0.out.trans ((hbQ.trans (hbr.mono hbQ.size)).mono B0.out.size)) _ _ l m ((hp.on hbq).on hbr) (hq.on hbr) NA.out NB.out _ k hr NL3.out _ _ _ _ _ _ _ _ _ _ _ _ _ _ _ _ _ _ _ _ _ _ _ _ _ _ _ _ _ _ _ _ _ _ _ _ _ _ _ _ _
end Go.Proofs.Ytdomincmoaahoaa.Rl
