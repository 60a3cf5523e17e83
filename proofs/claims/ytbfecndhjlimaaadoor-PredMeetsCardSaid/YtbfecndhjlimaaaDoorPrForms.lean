/-
  The law PredForms, whole: it answers true at any two predicates of numbers and any place. Condition: the contracts of package pred; numbers of 64 bits; lists no longer than a machine holds.
-/
import Derived.Test.YtbfecndhjlimaaaDoorPrFormsB
namespace Go.Proofs.YtbfecndhjlimaaaDoor.Pr
open Go.RowKit Go.Sort Go.Proofs.YtbfecndhjlimaaaDoor Go.Proofs.YtbfecndhjlimaaaDoor.Pu Go.Proofs.YtbfecndhjlimaaaDoor.Rw Go.Proofs.YtbfecndhjlimaaaDoor.Va Go.Proofs.YtbfecndhjlimaaaDoor.Kp Go.Proofs.YtbfecndhjlimaaaDoor.In

noncomputable def fp (k : Nat) : Code := headN k (Tryd.f4.body.getD .skip)
noncomputable def forms2 : Code := .seq (fp 2) (.seq (fp 3) forms4)
set_option maxRecDepth 100000 in
set_option maxHeartbeats 4000000 in
theorem forms_2 {G : World → Prop} (K : POks G) (w W : World) (pv qv : Value) (l m : List Cn) (n : Int) (n0 : -9223372036854775808 ≤ n) (n1 : n ≤ 9223372036854775807) (hg : G w) (hb : Below w.heap.size w W) (hp : RowC W pv (l.map r5)) (hq : RowC W qv (m.map r5)) (nl : NF l) (nm_ : NF m)
    (u0 u1 u3 u4 u5 u6 u9 u10 u11 u12 u13 u14 u15 u16 u17 u18 u19 u20 u21 u22 u23 u24 u25 u26 u27 u28 u29 u30 u31 u32 u33 u34 u35 u36 u37 u38 u39 u40 u41 u42 u43 u44 u45 u46 u47 u48 u49 u50 u51 u52 u53 u54 u55 u56 u57 u58 u59 u60 u61 u62 u63 u64 u65 u66 u67 u68 u69 u70 u71 u72 u73 u74 u75 u76 u77 u78 u79 u80 u81 u82 u83 u84 u85 u86 u87 u88 u89 u90 u91 u92 u93 u94 u95 u96 u97 u98 u99 u100 u101 u102 u103 u104 u105 u106 u107 u108 u109 u110 u111 u112 u113 u114 u115 u116 u117 : Value) :
    Code.wp Tryd.prog forms2 (bodyPost Tryd.prog Tryd.f4 (PFQ w)) ⟨(u0 :: u1 :: .int .i64 n :: u3 :: u4 :: u5 :: u6 :: pv :: qv :: u9 :: u10 :: u11 :: u12 :: u13 :: u14 :: u15 :: u16 :: u17 :: u18 :: u19 :: u20 :: u21 :: u22 :: u23 :: u24 :: u25 :: u26 :: u27 :: u28 :: u29 :: u30 :: u31 :: u32 :: u33 :: u34 :: u35 :: u36 :: u37 :: u38 :: u39 :: u40 :: u41 :: u42 :: u43 :: u44 :: u45 :: u46 :: u47 :: u48 :: u49 :: u50 :: u51 :: u52 :: u53 :: u54 :: u55 :: u56 :: u57 :: u58 :: u59 :: u60 :: u61 :: u62 :: u63 :: u64 :: u65 :: u66 :: u67 :: u68 :: u69 :: u70 :: u71 :: u72 :: u73 :: u74 :: u75 :: u76 :: u77 :: u78 :: u79 :: u80 :: u81 :: u82 :: u83 :: u84 :: u85 :: u86 :: u87 :: u88 :: u89 :: u90 :: u91 :: u92 :: u93 :: u94 :: u95 :: u96 :: u97 :: u98 :: u99 :: u100 :: u101 :: u102 :: u103 :: u104 :: u105 :: u106 :: u107 :: u108 :: u109 :: u110 :: u111 :: u112 :: u113 :: u114 :: u115 :: u116 :: u117 :: []).toArray, []⟩ W := by
  have HG := Lib.hid hg
  have B0 := Lib.hid hb
  have P0 := Lib.hid hp
  have Q0 := Lib.hid hq
  have NL := Lib.hid nl
  have NM := Lib.hid nm_
  have l5 := nl.five
  have CX := Lib.hid (make_ok K pv l l W (make_self l nl.rise nl.five) (K.bel _ _ hg hb) hp nl.smallP nl.good)
  have WI := Lib.hid (fun wx => Wi.within_any n 0 (l.length : Int) wx (by omega) (by omega) (by omega) n0 n1)
  have wb := Wi.within_bd n 0 (l.length : Int) (by omega)
  obtain ⟨c, hcw⟩ := Int.eq_ofNat_of_zero_le wb.1
  have hc : c ≤ l.length := by omega
  rw [hcw] at WI
  obtain ⟨po, pc, hpv⟩ := hp.len
  rw [List.length_map] at hpv
  subst hpv
  clear hg hb hp hq nl nm_ n0 n1 wb hcw
  unfold forms2
  conv => enter [2, 1]; whnf
  conv => enter [2, 2, 1]; whnf
  go_wp2_with fail
  refine CX.out.mono ?_
  rintro e1 w1 ⟨xv, rfl, hx, hb⟩
  have B1 := Lib.hid (B0.out.trans (hb.mono B0.out.size))
  have P1 := Lib.hid (P0.out.on hb)
  have Q1 := Lib.hid (Q0.out.on hb)
  have X1 := Lib.hid hx
  clear hb hx B0 P0 Q0 CX
  go_wp2_with fail
  refine (WI.out _).mono ?_
  rintro e2 w2 ⟨rfl, rfl⟩
  go_wp2_with fail
  exact forms_4 K w w1 _ _ _ l m n c hc HG.out B1.out P1.out Q1.out X1.out NL.out NM.out _ _ _ _ _ _ _ _ _ _ _ _ _ _ _ _ _ _ _ _ _ _ _ _ _ _ _ _ _ _ _ _ _ _ _ _ _ _ _ _ _ _ _ _ _ _ _ _ _ _ _ _ _ _ _ _ _ _ _ _ _ _ _ _ _ _ _ _ _ _ _ _ _ _ _ _ _ _ _ _ _ _ _ _ _ _ _ _ _ _ _ _ _ _ _ _ _ _ _ _ _ _ _ _ _ _ _ _ _ _ _ _ 

theorem pred_row (hv vv : Value) (has vals : List Int) (W w : World) (hw : Below W.heap.size W w) (hh : InInts W hv has) (hw2 : InInts W vv vals) (lh : has.length ≤ maxLen) (lv : vals.length ≤ maxLen) :
    Calls Tryd.prog 13 #[.agg #[hv, vv]] w fun e w' => ∃ v, e = .returned v ∧ RowC w' v ((prd has vals 7).map r5) ∧ Below w.heap.size w w' :=
  (pred_any hv vv has vals w (hh.on hw) (hw2.on hw) lh lv).mono (fun _ _ ⟨v, h1, h2, h3⟩ => ⟨v, h1, Row.of_own h2, h3⟩)
theorem load_runP (w : World) (b : Nat) (x y : Value) (h0 : w.cell? ⟨b, 0, none⟩ = some x) (h1 : w.cell? ⟨b, 1, none⟩ = some y) : (Instr.loadAt 37 (.pointer (some ⟨b, 0, none⟩))).run Tryd.prog w = .ok (.agg #[x, y]) w := by
  simp [go_sem, h0, h1]
set_option maxRecDepth 100000 in
set_option maxHeartbeats 4000000 in
theorem forms_any {G : World → Prop} (K : POks G) (hv vv ov_ uv : Value) (has vals has2 vals2 : List Int) (n : Int) (w : World) (hg : G w) (i1 : InInts w hv has) (i2 : InInts w vv vals) (i3 : InInts w ov_ has2) (i4 : InInts w uv vals2)
    (l1 : has.length ≤ maxLen) (l2 : vals.length ≤ maxLen) (l3 : has2.length ≤ maxLen) (l4 : vals2.length ≤ maxLen) (n0 : -9223372036854775808 ≤ n) (n1 : n ≤ 9223372036854775807) :
    Calls Tryd.prog 4 #[.agg #[hv, vv], .agg #[ov_, uv], .int .i64 n] w (PFQ w) := by
  have HG := Lib.hid hg
  have V := Lib.hid (And.intro n0 n1)
  have B0 := Lib.hid (show Below w.heap.size w (((w.alloc (.cells #[hv, vv] 37)).alloc (.cells #[ov_, uv] 37)).drew) from (((Below.refl _ _).alloc (Nat.le_refl _) _).alloc (by simp) _).drew)
  have T1 := Lib.hid (fun W hW => pred_row hv vv has vals (((w.alloc (.cells #[hv, vv] 37)).alloc (.cells #[ov_, uv] 37)).drew) W hW (i1.on B0.out) (i2.on B0.out) l1 l2)
  have T2 := Lib.hid (fun W hW => pred_row ov_ uv has2 vals2 (((w.alloc (.cells #[hv, vv] 37)).alloc (.cells #[ov_, uv] 37)).drew) W hW (i3.on B0.out) (i4.on B0.out) l3 l4)
  have NL := Lib.hid (prd_nf has vals)
  have NM := Lib.hid (prd_nf has2 vals2)
  have a0 : (((w.alloc (.cells #[hv, vv] 37)).alloc (.cells #[ov_, uv] 37)).drew).cell? ⟨w.heap.size, 0, none⟩ = some hv := by simp
  have a1 : (((w.alloc (.cells #[hv, vv] 37)).alloc (.cells #[ov_, uv] 37)).drew).cell? ⟨w.heap.size, 1, none⟩ = some vv := by simp
  have b0 : (((w.alloc (.cells #[hv, vv] 37)).alloc (.cells #[ov_, uv] 37)).drew).cell? ⟨w.heap.size + 1, 0, none⟩ = some ov_ := by simp
  have b1 : (((w.alloc (.cells #[hv, vv] 37)).alloc (.cells #[ov_, uv] 37)).drew).cell? ⟨w.heap.size + 1, 1, none⟩ = some uv := by simp
  have hsz : (((w.alloc (.cells #[hv, vv] 37)).alloc (.cells #[ov_, uv] 37)).drew).heap.size = w.heap.size + 2 := by simp
  clear hg i1 i2 i3 i4 l1 l2 l3 l4 n0 n1
  generalize prd has vals 7 = l at *
  generalize prd has2 vals2 7 = m at *
  go_enter Tryd.func4, Tryd.ntmps4
  go_wp2_with fail
  go_region_law (first | (refine step_call_run rfl (ex_call1 _ _ (.tmp 18) 37 13 rfl rfl rfl _ (call_pred _ _)) (T1.out _ (by first | exact Below.refl _ _ | assumption)) ?_; rintro e3 w3 ⟨pv, rfl, hp, hbp⟩; (try have k0 := (hbp.cell (p := ⟨w.heap.size + 1, 0, none⟩) (by rw [hsz]; simp)).trans b0); (try have k1 := (hbp.cell (p := ⟨w.heap.size + 1, 1, none⟩) (by rw [hsz]; simp)).trans b1); refine ⟨_, rfl, ?_⟩) | (refine step_call_run rfl (ex_call1 _ _ (.tmp 20) 37 13 rfl rfl rfl _ (call_pred _ _)) (T2.out _ (by first | exact Below.refl _ _ | assumption)) ?_; rintro e4 w4 ⟨qv, rfl, hq, hbq⟩; (try have k0 := (hbq.cell (p := ⟨w.heap.size, 0, none⟩) (by rw [hsz]; simp)).trans a0); (try have k1 := (hbq.cell (p := ⟨w.heap.size, 1, none⟩) (by rw [hsz]; simp)).trans a1); refine ⟨_, rfl, ?_⟩))
  all_goals simp only [Exit.then]
  all_goals apply_assumption
  all_goals first
    | exact forms_2 K w _ _ _ l m n V.out.1 V.out.2 HG.out (B0.out.trans ((hbp.trans (hbq.mono hbp.size)).mono B0.out.size)) (hp.on hbq) hq NL.out NM.out _ _ _ _ _ _ _ _ _ _ _ _ _ _ _ _ _ _ _ _ _ _ _ _ _ _ _ _ _ _ _ _ _ _ _ _ _ _ _ _ _ _ _ _ _ _ _ _ _ _ _ _ _ _ _ _ _ _ _ _ _ _ _ _ _ _ _ _ _ _ _ _ _ _ _ _ _ _ _ _ _ _ _ _ _ _ _ _ _ _ _ _ _ _ _ _ _ _ _ _ _ _ _ _ _ _ _ _ _ _ _ _ _ _ _ 
    | exact forms_2 K w _ _ _ l m n V.out.1 V.out.2 HG.out (B0.out.trans ((hbq.trans (hbp.mono hbq.size)).mono B0.out.size)) hp (hq.on hbp) NL.out NM.out _ _ _ _ _ _ _ _ _ _ _ _ _ _ _ _ _ _ _ _ _ _ _ _ _ _ _ _ _ _ _ _ _ _ _ _ _ _ _ _ _ _ _ _ _ _ _ _ _ _ _ _ _ _ _ _ _ _ _ _ _ _ _ _ _ _ _ _ _ _ _ _ _ _ _ _ _ _ _ _ _ _ _ _ _ _ _ _ _ _ _ _ _ _ _ _ _ _ _ _ _ _ _ _ _ _ _ _ _ _ _ _ _ _ _ 
end Go.Proofs.YtbfecndhjlimaaaDoor.Pr
