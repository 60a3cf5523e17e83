/-
  The law RelLaws, whole: it answers true at any three predicates of numbers. Condition: the contracts of package rel; lists no longer than a machine holds.
-/
import Derived.Test.YtdomincmoaahoaaBi
import Derived.Test.YtdomincmoaahoaaRlLawsB
namespace Go.Proofs.Ytdomincmoaahoaa.Rl
open Go.RowKit Go.Sort Go.Proofs.Ytdomincmoaahoaa Go.Proofs.Ytdomincmoaahoaa.Pu Go.Proofs.Ytdomincmoaahoaa.Rw Go.Proofs.Ytdomincmoaahoaa.Pr Go.Proofs.Ytdomincmoaahoaa.In Go.Proofs.Ytdomincmoaahoaa.Kp

abbrev lay3 (w : World) (a b c d e f : Value) : World := (((w.alloc (.cells #[a, b] 29)).alloc (.cells #[c, d] 29)).alloc (.cells #[e, f] 29)).drew
structure LP (n : Nat) (a b c d e f : Value) (w : World) : Prop where
  a0 : w.cell? ⟨n, 0, none⟩ = some a
  a1 : w.cell? ⟨n, 1, none⟩ = some b
  b0 : w.cell? ⟨n + 1, 0, none⟩ = some c
  b1 : w.cell? ⟨n + 1, 1, none⟩ = some d
  c0 : w.cell? ⟨n + 1 + 1, 0, none⟩ = some e
  c1 : w.cell? ⟨n + 1 + 1, 1, none⟩ = some f
theorem lp_lay (w : World) (a b c d e f : Value) : LP w.heap.size a b c d e f (lay3 w a b c d e f) := by constructor <;> simp [go_sem, lay3]
theorem LP.on {n B : Nat} {a b c d e f : Value} {w w' : World} (h : LP n a b c d e f w) (hb : Below B w w') (hB : n + 1 + 1 + 1 ≤ B) : LP n a b c d e f w' := by
  have k : ∀ i p : Nat, i < B → w'.cell? ⟨i, p, none⟩ = w.cell? ⟨i, p, none⟩ := fun i p hi => hb.cell (p := ⟨i, p, none⟩) hi
  exact ⟨(k _ _ (by omega)).trans h.a0, (k _ _ (by omega)).trans h.a1, (k _ _ (by omega)).trans h.b0, (k _ _ (by omega)).trans h.b1, (k _ _ (by omega)).trans h.c0, (k _ _ (by omega)).trans h.c1⟩
set_option maxRecDepth 100000 in
set_option maxHeartbeats 8000000 in
theorem laws_any {G : World → Prop} (K : ROks G) (hv vv ov_ uv mv nv : Value) (has vals has2 vals2 has3 vals3 : List Int) (w : World) (hg : G w) (i1 : InInts w hv has) (i2 : InInts w vv vals) (i3 : InInts w ov_ has2) (i4 : InInts w uv vals2) (i5 : InInts w mv has3) (i6 : InInts w nv vals3)
    (l1 : has.length ≤ maxLen) (l2 : vals.length ≤ maxLen) (l3 : has2.length ≤ maxLen) (l4 : vals2.length ≤ maxLen) (l5 : has3.length ≤ maxLen) (l6 : vals3.length ≤ maxLen) :
    Calls Try.prog 6 #[.agg #[hv, vv], .agg #[ov_, uv], .agg #[mv, nv]] w (RQ w) := by
  have HG := Lib.hid hg
  have B0 := Lib.hid (show Below w.heap.size w (lay3 w hv vv ov_ uv mv nv) from ((((Below.refl _ _).alloc (Nat.le_refl _) _).alloc (by simp) _).alloc (by simp; omega) _).drew)
  have T1 := Lib.hid (fun W hW => pred_row hv vv has vals (lay3 w hv vv ov_ uv mv nv) W hW (i1.on B0.out) (i2.on B0.out) l1 l2)
  have T2 := Lib.hid (fun W hW => pred_row ov_ uv has2 vals2 (lay3 w hv vv ov_ uv mv nv) W hW (i3.on B0.out) (i4.on B0.out) l3 l4)
  have T3 := Lib.hid (fun W hW => pred_row mv nv has3 vals3 (lay3 w hv vv ov_ uv mv nv) W hW (i5.on B0.out) (i6.on B0.out) l5 l6)
  have NA := Lib.hid (prd_nf has vals)
  have NB := Lib.hid (prd_nf has2 vals2)
  have NC := Lib.hid (prd_nf has3 vals3)
  have LL := Lib.hid (lp_lay w hv vv ov_ uv mv nv)
  have a0 := LL.out.a0
  have a1 := LL.out.a1
  have b0 := LL.out.b0
  have b1 := LL.out.b1
  have c0 := LL.out.c0
  have c1 := LL.out.c1
  have hsz : (lay3 w hv vv ov_ uv mv nv).heap.size = w.heap.size + 1 + 1 + 1 := by simp
  have HSZ := Lib.hid (Nat.le_of_eq hsz.symm)
  clear hg i1 i2 i3 i4 i5 i6 l1 l2 l3 l4 l5 l6 hsz
  generalize prd has vals 7 = l at *
  generalize prd has2 vals2 7 = m at *
  generalize prd has3 vals3 7 = k at *
  go_enter Try.func6, Try.ntmps6
  go_wp2_with fail
  go_region_law (first
    | (refine step_call_run rfl (ex_call1 _ _ (.tmp 11) 29 12 rfl rfl rfl _ (call_pred _ _)) (T1.out _ (Below.refl _ _)) ?_; rintro e3 w3 ⟨pv, rfl, hp, hbp⟩; have L3 := Lib.hid (LL.out.on hbp HSZ.out); have d0 := L3.out.b0; have d1 := L3.out.b1; have d2 := L3.out.c0; have d3 := L3.out.c1; refine ⟨_, rfl, ?_⟩)
    | (refine step_call_run rfl (ex_call1 _ _ (.tmp 13) 29 12 rfl rfl rfl _ (call_pred _ _)) (T2.out _ hbp) ?_; rintro e4 w4 ⟨qv, rfl, hq, hbq⟩; have hbQ := hbp.trans (hbq.mono hbp.size); have L4 := Lib.hid (LL.out.on hbQ HSZ.out); have d4 := L4.out.c0; have d5 := L4.out.c1; refine ⟨_, rfl, ?_⟩)
    | (refine step_call_run rfl (ex_call1 _ _ (.tmp 15) 29 12 rfl rfl rfl _ (call_pred _ _)) (T3.out _ hbQ) ?_; rintro e5 w5 ⟨rv, rfl, hr, hbr⟩; refine ⟨_, rfl, ?_⟩))
  all_goals simp only [Exit.then]
  all_goals apply_assumption
  all_goals exact laws_2 K w _ _ _ _ l m k HG.out (B0.out.trans ((hbQ.trans (hbr.mono hbQ.size)).mono B0.out.size)) ((hp.on hbq).on hbr) (hq.on hbr) hr NA.out NB.out NC.out _ _ _ _ _ _ _ _ _ _ _ _ _ _ _ _ _ _ _ _ _ _ _ _ _ _ _ _ _ _ _ _ _ _ _ _ _ _ _ _ _ _ _ _ _ _ _ _ _ _ _ _ _ _ _ _ _ _ _ _ _ _ _ _ _ _ _ _ _ _ _ _ _ _ _ _ _ _ _ _ _ _ _ _ _ _ _ _ _ _ _ _ _
end Go.Proofs.Ytdomincmoaahoaa.Rl
