/-
  Covered, Find and Tight of package subs. Conditions: the entries rise; at most a thousand of them; predicates in normal form.
-/
import Derived.Test.YtncogjpmboglhaaQ040
import Derived.Test.YtncogjpmboglhaaQ039
namespace Go.Proofs.Ytncogjpmboglhaa.Sb
open Go.RowKit Go.Sort Go.Proofs.Ytncogjpmboglhaa Go.Proofs.Ytncogjpmboglhaa.Rw Go.Proofs.Ytncogjpmboglhaa.Nm Go.Proofs.Ytncogjpmboglhaa.Pr Go.Proofs.Ytncogjpmboglhaa.Bk Go.Proofs.Ytncogjpmboglhaa.Av Go.Proofs.Ytncogjpmboglhaa.Rl

theorem cut_in {W : World} {v : Sl} {l : List XEn} {m : List En} (hv : RowN W (slv v) l) (hA : All2 (EnIn W) l m) (t : XID) : RowN W (slv (cutV v (fromT m t) (brE m t).length)) ((l.drop (fromT m t)).take (brE m t).length) ∧ All2 (EnIn W) ((l.drop (fromT m t)).take (brE m t).length) (brE m t) := by
  refine ⟨(row_cut hv _ _ (by rw [hA.len]; exact fromT_len m t)).2, ?_⟩
  have h := (hA.drop (fromT m t)).take (brE m t).length
  have e : (m.drop (fromT m t)).take (brE m t).length = brE m t := by
    unfold brE
    conv => lhs; arg 2; rw [← List.takeWhile_append_dropWhile (p := fun e : En => decide (e.tree = t)) (l := m.drop (fromT m t))]
    rw [List.take_left]
  rw [e] at h
  exact h
theorem br_sub (m : List En) (t : XID) : ∀ e ∈ brE m t, e ∈ m := fun _ he => List.mem_of_mem_drop ((List.takeWhile_sublist _).subset he)
set_option maxRecDepth 100000 in
set_option maxHeartbeats 8000000 in
theorem scov_any (me : Int) (nv av sv ov : Value) (ev : Sl) (l : List XEn) (m : List En) (t : XID) (pv : Value) (p' : List C5) (w : World) (hs : RowN w (slv ev) l) (hu : All2 (EnIn w) l m) (hr : RiseE m) (hl : l.length ≤ 1000) (hp : RowC w pv p') (hok : ∀ e ∈ m, PredOk e.p) (hop : PredOk p') :
    Calls Try.prog 13 #[.agg #[.int .i64 me, nv, av, sv, slv ev, ov], idv t, pv] w fun e w' => e = .returned (.bool (coveredE m t p')) ∧ Below w.heap.size w w' := by
  obtain ⟨pa, pc, rfl⟩ := hp.len
  obtain ⟨so, n, sc⟩ := ev
  obtain ⟨c, d⟩ := t
  obtain ⟨h0, X, Y⟩ := two_new w #[.int .i64 me, nv, av, sv, .slice so n sc, ov] #[.int .i64 c, .int .i64 d] 34 23
  have B := Lib.hid h0
  have x4 := X.cell 4
  have y0 := Y.cell 0
  have y1 := Y.cell 1
  simp only [List.getElem?_toArray, List.getElem?_cons_zero, List.getElem?_cons_succ] at x4 y0 y1
  have BR := Lib.hid (branch_any (so, n, sc) l m (c, d) _ (hs.on h0) (hu.mono fun _ _ q => q.on h0) hr hl)
  obtain ⟨q1, q2⟩ := cut_in (hs.on h0) (hu.mono fun _ _ q => q.on h0) (c, d)
  have Q1 := Lib.hid q1
  have Q2 := Lib.hid q2
  have HP := Lib.hid (hp.on h0)
  have OK := Lib.hid (fun e he => hok e (br_sub m (c, d) e he))
  have CB := Lib.hid (cov_br hr (c, d) p')
  generalize p'.length = pn at *
  generalize coveredE m (c, d) p' = r at *
  generalize cutV (so, n, sc) (fromT m (c, d)) (brE m (c, d)).length = z at *
  obtain ⟨z1, z2, z3⟩ := z
  clear h0 X Y hs hu hr hl hp hok q1 q2
  go_enter Try.func13, Try.ntmps13
  go_wp2_with fail
  generalize (w.alloc (.cells #[.int .i64 me, nv, av, sv, .slice so n sc, ov] 34)).alloc (.cells #[.int .i64 c, .int .i64 d] 23) = W at *
  refine BR.out.mono ?_
  rintro e1 w1 ⟨rfl, hb⟩
  have HB := Lib.hid hb
  have CV := Lib.hid (covered_any (z1, z2, z3) (.slice pa pn pc) _ (brE m (c, d)) p' w1 (Q1.out.on hb) (Q2.out.mono fun _ _ q => q.on hb) (HP.out.on hb) OK.out hop)
  clear x4 y0 y1 hb BR
  go_wp2_with fail
  refine CV.out.mono ?_
  rintro e2 w2 ⟨rfl, hb2⟩
  go_wp2
  go_ret
  exact ⟨by rw [← CB.out]; rfl, B.out.trans ((HB.out.trans (hb2.mono HB.out.size)).mono B.out.size)⟩
def findE (m : List En) (t s : XID) : Option En := match m[placeP (m.map keyE) (t, s)]? with
  | none => none
  | some e => if keyE e = (t, s) then some e else none
theorem find_some {m : List En} {t s : XID} (h : thereE m t s = true) : ∃ e, m[placeP (m.map keyE) (t, s)]? = some e ∧ keyE e = (t, s) ∧ findE m t s = some e := by
  unfold thereE at h
  cases hm : m[placeP (m.map keyE) (t, s)]? with
  | none => rw [hm] at h; cases h
  | some e =>
    rw [hm] at h
    have hk := of_decide_eq_true h
    exact ⟨e, rfl, hk, by unfold findE; rw [hm]; simp only; rw [if_pos hk]⟩
theorem find_not {m : List En} {t s : XID} (h : thereE m t s = false) : findE m t s = none := by
  unfold thereE at h
  unfold findE
  cases hm : m[placeP (m.map keyE) (t, s)]? with
  | none => rfl
  | some e =>
    rw [hm] at h
    simp only
    rw [if_neg (of_decide_eq_false h)]
end Go.Proofs.Ytncogjpmboglhaa.Sb
