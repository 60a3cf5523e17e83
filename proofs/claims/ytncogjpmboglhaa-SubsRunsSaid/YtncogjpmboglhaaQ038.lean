/-
  branch of package subs: the part of a row in which a tree's entries stand. Conditions: the entries rise; at most a thousand of them.
-/
import Derived.Test.YtncogjpmboglhaaQ037
namespace Go.Proofs.Ytncogjpmboglhaa.Sb
open Go.RowKit Go.Sort Go.Proofs.Ytncogjpmboglhaa Go.Proofs.Ytncogjpmboglhaa.Rw Go.Proofs.Ytncogjpmboglhaa.Nm Go.Proofs.Ytncogjpmboglhaa.Pr Go.Proofs.Ytncogjpmboglhaa.Bk Go.Proofs.Ytncogjpmboglhaa.Av

/-- A part of a row of entries, as a slice. -/
def cutV (v : Sl) (f k : Nat) : Sl := match v with
  | (some a, _, c) => (some (if c = f then a else a.add (f * 7)), k, c - f)
  | (none, _, _) => (none, 0, 0)
theorem tw_lt {α : Type} (p : α → Bool) : ∀ (l : List α) (j : Nat) (y : α), j < (l.takeWhile p).length → l[j]? = some y → p y = true
  | [], _, _, _, h => by simp at h
  | a :: l, j, y, hj, h => by
    by_cases ha : p a = true
    · rw [List.takeWhile_cons, if_pos ha, List.length_cons] at hj
      cases j with
      | zero => rw [← Option.some.inj (show some a = some y from h)]; exact ha
      | succ j => exact tw_lt p l j y (by omega) (by simpa using h)
    · rw [List.takeWhile_cons, if_neg ha] at hj
      simp at hj
theorem tw_end {α : Type} (p : α → Bool) : ∀ (l : List α) (y : α), l[(l.takeWhile p).length]? = some y → p y = false
  | [], _, h => by simp at h
  | a :: l, y, h => by
    by_cases ha : p a = true
    · rw [List.takeWhile_cons, if_pos ha, List.length_cons] at h
      exact tw_end p l y (by simpa using h)
    · rw [List.takeWhile_cons, if_neg ha] at h
      rw [← Option.some.inj (show some a = some y from h)]
      simpa using ha
theorem slice_cut (a : Addr) (f e len cap : Nat) (h : f ≤ e) (h6 : e ≤ cap) (w : World) : (Instr.sliceAt 31 (.slice (some a) len cap) (some (.int .i64 f)) (some (.int .i64 e)) none).run Try.prog w = .ok (slv (cutV (some a, len, cap) f (e - f))) w := by
  have h1 : (f : Int) ≤ (e : Int) := by omega
  have h3 : (e : Int) ≤ cap := by omega
  obtain ⟨i, i1, i2, i3, i4⟩ := okN.info
  have i1' : Try.prog.info? 42 = some i := i1
  have hu' : Try.prog.underlying 31 = some (.slice 42) := okN.hu
  have i3' : i.size = 7 := i3
  by_cases he : cap = f
  · subst he
    obtain rfl : e = cap := by omega
    simp [go_sem, hu', sizeOf, typeInfo, i1', i3', cutV]
  · simp [go_sem, hu', sizeOf, typeInfo, i1', i3', cutV, he, h, h6]
theorem row_cut {W : World} {v : Sl} {l : List XEn} (h : RowN W (slv v) l) (f k : Nat) (hk : f + k ≤ l.length) :
    (∀ w, (Instr.sliceAt 31 (slv v) (some (.int .i64 f)) (some (.int .i64 ((f + k : Nat) : Int))) none).run Try.prog w = .ok (slv (cutV v f k)) w) ∧ RowN W (slv (cutV v f k)) ((l.drop f).take k) := by
  obtain ⟨so, sn, sc⟩ := v
  rcases h with ⟨rfl, hv⟩ | ⟨a, cap, hv, h2, h3, h4⟩
  · obtain ⟨rfl, rfl, rfl⟩ : so = none ∧ sn = 0 ∧ sc = 0 := by simpa using hv
    obtain ⟨rfl, rfl⟩ : f = 0 ∧ k = 0 := by simp at hk; omega
    refine ⟨fun w => ?_, Or.inl ⟨rfl, rfl⟩⟩
    obtain ⟨i, i1, i2, i3, i4⟩ := okN.info
    have i1' : Try.prog.info? 42 = some i := i1
    have hu' : Try.prog.underlying 31 = some (.slice 42) := okN.hu
    simp [go_sem, hu', sizeOf, typeInfo, i1', cutV]
  · obtain ⟨rfl, rfl, rfl⟩ : so = some a ∧ sn = l.length ∧ sc = cap := by simpa using hv
    refine ⟨fun w => by have h := slice_cut a f (f + k) l.length sc (Nat.le_add_right _ _) (Nat.le_trans hk h2) w; rwa [Nat.add_sub_cancel_left] at h, ?_⟩
    refine Or.inr ⟨(if sc = f then a else a.add (f * 7)), sc - f, ?_, ?_, by omega, fun j u hj => ?_⟩
    · have e : ((l.drop f).take k).length = k := by rw [List.length_take, List.length_drop]; omega
      rw [e]
      rfl
    · rw [List.length_take, List.length_drop]; omega
    · have hlt := (List.getElem?_eq_some_iff.1 hj).1
      have hlen : (flat EN ((l.drop f).take k)).length = k * 7 := by
        rw [flat_length okN, List.length_take, List.length_drop]
        show _ * 7 = _
        rw [show min k (l.length - f) = k by omega]
      rw [hlen] at hlt
      rw [if_neg (by omega), add_add]
      refine h4 _ u ?_
      have e1 : flat EN l = flat EN (l.take f) ++ (flat EN ((l.drop f).take k) ++ flat EN ((l.drop f).drop k)) := by
        rw [← flat_append, List.take_append_drop, ← flat_append, List.take_append_drop]
      have e2 : (flat EN (l.take f)).length = f * 7 := by
        rw [flat_length okN, List.length_take]
        show _ * 7 = _
        rw [show min f l.length = f by omega]
      rw [e1, List.getElem?_append_right (by rw [e2]; omega), e2, show f * 7 + j - f * 7 = j by omega, List.getElem?_append_left (by rw [hlen]; exact hlt)]
      exact hj
theorem fromT_len (m : List En) (t : XID) : fromT m t + (brE m t).length ≤ m.length := by
  have h1 : (brE m t).length ≤ (m.drop (fromT m t)).length := (List.takeWhile_sublist _).length_le
  have h2 : fromT m t ≤ m.length := (List.takeWhile_sublist _).length_le
  rw [List.length_drop] at h1
  omega
set_option maxRecDepth 100000 in
set_option maxHeartbeats 8000000 in
theorem branch_any (v : Sl) (l : List XEn) (m : List En) (t : XID) (w : World) (hv : RowN w (slv v) l) (hA : All2 (EnIn w) l m) (hr : RiseE m) (hl : l.length ≤ 1000) :
    Calls Try.prog 35 #[slv v, idv t] w fun e w' => e = .returned (slv (cutV v (fromT m t) (brE m t).length)) ∧ Below w.heap.size w w' := by
  have hfk := fromT_len m t
  have hML : l.length = m.length := hA.len
  obtain ⟨f, hf⟩ : ∃ f, fromT m t = f := ⟨_, rfl⟩
  obtain ⟨k, hk⟩ : ∃ k, (brE m t).length = k := ⟨_, rfl⟩
  rw [hf, hk] at hfk ⊢
  have RC := Lib.hid ((row_cut hv f k (by omega)).1)
  obtain ⟨so, n, sc⟩ := v
  generalize cutV (so, n, sc) f k = z at RC ⊢
  obtain ⟨z1, z2, z3⟩ := z
  have hn : l.length = n := sl_len hv
  obtain ⟨c, d⟩ := t
  obtain ⟨h0, X, Y⟩ := two_new w #[.slice so n sc] #[.int .i64 c, .int .i64 d] 31 23
  have BB := Lib.hid h0
  have HV := Lib.hid (hv.on h0)
  have HA := Lib.hid (hA.mono fun _ _ q => q.on h0)
  have X1 := Lib.hid X
  have Y1 := Lib.hid Y
  have x0 := X.cell 0
  simp only [List.getElem?_toArray, List.getElem?_cons_zero] at x0
  have FL : ∀ (i : Nat) (e : En), i < f → m[i]? = some e → lessI e.tree (c, d) = true := fun i e hi he => tw_lt (fun e : En => lessI e.tree (c, d)) m i e (by unfold fromT at hf; omega) he
  have FH : ∀ (i : Nat) (e : En), f ≤ i → m[i]? = some e → lessI e.tree (c, d) = false := fun i e hi he => by
    refine lo_out (c, d) hr e ?_
    rw [← drop_len]
    unfold fromT at hf
    rw [hf]
    exact List.mem_of_getElem? (show (m.drop f)[i - f]? = some e by rw [List.getElem?_drop, show f + (i - f) = i by omega]; exact he)
  have BL := Lib.hid (show ∀ (i : Nat) (e : En), i < k → m[f + i]? = some e → e.tree = (c, d) from fun i e hi he => by
    have := tw_lt (fun e : En => decide (e.tree = (c, d))) (m.drop f) i e (by unfold brE at hk; rw [hf] at hk; omega) (by rw [List.getElem?_drop]; exact he)
    exact of_decide_eq_true this)
  have BH := Lib.hid (show ∀ (e : En), m[f + k]? = some e → e.tree ≠ (c, d) from fun e he => by
    have := tw_end (fun e : En => decide (e.tree = (c, d))) (m.drop f) e (by unfold brE at hk; rw [hf] at hk; rw [hk, List.getElem?_drop]; exact he)
    exact of_decide_eq_false this)
  have HF := Lib.hid (show ∀ i, i < n → ∀ W, Below ((w.alloc (.cells #[.slice so n sc] 31)).alloc (.cells #[.int .i64 c, .int .i64 d] 23)).heap.size ((w.alloc (.cells #[.slice so n sc] 31)).alloc (.cells #[.int .i64 c, .int .i64 d] 23)) W →
      Calls Try.prog 62 (#[.int .i64 i] ++ #[.pointer (some ⟨w.heap.size, 0, none⟩), .pointer (some ⟨w.heap.size + 1, 0, none⟩)]) W fun e w' => e = .returned (.bool ((fun i => match l[i]? with | some y => !lessI (y.1, y.2.1) (c, d) | none => true) i)) ∧ Below W.heap.size W w' from fun i hi W hb => by
    obtain ⟨y, hy⟩ : ∃ y, l[i]? = some y := ⟨_, List.getElem?_eq_getElem (by omega)⟩
    refine br1_any i _ _ so n sc l (c, d) y _ W (HV.out.on hb) hn hy ?_ (X1.out.on hb) (Y1.out.on hb)
    simp only [hy])
  have HLO := Lib.hid (show ∀ i, i < f → (fun i => match l[i]? with | some y => !lessI (y.1, y.2.1) (c, d) | none => true) i = false from fun i hi => by
    obtain ⟨y, hy⟩ : ∃ y, l[i]? = some y := ⟨_, List.getElem?_eq_getElem (by omega)⟩
    obtain ⟨e, he, hke, hx⟩ := all2_key HA.out hy
    have h1 := FL i e hi he
    rw [← hx.1] at h1
    simp only [hy, h1]
    rfl)
  have HHI := Lib.hid (show ∀ i, f ≤ i → i < n → (fun i => match l[i]? with | some y => !lessI (y.1, y.2.1) (c, d) | none => true) i = true from fun i hi hi2 => by
    obtain ⟨y, hy⟩ : ∃ y, l[i]? = some y := ⟨_, List.getElem?_eq_getElem (by omega)⟩
    obtain ⟨e, he, hke, hx⟩ := all2_key HA.out hy
    have h1 := FH i e hi he
    rw [← hx.1] at h1
    simp only [hy, h1]
    rfl)
  have HN := Lib.hid hn
  have ln : n ≤ 1000 := by omega
  have hfk2 : f + k ≤ n := by omega
  clear hv hA h0 X Y hk hf hl hn hr hfk hML FL FH
  go_enter Try.func35, Try.ntmps35
  go_wp2_with fail
  generalize (w.alloc (.cells #[.slice so n sc] 31)).alloc (.cells #[.int .i64 c, .int .i64 d] 23) = W at *
  refine (search_any 62 #[.pointer (some ⟨w.heap.size, 0, none⟩), .pointer (some ⟨w.heap.size + 1, 0, none⟩)] call_br n f _ W (by omega) HF.out (by omega) HLO.out HHI.out).mono ?_
  rintro e1 w1 ⟨rfl, hb⟩
  have B1 := Lib.hid hb
  clear x0 HF HLO HHI hb
  go_wp2
  go_loopw [6] (fun i wr => ∃ j : Nat, j ≤ k ∧ i = .int .i64 ((f + j : Nat) : Int) ∧ Below W.heap.size W wr) (fun i _ => f + k - (intOf i).toNat)
  case atStart => exact ⟨0, Nat.zero_le _, by simp, B1.out⟩
  case round =>
    obtain ⟨j, hj, rfl, hbe⟩ := hrel
    have BE := Lib.hid hbe
    have a0 := cell_regrown (show wr.cell? ⟨w.heap.size, 0, none⟩ = some (.slice so n sc) from (X1.out.on hbe).cell 0)
    have b0 := cell_regrown (show wr.cell? ⟨w.heap.size + 1, 0, none⟩ = some (.int .i64 c) from (Y1.out.on hbe).cell 0)
    have b1 := cell_regrown (show wr.cell? ⟨w.heap.size + 1, 1, none⟩ = some (.int .i64 d) from (Y1.out.on hbe).cell 1)
    have BN := Lib.hid (fun dq osq => BE.out.trans ((below_regrown wr dq osq).mono BE.out.size))
    clear hbe
    by_cases hjk : j < k
    · obtain ⟨y, hy⟩ : ∃ y, l[f + j]? = some y := ⟨_, List.getElem?_eq_getElem (by rw [HN.out]; omega)⟩
      obtain ⟨p, ix, p0, p1, p2, p3, p4, p5, p6⟩ := el_reN HV.out rfl HN.out hy BE.out
      obtain ⟨e, he, _, hx⟩ := all2_key HA.out hy
      have ht : (y.1, y.2.1) = (c, d) := hx.1.trans (BL.out j e hjk he)
      have hjn : f + j < n := by omega
      have g4 : decide (((f + j : Nat) : Int) < (n : Int)) = true := by simp; omega
      have hw3 : IntKind.i64.wrap (((f + j : Nat) : Int) + 1) = ((f + (j + 1) : Nat) : Int) := by rw [IntWalk.i64_in _ (by omega)]; omega
      obtain ⟨y1, y2, y3, y4, ⟨yo, yn, yc⟩, y6, y7⟩ := y
      obtain ⟨rfl, rfl⟩ : y1 = c ∧ y2 = d := by simpa using ht
      simp only at p0 p1
      have e1 := eqId y1 y2 y1 y2 true (by simp)
      clear p2 p3 p4 p5 p6 hy he hx ht
      generalize hq : f + j = q at *
      have HQ := Lib.hid hq
      clear hq
      go_wp2
      refine wp_region_quiet_below (by kernel_rfl) (by kernel_rfl) ?_
      repeat (go_big_quiet_step (fail))
      refine wpQuiet_nil ?_
      intro _ hw'
      obtain ⟨⟨dq, osq⟩, hw''⟩ := hw'
      subst hw''
      go_wp2
      go_roundw
      case rel => exact ⟨j + 1, by omega, by rfl, BN.out _ _⟩
      case measure =>
        have hq := HQ.out
        simp [intOf]
        omega
    · obtain rfl : j = k := by omega
      have RC2 := RC.out
      by_cases hjn : f + j < n
      · obtain ⟨y, hy⟩ : ∃ y, l[f + j]? = some y := ⟨_, List.getElem?_eq_getElem (by rw [HN.out]; omega)⟩
        obtain ⟨p, ix, p0, p1, p2, p3, p4, p5, p6⟩ := el_reN HV.out rfl HN.out hy BE.out
        obtain ⟨e, he, _, hx⟩ := all2_key HA.out hy
        have ht : (y.1, y.2.1) ≠ (c, d) := fun q => BH.out e he (hx.1.symm.trans q)
        have g4 : decide (((f + j : Nat) : Int) < (n : Int)) = true := by simp; omega
        obtain ⟨y1, y2, y3, y4, ⟨yo, yn, yc⟩, y6, y7⟩ := y
        simp only at p0 p1
        have e1 := eqId y1 y2 c d false (Bool.eq_false_iff.2 fun h => ht (by simp at h; rw [h.1, h.2]))
        clear p2 p3 p4 p5 p6 hy he hx ht
        generalize f + j = q at *
        go_wp2
        refine wp_region_quiet_below (by kernel_rfl) (by kernel_rfl) ?_
        repeat (go_big_quiet_step (fail))
        refine wpQuiet_nil ?_
        intro _ hw'
        obtain ⟨⟨dq, osq⟩, hw''⟩ := hw'
        subst hw''
        have a0 := a0 dq osq
        go_wp2
        go_ret
        exact ⟨rfl, BB.out.trans ((BN.out _ _).mono BB.out.size)⟩
      · have g4 : decide (((f + j : Nat) : Int) < (n : Int)) = false := by simp; omega
        generalize f + j = q at *
        go_wp2
        refine wp_region_quiet_below (by kernel_rfl) (by kernel_rfl) ?_
        repeat (go_big_quiet_step (fail))
        refine wpQuiet_nil ?_
        intro _ hw'
        obtain ⟨⟨dq, osq⟩, hw''⟩ := hw'
        subst hw''
        have a0 := a0 dq osq
        go_wp2
        go_ret
        exact ⟨rfl, BB.out.trans ((BN.out _ _).mono BB.out.size)⟩
end Go.Proofs.Ytncogjpmboglhaa.Sb
