/-
  tame of broadsidelaw8: a message of short lists, in new memory. Condition: lists no longer than a machine holds.
  Same of two lists of texts that hold the same texts: true. Condition: both have the same length, from 1 to 1048576.
  The law WireTurned: a message with something that its kind doesn't ask, or an ID that may not be, isn't right, and has no bytes. Conditions: package errors' variable holds the handle of the type 'error'; numbers of 64 bits; lists no longer than a machine holds.
-/
import Derived.Test.YtfcgfnmokbbcaaaDoorU040
import Derived.Test.YtfcgfnmokbbcaaaDoorU032
import Derived.Test.YtfcgfnmokbbcaaaDoorU034
import Derived.Deep.QuietTactic
import Derived.BigQuiet
import Derived.Test.YtfcgfnmokbbcaaaDoorU039
namespace Go.Proofs.YtfcgfnmokbbcaaaDoor.Ws
open Go.RowKit Go.Sort Go.Proofs.YtfcgfnmokbbcaaaDoor Go.Proofs.YtfcgfnmokbbcaaaDoor.Rw Go.Proofs.YtfcgfnmokbbcaaaDoor.Nm Go.Proofs.YtfcgfnmokbbcaaaDoor.At Go.Proofs.YtfcgfnmokbbcaaaDoor.Pr Go.Proofs.YtfcgfnmokbbcaaaDoor.Wr Go.Proofs.YtfcgfnmokbbcaaaDoor.Va

theorem own_less {α : Type} {E : Ek α} {W : World} {B C : Nat} {v : Value} {l : List α} (h : Own E W B v l) (hc : C ≤ B) : Own E W C v l := by
  refine ⟨h.1, ?_⟩
  rcases h.2 with h2 | ⟨g, cap, cur, h1, h2, h3⟩
  · exact Or.inl h2
  · exact Or.inr ⟨g, cap, cur, h1, Nat.le_trans hc h2, h3⟩
theorem box_twoM (w : World) (c d : Array Value) : Box ((w.alloc (.cells c 32)).alloc (.cells d 32)) (w.heap.size + 1) d 32 := by
  have h := box_new (w.alloc (.cells c 32)) d 32
  simpa using h
def tameM (m : Mg) : Mg := ⟨m.k, m.tc, m.ts, m.ic, m.is, m.p.take 7, m.l.take 7⟩
set_option maxRecDepth 100000 in
set_option maxHeartbeats 8000000 in
theorem tame_any (m : Mg) (mp ml : Value) (w : World) (h : MgIn w m mp ml) :
    Calls Tryd.prog 11 #[mv m mp ml] w fun e w' => (∃ pv lv, e = .returned (mv (tameM m) pv lv) ∧ OwnC w' w.heap.size pv (tameM m).p ∧ OwnL w' w.heap.size lv (tameM m).l) ∧ Below w.heap.size w w' := by
  obtain ⟨k, tc, ts, ic, is, p, l⟩ := m
  have HP := Lib.hid h.p
  have HL := Lib.hid (row_EA.1 h.l)
  obtain ⟨po, pc, rfl⟩ := h.p.len
  obtain ⟨l0, lc, rfl⟩ := h.l.len
  have M0 := Lib.hid (new_below w (.cells (mcells ⟨k, tc, ts, ic, is, p, l⟩ (.slice po p.length pc) (.slice l0 l.length lc)) 32))
  have M1 := Lib.hid (new_below (w.alloc (.cells (mcells ⟨k, tc, ts, ic, is, p, l⟩ (.slice po p.length pc) (.slice l0 l.length lc)) 32)) (.cells zeroM 32))
  have B2 := Lib.hid (M0.out.trans (M1.out.mono M0.out.size))
  have X2 := Lib.hid ((box_new w (mcells ⟨k, tc, ts, ic, is, p, l⟩ (.slice po p.length pc) (.slice l0 l.length lc)) 32).on M1.out)
  have R2 := Lib.hid (box_twoM w (mcells ⟨k, tc, ts, ic, is, p, l⟩ (.slice po p.length pc) (.slice l0 l.length lc)) zeroM)
  have P2 := Lib.hid (HP.out.on B2.out)
  have L2 := Lib.hid (HL.out.on B2.out)
  obtain ⟨pl, hpl⟩ : ∃ n, n = p.length := ⟨_, rfl⟩
  obtain ⟨ll, hll⟩ : ∃ n, n = l.length := ⟨_, rfl⟩
  simp only [← hpl, ← hll] at M0 M1 B2 X2 R2 P2 L2 ⊢
  have H1 := Lib.hid hpl
  have H2 := Lib.hid hll
  clear h HP HL hpl hll M0 M1
  go_enter Tryd.func11, Tryd.ntmps11
  go_upto_region 1 with fail
  refine tame_r1 _ _ w.heap.size (w.heap.size + 1) k tc ts ic is po l0 pl pc ll lc p l _ _ _ _ _ _ _ _ _ _ _ _ _ _ _ _ _ _ _ _ _ _ X2.out P2.out L2.out H1.out H2.out ?_
  intro x v3 v4 v5 v6 v7 v8 v9 v10 v11 v12 v13 v14 v15 v16 v17 v18 v19 v20 v21 v22 hbx ho hl hbl hoth
  obtain ⟨qo, qc, e1⟩ := (Row.of_own ho).len
  obtain ⟨ro, rc, e2⟩ := (Row.of_own hl).len
  subst e1 e2
  generalize hp7 : (p.take 7).length = pn at *
  generalize hl7 : (l.take 7).length = ln at *
  have BX := Lib.hid hbx
  have RX := Lib.hid (hoth (w.heap.size + 1) _ _ (by omega) R2.out)
  have OC := Lib.hid (own_less ho (show w.heap.size + 2 ≤ _ by simp))
  have OL := Lib.hid (own_less hl (show w.heap.size + 2 ≤ _ by simp))
  have BL := Lib.hid (B2.out.trans ((hbl w.heap.size (Nat.le_refl _))))
  clear hbx ho hl hbl hoth X2 P2 L2 R2 B2 H1 H2
  have BXo := BX.out
  have RXo := RX.out
  have x0 := BXo.cell 0
  have x1 := BXo.cell 1
  have x2 := BXo.cell 2
  have x3 := BXo.cell 3
  have x4 := BXo.cell 4
  have x5 := BXo.cell 5
  have x6 := BXo.cell 6
  have r0 := RXo.cell 0
  have r1 := RXo.cell 1
  have r2 := RXo.cell 2
  have r3 := RXo.cell 3
  have r4 := RXo.cell 4
  have r5 := RXo.cell 5
  have r6 := RXo.cell 6
  have t0 := RXo.fr 0
  have t1 := RXo.fr 1
  have t2 := RXo.fr 2
  have t3 := RXo.fr 3
  have t4 := RXo.fr 4
  have t5 := RXo.fr 5
  have t6 := RXo.fr 6
  simp only [List.getElem?_toArray, List.getElem?_cons_zero, List.getElem?_cons_succ] at x0 x1 x2 x3 x4 x5 x6 r0 r1 r2 r3 r4 r5 r6
  have zz := RXo.lt
  have FB := Lib.hid (setM_box RXo (.int .i64 k) (.int .i64 tc) (.int .i64 ts) (.int .i64 ic) (.int .i64 is) (.slice qo pn qc) (.slice ro ln rc))
  have FP := Lib.hid (setM_own OC.out (w.heap.size + 1) (by omega) (.int .i64 k) (.int .i64 tc) (.int .i64 ts) (.int .i64 ic) (.int .i64 is) (.slice qo pn qc) (.slice ro ln rc))
  have FL := Lib.hid (setM_own OL.out (w.heap.size + 1) (by omega) (.int .i64 k) (.int .i64 tc) (.int .i64 ts) (.int .i64 ic) (.int .i64 is) (.slice qo pn qc) (.slice ro ln rc))
  have FBL := Lib.hid (setM_below (b := w.heap.size + 1) BL.out (by omega) BL.out.size (.int .i64 k) (.int .i64 tc) (.int .i64 ts) (.int .i64 ic) (.int .i64 is) (.slice qo pn qc) (.slice ro ln rc))
  clear BXo RXo
  go_wp2_with fail
  have v0 := FB.out.cell 0
  have v1 := FB.out.cell 1
  have v2 := FB.out.cell 2
  have v3 := FB.out.cell 3
  have v4 := FB.out.cell 4
  have v5 := FB.out.cell 5
  have v6 := FB.out.cell 6
  simp at v0 v1 v2 v3 v4 v5 v6
  refine bodyPost_ret (v := .agg #[.int .i64 k, .int .i64 tc, .int .i64 ts, .int .i64 ic, .int .i64 is, .slice qo pn qc, .slice ro ln rc]) (by simp [results, Tryd.results11, go_sem, v0, v1, v2, v3, v4, v5, v6]) rfl ?_
  exact ⟨⟨_, _, rfl, own_less FP.out (by omega), own_less FL.out (by omega)⟩, FBL.out⟩
end Go.Proofs.YtfcgfnmokbbcaaaDoor.Ws

namespace Go.Proofs.YtfcgfnmokbbcaaaDoor.Fa
open Go.RowKit Go.Extern.Stop Go.Stop Go.Extern

theorem lt_of_cell {w : World} {b i : Nat} {x : Value} (h : w.cell? ⟨b, i, none⟩ = some x) : b < w.heap.size := by
  rcases Nat.lt_or_ge b w.heap.size with h0 | h0
  · exact h0
  · simp [World.cell?, Array.getElem?_eq_none h0] at h

set_option maxRecDepth 100000 in
set_option maxHeartbeats 4000000 in
theorem Same_true (xs : List ByteArray) (ga gb ca cb : Nat) (w : World) (hlen : xs.length ≤ 1048576)
    (ha : ∀ j (h : j < xs.length), w.cell? ⟨ga, j, none⟩ = some (.string xs[j])) (hb : ∀ j (h : j < xs.length), w.cell? ⟨gb, j, none⟩ = some (.string xs[j])) :
    Calls Tryd.prog 23 #[.slice (some ⟨ga, 0, none⟩) xs.length ca, .slice (some ⟨gb, 0, none⟩) xs.length cb] w fun e w' => e = .returned (.bool true) ∧ Below w.heap.size w w' := by
  have HA := Lib.hid ha
  have HB := Lib.hid hb
  clear ha hb
  go_enter Tryd.func23, Tryd.ntmps23
  go_wp2
  go_loopg [5] xs.length (fun n i wr => ∃ k : Nat, n = xs.length - k ∧ k ≤ xs.length ∧ i = .int .i64 k ∧ Below w.heap.size w wr)
  case atStart => exact ⟨0, rfl, Nat.zero_le _, rfl, Below.refl _ _⟩
  case round =>
    obtain ⟨k, hn, hk, rfl, hbel⟩ := hrel
    have BE := Lib.hid hbel
    have HN := Lib.hid hn
    clear hbel hn
    by_cases hlt : k < xs.length
    · have ea := HA.out k hlt
      have eb := HB.out k hlt
      have ca1 : wr.cell? ⟨ga, k, none⟩ = some (.string xs[k]) := by rw [BE.out.cell (p := ⟨ga, k, none⟩) (lt_of_cell ea)]; exact ea
      have cb1 : wr.cell? ⟨gb, k, none⟩ = some (.string xs[k]) := by rw [BE.out.cell (p := ⟨gb, k, none⟩) (lt_of_cell eb)]; exact eb
      clear ea eb
      generalize xs[k] = x at ca1 cb1
      go_wp2
      go_quiet (fail)
      go_wp2
      go_roundg (xs.length - (k + 1))
      case measure => have := HN.out; omega
      case rel => exact ⟨k + 1, rfl, by omega, by go_num, by first | exact BE.out.drew | exact ⟨BE.out.os, BE.out.tape, BE.out.output, BE.out.size, BE.out.block⟩⟩
    · go_wp2
      go_ret
      exact ⟨rfl, BE.out⟩
end Go.Proofs.YtfcgfnmokbbcaaaDoor.Fa

namespace Go.Proofs.YtfcgfnmokbbcaaaDoor.Ws
open Go.RowKit Go.Sort Go.Proofs.YtfcgfnmokbbcaaaDoor Go.Proofs.YtfcgfnmokbbcaaaDoor.Rw Go.Proofs.YtfcgfnmokbbcaaaDoor.Nm Go.Proofs.YtfcgfnmokbbcaaaDoor.At Go.Proofs.YtfcgfnmokbbcaaaDoor.Pr Go.Proofs.YtfcgfnmokbbcaaaDoor.Wr Go.Proofs.YtfcgfnmokbbcaaaDoor.Wi Go.Proofs.YtfcgfnmokbbcaaaDoor.In Go.Proofs.YtfcgfnmokbbcaaaDoor.Va

theorem kgin_on {W W' : World} {g : Kg} {a b c d : Value} (h : KgIn W g a b c d) (hb : Below W.heap.size W W') : KgIn W' g a b c d :=
  ⟨h.kd, h.cl, h.sq, h.ow, h.nm, h.a.on hb, h.b.on hb, h.c.on hb, h.d.on hb, h.la, h.lb, h.lc, h.ld⟩
set_option maxHeartbeats 1000000 in
theorem within_big (n lo hi : Int) (w : World) (h : lo ≤ hi) (h1 : -1000000 ≤ lo) (h2 : hi ≤ 2000000000000) (_hn1 : -9223372036854775808 ≤ n) (_hn2 : n ≤ 9223372036854775807) :
    Calls Tryd.prog 20 #[.int .i64 n, .int .i64 lo, .int .i64 hi] w fun e w' => e = .returned (.int .i64 (within n lo hi)) ∧ w = w' := by
  have hm : 0 < hi - lo + 1 := by omega
  have hm2 : hi - lo + 1 ≤ 2000001000001 := by omega
  have hb := tmod_bd n (hi - lo + 1) hm
  have P := Lib.hid (within_pos n lo hi h)
  have Q := Lib.hid (within_neg n lo hi h)
  go_enter Tryd.func20, Tryd.ntmps20
  go_wp2
  · go_ret
    exact ⟨ret_int (Q.out (by omega)), rfl⟩
  · go_ret
    exact ⟨ret_int (P.out (by omega)), rfl⟩
/-- Where a fault came from: a row of that one text. -/
theorem wtrace_ok {w : World} {v : Value} {r : Int} (h : WFault w v r) (hg : GE w) : Calls Tryd.prog 24 #[v] w fun e w' => (∃ g c, e = .returned (.slice (some ⟨g, 0, none⟩) 1 c) ∧ w'.cell? ⟨g, 0, none⟩ = some (.string wireTxt)) ∧ Below w.heap.size w w' := by
  obtain ⟨b, hc⟩ := h.ch
  refine (Fa.Trace_E _ v 1 w hg.eg hc (by unfold Fa.Falls; exact List.pairwise_singleton _ _) (by simp)).mono ?_
  rintro e w' ⟨s, rfl, hown, hb⟩
  obtain ⟨g, cap, rfl⟩ := Fa.row_form (n := 0) hown
  have h1 := hown.cellAt 0 (by simp)
  exact ⟨⟨g, cap, rfl, by simpa using h1⟩, hb⟩
theorem same_one {w : World} {g c : Nat} (h : w.cell? ⟨g, 0, none⟩ = some (.string wireTxt)) :
    Calls Tryd.prog 23 #[.slice (some ⟨g, 0, none⟩) 1 c, .slice (some ⟨w.heap.size, 0, none⟩) 1 1] (w.alloc (.cells #[.string wireTxt] 9)) fun e w' => e = .returned (.bool true) ∧ Below (w.alloc (.cells #[.string wireTxt] 9)).heap.size (w.alloc (.cells #[.string wireTxt] 9)) w' :=
  Fa.Same_true [wireTxt] g w.heap.size c 1 _ (by simp)
    (by
      intro j hj
      rw [World.cell?_alloc_lt _ _ ⟨g, j, none⟩ (Fa.lt_of_cell h)]
      match j, hj with
      | 0, _ => exact h)
    (by
      intro j hj
      rw [World.cell?_alloc_at _ _ _ _ rfl]
      match j, hj with
      | 0, _ => rfl)
theorem set_size (W : World) (a : Addr) (x : Value) : (W.setCell a x).heap.size = W.heap.size := by simp [World.setCell]
theorem litC_set (W : World) (a : Addr) (x : Value) (c : C5) (cs : Array Value) (hc : cs.toList = cells5 c) : RowC ((W.setCell a x).alloc (.cells cs 57)) (.slice (some ⟨W.heap.size, 0, none⟩) 1 1) [c] := by
  have h := row_lit okC (W.setCell a x) [c] 1 rfl (by simp) cs (by rw [hc]; simp [flat, EC])
  rw [set_size] at h
  exact Row.of_own h
theorem litA_set (W : World) (a : Addr) (x : Value) (c : A4) (cs : Array Value) (hc : cs.toList = cellsA c) : RowA ((W.setCell a x).alloc (.cells cs 61)) (.slice (some ⟨W.heap.size, 0, none⟩) 1 1) [c] := by
  have h := row_lit okA (W.setCell a x) [c] 1 rfl (by simp) cs (by rw [hc]; simp [flat, EA])
  rw [set_size] at h
  exact row_EA.2 (Row.of_own h)
theorem rightM_id {m : Mg} (h : rightI m.tc m.ts = false) : rightM m = false := by
  unfold rightM
  rw [h, Bool.false_and]
theorem turn_kind {k tc ts ic is : Int} {p : List C5} {l : List A4} (h : 6 ≤ k) : rightM ⟨k, tc, ts, ic, is, p, l⟩ = false := by
  unfold rightM
  simp only
  rw [if_neg (by omega), if_neg (by omega), if_neg (by omega), if_neg (by omega), if_neg (by omega), Bool.and_false]
theorem turn_p {tc ts ic is : Int} {c : C5} {l : List A4} : rightM ⟨5, tc, ts, ic, is, [c], l⟩ = false := by simp [rightM]
theorem turn_l {k tc ts ic is : Int} {p : List C5} {a : A4} (h : k ≠ 5) : rightM ⟨k, tc, ts, ic, is, p, [a]⟩ = false := by
  unfold rightM
  simp [h]
theorem turn_i3 {k tc ts ic is : Int} {p : List C5} {l : List A4} (hk : 3 ≤ k) (h : is < 0) : rightM ⟨k, tc, ts, ic, is, p, l⟩ = false := by
  have h1 : rightI ic is = false := by unfold rightI; simp; omega
  unfold rightM
  simp only [h1]
  rw [if_neg (by omega), if_neg (by omega)]
  simp
theorem turn_i1 {k tc ts ic is : Int} {p : List C5} {l : List A4} (hk : k < 3) (h : is ≠ 0) : rightM ⟨k, tc, ts, ic, is, p, l⟩ = false := by
  unfold rightM
  simp only [decide_eq_false h]
  rw [if_neg (show ¬ k = 3 by omega), if_neg (show ¬ k = 4 by omega), if_neg (show ¬ k = 5 by omega)]
  simp
set_option maxRecDepth 100000 in
set_option maxHeartbeats 16000000 in
theorem turned_any (g : Kg) (ga gb gc gd : Value) (what n : Int) (w : World) (hg : Fa.EG w) (h : KgIn w g ga gb gc gd) (hw : I64 what) (hn : I64 n) :
    Calls Tryd.prog 7 #[kgv g ga gb gc gd, .int .i64 what, .int .i64 n] w fun e w' => e = .returned (.bool true) ∧ Below w.heap.size w w' := by
  have B0 := Lib.hid (new_below w (.cells #[.int .i64 g.kd, .int .i64 g.cl, .int .i64 g.sq, .int .i64 g.ow, .int .i64 g.nm, ga, gb, gc, gd] 42))
  have MG := Lib.hid (message_any g ga gb gc gd (w.alloc (.cells #[.int .i64 g.kd, .int .i64 g.cl, .int .i64 g.sq, .int .i64 g.ow, .int .i64 g.nm, ga, gb, gc, gd] 42)) (kgin_on h B0.out))
  have G0 := Lib.hid (GE.mk hg)
  have FT := Lib.hid (kg_fit g)
  obtain ⟨ao, ac, rfl⟩ := h.a.shape
  obtain ⟨bo, bc, rfl⟩ := h.b.shape
  obtain ⟨co, cc, rfl⟩ := h.c.shape
  obtain ⟨do_, dc, rfl⟩ := h.d.shape
  have WN := Lib.hid (fun W => within_big n 0 1099511627776 W (by omega) (by omega) (by omega) hn.1 hn.2)
  have WW := Lib.hid (fun W => within_big what 0 5 W (by omega) (by omega) (by omega) hw.1 hw.2)
  have bn := within_bd n 0 1099511627776 (by omega)
  have bw := within_bd what 0 5 (by omega)
  clear hg h hw hn
  generalize within n 0 1099511627776 = y at *
  generalize within what 0 5 = s at *
  generalize g.m = m at *
  go_enter Tryd.func7, Tryd.ntmps7
  go_wp2_with fail
  refine MG.out.mono ?_
  rintro e1 w1 ⟨⟨pv, lv, rfl, hin⟩, hb⟩
  have B1 := Lib.hid (B0.out.trans (hb.mono B0.out.size))
  obtain ⟨k, tc, ts, ic, is, p, l⟩ := m
  obtain ⟨po, pc, rfl⟩ := hin.p.len
  obtain ⟨lo, lc, rfl⟩ := hin.l.len
  have IN1 := Lib.hid hin
  have BW := Lib.hid (new_below w1 (.cells (mcells ⟨k, tc, ts, ic, is, p, l⟩ (.slice po p.length pc) (.slice lo l.length lc)) 32))
  have X2 := Lib.hid (box_new w1 (mcells ⟨k, tc, ts, ic, is, p, l⟩ (.slice po p.length pc) (.slice lo l.length lc)) 32)
  have B2 := Lib.hid (B1.out.trans ((new_below w1 (.cells (mcells ⟨k, tc, ts, ic, is, p, l⟩ (.slice po p.length pc) (.slice lo l.length lc)) 32)).mono B1.out.size))
  have SM := Lib.hid FT.out.small
  have L5 := Lib.hid (show l.length ≤ 5 from FT.out.l5)
  have M1 := Lib.hid B1.out.size
  clear hin hb MG B0 B1 FT
  go_wp2_with fail
  refine (WN.out _).mono ?_
  rintro e2 w2 ⟨rfl, rfl⟩
  go_wp2_with fail
  refine (WW.out _).mono ?_
  rintro e3 w3 ⟨rfl, rfl⟩
  obtain ⟨by_, hby⟩ : ∃ b : Int, 1 + y = b := ⟨_, rfl⟩
  rw [hby]
  have hy1 : 1 ≤ by_ := by omega
  have hy2 : by_ ≤ 1099511627777 := by omega
  have HBY := Lib.hid hby
  clear hby WN WW bn
  generalize hW2 : w1.alloc (.cells (mcells ⟨k, tc, ts, ic, is, p, l⟩ (.slice po p.length pc) (.slice lo l.length lc)) 32) = W2 at *
  have HW2 := Lib.hid hW2
  have S2 := Lib.hid (show w1.heap.size < W2.heap.size by rw [← hW2]; simp)
  clear hW2
  have hs6 : s = 0 ∨ s = 1 ∨ s = 2 ∨ s = 3 ∨ s = 4 ∨ s = 5 := by omega
  clear bw
  have XX := X2.out
  have x0 := XX.cell 0
  have x1 := XX.cell 1
  have x2 := XX.cell 2
  have x3 := XX.cell 3
  have x4 := XX.cell 4
  have x5 := XX.cell 5
  have x6 := XX.cell 6
  have y0 := XX.fr 0
  have y1 := XX.fr 1
  have y2 := XX.fr 2
  have y3 := XX.fr 3
  have y4 := XX.fr 4
  have y5 := XX.fr 5
  have y6 := XX.fr 6
  have z := XX.lt
  simp only [List.getElem?_toArray, List.getElem?_cons_zero, List.getElem?_cons_succ] at x0 x1 x2 x3 x4 x5 x6
  clear XX
  rcases hs6 with rfl | rfl | rfl | rfl | rfl | rfl
  · have X3 := Lib.hid (show Box (W2.setCell ⟨w1.heap.size, 0, none⟩ (.int .i64 (5 + by_))) w1.heap.size (mcells ⟨5 + by_, tc, ts, ic, is, p, l⟩ (.slice po p.length pc) (.slice lo l.length lc)) 32 from box_set (k := 0) X2.out _)
    have I3 := Lib.hid (show MgIn (W2.setCell ⟨w1.heap.size, 0, none⟩ (.int .i64 (5 + by_))) ⟨5 + by_, tc, ts, ic, is, p, l⟩ (.slice po p.length pc) (.slice lo l.length lc) from ⟨IN1.out.p.on (BW.out.setCell (Nat.le_refl _) _), IN1.out.l.on (BW.out.setCell (Nat.le_refl _) _)⟩)
    have B3 := Lib.hid (show Below w.heap.size w (W2.setCell ⟨w1.heap.size, 0, none⟩ (.int .i64 (5 + by_))) from B2.out.setCell M1.out _)
    have S3 := Lib.hid (show Small ⟨5 + by_, tc, ts, ic, is, p, l⟩ from ⟨SM.out.p, SM.out.l, SM.out.ps, SM.out.ls⟩)
    have R3 := Lib.hid (show rightM ⟨5 + by_, tc, ts, ic, is, p, l⟩ = false from turn_kind (by omega))
    have L3 := Lib.hid (show (l).length ≤ 1000 from by first | (simp; done) | (have := L5.out; omega))
    go_upto_region 19 with fail
    clear x0 y0 x1 y1 x2 y2 x3 y3 x4 y4 x5 y5 x6 y6 z X2 B2 BW IN1
    generalize (W2.setCell ⟨w1.heap.size, 0, none⟩ (.int .i64 (5 + by_))) = W9 at *
    have XX := X3.out
    have x0 := XX.cell 0
    have x1 := XX.cell 1
    have x2 := XX.cell 2
    have x3 := XX.cell 3
    have x4 := XX.cell 4
    have x5 := XX.cell 5
    have x6 := XX.cell 6
    have y0 := XX.fr 0
    have y1 := XX.fr 1
    have y2 := XX.fr 2
    have y3 := XX.fr 3
    have y4 := XX.fr 4
    have y5 := XX.fr 5
    have y6 := XX.fr 6
    have z := XX.lt
    simp only [List.getElem?_toArray, List.getElem?_cons_zero, List.getElem?_cons_succ] at x0 x1 x2 x3 x4 x5 x6
    clear XX
    have EC := Lib.hid (enc_no ⟨5 + by_, tc, ts, ic, is, p, l⟩ _ _ W9 I3.out S3.out L3.out R3.out)
    go_wp2_with fail
    refine EC.out.mono ?_
    rintro e10 w10 ⟨⟨v10, rfl, hf⟩, hb⟩
    have X10 := Lib.hid (X3.out.on hb)
    have I10 := Lib.hid (I3.out.on hb)
    have B10 := Lib.hid (B3.out.trans (hb.mono B3.out.size))
    have F10 := Lib.hid hf
    obtain ⟨f10, rfl, _⟩ := hf.ch
    have RC := Lib.hid (wright_any ⟨5 + by_, tc, ts, ic, is, p, l⟩ _ _ w10 I10.out S3.out L3.out)
    rw [R3.out] at RC
    clear hf hb EC X3 I3 B3 x0 y0 x1 y1 x2 y2 x3 y3 x4 y4 x5 y5 x6 y6 z
    have XX := X10.out
    have x0 := XX.cell 0
    have x1 := XX.cell 1
    have x2 := XX.cell 2
    have x3 := XX.cell 3
    have x4 := XX.cell 4
    have x5 := XX.cell 5
    have x6 := XX.cell 6
    have y0 := XX.fr 0
    have y1 := XX.fr 1
    have y2 := XX.fr 2
    have y3 := XX.fr 3
    have y4 := XX.fr 4
    have y5 := XX.fr 5
    have y6 := XX.fr 6
    have z := XX.lt
    simp only [List.getElem?_toArray, List.getElem?_cons_zero, List.getElem?_cons_succ] at x0 x1 x2 x3 x4 x5 x6
    clear XX
    go_wp2_with fail
    refine RC.out.mono ?_
    rintro e11 w11 ⟨rfl, hb⟩
    have B11 := Lib.hid (B10.out.trans (hb.mono B10.out.size))
    have F11 := Lib.hid (F10.out.on hb)
    have KD := Lib.hid (wkind_ok F11.out (G0.out.on B11.out))
    clear hb RC X10 I10 B10 F10 x0 y0 x1 y1 x2 y2 x3 y3 x4 y4 x5 y5 x6 y6 z
    go_wp2_with fail
    refine KD.out.mono ?_
    rintro e12 w12 ⟨rfl, hb⟩
    have B12 := Lib.hid (B11.out.trans (hb.mono B11.out.size))
    have F12 := Lib.hid (F11.out.on hb)
    have EQ := eqE 1 1 w12 true rfl
    have TR := Lib.hid (wtrace_ok F12.out (G0.out.on B12.out))
    clear hb KD B11 F11
    go_wp2_with fail
    refine TR.out.mono ?_
    rintro e13 w13 ⟨⟨fg, fc, rfl, hc⟩, hb⟩
    have B13 := Lib.hid (B12.out.trans (hb.mono B12.out.size))
    have SO := Lib.hid (same_one (c := fc) hc)
    have B14 := Lib.hid (B13.out.trans ((new_below w13 (.cells #[.string wireTxt] 9)).mono B13.out.size))
    clear hb hc TR B12 F12 EQ
    go_wp2_with fail
    refine SO.out.mono ?_
    rintro e15 w15 ⟨rfl, hb⟩
    have B15 := Lib.hid (B14.out.trans (hb.mono B14.out.size))
    have RU := Lib.hid (runs_any w15 (G0.out.on B15.out).eg)
    clear hb SO B14 B13
    go_wp2_with fail
    refine RU.out.mono ?_
    rintro e16 w16 ⟨rfl, hb⟩
    have B16 := Lib.hid (B15.out.trans (hb.mono B15.out.size))
    clear hb RU B15
    go_wp2_with fail
    go_ret
    exact ⟨rfl, B16.out⟩
  · have X3 := Lib.hid (show Box (W2.setCell ⟨w1.heap.size, 1, none⟩ (.int .i64 (-by_))) w1.heap.size (mcells ⟨k, -by_, ts, ic, is, p, l⟩ (.slice po p.length pc) (.slice lo l.length lc)) 32 from box_set (k := 1) X2.out _)
    have I3 := Lib.hid (show MgIn (W2.setCell ⟨w1.heap.size, 1, none⟩ (.int .i64 (-by_))) ⟨k, -by_, ts, ic, is, p, l⟩ (.slice po p.length pc) (.slice lo l.length lc) from ⟨IN1.out.p.on (BW.out.setCell (Nat.le_refl _) _), IN1.out.l.on (BW.out.setCell (Nat.le_refl _) _)⟩)
    have B3 := Lib.hid (show Below w.heap.size w (W2.setCell ⟨w1.heap.size, 1, none⟩ (.int .i64 (-by_))) from B2.out.setCell M1.out _)
    have S3 := Lib.hid (show Small ⟨k, -by_, ts, ic, is, p, l⟩ from ⟨SM.out.p, SM.out.l, SM.out.ps, SM.out.ls⟩)
    have R3 := Lib.hid (show rightM ⟨k, -by_, ts, ic, is, p, l⟩ = false from rightM_id (by unfold rightI; simp; omega))
    have L3 := Lib.hid (show (l).length ≤ 1000 from by first | (simp; done) | (have := L5.out; omega))
    go_upto_region 19 with fail
    clear x0 y0 x1 y1 x2 y2 x3 y3 x4 y4 x5 y5 x6 y6 z X2 B2 BW IN1
    generalize (W2.setCell ⟨w1.heap.size, 1, none⟩ (.int .i64 (-by_))) = W9 at *
    have XX := X3.out
    have x0 := XX.cell 0
    have x1 := XX.cell 1
    have x2 := XX.cell 2
    have x3 := XX.cell 3
    have x4 := XX.cell 4
    have x5 := XX.cell 5
    have x6 := XX.cell 6
    have y0 := XX.fr 0
    have y1 := XX.fr 1
    have y2 := XX.fr 2
    have y3 := XX.fr 3
    have y4 := XX.fr 4
    have y5 := XX.fr 5
    have y6 := XX.fr 6
    have z := XX.lt
    simp only [List.getElem?_toArray, List.getElem?_cons_zero, List.getElem?_cons_succ] at x0 x1 x2 x3 x4 x5 x6
    clear XX
    have EC := Lib.hid (enc_no ⟨k, -by_, ts, ic, is, p, l⟩ _ _ W9 I3.out S3.out L3.out R3.out)
    go_wp2_with fail
    refine EC.out.mono ?_
    rintro e10 w10 ⟨⟨v10, rfl, hf⟩, hb⟩
    have X10 := Lib.hid (X3.out.on hb)
    have I10 := Lib.hid (I3.out.on hb)
    have B10 := Lib.hid (B3.out.trans (hb.mono B3.out.size))
    have F10 := Lib.hid hf
    obtain ⟨f10, rfl, _⟩ := hf.ch
    have RC := Lib.hid (wright_any ⟨k, -by_, ts, ic, is, p, l⟩ _ _ w10 I10.out S3.out L3.out)
    rw [R3.out] at RC
    clear hf hb EC X3 I3 B3 x0 y0 x1 y1 x2 y2 x3 y3 x4 y4 x5 y5 x6 y6 z
    have XX := X10.out
    have x0 := XX.cell 0
    have x1 := XX.cell 1
    have x2 := XX.cell 2
    have x3 := XX.cell 3
    have x4 := XX.cell 4
    have x5 := XX.cell 5
    have x6 := XX.cell 6
    have y0 := XX.fr 0
    have y1 := XX.fr 1
    have y2 := XX.fr 2
    have y3 := XX.fr 3
    have y4 := XX.fr 4
    have y5 := XX.fr 5
    have y6 := XX.fr 6
    have z := XX.lt
    simp only [List.getElem?_toArray, List.getElem?_cons_zero, List.getElem?_cons_succ] at x0 x1 x2 x3 x4 x5 x6
    clear XX
    go_wp2_with fail
    refine RC.out.mono ?_
    rintro e11 w11 ⟨rfl, hb⟩
    have B11 := Lib.hid (B10.out.trans (hb.mono B10.out.size))
    have F11 := Lib.hid (F10.out.on hb)
    have KD := Lib.hid (wkind_ok F11.out (G0.out.on B11.out))
    clear hb RC X10 I10 B10 F10 x0 y0 x1 y1 x2 y2 x3 y3 x4 y4 x5 y5 x6 y6 z
    go_wp2_with fail
    refine KD.out.mono ?_
    rintro e12 w12 ⟨rfl, hb⟩
    have B12 := Lib.hid (B11.out.trans (hb.mono B11.out.size))
    have F12 := Lib.hid (F11.out.on hb)
    have EQ := eqE 1 1 w12 true rfl
    have TR := Lib.hid (wtrace_ok F12.out (G0.out.on B12.out))
    clear hb KD B11 F11
    go_wp2_with fail
    refine TR.out.mono ?_
    rintro e13 w13 ⟨⟨fg, fc, rfl, hc⟩, hb⟩
    have B13 := Lib.hid (B12.out.trans (hb.mono B12.out.size))
    have SO := Lib.hid (same_one (c := fc) hc)
    have B14 := Lib.hid (B13.out.trans ((new_below w13 (.cells #[.string wireTxt] 9)).mono B13.out.size))
    clear hb hc TR B12 F12 EQ
    go_wp2_with fail
    refine SO.out.mono ?_
    rintro e15 w15 ⟨rfl, hb⟩
    have B15 := Lib.hid (B14.out.trans (hb.mono B14.out.size))
    have RU := Lib.hid (runs_any w15 (G0.out.on B15.out).eg)
    clear hb SO B14 B13
    go_wp2_with fail
    refine RU.out.mono ?_
    rintro e16 w16 ⟨rfl, hb⟩
    have B16 := Lib.hid (B15.out.trans (hb.mono B15.out.size))
    clear hb RU B15
    go_wp2_with fail
    go_ret
    exact ⟨rfl, B16.out⟩
  · have X3 := Lib.hid (show Box (W2.setCell ⟨w1.heap.size, 1, none⟩ (.int .i64 (31 + by_))) w1.heap.size (mcells ⟨k, 31 + by_, ts, ic, is, p, l⟩ (.slice po p.length pc) (.slice lo l.length lc)) 32 from box_set (k := 1) X2.out _)
    have I3 := Lib.hid (show MgIn (W2.setCell ⟨w1.heap.size, 1, none⟩ (.int .i64 (31 + by_))) ⟨k, 31 + by_, ts, ic, is, p, l⟩ (.slice po p.length pc) (.slice lo l.length lc) from ⟨IN1.out.p.on (BW.out.setCell (Nat.le_refl _) _), IN1.out.l.on (BW.out.setCell (Nat.le_refl _) _)⟩)
    have B3 := Lib.hid (show Below w.heap.size w (W2.setCell ⟨w1.heap.size, 1, none⟩ (.int .i64 (31 + by_))) from B2.out.setCell M1.out _)
    have S3 := Lib.hid (show Small ⟨k, 31 + by_, ts, ic, is, p, l⟩ from ⟨SM.out.p, SM.out.l, SM.out.ps, SM.out.ls⟩)
    have R3 := Lib.hid (show rightM ⟨k, 31 + by_, ts, ic, is, p, l⟩ = false from rightM_id (by unfold rightI; simp; omega))
    have L3 := Lib.hid (show (l).length ≤ 1000 from by first | (simp; done) | (have := L5.out; omega))
    go_upto_region 19 with fail
    clear x0 y0 x1 y1 x2 y2 x3 y3 x4 y4 x5 y5 x6 y6 z X2 B2 BW IN1
    generalize (W2.setCell ⟨w1.heap.size, 1, none⟩ (.int .i64 (31 + by_))) = W9 at *
    have XX := X3.out
    have x0 := XX.cell 0
    have x1 := XX.cell 1
    have x2 := XX.cell 2
    have x3 := XX.cell 3
    have x4 := XX.cell 4
    have x5 := XX.cell 5
    have x6 := XX.cell 6
    have y0 := XX.fr 0
    have y1 := XX.fr 1
    have y2 := XX.fr 2
    have y3 := XX.fr 3
    have y4 := XX.fr 4
    have y5 := XX.fr 5
    have y6 := XX.fr 6
    have z := XX.lt
    simp only [List.getElem?_toArray, List.getElem?_cons_zero, List.getElem?_cons_succ] at x0 x1 x2 x3 x4 x5 x6
    clear XX
    have EC := Lib.hid (enc_no ⟨k, 31 + by_, ts, ic, is, p, l⟩ _ _ W9 I3.out S3.out L3.out R3.out)
    go_wp2_with fail
    refine EC.out.mono ?_
    rintro e10 w10 ⟨⟨v10, rfl, hf⟩, hb⟩
    have X10 := Lib.hid (X3.out.on hb)
    have I10 := Lib.hid (I3.out.on hb)
    have B10 := Lib.hid (B3.out.trans (hb.mono B3.out.size))
    have F10 := Lib.hid hf
    obtain ⟨f10, rfl, _⟩ := hf.ch
    have RC := Lib.hid (wright_any ⟨k, 31 + by_, ts, ic, is, p, l⟩ _ _ w10 I10.out S3.out L3.out)
    rw [R3.out] at RC
    clear hf hb EC X3 I3 B3 x0 y0 x1 y1 x2 y2 x3 y3 x4 y4 x5 y5 x6 y6 z
    have XX := X10.out
    have x0 := XX.cell 0
    have x1 := XX.cell 1
    have x2 := XX.cell 2
    have x3 := XX.cell 3
    have x4 := XX.cell 4
    have x5 := XX.cell 5
    have x6 := XX.cell 6
    have y0 := XX.fr 0
    have y1 := XX.fr 1
    have y2 := XX.fr 2
    have y3 := XX.fr 3
    have y4 := XX.fr 4
    have y5 := XX.fr 5
    have y6 := XX.fr 6
    have z := XX.lt
    simp only [List.getElem?_toArray, List.getElem?_cons_zero, List.getElem?_cons_succ] at x0 x1 x2 x3 x4 x5 x6
    clear XX
    go_wp2_with fail
    refine RC.out.mono ?_
    rintro e11 w11 ⟨rfl, hb⟩
    have B11 := Lib.hid (B10.out.trans (hb.mono B10.out.size))
    have F11 := Lib.hid (F10.out.on hb)
    have KD := Lib.hid (wkind_ok F11.out (G0.out.on B11.out))
    clear hb RC X10 I10 B10 F10 x0 y0 x1 y1 x2 y2 x3 y3 x4 y4 x5 y5 x6 y6 z
    go_wp2_with fail
    refine KD.out.mono ?_
    rintro e12 w12 ⟨rfl, hb⟩
    have B12 := Lib.hid (B11.out.trans (hb.mono B11.out.size))
    have F12 := Lib.hid (F11.out.on hb)
    have EQ := eqE 1 1 w12 true rfl
    have TR := Lib.hid (wtrace_ok F12.out (G0.out.on B12.out))
    clear hb KD B11 F11
    go_wp2_with fail
    refine TR.out.mono ?_
    rintro e13 w13 ⟨⟨fg, fc, rfl, hc⟩, hb⟩
    have B13 := Lib.hid (B12.out.trans (hb.mono B12.out.size))
    have SO := Lib.hid (same_one (c := fc) hc)
    have B14 := Lib.hid (B13.out.trans ((new_below w13 (.cells #[.string wireTxt] 9)).mono B13.out.size))
    clear hb hc TR B12 F12 EQ
    go_wp2_with fail
    refine SO.out.mono ?_
    rintro e15 w15 ⟨rfl, hb⟩
    have B15 := Lib.hid (B14.out.trans (hb.mono B14.out.size))
    have RU := Lib.hid (runs_any w15 (G0.out.on B15.out).eg)
    clear hb SO B14 B13
    go_wp2_with fail
    refine RU.out.mono ?_
    rintro e16 w16 ⟨rfl, hb⟩
    have B16 := Lib.hid (B15.out.trans (hb.mono B15.out.size))
    clear hb RU B15
    go_wp2_with fail
    go_ret
    exact ⟨rfl, B16.out⟩
  · have X3 := Lib.hid (show Box (W2.setCell ⟨w1.heap.size, 2, none⟩ (.int .i64 (-by_))) w1.heap.size (mcells ⟨k, tc, -by_, ic, is, p, l⟩ (.slice po p.length pc) (.slice lo l.length lc)) 32 from box_set (k := 2) X2.out _)
    have I3 := Lib.hid (show MgIn (W2.setCell ⟨w1.heap.size, 2, none⟩ (.int .i64 (-by_))) ⟨k, tc, -by_, ic, is, p, l⟩ (.slice po p.length pc) (.slice lo l.length lc) from ⟨IN1.out.p.on (BW.out.setCell (Nat.le_refl _) _), IN1.out.l.on (BW.out.setCell (Nat.le_refl _) _)⟩)
    have B3 := Lib.hid (show Below w.heap.size w (W2.setCell ⟨w1.heap.size, 2, none⟩ (.int .i64 (-by_))) from B2.out.setCell M1.out _)
    have S3 := Lib.hid (show Small ⟨k, tc, -by_, ic, is, p, l⟩ from ⟨SM.out.p, SM.out.l, SM.out.ps, SM.out.ls⟩)
    have R3 := Lib.hid (show rightM ⟨k, tc, -by_, ic, is, p, l⟩ = false from rightM_id (by unfold rightI; simp; omega))
    have L3 := Lib.hid (show (l).length ≤ 1000 from by first | (simp; done) | (have := L5.out; omega))
    go_upto_region 19 with fail
    clear x0 y0 x1 y1 x2 y2 x3 y3 x4 y4 x5 y5 x6 y6 z X2 B2 BW IN1
    generalize (W2.setCell ⟨w1.heap.size, 2, none⟩ (.int .i64 (-by_))) = W9 at *
    have XX := X3.out
    have x0 := XX.cell 0
    have x1 := XX.cell 1
    have x2 := XX.cell 2
    have x3 := XX.cell 3
    have x4 := XX.cell 4
    have x5 := XX.cell 5
    have x6 := XX.cell 6
    have y0 := XX.fr 0
    have y1 := XX.fr 1
    have y2 := XX.fr 2
    have y3 := XX.fr 3
    have y4 := XX.fr 4
    have y5 := XX.fr 5
    have y6 := XX.fr 6
    have z := XX.lt
    simp only [List.getElem?_toArray, List.getElem?_cons_zero, List.getElem?_cons_succ] at x0 x1 x2 x3 x4 x5 x6
    clear XX
    have EC := Lib.hid (enc_no ⟨k, tc, -by_, ic, is, p, l⟩ _ _ W9 I3.out S3.out L3.out R3.out)
    go_wp2_with fail
    refine EC.out.mono ?_
    rintro e10 w10 ⟨⟨v10, rfl, hf⟩, hb⟩
    have X10 := Lib.hid (X3.out.on hb)
    have I10 := Lib.hid (I3.out.on hb)
    have B10 := Lib.hid (B3.out.trans (hb.mono B3.out.size))
    have F10 := Lib.hid hf
    obtain ⟨f10, rfl, _⟩ := hf.ch
    have RC := Lib.hid (wright_any ⟨k, tc, -by_, ic, is, p, l⟩ _ _ w10 I10.out S3.out L3.out)
    rw [R3.out] at RC
    clear hf hb EC X3 I3 B3 x0 y0 x1 y1 x2 y2 x3 y3 x4 y4 x5 y5 x6 y6 z
    have XX := X10.out
    have x0 := XX.cell 0
    have x1 := XX.cell 1
    have x2 := XX.cell 2
    have x3 := XX.cell 3
    have x4 := XX.cell 4
    have x5 := XX.cell 5
    have x6 := XX.cell 6
    have y0 := XX.fr 0
    have y1 := XX.fr 1
    have y2 := XX.fr 2
    have y3 := XX.fr 3
    have y4 := XX.fr 4
    have y5 := XX.fr 5
    have y6 := XX.fr 6
    have z := XX.lt
    simp only [List.getElem?_toArray, List.getElem?_cons_zero, List.getElem?_cons_succ] at x0 x1 x2 x3 x4 x5 x6
    clear XX
    go_wp2_with fail
    refine RC.out.mono ?_
    rintro e11 w11 ⟨rfl, hb⟩
    have B11 := Lib.hid (B10.out.trans (hb.mono B10.out.size))
    have F11 := Lib.hid (F10.out.on hb)
    have KD := Lib.hid (wkind_ok F11.out (G0.out.on B11.out))
    clear hb RC X10 I10 B10 F10 x0 y0 x1 y1 x2 y2 x3 y3 x4 y4 x5 y5 x6 y6 z
    go_wp2_with fail
    refine KD.out.mono ?_
    rintro e12 w12 ⟨rfl, hb⟩
    have B12 := Lib.hid (B11.out.trans (hb.mono B11.out.size))
    have F12 := Lib.hid (F11.out.on hb)
    have EQ := eqE 1 1 w12 true rfl
    have TR := Lib.hid (wtrace_ok F12.out (G0.out.on B12.out))
    clear hb KD B11 F11
    go_wp2_with fail
    refine TR.out.mono ?_
    rintro e13 w13 ⟨⟨fg, fc, rfl, hc⟩, hb⟩
    have B13 := Lib.hid (B12.out.trans (hb.mono B12.out.size))
    have SO := Lib.hid (same_one (c := fc) hc)
    have B14 := Lib.hid (B13.out.trans ((new_below w13 (.cells #[.string wireTxt] 9)).mono B13.out.size))
    clear hb hc TR B12 F12 EQ
    go_wp2_with fail
    refine SO.out.mono ?_
    rintro e15 w15 ⟨rfl, hb⟩
    have B15 := Lib.hid (B14.out.trans (hb.mono B14.out.size))
    have RU := Lib.hid (runs_any w15 (G0.out.on B15.out).eg)
    clear hb SO B14 B13
    go_wp2_with fail
    refine RU.out.mono ?_
    rintro e16 w16 ⟨rfl, hb⟩
    have B16 := Lib.hid (B15.out.trans (hb.mono B15.out.size))
    clear hb RU B15
    go_wp2_with fail
    go_ret
    exact ⟨rfl, B16.out⟩
  · by_cases hk : k = 5
    · have hk5 : k = 5 := hk
      subst hk5
      clear hk
      have X3 := Lib.hid (show Box ((W2.setCell ⟨w1.heap.size, 5, none⟩ (.slice (some ⟨W2.heap.size, 0, none⟩) 1 1)).alloc (.cells #[.string ⟨#[97]⟩, .int .i64 3, .int .i64 0, .int .i64 0, .string ⟨#[]⟩] 57)) w1.heap.size (mcells ⟨5, tc, ts, ic, is, [((⟨#[97]⟩, 3, 0, 0, ⟨#[]⟩) : C5)], l⟩ (.slice (some ⟨W2.heap.size, 0, none⟩) 1 1) (.slice lo l.length lc)) 32 from (box_set (k := 5) X2.out _).more _)
      have I3 := Lib.hid (show MgIn ((W2.setCell ⟨w1.heap.size, 5, none⟩ (.slice (some ⟨W2.heap.size, 0, none⟩) 1 1)).alloc (.cells #[.string ⟨#[97]⟩, .int .i64 3, .int .i64 0, .int .i64 0, .string ⟨#[]⟩] 57)) ⟨5, tc, ts, ic, is, [((⟨#[97]⟩, 3, 0, 0, ⟨#[]⟩) : C5)], l⟩ (.slice (some ⟨W2.heap.size, 0, none⟩) 1 1) (.slice lo l.length lc) from ⟨litC_set W2 _ _ ((⟨#[97]⟩, 3, 0, 0, ⟨#[]⟩) : C5) _ rfl, IN1.out.l.on ((BW.out.setCell (Nat.le_refl _) _).alloc (by rw [set_size]; have := S2.out; omega) _)⟩)
      have B3 := Lib.hid (show Below w.heap.size w ((W2.setCell ⟨w1.heap.size, 5, none⟩ (.slice (some ⟨W2.heap.size, 0, none⟩) 1 1)).alloc (.cells #[.string ⟨#[97]⟩, .int .i64 3, .int .i64 0, .int .i64 0, .string ⟨#[]⟩] 57)) from (B2.out.setCell M1.out _).alloc (by rw [set_size]; exact B2.out.size) _)
      have S3 := Lib.hid (show Small ⟨5, tc, ts, ic, is, [((⟨#[97]⟩, 3, 0, 0, ⟨#[]⟩) : C5)], l⟩ from ⟨by simp, SM.out.l, fun x hx => by rw [List.mem_singleton] at hx; subst hx; unfold maxLen; exact ⟨by decide, by decide⟩, SM.out.ls⟩)
      have R3 := Lib.hid (show rightM ⟨5, tc, ts, ic, is, [((⟨#[97]⟩, 3, 0, 0, ⟨#[]⟩) : C5)], l⟩ = false from turn_p)
      have L3 := Lib.hid (show (l).length ≤ 1000 from by first | (simp; done) | (have := L5.out; omega))
      go_upto_region 19 with fail
      clear x0 y0 x1 y1 x2 y2 x3 y3 x4 y4 x5 y5 x6 y6 z X2 B2 BW IN1
      generalize ((W2.setCell ⟨w1.heap.size, 5, none⟩ (.slice (some ⟨W2.heap.size, 0, none⟩) 1 1)).alloc (.cells #[.string ⟨#[97]⟩, .int .i64 3, .int .i64 0, .int .i64 0, .string ⟨#[]⟩] 57)) = W9 at *
      have XX := X3.out
      have x0 := XX.cell 0
      have x1 := XX.cell 1
      have x2 := XX.cell 2
      have x3 := XX.cell 3
      have x4 := XX.cell 4
      have x5 := XX.cell 5
      have x6 := XX.cell 6
      have y0 := XX.fr 0
      have y1 := XX.fr 1
      have y2 := XX.fr 2
      have y3 := XX.fr 3
      have y4 := XX.fr 4
      have y5 := XX.fr 5
      have y6 := XX.fr 6
      have z := XX.lt
      simp only [List.getElem?_toArray, List.getElem?_cons_zero, List.getElem?_cons_succ] at x0 x1 x2 x3 x4 x5 x6
      clear XX
      have EC := Lib.hid (enc_no ⟨5, tc, ts, ic, is, [((⟨#[97]⟩, 3, 0, 0, ⟨#[]⟩) : C5)], l⟩ _ _ W9 I3.out S3.out L3.out R3.out)
      go_wp2_with fail
      refine EC.out.mono ?_
      rintro e10 w10 ⟨⟨v10, rfl, hf⟩, hb⟩
      have X10 := Lib.hid (X3.out.on hb)
      have I10 := Lib.hid (I3.out.on hb)
      have B10 := Lib.hid (B3.out.trans (hb.mono B3.out.size))
      have F10 := Lib.hid hf
      obtain ⟨f10, rfl, _⟩ := hf.ch
      have RC := Lib.hid (wright_any ⟨5, tc, ts, ic, is, [((⟨#[97]⟩, 3, 0, 0, ⟨#[]⟩) : C5)], l⟩ _ _ w10 I10.out S3.out L3.out)
      rw [R3.out] at RC
      clear hf hb EC X3 I3 B3 x0 y0 x1 y1 x2 y2 x3 y3 x4 y4 x5 y5 x6 y6 z
      have XX := X10.out
      have x0 := XX.cell 0
      have x1 := XX.cell 1
      have x2 := XX.cell 2
      have x3 := XX.cell 3
      have x4 := XX.cell 4
      have x5 := XX.cell 5
      have x6 := XX.cell 6
      have y0 := XX.fr 0
      have y1 := XX.fr 1
      have y2 := XX.fr 2
      have y3 := XX.fr 3
      have y4 := XX.fr 4
      have y5 := XX.fr 5
      have y6 := XX.fr 6
      have z := XX.lt
      simp only [List.getElem?_toArray, List.getElem?_cons_zero, List.getElem?_cons_succ] at x0 x1 x2 x3 x4 x5 x6
      clear XX
      go_wp2_with fail
      refine RC.out.mono ?_
      rintro e11 w11 ⟨rfl, hb⟩
      have B11 := Lib.hid (B10.out.trans (hb.mono B10.out.size))
      have F11 := Lib.hid (F10.out.on hb)
      have KD := Lib.hid (wkind_ok F11.out (G0.out.on B11.out))
      clear hb RC X10 I10 B10 F10 x0 y0 x1 y1 x2 y2 x3 y3 x4 y4 x5 y5 x6 y6 z
      go_wp2_with fail
      refine KD.out.mono ?_
      rintro e12 w12 ⟨rfl, hb⟩
      have B12 := Lib.hid (B11.out.trans (hb.mono B11.out.size))
      have F12 := Lib.hid (F11.out.on hb)
      have EQ := eqE 1 1 w12 true rfl
      have TR := Lib.hid (wtrace_ok F12.out (G0.out.on B12.out))
      clear hb KD B11 F11
      go_wp2_with fail
      refine TR.out.mono ?_
      rintro e13 w13 ⟨⟨fg, fc, rfl, hc⟩, hb⟩
      have B13 := Lib.hid (B12.out.trans (hb.mono B12.out.size))
      have SO := Lib.hid (same_one (c := fc) hc)
      have B14 := Lib.hid (B13.out.trans ((new_below w13 (.cells #[.string wireTxt] 9)).mono B13.out.size))
      clear hb hc TR B12 F12 EQ
      go_wp2_with fail
      refine SO.out.mono ?_
      rintro e15 w15 ⟨rfl, hb⟩
      have B15 := Lib.hid (B14.out.trans (hb.mono B14.out.size))
      have RU := Lib.hid (runs_any w15 (G0.out.on B15.out).eg)
      clear hb SO B14 B13
      go_wp2_with fail
      refine RU.out.mono ?_
      rintro e16 w16 ⟨rfl, hb⟩
      have B16 := Lib.hid (B15.out.trans (hb.mono B15.out.size))
      clear hb RU B15
      go_wp2_with fail
      go_ret
      exact ⟨rfl, B16.out⟩
    · have HK := Lib.hid hk
      have hk5 : (k == 5) = false := by simpa using hk
      clear hk
      have X3 := Lib.hid (show Box ((W2.setCell ⟨w1.heap.size, 6, none⟩ (.slice (some ⟨W2.heap.size, 0, none⟩) 1 1)).alloc (.cells #[.string ⟨#[97]⟩, .bool false, .int .i64 0, .string ⟨#[]⟩] 61)) w1.heap.size (mcells ⟨k, tc, ts, ic, is, p, [((⟨#[97]⟩, false, 0, ⟨#[]⟩) : A4)]⟩ (.slice po p.length pc) (.slice (some ⟨W2.heap.size, 0, none⟩) 1 1)) 32 from (box_set (k := 6) X2.out _).more _)
      have I3 := Lib.hid (show MgIn ((W2.setCell ⟨w1.heap.size, 6, none⟩ (.slice (some ⟨W2.heap.size, 0, none⟩) 1 1)).alloc (.cells #[.string ⟨#[97]⟩, .bool false, .int .i64 0, .string ⟨#[]⟩] 61)) ⟨k, tc, ts, ic, is, p, [((⟨#[97]⟩, false, 0, ⟨#[]⟩) : A4)]⟩ (.slice po p.length pc) (.slice (some ⟨W2.heap.size, 0, none⟩) 1 1) from ⟨IN1.out.p.on ((BW.out.setCell (Nat.le_refl _) _).alloc (by rw [set_size]; have := S2.out; omega) _), litA_set W2 _ _ ((⟨#[97]⟩, false, 0, ⟨#[]⟩) : A4) _ rfl⟩)
      have B3 := Lib.hid (show Below w.heap.size w ((W2.setCell ⟨w1.heap.size, 6, none⟩ (.slice (some ⟨W2.heap.size, 0, none⟩) 1 1)).alloc (.cells #[.string ⟨#[97]⟩, .bool false, .int .i64 0, .string ⟨#[]⟩] 61)) from (B2.out.setCell M1.out _).alloc (by rw [set_size]; exact B2.out.size) _)
      have S3 := Lib.hid (show Small ⟨k, tc, ts, ic, is, p, [((⟨#[97]⟩, false, 0, ⟨#[]⟩) : A4)]⟩ from ⟨SM.out.p, by simp, SM.out.ps, fun x hx => by rw [List.mem_singleton] at hx; subst hx; unfold maxLen; exact ⟨by decide, by decide⟩⟩)
      have R3 := Lib.hid (show rightM ⟨k, tc, ts, ic, is, p, [((⟨#[97]⟩, false, 0, ⟨#[]⟩) : A4)]⟩ = false from turn_l HK.out)
      have L3 := Lib.hid (show ([((⟨#[97]⟩, false, 0, ⟨#[]⟩) : A4)]).length ≤ 1000 from by first | (simp; done) | (have := L5.out; omega))
      go_upto_region 19 with fail
      clear x0 y0 x1 y1 x2 y2 x3 y3 x4 y4 x5 y5 x6 y6 z X2 B2 BW IN1
      generalize ((W2.setCell ⟨w1.heap.size, 6, none⟩ (.slice (some ⟨W2.heap.size, 0, none⟩) 1 1)).alloc (.cells #[.string ⟨#[97]⟩, .bool false, .int .i64 0, .string ⟨#[]⟩] 61)) = W9 at *
      have XX := X3.out
      have x0 := XX.cell 0
      have x1 := XX.cell 1
      have x2 := XX.cell 2
      have x3 := XX.cell 3
      have x4 := XX.cell 4
      have x5 := XX.cell 5
      have x6 := XX.cell 6
      have y0 := XX.fr 0
      have y1 := XX.fr 1
      have y2 := XX.fr 2
      have y3 := XX.fr 3
      have y4 := XX.fr 4
      have y5 := XX.fr 5
      have y6 := XX.fr 6
      have z := XX.lt
      simp only [List.getElem?_toArray, List.getElem?_cons_zero, List.getElem?_cons_succ] at x0 x1 x2 x3 x4 x5 x6
      clear XX
      have EC := Lib.hid (enc_no ⟨k, tc, ts, ic, is, p, [((⟨#[97]⟩, false, 0, ⟨#[]⟩) : A4)]⟩ _ _ W9 I3.out S3.out L3.out R3.out)
      go_wp2_with fail
      refine EC.out.mono ?_
      rintro e10 w10 ⟨⟨v10, rfl, hf⟩, hb⟩
      have X10 := Lib.hid (X3.out.on hb)
      have I10 := Lib.hid (I3.out.on hb)
      have B10 := Lib.hid (B3.out.trans (hb.mono B3.out.size))
      have F10 := Lib.hid hf
      obtain ⟨f10, rfl, _⟩ := hf.ch
      have RC := Lib.hid (wright_any ⟨k, tc, ts, ic, is, p, [((⟨#[97]⟩, false, 0, ⟨#[]⟩) : A4)]⟩ _ _ w10 I10.out S3.out L3.out)
      rw [R3.out] at RC
      clear hf hb EC X3 I3 B3 x0 y0 x1 y1 x2 y2 x3 y3 x4 y4 x5 y5 x6 y6 z
      have XX := X10.out
      have x0 := XX.cell 0
      have x1 := XX.cell 1
      have x2 := XX.cell 2
      have x3 := XX.cell 3
      have x4 := XX.cell 4
      have x5 := XX.cell 5
      have x6 := XX.cell 6
      have y0 := XX.fr 0
      have y1 := XX.fr 1
      have y2 := XX.fr 2
      have y3 := XX.fr 3
      have y4 := XX.fr 4
      have y5 := XX.fr 5
      have y6 := XX.fr 6
      have z := XX.lt
      simp only [List.getElem?_toArray, List.getElem?_cons_zero, List.getElem?_cons_succ] at x0 x1 x2 x3 x4 x5 x6
      clear XX
      go_wp2_with fail
      refine RC.out.mono ?_
      rintro e11 w11 ⟨rfl, hb⟩
      have B11 := Lib.hid (B10.out.trans (hb.mono B10.out.size))
      have F11 := Lib.hid (F10.out.on hb)
      have KD := Lib.hid (wkind_ok F11.out (G0.out.on B11.out))
      clear hb RC X10 I10 B10 F10 x0 y0 x1 y1 x2 y2 x3 y3 x4 y4 x5 y5 x6 y6 z
      go_wp2_with fail
      refine KD.out.mono ?_
      rintro e12 w12 ⟨rfl, hb⟩
      have B12 := Lib.hid (B11.out.trans (hb.mono B11.out.size))
      have F12 := Lib.hid (F11.out.on hb)
      have EQ := eqE 1 1 w12 true rfl
      have TR := Lib.hid (wtrace_ok F12.out (G0.out.on B12.out))
      clear hb KD B11 F11
      go_wp2_with fail
      refine TR.out.mono ?_
      rintro e13 w13 ⟨⟨fg, fc, rfl, hc⟩, hb⟩
      have B13 := Lib.hid (B12.out.trans (hb.mono B12.out.size))
      have SO := Lib.hid (same_one (c := fc) hc)
      have B14 := Lib.hid (B13.out.trans ((new_below w13 (.cells #[.string wireTxt] 9)).mono B13.out.size))
      clear hb hc TR B12 F12 EQ
      go_wp2_with fail
      refine SO.out.mono ?_
      rintro e15 w15 ⟨rfl, hb⟩
      have B15 := Lib.hid (B14.out.trans (hb.mono B14.out.size))
      have RU := Lib.hid (runs_any w15 (G0.out.on B15.out).eg)
      clear hb SO B14 B13
      go_wp2_with fail
      refine RU.out.mono ?_
      rintro e16 w16 ⟨rfl, hb⟩
      have B16 := Lib.hid (B15.out.trans (hb.mono B15.out.size))
      clear hb RU B15
      go_wp2_with fail
      go_ret
      exact ⟨rfl, B16.out⟩
  · by_cases hk : 3 ≤ k
    · have HK := Lib.hid hk
      have X3 := Lib.hid (show Box (W2.setCell ⟨w1.heap.size, 4, none⟩ (.int .i64 (-by_))) w1.heap.size (mcells ⟨k, tc, ts, ic, -by_, p, l⟩ (.slice po p.length pc) (.slice lo l.length lc)) 32 from box_set (k := 4) X2.out _)
      have I3 := Lib.hid (show MgIn (W2.setCell ⟨w1.heap.size, 4, none⟩ (.int .i64 (-by_))) ⟨k, tc, ts, ic, -by_, p, l⟩ (.slice po p.length pc) (.slice lo l.length lc) from ⟨IN1.out.p.on (BW.out.setCell (Nat.le_refl _) _), IN1.out.l.on (BW.out.setCell (Nat.le_refl _) _)⟩)
      have B3 := Lib.hid (show Below w.heap.size w (W2.setCell ⟨w1.heap.size, 4, none⟩ (.int .i64 (-by_))) from B2.out.setCell M1.out _)
      have S3 := Lib.hid (show Small ⟨k, tc, ts, ic, -by_, p, l⟩ from ⟨SM.out.p, SM.out.l, SM.out.ps, SM.out.ls⟩)
      have R3 := Lib.hid (show rightM ⟨k, tc, ts, ic, -by_, p, l⟩ = false from turn_i3 HK.out (by omega))
      have L3 := Lib.hid (show (l).length ≤ 1000 from by first | (simp; done) | (have := L5.out; omega))
      go_upto_region 19 with fail
      clear x0 y0 x1 y1 x2 y2 x3 y3 x4 y4 x5 y5 x6 y6 z X2 B2 BW IN1
      generalize (W2.setCell ⟨w1.heap.size, 4, none⟩ (.int .i64 (-by_))) = W9 at *
      have XX := X3.out
      have x0 := XX.cell 0
      have x1 := XX.cell 1
      have x2 := XX.cell 2
      have x3 := XX.cell 3
      have x4 := XX.cell 4
      have x5 := XX.cell 5
      have x6 := XX.cell 6
      have y0 := XX.fr 0
      have y1 := XX.fr 1
      have y2 := XX.fr 2
      have y3 := XX.fr 3
      have y4 := XX.fr 4
      have y5 := XX.fr 5
      have y6 := XX.fr 6
      have z := XX.lt
      simp only [List.getElem?_toArray, List.getElem?_cons_zero, List.getElem?_cons_succ] at x0 x1 x2 x3 x4 x5 x6
      clear XX
      have EC := Lib.hid (enc_no ⟨k, tc, ts, ic, -by_, p, l⟩ _ _ W9 I3.out S3.out L3.out R3.out)
      go_wp2_with fail
      refine EC.out.mono ?_
      rintro e10 w10 ⟨⟨v10, rfl, hf⟩, hb⟩
      have X10 := Lib.hid (X3.out.on hb)
      have I10 := Lib.hid (I3.out.on hb)
      have B10 := Lib.hid (B3.out.trans (hb.mono B3.out.size))
      have F10 := Lib.hid hf
      obtain ⟨f10, rfl, _⟩ := hf.ch
      have RC := Lib.hid (wright_any ⟨k, tc, ts, ic, -by_, p, l⟩ _ _ w10 I10.out S3.out L3.out)
      rw [R3.out] at RC
      clear hf hb EC X3 I3 B3 x0 y0 x1 y1 x2 y2 x3 y3 x4 y4 x5 y5 x6 y6 z
      have XX := X10.out
      have x0 := XX.cell 0
      have x1 := XX.cell 1
      have x2 := XX.cell 2
      have x3 := XX.cell 3
      have x4 := XX.cell 4
      have x5 := XX.cell 5
      have x6 := XX.cell 6
      have y0 := XX.fr 0
      have y1 := XX.fr 1
      have y2 := XX.fr 2
      have y3 := XX.fr 3
      have y4 := XX.fr 4
      have y5 := XX.fr 5
      have y6 := XX.fr 6
      have z := XX.lt
      simp only [List.getElem?_toArray, List.getElem?_cons_zero, List.getElem?_cons_succ] at x0 x1 x2 x3 x4 x5 x6
      clear XX
      go_wp2_with fail
      refine RC.out.mono ?_
      rintro e11 w11 ⟨rfl, hb⟩
      have B11 := Lib.hid (B10.out.trans (hb.mono B10.out.size))
      have F11 := Lib.hid (F10.out.on hb)
      have KD := Lib.hid (wkind_ok F11.out (G0.out.on B11.out))
      clear hb RC X10 I10 B10 F10 x0 y0 x1 y1 x2 y2 x3 y3 x4 y4 x5 y5 x6 y6 z
      go_wp2_with fail
      refine KD.out.mono ?_
      rintro e12 w12 ⟨rfl, hb⟩
      have B12 := Lib.hid (B11.out.trans (hb.mono B11.out.size))
      have F12 := Lib.hid (F11.out.on hb)
      have EQ := eqE 1 1 w12 true rfl
      have TR := Lib.hid (wtrace_ok F12.out (G0.out.on B12.out))
      clear hb KD B11 F11
      go_wp2_with fail
      refine TR.out.mono ?_
      rintro e13 w13 ⟨⟨fg, fc, rfl, hc⟩, hb⟩
      have B13 := Lib.hid (B12.out.trans (hb.mono B12.out.size))
      have SO := Lib.hid (same_one (c := fc) hc)
      have B14 := Lib.hid (B13.out.trans ((new_below w13 (.cells #[.string wireTxt] 9)).mono B13.out.size))
      clear hb hc TR B12 F12 EQ
      go_wp2_with fail
      refine SO.out.mono ?_
      rintro e15 w15 ⟨rfl, hb⟩
      have B15 := Lib.hid (B14.out.trans (hb.mono B14.out.size))
      have RU := Lib.hid (runs_any w15 (G0.out.on B15.out).eg)
      clear hb SO B14 B13
      go_wp2_with fail
      refine RU.out.mono ?_
      rintro e16 w16 ⟨rfl, hb⟩
      have B16 := Lib.hid (B15.out.trans (hb.mono B15.out.size))
      clear hb RU B15
      go_wp2_with fail
      go_ret
      exact ⟨rfl, B16.out⟩
    · have hk2 : decide (3 ≤ k) = false := by simp; omega
      have HK := Lib.hid hk
      clear hk
      have X3 := Lib.hid (show Box (W2.setCell ⟨w1.heap.size, 4, none⟩ (.int .i64 (by_))) w1.heap.size (mcells ⟨k, tc, ts, ic, by_, p, l⟩ (.slice po p.length pc) (.slice lo l.length lc)) 32 from box_set (k := 4) X2.out _)
      have I3 := Lib.hid (show MgIn (W2.setCell ⟨w1.heap.size, 4, none⟩ (.int .i64 (by_))) ⟨k, tc, ts, ic, by_, p, l⟩ (.slice po p.length pc) (.slice lo l.length lc) from ⟨IN1.out.p.on (BW.out.setCell (Nat.le_refl _) _), IN1.out.l.on (BW.out.setCell (Nat.le_refl _) _)⟩)
      have B3 := Lib.hid (show Below w.heap.size w (W2.setCell ⟨w1.heap.size, 4, none⟩ (.int .i64 (by_))) from B2.out.setCell M1.out _)
      have S3 := Lib.hid (show Small ⟨k, tc, ts, ic, by_, p, l⟩ from ⟨SM.out.p, SM.out.l, SM.out.ps, SM.out.ls⟩)
      have R3 := Lib.hid (show rightM ⟨k, tc, ts, ic, by_, p, l⟩ = false from turn_i1 (by have := HK.out; omega) (by omega))
      have L3 := Lib.hid (show (l).length ≤ 1000 from by first | (simp; done) | (have := L5.out; omega))
      go_upto_region 19 with fail
      clear x0 y0 x1 y1 x2 y2 x3 y3 x4 y4 x5 y5 x6 y6 z X2 B2 BW IN1
      generalize (W2.setCell ⟨w1.heap.size, 4, none⟩ (.int .i64 (by_))) = W9 at *
      have XX := X3.out
      have x0 := XX.cell 0
      have x1 := XX.cell 1
      have x2 := XX.cell 2
      have x3 := XX.cell 3
      have x4 := XX.cell 4
      have x5 := XX.cell 5
      have x6 := XX.cell 6
      have y0 := XX.fr 0
      have y1 := XX.fr 1
      have y2 := XX.fr 2
      have y3 := XX.fr 3
      have y4 := XX.fr 4
      have y5 := XX.fr 5
      have y6 := XX.fr 6
      have z := XX.lt
      simp only [List.getElem?_toArray, List.getElem?_cons_zero, List.getElem?_cons_succ] at x0 x1 x2 x3 x4 x5 x6
      clear XX
      have EC := Lib.hid (enc_no ⟨k, tc, ts, ic, by_, p, l⟩ _ _ W9 I3.out S3.out L3.out R3.out)
      go_wp2_with fail
      refine EC.out.mono ?_
      rintro e10 w10 ⟨⟨v10, rfl, hf⟩, hb⟩
      have X10 := Lib.hid (X3.out.on hb)
      have I10 := Lib.hid (I3.out.on hb)
      have B10 := Lib.hid (B3.out.trans (hb.mono B3.out.size))
      have F10 := Lib.hid hf
      obtain ⟨f10, rfl, _⟩ := hf.ch
      have RC := Lib.hid (wright_any ⟨k, tc, ts, ic, by_, p, l⟩ _ _ w10 I10.out S3.out L3.out)
      rw [R3.out] at RC
      clear hf hb EC X3 I3 B3 x0 y0 x1 y1 x2 y2 x3 y3 x4 y4 x5 y5 x6 y6 z
      have XX := X10.out
      have x0 := XX.cell 0
      have x1 := XX.cell 1
      have x2 := XX.cell 2
      have x3 := XX.cell 3
      have x4 := XX.cell 4
      have x5 := XX.cell 5
      have x6 := XX.cell 6
      have y0 := XX.fr 0
      have y1 := XX.fr 1
      have y2 := XX.fr 2
      have y3 := XX.fr 3
      have y4 := XX.fr 4
      have y5 := XX.fr 5
      have y6 := XX.fr 6
      have z := XX.lt
      simp only [List.getElem?_toArray, List.getElem?_cons_zero, List.getElem?_cons_succ] at x0 x1 x2 x3 x4 x5 x6
      clear XX
      go_wp2_with fail
      refine RC.out.mono ?_
      rintro e11 w11 ⟨rfl, hb⟩
      have B11 := Lib.hid (B10.out.trans (hb.mono B10.out.size))
      have F11 := Lib.hid (F10.out.on hb)
      have KD := Lib.hid (wkind_ok F11.out (G0.out.on B11.out))
      clear hb RC X10 I10 B10 F10 x0 y0 x1 y1 x2 y2 x3 y3 x4 y4 x5 y5 x6 y6 z
      go_wp2_with fail
      refine KD.out.mono ?_
      rintro e12 w12 ⟨rfl, hb⟩
      have B12 := Lib.hid (B11.out.trans (hb.mono B11.out.size))
      have F12 := Lib.hid (F11.out.on hb)
      have EQ := eqE 1 1 w12 true rfl
      have TR := Lib.hid (wtrace_ok F12.out (G0.out.on B12.out))
      clear hb KD B11 F11
      go_wp2_with fail
      refine TR.out.mono ?_
      rintro e13 w13 ⟨⟨fg, fc, rfl, hc⟩, hb⟩
      have B13 := Lib.hid (B12.out.trans (hb.mono B12.out.size))
      have SO := Lib.hid (same_one (c := fc) hc)
      have B14 := Lib.hid (B13.out.trans ((new_below w13 (.cells #[.string wireTxt] 9)).mono B13.out.size))
      clear hb hc TR B12 F12 EQ
      go_wp2_with fail
      refine SO.out.mono ?_
      rintro e15 w15 ⟨rfl, hb⟩
      have B15 := Lib.hid (B14.out.trans (hb.mono B14.out.size))
      have RU := Lib.hid (runs_any w15 (G0.out.on B15.out).eg)
      clear hb SO B14 B13
      go_wp2_with fail
      refine RU.out.mono ?_
      rintro e16 w16 ⟨rfl, hb⟩
      have B16 := Lib.hid (B15.out.trans (hb.mono B15.out.size))
      clear hb RU B15
      go_wp2_with fail
      go_ret
      exact ⟨rfl, B16.out⟩
end Go.Proofs.YtfcgfnmokbbcaaaDoor.Ws
