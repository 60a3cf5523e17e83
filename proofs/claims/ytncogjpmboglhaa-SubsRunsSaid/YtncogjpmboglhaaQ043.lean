/-
  raise of package subs: entries of one tree put up, one by one, within a row of one's own. Conditions: at most 900 entries; predicates in normal form.
-/
import Derived.Test.YtncogjpmboglhaaQ042
import Derived.Test.YtncogjpmboglhaaQ017
namespace Go.Proofs.Ytncogjpmboglhaa.Sb
open Go.RowKit Go.Sort Go.Proofs.Ytncogjpmboglhaa Go.Proofs.Ytncogjpmboglhaa.Rw Go.Proofs.Ytncogjpmboglhaa.Nm Go.Proofs.Ytncogjpmboglhaa.Pr Go.Proofs.Ytncogjpmboglhaa.Bk Go.Proofs.Ytncogjpmboglhaa.Av Go.Proofs.Ytncogjpmboglhaa.Rl

theorem predOk_len {p : List C5} (h : PredOk p) : p.length ≤ 900 := by
  obtain ⟨a, na, rfl⟩ := h
  rw [List.length_map]
  have := na.five
  omega
/-- A row in another block than the one that is turned. -/
theorem off_far {α : Type} {E : Ek α} {ob : Option Nat} {W x : World} {B g n cap : Nat} {l : List α} (h : Off ob W x) (ho : Own E W B (.slice (some ⟨g, 0, none⟩) n cap) l) (hne : some g ≠ ob) : Own E x B (.slice (some ⟨g, 0, none⟩) n cap) l := by
  refine ⟨ho.1, ?_⟩
  rcases ho.2 with h2 | ⟨g', cap', cur, h1, h2, h3, h4⟩
  · exact Or.inl h2
  · obtain ⟨rfl, _⟩ : g = g' ∧ True := by simp at h1; exact ⟨h1.1, trivial⟩
    exact Or.inr ⟨g, cap', cur, h1, h2, by rw [h.1 g (lt_of_heap h3) hne]; exact h3, h4⟩
theorem index_cut (g f k K C : Nat) (h : k < K) (w : World) : (Instr.indexAt 31 (.slice (some ⟨g, f * 7, none⟩) K C) (.int .i64 k)).run Try.prog w = .ok (.pointer (some ⟨g, (f + k) * 7, none⟩)) w := by
  have h1 : (Instr.indexAt 31 (.slice (some ⟨g, f * 7, none⟩) K C) (.int .i64 k)).run Try.prog w = .ok (.pointer (some ((⟨g, f * 7, none⟩ : Addr).add (k * 7)))) w := index_run okN ⟨g, f * 7, none⟩ k K C h w
  rw [h1]
  have e : (⟨g, f * 7, none⟩ : Addr).add (k * 7) = ⟨g, (f + k) * 7, none⟩ := by
    rw [Nat.add_mul]
    by_cases hk : k * 7 = 0
    · rw [hk, add_zero, Nat.add_zero]
    · rw [add_pos _ _ hk]
  rw [e]
theorem own_low {α : Type} {E : Ek α} {W : World} {B g n cap : Nat} {l : List α} (h : Own E W B (.slice (some ⟨g, 0, none⟩) n cap) l) : B ≤ g := by
  rcases own_open h with ⟨h1, _⟩ | ⟨g', cap', cur, h1, h2, _⟩
  · cases h1
  · obtain ⟨rfl, _⟩ : g = g' ∧ True := by simp at h1; exact ⟨h1.1, trivial⟩
    exact h2
theorem But.off {g : Nat} {ob : Option Nat} {w W x : World} (h : But g w W) (ho : Off ob W x) (hb : ∀ b, ob = some b → w.heap.size ≤ b) : But g w x :=
  ⟨fun j hj hne => (ho.1 j (Nat.lt_of_lt_of_le hj h.2) fun e => by have := hb j e.symm; omega).trans (h.1 j hj hne), Nat.le_trans h.2 ho.2⟩
theorem own_blk {α : Type} {E : Ek α} {W : World} {B : Nat} {v : Value} {l : List α} (h : Own E W B v l) : ∀ b, v.ownBlock = some b → B ≤ b := by
  intro b hb
  rcases own_open h with ⟨rfl, _⟩ | ⟨g', cap', cur, rfl, h2, _⟩
  · cases hb
  · obtain rfl : g' = b := by simpa [Value.ownBlock] using hb
    exact h2
/-- A part of a row of one's own, as a row. -/
theorem own_cut {W : World} {B g n cap f K : Nat} {l : List XEn} (ho : OwnN W B (.slice (some ⟨g, 0, none⟩) n cap) l) (hK : f + K ≤ n) (h0 : 0 < K) : RowN W (.slice (some ⟨g, f * 7, none⟩) K (cap - f)) ((l.drop f).take K) := by
  have hl : l.length = n := own_row_len ho
  have hnc : n ≤ cap := by
    rcases own_open ho with ⟨h1, _⟩ | ⟨g', cap', cur, h1, _, _, h4, _⟩
    · cases h1
    · obtain ⟨_, _, rfl⟩ : g = g' ∧ n = l.length ∧ cap = cap' := by simpa using h1
      rw [hl] at h4
      exact h4
  have h := (row_cut (v := (some ⟨g, 0, none⟩, n, cap)) (Row.of_own ho) f K (by omega)).2
  unfold cutV at h
  simp only at h
  rw [if_neg (by omega), add_own] at h
  exact h
/-- What raise has come to, behind so many. -/
structure Ra (w0 w wr : World) (B g n cap : Nat) (a c : List En) (s : List En × List En) (v : Value) : Prop where
  row : ∃ l, OwnN wr B (.slice (some ⟨g, 0, none⟩) n cap) l ∧ All2 (EnM w0 B wr) l (a ++ s.1 ++ c)
  up : ∃ lu, OwnN wr w.heap.size v lu ∧ All2 (EnM w0 w.heap.size wr) lu s.2
  but : But g w wr
  low : ∀ B' W, B' ≤ g → Below B' W w → Below B' W wr
set_option maxRecDepth 100000 in
set_option maxHeartbeats 16000000 in
theorem raise_any (w0 : World) (B g n cap f K : Nat) (ra : Option Addr) (rc : Nat) (l : List XEn) (m : List En) (w : World) (hw0 : Below w0.heap.size w0 w) (hB0 : w0.heap.size ≤ B) (ho : OwnN w B (.slice (some ⟨g, 0, none⟩) n cap) l) (hA : All2 (EnM w0 B w) l m) (hfK : f + K ≤ n) (hn : n ≤ 900)
    (hra : 0 < K → ra = some ⟨g, f * 7, none⟩ ∧ rc = cap - f) (hok : ∀ e ∈ m, PredOk e.p) :
    Calls Try.prog 34 #[.slice ra K rc] w fun e w' => ∃ v' : Sl, e = .returned (slv v') ∧ Ra w0 w w' B g n cap (m.take f) (m.drop (f + K)) (raiseK ((m.drop f).take K) K) (slv v') := by
  obtain ⟨a, ha⟩ : ∃ a, m.take f = a := ⟨_, rfl⟩
  obtain ⟨r, hr⟩ : ∃ r, (m.drop f).take K = r := ⟨_, rfl⟩
  obtain ⟨c, hc⟩ : ∃ c, m.drop (f + K) = c := ⟨_, rfl⟩
  have hmn : m.length = n := by rw [← hA.len]; exact own_row_len ho
  have hm : m = a ++ r ++ c := by
    rw [← ha, ← hr, ← hc, List.append_assoc, show m.drop (f + K) = (m.drop f).drop K by rw [List.drop_drop], List.take_append_drop, List.take_append_drop]
  have hal : a.length = f := by rw [← ha, List.length_take]; omega
  have hrl : r.length = K := by rw [← hr, List.length_take, List.length_drop]; omega
  have hrr : ∀ k, (raiseK r k).1.length = K := fun k => by rw [raiseK_len, hrl]
  have hokr : ∀ k, ∀ e ∈ (raiseK r k).1, PredOk e.p := fun k => by
    induction k with
    | zero => intro e he; exact hok e (by rw [hm]; exact List.mem_append_left _ (List.mem_append_right _ he))
    | succ k ih =>
      rw [raiseK_succ]
      unfold raiseStep
      split
      · exact ih
      · rename_i e0 he0
        split
        · exact ih
        · intro e he
          rcases List.mem_or_eq_of_mem_set he with h1 | h1
          · exact ih e h1
          · rw [h1]; exact ih e0 (List.mem_of_getElem? he0)
  rw [ha, hr, hc]
  have hgw : g < w.heap.size := by
    obtain ⟨cur, hg⟩ := own_tag ho
    exact hg.lt
  have hBg : B ≤ g := own_low ho
  have R0 : Ra w0 w w B g n cap a c (raiseK r 0) (.slice none 0 0) := ⟨⟨l, ho, by rw [show a ++ (raiseK r 0).1 ++ c = m from hm.symm]; exact hA⟩, ⟨[], own_nil _ _, .nil⟩, But.of_below (Below.refl _ _), fun _ _ _ h => h⟩
  have W0 := Lib.hid hw0
  have OKR := Lib.hid hokr
  have RR := Lib.hid hrr
  have RA := Lib.hid hra
  have RL := Lib.hid hrl
  have AL_ := Lib.hid hal
  have R0 := Lib.hid R0
  have HB := Lib.hid (show w0.heap.size ≤ g from by omega)
  clear hw0 ho hA hra hok hm ha hr hc hmn hokr hrr l m hrl hal
  go_enter Try.func34, Try.ntmps34
  go_wp2
  go_loopw [3, 7] (fun v i wr => ∃ k : Nat, k ≤ K ∧ i = .int .i64 k ∧ Ra w0 w wr B g n cap a c (raiseK r k) v) (fun _ i _ => K - (intOf i).toNat)
  case atStart => exact ⟨0, Nat.zero_le _, rfl, R0.out⟩
  case round =>
    obtain ⟨k, hk, rfl, hRa⟩ := hrel
    have RX := Lib.hid hRa
    have hwr : Below w0.heap.size w0 wr := hRa.low _ _ HB.out W0.out
    have WR := Lib.hid hwr
    clear hRa hwr R0
    by_cases hlt : k < K
    · obtain ⟨hra1, hra2⟩ := RA.out (by omega)
      subst hra1
      subst hra2
      obtain ⟨L, hL, hLA⟩ := RX.out.row
      have hRk := RR.out k
      obtain ⟨s, hs⟩ : ∃ s, raiseK r k = s := ⟨_, rfl⟩
      have RS := Lib.hid (raiseK_succ r k)
      have OKS := Lib.hid (OKR.out k)
      rw [hs] at hLA hRk RX RS OKS
      obtain ⟨r', us⟩ := s
      simp only at hLA hRk OKS
      obtain ⟨e, he⟩ : ∃ e, r'[k]? = some e := ⟨_, List.getElem?_eq_getElem (by omega)⟩
      have hM : (a ++ r' ++ c)[f + k]? = some e := by
        rw [List.append_assoc, List.getElem?_append_right (by rw [AL_.out]; omega), AL_.out, Nat.add_sub_cancel_left, List.getElem?_append_left (by omega)]
        exact he
      obtain ⟨y, hy, hx⟩ := hLA.at (f + k) e hM
      have ix := index_cut g f k K (cap - f) hlt
      have cc := own_row_at okN hL hy wr (Below.refl _ _)
      obtain ⟨cur, hbx⟩ := own_tag hL
      have fr := hbx.fr ((f + k) * 7 + 6)
      have zl := hbx.lt
      obtain ⟨y1, y2, y3, y4, ⟨yo, yn, yc⟩, y6, y7⟩ := y
      have c0 := cc 0 _ rfl
      have c1 := cc 1 _ rfl
      have c2 := cc 2 _ rfl
      have c3 := cc 3 _ rfl
      have c4 := cc 4 _ rfl
      have c5 := cc 5 _ rfl
      have c6 := cc 6 _ rfl
      simp [Addr.add, EN] at c0 c1 c2 c3 c4 c5 c6
      have CUT := own_cut (f := f) (K := K) hL hfK (by omega)
      have CUA : All2 (EnIn wr) ((L.drop f).take K) r' := by
        have h := ((hLA.drop f).take K).mono fun _ _ q => enm_in q WR.out
        rw [List.append_assoc, List.drop_left' AL_.out, List.take_left' hRk] at h
        exact h
      obtain ⟨t, ht⟩ : ∃ t, covB r' e.p = t := ⟨_, rfl⟩
      have CV := Lib.hid (covered_any (some ⟨g, f * 7, none⟩, K, cap - f) (.slice yo yn yc) _ r' e.p wr CUT CUA (enm_in hx WR.out).2.2.2.2 OKS.out (OKS.out e (List.mem_of_getElem? he)))
      rw [ht] at CV
      have HX := Lib.hid hx
      have HL := Lib.hid hL
      have HLA := Lib.hid hLA
      have HY := Lib.hid hy
      have HM := Lib.hid hM
      have RE := Lib.hid (show raiseK r (k + 1) = if y7 = true ∨ t = true then (r', us) else (r'.set k (upE e), us ++ [upE e]) by
        rw [RS.out]
        unfold raiseStep
        simp only [he]
        rw [ht, ← hx.2.2.2.1])
      have hw3 : IntKind.i64.wrap ((k : Int) + 1) = (k : Int) + 1 := IntWalk.i64_in _ (by omega)
      have SS := Lib.hid hs
      have RK := Lib.hid hRk
      clear cc hbx CUT CUA ht hx hL hLA hy hM he RS hs hRk
      cases y7
      · go_wp2_with fail
        refine CV.out.mono ?_
        rintro e3 w3 ⟨rfl, hb⟩
        clear CV
        cases t
        · have d6 := (hb.cell (p := ⟨g, (f + k) * 7 + 6, none⟩) zl).trans c6
          have f6 : w3.frozen? ⟨g, (f + k) * 7 + 6, none⟩ = false := (hb.frozen (p := ⟨g, (f + k) * 7 + 6, none⟩) zl).trans fr
          have z3 : g < w3.heap.size := Nat.lt_of_lt_of_le zl hb.size
          obtain ⟨lu, hu1, hu2⟩ := RX.out.up
          obtain ⟨o4, _, _⟩ := own_upN (Bk.own_on HL.out hb) HY.out
          have bt := but_cell w3 g ((f + k) * 7 + 6) (.bool true)
          obtain ⟨cur3, hg3⟩ := own_tag (Bk.own_on HL.out hb)
          have G1 : ∀ x z, EnM w0 B wr x z → EnM w0 B (w3.setCell ⟨g, (f + k) * 7 + 6, none⟩ (.bool true)) x z := fun x z q => (q.grow hb).but bt hg3 (by decide)
          have G2 : ∀ x z, EnM w0 w.heap.size wr x z → EnM w0 w.heap.size (w3.setCell ⟨g, (f + k) * 7 + 6, none⟩ (.bool true)) x z := fun x z q => (q.grow hb).but bt hg3 (by decide)
          have O4 := Lib.hid o4
          have A4 := Lib.hid (All2.set2 (f + k) (HLA.out.mono G1) (show EnM w0 B (w3.setCell ⟨g, (f + k) * 7 + 6, none⟩ (.bool true)) (y1, y2, y3, y4, (yo, yn, yc), y6, true) (upE e) from ⟨(G1 _ _ HX.out).1, (G1 _ _ HX.out).2.1, (G1 _ _ HX.out).2.2.1, rfl, (G1 _ _ HX.out).2.2.2.2⟩))
          have U4 := Lib.hid (own_cell (Bk.own_on hu1 hb) g ((f + k) * 7 + 6) (.bool true) hgw)
          have V4 := Lib.hid (hu2.mono G2)
          have B4 := Lib.hid ((RX.out.but.trans (But.of_below hb)).trans bt)
          have L4 := Lib.hid (show ∀ B' W, B' ≤ g → Below B' W w → Below B' W (w3.setCell ⟨g, (f + k) * 7 + 6, none⟩ (.bool true)) from fun B' W h1 h2 => ((RX.out.low B' W h1 h2).trans (hb.mono (by have := zl; omega))).setCell (p := ⟨g, (f + k) * 7 + 6, none⟩) h1 _)
          have HY4 := Lib.hid (show (L.set (f + k) (y1, y2, y3, y4, (yo, yn, yc), y6, true))[f + k]? = some (y1, y2, y3, y4, (yo, yn, yc), y6, true) from List.getElem?_set_self (List.getElem?_eq_some_iff.1 HY.out).1)
          have US := Lib.hid (show lu.length ≤ 1000 by
            have h1 : lu.length = us.length := hu2.len
            have h2 := raiseK_up r k
            rw [SS.out] at h2
            simp only at h2
            omega)
          have PO := Lib.hid (predOk_len (OKS.out e (by
            have h := HM.out
            rw [List.append_assoc, List.getElem?_append_right (by rw [AL_.out]; omega), AL_.out, Nat.add_sub_cancel_left, List.getElem?_append_left (by rw [RK.out]; exact hlt)] at h
            exact List.mem_of_getElem? h)))
          have AS := Lib.hid (show (a ++ r' ++ c).set (f + k) (upE e) = a ++ r'.set k (upE e) ++ c by
            rw [List.append_assoc, List.set_append_right _ _ (by rw [AL_.out]; omega), AL_.out, Nat.add_sub_cancel_left, List.set_append_left _ _ (by rw [RK.out]; exact hlt), List.append_assoc])
          clear hu1 hu2 o4 bt hg3 G1 G2 c0 c1 c2 c3 c4 c5 c6 fr
          go_upto_region 7 with fail
          clear d6 f6 z3 hb
          generalize w3.setCell ⟨g, (f + k) * 7 + 6, none⟩ (.bool true) = w4 at *
          have cc := own_row_at okN O4.out HY4.out w4 (Below.refl _ _)
          have c0 := cc 0 _ rfl
          have c1 := cc 1 _ rfl
          have c2 := cc 2 _ rfl
          have c3 := cc 3 _ rfl
          have c4 := cc 4 _ rfl
          have c5 := cc 5 _ rfl
          have c6 := cc 6 _ rfl
          simp [Addr.add, EN] at c0 c1 c2 c3 c4 c5 c6
          have X4 := Lib.hid (show EnM w0 B w4 (y1, y2, y3, y4, (yo, yn, yc), y6, true) (upE e) from by
            obtain ⟨y', h1, h2⟩ := A4.out.at (f + k) (upE e) (List.getElem?_set_self (List.getElem?_eq_some_iff.1 HM.out).1)
            rw [HY4.out] at h1
            rw [Option.some.inj h1]
            exact h2)
          have CP := Lib.hid (cpE_any (y1, y2, y3, y4, (yo, yn, yc), y6, true) e.p w4 (enm_in X4.out (L4.out _ _ HB.out W0.out)).2.2.2.2 PO.out)
          clear cc
          go_wp2_with fail
          refine CP.out.mono ?_
          rintro e5 w5 ⟨⟨⟨u1, u2, u3⟩, rfl, ho⟩, hb⟩
          have sz4 := B4.out.2
          obtain ⟨v', w', r7, o', a', bl, hof⟩ := app_en (w0 := w0) (B := w.heap.size) (y1, y2, y3, y4, (u1, u2, u3), y6, true) (upE e) (Bk.own_on U4.out hb) (V4.out.mono fun _ _ q => q.grow hb) ⟨X4.out.1, X4.out.2.1, X4.out.2.2.1, X4.out.2.2.2.1, Or.inr (own_fewer ho sz4)⟩ US.out (by have := hb.size; omega)
          have nb := newB w5 (.cells (cellsN (y1, y2, y3, y4, (u1, u2, u3), y6, true)).toArray 42)
          have hbk := own_blk U4.out
          have RX2 := Lib.hid (show Ra w0 w w' B g n cap a c (raiseK r (k + 1)) v' from by
            rw [RE.out, if_neg (by simp)]
            have hg5 := own_tag (Bk.own_on (Bk.own_on O4.out hb) nb)
            refine ⟨⟨_, off_far hof (Bk.own_on (Bk.own_on O4.out hb) nb) fun e => ?_, ?_⟩, ⟨_, o', a'⟩, But.off ((B4.out.trans (But.of_below hb)).trans (But.of_below nb)) hof hbk, fun B' W h1 h2 => bl B' W (by omega) ((L4.out B' W h1 h2).trans (hb.mono (by omega)))⟩
            · have := hbk g e.symm
              omega
            · rw [← AS.out]
              have tg := tag_own (Bk.own_on (Bk.own_on U4.out hb) nb)
              exact A4.out.mono fun _ _ q => (((q.grow hb).grow nb).off hof tg (by decide)))
          clear CP hb ho o' a' bl hof nb hbk c0 c1 c2 c3 c4 c5 c6 ix sz4
          go_wp2_with (first | (at_builtin; refine wpList_append_run rfl _ _ 31 rfl rfl rfl r7 ?_) | fail)
          go_roundw
          case rel => exact ⟨k + 1, by omega, by go_num, RX2.out⟩
          case measure => simp [intOf]; omega
        · have RX2 := Lib.hid (show Ra w0 w w3 B g n cap a c (raiseK r (k + 1)) _ from by
            rw [RE.out, if_pos (Or.inr rfl)]
            obtain ⟨q1, q2, q3, q4⟩ := RX.out
            exact ⟨by obtain ⟨l, h1, h2⟩ := q1; exact ⟨l, Bk.own_on h1 hb, h2.mono fun _ _ q => q.grow hb⟩, by obtain ⟨l, h1, h2⟩ := q2; exact ⟨l, Bk.own_on h1 hb, h2.mono fun _ _ q => q.grow hb⟩, q3.trans (But.of_below hb), fun B' W h1 h2 => (q4 B' W h1 h2).trans (hb.mono (by have := zl; omega))⟩)
          clear hb c0 c1 c2 c3 c4 c5 c6 fr ix
          go_wp2
          go_roundw
          case rel => exact ⟨k + 1, by omega, by go_num, RX2.out⟩
          case measure => simp [intOf]; omega
      · clear CV
        have RX2 := Lib.hid (show Ra w0 w wr B g n cap a c (raiseK r (k + 1)) _ from by
          rw [RE.out, if_pos (Or.inl rfl)]
          exact RX.out)
        go_wp2
        go_roundw
        case rel => exact ⟨k + 1, by omega, by go_num, RX2.out⟩
        case measure => simp [intOf]; omega
    · obtain rfl : K = k := by omega
      obtain ⟨lu, hu, _⟩ := RX.out.up
      obtain ⟨vo1, vo2, hv⟩ := (Row.of_own hu).len
      subst hv
      clear hu
      go_wp2
      go_ret
      exact ⟨(vo1, _, vo2), rfl, RX.out⟩
end Go.Proofs.Ytncogjpmboglhaa.Sb
