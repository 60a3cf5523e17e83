/-
  Forget's closure, slices.IndexFunc and slices.DeleteFunc of entries of one tree. Condition: the row is one's own.
  Find of package adverts. Condition: at most 900 advertisements, each of at most 900 constraints.
  The region of Learn that puts the advertisement in its place. Conditions: they rise; at most 900 of them.
-/
import Derived.Test.YtonoadjmglkhaaaGreatU025
import Derived.Test.YtonoadjmglkhaaaGreatU003
import Derived.Test.YtonoadjmglkhaaaGreatU019
import Derived.Test.YtonoadjmglkhaaaGreatU024
import Derived.Test.YtonoadjmglkhaaaGreatU020
namespace Go.Proofs.YtonoadjmglkhaaaGreat.Av
open Go.RowKit Go.Sort Go.Proofs.YtonoadjmglkhaaaGreat Go.Proofs.YtonoadjmglkhaaaGreat.Rw Go.Proofs.YtonoadjmglkhaaaGreat.Nm Go.Proofs.YtonoadjmglkhaaaGreat.Pr Go.Proofs.YtonoadjmglkhaaaGreat.Bk

abbrev keyT (x : XEn) : XID := (x.1, x.2.1)
theorem flatN_all : ∀ (l : List XEn) (k : Nat) (x : XEn), k < l.length → flat EN (l.set k x) = ((((((((flat EN l).set (k * 7) (.int .i64 x.1)).set (k * 7 + 1) (.int .i64 x.2.1)).set (k * 7 + 2) (.int .i64 x.2.2.1)).set (k * 7 + 3) (.int .i64 x.2.2.2.1)).set (k * 7 + 4) (slv x.2.2.2.2.1)).set (k * 7 + 5) (.int .i64 x.2.2.2.2.2.1)).set (k * 7 + 6) (.bool x.2.2.2.2.2.2))
  | [], k, x, h => by simp at h
  | y :: r, 0, x, _ => rfl
  | y :: r, k + 1, x, h => by
    have ih := flatN_all r k x (by simpa using h)
    rw [show (k + 1) * 7 + 6 = (k * 7 + 6) + 1 + 1 + 1 + 1 + 1 + 1 + 1 by omega, show (k + 1) * 7 + 5 = (k * 7 + 5) + 1 + 1 + 1 + 1 + 1 + 1 + 1 by omega, show (k + 1) * 7 + 4 = (k * 7 + 4) + 1 + 1 + 1 + 1 + 1 + 1 + 1 by omega, show (k + 1) * 7 + 3 = (k * 7 + 3) + 1 + 1 + 1 + 1 + 1 + 1 + 1 by omega, show (k + 1) * 7 + 2 = (k * 7 + 2) + 1 + 1 + 1 + 1 + 1 + 1 + 1 by omega, show (k + 1) * 7 + 1 = (k * 7 + 1) + 1 + 1 + 1 + 1 + 1 + 1 + 1 by omega, show (k + 1) * 7 = (k * 7) + 1 + 1 + 1 + 1 + 1 + 1 + 1 by omega]
    simp only [List.set_cons_succ, flat, EN, cellsN, List.cons_append, List.nil_append] at ih ⊢
    rw [ih]
theorem stoN {w : World} {B g n cap k : Nat} {l : List XEn} (x : XEn) (h : Own EN w B (.slice (some ⟨g, 0, none⟩) n cap) l) (hk : k < l.length) :
    StoQ EN B g (.slice (some ⟨g, 0, none⟩) n cap) (l.set k x) w (((((((w.setCell ⟨g, k * 7, none⟩ (.int .i64 x.1)).setCell ⟨g, k * 7 + 1, none⟩ (.int .i64 x.2.1)).setCell ⟨g, k * 7 + 2, none⟩ (.int .i64 x.2.2.1)).setCell ⟨g, k * 7 + 3, none⟩ (.int .i64 x.2.2.2.1)).setCell ⟨g, k * 7 + 4, none⟩ (slv x.2.2.2.2.1)).setCell ⟨g, k * 7 + 5, none⟩ (.int .i64 x.2.2.2.2.2.1)).setCell ⟨g, k * 7 + 6, none⟩ (.bool x.2.2.2.2.2.2)) := by
  have hln := own_row_len h
  subst hln
  have h : w.ownsRow B 58 7 (.slice (some ⟨g, 0, none⟩) l.length cap) l.length (flat EN l) := h
  have s1 := (h.stored (k * 7) (.int .i64 x.1)).1
  have s2 := (s1.stored (k * 7 + 1) (.int .i64 x.2.1)).1
  have s3 := (s2.stored (k * 7 + 2) (.int .i64 x.2.2.1)).1
  have s4 := (s3.stored (k * 7 + 3) (.int .i64 x.2.2.2.1)).1
  have s5 := (s4.stored (k * 7 + 4) (slv x.2.2.2.2.1)).1
  have s6 := (s5.stored (k * 7 + 5) (.int .i64 x.2.2.2.2.2.1)).1
  have s7 := (s6.stored (k * 7 + 6) (.bool x.2.2.2.2.2.2)).1
  refine ⟨?_, (((((((but_cell _ g _ _).trans (but_cell _ g _ _)).trans (but_cell _ g _ _)).trans (but_cell _ g _ _)).trans (but_cell _ g _ _)).trans (but_cell _ g _ _)).trans (but_cell _ g _ _)), fun B' W hB hb => (((((((hb.setCell (p := ⟨g, _, none⟩) hB _).setCell (p := ⟨g, _, none⟩) hB _).setCell (p := ⟨g, _, none⟩) hB _).setCell (p := ⟨g, _, none⟩) hB _).setCell (p := ⟨g, _, none⟩) hB _).setCell (p := ⟨g, _, none⟩) hB _).setCell (p := ⟨g, _, none⟩) hB _)⟩
  have e := flatN_all l k x hk
  show World.ownsRow _ B 58 7 _ (l.set k x).length (flat EN (l.set k x))
  rw [e, List.length_set]
  exact s7
set_option maxRecDepth 100000 in
theorem cloN_any (x : XEn) (b2 : Nat) (c d : Int) (r : Bool) (hr : decide (keyT x = (c, d)) = r) (w : World) (h : Box w b2 #[.int .i64 c, .int .i64 d] 37) : Calls Tryz.prog 40 #[valN x, .pointer (some ⟨b2, 0, none⟩)] w fun e w' => e = .returned (.bool r) ∧ Below w.heap.size w w' := by
  obtain ⟨y1, y2, y3, y4, ⟨yo, yn, yc⟩, y6, y7⟩ := x
  have n0 := newB w (.cells #[.int .i64 y1, .int .i64 y2, .int .i64 y3, .int .i64 y4, .slice yo yn yc, .int .i64 y6, .bool y7] 58)
  have hx := box_new w #[.int .i64 y1, .int .i64 y2, .int .i64 y3, .int .i64 y4, .slice yo yn yc, .int .i64 y6, .bool y7] 58
  have x0 := hx.cell 0
  have x1 := hx.cell 1
  have z0 := (h.on n0).cell 0
  have z1 := (h.on n0).cell 1
  simp only [List.getElem?_toArray, List.getElem?_cons_zero, List.getElem?_cons_succ] at x0 x1 z0 z1
  have he := eqId y1 y2 c d r (by
    rw [← hr]
    by_cases h1 : y1 = c <;> by_cases h2 : y2 = d <;> simp [h1, h2])
  have N0 := Lib.hid n0
  clear n0 hx h hr
  go_enter Tryz.func40, Tryz.ntmps40
  go_wp2
  go_ret
  exact ⟨rfl, N0.out⟩
set_option maxRecDepth 100000 in
set_option maxHeartbeats 8000000 in
theorem ixfN_any (v : Sl) (l : List XEn) (b2 : Nat) (c d : Int) (w : World) (hs : Row EN w (slv v) l) (hb2 : Box w b2 #[.int .i64 c, .int .i64 d] 37) :
    Calls Tryz.prog 90 #[slv v, .func (.func 40) #[] #[.pointer (some ⟨b2, 0, none⟩)]] w fun e w' => e = .returned (.int .i64 (findI (l.map keyT) (c, d))) ∧ Below w.heap.size w w' := by
  obtain ⟨so, sn, sc⟩ := v
  obtain ⟨ao, ac, hv⟩ := hs.len
  have hv : Value.slice so sn sc = .slice ao l.length ac := hv
  obtain ⟨rfl, rfl, rfl⟩ : so = ao ∧ sn = l.length ∧ sc = ac := by simpa using hv
  have HS := Lib.hid hs
  have X2 := Lib.hid hb2
  have lm := hs.most
  unfold maxLen at lm
  obtain ⟨n, hn⟩ : ∃ n, n = l.length := ⟨_, rfl⟩
  rw [← hn] at HS lm ⊢
  have HN := Lib.hid hn.symm
  clear hb2 hs hv hn
  go_enter Tryz.func90, Tryz.ntmps90
  go_wp2
  go_loopw [8] (fun i wr => ∃ k : Nat, k ≤ n ∧ i = .int .i64 k ∧ Below w.heap.size w wr ∧ ∀ (j : Nat) (y : XEn), j < k → l[j]? = some y → keyT y ≠ (c, d)) (fun i _ => n - (intOf i).toNat)
  case atStart => exact ⟨0, Nat.zero_le _, rfl, Below.refl _ _, fun j y h => by omega⟩
  case round =>
    obtain ⟨k, hk, rfl, hbe, hall⟩ := hrel
    have BE := Lib.hid hbe
    have AL := Lib.hid hall
    clear hbe hall
    by_cases hlt : k < n
    · obtain ⟨y, hy⟩ : ∃ y, l[k]? = some y := ⟨_, List.getElem?_eq_getElem (by rw [HN.out]; exact hlt)⟩
      obtain ⟨p, ix, px⟩ := elN HS.out rfl HN.out hy
      obtain ⟨p0, p1, p2, p3, p4, p5, p6⟩ := px wr BE.out
      obtain ⟨r, hr⟩ : ∃ r, decide (keyT y = (c, d)) = r := ⟨_, rfl⟩
      have CL := Lib.hid (cloN_any y b2 c d r hr wr (X2.out.on BE.out))
      have HY := Lib.hid hy
      have HR := Lib.hid hr
      obtain ⟨y1, y2, y3, y4, ⟨yo, yn, yc⟩, y6, y7⟩ := y
      simp only at p0 p1 p2 p3 p4 p5 p6
      have hw3 : IntKind.i64.wrap ((k : Int) + 1) = (k : Int) + 1 := IntWalk.i64_in _ (by omega)
      clear px hy hr
      go_wp2_with fail
      refine CL.out.mono ?_
      rintro e w1 ⟨rfl, hb⟩
      have B1 := Lib.hid (BE.out.trans (hb.mono BE.out.size))
      clear hb CL ix p0 p1 p2 p3 p4 p5 p6
      cases r
      · go_wp2
        go_roundw
        case rel => exact ⟨k + 1, by omega, by go_num, B1.out, fun j y' hj h1 => by
          rcases Nat.lt_or_ge j k with h3 | h3
          · exact AL.out j y' h3 h1
          · obtain rfl : j = k := by omega
            have e1 := HY.out
            rw [h1] at e1
            rw [Option.some.inj e1]
            exact of_decide_eq_false HR.out⟩
        case measure => simp [intOf]; omega
      · go_wp2
        go_ret
        exact ⟨by rw [findI_at (l.map keyT) k (c, d) (by rw [List.getElem?_map, HY.out]; exact congrArg some (of_decide_eq_true HR.out)) (fun j z hj hz => by
          rw [List.getElem?_map] at hz
          cases hz2 : l[j]? with
          | none => rw [hz2] at hz; cases hz
          | some u => rw [hz2] at hz; rw [← Option.some.inj hz]; exact AL.out j u hj hz2)]; rfl, B1.out⟩
    · obtain rfl : k = n := by omega
      go_wp2
      go_ret
      exact ⟨by rw [findI_none (l.map keyT) (c, d) (fun j z hz => by
          rw [List.getElem?_map] at hz
          cases hz2 : l[j]? with
          | none => rw [hz2] at hz; cases hz
          | some u => rw [hz2] at hz; rw [← Option.some.inj hz]; exact AL.out j u (by rw [← HN.out]; exact (List.getElem?_eq_some_iff.1 hz2).1) hz2)]; rfl, BE.out⟩
abbrev keepN (c d : Int) (x : XEn) : Bool := decide (keyT x ≠ (c, d))
set_option maxRecDepth 100000 in
set_option maxHeartbeats 16000000 in
theorem delN_any (B : Nat) (v : Sl) (l : List XEn) (b2 : Nat) (c d : Int) (w : World) (ho : Own EN w B (slv v) l) (hb2 : Box w b2 #[.int .i64 c, .int .i64 d] 37) (hB : B ≤ w.heap.size) :
    Calls Tryz.prog 39 #[slv v, .func (.func 40) #[] #[.pointer (some ⟨b2, 0, none⟩)]] w fun e w' => (∃ v' : Sl, e = .returned (slv v') ∧ Own EN w' B (slv v') (l.filter (keepN c d))) ∧ Below B w w' ∧ Off (slv v).ownBlock w w' := by
  obtain ⟨so, sn, sc⟩ := v
  obtain ⟨ao, ac, hv⟩ := (Row.of_own ho).len
  have hv : Value.slice so sn sc = .slice ao l.length ac := hv
  obtain ⟨rfl, rfl, rfl⟩ : so = ao ∧ sn = l.length ∧ sc = ac := by simpa using hv
  have IX := Lib.hid (ixfN_any (so, l.length, sc) l b2 c d w (Row.of_own ho) hb2)
  have HO := Lib.hid ho
  have X2 := Lib.hid hb2
  have lm := (Row.of_own ho).most
  unfold maxLen at lm
  have BZ := Lib.hid (show w.heap.size ≤ w.heap.size from Nat.le_refl _)
  obtain ⟨n, hn⟩ : ∃ n, n = l.length := ⟨_, rfl⟩
  rw [← hn] at HO lm IX ⊢
  have HN := Lib.hid hn.symm
  obtain ⟨q, hq⟩ : ∃ q, findI (l.map keyT) (c, d) = q := ⟨_, rfl⟩
  rw [hq] at IX
  have HQ := Lib.hid hq
  have HB := Lib.hid hB
  have LB := Lib.hid (show ∀ g, (slv (so, n, sc)).ownBlock = some g → B ≤ g from fun g hg => (HO.out.lt g hg).1)
  clear hb2 ho hv hn hB
  by_cases hneg : q = -1
  · subst hneg
    go_enter Tryz.func39, Tryz.ntmps39
    go_wp2_with fail
    refine IX.out.mono ?_
    rintro e w1 ⟨rfl, hb⟩
    have FE := Lib.hid (show l.filter (keepN c d) = l from by
      rw [List.filter_eq_self]
      intro y hy
      obtain ⟨j, hj⟩ := List.mem_iff_getElem?.1 hy
      exact decide_eq_true (findI_neg hq j y hj))
    have BH := Lib.hid hb
    clear hb hq
    go_wp2
    go_ret
    exact ⟨⟨(so, n, sc), rfl, by rw [FE.out]; exact Bk.own_on HO.out BH.out⟩, BH.out.mono HB.out, fun j hj _ => BH.out.block j hj, BH.out.size⟩
  · obtain ⟨k, rfl⟩ : ∃ k : Nat, q = k := ⟨q.toNat, by have := findI_bd (l.map keyT) (c, d); omega⟩
    obtain ⟨g1, g2⟩ := findI_get hq
    obtain ⟨x, hx, hxk⟩ : ∃ x, l[k]? = some x ∧ keyT x = (c, d) := by
      rw [List.getElem?_map] at g1
      cases hz : l[k]? with
      | none => rw [hz] at g1; cases g1
      | some x => rw [hz] at g1; exact ⟨x, rfl, Option.some.inj g1⟩
    have ST0 := Lib.hid (filter_first (keep := keepN c d) hx (decide_eq_false (by simp [hxk])) (fun j y hj hy => decide_eq_true (g2 j (keyT y) hj (by rw [List.getElem?_map, hy]; rfl))))
    have hkl : k < n := by rw [← HN.out]; exact (List.getElem?_eq_some_iff.1 hx).1
    obtain ⟨g, rfl, hBg⟩ : ∃ g, so = some ⟨g, 0, none⟩ ∧ B ≤ g := own_some HO.out (show 0 < n by omega)
    have BG := Lib.hid hBg
    have TG := Lib.hid (tag_own HO.out)
    have hcap : n ≤ sc := by
      rcases own_open HO.out with ⟨h1, _⟩ | ⟨g', c', cur, h1, h2, h3, h4, h5, h6, h7⟩
      · cases h1
      · have e1 : sc = c' := by simpa using congrArg (fun v => match v with | Value.slice _ _ c => c | _ => 0) h1
        have := HN.out
        omega
    have hw0 : IntKind.i64.wrap ((k : Int) + 1) = (k : Int) + 1 := IntWalk.i64_in _ (by omega)
    have hk1 : ((k : Int) == -1) = false := by rw [beq_eq_false_iff_ne]; omega
    clear hq g1 g2 hx hxk x hneg hBg LB
    go_enter Tryz.func39, Tryz.ntmps39
    go_wp2_with fail
    refine IX.out.mono ?_
    rintro e w1 ⟨rfl, hb⟩
    have O1 := Lib.hid (Bk.own_on HO.out hb)
    have B1 := Lib.hid (hb.mono HB.out)
    have F1 := Lib.hid (show Off (some g) w w1 from ⟨fun j hj _ => hb.block j hj, hb.size⟩)
    clear hb IX
    go_wp2
    clear hw0 hk1
    go_loopw [5, 6] (fun s5 s6 wr => ∃ (i j : Nat) (L : List XEn), s5 = .int .i64 i ∧ s6 = .int .i64 j ∧ j ≤ n ∧ DelSt (keepN c d) l i j L ∧ Own EN wr B (.slice (some ⟨g, 0, none⟩) n sc) L ∧ Below B w wr ∧ Off (some g) w wr) (fun _ s6 _ => n - (intOf s6).toNat)
    case atStart => exact ⟨k, k + 1, l, rfl, by go_num, by omega, ST0.out, O1.out, B1.out, F1.out⟩
    case round =>
      obtain ⟨i, j, L, rfl, rfl, hj, hst, how, hbe, hof⟩ := hrel
      have ST := Lib.hid hst
      have OW := Lib.hid how
      have BE := Lib.hid hbe
      have OF := Lib.hid hof
      have hij := hst.lt
      have LN := Lib.hid (show L.length = n from hst.len.trans HN.out)
      clear hst how hbe hof O1 B1 F1 ST0
      by_cases hlt : j < n
      · obtain ⟨y, hy⟩ : ∃ y, l[j]? = some y := ⟨_, List.getElem?_eq_getElem (by rw [HN.out]; exact hlt)⟩
        have hyL : L[j]? = some y := by rw [ST.out.at, hy]
        obtain ⟨p, ix, px⟩ := elN (Row.of_own OW.out) rfl LN.out hyL
        obtain ⟨p0, p1, p2, p3, p4, p5, p6⟩ := px wr (Below.refl _ _)
        obtain ⟨r, hr⟩ : ∃ r, decide (keyT y = (c, d)) = r := ⟨_, rfl⟩
        have HY := Lib.hid hy
        have hw3 : IntKind.i64.wrap ((j : Int) + 1) = (j : Int) + 1 := IntWalk.i64_in _ (by omega)
        have hw5 : IntKind.i64.wrap ((i : Int) + 1) = (i : Int) + 1 := IntWalk.i64_in _ (by omega)
        obtain ⟨z, hz⟩ : ∃ z, L[i]? = some z := ⟨_, List.getElem?_eq_getElem (by rw [LN.out]; omega)⟩
        have HZ := Lib.hid hz
        have X2w := OF.out.box X2.out TG.out (by decide)
        have CLO := cloN_any y b2 c d r hr
        have KP := Lib.hid (show keepN c d y = !r from by rw [← hr]; simp [keepN])
        obtain ⟨y1, y2, y3, y4, ⟨yo, yn, yc⟩, y6, y7⟩ := y
        simp only at p0 p1 p2 p3 p4 p5 p6
        have NB := Lib.hid (newB wr (.cells #[.int .i64 y1, .int .i64 y2, .int .i64 y3, .int .i64 y4, .slice yo yn yc, .int .i64 y6, .bool y7] 58))
        have CL := Lib.hid (CLO _ (X2w.on NB.out))
        clear hy hyL px hr hz CLO X2w
        go_wp2_with fail
        refine CL.out.mono ?_
        rintro e w2 ⟨rfl, hb⟩
        have BB := Lib.hid (NB.out.trans (hb.mono NB.out.size))
        have Y7 := (box_new wr #[.int .i64 y1, .int .i64 y2, .int .i64 y3, .int .i64 y4, .slice yo yn yc, .int .i64 y6, .bool y7] 58).on hb
        have q0 := Y7.cell 0
        have q1 := Y7.cell 1
        have q2 := Y7.cell 2
        have q3 := Y7.cell 3
        have q4 := Y7.cell 4
        have q5 := Y7.cell 5
        have q6 := Y7.cell 6
        simp only [List.getElem?_toArray, List.getElem?_cons_zero, List.getElem?_cons_succ] at q0 q1 q2 q3 q4 q5 q6
        have O2 := Lib.hid (Bk.own_on OW.out BB.out)
        clear hb CL ix p0 p1 p2 p3 p4 p5 p6 Y7
        cases r
        · have ix := index_own okN g i n sc (by omega)
          have ix : ∀ w, (Instr.indexAt 26 (.slice (some ⟨g, 0, none⟩) n sc) (.int .i64 i)).run Tryz.prog w = .ok (.pointer (some ⟨g, i * 7, none⟩)) w := ix
          have ca := own_row_at okN O2.out HZ.out w2 (Below.refl _ _)
          have ce0 := ca 0 _ rfl
          have ce1 := ca 1 _ rfl
          have ce2 := ca 2 _ rfl
          have ce3 := ca 3 _ rfl
          have ce4 := ca 4 _ rfl
          have ce5 := ca 5 _ rfl
          have ce6 := ca 6 _ rfl
          simp [Addr.add, EN] at ce0 ce1 ce2 ce3 ce4 ce5 ce6
          obtain ⟨cur, hbx⟩ := own_tag O2.out
          have f := fun j => hbx.fr j
          have gl := hbx.lt
          have SQ : StoQ EN B g (.slice (some ⟨g, 0, none⟩) n sc) (L.set i (y1, y2, y3, y4, (yo, yn, yc), y6, y7)) w2 (((((((w2.setCell ⟨g, i * 7, none⟩ (.int .i64 y1)).setCell ⟨g, i * 7 + 1, none⟩ (.int .i64 y2)).setCell ⟨g, i * 7 + 2, none⟩ (.int .i64 y3)).setCell ⟨g, i * 7 + 3, none⟩ (.int .i64 y4)).setCell ⟨g, i * 7 + 4, none⟩ (.slice yo yn yc)).setCell ⟨g, i * 7 + 5, none⟩ (.int .i64 y6)).setCell ⟨g, i * 7 + 6, none⟩ (.bool y7)) := stoN (y1, y2, y3, y4, (yo, yn, yc), y6, y7) O2.out (by rw [LN.out]; omega)
          have SQ := Lib.hid SQ
          clear hbx ca
          go_upto_region 10 with fail
          generalize (((((((w2.setCell ⟨g, i * 7, none⟩ (.int .i64 y1)).setCell ⟨g, i * 7 + 1, none⟩ (.int .i64 y2)).setCell ⟨g, i * 7 + 2, none⟩ (.int .i64 y3)).setCell ⟨g, i * 7 + 3, none⟩ (.int .i64 y4)).setCell ⟨g, i * 7 + 4, none⟩ (.slice yo yn yc)).setCell ⟨g, i * 7 + 5, none⟩ (.int .i64 y6)).setCell ⟨g, i * 7 + 6, none⟩ (.bool y7)) = w3 at *
          clear f gl ce0 ce1 ce2 ce3 ce4 ce5 ce6 ix
          go_wp2
          go_roundw
          case rel => exact ⟨i + 1, j + 1, L.set i (y1, y2, y3, y4, (yo, yn, yc), y6, y7), by go_num, by go_num, by omega, ST.out.keep HY.out KP.out, SQ.out.1, SQ.out.2.2 B w BG.out (BE.out.trans (BB.out.mono (Nat.le_trans HB.out OF.out.2))), ⟨fun q hq hne => (SQ.out.2.1.1 q (Nat.lt_of_lt_of_le (Nat.lt_of_lt_of_le hq OF.out.2) BB.out.size) (fun e => hne (by rw [e]))).trans ((BB.out.block q (Nat.lt_of_lt_of_le hq OF.out.2)).trans (OF.out.1 q hq hne)), Nat.le_trans OF.out.2 (Nat.le_trans BB.out.size SQ.out.2.1.2)⟩⟩
          case measure => simp [intOf]; omega
        · go_wp2
          go_roundw
          case rel => exact ⟨i, j + 1, L, rfl, by go_num, by omega, ST.out.skip HY.out KP.out, O2.out, BE.out.trans (BB.out.mono (Nat.le_trans HB.out OF.out.2)), ⟨fun q hq hne => (BB.out.block q (Nat.lt_of_lt_of_le hq OF.out.2)).trans (OF.out.1 q hq hne), Nat.le_trans OF.out.2 BB.out.size⟩⟩
          case measure => simp [intOf]; omega
      · obtain rfl : n = j := by omega
        obtain ⟨W', hr, h1, h2, h3⟩ := clear_own okN (by decide) OW.out hij (ty := 0)
        have sh := cut_hi (E := EN) okN g i n sc (by omega) (by omega)
        have sl := slice_lo (E := EN) okN ⟨g, 0, none⟩ i n sc (by omega)
        have sh : ∀ w, (Instr.sliceAt 26 (.slice (some ⟨g, 0, none⟩) n sc) (some (.int .i64 i)) none none).run Tryz.prog w = .ok (.slice (some ⟨g, i * 7, none⟩) (n - i) (sc - i)) w := sh
        have sl : ∀ w, (Instr.sliceAt 26 (.slice (some ⟨g, 0, none⟩) n sc) none (some (.int .i64 i)) none).run Tryz.prog w = .ok (.slice (some ⟨g, 0, none⟩) i sc) w := sl
        have hr : (Builtin.clear_ #[26] 0 #[.slice (some ⟨g, i * 7, none⟩) (n - i) (sc - i)]).run Tryz.prog wr = .ok (.tuple #[]) W' := hr
        have Q := Lib.hid (show (∃ v' : Sl, Ending.returned (.slice (some ⟨g, 0, none⟩) i sc) = .returned (slv v') ∧ Own EN W' B (slv v') (l.filter (keepN c d))) ∧ Below B w W' ∧ Off (slv (some ⟨g, 0, none⟩, n, sc)).ownBlock w W' from ⟨⟨(some ⟨g, 0, none⟩, i, sc), rfl, by
          have e1 : l.take n = l := List.take_of_length_le (by rw [HN.out]; exact Nat.le_refl _)
          have e2 := ST.out.lo
          rw [e1] at e2
          rw [← e2]
          exact h1⟩, h3 B w BG.out BE.out, ⟨fun q hq hne => (h2.1 q (Nat.lt_of_lt_of_le hq OF.out.2) (fun e => hne (by rw [e]; rfl))).trans (OF.out.1 q hq hne), Nat.le_trans OF.out.2 h2.2⟩⟩)
        clear h1 h2 h3 hlt
        go_wp2_with (first | (at_builtin; refine wpList_clear_run rfl _ _ 26 rfl rfl rfl hr ?_) | fail)
        go_ret
        exact Q.out
end Go.Proofs.YtonoadjmglkhaaaGreat.Av

namespace Go.Proofs.YtonoadjmglkhaaaGreat.Av
open Go.RowKit Go.Sort Go.Proofs.YtonoadjmglkhaaaGreat Go.Proofs.YtonoadjmglkhaaaGreat.Rw Go.Proofs.YtonoadjmglkhaaaGreat.Nm Go.Proofs.YtonoadjmglkhaaaGreat.Pr Go.Proofs.YtonoadjmglkhaaaGreat.Bk

def findA (l : List Ad) (x : XID) : Option Ad := l.find? fun a => decide (a.id = x)
theorem findA_none {l : List Ad} {x : XID} (h : ∀ (j : Nat) (a : Ad), l[j]? = some a → a.id ≠ x) : findA l x = none := by
  unfold findA
  rw [List.find?_eq_none]
  intro a ha
  obtain ⟨j, hj⟩ := List.mem_iff_getElem?.1 ha
  simpa using h j a hj
theorem findA_at : ∀ {l : List Ad} {x : XID} {k : Nat} {a : Ad}, l[k]? = some a → a.id = x → (∀ (j : Nat) (z : Ad), j < k → l[j]? = some z → z.id ≠ x) → findA l x = some a
  | [], _, _, _, h, _, _ => by simp at h
  | b :: l, x, 0, a, h, hx, _ => by
    obtain rfl : b = a := by simpa using h
    simp [findA, hx]
  | b :: l, x, k + 1, a, h, hx, hall => by
    have hb := hall 0 b (by omega) rfl
    have ih := findA_at (l := l) (x := x) (k := k) (a := a) (by simpa using h) hx fun j z hj hz => hall (j + 1) z (by omega) (by simpa using hz)
    unfold findA at *
    rw [List.find?_cons_of_neg (by simpa using hb)]
    exact ih
/-- What Find answers. -/
def FindQ (W : World) (o : Option Ad) (w : World) (e : Ending) (w' : World) : Prop := (match o with
  | none => e = .returned (.tuple #[valD (0, 0, (none, 0, 0), 0), .bool false])
  | some a => ∃ r : XAd, e = .returned (.tuple #[valD r, .bool true]) ∧ AdIn w' r a) ∧ Below W.heap.size w w'
set_option maxRecDepth 100000 in
set_option maxHeartbeats 16000000 in
theorem find_any (me : Int) (nv sv ev ov : Value) (av : Sl) (l : List XAd) (al : List Ad) (x : XID) (w : World) (hs : RowD w (slv av) l) (hA : All2 (AdIn w) l al) (hf : ∀ a ∈ al, a.p.length ≤ 900) :
    Calls Tryz.prog 14 #[.agg #[.int .i64 me, nv, slv av, sv, ev, ov], idv x] w (FindQ w (findA al x) w) := by
  obtain ⟨c, d⟩ := x
  obtain ⟨so, sn, sc⟩ := av
  obtain ⟨ao, ac, hv⟩ := hs.len
  have hv : Value.slice so sn sc = .slice ao l.length ac := hv
  obtain ⟨rfl, rfl, rfl⟩ : so = ao ∧ sn = l.length ∧ sc = ac := by simpa using hv
  obtain ⟨h0, h1, h2⟩ := two_new w #[.int .i64 me, nv, .slice so l.length sc, sv, ev, ov] #[.int .i64 c, .int .i64 d] 29 37
  have h3 := newB ((w.alloc (.cells #[.int .i64 me, nv, .slice so l.length sc, sv, ev, ov] 29)).alloc (.cells #[.int .i64 c, .int .i64 d] 37)) (.cells #[.int .i64 0, .int .i64 0, .slice none 0 0, .int .i64 0] 42)
  have h4 := box_new ((w.alloc (.cells #[.int .i64 me, nv, .slice so l.length sc, sv, ev, ov] 29)).alloc (.cells #[.int .i64 c, .int .i64 d] 37)) #[.int .i64 0, .int .i64 0, .slice none 0 0, .int .i64 0] 42
  have hsz : ((w.alloc (.cells #[.int .i64 me, nv, .slice so l.length sc, sv, ev, ov] 29)).alloc (.cells #[.int .i64 c, .int .i64 d] 37)).heap.size = w.heap.size + 1 + 1 := by simp
  rw [hsz] at h4
  have B := Lib.hid (h0.trans (h3.mono h0.size))
  have HS := Lib.hid (hs.on B.out)
  have HA := Lib.hid (hA.mono fun _ _ h => h.on B.out)
  have X2 := Lib.hid (h1.on h3)
  have X3 := Lib.hid (h2.on h3)
  have X4 := Lib.hid h4
  have HF := Lib.hid hf
  have lm := hs.most
  unfold maxLen at lm
  obtain ⟨n, hn⟩ : ∃ n, n = l.length := ⟨_, rfl⟩
  have q3 := X2.out.cell 2
  simp only [List.getElem?_toArray, List.getElem?_cons_zero, List.getElem?_cons_succ] at q3
  rw [← hn] at HS X2 X3 X4 HA lm q3 B ⊢
  have HN := Lib.hid hn.symm
  obtain ⟨fo, hfo⟩ : ∃ o, o = findA al (c, d) := ⟨_, rfl⟩
  rw [← hfo]
  have FO := Lib.hid hfo
  clear h0 h1 h2 h3 h4 hs hv hn hA hf hsz hfo
  go_enter Tryz.func14, Tryz.ntmps14
  go_upto_region 1 with fail
  generalize ((w.alloc (.cells #[.int .i64 me, nv, .slice so n sc, sv, ev, ov] 29)).alloc (.cells #[.int .i64 c, .int .i64 d] 37)).alloc (.cells #[.int .i64 0, .int .i64 0, .slice none 0 0, .int .i64 0] 42) = W at *
  go_wp2
  go_loopw [11] (fun i wr => ∃ k : Nat, k ≤ n ∧ i = .int .i64 k ∧ Below W.heap.size W wr ∧ ∀ (j : Nat) (y : XAd), j < k → l[j]? = some y → (y.1, y.2.1) ≠ (c, d)) (fun i _ => n - (intOf i).toNat)
  case atStart => exact ⟨0, Nat.zero_le _, rfl, Below.refl _ _, fun j y h => by omega⟩
  case round =>
    obtain ⟨k, hk, rfl, hbe, hall⟩ := hrel
    have BE := Lib.hid hbe
    have AL := Lib.hid hall
    clear hbe hall
    by_cases hlt : k < n
    · obtain ⟨y, hy⟩ : ∃ y, l[k]? = some y := ⟨_, List.getElem?_eq_getElem (by rw [HN.out]; exact hlt)⟩
      obtain ⟨p, ix, px⟩ := elD HS.out rfl HN.out hy
      obtain ⟨p0, p1, p2, p3⟩ := px wr BE.out
      obtain ⟨y1, y2, ⟨yo, yn, yc⟩, y4⟩ := y
      simp only at p0 p1 p2 p3
      have NB := Lib.hid (newB wr (.cells #[.int .i64 y1, .int .i64 y2, .slice yo yn yc, .int .i64 y4] 42))
      have x0 := ((X3.out.on BE.out).on NB.out).cell 0
      have x1 := ((X3.out.on BE.out).on NB.out).cell 1
      simp only [List.getElem?_toArray, List.getElem?_cons_zero, List.getElem?_cons_succ] at x0 x1
      have hw3 : IntKind.i64.wrap ((k : Int) + 1) = (k : Int) + 1 := IntWalk.i64_in _ (by omega)
      obtain ⟨r, hr⟩ : ∃ r, (y1 == c && y2 == d) = r := ⟨_, rfl⟩
      have he := eqId y1 y2 c d r hr
      have HY := Lib.hid hy
      have HR := Lib.hid hr
      clear px hy hr
      cases r
      · go_wp2
        go_roundw
        case rel => exact ⟨k + 1, by omega, by go_num, BE.out.trans (NB.out.mono BE.out.size), fun j y' hj h1 => by
          rcases Nat.lt_or_ge j k with h3 | h3
          · exact AL.out j y' h3 h1
          · obtain rfl : j = k := by omega
            have e1 := HY.out
            rw [h1] at e1
            rw [Option.some.inj e1]
            intro e
            obtain ⟨rfl, rfl⟩ : y1 = c ∧ y2 = d := by simpa using e
            have := HR.out
            simp at this⟩
        case measure => simp [intOf]; omega
      · obtain ⟨a, ha⟩ : ∃ a, al[k]? = some a := ⟨_, List.getElem?_eq_getElem (by rw [← HA.out.len, HN.out]; exact hlt)⟩
        obtain ⟨z, hz1, hz2⟩ := HA.out.at k a ha
        rw [HY.out] at hz1
        obtain rfl := Option.some.inj hz1
        have BA := Lib.hid (BE.out.trans (NB.out.mono BE.out.size))
        have C := Lib.hid (cpAd_any (y1, y2, (yo, yn, yc), y4) a.p _ (hz2.2.2.on BA.out) (HF.out a (List.mem_of_getElem? ha)))
        have HZ := Lib.hid hz2
        have h8 := HR.out
        obtain ⟨rfl, rfl⟩ : y1 = c ∧ y2 = d := by simpa using h8
        have FA := Lib.hid (show fo = some a by
          rw [FO.out]
          refine findA_at ha hz2.1.symm fun j z hj hzz => ?_
          obtain ⟨u, hu1, hu2⟩ := HA.out.at j z hzz
          rw [← hu2.1]
          exact AL.out j u hj hu1)
        have X4a := (X4.out.on BE.out).on NB.out
        clear hz1 hz2 ha h8
        go_wp2_with fail
        refine C.out.mono ?_
        rintro e w1 ⟨⟨⟨u1, u2, u3⟩, rfl, ho⟩, hb⟩
        have Y1 := X4a.on hb
        have B1 := Lib.hid (BA.out.trans (hb.mono BA.out.size))
        have r0 := Y1.cell 0
        have r1 := Y1.cell 1
        have r2 := Y1.cell 2
        have r3 := Y1.cell 3
        have t0 := Y1.fr 0
        have t1 := Y1.fr 1
        have t2 := Y1.fr 2
        have t3 := Y1.fr 3
        simp only [List.getElem?_toArray, List.getElem?_cons_zero, List.getElem?_cons_succ] at r0 r1 r2 r3
        have zz := Y1.lt
        have hs2 : w.heap.size + 1 + 1 < (wr.alloc (.cells #[.int .i64 y1, .int .i64 y2, .slice yo yn yc, .int .i64 y4] 42)).heap.size := X4a.lt
        have FB := Lib.hid (setD_box Y1 (.int .i64 y1) (.int .i64 y2) (.slice u1 u2 u3) (.int .i64 y4))
        have BL := Lib.hid (setD_below (b := w.heap.size + 1 + 1) (B.out.trans (B1.out.mono B.out.size)) (by omega) (.int .i64 y1) (.int .i64 y2) (.slice u1 u2 u3) (.int .i64 y4))
        have FW := Lib.hid (setD_own ho (w.heap.size + 1 + 1) hs2 (.int .i64 y1) (.int .i64 y2) (.slice u1 u2 u3) (.int .i64 y4))
        clear Y1 ho hb hs2 X4a
        go_wp2_with fail
        have v0 := FB.out.cell 0
        have v1 := FB.out.cell 1
        have v2 := FB.out.cell 2
        have v3 := FB.out.cell 3
        simp at v0 v1 v2 v3
        refine bodyPost_ret (v := .tuple #[.agg #[.int .i64 y1, .int .i64 y2, .slice u1 u2 u3, .int .i64 y4], .bool true]) (by simp [results, Tryz.results14, go_sem, v0, v1, v2, v3]) rfl ?_
        rw [FA.out]
        exact ⟨⟨(y1, y2, (u1, u2, u3), y4), rfl, HZ.out.1, HZ.out.2.1, Row.of_own FW.out⟩, BL.out⟩
    · obtain rfl : k = n := by omega
      have FA := Lib.hid (show fo = none by
        rw [FO.out]
        refine findA_none fun j z hzz => ?_
        obtain ⟨u, hu1, hu2⟩ := HA.out.at j z hzz
        rw [← hu2.1]
        exact AL.out j u (by rw [← HN.out]; exact (List.getElem?_eq_some_iff.1 hu1).1) hu1)
      have Y1 := X4.out.on BE.out
      have r0 := Y1.cell 0
      have r1 := Y1.cell 1
      have r2 := Y1.cell 2
      have r3 := Y1.cell 3
      have t0 := Y1.fr 0
      have t1 := Y1.fr 1
      have t2 := Y1.fr 2
      have t3 := Y1.fr 3
      simp only [List.getElem?_toArray, List.getElem?_cons_zero, List.getElem?_cons_succ] at r0 r1 r2 r3
      have zz := Y1.lt
      have FB := Lib.hid (setD_box Y1 (.int .i64 0) (.int .i64 0) (.slice none 0 0) (.int .i64 0))
      have BL := Lib.hid (setD_below (b := w.heap.size + 1 + 1) (B.out.trans (BE.out.mono B.out.size)) (by omega) (.int .i64 0) (.int .i64 0) (.slice none 0 0) (.int .i64 0))
      clear Y1
      go_wp2_with fail
      have v0 := FB.out.cell 0
      have v1 := FB.out.cell 1
      have v2 := FB.out.cell 2
      have v3 := FB.out.cell 3
      simp at v0 v1 v2 v3
      refine bodyPost_ret (v := .tuple #[.agg #[.int .i64 0, .int .i64 0, .slice none 0 0, .int .i64 0], .bool false]) (by simp [results, Tryz.results14, go_sem, v0, v1, v2, v3]) rfl ?_
      rw [FA.out]
      exact ⟨rfl, BL.out⟩
end Go.Proofs.YtonoadjmglkhaaaGreat.Av

namespace Go.Proofs.YtonoadjmglkhaaaGreat.Av
open Go.RowKit Go.Sort Go.Proofs.YtonoadjmglkhaaaGreat Go.Proofs.YtonoadjmglkhaaaGreat.Rw Go.Proofs.YtonoadjmglkhaaaGreat.Nm Go.Proofs.YtonoadjmglkhaaaGreat.Pr Go.Proofs.YtonoadjmglkhaaaGreat.Bk

def lrn4V (B : Nat) (b1 _b2 : Nat) (_me : Int) (_z1 : Value) (o2 : Option Addr) (n2 c2 : Nat) (_z3 _z4 _z5 : Value) (y1 y2 : Int) (yo : Option Addr) (yn yc : Nat) (y4 : Int) (p : List C5) (i : Nat) (v : Value) (x : World) : Prop :=
  match i with
  | 0 => v = .pointer (some ⟨b1, 2, none⟩)
  | 1 => v = .slice o2 n2 c2
  | 2 => v = .agg #[.int .i64 y1, .int .i64 y2, .slice yo yn yc, .int .i64 y4]
  | 3 => ∃ s : Sl, v = valD (y1, y2, s, y4) ∧ OwnC x B (slv s) p
  | _ => True
noncomputable def lrn4C : Code := ((Tryz.f10.body.bind (findRegion 4)).getD .skip)
theorem lrn4V_on (B : Nat) (b1 b2 : Nat) (me : Int) (z1 : Value) (o2 : Option Addr) (n2 c2 : Nat) (z3 z4 z5 : Value) (y1 y2 : Int) (yo : Option Addr) (yn yc : Nat) (y4 : Int) (p : List C5) (i : Nat) (v : Value) (x x' : World) (h : lrn4V B b1 b2 me z1 o2 n2 c2 z3 z4 z5 y1 y2 yo yn yc y4 p i v x) (hb : Below x.heap.size x x') : lrn4V B b1 b2 me z1 o2 n2 c2 z3 z4 z5 y1 y2 yo yn yc y4 p i v x' := by
  by_cases hi : i < 4
  · rcases (by omega : i = 0 ∨ i = 1 ∨ i = 2 ∨ i = 3) with rfl | rfl | rfl | rfl
    · exact h
    · exact h
    · exact h
    · obtain ⟨s, h1, h2⟩ := h; exact ⟨s, h1, Bk.own_on h2 hb⟩
  · unfold lrn4V
    split <;> first | omega | trivial
set_option maxRecDepth 100000 in
set_option maxHeartbeats 8000000 in
theorem lrn4 (Q : Exit → Act → World → Prop) (W : World) (B0 : Nat) (l : List XAd) (b1 b2 : Nat) (me : Int) (z1 : Value) (o2 : Option Addr) (n2 c2 : Nat) (z3 z4 z5 : Value) (y1 y2 : Int) (yo : Option Addr) (yn yc : Nat) (y4 : Int) (p : List C5) (u0 u1 u4 u5 u6 u7 u8 u9 u10 u11 u12 u13 u14 u15 u16 u17 u18 u19 u20 u21 u22 u23 u24 u25 : Value)
    (h1 : Box W b1 #[.int .i64 me, z1, .slice o2 n2 c2, z3, z4, z5] 29) (h2 : Box W b2 #[.int .i64 y1, .int .i64 y2, .slice yo yn yc, .int .i64 y4] 42) (ho : OwnD W B0 (.slice o2 n2 c2) l) (hr : RiseK keyD l) (hl : l.length ≤ 900) (hB : B0 ≤ W.heap.size) (hb0 : b1 < B0) (hp : RowC W (.slice yo yn yc) p) (lp : p.length ≤ 900)
    (hQ : ∀ (w1 : World) (v13 v14 v15 v16 v17 v18 : Value) (s1 : Option Addr) (s2 s3 : Nat) (t1 : Option Addr) (t2 t3 : Nat), Box w1 b1 #[.int .i64 me, z1, .slice o2 n2 c2, z3, z4, z5] 29 → OwnD w1 B0 (.slice t1 t2 t3) (insAt l (placeK keyD l (y1, y2)) (y1, y2, (s1, s2, s3), y4)) → OwnC w1 W.heap.size (.slice s1 s2 s3) p → Off (slv (o2, n2, c2)).ownBlock W w1 → Below B0 W w1 → Q .normal ⟨(u0 :: u1 :: .pointer (some ⟨b1, 0, none⟩) :: .pointer (some ⟨b2, 0, none⟩) :: u4 :: u5 :: u6 :: u7 :: u8 :: u9 :: u10 :: u11 :: u12 :: v13 :: v14 :: v15 :: v16 :: v17 :: v18 :: u19 :: u20 :: u21 :: u22 :: u23 :: u24 :: u25 :: []).toArray, []⟩ (w1.setCell ⟨b1, 2, none⟩ (.slice t1 t2 t3))) :
    Code.wp Tryz.prog lrn4C Q ⟨(u0 :: u1 :: .pointer (some ⟨b1, 0, none⟩) :: .pointer (some ⟨b2, 0, none⟩) :: u4 :: u5 :: u6 :: u7 :: u8 :: u9 :: u10 :: u11 :: u12 :: u13 :: u14 :: u15 :: u16 :: u17 :: u18 :: u19 :: u20 :: u21 :: u22 :: u23 :: u24 :: u25 :: []).toArray, []⟩ W := by
  have HQ := Lib.hid hQ
  have H1 := Lib.hid h1
  have H2 := Lib.hid h2
  have HO := Lib.hid ho
  have HR := Lib.hid hr
  have HL := Lib.hid hl
  have HB := Lib.hid hB
  have H0 := Lib.hid hb0
  have HP := Lib.hid hp
  have LP := Lib.hid lp
  clear hQ h1 h2 ho hr hl hB hb0 hp lp
  have stab := lrn4V_on W.heap.size b1 b2 me z1 o2 n2 c2 z3 z4 z5 y1 y2 yo yn yc y4 p
  unfold lrn4C
  conv => arg 2; whnf
  have nd : ∀ j, (j < 13 ∨ 17 ≤ j) → ∀ i, i < 4 → (fun i => 13 + i) i ≠ j := by
    intro j hj i hi h
    simp only at h
    omega
  refine Rg.region_live 7 4 (fun i => 13 + i) (fun _ => 4) (lrn4V W.heap.size b1 b2 me z1 o2 n2 c2 z3 z4 z5 y1 y2 yo yn yc y4 p) (by kernel_rfl) (by kernel_rfl) rfl (by decide) (fun i j _ _ h => by have h2 : 13 + i = 13 + j := h; omega) (fun i hi => by show 13 + i < 26; omega) ?_ (fun _ => Rg.hall_of 14 (by kernel_rfl)) ?_ ?_
  · intro i o hi ho a x D hnd hc hD hb seen K hK
    clear HQ
    rcases (by omega : i = 0 ∨ i = 1 ∨ i = 2 ∨ i = 3) with rfl | rfl | rfl | rfl
    · obtain rfl := Option.some.inj ho
      have e2 : a.eval (.tmp 2) = .pointer (some ⟨b1, 0, none⟩) := seen.kp 2 _ (nd 2 (by omega)) rfl
      exact Rg.op_value rfl rfl (Rg.ex_field a.eval _ 29 (.tmp 2) 2 rfl (by rw [e2]; simp [go_sem])) (hK _ _ rfl (Below.refl _ _) fun _ _ _ _ _ _ _ h => h)
    · obtain rfl := Option.some.inj ho
      have e13 : a.eval (.tmp 13) = .pointer (some ⟨b1, 2, none⟩) := seen.at_ ⟨0, .data⟩ (by simp) rfl (Or.inr (by decide))
      have y2 := (H1.out.on hb).cell 2
      simp only [List.getElem?_toArray, List.getElem?_cons_zero, List.getElem?_cons_succ] at y2
      exact Rg.op_value rfl rfl (Rg.ex_load a.eval _ 24 (.tmp 13) rfl (by rw [e13]; simp [go_sem, y2])) (hK _ _ rfl (Below.refl _ _) fun _ _ _ _ _ _ _ h => h)
    · obtain rfl := Option.some.inj ho
      have e3 : a.eval (.tmp 3) = .pointer (some ⟨b2, 0, none⟩) := seen.kp 3 _ (nd 3 (by omega)) rfl
      have y0 := (H2.out.on hb).cell 0
      have y1 := (H2.out.on hb).cell 1
      have y2 := (H2.out.on hb).cell 2
      have y3 := (H2.out.on hb).cell 3
      simp only [List.getElem?_toArray, List.getElem?_cons_zero, List.getElem?_cons_succ] at y0 y1 y2 y3
      exact Rg.op_value rfl rfl (Rg.ex_load a.eval _ 42 (.tmp 3) rfl (by rw [e3]; simp [go_sem, y0, y1, y2, y3])) (hK _ _ rfl (Below.refl _ _) fun _ _ _ _ _ _ _ h => h)
    · obtain rfl := Option.some.inj ho
      have e15 : a.eval (.tmp 15) = .agg #[.int .i64 y1, .int .i64 y2, .slice yo yn yc, .int .i64 y4] := seen.at_ ⟨2, .data⟩ (by simp) rfl (Or.inr (by decide))
      exact Rg.op_call rfl rfl (Rw.ex_call1 a.eval _ (.tmp 15) 42 31 rfl e15 rfl _ (call_fn Tryz.func31 rfl rfl _ _)) (cpAd_any (y1, y2, (yo, yn, yc), y4) p x (HP.out.on hb) LP.out) fun e w1 h => by
        obtain ⟨⟨s, rfl, h1⟩, h3⟩ := h
        exact ⟨_, rfl, hK _ _ ⟨s, rfl, own_fewer h1 hb.size⟩ (h3.mono hb.size) fun j u hj _ _ _ hne h => stab j u _ _ h h3⟩
  · intro kk o h1 h2 ho
    rcases (by omega : kk = 5 ∨ kk = 6) with rfl | rfl
    · obtain rfl := Option.some.inj ho
      exact ⟨⟨4, .phase⟩, by simp, rfl, rfl⟩
    · obtain rfl := Option.some.inj ho
      exact ⟨⟨5, .data⟩, by simp, rfl, rfl⟩
  · intro a w' df sz kp ⟨vs, hv⟩ hb
    have sz' : a.tmps.size = 26 := sz
    have g2 : a.tmps[2]? = some (.pointer (some ⟨b1, 0, none⟩)) := (kp 2 (nd 2 (by omega))).trans rfl
    have g14 : a.tmps[14]? = some (.slice o2 n2 c2) := by
      have h : vs 1 = .slice o2 n2 c2 := (hv 1 (by omega)).2 (by decide)
      rw [← h]
      exact (hv 1 (by omega)).1
    obtain ⟨⟨s1, s2, s3⟩, hs, hc⟩ := (hv 3 (by omega)).2 (by decide)
    have g16 : a.tmps[16]? = some (valD (y1, y2, (s1, s2, s3), y4)) := ((hv 3 (by omega)).1).trans (congrArg some hs)
    have B1 := H1.out.on hb
    show Rg.SeqFrom _ _ _ 3 4 a w'
    simp only [Rg.SeqFrom]
    refine Rg.op_call rfl rfl (ex_call3g a.eval _ (.tmp 14) (.tmp 16) (.func 32) 24 42 76 30 rfl (Rg.eval_some g14) (Rg.eval_some g16) rfl rfl _ (call_fn Tryz.func30 rfl rfl _ _)) (putD_any B0 (o2, n2, c2) l (y1, y2, (s1, s2, s3), y4) w' (Bk.own_on HO.out hb) HR.out HL.out (Nat.le_trans HB.out hb.size)) fun e w1 h => ?_
    obtain ⟨⟨⟨t1, t2, t3⟩, rfl, hown⟩, hbel, hoth⟩ := h
    refine ⟨_, rfl, ?_⟩
    have hp17 : (a.put (some 17) (.slice t1 t2 t3)).tmps[17]? = some (.slice t1 t2 t3) := by simp [Act.put, sz']
    show Go.wpOp _ _ _ 5 _ (a.put (some 17) (.slice t1 t2 t3)) _
    refine Rg.op_value rfl rfl (Rg.ex_field _ _ 29 (.tmp 2) 2 rfl (v := .pointer (some ⟨b1, 2, none⟩)) (by rw [Rg.eval_some ((Rg.get_put _ 17 _ 2 (by decide)).trans g2)]; simp [go_sem])) ?_
    have hp18 : ((a.put (some 17) (.slice t1 t2 t3)).put (some 18) (.pointer (some ⟨b1, 2, none⟩))).tmps[18]? = some (.pointer (some ⟨b1, 2, none⟩)) := by simp [Act.put, sz']
    show Go.wpOp _ _ _ 6 _ ((a.put (some 17) (.slice t1 t2 t3)).put (some 18) (.pointer (some ⟨b1, 2, none⟩))) _
    have B2 : Box w1 b1 _ _ := (hbel.block b1 H0.out).trans B1
    have cx := B2.cell 2
    have fx := B2.fr 2
    simp only [List.getElem?_toArray, List.getElem?_cons_zero, List.getElem?_cons_succ] at cx
    refine Rg.op_store 24 (.tmp 18) (.tmp 17) rfl rfl rfl rfl (Rg.eval_some hp18) (Rg.eval_some ((Rg.get_put _ 18 _ 17 (by decide)).trans hp17)) (w' := w1.setCell ⟨b1, 2, none⟩ (.slice t1 t2 t3)) (by simp [go_sem, cx, fx]) ?_
    have of1 : Off (slv (o2, n2, c2)).ownBlock w' w1 := ⟨hoth, hbel.size⟩
    have of2 : Off (slv (o2, n2, c2)).ownBlock W w1 := ⟨fun j hj hne => (hoth j (Nat.lt_of_lt_of_le hj hb.size) hne).trans (hb.block j hj), Nat.le_trans hb.size hbel.size⟩
    have kp2 : ∀ j, (j < 13 ∨ 19 ≤ j) → ((a.put (some 17) (.slice t1 t2 t3)).put (some 18) (.pointer (some ⟨b1, 2, none⟩))).tmps[j]? = (u0 :: u1 :: .pointer (some ⟨b1, 0, none⟩) :: .pointer (some ⟨b2, 0, none⟩) :: u4 :: u5 :: u6 :: u7 :: u8 :: u9 :: u10 :: u11 :: u12 :: u13 :: u14 :: u15 :: u16 :: u17 :: u18 :: u19 :: u20 :: u21 :: u22 :: u23 :: u24 :: u25 :: [])[j]? := fun j hj => (Rg.get_put _ 18 _ j (by omega)).trans ((Rg.get_put _ 17 _ j (by omega)).trans ((kp j (nd j (by omega))).trans List.getElem?_toArray))
    obtain ⟨mid, hmid, hfr⟩ := Rg.frame_mid (a := (a.put (some 17) (.slice t1 t2 t3)).put (some 18) (.pointer (some ⟨b1, 2, none⟩))) (bl := (u0 :: u1 :: .pointer (some ⟨b1, 0, none⟩) :: .pointer (some ⟨b2, 0, none⟩) :: u4 :: u5 :: u6 :: u7 :: u8 :: u9 :: u10 :: u11 :: u12 :: u13 :: u14 :: u15 :: u16 :: u17 :: u18 :: u19 :: u20 :: u21 :: u22 :: u23 :: u24 :: u25 :: [])) 13 6 df (by simp [Rg.size_put, sz']) (by simp) kp2
    show Q .normal ((a.put (some 17) (.slice t1 t2 t3)).put (some 18) (.pointer (some ⟨b1, 2, none⟩))) _
    rw [hfr]
    match mid, hmid with
    | [v13, v14, v15, v16, v17, v18], _ =>
      exact HQ.out w1 _ _ _ _ _ _ s1 s2 s3 t1 t2 t3 B2 hown (of1.own hc (tag_own (Bk.own_on HO.out hb)) (by decide)) of2 ((hb.mono HB.out).trans hbel)
end Go.Proofs.YtonoadjmglkhaaaGreat.Av
