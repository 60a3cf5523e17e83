/-
  Forget's closure, slices.IndexFunc and slices.DeleteFunc of entries of one tree. Condition: the row is one's own.
  Find of package adverts. Condition: at most 900 advertisements, each of at most 900 constraints.
  Forget of package adverts: a broker without one advertisement, and its tree's entries. Conditions: at most 900 of each, its rows rise.
-/
import Derived.Test.YtonoadjmglkhaaaGreatV027
import Derived.Test.YtonoadjmglkhaaaGreatV008
import Derived.Test.YtonoadjmglkhaaaGreatV012
import Derived.Test.YtonoadjmglkhaaaGreatV019
import Derived.Test.YtonoadjmglkhaaaGreatV020
namespace Go.Proofs.YtonoadjmglkhaaaGreat.Av
open Go.RowKit Go.Sort Go.Proofs.YtonoadjmglkhaaaGreat Go.Proofs.YtonoadjmglkhaaaGreat.Rw Go.Proofs.YtonoadjmglkhaaaGreat.Nm Go.Proofs.YtonoadjmglkhaaaGreat.Pr Go.Proofs.YtonoadjmglkhaaaGreat.Bk

abbrev keyT (x : XEn) : XID := (x.1, x.2.1)
theorem flatN_all : ∀ (l : List XEn) (k : Nat) (x : XEn), k < l.length → flat EN (l.set k x) = ((((((((flat EN l).set (k * 7) (.int .i64 x.1)).set (k * 7 + 1) (.int .i64 x.2.1)).set (k * 7 + 2) (.int .i64 x.2.2.1)).set (k * 7 + 3) (.int .i64 x.2.2.2.1)).set (k * 7 + 4) (slv x.2.2.2.2.1)).set (k * 7 + 5) (.int .i64 x.2.2.2.2.2.1)).set (k * 7 + 6) (.bool x.2.2.2.2.2.2))
  | [], k, x, h => by simp at h
  | y :: r, 0, x, _ => rfl
  | y :: r, k + 1, x, h => by
    have ih := flatN_all r k x (by simpa using h)
    rw [show (k + 1) * 7 + 6 = (k * 7 + 6) + 1 + 1 + 1 + 1 + 1 + 1 + 1 by omega, show (k + 1) * 7 + 5 = (k * 7 + 5) + 1 + 1 + 1 + 1 + 1 + 1 + 1 by omega, show (k + 1) * 7 + 4 = (k * 7 + 4) + 1 + 1 + 1 + 1 + 1 + 1 + 1 by omega, show (k + 1) * 7 + 3 = (k * 7 + 3) + 1 + 1 + 1 + 1 + 1 + 1 + 1 by omega, show (k + 1) * 7 + 2 = (k * 7 + 2) + 1 + 1 + 1 + 1 + 1 + 1 + 1 by omega, show (k + 1) * 7 + 1 = (k * 7 + 1) + 1 + 1 + 1 + 1 + 1 + 1 + 1 by omega, show (k + 1) * 7 = (k * 7) + 1 + 1 + 1 + 1 + 1 + 1 + 1 by omega]
    simp only [List.set_cons_succ, flat, EN, cellsN, List.cons_append, List.nil_append] at ih ⊢
    rw [ih]
theorem stoN {w : World} {B g n cap k : Nat} {l : List XEn} (x : XEn) (h : Own EN w B (.slice (some ⟨g, 0, none⟩) n cap) l) (hk : k < l.length) :
    StoQ EN B g (.slice (some ⟨g, 0, none⟩) n cap) (l.set k x) w (((((((w.setCell ⟨g, k * 7, none⟩ (.int .i64 x.1)).setCell ⟨g, k * 7 + 1, none⟩ (.int .i64 x.2.1)).setCell ⟨g, k * 7 + 2, none⟩ (.int .i64 x.2.2.1)).setCell ⟨g, k * 7 + 3, none⟩ (.int .i64 x.2.2.2.1)).setCell ⟨g, k * 7 + 4, none⟩ (slv x.2.2.2.2.1)).setCell ⟨g, k * 7 + 5, none⟩ (.int .i64 x.2.2.2.2.2.1)).setCell ⟨g, k * 7 + 6, none⟩ (.bool x.2.2.2.2.2.2)) := by
  have hln := own_row_len h
  subst hln
  have h : w.ownsRow B 58 7 (.slice (some ⟨g, 0, none⟩) l.length cap) l.length (flat EN l) := h
  have s1 := (h.stored (k * 7) (.int .i64 x.1)).1
  have s2 := (s1.stored (k * 7 + 1) (.int .i64 x.2.1)).1
  have s3 := (s2.stored (k * 7 + 2) (.int .i64 x.2.2.1)).1
  have s4 := (s3.stored (k * 7 + 3) (.int .i64 x.2.2.2.1)).1
  have s5 := (s4.stored (k * 7 + 4) (slv x.2.2.2.2.1)).1
  have s6 := (s5.stored (k * 7 + 5) (.int .i64 x.2.2.2.2.2.1)).1
  have s7 := (s6.stored (k * 7 + 6) (.bool x.2.2.2.2.2.2)).1
  refine ⟨?_, (((((((but_cell _ g _ _).trans (but_cell _ g _ _)).trans (but_cell _ g _ _)).trans (but_cell _ g _ _)).trans (but_cell _ g _ _)).trans (but_cell _ g _ _)).trans (but_cell _ g _ _)), fun B' W hB hb => (((((((hb.setCell (p := ⟨g, _, none⟩) hB _).setCell (p := ⟨g, _, none⟩) hB _).setCell (p := ⟨g, _, none⟩) hB _).setCell (p := ⟨g, _, none⟩) hB _).setCell (p := ⟨g, _, none⟩) hB _).setCell (p := ⟨g, _, none⟩) hB _).setCell (p := ⟨g, _, none⟩) hB _)⟩
  have e := flatN_all l k x hk
  show World.ownsRow _ B 58 7 _ (l.set k x).length (flat EN (l.set k x))
  rw [e, List.length_set]
  exact s7
set_option maxRecDepth 100000 in
theorem cloN_any (x : XEn) (b2 : Nat) (c d : Int) (r : Bool) (hr : decide (keyT x = (c, d)) = r) (w : World) (h : Box w b2 #[.int .i64 c, .int .i64 d] 37) : Calls Tryz.prog 40 #[valN x, .pointer (some ⟨b2, 0, none⟩)] w fun e w' => e = .returned (.bool r) ∧ Below w.heap.size w w' := by
  obtain ⟨y1, y2, y3, y4, ⟨yo, yn, yc⟩, y6, y7⟩ := x
  have n0 := newB w (.cells #[.int .i64 y1, .int .i64 y2, .int .i64 y3, .int .i64 y4, .slice yo yn yc, .int .i64 y6, .bool y7] 58)
  have hx := box_new w #[.int .i64 y1, .int .i64 y2, .int .i64 y3, .int .i64 y4, .slice yo yn yc, .int .i64 y6, .bool y7] 58
  have x0 := hx.cell 0
  have x1 := hx.cell 1
  have z0 := (h.on n0).cell 0
  have z1 := (h.on n0).cell 1
  simp only [List.getElem?_toArray, List.getElem?_cons_zero, List.getElem?_cons_succ] at x0 x1 z0 z1
  have he := eqId y1 y2 c d r (by
    rw [← hr]
    by_cases h1 : y1 = c <;> by_cases h2 : y2 = d <;> simp [h1, h2])
  have N0 := Lib.hid n0
  clear n0 hx h hr
  go_enter Tryz.func40, Tryz.ntmps40
  go_wp2
  go_ret
  exact ⟨rfl, N0.out⟩
set_option maxRecDepth 100000 in
set_option maxHeartbeats 8000000 in
theorem ixfN_any (v : Sl) (l : List XEn) (b2 : Nat) (c d : Int) (w : World) (hs : Row EN w (slv v) l) (hb2 : Box w b2 #[.int .i64 c, .int .i64 d] 37) :
    Calls Tryz.prog 90 #[slv v, .func (.func 40) #[] #[.pointer (some ⟨b2, 0, none⟩)]] w fun e w' => e = .returned (.int .i64 (findI (l.map keyT) (c, d))) ∧ Below w.heap.size w w' := by
  obtain ⟨so, sn, sc⟩ := v
  obtain ⟨ao, ac, hv⟩ := hs.len
  have hv : Value.slice so sn sc = .slice ao l.length ac := hv
  obtain ⟨rfl, rfl, rfl⟩ : so = ao ∧ sn = l.length ∧ sc = ac := by simpa using hv
  have HS := Lib.hid hs
  have X2 := Lib.hid hb2
  have lm := hs.most
  unfold maxLen at lm
  obtain ⟨n, hn⟩ : ∃ n, n = l.length := ⟨_, rfl⟩
  rw [← hn] at HS lm ⊢
  have HN := Lib.hid hn.symm
  clear hb2 hs hv hn
  go_enter Tryz.func90, Tryz.ntmps90
  go_wp2
  go_loopw [8] (fun i wr => ∃ k : Nat, k ≤ n ∧ i = .int .i64 k ∧ Below w.heap.size w wr ∧ ∀ (j : Nat) (y : XEn), j < k → l[j]? = some y → keyT y ≠ (c, d)) (fun i _ => n - (intOf i).toNat)
  case atStart => exact ⟨0, Nat.zero_le _, rfl, Below.refl _ _, fun j y h => by omega⟩
  case round =>
    obtain ⟨k, hk, rfl, hbe, hall⟩ := hrel
    have BE := Lib.hid hbe
    have AL := Lib.hid hall
    clear hbe hall
    by_cases hlt : k < n
    · obtain ⟨y, hy⟩ : ∃ y, l[k]? = some y := ⟨_, List.getElem?_eq_getElem (by rw [HN.out]; exact hlt)⟩
      obtain ⟨p, ix, px⟩ := elN HS.out rfl HN.out hy
      obtain ⟨p0, p1, p2, p3, p4, p5, p6⟩ := px wr BE.out
      obtain ⟨r, hr⟩ : ∃ r, decide (keyT y = (c, d)) = r := ⟨_, rfl⟩
      have CL := Lib.hid (cloN_any y b2 c d r hr wr (X2.out.on BE.out))
      have HY := Lib.hid hy
      have HR := Lib.hid hr
      obtain ⟨y1, y2, y3, y4, ⟨yo, yn, yc⟩, y6, y7⟩ := y
      simp only at p0 p1 p2 p3 p4 p5 p6
      have hw3 : IntKind.i64.wrap ((k : Int) + 1) = (k : Int) + 1 := IntWalk.i64_in _ (by omega)
      clear px hy hr
      go_wp2_with fail
      refine CL.out.mono ?_
      rintro e w1 ⟨rfl, hb⟩
      have B1 := Lib.hid (BE.out.trans (hb.mono BE.out.size))
      clear hb CL ix p0 p1 p2 p3 p4 p5 p6
      cases r
      · go_wp2
        go_roundw
        case rel => exact ⟨k + 1, by omega, by go_num, B1.out, fun j y' hj h1 => by
          rcases Nat.lt_or_ge j k with h3 | h3
          · exact AL.out j y' h3 h1
          · obtain rfl : j = k := by omega
            have e1 := HY.out
            rw [h1] at e1
            rw [Option.some.inj e1]
            exact of_decide_eq_false HR.out⟩
        case measure => simp [intOf]; omega
      · go_wp2
        go_ret
        exact ⟨by rw [findI_at (l.map keyT) k (c, d) (by rw [List.getElem?_map, HY.out]; exact congrArg some (of_decide_eq_true HR.out)) (fun j z hj hz => by
          rw [List.getElem?_map] at hz
          cases hz2 : l[j]? with
          | none => rw [hz2] at hz; cases hz
          | some u => rw [hz2] at hz; rw [← Option.some.inj hz]; exact AL.out j u hj hz2)]; rfl, B1.out⟩
    · obtain rfl : k = n := by omega
      go_wp2
      go_ret
      exact ⟨by rw [findI_none (l.map keyT) (c, d) (fun j z hz => by
          rw [List.getElem?_map] at hz
          cases hz2 : l[j]? with
          | none => rw [hz2] at hz; cases hz
          | some u => rw [hz2] at hz; rw [← Option.some.inj hz]; exact AL.out j u (by rw [← HN.out]; exact (List.getElem?_eq_some_iff.1 hz2).1) hz2)]; rfl, BE.out⟩
abbrev keepN (c d : Int) (x : XEn) : Bool := decide (keyT x ≠ (c, d))
set_option maxRecDepth 100000 in
set_option maxHeartbeats 16000000 in
theorem delN_any (B : Nat) (v : Sl) (l : List XEn) (b2 : Nat) (c d : Int) (w : World) (ho : Own EN w B (slv v) l) (hb2 : Box w b2 #[.int .i64 c, .int .i64 d] 37) (hB : B ≤ w.heap.size) :
    Calls Tryz.prog 39 #[slv v, .func (.func 40) #[] #[.pointer (some ⟨b2, 0, none⟩)]] w fun e w' => (∃ v' : Sl, e = .returned (slv v') ∧ Own EN w' B (slv v') (l.filter (keepN c d))) ∧ Below B w w' ∧ Off (slv v).ownBlock w w' := by
  obtain ⟨so, sn, sc⟩ := v
  obtain ⟨ao, ac, hv⟩ := (Row.of_own ho).len
  have hv : Value.slice so sn sc = .slice ao l.length ac := hv
  obtain ⟨rfl, rfl, rfl⟩ : so = ao ∧ sn = l.length ∧ sc = ac := by simpa using hv
  have IX := Lib.hid (ixfN_any (so, l.length, sc) l b2 c d w (Row.of_own ho) hb2)
  have HO := Lib.hid ho
  have X2 := Lib.hid hb2
  have lm := (Row.of_own ho).most
  unfold maxLen at lm
  have BZ := Lib.hid (show w.heap.size ≤ w.heap.size from Nat.le_refl _)
  obtain ⟨n, hn⟩ : ∃ n, n = l.length := ⟨_, rfl⟩
  rw [← hn] at HO lm IX ⊢
  have HN := Lib.hid hn.symm
  obtain ⟨q, hq⟩ : ∃ q, findI (l.map keyT) (c, d) = q := ⟨_, rfl⟩
  rw [hq] at IX
  have HQ := Lib.hid hq
  have HB := Lib.hid hB
  have LB := Lib.hid (show ∀ g, (slv (so, n, sc)).ownBlock = some g → B ≤ g from fun g hg => (HO.out.lt g hg).1)
  clear hb2 ho hv hn hB
  by_cases hneg : q = -1
  · subst hneg
    go_enter Tryz.func39, Tryz.ntmps39
    go_wp2_with fail
    refine IX.out.mono ?_
    rintro e w1 ⟨rfl, hb⟩
    have FE := Lib.hid (show l.filter (keepN c d) = l from by
      rw [List.filter_eq_self]
      intro y hy
      obtain ⟨j, hj⟩ := List.mem_iff_getElem?.1 hy
      exact decide_eq_true (findI_neg hq j y hj))
    have BH := Lib.hid hb
    clear hb hq
    go_wp2
    go_ret
    exact ⟨⟨(so, n, sc), rfl, by rw [FE.out]; exact Bk.own_on HO.out BH.out⟩, BH.out.mono HB.out, fun j hj _ => BH.out.block j hj, BH.out.size⟩
  · obtain ⟨k, rfl⟩ : ∃ k : Nat, q = k := ⟨q.toNat, by have := findI_bd (l.map keyT) (c, d); omega⟩
    obtain ⟨g1, g2⟩ := findI_get hq
    obtain ⟨x, hx, hxk⟩ : ∃ x, l[k]? = some x ∧ keyT x = (c, d) := by
      rw [List.getElem?_map] at g1
      cases hz : l[k]? with
      | none => rw [hz] at g1; cases g1
      | some x => rw [hz] at g1; exact ⟨x, rfl, Option.some.inj g1⟩
    have ST0 := Lib.hid (filter_first (keep := keepN c d) hx (decide_eq_false (by simp [hxk])) (fun j y hj hy => decide_eq_true (g2 j (keyT y) hj (by rw [List.getElem?_map, hy]; rfl))))
    have hkl : k < n := by rw [← HN.out]; exact (List.getElem?_eq_some_iff.1 hx).1
    obtain ⟨g, rfl, hBg⟩ : ∃ g, so = some ⟨g, 0, none⟩ ∧ B ≤ g := own_some HO.out (show 0 < n by omega)
    have BG := Lib.hid hBg
    have TG := Lib.hid (tag_own HO.out)
    have hcap : n ≤ sc := by
      rcases own_open HO.out with ⟨h1, _⟩ | ⟨g', c', cur, h1, h2, h3, h4, h5, h6, h7⟩
      · cases h1
      · have e1 : sc = c' := by simpa using congrArg (fun v => match v with | Value.slice _ _ c => c | _ => 0) h1
        have := HN.out
        omega
    have hw0 : IntKind.i64.wrap ((k : Int) + 1) = (k : Int) + 1 := IntWalk.i64_in _ (by omega)
    have hk1 : ((k : Int) == -1) = false := by rw [beq_eq_false_iff_ne]; omega
    clear hq g1 g2 hx hxk x hneg hBg LB
    go_enter Tryz.func39, Tryz.ntmps39
    go_wp2_with fail
    refine IX.out.mono ?_
    rintro e w1 ⟨rfl, hb⟩
    have O1 := Lib.hid (Bk.own_on HO.out hb)
    have B1 := Lib.hid (hb.mono HB.out)
    have F1 := Lib.hid (show Off (some g) w w1 from ⟨fun j hj _ => hb.block j hj, hb.size⟩)
    clear hb IX
    go_wp2
    clear hw0 hk1
    go_loopw [5, 6] (fun s5 s6 wr => ∃ (i j : Nat) (L : List XEn), s5 = .int .i64 i ∧ s6 = .int .i64 j ∧ j ≤ n ∧ DelSt (keepN c d) l i j L ∧ Own EN wr B (.slice (some ⟨g, 0, none⟩) n sc) L ∧ Below B w wr ∧ Off (some g) w wr) (fun _ s6 _ => n - (intOf s6).toNat)
    case atStart => exact ⟨k, k + 1, l, rfl, by go_num, by omega, ST0.out, O1.out, B1.out, F1.out⟩
    case round =>
      obtain ⟨i, j, L, rfl, rfl, hj, hst, how, hbe, hof⟩ := hrel
      have ST := Lib.hid hst
      have OW := Lib.hid how
      have BE := Lib.hid hbe
      have OF := Lib.hid hof
      have hij := hst.lt
      have LN := Lib.hid (show L.length = n from hst.len.trans HN.out)
      clear hst how hbe hof O1 B1 F1 ST0
      by_cases hlt : j < n
      · obtain ⟨y, hy⟩ : ∃ y, l[j]? = some y := ⟨_, List.getElem?_eq_getElem (by rw [HN.out]; exact hlt)⟩
        have hyL : L[j]? = some y := by rw [ST.out.at, hy]
        obtain ⟨p, ix, px⟩ := elN (Row.of_own OW.out) rfl LN.out hyL
        obtain ⟨p0, p1, p2, p3, p4, p5, p6⟩ := px wr (Below.refl _ _)
        obtain ⟨r, hr⟩ : ∃ r, decide (keyT y = (c, d)) = r := ⟨_, rfl⟩
        have HY := Lib.hid hy
        have hw3 : IntKind.i64.wrap ((j : Int) + 1) = (j : Int) + 1 := IntWalk.i64_in _ (by omega)
        have hw5 : IntKind.i64.wrap ((i : Int) + 1) = (i : Int) + 1 := IntWalk.i64_in _ (by omega)
        obtain ⟨z, hz⟩ : ∃ z, L[i]? = some z := ⟨_, List.getElem?_eq_getElem (by rw [LN.out]; omega)⟩
        have HZ := Lib.hid hz
        have X2w := OF.out.box X2.out TG.out (by decide)
        have CLO := cloN_any y b2 c d r hr
        have KP := Lib.hid (show keepN c d y = !r from by rw [← hr]; simp [keepN])
        obtain ⟨y1, y2, y3, y4, ⟨yo, yn, yc⟩, y6, y7⟩ := y
        simp only at p0 p1 p2 p3 p4 p5 p6
        have NB := Lib.hid (newB wr (.cells #[.int .i64 y1, .int .i64 y2, .int .i64 y3, .int .i64 y4, .slice yo yn yc, .int .i64 y6, .bool y7] 58))
        have CL := Lib.hid (CLO _ (X2w.on NB.out))
        clear hy hyL px hr hz CLO X2w
        go_wp2_with fail
        refine CL.out.mono ?_
        rintro e w2 ⟨rfl, hb⟩
        have BB := Lib.hid (NB.out.trans (hb.mono NB.out.size))
        have Y7 := (box_new wr #[.int .i64 y1, .int .i64 y2, .int .i64 y3, .int .i64 y4, .slice yo yn yc, .int .i64 y6, .bool y7] 58).on hb
        have q0 := Y7.cell 0
        have q1 := Y7.cell 1
        have q2 := Y7.cell 2
        have q3 := Y7.cell 3
        have q4 := Y7.cell 4
        have q5 := Y7.cell 5
        have q6 := Y7.cell 6
        simp only [List.getElem?_toArray, List.getElem?_cons_zero, List.getElem?_cons_succ] at q0 q1 q2 q3 q4 q5 q6
        have O2 := Lib.hid (Bk.own_on OW.out BB.out)
        clear hb CL ix p0 p1 p2 p3 p4 p5 p6 Y7
        cases r
        · have ix := index_own okN g i n sc (by omega)
          have ix : ∀ w, (Instr.indexAt 26 (.slice (some ⟨g, 0, none⟩) n sc) (.int .i64 i)).run Tryz.prog w = .ok (.pointer (some ⟨g, i * 7, none⟩)) w := ix
          have ca := own_row_at okN O2.out HZ.out w2 (Below.refl _ _)
          have ce0 := ca 0 _ rfl
          have ce1 := ca 1 _ rfl
          have ce2 := ca 2 _ rfl
          have ce3 := ca 3 _ rfl
          have ce4 := ca 4 _ rfl
          have ce5 := ca 5 _ rfl
          have ce6 := ca 6 _ rfl
          simp [Addr.add, EN] at ce0 ce1 ce2 ce3 ce4 ce5 ce6
          obtain ⟨cur, hbx⟩ := own_tag O2.out
          have f := fun j => hbx.fr j
          have gl := hbx.lt
          have SQ : StoQ EN B g (.slice (some ⟨g, 0, none⟩) n sc) (L.set i (y1, y2, y3, y4, (yo, yn, yc), y6, y7)) w2 (((((((w2.setCell ⟨g, i * 7, none⟩ (.int .i64 y1)).setCell ⟨g, i * 7 + 1, none⟩ (.int .i64 y2)).setCell ⟨g, i * 7 + 2, none⟩ (.int .i64 y3)).setCell ⟨g, i * 7 + 3, none⟩ (.int .i64 y4)).setCell ⟨g, i * 7 + 4, none⟩ (.slice yo yn yc)).setCell ⟨g, i * 7 + 5, none⟩ (.int .i64 y6)).setCell ⟨g, i * 7 + 6, none⟩ (.bool y7)) := stoN (y1, y2, y3, y4, (yo, yn, yc), y6, y7) O2.out (by rw [LN.out]; omega)
          have SQ := Lib.hid SQ
          clear hbx ca
          go_upto_region 10 with fail
          generalize (((((((w2.setCell ⟨g, i * 7, none⟩ (.int .i64 y1)).setCell ⟨g, i * 7 + 1, none⟩ (.int .i64 y2)).setCell ⟨g, i * 7 + 2, none⟩ (.int .i64 y3)).setCell ⟨g, i * 7 + 3, none⟩ (.int .i64 y4)).setCell ⟨g, i * 7 + 4, none⟩ (.slice yo yn yc)).setCell ⟨g, i * 7 + 5, none⟩ (.int .i64 y6)).setCell ⟨g, i * 7 + 6, none⟩ (.bool y7)) = w3 at *
          clear f gl ce0 ce1 ce2 ce3 ce4 ce5 ce6 ix
          go_wp2
          go_roundw
          case rel => exact ⟨i + 1, j + 1, L.set i (y1, y2, y3, y4, (yo, yn, yc), y6, y7), by go_num, by go_num, by omega, ST.out.keep HY.out KP.out, SQ.out.1, SQ.out.2.2 B w BG.out (BE.out.trans (BB.out.mono (Nat.le_trans HB.out OF.out.2))), ⟨fun q hq hne => (SQ.out.2.1.1 q (Nat.lt_of_lt_of_le (Nat.lt_of_lt_of_le hq OF.out.2) BB.out.size) (fun e => hne (by rw [e]))).trans ((BB.out.block q (Nat.lt_of_lt_of_le hq OF.out.2)).trans (OF.out.1 q hq hne)), Nat.le_trans OF.out.2 (Nat.le_trans BB.out.size SQ.out.2.1.2)⟩⟩
          case measure => simp [intOf]; omega
        · go_wp2
          go_roundw
          case rel => exact ⟨i, j + 1, L, rfl, by go_num, by omega, ST.out.skip HY.out KP.out, O2.out, BE.out.trans (BB.out.mono (Nat.le_trans HB.out OF.out.2)), ⟨fun q hq hne => (BB.out.block q (Nat.lt_of_lt_of_le hq OF.out.2)).trans (OF.out.1 q hq hne), Nat.le_trans OF.out.2 BB.out.size⟩⟩
          case measure => simp [intOf]; omega
      · obtain rfl : n = j := by omega
        obtain ⟨W', hr, h1, h2, h3⟩ := clear_own okN (by decide) OW.out hij (ty := 0)
        have sh := cut_hi (E := EN) okN g i n sc (by omega) (by omega)
        have sl := slice_lo (E := EN) okN ⟨g, 0, none⟩ i n sc (by omega)
        have sh : ∀ w, (Instr.sliceAt 26 (.slice (some ⟨g, 0, none⟩) n sc) (some (.int .i64 i)) none none).run Tryz.prog w = .ok (.slice (some ⟨g, i * 7, none⟩) (n - i) (sc - i)) w := sh
        have sl : ∀ w, (Instr.sliceAt 26 (.slice (some ⟨g, 0, none⟩) n sc) none (some (.int .i64 i)) none).run Tryz.prog w = .ok (.slice (some ⟨g, 0, none⟩) i sc) w := sl
        have hr : (Builtin.clear_ #[26] 0 #[.slice (some ⟨g, i * 7, none⟩) (n - i) (sc - i)]).run Tryz.prog wr = .ok (.tuple #[]) W' := hr
        have Q := Lib.hid (show (∃ v' : Sl, Ending.returned (.slice (some ⟨g, 0, none⟩) i sc) = .returned (slv v') ∧ Own EN W' B (slv v') (l.filter (keepN c d))) ∧ Below B w W' ∧ Off (slv (some ⟨g, 0, none⟩, n, sc)).ownBlock w W' from ⟨⟨(some ⟨g, 0, none⟩, i, sc), rfl, by
          have e1 : l.take n = l := List.take_of_length_le (by rw [HN.out]; exact Nat.le_refl _)
          have e2 := ST.out.lo
          rw [e1] at e2
          rw [← e2]
          exact h1⟩, h3 B w BG.out BE.out, ⟨fun q hq hne => (h2.1 q (Nat.lt_of_lt_of_le hq OF.out.2) (fun e => hne (by rw [e]; rfl))).trans (OF.out.1 q hq hne), Nat.le_trans OF.out.2 h2.2⟩⟩)
        clear h1 h2 h3 hlt
        go_wp2_with (first | (at_builtin; refine wpList_clear_run rfl _ _ 26 rfl rfl rfl hr ?_) | fail)
        go_ret
        exact Q.out
end Go.Proofs.YtonoadjmglkhaaaGreat.Av

namespace Go.Proofs.YtonoadjmglkhaaaGreat.Av
open Go.RowKit Go.Sort Go.Proofs.YtonoadjmglkhaaaGreat Go.Proofs.YtonoadjmglkhaaaGreat.Rw Go.Proofs.YtonoadjmglkhaaaGreat.Nm Go.Proofs.YtonoadjmglkhaaaGreat.Pr Go.Proofs.YtonoadjmglkhaaaGreat.Bk

def findA (l : List Ad) (x : XID) : Option Ad := l.find? fun a => decide (a.id = x)
theorem findA_none {l : List Ad} {x : XID} (h : ∀ (j : Nat) (a : Ad), l[j]? = some a → a.id ≠ x) : findA l x = none := by
  unfold findA
  rw [List.find?_eq_none]
  intro a ha
  obtain ⟨j, hj⟩ := List.mem_iff_getElem?.1 ha
  simpa using h j a hj
theorem findA_at : ∀ {l : List Ad} {x : XID} {k : Nat} {a : Ad}, l[k]? = some a → a.id = x → (∀ (j : Nat) (z : Ad), j < k → l[j]? = some z → z.id ≠ x) → findA l x = some a
  | [], _, _, _, h, _, _ => by simp at h
  | b :: l, x, 0, a, h, hx, _ => by
    obtain rfl : b = a := by simpa using h
    simp [findA, hx]
  | b :: l, x, k + 1, a, h, hx, hall => by
    have hb := hall 0 b (by omega) rfl
    have ih := findA_at (l := l) (x := x) (k := k) (a := a) (by simpa using h) hx fun j z hj hz => hall (j + 1) z (by omega) (by simpa using hz)
    unfold findA at *
    rw [List.find?_cons_of_neg (by simpa using hb)]
    exact ih
/-- What Find answers. -/
def FindQ (W : World) (o : Option Ad) (w : World) (e : Ending) (w' : World) : Prop := (match o with
  | none => e = .returned (.tuple #[valD (0, 0, (none, 0, 0), 0), .bool false])
  | some a => ∃ r : XAd, e = .returned (.tuple #[valD r, .bool true]) ∧ AdIn w' r a) ∧ Below W.heap.size w w'
set_option maxRecDepth 100000 in
set_option maxHeartbeats 16000000 in
theorem find_any (me : Int) (nv sv ev ov : Value) (av : Sl) (l : List XAd) (al : List Ad) (x : XID) (w : World) (hs : RowD w (slv av) l) (hA : All2 (AdIn w) l al) (hf : ∀ a ∈ al, a.p.length ≤ 900) :
    Calls Tryz.prog 14 #[.agg #[.int .i64 me, nv, slv av, sv, ev, ov], idv x] w (FindQ w (findA al x) w) := by
  obtain ⟨c, d⟩ := x
  obtain ⟨so, sn, sc⟩ := av
  obtain ⟨ao, ac, hv⟩ := hs.len
  have hv : Value.slice so sn sc = .slice ao l.length ac := hv
  obtain ⟨rfl, rfl, rfl⟩ : so = ao ∧ sn = l.length ∧ sc = ac := by simpa using hv
  obtain ⟨h0, h1, h2⟩ := two_new w #[.int .i64 me, nv, .slice so l.length sc, sv, ev, ov] #[.int .i64 c, .int .i64 d] 29 37
  have h3 := newB ((w.alloc (.cells #[.int .i64 me, nv, .slice so l.length sc, sv, ev, ov] 29)).alloc (.cells #[.int .i64 c, .int .i64 d] 37)) (.cells #[.int .i64 0, .int .i64 0, .slice none 0 0, .int .i64 0] 42)
  have h4 := box_new ((w.alloc (.cells #[.int .i64 me, nv, .slice so l.length sc, sv, ev, ov] 29)).alloc (.cells #[.int .i64 c, .int .i64 d] 37)) #[.int .i64 0, .int .i64 0, .slice none 0 0, .int .i64 0] 42
  have hsz : ((w.alloc (.cells #[.int .i64 me, nv, .slice so l.length sc, sv, ev, ov] 29)).alloc (.cells #[.int .i64 c, .int .i64 d] 37)).heap.size = w.heap.size + 1 + 1 := by simp
  rw [hsz] at h4
  have B := Lib.hid (h0.trans (h3.mono h0.size))
  have HS := Lib.hid (hs.on B.out)
  have HA := Lib.hid (hA.mono fun _ _ h => h.on B.out)
  have X2 := Lib.hid (h1.on h3)
  have X3 := Lib.hid (h2.on h3)
  have X4 := Lib.hid h4
  have HF := Lib.hid hf
  have lm := hs.most
  unfold maxLen at lm
  obtain ⟨n, hn⟩ : ∃ n, n = l.length := ⟨_, rfl⟩
  have q3 := X2.out.cell 2
  simp only [List.getElem?_toArray, List.getElem?_cons_zero, List.getElem?_cons_succ] at q3
  rw [← hn] at HS X2 X3 X4 HA lm q3 B ⊢
  have HN := Lib.hid hn.symm
  obtain ⟨fo, hfo⟩ : ∃ o, o = findA al (c, d) := ⟨_, rfl⟩
  rw [← hfo]
  have FO := Lib.hid hfo
  clear h0 h1 h2 h3 h4 hs hv hn hA hf hsz hfo
  go_enter Tryz.func14, Tryz.ntmps14
  go_upto_region 1 with fail
  generalize ((w.alloc (.cells #[.int .i64 me, nv, .slice so n sc, sv, ev, ov] 29)).alloc (.cells #[.int .i64 c, .int .i64 d] 37)).alloc (.cells #[.int .i64 0, .int .i64 0, .slice none 0 0, .int .i64 0] 42) = W at *
  go_wp2
  go_loopw [11] (fun i wr => ∃ k : Nat, k ≤ n ∧ i = .int .i64 k ∧ Below W.heap.size W wr ∧ ∀ (j : Nat) (y : XAd), j < k → l[j]? = some y → (y.1, y.2.1) ≠ (c, d)) (fun i _ => n - (intOf i).toNat)
  case atStart => exact ⟨0, Nat.zero_le _, rfl, Below.refl _ _, fun j y h => by omega⟩
  case round =>
    obtain ⟨k, hk, rfl, hbe, hall⟩ := hrel
    have BE := Lib.hid hbe
    have AL := Lib.hid hall
    clear hbe hall
    by_cases hlt : k < n
    · obtain ⟨y, hy⟩ : ∃ y, l[k]? = some y := ⟨_, List.getElem?_eq_getElem (by rw [HN.out]; exact hlt)⟩
      obtain ⟨p, ix, px⟩ := elD HS.out rfl HN.out hy
      obtain ⟨p0, p1, p2, p3⟩ := px wr BE.out
      obtain ⟨y1, y2, ⟨yo, yn, yc⟩, y4⟩ := y
      simp only at p0 p1 p2 p3
      have NB := Lib.hid (newB wr (.cells #[.int .i64 y1, .int .i64 y2, .slice yo yn yc, .int .i64 y4] 42))
      have x0 := ((X3.out.on BE.out).on NB.out).cell 0
      have x1 := ((X3.out.on BE.out).on NB.out).cell 1
      simp only [List.getElem?_toArray, List.getElem?_cons_zero, List.getElem?_cons_succ] at x0 x1
      have hw3 : IntKind.i64.wrap ((k : Int) + 1) = (k : Int) + 1 := IntWalk.i64_in _ (by omega)
      obtain ⟨r, hr⟩ : ∃ r, (y1 == c && y2 == d) = r := ⟨_, rfl⟩
      have he := eqId y1 y2 c d r hr
      have HY := Lib.hid hy
      have HR := Lib.hid hr
      clear px hy hr
      cases r
      · go_wp2
        go_roundw
        case rel => exact ⟨k + 1, by omega, by go_num, BE.out.trans (NB.out.mono BE.out.size), fun j y' hj h1 => by
          rcases Nat.lt_or_ge j k with h3 | h3
          · exact AL.out j y' h3 h1
          · obtain rfl : j = k := by omega
            have e1 := HY.out
            rw [h1] at e1
            rw [Option.some.inj e1]
            intro e
            obtain ⟨rfl, rfl⟩ : y1 = c ∧ y2 = d := by simpa using e
            have := HR.out
            simp at this⟩
        case measure => simp [intOf]; omega
      · obtain ⟨a, ha⟩ : ∃ a, al[k]? = some a := ⟨_, List.getElem?_eq_getElem (by rw [← HA.out.len, HN.out]; exact hlt)⟩
        obtain ⟨z, hz1, hz2⟩ := HA.out.at k a ha
        rw [HY.out] at hz1
        obtain rfl := Option.some.inj hz1
        have BA := Lib.hid (BE.out.trans (NB.out.mono BE.out.size))
        have C := Lib.hid (cpAd_any (y1, y2, (yo, yn, yc), y4) a.p _ (hz2.2.2.on BA.out) (HF.out a (List.mem_of_getElem? ha)))
        have HZ := Lib.hid hz2
        have h8 := HR.out
        obtain ⟨rfl, rfl⟩ : y1 = c ∧ y2 = d := by simpa using h8
        have FA := Lib.hid (show fo = some a by
          rw [FO.out]
          refine findA_at ha hz2.1.symm fun j z hj hzz => ?_
          obtain ⟨u, hu1, hu2⟩ := HA.out.at j z hzz
          rw [← hu2.1]
          exact AL.out j u hj hu1)
        have X4a := (X4.out.on BE.out).on NB.out
        clear hz1 hz2 ha h8
        go_wp2_with fail
        refine C.out.mono ?_
        rintro e w1 ⟨⟨⟨u1, u2, u3⟩, rfl, ho⟩, hb⟩
        have Y1 := X4a.on hb
        have B1 := Lib.hid (BA.out.trans (hb.mono BA.out.size))
        have r0 := Y1.cell 0
        have r1 := Y1.cell 1
        have r2 := Y1.cell 2
        have r3 := Y1.cell 3
        have t0 := Y1.fr 0
        have t1 := Y1.fr 1
        have t2 := Y1.fr 2
        have t3 := Y1.fr 3
        simp only [List.getElem?_toArray, List.getElem?_cons_zero, List.getElem?_cons_succ] at r0 r1 r2 r3
        have zz := Y1.lt
        have hs2 : w.heap.size + 1 + 1 < (wr.alloc (.cells #[.int .i64 y1, .int .i64 y2, .slice yo yn yc, .int .i64 y4] 42)).heap.size := X4a.lt
        have FB := Lib.hid (setD_box Y1 (.int .i64 y1) (.int .i64 y2) (.slice u1 u2 u3) (.int .i64 y4))
        have BL := Lib.hid (setD_below (b := w.heap.size + 1 + 1) (B.out.trans (B1.out.mono B.out.size)) (by omega) (.int .i64 y1) (.int .i64 y2) (.slice u1 u2 u3) (.int .i64 y4))
        have FW := Lib.hid (setD_own ho (w.heap.size + 1 + 1) hs2 (.int .i64 y1) (.int .i64 y2) (.slice u1 u2 u3) (.int .i64 y4))
        clear Y1 ho hb hs2 X4a
        go_wp2_with fail
        have v0 := FB.out.cell 0
        have v1 := FB.out.cell 1
        have v2 := FB.out.cell 2
        have v3 := FB.out.cell 3
        simp at v0 v1 v2 v3
        refine bodyPost_ret (v := .tuple #[.agg #[.int .i64 y1, .int .i64 y2, .slice u1 u2 u3, .int .i64 y4], .bool true]) (by simp [results, Tryz.results14, go_sem, v0, v1, v2, v3]) rfl ?_
        rw [FA.out]
        exact ⟨⟨(y1, y2, (u1, u2, u3), y4), rfl, HZ.out.1, HZ.out.2.1, Row.of_own FW.out⟩, BL.out⟩
    · obtain rfl : k = n := by omega
      have FA := Lib.hid (show fo = none by
        rw [FO.out]
        refine findA_none fun j z hzz => ?_
        obtain ⟨u, hu1, hu2⟩ := HA.out.at j z hzz
        rw [← hu2.1]
        exact AL.out j u (by rw [← HN.out]; exact (List.getElem?_eq_some_iff.1 hu1).1) hu1)
      have Y1 := X4.out.on BE.out
      have r0 := Y1.cell 0
      have r1 := Y1.cell 1
      have r2 := Y1.cell 2
      have r3 := Y1.cell 3
      have t0 := Y1.fr 0
      have t1 := Y1.fr 1
      have t2 := Y1.fr 2
      have t3 := Y1.fr 3
      simp only [List.getElem?_toArray, List.getElem?_cons_zero, List.getElem?_cons_succ] at r0 r1 r2 r3
      have zz := Y1.lt
      have FB := Lib.hid (setD_box Y1 (.int .i64 0) (.int .i64 0) (.slice none 0 0) (.int .i64 0))
      have BL := Lib.hid (setD_below (b := w.heap.size + 1 + 1) (B.out.trans (BE.out.mono B.out.size)) (by omega) (.int .i64 0) (.int .i64 0) (.slice none 0 0) (.int .i64 0))
      clear Y1
      go_wp2_with fail
      have v0 := FB.out.cell 0
      have v1 := FB.out.cell 1
      have v2 := FB.out.cell 2
      have v3 := FB.out.cell 3
      simp at v0 v1 v2 v3
      refine bodyPost_ret (v := .tuple #[.agg #[.int .i64 0, .int .i64 0, .slice none 0 0, .int .i64 0], .bool false]) (by simp [results, Tryz.results14, go_sem, v0, v1, v2, v3]) rfl ?_
      rw [FA.out]
      exact ⟨rfl, BL.out⟩
end Go.Proofs.YtonoadjmglkhaaaGreat.Av

namespace Go.Proofs.YtonoadjmglkhaaaGreat.Av
open Go.RowKit Go.Sort Go.Proofs.YtonoadjmglkhaaaGreat Go.Proofs.YtonoadjmglkhaaaGreat.Rw Go.Proofs.YtonoadjmglkhaaaGreat.Nm Go.Proofs.YtonoadjmglkhaaaGreat.Pr Go.Proofs.YtonoadjmglkhaaaGreat.Bk

def forgetF (b : Br) (x : XID) (f : Int) : Br × Bool := match findA b.adv x with
  | none => (b, false)
  | some a => if a.par = f then ({ b with adv := b.adv.filter fun e => decide (e.id ≠ x), ent := b.ent.filter fun e => decide (e.tree ≠ x) }, true) else (b, false)
theorem filter_cut {al : List Ad} (hr : RiseA al) {k : Nat} {a : Ad} {x : XID} (hk : al[k]? = some a) (hx : a.id = x) : al.filter (fun e => decide (e.id ≠ x)) = cutAt al k := by
  subst hx
  unfold cutAt
  have h1 : al = al.take k ++ (a :: al.drop (k + 1)) := by
    have hlt := (List.getElem?_eq_some_iff.1 hk).1
    have he := (List.getElem?_eq_some_iff.1 hk).2
    rw [← he, List.getElem_cons_drop, List.take_append_drop]
  conv => lhs; rw [h1]
  rw [List.filter_append, List.filter_cons_of_neg (by simp)]
  have hp := List.pairwise_iff_getElem.1 hr
  have e1 : (al.take k).filter (fun e => decide (e.id ≠ a.id)) = al.take k := by
    rw [List.filter_eq_self]
    intro y hy
    obtain ⟨j, hj⟩ := List.mem_iff_getElem?.1 hy
    have hjl := (List.getElem?_eq_some_iff.1 hj).1
    rw [List.length_take] at hjl
    rw [List.getElem?_take_of_lt (by omega)] at hj
    have := riseK_lt hr (show j < k by omega) hj hk
    refine decide_eq_true fun e => ?_
    rw [e, lessI_irr] at this
    cases this
  have e2 : (al.drop (k + 1)).filter (fun e => decide (e.id ≠ a.id)) = al.drop (k + 1) := by
    rw [List.filter_eq_self]
    intro y hy
    obtain ⟨j, hj⟩ := List.mem_iff_getElem?.1 hy
    rw [List.getElem?_drop] at hj
    have := riseK_lt hr (show k < k + 1 + j by omega) hk hj
    refine decide_eq_true fun e => ?_
    rw [e, lessI_irr] at this
    cases this
  rw [e1, e2]
theorem forgetF_eq {b : Br} (hr : RiseA b.adv) (x : XID) (f : Int) : forgetF b x f = forgetB b x f := by
  unfold forgetF forgetB
  by_cases h : findI (b.adv.map Ad.id) x = -1
  · have hn : findA b.adv x = none := findA_none fun j a hj => findI_neg (key := Ad.id) h j a hj
    rw [hn]
    cases b.adv[(findI (b.adv.map Ad.id) x).toNat]? with
    | none => rfl
    | some a => simp only; rw [if_pos h]
  · obtain ⟨k, hk⟩ : ∃ k : Nat, findI (b.adv.map Ad.id) x = k := ⟨(findI (b.adv.map Ad.id) x).toNat, by have := findI_bd (b.adv.map Ad.id) x; omega⟩
    obtain ⟨g1, g2⟩ := findI_get hk
    rw [List.getElem?_map] at g1
    cases ha : b.adv[k]? with
    | none => rw [ha] at g1; cases g1
    | some a =>
      rw [ha] at g1
      have hx : a.id = x := Option.some.inj g1
      have hf : findA b.adv x = some a := findA_at ha hx fun j z hj hz => g2 j z.id hj (by rw [List.getElem?_map, hz]; rfl)
      rw [hf, hk, Int.toNat_natCast, ha]
      simp only
      rw [if_neg (show ¬ ((k : Int) = -1) by omega)]
      split
      · rw [filter_cut hr ha hx]
      · rfl
theorem all2_fil {α β : Type} {R : α → β → Prop} (p : α → Bool) (q : β → Bool) : ∀ {l : List α} {m : List β}, All2 R l m → (∀ a b, R a b → p a = q b) → All2 R (l.filter p) (m.filter q)
  | _, _, .nil, _ => .nil
  | _, _, .cons (a := a) (b := b) x t, h => by
    have e := h a b x
    rw [List.filter_cons, List.filter_cons, e]
    cases q b
    · exact all2_fil p q t h
    · exact .cons x (all2_fil p q t h)
set_option maxRecDepth 100000 in
set_option maxHeartbeats 32000000 in
theorem forget_any (b : Br) (x : XID) (f : Int) (nv av sv ev ov : Sl) (w : World) (h : BrIn w b nv av sv ev ov) (hf : Few b) (hp : FewP b) :
    Calls Tryz.prog 12 #[brv b.me nv av sv ev ov, idv x, .int .i64 f] w (LearnQ w (NearOwn w nv b.near) (forgetF b x f)) := by
  obtain ⟨no, nn, nc⟩ := nv
  obtain ⟨ao, an, ac⟩ := av
  obtain ⟨so, sn, sc⟩ := sv
  obtain ⟨eo, en, ec⟩ := ev
  obtain ⟨oo, on_, oc⟩ := ov
  obtain ⟨c, d⟩ := x
  obtain ⟨h0, h1, h2⟩ := two_new w #[.int .i64 b.me, .slice no nn nc, .slice ao an ac, .slice so sn sc, .slice eo en ec, .slice oo on_ oc] #[.int .i64 c, .int .i64 d] 29 37
  have h3 := newB ((w.alloc (.cells #[.int .i64 b.me, .slice no nn nc, .slice ao an ac, .slice so sn sc, .slice eo en ec, .slice oo on_ oc] 29)).alloc (.cells #[.int .i64 c, .int .i64 d] 37)) (.cells #[.int .i64 0, .slice none 0 0, .slice none 0 0, .slice none 0 0, .slice none 0 0, .slice none 0 0] 29)
  have h4 := box_new ((w.alloc (.cells #[.int .i64 b.me, .slice no nn nc, .slice ao an ac, .slice so sn sc, .slice eo en ec, .slice oo on_ oc] 29)).alloc (.cells #[.int .i64 c, .int .i64 d] 37)) #[.int .i64 0, .slice none 0 0, .slice none 0 0, .slice none 0 0, .slice none 0 0, .slice none 0 0] 29
  have hsz : ((w.alloc (.cells #[.int .i64 b.me, .slice no nn nc, .slice ao an ac, .slice so sn sc, .slice eo en ec, .slice oo on_ oc] 29)).alloc (.cells #[.int .i64 c, .int .i64 d] 37)).heap.size = w.heap.size + 1 + 1 := by simp
  rw [hsz] at h4
  have BB := Lib.hid (h0.trans (h3.mono h0.size))
  have X1 := Lib.hid (h1.on h3)
  have X2 := Lib.hid (h2.on h3)
  have X3 := Lib.hid h4
  have HH := Lib.hid h
  have HF := Lib.hid hf
  have HP := Lib.hid hp
  obtain ⟨la, ha1, ha2⟩ := h.adv
  have SW := Lib.hid (find_any b.me (.slice no nn nc) (.slice so sn sc) (.slice eo en ec) (.slice oo on_ oc) (ao, an, ac) la b.adv (c, d) _ (ha1.on BB.out) (ha2.mono fun _ _ q => q.on BB.out) hp.adv)
  obtain ⟨fa, hfa⟩ : ∃ fa, findA b.adv (c, d) = fa := ⟨_, rfl⟩
  rw [hfa] at SW
  have FA := Lib.hid hfa
  have x0 := X1.out.cell 0
  have x1 := X1.out.cell 1
  have x2 := X1.out.cell 2
  have x3 := X1.out.cell 3
  have x4 := X1.out.cell 4
  have x5 := X1.out.cell 5
  have d0 := X2.out.cell 0
  have d1 := X2.out.cell 1
  simp only [List.getElem?_toArray, List.getElem?_cons_zero, List.getElem?_cons_succ] at x0 x1 x2 x3 x4 x5 d0 d1
  clear h0 h1 h2 h3 h4 hsz h hf hp hfa ha1 ha2 la
  go_enter Tryz.func12, Tryz.ntmps12
  go_wp2_with fail
  generalize ((w.alloc (.cells #[.int .i64 b.me, .slice no nn nc, .slice ao an ac, .slice so sn sc, .slice eo en ec, .slice oo on_ oc] 29)).alloc (.cells #[.int .i64 c, .int .i64 d] 37)).alloc (.cells #[.int .i64 0, .slice none 0 0, .slice none 0 0, .slice none 0 0, .slice none 0 0, .slice none 0 0] 29) = W at *
  refine SW.out.mono ?_
  rintro e1 w1 ⟨hq, hb⟩
  have B1 := Lib.hid (BB.out.trans (hb.mono BB.out.size))
  have Z1 := Lib.hid (X1.out.on hb)
  have Z2 := Lib.hid (X2.out.on hb)
  have Z3 := Lib.hid (X3.out.on hb)
  clear SW hb x0 x1 x2 x3 x4 x5 d0 d1 X1 X2 X3
  cases fa with
  | none =>
    have LQ := Lib.hid (show forgetF b (c, d) f = (b, false) by unfold forgetF; rw [FA.out])
    subst hq
    have nb := newB w1 (.cells #[.int .i64 0, .int .i64 0, .slice none 0 0, .int .i64 0] 42)
    have B2 := Lib.hid (B1.out.trans (nb.mono B1.out.size))
    have Y1 := Z1.out.on nb
    have Y3 := Z3.out.on nb
    have x0 := Y1.cell 0
    have x1 := Y1.cell 1
    have x2 := Y1.cell 2
    have x3 := Y1.cell 3
    have x4 := Y1.cell 4
    have x5 := Y1.cell 5
    have z0 := Y3.cell 0
    have z1 := Y3.cell 1
    have z2 := Y3.cell 2
    have z3 := Y3.cell 3
    have z4 := Y3.cell 4
    have z5 := Y3.cell 5
    have t0 := Y3.fr 0
    have t1 := Y3.fr 1
    have t2 := Y3.fr 2
    have t3 := Y3.fr 3
    have t4 := Y3.fr 4
    have t5 := Y3.fr 5
    simp only [List.getElem?_toArray, List.getElem?_cons_zero, List.getElem?_cons_succ] at x0 x1 x2 x3 x4 x5 z0 z1 z2 z3 z4 z5
    have zz := Y3.lt
    have FB := Lib.hid (setB_box Y3 (.int .i64 b.me) (.slice no nn nc) (.slice ao an ac) (.slice so sn sc) (.slice eo en ec) (.slice oo on_ oc))
    have FL := Lib.hid (setB_below (b := w.heap.size + 1 + 1) B2.out (by omega) (.int .i64 b.me) (.slice no nn nc) (.slice ao an ac) (.slice so sn sc) (.slice eo en ec) (.slice oo on_ oc))
    clear Y1 Y3 nb
    go_wp2_with fail
    have v0 := FB.out.cell 0
    have v1 := FB.out.cell 1
    have v2 := FB.out.cell 2
    have v3 := FB.out.cell 3
    have v4 := FB.out.cell 4
    have v5 := FB.out.cell 5
    simp at v0 v1 v2 v3 v4 v5
    refine bodyPost_ret (v := .tuple #[.agg #[.int .i64 b.me, .slice no nn nc, .slice ao an ac, .slice so sn sc, .slice eo en ec, .slice oo on_ oc], .bool false]) (by simp [results, Tryz.results12, go_sem, v0, v1, v2, v3, v4, v5]) rfl ?_
    rw [LQ.out]
    exact ⟨⟨(no, nn, nc), (ao, an, ac), (so, sn, sc), (eo, en, ec), (oo, on_, oc), rfl, HH.out.on FL.out, fun h => h.on FL.out⟩, FL.out⟩
  | some a =>
    obtain ⟨⟨r1, r2, ⟨ro, rn, rc⟩, r4⟩, rfl, hr1, hr2, hr3⟩ := hq
    have nb := newB w1 (.cells #[.int .i64 r1, .int .i64 r2, .slice ro rn rc, .int .i64 r4] 42)
    have bx := box_new w1 #[.int .i64 r1, .int .i64 r2, .slice ro rn rc, .int .i64 r4] 42
    have b3 := bx.cell 3
    have B2 := Lib.hid (B1.out.trans (nb.mono B1.out.size))
    have Y1 := Z1.out.on nb
    have Y2 := Z2.out.on nb
    have Y3 := Z3.out.on nb
    have AP := Lib.hid (show a.par = r4 from hr2.symm)
    have x0 := Y1.cell 0
    have x1 := Y1.cell 1
    have x2 := Y1.cell 2
    have x3 := Y1.cell 3
    have x4 := Y1.cell 4
    have x5 := Y1.cell 5
    have z0 := Y3.cell 0
    have z1 := Y3.cell 1
    have z2 := Y3.cell 2
    have z3 := Y3.cell 3
    have z4 := Y3.cell 4
    have z5 := Y3.cell 5
    have t0 := Y3.fr 0
    have t1 := Y3.fr 1
    have t2 := Y3.fr 2
    have t3 := Y3.fr 3
    have t4 := Y3.fr 4
    have t5 := Y3.fr 5
    simp only [List.getElem?_toArray, List.getElem?_cons_zero, List.getElem?_cons_succ] at x0 x1 x2 x3 x4 x5 z0 z1 z2 z3 z4 z5
    simp only [List.getElem?_toArray, List.getElem?_cons_zero, List.getElem?_cons_succ] at b3
    have zz := Y3.lt
    by_cases hpf : r4 = f
    · have LQ := Lib.hid (show forgetF b (c, d) f = ({ b with adv := b.adv.filter fun e => decide (e.id ≠ (c, d)), ent := b.ent.filter fun e => decide (e.tree ≠ (c, d)) }, true) by unfold forgetF; rw [FA.out]; simp only; rw [if_pos (by rw [AP.out]; exact hpf)])
      have hne : (r4 != f) = false := by simp [hpf]
      have Z1 := Lib.hid Y1
      have Z2 := Lib.hid Y2
      have Z3 := Lib.hid Y3
      have L1 := Lib.hid Y1.lt
      have L3 := Lib.hid (show w.heap.size + 1 < (w1.alloc (.cells #[.int .i64 r1, .int .i64 r2, .slice ro rn rc, .int .i64 r4] 42)).heap.size from Y2.lt)
      clear Y1 Y2 Y3 nb bx z0 z1 z2 z3 z4 z5 t0 t1 t2 t3 t4 t5 zz hr1 hr2 hr3 hpf
      go_wp2_with fail
      clear b3 x0 x1 x2 x3 x4 x5 hne
      generalize w1.alloc (.cells #[.int .i64 r1, .int .i64 r2, .slice ro rn rc, .int .i64 r4] 42) = w1a at *
      refine (acopy_any b (no, nn, nc) (ao, an, ac) (so, sn, sc) (eo, en, ec) (oo, on_, oc) w w1a B2.out HH.out HF.out HP.out).mono ?_
      rintro e2 w2 ⟨⟨⟨p1, q1, s1⟩, ⟨p2, q2, s2⟩, ⟨p3, q3, s3⟩, ⟨p4, q4, s4⟩, ⟨p5, q5, s5⟩, rfl, cp⟩, hb2⟩
      have V1 := Z1.out.on hb2
      have V2 := Lib.hid (Z2.out.on hb2)
      have V3 := Lib.hid (Z3.out.on hb2)
      have x0 := V1.cell 0
      have x1 := V1.cell 1
      have x2 := V1.cell 2
      have x3 := V1.cell 3
      have x4 := V1.cell 4
      have x5 := V1.cell 5
      have t0 := V1.fr 0
      have t1 := V1.fr 1
      have t2 := V1.fr 2
      have t3 := V1.fr 3
      have t4 := V1.fr 4
      have t5 := V1.fr 5
      simp only [List.getElem?_toArray, List.getElem?_cons_zero, List.getElem?_cons_succ] at x0 x1 x2 x3 x4 x5
      have zz := V1.lt
      have FB := Lib.hid (setB_box V1 (.int .i64 b.me) (.slice p1 q1 s1) (.slice p2 q2 s2) (.slice p3 q3 s3) (.slice p4 q4 s4) (.slice p5 q5 s5))
      have FC := Lib.hid (cp.but (but_setB w2 w.heap.size (.int .i64 b.me) (.slice p1 q1 s1) (.slice p2 q2 s2) (.slice p3 q3 s3) (.slice p4 q4 s4) (.slice p5 q5 s5)) V1)
      have FL := Lib.hid (setB_below (b := w.heap.size) (B2.out.trans (hb2.mono B2.out.size)) (Nat.le_refl _) (.int .i64 b.me) (.slice p1 q1 s1) (.slice p2 q2 s2) (.slice p3 q3 s3) (.slice p4 q4 s4) (.slice p5 q5 s5))
      have F2 := Lib.hid ((but_setB w2 w.heap.size (.int .i64 b.me) (.slice p1 q1 s1) (.slice p2 q2 s2) (.slice p3 q3 s3) (.slice p4 q4 s4) (.slice p5 q5 s5)).box V2.out (by omega))
      have F3 := Lib.hid ((but_setB w2 w.heap.size (.int .i64 b.me) (.slice p1 q1 s1) (.slice p2 q2 s2) (.slice p3 q3 s3) (.slice p4 q4 s4) (.slice p5 q5 s5)).box V3.out (by omega))
      have SZ := Lib.hid (show w1a.heap.size ≤ (setB w2 w.heap.size (.int .i64 b.me) (.slice p1 q1 s1) (.slice p2 q2 s2) (.slice p3 q3 s3) (.slice p4 q4 s4) (.slice p5 q5 s5)).heap.size by have := hb2.size; simp; omega)
      have L2 := Lib.hid (show w.heap.size < w1a.heap.size from L1.out)
      clear V1 V2 V3 cp hb2 Z1 Z2 Z3 L1
      go_upto_region 5 with fail
      clear x0 x1 x2 x3 x4 x5 t0 t1 t2 t3 t4 t5 zz
      unfold setB at FB FC FL F2 F3 SZ
      generalize ((((((w2).setCell ⟨w.heap.size, 0, none⟩ (.int .i64 b.me)).setCell ⟨w.heap.size, 1, none⟩ (.slice p1 q1 s1)).setCell ⟨w.heap.size, 2, none⟩ (.slice p2 q2 s2)).setCell ⟨w.heap.size, 3, none⟩ (.slice p3 q3 s3)).setCell ⟨w.heap.size, 4, none⟩ (.slice p4 q4 s4)).setCell ⟨w.heap.size, 5, none⟩ (.slice p5 q5 s5) = w3 at *
      obtain ⟨la, hla1, hla2⟩ := FC.out.adv
      have DL := Lib.hid (delD_any w1a.heap.size (p2, q2, s2) la (w.heap.size + 1) c d w3 hla1 F2.out SZ.out)
      have TG := Lib.hid (tag_own hla1)
      have HL2 := Lib.hid hla2
      have x2 := FB.out.cell 2
      simp only [List.getElem?_toArray, List.getElem?_cons_zero, List.getElem?_cons_succ] at x2
      clear hla1 hla2
      go_wp2_with fail
      refine DL.out.mono ?_
      rintro e4 w4 ⟨⟨⟨t1, t2, t3⟩, rfl, hown⟩, hbel, hoff⟩
      have CP2 := Lib.hid (FC.out.offD (av' := (t1, t2, t3)) (al := b.adv.filter fun e => decide (e.id ≠ (c, d))) hoff ⟨_, hown, all2_fil _ _ (HL2.out.mono fun _ _ q => q.off hoff TG.out (by decide)) fun y z q => by
        show decide (keyD y ≠ (c, d)) = decide (z.id ≠ (c, d))
        rw [show keyD y = z.id from q.1]⟩)
      have G1 := hoff.box FB.out TG.out (by decide)
      have G2 := hoff.box F2.out TG.out (by decide)
      have G3 := hoff.box F3.out TG.out (by decide)
      have M1 := Lib.hid (show Box (w4.setCell ⟨w.heap.size, 2, none⟩ (.slice t1 t2 t3)) w.heap.size #[.int .i64 b.me, .slice p1 q1 s1, .slice t1 t2 t3, .slice p3 q3 s3, .slice p4 q4 s4, .slice p5 q5 s5] 29 by simpa using box_set (k := 2) G1 (.slice t1 t2 t3))
      have M2 := Lib.hid ((but_cell w4 w.heap.size 2 (.slice t1 t2 t3)).box G2 (by omega))
      have M3 := Lib.hid ((but_cell w4 w.heap.size 2 (.slice t1 t2 t3)).box G3 (by omega))
      have MC := Lib.hid (CP2.out.but (but_cell w4 w.heap.size 2 (.slice t1 t2 t3)) G1)
      have ML := Lib.hid (show Below w.heap.size w (w4.setCell ⟨w.heap.size, 2, none⟩ (.slice t1 t2 t3)) from (FL.out.trans (hbel.mono (Nat.le_of_lt L2.out))).setCell (p := ⟨w.heap.size, 2, none⟩) (Nat.le_refl _) _)
      have MZ := Lib.hid (show w1a.heap.size ≤ (w4.setCell ⟨w.heap.size, 2, none⟩ (.slice t1 t2 t3)).heap.size by have := SZ.out; have := hbel.size; simp; omega)
      clear x2
      have x2 := G1.cell 2
      have f2 := G1.fr 2
      have zz := G1.lt
      simp only [List.getElem?_toArray, List.getElem?_cons_zero, List.getElem?_cons_succ] at x2
      clear hown hbel hoff G1 G2 G3 CP2 FB FC F2 F3 FL SZ HL2 TG DL la
      go_upto_region 6 with fail
      clear x2 f2 zz
      generalize w4.setCell ⟨w.heap.size, 2, none⟩ (.slice t1 t2 t3) = w5 at *
      obtain ⟨le, hle1, hle2⟩ := MC.out.ent
      replace hle2 : All2 (EnM w w1a.heap.size w5) le b.ent := hle2
      have DL := Lib.hid (delN_any w1a.heap.size (p4, q4, s4) le (w.heap.size + 1) c d w5 hle1 M2.out MZ.out)
      have TG := Lib.hid (tag_own hle1)
      have HL2 := Lib.hid hle2
      have x4 := M1.out.cell 4
      simp only [List.getElem?_toArray, List.getElem?_cons_zero, List.getElem?_cons_succ] at x4
      clear hle1 hle2
      go_wp2_with fail
      refine DL.out.mono ?_
      rintro e5 w6 ⟨⟨⟨r1, r2, r3⟩, rfl, hown⟩, hbel, hoff⟩
      have CP4 := Lib.hid (MC.out.offN (ev' := (r1, r2, r3)) (el := b.ent.filter fun e => decide (e.tree ≠ (c, d))) hoff ⟨_, hown, all2_fil _ _ (HL2.out.mono fun _ _ q => q.off hoff TG.out (by decide)) fun y z q => by
        show decide (keyT y ≠ (c, d)) = decide (z.tree ≠ (c, d))
        rw [show keyT y = z.tree from q.1]⟩)
      have K1 := hoff.box M1.out TG.out (by decide)
      have K3 := hoff.box M3.out TG.out (by decide)
      have KL := ML.out.trans (hbel.mono (Nat.le_of_lt L2.out))
      have U1 := Lib.hid (show Box (w6.setCell ⟨w.heap.size, 4, none⟩ (.slice r1 r2 r3)) w.heap.size #[.int .i64 b.me, .slice p1 q1 s1, .slice t1 t2 t3, .slice p3 q3 s3, .slice r1 r2 r3, .slice p5 q5 s5] 29 by simpa using box_set (k := 4) K1 (.slice r1 r2 r3))
      have U3 := Lib.hid ((but_cell w6 w.heap.size 4 (.slice r1 r2 r3)).box K3 (by omega))
      have UC := Lib.hid (CP4.out.but (but_cell w6 w.heap.size 4 (.slice r1 r2 r3)) K1)
      have UL := Lib.hid (show Below w.heap.size w (w6.setCell ⟨w.heap.size, 4, none⟩ (.slice r1 r2 r3)) from KL.setCell (p := ⟨w.heap.size, 4, none⟩) (Nat.le_refl _) _)
      clear x4
      have x4 := K1.cell 4
      have f4 := K1.fr 4
      have zz := K1.lt
      simp only [List.getElem?_toArray, List.getElem?_cons_zero, List.getElem?_cons_succ] at x4
      clear hown hbel hoff K1 K3 KL CP4 MC M1 M2 M3 ML MZ HL2 TG DL le
      go_upto_region 7 with fail
      clear x4 f4 zz
      generalize w6.setCell ⟨w.heap.size, 4, none⟩ (.slice r1 r2 r3) = w7 at *
      have Q1 := U1.out
      have Q3 := U3.out
      have x0 := Q1.cell 0
      have x1 := Q1.cell 1
      have x2 := Q1.cell 2
      have x3 := Q1.cell 3
      have x4 := Q1.cell 4
      have x5 := Q1.cell 5
      have z0 := Q3.cell 0
      have z1 := Q3.cell 1
      have z2 := Q3.cell 2
      have z3 := Q3.cell 3
      have z4 := Q3.cell 4
      have z5 := Q3.cell 5
      have f0 := Q3.fr 0
      have f1 := Q3.fr 1
      have f2 := Q3.fr 2
      have f3 := Q3.fr 3
      have f4 := Q3.fr 4
      have f5 := Q3.fr 5
      simp only [List.getElem?_toArray, List.getElem?_cons_zero, List.getElem?_cons_succ] at x0 x1 x2 x3 x4 x5 z0 z1 z2 z3 z4 z5
      have zz := Q3.lt
      have FB := Lib.hid (setB_box Q3 (.int .i64 b.me) (.slice p1 q1 s1) (.slice t1 t2 t3) (.slice p3 q3 s3) (.slice r1 r2 r3) (.slice p5 q5 s5))
      have FC := Lib.hid (UC.out.but (but_setB w7 (w.heap.size + 1 + 1) (.int .i64 b.me) (.slice p1 q1 s1) (.slice t1 t2 t3) (.slice p3 q3 s3) (.slice r1 r2 r3) (.slice p5 q5 s5)) Q3)
      have FL := Lib.hid (setB_below (b := w.heap.size + 1 + 1) UL.out (by omega) (.int .i64 b.me) (.slice p1 q1 s1) (.slice t1 t2 t3) (.slice p3 q3 s3) (.slice r1 r2 r3) (.slice p5 q5 s5))
      clear Q1 Q3 U1 U3 UC UL
      go_wp2_with fail
      have v0 := FB.out.cell 0
      have v1 := FB.out.cell 1
      have v2 := FB.out.cell 2
      have v3 := FB.out.cell 3
      have v4 := FB.out.cell 4
      have v5 := FB.out.cell 5
      simp at v0 v1 v2 v3 v4 v5
      refine bodyPost_ret (v := .tuple #[.agg #[.int .i64 b.me, .slice p1 q1 s1, .slice t1 t2 t3, .slice p3 q3 s3, .slice r1 r2 r3, .slice p5 q5 s5], .bool true]) (by simp [results, Tryz.results12, go_sem, v0, v1, v2, v3, v4, v5]) rfl ?_
      rw [LQ.out]
      exact ⟨⟨(p1, q1, s1), (t1, t2, t3), (p3, q3, s3), (r1, r2, r3), (p5, q5, s5), rfl, FC.out.br FL.out, fun _ => ⟨_, FC.out.near⟩⟩, FL.out⟩
    · have LQ := Lib.hid (show forgetF b (c, d) f = (b, false) by unfold forgetF; rw [FA.out]; simp only; rw [if_neg (by rw [AP.out]; exact hpf)])
      have hne : (r4 != f) = true := by simp [hpf]
      have FB := Lib.hid (setB_box Y3 (.int .i64 b.me) (.slice no nn nc) (.slice ao an ac) (.slice so sn sc) (.slice eo en ec) (.slice oo on_ oc))
      have FL := Lib.hid (setB_below (b := w.heap.size + 1 + 1) B2.out (by omega) (.int .i64 b.me) (.slice no nn nc) (.slice ao an ac) (.slice so sn sc) (.slice eo en ec) (.slice oo on_ oc))
      clear Y1 Y2 Y3 nb bx hr1 hr2 hr3 hpf
      go_wp2_with fail
      have v0 := FB.out.cell 0
      have v1 := FB.out.cell 1
      have v2 := FB.out.cell 2
      have v3 := FB.out.cell 3
      have v4 := FB.out.cell 4
      have v5 := FB.out.cell 5
      simp at v0 v1 v2 v3 v4 v5
      refine bodyPost_ret (v := .tuple #[.agg #[.int .i64 b.me, .slice no nn nc, .slice ao an ac, .slice so sn sc, .slice eo en ec, .slice oo on_ oc], .bool false]) (by simp [results, Tryz.results12, go_sem, v0, v1, v2, v3, v4, v5]) rfl ?_
      rw [LQ.out]
      exact ⟨⟨(no, nn, nc), (ao, an, ac), (so, sn, sc), (eo, en, ec), (oo, on_, oc), rfl, HH.out.on FL.out, fun h => h.on FL.out⟩, FL.out⟩
end Go.Proofs.YtonoadjmglkhaaaGreat.Av
