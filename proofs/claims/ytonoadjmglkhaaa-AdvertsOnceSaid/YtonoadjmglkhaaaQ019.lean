/-
  Copy of package adverts: the same in new memory. Conditions: at most 900 of each, each predicate of at most 900 constraints.
  The order of IDs: cmp.Compare, cmp.Or, byID and what stands on it. No condition.
-/
import Derived.Test.YtonoadjmglkhaaaQ016
import Derived.Test.YtonoadjmglkhaaaQ017
import Derived.Test.YtonoadjmglkhaaaQ018
import Derived.Test.YtonoadjmglkhaaaQ010
import Derived.Test.YtonoadjmglkhaaaQ002
import Derived.Deep.RegionLaw
import Derived.Lib.QuietBelow
import Derived.BigQuiet
namespace Go.Proofs.Ytonoadjmglkhaaa.Av
open Go.RowKit Go.Sort Go.Proofs.Ytonoadjmglkhaaa Go.Proofs.Ytonoadjmglkhaaa.Rw Go.Proofs.Ytonoadjmglkhaaa.Nm Go.Proofs.Ytonoadjmglkhaaa.Pr Go.Proofs.Ytonoadjmglkhaaa.Bk

/-- Each predicate of a broker is short. -/
structure FewP (b : Br) : Prop where
  adv : ∀ a ∈ b.adv, a.p.length ≤ 900
  ent : ∀ a ∈ b.ent, a.p.length ≤ 900
  own : ∀ a ∈ b.own, a.p.length ≤ 900
theorem own_row_len {α : Type} {E : Ek α} {W : World} {B n cap : Nat} {o : Option Addr} {l : List α} (h : Own E W B (.slice o n cap) l) : l.length = n := by
  obtain ⟨_, _, hv⟩ := (Row.of_own h).len
  have : n = l.length := by simpa using congrArg (fun v => match v with | Value.slice _ n _ => n | _ => 0) hv
  exact this.symm
theorem own_some {α : Type} {E : Ek α} {W : World} {B n cap : Nat} {o : Option Addr} {l : List α} (h : Own E W B (.slice o n cap) l) (hn : 0 < n) : ∃ g, o = some ⟨g, 0, none⟩ ∧ B ≤ g := by
  have hl := own_row_len h
  rcases own_open h with ⟨_, h2⟩ | ⟨g, c', cur, h1, h2, _⟩
  · rw [h2] at hl; simp at hl; omega
  · exact ⟨g, by simp at h1; exact h1.1, h2⟩
theorem but_setB (w : World) (b : Nat) (a0 a1 a2 a3 a4 a5 : Value) : But b w (setB w b a0 a1 a2 a3 a4 a5) :=
  (((but_cell _ b _ _).trans (but_cell _ b _ _)).trans ((but_cell _ b _ _).trans (but_cell _ b _ _))).trans ((but_cell _ b _ _).trans (but_cell _ b _ _))
/-- The end: what Copy hands back. -/
theorem Cs.done {w0 w wr : World} {b : Br} {nv av sv ev ov : Sl} (h : Cs w0 w wr b nv av sv ev ov) (a0 a1 a2 a3 a4 a5 : Value) : Cp w0 w.heap.size (setB wr (w.heap.size + 1) a0 a1 a2 a3 a4 a5) b nv av sv ev ov ∧ Below w.heap.size w (setB wr (w.heap.size + 1) a0 a1 a2 a3 a4 a5) :=
  ⟨Cp.but ⟨h.near, h.seen, h.adv, h.ent, h.own⟩ (but_setB wr (w.heap.size + 1) a0 a1 a2 a3 a4 a5) h.bz, setB_below h.bel (by omega) a0 a1 a2 a3 a4 a5⟩
set_option maxRecDepth 100000 in
set_option maxHeartbeats 32000000 in
theorem acopy_any (b : Br) (nv av sv ev ov : Sl) (w0 w : World) (hw0 : Below w0.heap.size w0 w) (h : BrIn w0 b nv av sv ev ov) (hf : Few b) (hp : FewP b) :
    Calls Try.prog 15 #[brv b.me nv av sv ev ov] w fun e w' => (∃ nv' av' sv' ev' ov' : Sl, e = .returned (brv b.me nv' av' sv' ev' ov') ∧ Cp w0 w.heap.size w' b nv' av' sv' ev' ov') ∧ Below w.heap.size w w' := by
  obtain ⟨no, nn, nc⟩ := nv
  obtain ⟨ao, an, ac⟩ := av
  obtain ⟨so, sn, sc⟩ := sv
  obtain ⟨eo, en, ec⟩ := ev
  obtain ⟨oo, on_, oc⟩ := ov
  obtain ⟨la, ha1, ha2⟩ := h.adv
  obtain ⟨le, he1, he2⟩ := h.ent
  obtain ⟨lo_, ho1, ho2⟩ := h.own
  have HA := Lib.hid ha2
  have HE := Lib.hid he2
  have HO := Lib.hid ho2
  have R0 := Lib.hid (h.near.on hw0)
  have R1 := Lib.hid (ha1.on hw0)
  have R2 := Lib.hid (h.seen.on hw0)
  have R3 := Lib.hid (he1.on hw0)
  have R4 := Lib.hid (ho1.on hw0)
  have W0 := Lib.hid hw0
  have HP := Lib.hid hp
  have LL0 := Lib.hid hf.near
  have LL1 := Lib.hid (show la.length ≤ 900 by rw [ha2.len]; exact hf.adv)
  have LL2 := Lib.hid hf.seen
  have LL3 := Lib.hid (show le.length ≤ 900 by rw [he2.len]; exact hf.ent)
  have LL4 := Lib.hid (show lo_.length ≤ 900 by rw [ho2.len]; exact hf.own)
  obtain ⟨h0, h1, h2⟩ := two_new w #[.int .i64 b.me, .slice no nn nc, .slice ao an ac, .slice so sn sc, .slice eo en ec, .slice oo on_ oc] #[.int .i64 0, .slice none 0 0, .slice none 0 0, .slice none 0 0, .slice none 0 0, .slice none 0 0] 33 33
  have B0 := Lib.hid h0
  have XB := Lib.hid h1
  have ZB := Lib.hid h2
  clear h0 h1 h2 h hf hp hw0 ha1 ha2 he1 he2 ho1 ho2
  go_enter Try.func15, Try.ntmps15
  go_upto_region 1 with fail
  generalize (w.alloc (.cells #[.int .i64 b.me, .slice no nn nc, .slice ao an ac, .slice so sn sc, .slice eo en ec, .slice oo on_ oc] 33)).alloc (.cells #[.int .i64 0, .slice none 0 0, .slice none 0 0, .slice none 0 0, .slice none 0 0, .slice none 0 0] 33) = W at *
  refine cp1 _ W w.heap.size b.me (.slice ao an ac) (.slice eo en ec) (.slice oo on_ oc) no nn nc b.near so sn sc b.seen _ _ _ _ _ _ _ _ _ _ _ _ _ _ _ _ _ _ _ _ _ _ _ _ _ _ _ _ _ _ _ _ _ _ _ _ _ _ _ _ _ _ _ _ _ _ _ _ _ _ _ _ _ _ _ _ _ _ _ _ _ _ _ _ _ _ _ _ _ _ _ _ _ _ _ _ _ _ _ _ _ XB.out (R0.out.on B0.out) (R2.out.on B0.out) LL0.out LL2.out ?_
  intro x1 v6 v7 v8 v9 v10 v11 v12 v13 p1 q1 s1 p3 q3 s3 hb1 hn1 hs1 hbel1 hsame1
  have B1 := Lib.hid (B0.out.trans (hbel1 _ (Nat.le_refl _)))
  have S1 := Lib.hid (show W.heap.size ≤ x1.heap.size from (hbel1 _ (Nat.le_refl _)).size)
  have ZB1 := Lib.hid (show Box x1 (w.heap.size + 1) _ _ from (hsame1 _ ZB.out.lt (by omega)).trans ZB.out)
  have XB1 := Lib.hid hb1
  have N1 := Lib.hid (own_fewer hn1 B0.out.size)
  have J1 := Lib.hid (own_fewer hs1 B0.out.size)
  clear hb1 hn1 hs1 hbel1 hsame1 XB ZB
  go_upto_region 2 with fail
  refine cp2 _ x1 w.heap.size b.me (.slice p1 q1 s1) (.slice p3 q3 s3) ao an ac la eo en ec le oo on_ oc lo_ _ _ _ _ _ _ _ _ _ _ _ _ _ _ _ _ _ _ _ _ _ _ _ _ _ _ _ _ _ _ _ _ _ _ _ _ _ _ _ _ _ _ _ _ _ _ _ _ _ _ _ _ _ _ _ _ _ _ _ _ _ _ _ _ _ _ _ _ _ _ _ _ _ _ _ _ _ _ _ _ _ XB1.out (R1.out.on B1.out) (R3.out.on B1.out) (R4.out.on B1.out) LL1.out LL3.out LL4.out ?_
  intro x2 v14 v15 v16 v17 v18 v19 v20 v21 v22 v23 v24 v25 p2 q2 s2 p4 q4 s4 p5 q5 s5 hb2 ha2 he2 ho2 hbel2 hsame2
  have CS := Lib.hid (show Cs w0 w x2 b (p1, q1, s1) (p2, q2, s2) (p3, q3, s3) (p4, q4, s4) (p5, q5, s5) from {
    bel := B1.out.trans (hbel2 _ (Nat.le_refl _))
    bx := hb2
    bz := (hsame2 _ ZB1.out.lt (by omega)).trans ZB1.out
    near := But.own ⟨hsame2, (hbel2 _ (Nat.le_refl _)).size⟩ N1.out XB1.out (by decide)
    seen := But.own ⟨hsame2, (hbel2 _ (Nat.le_refl _)).size⟩ J1.out XB1.out (by decide)
    adv := ⟨la, own_fewer ha2 B1.out.size, HA.out.mono fun _ _ q => ⟨q.1, q.2.1, Or.inl q.2.2⟩⟩
    ent := ⟨le, own_fewer he2 B1.out.size, HE.out.mono fun _ _ q => ⟨q.1, q.2.1, q.2.2.1, q.2.2.2.1, Or.inl q.2.2.2.2⟩⟩
    own := ⟨lo_, own_fewer ho2 B1.out.size, HO.out.mono fun _ _ q => ⟨q.1, Or.inl q.2⟩⟩ })
  have Q2 := Lib.hid (show q2 ≤ 900 from by rw [← own_row_len ha2]; exact LL1.out)
  have Q4 := Lib.hid (show q4 ≤ 900 from by rw [← own_row_len he2]; exact LL3.out)
  have Q5 := Lib.hid (show q5 ≤ 900 from by rw [← own_row_len ho2]; exact LL4.out)
  clear hb2 ha2 he2 ho2 hbel2 hsame2 XB1 ZB1 N1 J1 B1 S1 R0 R1 R2 R3 R4 HA HE HO LL0 LL1 LL2 LL3 LL4 B0
  have cf2 := CS.out.bx.cell 2
  simp only [List.getElem?_toArray, List.getElem?_cons_zero, List.getElem?_cons_succ] at cf2
  go_wp2
  go_loopw [29] (fun i wr => ∃ k : Nat, k ≤ q2 ∧ i = .int .i64 k ∧ Cs w0 w wr b (p1, q1, s1) (p2, q2, s2) (p3, q3, s3) (p4, q4, s4) (p5, q5, s5)) (fun i _ => q2 - (intOf i).toNat)
  case atStart => exact ⟨0, Nat.zero_le _, rfl, CS.out⟩
  case round =>
    obtain ⟨k, hk, rfl, hcs⟩ := hrel
    have CS := Lib.hid hcs
    have hq := Q2.out
    clear hcs
    by_cases hlt : k < q2
    · obtain ⟨l, hl, hA⟩ := CS.out.adv
      have hln : l.length = q2 := own_row_len hl
      obtain ⟨g, rfl, hBg⟩ : ∃ g, p2 = some ⟨g, 0, none⟩ ∧ w.heap.size ≤ g := own_some hl (show 0 < q2 by omega)
      obtain ⟨y, hy⟩ : ∃ y, l[k]? = some y := ⟨_, List.getElem?_eq_getElem (by omega)⟩
      obtain ⟨a, ha⟩ : ∃ a, b.adv[k]? = some a := ⟨_, List.getElem?_eq_getElem (by have h := hA.len; have h2 : l.length = q2 := hln; omega)⟩
      obtain ⟨y', hy', hym⟩ := hA.at k a ha
      rw [hy] at hy'
      obtain rfl := Option.some.inj hy'
      obtain ⟨y1, y2, ⟨yo, yn, yc⟩, y4⟩ := y
      have HW := Lib.hid hl
      have HAA := Lib.hid hA
      have HYM := Lib.hid hym
      have HYY := Lib.hid hy
      have HAK := Lib.hid ha
      have HBG := Lib.hid hBg
      have hw3 : IntKind.i64.wrap ((k : Int) + 1) = (k : Int) + 1 := IntWalk.i64_in _ (by omega)
      clear hl hA hln hy ha hy' hym hBg cf2
      go_upto_region 6 with fail
      refine cp6 _ wr w.heap.size l w.heap.size b.me (.slice p1 q1 s1) (.slice p3 q3 s3) (.slice p4 q4 s4) (.slice p5 q5 s5) g q2 s2 k y1 y2 yo yn yc y4 a.p _ _ _ _ _ _ _ _ _ _ _ _ _ _ _ _ _ _ _ _ _ _ _ _ _ _ _ _ _ _ _ _ _ _ _ _ _ _ _ _ _ _ _ _ _ _ _ _ _ _ _ _ _ _ _ _ _ _ _ _ _ _ _ _ _ _ _ _ _ _ _ _ _ _ _ _ _ _ _ _ CS.out.bx HW.out HYY.out (HYM.out.2.2.row (W0.out.trans (CS.out.bel.mono W0.out.size))) (HP.out.adv a (List.mem_of_getElem? HAK.out)) ?_
      intro x v32 v33 v34 v35 v36 v37 v38 v39 v40 v41 t1 t2 t3 hC hO hBut hBel
      have CS2 := Lib.hid (show Cs w0 w x b (p1, q1, s1) (some ⟨g, 0, none⟩, q2, s2) (p3, q3, s3) (p4, q4, s4) (p5, q5, s5) from by
        obtain ⟨cur, hg⟩ := own_tag HW.out
        exact CS.out.setD HW.out hO hBut (CS.out.bel.trans (hBel _ HBG.out CS.out.bel.size)) (All2.set k _ a (HAA.out.mono fun _ _ q => q.but hBut hg (by decide)) HAK.out ⟨HYM.out.1, HYM.out.2.1, Or.inr (own_fewer hC CS.out.bel.size)⟩))
      clear hC hO hBut hBel CS HW HAA HYM HYY HAK HBG
      go_wp2
      go_roundw
      case rel => exact ⟨k + 1, by omega, by go_num, CS2.out⟩
      case measure => simp [intOf]; omega
    · obtain rfl : q2 = k := by omega
      have cf4 := CS.out.bx.cell 4
      simp only [List.getElem?_toArray, List.getElem?_cons_zero, List.getElem?_cons_succ] at cf4
      clear hlt
      go_wp2
      go_loopw [46] (fun i wr => ∃ k : Nat, k ≤ q4 ∧ i = .int .i64 k ∧ Cs w0 w wr b (p1, q1, s1) (p2, q2, s2) (p3, q3, s3) (p4, q4, s4) (p5, q5, s5)) (fun i _ => q4 - (intOf i).toNat)
      case atStart => exact ⟨0, Nat.zero_le _, rfl, CS.out⟩
      case round =>
        obtain ⟨k, hk, rfl, hcs⟩ := hrel
        have CS := Lib.hid hcs
        have hq := Q4.out
        clear hcs
        by_cases hlt : k < q4
        · obtain ⟨l, hl, hA⟩ := CS.out.ent
          have hln : l.length = q4 := own_row_len hl
          obtain ⟨g, rfl, hBg⟩ : ∃ g, p4 = some ⟨g, 0, none⟩ ∧ w.heap.size ≤ g := own_some hl (show 0 < q4 by omega)
          obtain ⟨y, hy⟩ : ∃ y, l[k]? = some y := ⟨_, List.getElem?_eq_getElem (by omega)⟩
          obtain ⟨a, ha⟩ : ∃ a, b.ent[k]? = some a := ⟨_, List.getElem?_eq_getElem (by have h := hA.len; have h2 : l.length = q4 := hln; omega)⟩
          obtain ⟨y', hy', hym⟩ := hA.at k a ha
          rw [hy] at hy'
          obtain rfl := Option.some.inj hy'
          obtain ⟨y1, y2, y3, y4, ⟨yo, yn, yc⟩, y6, y7⟩ := y
          have HW := Lib.hid hl
          have HAA := Lib.hid hA
          have HYM := Lib.hid hym
          have HYY := Lib.hid hy
          have HAK := Lib.hid ha
          have HBG := Lib.hid hBg
          have hw3 : IntKind.i64.wrap ((k : Int) + 1) = (k : Int) + 1 := IntWalk.i64_in _ (by omega)
          clear hl hA hln hy ha hy' hym hBg cf4
          go_upto_region 11 with fail
          refine cp11 _ wr w.heap.size l w.heap.size b.me (.slice p1 q1 s1) (.slice p2 q2 s2) (.slice p3 q3 s3) (.slice p5 q5 s5) g q4 s4 k y1 y2 y3 y4 yo yn yc y6 y7 a.p _ _ _ _ _ _ _ _ _ _ _ _ _ _ _ _ _ _ _ _ _ _ _ _ _ _ _ _ _ _ _ _ _ _ _ _ _ _ _ _ _ _ _ _ _ _ _ _ _ _ _ _ _ _ _ _ _ _ _ _ _ _ _ _ _ _ _ _ _ _ _ _ _ _ _ _ _ _ _ _ CS.out.bx HW.out HYY.out (HYM.out.2.2.2.2.row (W0.out.trans (CS.out.bel.mono W0.out.size))) (HP.out.ent a (List.mem_of_getElem? HAK.out)) ?_
          intro x v49 v50 v51 v52 v53 v54 v55 v56 v57 v58 v59 v60 t1 t2 t3 hC hO hBut hBel
          have CS2 := Lib.hid (show Cs w0 w x b (p1, q1, s1) (p2, q2, s2) (p3, q3, s3) (some ⟨g, 0, none⟩, q4, s4) (p5, q5, s5) from by
            obtain ⟨cur, hg⟩ := own_tag HW.out
            exact CS.out.setN HW.out hO hBut (CS.out.bel.trans (hBel _ HBG.out CS.out.bel.size)) (All2.set k _ a (HAA.out.mono fun _ _ q => q.but hBut hg (by decide)) HAK.out ⟨HYM.out.1, HYM.out.2.1, HYM.out.2.2.1, HYM.out.2.2.2.1, Or.inr (own_fewer hC CS.out.bel.size)⟩))
          clear hC hO hBut hBel CS HW HAA HYM HYY HAK HBG
          go_wp2
          go_roundw
          case rel => exact ⟨k + 1, by omega, by go_num, CS2.out⟩
          case measure => simp [intOf]; omega
        · obtain rfl : q4 = k := by omega
          have cf5 := CS.out.bx.cell 5
          simp only [List.getElem?_toArray, List.getElem?_cons_zero, List.getElem?_cons_succ] at cf5
          clear hlt
          go_wp2
          go_loopw [65] (fun i wr => ∃ k : Nat, k ≤ q5 ∧ i = .int .i64 k ∧ Cs w0 w wr b (p1, q1, s1) (p2, q2, s2) (p3, q3, s3) (p4, q4, s4) (p5, q5, s5)) (fun i _ => q5 - (intOf i).toNat)
          case atStart => exact ⟨0, Nat.zero_le _, rfl, CS.out⟩
          case round =>
            obtain ⟨k, hk, rfl, hcs⟩ := hrel
            have CS := Lib.hid hcs
            have hq := Q5.out
            clear hcs
            by_cases hlt : k < q5
            · obtain ⟨l, hl, hA⟩ := CS.out.own
              have hln : l.length = q5 := own_row_len hl
              obtain ⟨g, rfl, hBg⟩ : ∃ g, p5 = some ⟨g, 0, none⟩ ∧ w.heap.size ≤ g := own_some hl (show 0 < q5 by omega)
              obtain ⟨y, hy⟩ : ∃ y, l[k]? = some y := ⟨_, List.getElem?_eq_getElem (by omega)⟩
              obtain ⟨a, ha⟩ : ∃ a, b.own[k]? = some a := ⟨_, List.getElem?_eq_getElem (by have h := hA.len; have h2 : l.length = q5 := hln; omega)⟩
              obtain ⟨y', hy', hym⟩ := hA.at k a ha
              rw [hy] at hy'
              obtain rfl := Option.some.inj hy'
              obtain ⟨y1, y2, ⟨yo, yn, yc⟩⟩ := y
              have HW := Lib.hid hl
              have HAA := Lib.hid hA
              have HYM := Lib.hid hym
              have HYY := Lib.hid hy
              have HAK := Lib.hid ha
              have HBG := Lib.hid hBg
              have hw3 : IntKind.i64.wrap ((k : Int) + 1) = (k : Int) + 1 := IntWalk.i64_in _ (by omega)
              clear hl hA hln hy ha hy' hym hBg cf5
              go_upto_region 16 with fail
              refine cp16 _ wr w.heap.size l w.heap.size b.me (.slice p1 q1 s1) (.slice p2 q2 s2) (.slice p3 q3 s3) (.slice p4 q4 s4) g q5 s5 k y1 y2 yo yn yc a.p _ _ _ _ _ _ _ _ _ _ _ _ _ _ _ _ _ _ _ _ _ _ _ _ _ _ _ _ _ _ _ _ _ _ _ _ _ _ _ _ _ _ _ _ _ _ _ _ _ _ _ _ _ _ _ _ _ _ _ _ _ _ _ _ _ _ _ _ _ _ _ _ _ _ _ _ _ _ _ _ CS.out.bx HW.out HYY.out (HYM.out.2.row (W0.out.trans (CS.out.bel.mono W0.out.size))) (HP.out.own a (List.mem_of_getElem? HAK.out)) ?_
              intro x v68 v69 v70 v71 v72 v73 v74 v75 v76 v77 v78 v79 t1 t2 t3 hC hO hBut hBel
              have CS2 := Lib.hid (show Cs w0 w x b (p1, q1, s1) (p2, q2, s2) (p3, q3, s3) (p4, q4, s4) (some ⟨g, 0, none⟩, q5, s5) from by
                obtain ⟨cur, hg⟩ := own_tag HW.out
                exact CS.out.setW HW.out hO hBut (CS.out.bel.trans (hBel _ HBG.out CS.out.bel.size)) (All2.set k _ a (HAA.out.mono fun _ _ q => q.but hBut hg (by decide)) HAK.out ⟨HYM.out.1, Or.inr (own_fewer hC CS.out.bel.size)⟩))
              clear hC hO hBut hBel CS HW HAA HYM HYY HAK HBG
              go_wp2
              go_roundw
              case rel => exact ⟨k + 1, by omega, by go_num, CS2.out⟩
              case measure => simp [intOf]; omega
            · obtain rfl : q5 = k := by omega
              have X1 := CS.out.bx
              have Z1 := CS.out.bz
              have x0 := X1.cell 0
              have x1 := X1.cell 1
              have x2 := X1.cell 2
              have x3 := X1.cell 3
              have x4 := X1.cell 4
              have x5 := X1.cell 5
              have r0 := Z1.cell 0
              have r1 := Z1.cell 1
              have r2 := Z1.cell 2
              have r3 := Z1.cell 3
              have r4 := Z1.cell 4
              have r5 := Z1.cell 5
              have t0 := Z1.fr 0
              have t1 := Z1.fr 1
              have t2 := Z1.fr 2
              have t3 := Z1.fr 3
              have t4 := Z1.fr 4
              have t5 := Z1.fr 5
              simp only [List.getElem?_toArray, List.getElem?_cons_zero, List.getElem?_cons_succ] at x0 x1 x2 x3 x4 x5 r0 r1 r2 r3 r4 r5
              have zz := Z1.lt
              have FB := Lib.hid (setB_box Z1 (.int .i64 b.me) (.slice p1 q1 s1) (.slice p2 q2 s2) (.slice p3 q3 s3) (.slice p4 q4 s4) (.slice p5 q5 s5))
              have FD := Lib.hid (CS.out.done (.int .i64 b.me) (.slice p1 q1 s1) (.slice p2 q2 s2) (.slice p3 q3 s3) (.slice p4 q4 s4) (.slice p5 q5 s5))
              clear X1 Z1 CS
              go_wp2_with fail
              have v0 := FB.out.cell 0
              have v1 := FB.out.cell 1
              have v2 := FB.out.cell 2
              have v3 := FB.out.cell 3
              have v4 := FB.out.cell 4
              have v5 := FB.out.cell 5
              simp at v0 v1 v2 v3 v4 v5
              refine bodyPost_ret (v := .agg #[.int .i64 b.me, .slice p1 q1 s1, .slice p2 q2 s2, .slice p3 q3 s3, .slice p4 q4 s4, .slice p5 q5 s5]) (by simp [results, Try.results15, go_sem, v0, v1, v2, v3, v4, v5]) rfl ?_
              exact ⟨⟨(p1, q1, s1), (p2, q2, s2), (p3, q3, s3), (p4, q4, s4), (p5, q5, s5), rfl, FD.out.1⟩, FD.out.2⟩
end Go.Proofs.Ytonoadjmglkhaaa.Av

namespace Go.Proofs.Ytonoadjmglkhaaa.Av
open Go.RowKit Go.Sort Go.Proofs.Ytonoadjmglkhaaa Go.Proofs.Ytonoadjmglkhaaa.Rw Go.Proofs.Ytonoadjmglkhaaa.Nm Go.Proofs.Ytonoadjmglkhaaa.Pr Go.Proofs.Ytonoadjmglkhaaa.Bk

def cmpI (a b : Int) : Int := if a < b then -1 else if b < a then 1 else 0
def orI (a b : Int) : Int := if a = 0 then b else a
set_option maxRecDepth 100000 in
theorem isNaN_any (a : Int) (w : World) : Calls Try.prog 64 #[.int .i64 a] w fun e w' => e = .returned (.bool false) ∧ w' = w := by
  go_enter Try.func64, Try.ntmps64
  go_wp2
  go_ret
  exact ⟨by simp, rfl⟩
set_option maxRecDepth 100000 in
theorem compare_any (a b : Int) (w : World) : Calls Try.prog 30 #[.int .i64 a, .int .i64 b] w fun e w' => e = .returned (.int .i64 (cmpI a b)) ∧ w' = w := by
  have R1 := Lib.hid (show a < b → cmpI a b = -1 from fun h => by unfold cmpI; rw [if_pos h])
  have R2 := Lib.hid (show ¬ a < b → b < a → cmpI a b = 1 from fun h h2 => by unfold cmpI; rw [if_neg h, if_pos h2])
  have R3 := Lib.hid (show ¬ a < b → ¬ b < a → cmpI a b = 0 from fun h h2 => by unfold cmpI; rw [if_neg h, if_neg h2])
  generalize cmpI a b = r at *
  go_enter Try.func30, Try.ntmps30
  by_cases h1 : a < b
  · have E := R1.out h1
    clear R1 R2 R3
    subst E
    go_wp2_with (go_at_call 64; refine (isNaN_any _ _).mono ?_; rintro e w' ⟨rfl, rfl⟩)
    go_ret
    exact ⟨rfl, rfl⟩
  · by_cases h2 : b < a
    · have E := R2.out h1 h2
      clear R1 R2 R3
      subst E
      go_wp2_with (go_at_call 64; refine (isNaN_any _ _).mono ?_; rintro e w' ⟨rfl, rfl⟩)
      go_ret
      exact ⟨rfl, rfl⟩
    · have E := R3.out h1 h2
      clear R1 R2 R3
      subst E
      go_wp2_with (go_at_call 64; refine (isNaN_any _ _).mono ?_; rintro e w' ⟨rfl, rfl⟩)
      go_ret
      exact ⟨rfl, rfl⟩
set_option maxRecDepth 100000 in
theorem or_any (g : Nat) (cap : Nat) (a b : Int) (w : World) (p0 : w.cell? ⟨g, 0, none⟩ = some (.int .i64 a)) (q0 : w.cell? ⟨g, 1, none⟩ = some (.int .i64 b)) : Calls Try.prog 58 #[.slice (some ⟨g, 0, none⟩) 2 cap] w fun e w' => e = .returned (.int .i64 (orI a b)) ∧ w' = w := by
  have R1 := Lib.hid (show a ≠ 0 → orI a b = a from fun h => by unfold orI; rw [if_neg h])
  have R2 := Lib.hid (show a = 0 → orI a b = b from fun h => by unfold orI; rw [if_pos h])
  generalize orI a b = r at *
  go_enter Try.func58, Try.ntmps58
  go_wp2
  go_loopw [8] (fun i wr => ∃ k : Nat, k ≤ 2 ∧ i = .int .i64 k ∧ RowKit.Hid (wr = w) ∧ (0 < k → a = 0) ∧ (1 < k → b = 0)) (fun i _ => 2 - (intOf i).toNat)
  case atStart => exact ⟨0, by omega, rfl, by first | exact Lib.hid rfl | exact Lib.hid trivial, fun h => by omega, fun h => by omega⟩
  case round =>
    obtain ⟨k, hk, rfl, hw, ha, hb⟩ := hrel
    obtain rfl := hw.out
    clear hw
    by_cases hlt : k < 2
    · obtain ⟨x, hx, hx0, hx1⟩ : ∃ x : Int, wr.cell? ⟨g, k, none⟩ = some (.int .i64 x) ∧ (k = 0 → x = a) ∧ (k = 1 → x = b) := by
        by_cases h : k = 0
        · exact ⟨a, by rw [h]; exact p0, fun _ => rfl, fun h1 => by omega⟩
        · obtain rfl : k = 1 := by omega
          exact ⟨b, q0, fun h1 => by omega, fun _ => rfl⟩
      have HX := Lib.hid (And.intro hx0 hx1)
      have HA := Lib.hid ha
      have HB := Lib.hid hb
      clear ha hb hx0 hx1 p0 q0
      by_cases h0 : x = 0
      · have c0 : ((x : Int) != 0) = false := by simp [h0]
        have H0 := Lib.hid h0
        clear h0 R1 R2
        go_wp2
        go_roundw
        case rel => exact ⟨k + 1, by omega, by go_num, by first | exact Lib.hid rfl | exact Lib.hid trivial, fun _ => by
          by_cases h : k = 0
          · rw [← HX.out.1 h]; exact H0.out
          · exact HA.out (by omega), fun h => by
          rw [← HX.out.2 (by omega)]; exact H0.out⟩
        case measure => simp [intOf]; omega
      · have c0 : ((x : Int) != 0) = true := by simp [h0]
        have E := Lib.hid (show r = x by
          by_cases h : k = 0
          · rw [R1.out (by rw [← HX.out.1 h]; exact h0)]; exact (HX.out.1 h).symm
          · rw [R2.out (HA.out (by omega))]; exact (HX.out.2 (by omega)).symm)
        clear h0 R1 R2
        go_wp2
        go_ret
        exact ⟨by have h := E.out; subst h; rfl, rfl⟩
    · have E := Lib.hid ((R2.out (ha (by omega))).trans (hb (by omega)))
      obtain rfl : k = 2 := by omega
      clear R1 R2 ha hb
      go_wp2
      go_ret
      exact ⟨by have h := E.out; subst h; rfl, rfl⟩
/-- Which one is ahead: below 0, 0, above 0. -/
def cmpJ (x y : XID) : Int := orI (cmpI x.1 y.1) (cmpI x.2 y.2)
theorem cmpI_zero (a b : Int) : cmpI a b = 0 ↔ a = b := by unfold cmpI; split <;> (try split) <;> omega
theorem cmpI_neg (a b : Int) : cmpI a b < 0 ↔ a < b := by unfold cmpI; split <;> (try split) <;> omega
theorem cmpJ_zero (x y : XID) : cmpJ x y = 0 ↔ x = y := by
  obtain ⟨a, b⟩ := x
  obtain ⟨c, d⟩ := y
  have h1 := cmpI_zero a c
  have h2 := cmpI_zero b d
  unfold cmpJ orI
  simp only [Prod.mk.injEq]
  split <;> rename_i h
  · rw [h2]; exact ⟨fun e => ⟨h1.1 h, e⟩, fun e => e.2⟩
  · exact ⟨fun e => absurd e h, fun e => absurd (h1.2 e.1) h⟩
theorem cmpJ_neg (x y : XID) : cmpJ x y < 0 ↔ lessI x y = true := by
  obtain ⟨a, b⟩ := x
  obtain ⟨c, d⟩ := y
  have h1 := cmpI_zero a c
  have h2 := cmpI_neg b d
  have h3 := cmpI_neg a c
  unfold cmpJ orI lessI
  simp only [Bool.or_eq_true, Bool.and_eq_true, decide_eq_true_eq, beq_iff_eq]
  split <;> rename_i h
  · have := h1.1 h
    subst this
    rw [h2]
    constructor
    · intro h; exact Or.inr ⟨rfl, h⟩
    · rintro (h | ⟨_, h⟩)
      · omega
      · exact h
  · rw [h3]
    constructor
    · intro h; exact Or.inl h
    · rintro (h4 | ⟨h4, _⟩)
      · exact h4
      · exact absurd (h1.2 h4) h
theorem lessI_irr (x : XID) : lessI x x = false := by simp [lessI]
theorem lessI_trans {x y z : XID} (h1 : lessI x y = true) (h2 : lessI y z = true) : lessI x z = true := by
  simp only [lessI, Bool.or_eq_true, Bool.and_eq_true, decide_eq_true_eq, beq_iff_eq] at *
  omega
theorem lessI_total (x y : XID) : lessI x y = true ∨ x = y ∨ lessI y x = true := by
  obtain ⟨a, b⟩ := x
  obtain ⟨c, d⟩ := y
  simp only [lessI, Bool.or_eq_true, Bool.and_eq_true, decide_eq_true_eq, beq_iff_eq, Prod.mk.injEq]
  omega
theorem lessI_asymm {x y : XID} (h : lessI x y = true) : lessI y x = false := by
  cases h2 : lessI y x
  · rfl
  · have := lessI_trans h h2
    rw [lessI_irr] at this
    cases this
theorem call_cmp (args : Array Value) (w : World) : (callFunc 30 args).run Try.prog w = .ok (.enter 30 args) w := call_fn Try.func30 rfl rfl args w
theorem call_or (args : Array Value) (w : World) : (callFunc 58 args).run Try.prog w = .ok (.enter 58 args) w := call_fn Try.func58 rfl rfl args w
theorem call_byID (args : Array Value) (w : World) : (callFunc 20 args).run Try.prog w = .ok (.enter 20 args) w := call_fn Try.func20 rfl rfl args w
set_option maxRecDepth 100000 in
set_option maxHeartbeats 8000000 in
theorem byID_any (x y : XID) (w : World) : Calls Try.prog 20 #[idv x, idv y] w fun e w' => e = .returned (.int .i64 (cmpJ x y)) ∧ Below w.heap.size w w' := by
  obtain ⟨a, b⟩ := x
  obtain ⟨c, d⟩ := y
  obtain ⟨h0, X, Y⟩ := two_new w #[.int .i64 a, .int .i64 b] #[.int .i64 c, .int .i64 d] 23 23
  have x0 := (X.on (Below.refl _ _).drew).cell 0
  have x1 := (X.on (Below.refl _ _).drew).cell 1
  have y0 := (Y.on (Below.refl _ _).drew).cell 0
  have y1 := (Y.on (Below.refl _ _).drew).cell 1
  simp only [List.getElem?_toArray, List.getElem?_cons_zero, List.getElem?_cons_succ] at x0 x1 y0 y1
  have C1 := Lib.hid (fun w' => compare_any a c w')
  have C2 := Lib.hid (fun w' => compare_any b d w')
  have RW := Lib.hid (fun (w' : World) (u v : Int) => (⟨(box_new w' #[.int .i64 u, .int .i64 v] 3).cell 0, (box_new w' #[.int .i64 u, .int .i64 v] 3).cell 1⟩ : (w'.alloc (.cells #[.int .i64 u, .int .i64 v] 3)).cell? ⟨w'.heap.size, 0, none⟩ = some (.int .i64 u) ∧ (w'.alloc (.cells #[.int .i64 u, .int .i64 v] 3)).cell? ⟨w'.heap.size, 1, none⟩ = some (.int .i64 v)))
  have FIN := Lib.hid (fun cs : Array Value => show Below w.heap.size w (((w.alloc (.cells #[.int .i64 a, .int .i64 b] 23)).alloc (.cells #[.int .i64 c, .int .i64 d] 23)).drew.alloc (.cells cs 3)) from h0.drew.alloc h0.size _)
  have RES := Lib.hid (show cmpJ (a, b) (c, d) = orI (cmpI a c) (cmpI b d) from rfl)
  generalize cmpJ (a, b) (c, d) = res at *
  generalize cmpI a c = u at *
  generalize cmpI b d = v at *
  clear X Y h0
  go_enter Try.func20, Try.ntmps20
  go_wp2_with fail
  generalize (w.alloc (.cells #[.int .i64 a, .int .i64 b] 23)).alloc (.cells #[.int .i64 c, .int .i64 d] 23) = W at *
  go_region_law (first
    | (refine step_call_run rfl (ex_call2 _ _ (.tmp 6) (.tmp 8) 3 3 30 rfl rfl rfl rfl _ (call_cmp _ _)) (C1.out _) ?_; rintro e3 w3 ⟨rfl, rfl⟩; refine ⟨_, rfl, ?_⟩)
    | (refine step_call_run rfl (ex_call2 _ _ (.tmp 11) (.tmp 13) 3 3 30 rfl rfl rfl rfl _ (call_cmp _ _)) (C2.out _) ?_; rintro e3 w3 ⟨rfl, rfl⟩; refine ⟨_, rfl, ?_⟩)
    | (refine step_call_run rfl (ex_call1 _ _ (.tmp 15) 27 58 rfl rfl rfl _ (call_or _ _)) (or_any _ _ u v _ (RW.out _ u v).1 (RW.out _ u v).2) ?_; rintro e3 w3 ⟨rfl, rfl⟩; refine ⟨_, rfl, ?_⟩))
  all_goals simp only [Exit.then]
  all_goals apply_assumption
  all_goals
    go_wp2
    go_ret
    exact ⟨by have h := RES.out; subst h; rfl, FIN.out _⟩
end Go.Proofs.Ytonoadjmglkhaaa.Av
