/-
  Right of package adverts: do a broker's rows rise and fit together? Conditions: at most 900 of each row; texts below a machine's length.
  A right broker stays right: one advertisement more, one less. No program's function in it.
  A set of IDs as a map of Booleans: made, asked, counted, stored into. Condition: numbers of 64 bits; fewer entries than a machine holds.
-/
import Derived.Test.YtonoadjmglkhaaaGreatV030
import Derived.Test.YtonoadjmglkhaaaGreatV008
import Derived.Maps.OwnSet
import Derived.DeepKeys4
import Derived.KernelRfl
namespace Go.Proofs.YtonoadjmglkhaaaGreat.Av
open Go.RowKit Go.Sort Go.Proofs.YtonoadjmglkhaaaGreat Go.Proofs.YtonoadjmglkhaaaGreat.Rw Go.Proofs.YtonoadjmglkhaaaGreat.Nm Go.Proofs.YtonoadjmglkhaaaGreat.Pr Go.Proofs.YtonoadjmglkhaaaGreat.Bk

abbrev cAd (a b : Ad) : Int := cmpJ a.id b.id
abbrev cEn (a b : En) : Int := orI (cmpJ a.tree b.tree) (cmpJ a.sub b.sub)
abbrev cOw (a b : Ow) : Int := cmpJ a.id b.id
/-- Is a broker right? -/
def okBr (b : Br) : Bool := riseB cmpI b.near && (riseB cmpJ b.seen && (riseB cAd b.adv && (riseB cEn b.ent && (riseB cOw b.own && (b.adv.all (okAd b) && (b.ent.all (okEn b) && b.own.all (fun o => Wr.rightP o.p)))))))
/-- All predicates' texts are far below a machine's length. -/
structure TameB (b : Br) : Prop where
  adv : ∀ a ∈ b.adv, Tame a.p
  ent : ∀ a ∈ b.ent, Tame a.p
  own : ∀ a ∈ b.own, Tame a.p
theorem riseB_map {α β : Type} {R : α → β → Prop} {c : α → α → Int} {d : β → β → Int} (h : ∀ x a y b, R x a → R y b → c x y = d a b) : ∀ {l : List α} {m : List β}, All2 R l m → riseB c l = riseB d m
  | _, _, .nil => rfl
  | _, _, .cons _ .nil => rfl
  | _, _, .cons x (.cons y t) => by
    have ih := riseB_map h (.cons y t)
    unfold riseB
    rw [h _ _ _ _ x y, ih]
theorem riseB_pair {α : Type} {c : α → α → Int} (ht : ∀ x y z, c x y < 0 → c y z < 0 → c x z < 0) : ∀ {l : List α}, riseB c l = true → l.Pairwise fun x y => c x y < 0
  | [], _ => List.Pairwise.nil
  | [x], _ => List.pairwise_singleton _ _
  | x :: y :: l, h => by
    unfold riseB at h
    rw [Bool.and_eq_true] at h
    have ih := riseB_pair ht h.2
    have hxy : c x y < 0 := of_decide_eq_true h.1
    refine List.pairwise_cons.2 ⟨fun z hz => ?_, ih⟩
    rcases List.mem_cons.1 hz with rfl | hz
    · exact hxy
    · exact ht x y z hxy ((List.pairwise_cons.1 ih).1 z hz)
theorem cmpJ_lt {x y : XID} : cmpJ x y < 0 ↔ lessI x y = true := cmpJ_neg x y
theorem cmpJ_tr (x y z : XID) (h1 : cmpJ x y < 0) (h2 : cmpJ y z < 0) : cmpJ x z < 0 := cmpJ_lt.2 (lessI_trans (cmpJ_lt.1 h1) (cmpJ_lt.1 h2))
theorem near_le {l : List Int} (h : riseB cmpI l = true) : l.Pairwise (· ≤ ·) := by
  have := riseB_pair (c := cmpI) (fun x y z h1 h2 => by rw [cmpI_neg] at *; omega) h
  exact this.imp fun {a b} q => by have := (cmpI_neg a b).1 q; omega
theorem seen_rise {l : List XID} (h : riseB cmpJ l = true) : RiseI l := (riseB_pair cmpJ_tr h).imp fun {_a _b} q => cmpJ_lt.1 q
theorem adv_rise {l : List Ad} (h : riseB cAd l = true) : RiseA l := (riseB_pair (fun x y z => cmpJ_tr x.id y.id z.id) h).imp fun {_a _b} q => cmpJ_lt.1 q
set_option maxRecDepth 100000 in
set_option maxHeartbeats 32000000 in
theorem aright_any (b : Br) (nv av sv ev ov : Sl) (w : World) (h : BrIn w b nv av sv ev ov) (hf : Few b) (ht : TameB b) :
    Calls Tryz.prog 18 #[brv b.me nv av sv ev ov] w fun e w' => e = .returned (.bool (okBr b)) ∧ Below w.heap.size w w' := by
  obtain ⟨no, nn, nc⟩ := nv
  obtain ⟨ao, an, ac⟩ := av
  obtain ⟨so, sn, sc⟩ := sv
  obtain ⟨eo, en, ec⟩ := ev
  obtain ⟨oo, on_, oc⟩ := ov
  obtain ⟨la, ha1, ha2⟩ := h.adv
  obtain ⟨le, he1, he2⟩ := h.ent
  obtain ⟨lo, ho1, ho2⟩ := h.own
  have q0 := newB w (.cells #[.int .i64 b.me, .slice no nn nc, .slice ao an ac, .slice so sn sc, .slice eo en ec, .slice oo on_ oc] 29)
  have X := box_new w #[.int .i64 b.me, .slice no nn nc, .slice ao an ac, .slice so sn sc, .slice eo en ec, .slice oo on_ oc] 29
  have C1 := fun W' (q : Below w.heap.size w W') => riseI_any (.slice no nn nc) b.near W' (h.near.on q)
  have C2 := fun W' (q : Below w.heap.size w W') => riseJ_any (.slice so sn sc) b.seen W' (h.seen.on q)
  have C3 := fun W' (q : Below w.heap.size w W') => riseD_any (.slice ao an ac) la W' (ha1.on q)
  have C4 := fun W' (q : Below w.heap.size w W') => riseN_any (.slice eo en ec) le W' (he1.on q)
  have C5 := fun W' (q : Below w.heap.size w W') => riseW_any (.slice oo on_ oc) lo W' (ho1.on q)
  rw [riseB_map (R := AdIn w) (d := cAd) (fun x a y b h1 h2 => by rw [cAd, ← h1.1, ← h2.1]) ha2] at C3
  rw [riseB_map (R := EnIn w) (d := cEn) (fun x a y b h1 h2 => by rw [cEn, ← h1.1, ← h2.1, ← h1.2.1, ← h2.2.1]; rfl) he2] at C4
  rw [riseB_map (R := OwIn w) (d := cOw) (fun x a y b h1 h2 => by rw [cOw, ← h1.1, ← h2.1]) ho2] at C5
  have C6 := fun (g1 : riseB cmpI b.near = true) (g2 : riseB cmpJ b.seen = true) W' (q : Below w.heap.size w W') (hx : Box W' w.heap.size #[.int .i64 b.me, .slice no nn nc, .slice ao an ac, .slice so sn sc, .slice eo en ec, .slice oo on_ oc] 29) => allD_any w.heap.size (ao, an, ac) la b.adv (okAd b) W' (ha1.on q) (ha2.mono fun _ _ z => z.on q) (fun x a W2 hm q2 hxa => rclD_any b a (no, nn, nc) (ao, an, ac) (so, sn, sc) (eo, en, ec) (oo, on_, oc) x w.heap.size W2 (hx.on q2) ((h.on q).on q2) hxa hf (near_le g1) (seen_rise g2) (ht.adv a hm))
  have C7 := fun (g1 : riseB cmpI b.near = true) (g3 : riseB cAd b.adv = true) W' (q : Below w.heap.size w W') (hx : Box W' w.heap.size #[.int .i64 b.me, .slice no nn nc, .slice ao an ac, .slice so sn sc, .slice eo en ec, .slice oo on_ oc] 29) => allN_any w.heap.size (eo, en, ec) le b.ent (okEn b) W' (he1.on q) (he2.mono fun _ _ z => z.on q) (fun x a W2 hm q2 hxa => rclN_any b a (no, nn, nc) (ao, an, ac) (so, sn, sc) (eo, en, ec) (oo, on_, oc) x w.heap.size W2 (hx.on q2) ((h.on q).on q2) hxa hf (near_le g1) (adv_rise g3) (ht.ent a hm))
  have C8 := fun W' (q : Below w.heap.size w W') => allW_any (oo, on_, oc) lo b.own (fun o => Wr.rightP o.p) W' (ho1.on q) (ho2.mono fun _ _ z => z.on q) (fun x a W2 hm q2 hxa => rclW_any a x W2 hxa (ht.own a hm))
  have RS := Lib.hid (show okBr b = (riseB cmpI b.near && (riseB cmpJ b.seen && (riseB cAd b.adv && (riseB cEn b.ent && (riseB cOw b.own && (b.adv.all (okAd b) && (b.ent.all (okEn b) && b.own.all (fun o => Wr.rightP o.p)))))))) from rfl)
  generalize okBr b = res at *
  generalize riseB cmpI b.near = r1 at *
  generalize riseB cmpJ b.seen = r2 at *
  generalize riseB cAd b.adv = r3 at *
  generalize riseB cEn b.ent = r4 at *
  generalize riseB cOw b.own = r5 at *
  generalize b.adv.all (okAd b) = r6 at *
  generalize b.ent.all (okEn b) = r7 at *
  generalize b.own.all (fun o => Wr.rightP o.p) = r8 at *
  have C1 := Lib.hid C1
  have C2 := Lib.hid C2
  have C3 := Lib.hid C3
  have C4 := Lib.hid C4
  have C5 := Lib.hid C5
  have C6 := Lib.hid C6
  have C7 := Lib.hid C7
  have C8 := Lib.hid C8
  have B0 := Lib.hid q0
  have X0 := Lib.hid X
  have cx0 := X.cell 0
  have cx1 := X.cell 1
  have cx2 := X.cell 2
  have cx3 := X.cell 3
  have cx4 := X.cell 4
  have cx5 := X.cell 5
  simp only [List.getElem?_toArray, List.getElem?_cons_zero, List.getElem?_cons_succ] at cx0 cx1 cx2 cx3 cx4 cx5
  clear q0 X h hf ht ha1 ha2 he1 he2 ho1 ho2
  go_enter Tryz.func18, Tryz.ntmps18
  go_wp2_with fail
  generalize w.alloc (.cells #[.int .i64 b.me, .slice no nn nc, .slice ao an ac, .slice so sn sc, .slice eo en ec, .slice oo on_ oc] 29) = W0 at *
  refine (C1.out _ B0.out).mono ?_
  rintro e1 W1 ⟨rfl, hb⟩
  have B1 := Lib.hid (B0.out.trans (hb.mono B0.out.size))
  have X1 := Lib.hid (X0.out.on hb)
  clear hb cx0 cx1 cx2 cx3 cx4 cx5
  have cx0 := X1.out.cell 0
  have cx1 := X1.out.cell 1
  have cx2 := X1.out.cell 2
  have cx3 := X1.out.cell 3
  have cx4 := X1.out.cell 4
  have cx5 := X1.out.cell 5
  simp only [List.getElem?_toArray, List.getElem?_cons_zero, List.getElem?_cons_succ] at cx0 cx1 cx2 cx3 cx4 cx5
  cases r1
  · go_wp2_with fail
    go_ret
    exact ⟨by rw [RS.out]; rfl, B1.out⟩
  · go_wp2_with fail
    refine (C2.out _ B1.out).mono ?_
    rintro e2 W2 ⟨rfl, hb⟩
    have B2 := Lib.hid (B1.out.trans (hb.mono B1.out.size))
    have X2 := Lib.hid (X1.out.on hb)
    clear hb cx0 cx1 cx2 cx3 cx4 cx5
    have cx0 := X2.out.cell 0
    have cx1 := X2.out.cell 1
    have cx2 := X2.out.cell 2
    have cx3 := X2.out.cell 3
    have cx4 := X2.out.cell 4
    have cx5 := X2.out.cell 5
    simp only [List.getElem?_toArray, List.getElem?_cons_zero, List.getElem?_cons_succ] at cx0 cx1 cx2 cx3 cx4 cx5
    cases r2
    · go_wp2_with fail
      go_ret
      exact ⟨by rw [RS.out]; rfl, B2.out⟩
    · go_wp2_with fail
      refine (C3.out _ B2.out).mono ?_
      rintro e3 W3 ⟨rfl, hb⟩
      have B3 := Lib.hid (B2.out.trans (hb.mono B2.out.size))
      have X3 := Lib.hid (X2.out.on hb)
      clear hb cx0 cx1 cx2 cx3 cx4 cx5
      have cx0 := X3.out.cell 0
      have cx1 := X3.out.cell 1
      have cx2 := X3.out.cell 2
      have cx3 := X3.out.cell 3
      have cx4 := X3.out.cell 4
      have cx5 := X3.out.cell 5
      simp only [List.getElem?_toArray, List.getElem?_cons_zero, List.getElem?_cons_succ] at cx0 cx1 cx2 cx3 cx4 cx5
      cases r3
      · go_wp2_with fail
        go_ret
        exact ⟨by rw [RS.out]; rfl, B3.out⟩
      · go_wp2_with fail
        refine (C4.out _ B3.out).mono ?_
        rintro e4 W4 ⟨rfl, hb⟩
        have B4 := Lib.hid (B3.out.trans (hb.mono B3.out.size))
        have X4 := Lib.hid (X3.out.on hb)
        clear hb cx0 cx1 cx2 cx3 cx4 cx5
        have cx0 := X4.out.cell 0
        have cx1 := X4.out.cell 1
        have cx2 := X4.out.cell 2
        have cx3 := X4.out.cell 3
        have cx4 := X4.out.cell 4
        have cx5 := X4.out.cell 5
        simp only [List.getElem?_toArray, List.getElem?_cons_zero, List.getElem?_cons_succ] at cx0 cx1 cx2 cx3 cx4 cx5
        cases r4
        · go_wp2_with fail
          go_ret
          exact ⟨by rw [RS.out]; rfl, B4.out⟩
        · go_wp2_with fail
          refine (C5.out _ B4.out).mono ?_
          rintro e5 W5 ⟨rfl, hb⟩
          have B5 := Lib.hid (B4.out.trans (hb.mono B4.out.size))
          have X5 := Lib.hid (X4.out.on hb)
          clear hb cx0 cx1 cx2 cx3 cx4 cx5
          have cx0 := X5.out.cell 0
          have cx1 := X5.out.cell 1
          have cx2 := X5.out.cell 2
          have cx3 := X5.out.cell 3
          have cx4 := X5.out.cell 4
          have cx5 := X5.out.cell 5
          simp only [List.getElem?_toArray, List.getElem?_cons_zero, List.getElem?_cons_succ] at cx0 cx1 cx2 cx3 cx4 cx5
          cases r5
          · go_wp2_with fail
            go_ret
            exact ⟨by rw [RS.out]; rfl, B5.out⟩
          · go_wp2_with fail
            refine (C6.out (by trivial) (by trivial) _ B5.out X5.out).mono ?_
            rintro e6 W6 ⟨rfl, hb⟩
            have B6 := Lib.hid (B5.out.trans (hb.mono B5.out.size))
            have X6 := Lib.hid (X5.out.on hb)
            clear hb cx0 cx1 cx2 cx3 cx4 cx5
            have cx0 := X6.out.cell 0
            have cx1 := X6.out.cell 1
            have cx2 := X6.out.cell 2
            have cx3 := X6.out.cell 3
            have cx4 := X6.out.cell 4
            have cx5 := X6.out.cell 5
            simp only [List.getElem?_toArray, List.getElem?_cons_zero, List.getElem?_cons_succ] at cx0 cx1 cx2 cx3 cx4 cx5
            cases r6
            · go_wp2_with fail
              go_ret
              exact ⟨by rw [RS.out]; rfl, B6.out⟩
            · go_wp2_with fail
              refine (C7.out (by trivial) (by trivial) _ B6.out X6.out).mono ?_
              rintro e7 W7 ⟨rfl, hb⟩
              have B7 := Lib.hid (B6.out.trans (hb.mono B6.out.size))
              have X7 := Lib.hid (X6.out.on hb)
              clear hb cx0 cx1 cx2 cx3 cx4 cx5
              have cx0 := X7.out.cell 0
              have cx1 := X7.out.cell 1
              have cx2 := X7.out.cell 2
              have cx3 := X7.out.cell 3
              have cx4 := X7.out.cell 4
              have cx5 := X7.out.cell 5
              simp only [List.getElem?_toArray, List.getElem?_cons_zero, List.getElem?_cons_succ] at cx0 cx1 cx2 cx3 cx4 cx5
              cases r7
              · go_wp2_with fail
                go_ret
                exact ⟨by rw [RS.out]; rfl, B7.out⟩
              · go_wp2_with fail
                refine (C8.out _ B7.out).mono ?_
                rintro e8 W8 ⟨rfl, hb⟩
                have B8 := Lib.hid (B7.out.trans (hb.mono B7.out.size))
                clear hb cx0 cx1 cx2 cx3 cx4 cx5
                go_wp2_with fail
                go_ret
                exact ⟨by rw [RS.out]; rfl, B8.out⟩
end Go.Proofs.YtonoadjmglkhaaaGreat.Av

namespace Go.Proofs.YtonoadjmglkhaaaGreat.Av
open Go.RowKit Go.Sort Go.Proofs.YtonoadjmglkhaaaGreat Go.Proofs.YtonoadjmglkhaaaGreat.Rw Go.Proofs.YtonoadjmglkhaaaGreat.Nm Go.Proofs.YtonoadjmglkhaaaGreat.Pr Go.Proofs.YtonoadjmglkhaaaGreat.Bk

theorem riseB_of {α : Type} {c : α → α → Int} : ∀ {l : List α}, (l.Pairwise fun x y => c x y < 0) → riseB c l = true
  | [], _ => rfl
  | [_], _ => rfl
  | x :: y :: l, h => by
    have h1 := List.pairwise_cons.1 h
    unfold riseB
    rw [decide_eq_true (h1.1 y (by simp)), Bool.true_and]
    exact riseB_of h1.2
theorem cmpI_tr (x y z : Int) (h1 : cmpI x y < 0) (h2 : cmpI y z < 0) : cmpI x z < 0 := by rw [cmpI_neg] at *; omega
theorem cEn_neg (a b : En) : cEn a b < 0 ↔ (lessI a.tree b.tree = true ∨ (a.tree = b.tree ∧ lessI a.sub b.sub = true)) := by
  unfold cEn orI
  by_cases h : cmpJ a.tree b.tree = 0
  · rw [if_pos h, cmpJ_neg]
    have e := (cmpJ_zero _ _).1 h
    constructor
    · exact fun q => Or.inr ⟨e, q⟩
    · rintro (q | ⟨_, q⟩)
      · rw [e, lessI_irr] at q; cases q
      · exact q
  · rw [if_neg h, cmpJ_neg]
    constructor
    · exact Or.inl
    · rintro (q | ⟨q, _⟩)
      · exact q
      · exact absurd ((cmpJ_zero _ _).2 q) h
theorem cEn_tr (x y z : En) (h1 : cEn x y < 0) (h2 : cEn y z < 0) : cEn x z < 0 := by
  rw [cEn_neg] at *
  rcases h1 with h1 | ⟨e1, h1⟩ <;> rcases h2 with h2 | ⟨e2, h2⟩
  · exact Or.inl (lessI_trans h1 h2)
  · exact Or.inl (by rw [← e2]; exact h1)
  · exact Or.inl (by rw [e1]; exact h2)
  · exact Or.inr ⟨e1.trans e2, lessI_trans h1 h2⟩
/-- What a right broker is. -/
structure OkBr (b : Br) : Prop where
  near : b.near.Pairwise (· < ·)
  seen : RiseI b.seen
  adv : RiseA b.adv
  ent : b.ent.Pairwise fun x y => cEn x y < 0
  own : RiseK Ow.id b.own
  oks : ∀ a ∈ b.adv, a.id ∈ b.seen ∧ comesB b.near a.par = true ∧ Wr.rightP a.p = true
  oke : ∀ e ∈ b.ent, okEn b e = true
  oko : ∀ o ∈ b.own, Wr.rightP o.p = true
theorem okBr_iff (b : Br) : okBr b = true ↔ OkBr b := by
  unfold okBr
  simp only [Bool.and_eq_true, List.all_eq_true]
  constructor
  · rintro ⟨h1, h2, h3, h4, h5, h6, h7, h8⟩
    refine ⟨(riseB_pair cmpI_tr h1).imp fun {a b} q => (cmpI_neg a b).1 q, seen_rise h2, adv_rise h3, riseB_pair cEn_tr h4, (riseB_pair (fun x y z => cmpJ_tr x.id y.id z.id) h5).imp fun {a b} q => cmpJ_lt.1 q, fun a ha => ?_, h7, h8⟩
    have := h6 a ha
    unfold okAd at this
    simp only [Bool.and_eq_true, decide_eq_true_eq] at this
    exact this
  · rintro ⟨h1, h2, h3, h4, h5, h6, h7, h8⟩
    refine ⟨riseB_of (h1.imp fun {a b} q => (cmpI_neg a b).2 q), riseB_of (h2.imp fun {a b} q => cmpJ_lt.2 q), riseB_of (h3.imp fun {a b} q => cmpJ_lt.2 q), riseB_of h4, riseB_of (h5.imp fun {a b} q => cmpJ_lt.2 q), fun a ha => ?_, h7, h8⟩
    unfold okAd
    simp only [Bool.and_eq_true, decide_eq_true_eq]
    exact h6 a ha
theorem mem_ins {α : Type} (l : List α) (k : Nat) (x y : α) : y ∈ insAt l k x ↔ y = x ∨ y ∈ l := by
  unfold insAt
  rw [List.mem_append, List.mem_append, List.mem_singleton]
  conv => rhs; rw [← List.take_append_drop k l, List.mem_append]
  constructor
  · rintro ((h | h) | h)
    · exact Or.inr (Or.inl h)
    · exact Or.inl h
    · exact Or.inr (Or.inr h)
  · rintro (h | h | h)
    · exact Or.inl (Or.inr h)
    · exact Or.inl (Or.inl h)
    · exact Or.inr h
theorem place_lo {α : Type} (key : α → XID) : ∀ (l : List α) (x : XID), ∀ y ∈ l.take (placeK key l x), lessI (key y) x = true
  | [], _, y, h => by simp at h
  | a :: l, x, y, h => by
    unfold placeK at h
    by_cases ha : lessI (key a) x = true
    · simp only [List.takeWhile_cons, ha, if_true, List.length_cons, List.take_succ_cons, List.mem_cons] at h
      rcases h with rfl | h
      · exact ha
      · exact place_lo key l x y h
    · simp [ha] at h
theorem place_hi {α : Type} {key : α → XID} : ∀ {l : List α} (_ : RiseK key l) (x : XID) (_ : ∀ y ∈ l, key y ≠ x), ∀ y ∈ l.drop (placeK key l x), lessI x (key y) = true
  | [], _, _, _, y, h => by simp at h
  | a :: l, hr, x, hn, y, h => by
    unfold placeK at h
    have hr' := List.pairwise_cons.1 hr
    by_cases ha : lessI (key a) x = true
    · simp only [List.takeWhile_cons, ha, if_true, List.length_cons, List.drop_succ_cons] at h
      exact place_hi hr'.2 x (fun y hy => hn y (List.mem_cons_of_mem _ hy)) y h
    · simp [ha] at h
      have hax : lessI x (key a) = true := by
        rcases lessI_total (key a) x with q | q | q
        · exact absurd q ha
        · exact absurd q (hn a (by simp))
        · exact q
      rcases h with rfl | h
      · exact hax
      · exact lessI_trans hax (hr'.1 y h)
theorem ins_rise {α : Type} {key : α → XID} {l : List α} (hr : RiseK key l) (x : α) (hn : ∀ y ∈ l, key y ≠ key x) : RiseK key (insAt l (placeK key l (key x)) x) := by
  unfold insAt
  have h1 : RiseK key (l.take (placeK key l (key x))) := hr.sublist (List.take_sublist _ _)
  have h2 : RiseK key (l.drop (placeK key l (key x))) := hr.sublist (List.drop_sublist _ _)
  have lo := place_lo key l (key x)
  have hi := place_hi hr (key x) hn
  unfold RiseK at *
  rw [List.append_assoc, List.pairwise_append]
  refine ⟨h1, ?_, fun a ha b hb => ?_⟩
  · rw [List.singleton_append, List.pairwise_cons]
    exact ⟨fun b hb => hi b hb, h2⟩
  · rw [List.singleton_append, List.mem_cons] at hb
    rcases hb with rfl | hb
    · exact lo a ha
    · exact lessI_trans (lo a ha) (hi b hb)
theorem findA_some {l : List Ad} {x : XID} {a : Ad} (h : findA l x = some a) : a ∈ l ∧ a.id = x := by
  unfold findA at h
  exact ⟨List.mem_of_find?_eq_some h, by simpa using List.find?_some h⟩
theorem findA_uniq {l : List Ad} (hr : RiseA l) {a : Ad} (ha : a ∈ l) : findA l a.id = some a := by
  obtain ⟨k, hk⟩ := List.mem_iff_getElem?.1 ha
  refine findA_at hk rfl fun j z hj hz e => ?_
  have := riseK_lt hr hj hz hk
  rw [e, lessI_irr] at this
  cases this
theorem findA_of {l m : List Ad} (hl : RiseA l) (hm : RiseA m) {x : XID} (h : ∀ a, a.id = x → (a ∈ l ↔ a ∈ m)) : findA l x = findA m x := by
  cases h1 : findA l x with
  | none =>
    cases h2 : findA m x with
    | none => rfl
    | some a =>
      obtain ⟨q1, q2⟩ := findA_some h2
      have := findA_uniq hl ((h a q2).2 q1)
      rw [q2, h1] at this
      cases this
  | some a =>
    obtain ⟨q1, q2⟩ := findA_some h1
    have := findA_uniq hm ((h a q2).1 q1)
    rw [q2] at this
    exact this.symm
theorem okEn_of {b c : Br} {e : En} (hn : c.near = b.near) (hf : findA c.adv e.tree = findA b.adv e.tree) (h : okEn b e = true) : okEn c e = true := by
  unfold okEn at *
  rw [hf, hn]
  exact h
theorem learn_ok {b : Br} (h : OkBr b) (a : Ad) (hp : comesB b.near a.par = true) (hq : Wr.rightP a.p = true) : OkBr (learnB b a).1 := by
  by_cases hin : a.id ∈ b.seen
  · rw [learnB_in hin]; exact h
  · rw [learnB_out hin]
    have hna : ∀ y ∈ b.adv, y.id ≠ a.id := fun y hy e => hin (by rw [← e]; exact (h.oks y hy).1)
    have hns : ∀ y ∈ b.seen, y ≠ a.id := fun y hy e => hin (by rw [← e]; exact hy)
    have ra : RiseA (insAt b.adv (placeI (b.adv.map Ad.id) a.id) a) := by
      rw [← placeK_map]
      exact ins_rise h.adv a hna
    have rs : RiseI (insAt b.seen (placeI b.seen a.id) a.id) := by
      have := ins_rise (key := fun x : XID => x) h.seen a.id hns
      rw [placeK_map, List.map_id'] at this
      exact this
    refine ⟨h.near, rs, ra, h.ent, h.own, fun y hy => ?_, fun e he => ?_, h.oko⟩
    · rcases (mem_ins _ _ _ _).1 hy with rfl | hy
      · exact ⟨(mem_ins _ _ _ _).2 (Or.inl rfl), hp, hq⟩
      · exact ⟨(mem_ins _ _ _ _).2 (Or.inr (h.oks y hy).1), (h.oks y hy).2⟩
    · refine okEn_of (b := b) rfl (findA_of ra h.adv fun y hy => ?_) (h.oke e he)
      rw [mem_ins]
      refine ⟨fun q => q.resolve_left fun e2 => ?_, Or.inr⟩
      have hk := h.oke e he
      unfold okEn at hk
      cases hf : findA b.adv e.tree with
      | none => rw [hf] at hk; cases hk
      | some z =>
        obtain ⟨z1, z2⟩ := findA_some hf
        exact hna z z1 (by rw [z2, ← hy, e2])
theorem forget_ok {b : Br} (h : OkBr b) (x : XID) (f : Int) : OkBr (forgetF b x f).1 := by
  unfold forgetF
  cases findA b.adv x with
  | none => exact h
  | some a =>
    simp only
    split
    · have ra : RiseA (b.adv.filter fun e => decide (e.id ≠ x)) := h.adv.sublist List.filter_sublist
      refine ⟨h.near, h.seen, ra, h.ent.sublist List.filter_sublist, h.own, fun y hy => h.oks y ((List.mem_filter.1 hy).1), fun e he => ?_, h.oko⟩
      have ht : e.tree ≠ x := of_decide_eq_true (List.mem_filter.1 he).2
      refine okEn_of (b := b) rfl (findA_of ra h.adv fun y hy => ?_) (h.oke e (List.mem_filter.1 he).1)
      rw [List.mem_filter]
      exact ⟨fun q => q.1, fun q => ⟨q, decide_eq_true (by rw [hy]; exact ht)⟩⟩
    · exact h
end Go.Proofs.YtonoadjmglkhaaaGreat.Av

namespace Go.Proofs.YtonoadjmglkhaaaGreat.Av
open Go.RowKit Go.Proofs.YtonoadjmglkhaaaGreat Go.Proofs.YtonoadjmglkhaaaGreat.Rw Go.Proofs.YtonoadjmglkhaaaGreat.Bk Go.Maps Go.ChangeMaps

theorem laidOut : laidOutB Tryz.prog = true := by kernel_rfl
theorem typesSize : Tryz.prog.types.size = 215 := by kernel_rfl
theorem law : Keyed Tryz.prog 37 := Keyed.of_law (deep_law_laid laidOut (m := 3) (by omega) (by rw [typesSize]; decide) (by kernel_rfl) (by kernel_rfl))
/-- Numbers of 64 bits. -/
def Ok2 (l : XID) : Prop := (-9223372036854775808 ≤ l.1 ∧ l.1 ≤ 9223372036854775807) ∧ (-9223372036854775808 ≤ l.2 ∧ l.2 ≤ 9223372036854775807)
theorem wf64 {n : Int} (h : -9223372036854775808 ≤ n ∧ n ≤ 9223372036854775807) : (Lit.int .i64 n).wf = true := by
  show (decide (IntKind.i64.min ≤ n) && decide (n ≤ IntKind.i64.max)) = true
  rw [Bool.and_eq_true, decide_eq_true_eq, decide_eq_true_eq, show IntKind.i64.min = -9223372036854775808 by decide, show IntKind.i64.max = 9223372036854775807 by decide]
  exact h
theorem key_some (l : XID) (h : Ok2 l) : ∃ kl, keyOf Tryz.prog 37 (idv l) = some kl := by
  have hk : Tryz.prog.keyType 37 = true := by kernel_rfl
  have c2 : Tryz.prog.cellsOf 37 = 2 := by kernel_rfl
  have c1 : Tryz.prog.cellsOf 3 = 1 := by kernel_rfl
  have w1 := wf64 h.1
  have w2 := wf64 h.2
  have e : ∀ d, Tryz.prog.keyLits (d + 1 + 1) 37 [.int .i64 l.1, .int .i64 l.2] = some [.int .i64 l.1, .int .i64 l.2] := fun d => by
    simp [Program.keyLits, Tryz.underlying37, Tryz.underlying3, c2, c1, List.range, List.drop, List.take, w1, w2]
  refine ⟨.string (keyBytes [.int .i64 l.1, .int .i64 l.2]), ?_⟩
  have f : Value.formed Tryz.prog 37 (idv l) = true := by simp [Value.formed, Tryz.underlying37, c2]
  have e2 := e (215 - 1)
  simp only [keyOf, Tryz.underlying37, hk, f, typesSize, Bool.and_self, if_true]
  show (Tryz.prog.keyLits (215 + 1) 37 [.int .i64 l.1, .int .i64 l.2]).map _ = _
  rw [show (215 + 1 : Nat) = (215 - 1) + 1 + 1 from rfl, e2]
  rfl
noncomputable def kl (l : XID) : Lit := (keyOf Tryz.prog 37 (idv l)).getD (.bool false)
theorem kl_is (l : XID) (h : Ok2 l) : keyOf Tryz.prog 37 (idv l) = some (kl l) := by
  obtain ⟨x, hx⟩ := key_some l h
  unfold kl
  rw [hx]
  rfl
theorem kl_inj {l m : XID} (hl : Ok2 l) (hm : Ok2 m) (h : kl l = kl m) : l = m := by
  have h1 := kl_is l hl
  rw [h] at h1
  have h2 := law.inj h1 (kl_is m hm)
  obtain ⟨a, b⟩ := l
  obtain ⟨c, d⟩ := m
  simpa using h2
theorem zeroB (w : World) : (zeroValue 4).run Tryz.prog w = .ok (.bool false) w := by kernel_rfl
/-- Block b is a map that holds true at just these IDs, each once. -/
def InMap (W : World) (b : Nat) (s : List XID) : Prop := ∃ (n : Nat) (D : DataW Unit), n ≤ s.length ∧ W.ownsMap Tryz.prog 37 (plainElem Tryz.prog 4) b n D ∧ IsMap D ∧ (∀ l, Ok2 l → D.atKey (kl l) (.lit (.bool false)) = .lit (.bool (decide (l ∈ s)))) ∧ (∀ l, Ok2 l → Maps.has D (kl l) = decide (l ∈ s)) ∧ Maps.size D = s.length
theorem inMap_made (w : World) : InMap (w.alloc (.map #[] 0)) w.heap.size [] :=
  ⟨0, .map [], Nat.le_refl _, World.ownsMap_made _ _ _ _, ⟨[], rfl⟩, fun l _ => by simp [DataW.atKey], fun l _ => by simp [Maps.has], rfl⟩
theorem InMap.lt {W : World} {b : Nat} {s : List XID} (h : InMap W b s) : b < W.heap.size := by
  obtain ⟨n, D, _, h2, _⟩ := h
  exact h2.lt
theorem InMap.of_block {W W' : World} {b : Nat} {s : List XID} (h : InMap W b s) (hb : W'.heap[b]? = W.heap[b]?) : InMap W' b s := by
  obtain ⟨n, D, h1, ⟨es, clock, h2, r⟩, h3⟩ := h
  exact ⟨n, D, h1, ⟨es, clock, by rw [hb]; exact h2, r⟩, h3⟩
theorem InMap.on {W W' : World} {b : Nat} {s : List XID} (h : InMap W b s) (hb : Below W.heap.size W W') : InMap W' b s := h.of_block (hb.block _ h.lt)
set_option maxRecDepth 100000 in
theorem InMap.look {W : World} {b : Nat} {s : List XID} (h : InMap W b s) (l : XID) (hl : Ok2 l) : (Instr.lookup 64 (.map (some b)) (idv l) false).run Tryz.prog W = .ok (.bool (decide (l ∈ s))) W := by
  obtain ⟨n, D, _, h2, _, h4, _⟩ := h
  obtain ⟨v, ps, hr, hv⟩ := h2.lookup law Tryz.underlying64 (zeroB W) (plainElem_bool Tryz.underlying4 _) (kl_is l hl)
  rw [h4 l hl] at hv
  rw [hr]
  cases v <;> simp [plainElem, Tryz.underlying4] at hv
  rw [hv.1]
theorem InMap.count {W : World} {b : Nat} {s : List XID} (h : InMap W b s) (ty : TypeId) : (Builtin.len_ #[64] ty #[.map (some b)]).run Tryz.prog W = .ok (.int .i64 (s.length : Nat)) W := by
  obtain ⟨n, D, _, h2, _, _, _, h6⟩ := h
  rw [h2.len Tryz.underlying64 ty, h6]
/-- What is told of a set once one more is in it. -/
def putS (s : List XID) (l : XID) : List XID := if l ∈ s then s else s ++ [l]
set_option maxRecDepth 100000 in
theorem InMap.store {W : World} {b : Nat} {s : List XID} (h : InMap W b s) (l : XID) (hl : Ok2 l) (hs : s.length < 1000) : ∃ W', (Instr.mapUpdate 64 (.map (some b)) (idv l) (.bool true)).run Tryz.prog W = .ok () W' ∧ InMap W' b (putS s l) ∧ W.grownBy W' (some b) := by
  obtain ⟨n, D, h1, h2, h3, h4, h5, h6⟩ := h
  have hp := h2.tidy law
  have hz := Maps.size_put hp (k := kl l) (.lit (.bool true))
  rw [h5 l hl] at hz
  obtain ⟨W', hr, ho, ht⟩ := h2.store law Tryz.underlying64 (by unfold maxLen; omega) (kl_is l hl) (plainElem_bool Tryz.underlying4 true)
  have hm : ∀ m, m ∈ putS s l ↔ m ∈ s ∨ m = l := fun m => by
    unfold putS
    split
    · rename_i hin
      exact ⟨Or.inl, fun h => h.elim id (fun e => e ▸ hin)⟩
    · simp
  have hat : ∀ m, Ok2 m → (D.put (kl l) (.lit (.bool true))).atKey (kl m) (.lit (.bool false)) = .lit (.bool (decide (m ∈ putS s l))) := fun m hmk => by
    by_cases e : m = l
    · subst e
      rw [atKey_put_same h3 (law.key (kl_is m hmk)), decide_eq_true ((hm m).2 (Or.inr rfl))]
    · rw [atKey_put_other (fun h => e (kl_inj hmk hl h)), h4 m hmk]
      exact congrArg (fun q => DataW.lit (Lit.bool q)) (Bool.eq_iff_iff.2 (by simp [hm, e]))
  have hha : ∀ m, Ok2 m → Maps.has (D.put (kl l) (.lit (.bool true))) (kl m) = decide (m ∈ putS s l) := fun m hmk => by
    by_cases e : m = l
    · subst e
      rw [Maps.has_put_same h3 (law.key (kl_is m hmk)), decide_eq_true ((hm m).2 (Or.inr rfl))]
    · rw [Maps.has_put_other (fun h => e (kl_inj hmk hl h)), h5 m hmk]
      exact Bool.eq_iff_iff.2 (by simp [hm, e])
  have hsz : Maps.size (D.put (kl l) (.lit (.bool true))) = (putS s l).length := by
    rw [hz, h6]
    unfold putS
    by_cases hin : l ∈ s
    · simp [hin]
    · simp [hin]
  refine ⟨W', hr, ?_, ht.grown⟩
  by_cases hin : l ∈ s
  · have hle : Maps.size (D.put (kl l) (.lit (.bool true))) ≤ n := by
      rw [hz, h6]
      have := h2.size_le
      rw [h6] at this
      simp [hin]
      exact this
    obtain ⟨es, clock, k1, k2, k3, k4⟩ := ho
    refine ⟨(putS s l).length, _, Nat.le_refl _, ⟨es, clock, k1, k2, ?_, k4⟩, h3.put _ _, hat, hha, hsz⟩
    have k5 : Maps.size (D.put (kl l) (.lit (.bool true))) = es.size := by rw [k4]; exact length_read es
    omega
  · exact ⟨n + 1, _, by unfold putS; rw [if_neg hin]; simp; omega, ho, ho.isMap, hat, hha, hsz⟩
end Go.Proofs.YtonoadjmglkhaaaGreat.Av
