/-
  What stays when a row of one's own is turned; a broker with one advertisement, one ID more. No program's function in it.
  The region of Learn that puts the advertisement in its place. Conditions: they rise; at most 900 of them.
-/
import Derived.Test.YtonoadjmglkhaaaQ019
import Derived.Test.YtonoadjmglkhaaaQ022
import Derived.Test.YtonoadjmglkhaaaQ015
import Derived.Test.YtonoadjmglkhaaaQ002
namespace Go.Proofs.Ytonoadjmglkhaaa.Av
open Go.RowKit Go.Sort Go.Proofs.Ytonoadjmglkhaaa Go.Proofs.Ytonoadjmglkhaaa.Rw Go.Proofs.Ytonoadjmglkhaaa.Nm Go.Proofs.Ytonoadjmglkhaaa.Pr Go.Proofs.Ytonoadjmglkhaaa.Bk

/-- All stays but one block, if there is one. -/
def Off (ob : Option Nat) (W x : World) : Prop := (∀ j, j < W.heap.size → some j ≠ ob → x.heap[j]? = W.heap[j]?) ∧ W.heap.size ≤ x.heap.size
/-- That one block is of the type t. -/
def Tag (ob : Option Nat) (W : World) (t : TypeId) : Prop := ∀ g, ob = some g → ∃ d, Box W g d t
theorem tag_own {α : Type} {E : Ek α} {W : World} {B : Nat} {v : Value} {l : List α} (h : Own E W B v l) : Tag v.ownBlock W E.t := by
  intro g hg
  rcases own_open h with ⟨rfl, _⟩ | ⟨g', c', cur, rfl, _, h2, _⟩
  · cases hg
  · obtain rfl : g' = g := by simpa [Value.ownBlock] using hg
    exact ⟨cur, h2⟩
theorem Off.own {α : Type} {E : Ek α} {ob : Option Nat} {W x : World} {B : Nat} {v : Value} {l : List α} {t : TypeId} (h : Off ob W x) (ho : Own E W B v l) (hg : Tag ob W t) (hne : (E.t == t) = false) : Own E x B v l := by
  refine ⟨ho.1, ?_⟩
  rcases ho.2 with h2 | ⟨g', cap, cur, h1, h2, h3, h4⟩
  · exact Or.inl h2
  · refine Or.inr ⟨g', cap, cur, h1, h2, ?_, h4⟩
    rw [h.1 g' (lt_of_heap h3) fun e => by
      obtain ⟨d, hd⟩ := hg g' e.symm
      exact box_ne (show Box W g' cur E.t from h3) hd hne rfl]
    exact h3
theorem Off.box {ob : Option Nat} {W x : World} {b : Nat} {cs : Array Value} {s t : TypeId} (h : Off ob W x) (hb : Box W b cs s) (hg : Tag ob W t) (hne : (s == t) = false) : Box x b cs s := (h.1 b hb.lt fun e => by
  obtain ⟨d, hd⟩ := hg b e.symm
  exact box_ne hb hd hne rfl).trans hb
theorem PM.off {w0 wr x : World} {B : Nat} {v : Value} {p : List C5} {ob : Option Nat} {t : TypeId} (h : PM w0 B wr v p) (hb : Off ob wr x) (hg : Tag ob wr t) (hne : (86 == t) = false) : PM w0 B x v p := h.imp id fun h => hb.own h hg hne
theorem AdM.off {w0 wr x : World} {B : Nat} {y : XAd} {a : Ad} {ob : Option Nat} {t : TypeId} (h : AdM w0 B wr y a) (hb : Off ob wr x) (hg : Tag ob wr t) (hne : (86 == t) = false) : AdM w0 B x y a := ⟨h.1, h.2.1, h.2.2.off hb hg hne⟩
theorem EnM.off {w0 wr x : World} {B : Nat} {y : XEn} {a : En} {ob : Option Nat} {t : TypeId} (h : EnM w0 B wr y a) (hb : Off ob wr x) (hg : Tag ob wr t) (hne : (86 == t) = false) : EnM w0 B x y a := ⟨h.1, h.2.1, h.2.2.1, h.2.2.2.1, h.2.2.2.2.off hb hg hne⟩
theorem OwM.off {w0 wr x : World} {B : Nat} {y : XOw} {a : Ow} {ob : Option Nat} {t : TypeId} (h : OwM w0 B wr y a) (hb : Off ob wr x) (hg : Tag ob wr t) (hne : (86 == t) = false) : OwM w0 B x y a := ⟨h.1, h.2.off hb hg hne⟩
theorem Cp.offD {w0 wr x : World} {B : Nat} {b : Br} {nv av sv ev ov av' : Sl} {al : List Ad} (h : Cp w0 B wr b nv av sv ev ov) (hb : Off (slv av).ownBlock wr x) (hx : ∃ l, OwnD x B (slv av') l ∧ All2 (AdM w0 B x) l al) : Cp w0 B x { b with adv := al } nv av' sv ev ov := by
  obtain ⟨l0, hl0, _⟩ := h.adv
  have hg := tag_own hl0
  exact {
    near := hb.own h.near hg (by decide)
    seen := hb.own h.seen hg (by decide)
    adv := hx
    ent := by obtain ⟨l, h1, h2⟩ := h.ent; exact ⟨l, hb.own h1 hg (by decide), h2.mono fun _ _ h => h.off hb hg (by decide)⟩
    own := by obtain ⟨l, h1, h2⟩ := h.own; exact ⟨l, hb.own h1 hg (by decide), h2.mono fun _ _ h => h.off hb hg (by decide)⟩ }
theorem Cp.offN {w0 wr x : World} {B : Nat} {b : Br} {nv av sv ev ov ev' : Sl} {el : List En} (h : Cp w0 B wr b nv av sv ev ov) (hb : Off (slv ev).ownBlock wr x) (hx : ∃ l, OwnN x B (slv ev') l ∧ All2 (EnM w0 B x) l el) : Cp w0 B x { b with ent := el } nv av sv ev' ov := by
  obtain ⟨l0, hl0, _⟩ := h.ent
  have hg := tag_own hl0
  exact {
    near := hb.own h.near hg (by decide)
    seen := hb.own h.seen hg (by decide)
    adv := by obtain ⟨l, h1, h2⟩ := h.adv; exact ⟨l, hb.own h1 hg (by decide), h2.mono fun _ _ h => h.off hb hg (by decide)⟩
    ent := hx
    own := by obtain ⟨l, h1, h2⟩ := h.own; exact ⟨l, hb.own h1 hg (by decide), h2.mono fun _ _ h => h.off hb hg (by decide)⟩ }
theorem Cp.offJ {w0 wr x : World} {B : Nat} {b : Br} {nv av sv ev ov sv' : Sl} {sl : List XID} (h : Cp w0 B wr b nv av sv ev ov) (hb : Off (slv sv).ownBlock wr x) (hx : OwnJ x B (slv sv') sl) : Cp w0 B x { b with seen := sl } nv av sv' ev ov := by
  have hg := tag_own h.seen
  exact {
    near := hb.own h.near hg (by decide)
    seen := hx
    adv := by obtain ⟨l, h1, h2⟩ := h.adv; exact ⟨l, hb.own h1 hg (by decide), h2.mono fun _ _ h => h.off hb hg (by decide)⟩
    ent := by obtain ⟨l, h1, h2⟩ := h.ent; exact ⟨l, hb.own h1 hg (by decide), h2.mono fun _ _ h => h.off hb hg (by decide)⟩
    own := by obtain ⟨l, h1, h2⟩ := h.own; exact ⟨l, hb.own h1 hg (by decide), h2.mono fun _ _ h => h.off hb hg (by decide)⟩ }
theorem all2_ins {α β : Type} {R : α → β → Prop} {l : List α} {m : List β} (h : All2 R l m) (k : Nat) {a : α} {b : β} (hr : R a b) : All2 R (insAt l k a) (insAt m k b) :=
  ((h.take k).append (.cons hr .nil)).append (h.drop k)
theorem keys_eq {w0 wr : World} {B : Nat} : ∀ {l : List XAd} {al : List Ad}, All2 (AdM w0 B wr) l al → l.map keyD = al.map Ad.id
  | _, _, .nil => rfl
  | _, _, .cons h t => by rw [List.map_cons, List.map_cons, keys_eq t]; exact congrArg (· :: _) h.1
theorem riseK_map {α : Type} (key : α → XID) (l : List α) : RiseK key l ↔ RiseK (fun x : XID => x) (l.map key) := by
  unfold RiseK
  rw [List.pairwise_map]
end Go.Proofs.Ytonoadjmglkhaaa.Av

namespace Go.Proofs.Ytonoadjmglkhaaa.Av
open Go.RowKit Go.Sort Go.Proofs.Ytonoadjmglkhaaa Go.Proofs.Ytonoadjmglkhaaa.Rw Go.Proofs.Ytonoadjmglkhaaa.Nm Go.Proofs.Ytonoadjmglkhaaa.Pr Go.Proofs.Ytonoadjmglkhaaa.Bk

def lrn4V (B : Nat) (b1 _b2 : Nat) (_me : Int) (_z1 : Value) (o2 : Option Addr) (n2 c2 : Nat) (_z3 _z4 _z5 : Value) (y1 y2 : Int) (yo : Option Addr) (yn yc : Nat) (y4 : Int) (p : List C5) (i : Nat) (v : Value) (x : World) : Prop :=
  match i with
  | 0 => v = .pointer (some ⟨b1, 2, none⟩)
  | 1 => v = .slice o2 n2 c2
  | 2 => v = .agg #[.int .i64 y1, .int .i64 y2, .slice yo yn yc, .int .i64 y4]
  | 3 => ∃ s : Sl, v = valD (y1, y2, s, y4) ∧ OwnC x B (slv s) p
  | _ => True
noncomputable def lrn4C : Code := ((Try.f5.body.bind (findRegion 4)).getD .skip)
theorem lrn4V_on (B : Nat) (b1 b2 : Nat) (me : Int) (z1 : Value) (o2 : Option Addr) (n2 c2 : Nat) (z3 z4 z5 : Value) (y1 y2 : Int) (yo : Option Addr) (yn yc : Nat) (y4 : Int) (p : List C5) (i : Nat) (v : Value) (x x' : World) (h : lrn4V B b1 b2 me z1 o2 n2 c2 z3 z4 z5 y1 y2 yo yn yc y4 p i v x) (hb : Below x.heap.size x x') : lrn4V B b1 b2 me z1 o2 n2 c2 z3 z4 z5 y1 y2 yo yn yc y4 p i v x' := by
  by_cases hi : i < 4
  · rcases (by omega : i = 0 ∨ i = 1 ∨ i = 2 ∨ i = 3) with rfl | rfl | rfl | rfl
    · exact h
    · exact h
    · exact h
    · obtain ⟨s, h1, h2⟩ := h; exact ⟨s, h1, Bk.own_on h2 hb⟩
  · unfold lrn4V
    split <;> first | omega | trivial
set_option maxRecDepth 100000 in
set_option maxHeartbeats 8000000 in
theorem lrn4 (Q : Exit → Act → World → Prop) (W : World) (B0 : Nat) (l : List XAd) (b1 b2 : Nat) (me : Int) (z1 : Value) (o2 : Option Addr) (n2 c2 : Nat) (z3 z4 z5 : Value) (y1 y2 : Int) (yo : Option Addr) (yn yc : Nat) (y4 : Int) (p : List C5) (u0 u1 u4 u5 u6 u7 u8 u9 u10 u11 u12 u13 u14 u15 u16 u17 u18 u19 u20 u21 u22 u23 u24 u25 : Value)
    (h1 : Box W b1 #[.int .i64 me, z1, .slice o2 n2 c2, z3, z4, z5] 33) (h2 : Box W b2 #[.int .i64 y1, .int .i64 y2, .slice yo yn yc, .int .i64 y4] 26) (ho : OwnD W B0 (.slice o2 n2 c2) l) (hr : RiseK keyD l) (hl : l.length ≤ 900) (hB : B0 ≤ W.heap.size) (hb0 : b1 < B0) (hp : RowC W (.slice yo yn yc) p) (lp : p.length ≤ 900)
    (hQ : ∀ (w1 : World) (v13 v14 v15 v16 v17 v18 : Value) (s1 : Option Addr) (s2 s3 : Nat) (t1 : Option Addr) (t2 t3 : Nat), Box w1 b1 #[.int .i64 me, z1, .slice o2 n2 c2, z3, z4, z5] 33 → OwnD w1 B0 (.slice t1 t2 t3) (insAt l (placeK keyD l (y1, y2)) (y1, y2, (s1, s2, s3), y4)) → OwnC w1 W.heap.size (.slice s1 s2 s3) p → Off (slv (o2, n2, c2)).ownBlock W w1 → Below B0 W w1 → Q .normal ⟨(u0 :: u1 :: .pointer (some ⟨b1, 0, none⟩) :: .pointer (some ⟨b2, 0, none⟩) :: u4 :: u5 :: u6 :: u7 :: u8 :: u9 :: u10 :: u11 :: u12 :: v13 :: v14 :: v15 :: v16 :: v17 :: v18 :: u19 :: u20 :: u21 :: u22 :: u23 :: u24 :: u25 :: []).toArray, []⟩ (w1.setCell ⟨b1, 2, none⟩ (.slice t1 t2 t3))) :
    Code.wp Try.prog lrn4C Q ⟨(u0 :: u1 :: .pointer (some ⟨b1, 0, none⟩) :: .pointer (some ⟨b2, 0, none⟩) :: u4 :: u5 :: u6 :: u7 :: u8 :: u9 :: u10 :: u11 :: u12 :: u13 :: u14 :: u15 :: u16 :: u17 :: u18 :: u19 :: u20 :: u21 :: u22 :: u23 :: u24 :: u25 :: []).toArray, []⟩ W := by
  have HQ := Lib.hid hQ
  have H1 := Lib.hid h1
  have H2 := Lib.hid h2
  have HO := Lib.hid ho
  have HR := Lib.hid hr
  have HL := Lib.hid hl
  have HB := Lib.hid hB
  have H0 := Lib.hid hb0
  have HP := Lib.hid hp
  have LP := Lib.hid lp
  clear hQ h1 h2 ho hr hl hB hb0 hp lp
  have stab := lrn4V_on W.heap.size b1 b2 me z1 o2 n2 c2 z3 z4 z5 y1 y2 yo yn yc y4 p
  unfold lrn4C
  conv => arg 2; whnf
  have nd : ∀ j, (j < 13 ∨ 17 ≤ j) → ∀ i, i < 4 → (fun i => 13 + i) i ≠ j := by
    intro j hj i hi h
    simp only at h
    omega
  refine Rg.region_live 7 4 (fun i => 13 + i) (fun _ => 4) (lrn4V W.heap.size b1 b2 me z1 o2 n2 c2 z3 z4 z5 y1 y2 yo yn yc y4 p) (by kernel_rfl) (by kernel_rfl) rfl (by decide) (fun i j _ _ h => by have h2 : 13 + i = 13 + j := h; omega) (fun i hi => by show 13 + i < 26; omega) ?_ (fun _ => Rg.hall_of 14 (by kernel_rfl)) ?_ ?_
  · intro i o hi ho a x D hnd hc hD hb seen K hK
    clear HQ
    rcases (by omega : i = 0 ∨ i = 1 ∨ i = 2 ∨ i = 3) with rfl | rfl | rfl | rfl
    · obtain rfl := Option.some.inj ho
      have e2 : a.eval (.tmp 2) = .pointer (some ⟨b1, 0, none⟩) := seen.kp 2 _ (nd 2 (by omega)) rfl
      exact Rg.op_value rfl rfl (Rg.ex_field a.eval _ 33 (.tmp 2) 2 rfl (by rw [e2]; simp [go_sem])) (hK _ _ rfl (Below.refl _ _) fun _ _ _ _ _ _ _ h => h)
    · obtain rfl := Option.some.inj ho
      have e13 : a.eval (.tmp 13) = .pointer (some ⟨b1, 2, none⟩) := seen.at_ ⟨0, .data⟩ (by simp) rfl (Or.inr (by decide))
      have y2 := (H1.out.on hb).cell 2
      simp only [List.getElem?_toArray, List.getElem?_cons_zero, List.getElem?_cons_succ] at y2
      exact Rg.op_value rfl rfl (Rg.ex_load a.eval _ 28 (.tmp 13) rfl (by rw [e13]; simp [go_sem, y2])) (hK _ _ rfl (Below.refl _ _) fun _ _ _ _ _ _ _ h => h)
    · obtain rfl := Option.some.inj ho
      have e3 : a.eval (.tmp 3) = .pointer (some ⟨b2, 0, none⟩) := seen.kp 3 _ (nd 3 (by omega)) rfl
      have y0 := (H2.out.on hb).cell 0
      have y1 := (H2.out.on hb).cell 1
      have y2 := (H2.out.on hb).cell 2
      have y3 := (H2.out.on hb).cell 3
      simp only [List.getElem?_toArray, List.getElem?_cons_zero, List.getElem?_cons_succ] at y0 y1 y2 y3
      exact Rg.op_value rfl rfl (Rg.ex_load a.eval _ 26 (.tmp 3) rfl (by rw [e3]; simp [go_sem, y0, y1, y2, y3])) (hK _ _ rfl (Below.refl _ _) fun _ _ _ _ _ _ _ h => h)
    · obtain rfl := Option.some.inj ho
      have e15 : a.eval (.tmp 15) = .agg #[.int .i64 y1, .int .i64 y2, .slice yo yn yc, .int .i64 y4] := seen.at_ ⟨2, .data⟩ (by simp) rfl (Or.inr (by decide))
      exact Rg.op_call rfl rfl (Rw.ex_call1 a.eval _ (.tmp 15) 26 17 rfl e15 rfl _ (call_fn Try.func17 rfl rfl _ _)) (cpAd_any (y1, y2, (yo, yn, yc), y4) p x (HP.out.on hb) LP.out) fun e w1 h => by
        obtain ⟨⟨s, rfl, h1⟩, h3⟩ := h
        exact ⟨_, rfl, hK _ _ ⟨s, rfl, own_fewer h1 hb.size⟩ (h3.mono hb.size) fun j u hj _ _ _ hne h => stab j u _ _ h h3⟩
  · intro kk o h1 h2 ho
    rcases (by omega : kk = 5 ∨ kk = 6) with rfl | rfl
    · obtain rfl := Option.some.inj ho
      exact ⟨⟨4, .phase⟩, by simp, rfl, rfl⟩
    · obtain rfl := Option.some.inj ho
      exact ⟨⟨5, .data⟩, by simp, rfl, rfl⟩
  · intro a w' df sz kp ⟨vs, hv⟩ hb
    have sz' : a.tmps.size = 26 := sz
    have g2 : a.tmps[2]? = some (.pointer (some ⟨b1, 0, none⟩)) := (kp 2 (nd 2 (by omega))).trans rfl
    have g14 : a.tmps[14]? = some (.slice o2 n2 c2) := by
      have h : vs 1 = .slice o2 n2 c2 := (hv 1 (by omega)).2 (by decide)
      rw [← h]
      exact (hv 1 (by omega)).1
    obtain ⟨⟨s1, s2, s3⟩, hs, hc⟩ := (hv 3 (by omega)).2 (by decide)
    have g16 : a.tmps[16]? = some (valD (y1, y2, (s1, s2, s3), y4)) := ((hv 3 (by omega)).1).trans (congrArg some hs)
    have B1 := H1.out.on hb
    show Rg.SeqFrom _ _ _ 3 4 a w'
    simp only [Rg.SeqFrom]
    refine Rg.op_call rfl rfl (ex_call3g a.eval _ (.tmp 14) (.tmp 16) (.func 18) 28 26 54 16 rfl (Rg.eval_some g14) (Rg.eval_some g16) rfl rfl _ (call_fn Try.func16 rfl rfl _ _)) (putD_any B0 (o2, n2, c2) l (y1, y2, (s1, s2, s3), y4) w' (Bk.own_on HO.out hb) HR.out HL.out (Nat.le_trans HB.out hb.size)) fun e w1 h => ?_
    obtain ⟨⟨⟨t1, t2, t3⟩, rfl, hown⟩, hbel, hoth⟩ := h
    refine ⟨_, rfl, ?_⟩
    have hp17 : (a.put (some 17) (.slice t1 t2 t3)).tmps[17]? = some (.slice t1 t2 t3) := by simp [Act.put, sz']
    show Go.wpOp _ _ _ 5 _ (a.put (some 17) (.slice t1 t2 t3)) _
    refine Rg.op_value rfl rfl (Rg.ex_field _ _ 33 (.tmp 2) 2 rfl (v := .pointer (some ⟨b1, 2, none⟩)) (by rw [Rg.eval_some ((Rg.get_put _ 17 _ 2 (by decide)).trans g2)]; simp [go_sem])) ?_
    have hp18 : ((a.put (some 17) (.slice t1 t2 t3)).put (some 18) (.pointer (some ⟨b1, 2, none⟩))).tmps[18]? = some (.pointer (some ⟨b1, 2, none⟩)) := by simp [Act.put, sz']
    show Go.wpOp _ _ _ 6 _ ((a.put (some 17) (.slice t1 t2 t3)).put (some 18) (.pointer (some ⟨b1, 2, none⟩))) _
    have B2 : Box w1 b1 _ _ := (hbel.block b1 H0.out).trans B1
    have cx := B2.cell 2
    have fx := B2.fr 2
    simp only [List.getElem?_toArray, List.getElem?_cons_zero, List.getElem?_cons_succ] at cx
    refine Rg.op_store 28 (.tmp 18) (.tmp 17) rfl rfl rfl rfl (Rg.eval_some hp18) (Rg.eval_some ((Rg.get_put _ 18 _ 17 (by decide)).trans hp17)) (w' := w1.setCell ⟨b1, 2, none⟩ (.slice t1 t2 t3)) (by simp [go_sem, cx, fx]) ?_
    have of1 : Off (slv (o2, n2, c2)).ownBlock w' w1 := ⟨hoth, hbel.size⟩
    have of2 : Off (slv (o2, n2, c2)).ownBlock W w1 := ⟨fun j hj hne => (hoth j (Nat.lt_of_lt_of_le hj hb.size) hne).trans (hb.block j hj), Nat.le_trans hb.size hbel.size⟩
    have kp2 : ∀ j, (j < 13 ∨ 19 ≤ j) → ((a.put (some 17) (.slice t1 t2 t3)).put (some 18) (.pointer (some ⟨b1, 2, none⟩))).tmps[j]? = (u0 :: u1 :: .pointer (some ⟨b1, 0, none⟩) :: .pointer (some ⟨b2, 0, none⟩) :: u4 :: u5 :: u6 :: u7 :: u8 :: u9 :: u10 :: u11 :: u12 :: u13 :: u14 :: u15 :: u16 :: u17 :: u18 :: u19 :: u20 :: u21 :: u22 :: u23 :: u24 :: u25 :: [])[j]? := fun j hj => (Rg.get_put _ 18 _ j (by omega)).trans ((Rg.get_put _ 17 _ j (by omega)).trans ((kp j (nd j (by omega))).trans List.getElem?_toArray))
    obtain ⟨mid, hmid, hfr⟩ := Rg.frame_mid (a := (a.put (some 17) (.slice t1 t2 t3)).put (some 18) (.pointer (some ⟨b1, 2, none⟩))) (bl := (u0 :: u1 :: .pointer (some ⟨b1, 0, none⟩) :: .pointer (some ⟨b2, 0, none⟩) :: u4 :: u5 :: u6 :: u7 :: u8 :: u9 :: u10 :: u11 :: u12 :: u13 :: u14 :: u15 :: u16 :: u17 :: u18 :: u19 :: u20 :: u21 :: u22 :: u23 :: u24 :: u25 :: [])) 13 6 df (by simp [Rg.size_put, sz']) (by simp) kp2
    show Q .normal ((a.put (some 17) (.slice t1 t2 t3)).put (some 18) (.pointer (some ⟨b1, 2, none⟩))) _
    rw [hfr]
    match mid, hmid with
    | [v13, v14, v15, v16, v17, v18], _ =>
      exact HQ.out w1 _ _ _ _ _ _ s1 s2 s3 t1 t2 t3 B2 hown (of1.own hc (tag_own (Bk.own_on HO.out hb)) (by decide)) of2 ((hb.mono HB.out).trans hbel)
end Go.Proofs.Ytonoadjmglkhaaa.Av
