/-
  put of package adverts: an ID, an advertisement in its place. Conditions: the row is one's own and rises; at most 900 of them.
  What stays when a row of one's own is turned; a broker with one advertisement, one ID more. No program's function in it.
  slices.Index and slices.Contains of IDs, adverts.Seen. Condition: rows no longer than a machine holds.
-/
import Derived.Test.YtonoadjmglkhaaaGreatU016
import Derived.Test.YtonoadjmglkhaaaGreatU017
import Derived.Test.YtonoadjmglkhaaaGreatU023
import Derived.Test.YtonoadjmglkhaaaGreatU022
import Derived.Test.YtonoadjmglkhaaaGreatU003
import Derived.Test.YtonoadjmglkhaaaGreatU008
import Derived.Deep.RegionLaw
import Derived.Lib.QuietBelow
import Derived.BigQuiet
namespace Go.Proofs.YtonoadjmglkhaaaGreat.Av
open Go.RowKit Go.Sort Go.Proofs.YtonoadjmglkhaaaGreat Go.Proofs.YtonoadjmglkhaaaGreat.Rw Go.Proofs.YtonoadjmglkhaaaGreat.Nm Go.Proofs.YtonoadjmglkhaaaGreat.Pr Go.Proofs.YtonoadjmglkhaaaGreat.Bk

theorem place_leJ (l : List XID) (y : XID) : placeK keyJ l y ≤ l.length := by
  rw [placeK_map]
  exact Nat.le_trans (place_le _ _) (by simp)
set_option maxRecDepth 100000 in
set_option maxHeartbeats 8000000 in
theorem putJ_any (B : Nat) (v : Sl) (l : List XID) (x : XID) (w : World) (ho : Own EJ w B (slv v) l) (hr : RiseK keyJ l) (hl : l.length ≤ 900) (hB : B ≤ w.heap.size) :
    Calls Tryz.prog 33 #[slv v, idv x, .func (.func 34) #[] #[]] w fun e w' => (∃ v' : Sl, e = .returned (slv v') ∧ Own EJ w' B (slv v') (insAt l (placeK keyJ l (keyJ x)) x)) ∧ Below B w w' ∧ (∀ j, j < w.heap.size → some j ≠ (slv v).ownBlock → w'.heap[j]? = w.heap[j]?) := by
  have h0 := newB w (.cells #[.int .i64 x.1, .int .i64 x.2] 37)
  have X := box_new w #[.int .i64 x.1, .int .i64 x.2] 37
  have C := Lib.hid (bsJ_any (slv v) l x _ ((Row.of_own ho).on h0) hr hl)
  obtain ⟨ks, hks⟩ : ∃ k, k = placeK keyJ l (keyJ x) := ⟨_, rfl⟩
  have KL : ks ≤ l.length := by rw [hks]; exact place_leJ _ _
  rw [← hks] at C
  rw [← hks]
  generalize thereK keyJ l (keyJ x) = th at *
  have OW := Lib.hid (Bk.own_on ho h0)
  have HV := Lib.hid (show (slv v).ownBlock ≠ none → ∃ g, (slv v).ownBlock = some g ∧ g < w.heap.size from fun hne => by
    cases hb : (slv v).ownBlock with
    | none => exact absurd hb hne
    | some g => exact ⟨g, rfl, (ho.lt g hb).2⟩)
  have B0 := Lib.hid ((Below.refl B w).alloc hB (.cells #[.int .i64 x.1, .int .i64 x.2] 37))
  have BN0 := Lib.hid h0
  have KK := Lib.hid KL
  have LL := Lib.hid hl
  have BB := Lib.hid hB
  clear h0 ho hr hl hB hks KL
  obtain ⟨c1, c2⟩ := x
  obtain ⟨vo, vn, vc⟩ := v
  simp only at C X
  have x0 := X.cell 0
  have x1 := X.cell 1
  simp only [List.getElem?_toArray, List.getElem?_cons_zero, List.getElem?_cons_succ] at x0 x1
  have XX := Lib.hid X
  clear X
  go_enter Tryz.func33, Tryz.ntmps33
  go_wp2_with fail
  have W1 := Lib.hid (show w.heap.size ≤ (w.alloc (.cells #[.int .i64 c1, .int .i64 c2] 37)).heap.size by simp)
  generalize w.alloc (.cells #[.int .i64 c1, .int .i64 c2] 37) = W at *
  refine C.out.mono ?_
  rintro e w1 ⟨rfl, hb⟩
  have Y := XX.out.on hb
  have y0 := Y.cell 0
  have y1 := Y.cell 1
  simp only [List.getElem?_toArray, List.getElem?_cons_zero, List.getElem?_cons_succ] at y0 y1
  have O1 := Lib.hid (Bk.own_on OW.out hb)
  have B1 := Lib.hid (B0.out.trans (hb.mono (Nat.le_trans BB.out W1.out)))
  have BW := Lib.hid (fun j (hj : j < w.heap.size) => (hb.block j (Nat.lt_of_lt_of_le hj W1.out)).trans (BN0.out.block j hj))
  have S1 := Lib.hid (Nat.le_trans W1.out hb.size)
  clear C Y hb x0 x1
  go_wp2_with fail
  have hl := LL.out
  have NB := newB w1 (.cells #[.int .i64 c1, .int .i64 c2] 37)
  refine (insert_anyJ B _ l ks (c1, c2) w1.heap.size _ (Bk.own_on O1.out NB) (box_new w1 #[.int .i64 c1, .int .i64 c2] 37) ?_ KK.out (by omega) (Nat.le_trans (Nat.le_trans BB.out S1.out) NB.size)).mono ?_
  · intro he
    obtain ⟨g, hg, hlt⟩ := HV.out (by rw [he]; simp)
    rw [he] at hg
    have := Option.some.inj hg
    have := S1.out
    omega
  rintro e w2 ⟨v', rfl, ho, hb, hoth⟩
  obtain ⟨a1, a2, hv⟩ := (Row.of_own ho).len
  have Q := Lib.hid (show (∃ v'' : Sl, Ending.returned v' = .returned (slv v'') ∧ Own EJ w2 B (slv v'') (insAt l ks (c1, c2))) ∧ Below B w w2 ∧ (∀ j, j < w.heap.size → some j ≠ (slv (vo, vn, vc)).ownBlock → w2.heap[j]? = w.heap[j]?) from ⟨⟨(a1, _, a2), by rw [hv], by subst hv; simpa [insAt] using ho⟩, (B1.out.trans (NB.mono (Nat.le_trans BB.out S1.out))).trans hb, fun j hj hne => (hoth j (Nat.lt_of_lt_of_le (Nat.lt_of_lt_of_le hj S1.out) NB.size) hne).trans ((NB.block j (Nat.lt_of_lt_of_le hj S1.out)).trans (BW.out j hj))⟩)
  clear ho hb hv hl NB
  go_wp2
  go_ret
  exact Q.out
theorem place_leD (l : List XAd) (y : XID) : placeK keyD l y ≤ l.length := by
  rw [placeK_map]
  exact Nat.le_trans (place_le _ _) (by simp)
set_option maxRecDepth 100000 in
set_option maxHeartbeats 8000000 in
theorem putD_any (B : Nat) (v : Sl) (l : List XAd) (x : XAd) (w : World) (ho : Own ED w B (slv v) l) (hr : RiseK keyD l) (hl : l.length ≤ 900) (hB : B ≤ w.heap.size) :
    Calls Tryz.prog 30 #[slv v, valD x, .func (.func 32) #[] #[]] w fun e w' => (∃ v' : Sl, e = .returned (slv v') ∧ Own ED w' B (slv v') (insAt l (placeK keyD l (keyD x)) x)) ∧ Below B w w' ∧ (∀ j, j < w.heap.size → some j ≠ (slv v).ownBlock → w'.heap[j]? = w.heap[j]?) := by
  have h0 := newB w (.cells #[.int .i64 x.1, .int .i64 x.2.1, slv x.2.2.1, .int .i64 x.2.2.2] 42)
  have X := box_new w #[.int .i64 x.1, .int .i64 x.2.1, slv x.2.2.1, .int .i64 x.2.2.2] 42
  have C := Lib.hid (bsD_any (slv v) l x _ ((Row.of_own ho).on h0) hr hl)
  obtain ⟨ks, hks⟩ : ∃ k, k = placeK keyD l (keyD x) := ⟨_, rfl⟩
  have KL : ks ≤ l.length := by rw [hks]; exact place_leD _ _
  have e1 : keyD x = (x.1, x.2.1) := rfl
  rw [← e1] at C
  rw [← hks] at C
  rw [← hks]
  generalize thereK keyD l (keyD x) = th at *
  have OW := Lib.hid (Bk.own_on ho h0)
  have HV := Lib.hid (show (slv v).ownBlock ≠ none → ∃ g, (slv v).ownBlock = some g ∧ g < w.heap.size from fun hne => by
    cases hb : (slv v).ownBlock with
    | none => exact absurd hb hne
    | some g => exact ⟨g, rfl, (ho.lt g hb).2⟩)
  have B0 := Lib.hid ((Below.refl B w).alloc hB (.cells #[.int .i64 x.1, .int .i64 x.2.1, slv x.2.2.1, .int .i64 x.2.2.2] 42))
  have BN0 := Lib.hid h0
  have KK := Lib.hid KL
  have LL := Lib.hid hl
  have BB := Lib.hid hB
  clear h0 ho hr hl hB hks KL
  obtain ⟨c1, c2, ⟨c3, c4, c5⟩, c6⟩ := x
  obtain ⟨vo, vn, vc⟩ := v
  simp only at C X
  have x0 := X.cell 0
  have x1 := X.cell 1
  have x2 := X.cell 2
  have x3 := X.cell 3
  simp only [List.getElem?_toArray, List.getElem?_cons_zero, List.getElem?_cons_succ] at x0 x1 x2 x3
  have XX := Lib.hid X
  clear X
  go_enter Tryz.func30, Tryz.ntmps30
  go_wp2_with fail
  have W1 := Lib.hid (show w.heap.size ≤ (w.alloc (.cells #[.int .i64 c1, .int .i64 c2, .slice c3 c4 c5, .int .i64 c6] 42)).heap.size by simp)
  generalize w.alloc (.cells #[.int .i64 c1, .int .i64 c2, .slice c3 c4 c5, .int .i64 c6] 42) = W at *
  refine C.out.mono ?_
  rintro e w1 ⟨rfl, hb⟩
  have Y := XX.out.on hb
  have y0 := Y.cell 0
  have y1 := Y.cell 1
  have y2 := Y.cell 2
  have y3 := Y.cell 3
  simp only [List.getElem?_toArray, List.getElem?_cons_zero, List.getElem?_cons_succ] at y0 y1 y2 y3
  have O1 := Lib.hid (Bk.own_on OW.out hb)
  have B1 := Lib.hid (B0.out.trans (hb.mono (Nat.le_trans BB.out W1.out)))
  have BW := Lib.hid (fun j (hj : j < w.heap.size) => (hb.block j (Nat.lt_of_lt_of_le hj W1.out)).trans (BN0.out.block j hj))
  have S1 := Lib.hid (Nat.le_trans W1.out hb.size)
  clear C Y hb x0 x1 x2 x3
  go_wp2_with fail
  have hl := LL.out
  have NB := newB w1 (.cells #[.int .i64 c1, .int .i64 c2, .slice c3 c4 c5, .int .i64 c6] 42)
  refine (insert_anyD B _ l ks (c1, c2, (c3, c4, c5), c6) w1.heap.size _ (Bk.own_on O1.out NB) (box_new w1 #[.int .i64 c1, .int .i64 c2, .slice c3 c4 c5, .int .i64 c6] 42) ?_ KK.out (by omega) (Nat.le_trans (Nat.le_trans BB.out S1.out) NB.size)).mono ?_
  · intro he
    obtain ⟨g, hg, hlt⟩ := HV.out (by rw [he]; simp)
    rw [he] at hg
    have := Option.some.inj hg
    have := S1.out
    omega
  rintro e w2 ⟨v', rfl, ho, hb, hoth⟩
  obtain ⟨a1, a2, hv⟩ := (Row.of_own ho).len
  have Q := Lib.hid (show (∃ v'' : Sl, Ending.returned v' = .returned (slv v'') ∧ Own ED w2 B (slv v'') (insAt l ks (c1, c2, (c3, c4, c5), c6))) ∧ Below B w w2 ∧ (∀ j, j < w.heap.size → some j ≠ (slv (vo, vn, vc)).ownBlock → w2.heap[j]? = w.heap[j]?) from ⟨⟨(a1, _, a2), by rw [hv], by subst hv; simpa [insAt] using ho⟩, (B1.out.trans (NB.mono (Nat.le_trans BB.out S1.out))).trans hb, fun j hj hne => (hoth j (Nat.lt_of_lt_of_le (Nat.lt_of_lt_of_le hj S1.out) NB.size) hne).trans ((NB.block j (Nat.lt_of_lt_of_le hj S1.out)).trans (BW.out j hj))⟩)
  clear ho hb hv hl NB
  go_wp2
  go_ret
  exact Q.out
end Go.Proofs.YtonoadjmglkhaaaGreat.Av

namespace Go.Proofs.YtonoadjmglkhaaaGreat.Av
open Go.RowKit Go.Sort Go.Proofs.YtonoadjmglkhaaaGreat Go.Proofs.YtonoadjmglkhaaaGreat.Rw Go.Proofs.YtonoadjmglkhaaaGreat.Nm Go.Proofs.YtonoadjmglkhaaaGreat.Pr Go.Proofs.YtonoadjmglkhaaaGreat.Bk

/-- All stays but one block, if there is one. -/
def Off (ob : Option Nat) (W x : World) : Prop := (∀ j, j < W.heap.size → some j ≠ ob → x.heap[j]? = W.heap[j]?) ∧ W.heap.size ≤ x.heap.size
/-- That one block is of the type t. -/
def Tag (ob : Option Nat) (W : World) (t : TypeId) : Prop := ∀ g, ob = some g → ∃ d, Box W g d t
theorem tag_own {α : Type} {E : Ek α} {W : World} {B : Nat} {v : Value} {l : List α} (h : Own E W B v l) : Tag v.ownBlock W E.t := by
  intro g hg
  rcases own_open h with ⟨rfl, _⟩ | ⟨g', c', cur, rfl, _, h2, _⟩
  · cases hg
  · obtain rfl : g' = g := by simpa [Value.ownBlock] using hg
    exact ⟨cur, h2⟩
theorem Off.own {α : Type} {E : Ek α} {ob : Option Nat} {W x : World} {B : Nat} {v : Value} {l : List α} {t : TypeId} (h : Off ob W x) (ho : Own E W B v l) (hg : Tag ob W t) (hne : (E.t == t) = false) : Own E x B v l := by
  refine ⟨ho.1, ?_⟩
  rcases ho.2 with h2 | ⟨g', cap, cur, h1, h2, h3, h4⟩
  · exact Or.inl h2
  · refine Or.inr ⟨g', cap, cur, h1, h2, ?_, h4⟩
    rw [h.1 g' (lt_of_heap h3) fun e => by
      obtain ⟨d, hd⟩ := hg g' e.symm
      exact box_ne (show Box W g' cur E.t from h3) hd hne rfl]
    exact h3
theorem Off.box {ob : Option Nat} {W x : World} {b : Nat} {cs : Array Value} {s t : TypeId} (h : Off ob W x) (hb : Box W b cs s) (hg : Tag ob W t) (hne : (s == t) = false) : Box x b cs s := (h.1 b hb.lt fun e => by
  obtain ⟨d, hd⟩ := hg b e.symm
  exact box_ne hb hd hne rfl).trans hb
theorem PM.off {w0 wr x : World} {B : Nat} {v : Value} {p : List C5} {ob : Option Nat} {t : TypeId} (h : PM w0 B wr v p) (hb : Off ob wr x) (hg : Tag ob wr t) (hne : (62 == t) = false) : PM w0 B x v p := h.imp id fun h => hb.own h hg hne
theorem AdM.off {w0 wr x : World} {B : Nat} {y : XAd} {a : Ad} {ob : Option Nat} {t : TypeId} (h : AdM w0 B wr y a) (hb : Off ob wr x) (hg : Tag ob wr t) (hne : (62 == t) = false) : AdM w0 B x y a := ⟨h.1, h.2.1, h.2.2.off hb hg hne⟩
theorem EnM.off {w0 wr x : World} {B : Nat} {y : XEn} {a : En} {ob : Option Nat} {t : TypeId} (h : EnM w0 B wr y a) (hb : Off ob wr x) (hg : Tag ob wr t) (hne : (62 == t) = false) : EnM w0 B x y a := ⟨h.1, h.2.1, h.2.2.1, h.2.2.2.1, h.2.2.2.2.off hb hg hne⟩
theorem OwM.off {w0 wr x : World} {B : Nat} {y : XOw} {a : Ow} {ob : Option Nat} {t : TypeId} (h : OwM w0 B wr y a) (hb : Off ob wr x) (hg : Tag ob wr t) (hne : (62 == t) = false) : OwM w0 B x y a := ⟨h.1, h.2.off hb hg hne⟩
theorem Cp.offD {w0 wr x : World} {B : Nat} {b : Br} {nv av sv ev ov av' : Sl} {al : List Ad} (h : Cp w0 B wr b nv av sv ev ov) (hb : Off (slv av).ownBlock wr x) (hx : ∃ l, OwnD x B (slv av') l ∧ All2 (AdM w0 B x) l al) : Cp w0 B x { b with adv := al } nv av' sv ev ov := by
  obtain ⟨l0, hl0, _⟩ := h.adv
  have hg := tag_own hl0
  exact {
    near := hb.own h.near hg (by decide)
    seen := hb.own h.seen hg (by decide)
    adv := hx
    ent := by obtain ⟨l, h1, h2⟩ := h.ent; exact ⟨l, hb.own h1 hg (by decide), h2.mono fun _ _ h => h.off hb hg (by decide)⟩
    own := by obtain ⟨l, h1, h2⟩ := h.own; exact ⟨l, hb.own h1 hg (by decide), h2.mono fun _ _ h => h.off hb hg (by decide)⟩ }
theorem Cp.offN {w0 wr x : World} {B : Nat} {b : Br} {nv av sv ev ov ev' : Sl} {el : List En} (h : Cp w0 B wr b nv av sv ev ov) (hb : Off (slv ev).ownBlock wr x) (hx : ∃ l, OwnN x B (slv ev') l ∧ All2 (EnM w0 B x) l el) : Cp w0 B x { b with ent := el } nv av sv ev' ov := by
  obtain ⟨l0, hl0, _⟩ := h.ent
  have hg := tag_own hl0
  exact {
    near := hb.own h.near hg (by decide)
    seen := hb.own h.seen hg (by decide)
    adv := by obtain ⟨l, h1, h2⟩ := h.adv; exact ⟨l, hb.own h1 hg (by decide), h2.mono fun _ _ h => h.off hb hg (by decide)⟩
    ent := hx
    own := by obtain ⟨l, h1, h2⟩ := h.own; exact ⟨l, hb.own h1 hg (by decide), h2.mono fun _ _ h => h.off hb hg (by decide)⟩ }
theorem Cp.offJ {w0 wr x : World} {B : Nat} {b : Br} {nv av sv ev ov sv' : Sl} {sl : List XID} (h : Cp w0 B wr b nv av sv ev ov) (hb : Off (slv sv).ownBlock wr x) (hx : OwnJ x B (slv sv') sl) : Cp w0 B x { b with seen := sl } nv av sv' ev ov := by
  have hg := tag_own h.seen
  exact {
    near := hb.own h.near hg (by decide)
    seen := hx
    adv := by obtain ⟨l, h1, h2⟩ := h.adv; exact ⟨l, hb.own h1 hg (by decide), h2.mono fun _ _ h => h.off hb hg (by decide)⟩
    ent := by obtain ⟨l, h1, h2⟩ := h.ent; exact ⟨l, hb.own h1 hg (by decide), h2.mono fun _ _ h => h.off hb hg (by decide)⟩
    own := by obtain ⟨l, h1, h2⟩ := h.own; exact ⟨l, hb.own h1 hg (by decide), h2.mono fun _ _ h => h.off hb hg (by decide)⟩ }
theorem all2_ins {α β : Type} {R : α → β → Prop} {l : List α} {m : List β} (h : All2 R l m) (k : Nat) {a : α} {b : β} (hr : R a b) : All2 R (insAt l k a) (insAt m k b) :=
  ((h.take k).append (.cons hr .nil)).append (h.drop k)
theorem keys_eq {w0 wr : World} {B : Nat} : ∀ {l : List XAd} {al : List Ad}, All2 (AdM w0 B wr) l al → l.map keyD = al.map Ad.id
  | _, _, .nil => rfl
  | _, _, .cons h t => by rw [List.map_cons, List.map_cons, keys_eq t]; exact congrArg (· :: _) h.1
theorem riseK_map {α : Type} (key : α → XID) (l : List α) : RiseK key l ↔ RiseK (fun x : XID => x) (l.map key) := by
  unfold RiseK
  rw [List.pairwise_map]
end Go.Proofs.YtonoadjmglkhaaaGreat.Av

namespace Go.Proofs.YtonoadjmglkhaaaGreat.Av
open Go.RowKit Go.Proofs.YtonoadjmglkhaaaGreat Go.Proofs.YtonoadjmglkhaaaGreat.Rw Go.Proofs.YtonoadjmglkhaaaGreat.Nm Go.Proofs.YtonoadjmglkhaaaGreat.Pr Go.Proofs.YtonoadjmglkhaaaGreat.Bk

theorem findI_none (l : List XID) (x : XID) (h : ∀ (j : Nat) (y : XID), l[j]? = some y → y ≠ x) : findI l x = -1 := by
  induction l with
  | nil => rfl
  | cons a l ih =>
    rw [findI, if_neg (h 0 a rfl), ih fun j y hj => h (j + 1) y (by simpa using hj), if_pos rfl]
theorem findI_at (l : List XID) (k : Nat) (x : XID) (h : l[k]? = some x) (hall : ∀ (j : Nat) (z : XID), j < k → l[j]? = some z → z ≠ x) : findI l x = k := by
  induction l generalizing k with
  | nil => simp at h
  | cons a l ih =>
    cases k with
    | zero =>
      obtain rfl : a = x := by simpa using h
      rw [findI, if_pos rfl]
      rfl
    | succ k =>
      have h2 := ih k (by simpa using h) fun j z hj hz => hall (j + 1) z (by omega) (by simpa using hz)
      rw [findI, if_neg (hall 0 a (by omega) rfl), h2, if_neg (by omega)]
      omega
theorem findI_in (l : List XID) (x : XID) : decide ((0 : Int) ≤ findI l x) = decide (x ∈ l) := by
  induction l with
  | nil => simp [findI]
  | cons a l ih =>
    have hb := findI_bd l x
    rw [findI]
    by_cases h : a = x
    · rw [if_pos h]; simp [h]
    · rw [if_neg h]
      have h' : ¬ x = a := fun e => h e.symm
      simp only [List.mem_cons, h', false_or]
      rw [← ih]
      by_cases h2 : findI l x = -1
      · rw [if_pos h2, h2]
      · rw [if_neg h2]
        have h3 : 0 ≤ findI l x := by omega
        have h4 : 0 ≤ findI l x + 1 := by omega
        simp [h3, h4]
set_option maxRecDepth 100000 in
set_option maxHeartbeats 8000000 in
theorem index_any (sv : Sl) (l : List XID) (x : XID) (w : World) (hs : RowJ w (slv sv) l) :
    Calls Tryz.prog 115 #[slv sv, idv x] w fun e w' => e = .returned (.int .i64 (findI l x)) ∧ Below w.heap.size w w' := by
  obtain ⟨c, d⟩ := x
  obtain ⟨so, sn, sc⟩ := sv
  obtain ⟨ao, ac, hv⟩ := hs.len
  have hv : Value.slice so sn sc = .slice ao l.length ac := hv
  obtain ⟨rfl, rfl, rfl⟩ : so = ao ∧ sn = l.length ∧ sc = ac := by simpa using hv
  have h0 := newB w (.cells #[.int .i64 c, .int .i64 d] 37)
  have h2 := box_new w #[.int .i64 c, .int .i64 d] 37
  have B := Lib.hid h0
  have HS := Lib.hid (hs.on h0)
  have X3 := Lib.hid h2
  have lm := hs.most
  unfold maxLen at lm
  obtain ⟨n, hn⟩ : ∃ n, n = l.length := ⟨_, rfl⟩
  rw [← hn] at HS lm ⊢
  have HN := Lib.hid hn.symm
  clear h0 h2 hs hv hn
  go_enter Tryz.func115, Tryz.ntmps115
  go_upto_region 1 with fail
  generalize w.alloc (.cells #[.int .i64 c, .int .i64 d] 37) = W at *
  go_wp2
  go_loopw [8] (fun i wr => ∃ k : Nat, k ≤ n ∧ i = .int .i64 k ∧ Below W.heap.size W wr ∧ ∀ (j : Nat) (y : XID), j < k → l[j]? = some y → y ≠ (c, d)) (fun i _ => n - (intOf i).toNat)
  case atStart => exact ⟨0, Nat.zero_le _, rfl, Below.refl _ _, fun j y h => by omega⟩
  case round =>
    obtain ⟨k, hk, rfl, hbe, hall⟩ := hrel
    have BE := Lib.hid hbe
    have AL := Lib.hid hall
    clear hbe hall
    by_cases hlt : k < n
    · obtain ⟨y, hy⟩ : ∃ y, l[k]? = some y := ⟨_, List.getElem?_eq_getElem (by rw [HN.out]; exact hlt)⟩
      obtain ⟨p, ix, px⟩ := elJ HS.out rfl HN.out hy
      have DD : Below W.heap.size W wr.drew := BE.out.drew
      obtain ⟨p0, p1⟩ := px wr BE.out
      obtain ⟨y1, y2⟩ := y
      simp only at p0 p1
      have x0 := (X3.out.on BE.out).cell 0
      have x1 := (X3.out.on BE.out).cell 1
      simp only [List.getElem?_toArray, List.getElem?_cons_zero, List.getElem?_cons_succ] at x0 x1
      have hw3 : IntKind.i64.wrap ((k : Int) + 1) = (k : Int) + 1 := IntWalk.i64_in _ (by omega)
      obtain ⟨r, hr⟩ : ∃ r, (c == y1 && d == y2) = r := ⟨_, rfl⟩
      have he := eqId c d y1 y2 r hr
      have DB := Lib.hid DD
      have HY := Lib.hid hy
      have HR := Lib.hid hr
      clear px hy hr DD
      cases r
      · go_wp2_with fail
        go_quiet (fail)
        go_wp2
        go_roundw
        case rel => exact ⟨k + 1, by omega, by go_num, ⟨BE.out.os, BE.out.tape, BE.out.output, BE.out.size, BE.out.block⟩, fun j y' hj h1 => by
          rcases Nat.lt_or_ge j k with h3 | h3
          · exact AL.out j y' h3 h1
          · obtain rfl : j = k := by omega
            have e1 := HY.out
            rw [h1] at e1
            rw [Option.some.inj e1]
            intro e
            obtain ⟨rfl, rfl⟩ : y1 = c ∧ y2 = d := by simpa using e
            have := HR.out
            simp at this⟩
        case measure => simp [intOf]; omega
      · go_wp2_with fail
        go_quiet (fail)
        go_wp2
        go_ret
        have h8 := HR.out
        obtain ⟨rfl, rfl⟩ : c = y1 ∧ d = y2 := by simpa using h8
        exact ⟨by rw [findI_at l k (c, d) HY.out AL.out]; rfl, B.out.trans (Below.mono ⟨BE.out.os, BE.out.tape, BE.out.output, BE.out.size, BE.out.block⟩ B.out.size)⟩
    · obtain rfl : k = n := by omega
      go_wp2
      go_ret
      have hd : findI l (c, d) = -1 := findI_none l (c, d) fun j y hj => AL.out j y (by rw [← HN.out]; exact (List.getElem?_eq_some_iff.1 hj).1) hj
      exact ⟨by rw [hd]; rfl, B.out.trans (BE.out.mono B.out.size)⟩
set_option maxRecDepth 100000 in
theorem contains_any (sv : Sl) (l : List XID) (x : XID) (w : World) (hs : RowJ w (slv sv) l) :
    Calls Tryz.prog 78 #[slv sv, idv x] w fun e w' => e = .returned (.bool (decide (x ∈ l))) ∧ Below w.heap.size w w' := by
  have h0 := newB w (.cells #[.int .i64 x.1, .int .i64 x.2] 37)
  have h2 := box_new w #[.int .i64 x.1, .int .i64 x.2] 37
  have C := index_any sv l x _ (hs.on h0)
  have R := Lib.hid (findI_in l x)
  obtain ⟨c, d⟩ := x
  obtain ⟨so, sn, sc⟩ := sv
  have B := Lib.hid h0
  have x0 := h2.cell 0
  have x1 := h2.cell 1
  simp only [List.getElem?_toArray, List.getElem?_cons_zero, List.getElem?_cons_succ] at x0 x1
  generalize findI l (c, d) = r at *
  generalize decide ((c, d) ∈ l) = s at *
  clear h0 h2 hs
  go_enter Tryz.func78, Tryz.ntmps78
  go_wp2_with fail
  refine C.mono ?_
  rintro e w1 ⟨rfl, hb⟩
  go_wp2
  go_ret
  exact ⟨by have h := R.out; subst h; rfl, B.out.trans (hb.mono B.out.size)⟩
set_option maxRecDepth 100000 in
theorem aseen_any (me : Int) (nv av ev ov : Value) (sv : Sl) (l : List XID) (x : XID) (w : World) (hs : RowJ w (slv sv) l) :
    Calls Tryz.prog 28 #[.agg #[.int .i64 me, nv, av, slv sv, ev, ov], idv x] w fun e w' => e = .returned (.bool (decide (x ∈ l))) ∧ Below w.heap.size w w' := by
  obtain ⟨h0, h1, h2⟩ := two_new w #[.int .i64 me, nv, av, slv sv, ev, ov] #[.int .i64 x.1, .int .i64 x.2] 29 37
  have C := contains_any sv l x _ (hs.on h0)
  obtain ⟨c, d⟩ := x
  obtain ⟨so, sn, sc⟩ := sv
  have B := Lib.hid h0
  have b3 := h1.cell 3
  have x0 := h2.cell 0
  have x1 := h2.cell 1
  simp only [List.getElem?_toArray, List.getElem?_cons_zero, List.getElem?_cons_succ] at x0 x1 b3
  generalize decide ((c, d) ∈ l) = s at *
  clear h0 h1 h2 hs
  go_enter Tryz.func28, Tryz.ntmps28
  go_wp2_with fail
  refine C.mono ?_
  rintro e w1 ⟨rfl, hb⟩
  go_wp2
  go_ret
  exact ⟨rfl, B.out.trans (hb.mono B.out.size)⟩
end Go.Proofs.YtonoadjmglkhaaaGreat.Av
