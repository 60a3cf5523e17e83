/-
  What stays when a row of one's own is turned; a broker with one advertisement, one ID more. No program's function in it.
-/
import Derived.Test.YtncogjpmboglhaaQ021
import Derived.Test.YtncogjpmboglhaaQ023
namespace Go.Proofs.Ytncogjpmboglhaa.Av
open Go.RowKit Go.Sort Go.Proofs.Ytncogjpmboglhaa Go.Proofs.Ytncogjpmboglhaa.Rw Go.Proofs.Ytncogjpmboglhaa.Nm Go.Proofs.Ytncogjpmboglhaa.Pr Go.Proofs.Ytncogjpmboglhaa.Bk

/-- All stays but one block, if there is one. -/
def Off (ob : Option Nat) (W x : World) : Prop := (∀ j, j < W.heap.size → some j ≠ ob → x.heap[j]? = W.heap[j]?) ∧ W.heap.size ≤ x.heap.size
/-- That one block is of the type t. -/
def Tag (ob : Option Nat) (W : World) (t : TypeId) : Prop := ∀ g, ob = some g → ∃ d, Box W g d t
theorem tag_own {α : Type} {E : Ek α} {W : World} {B : Nat} {v : Value} {l : List α} (h : Own E W B v l) : Tag v.ownBlock W E.t := by
  intro g hg
  rcases own_open h with ⟨rfl, _⟩ | ⟨g', c', cur, rfl, _, h2, _⟩
  · cases hg
  · obtain rfl : g' = g := by simpa [Value.ownBlock] using hg
    exact ⟨cur, h2⟩
theorem Off.own {α : Type} {E : Ek α} {ob : Option Nat} {W x : World} {B : Nat} {v : Value} {l : List α} {t : TypeId} (h : Off ob W x) (ho : Own E W B v l) (hg : Tag ob W t) (hne : (E.t == t) = false) : Own E x B v l := by
  refine ⟨ho.1, ?_⟩
  rcases ho.2 with h2 | ⟨g', cap, cur, h1, h2, h3, h4⟩
  · exact Or.inl h2
  · refine Or.inr ⟨g', cap, cur, h1, h2, ?_, h4⟩
    rw [h.1 g' (lt_of_heap h3) fun e => by
      obtain ⟨d, hd⟩ := hg g' e.symm
      exact box_ne (show Box W g' cur E.t from h3) hd hne rfl]
    exact h3
theorem Off.box {ob : Option Nat} {W x : World} {b : Nat} {cs : Array Value} {s t : TypeId} (h : Off ob W x) (hb : Box W b cs s) (hg : Tag ob W t) (hne : (s == t) = false) : Box x b cs s := (h.1 b hb.lt fun e => by
  obtain ⟨d, hd⟩ := hg b e.symm
  exact box_ne hb hd hne rfl).trans hb
theorem PM.off {w0 wr x : World} {B : Nat} {v : Value} {p : List C5} {ob : Option Nat} {t : TypeId} (h : PM w0 B wr v p) (hb : Off ob wr x) (hg : Tag ob wr t) (hne : (26 == t) = false) : PM w0 B x v p := h.imp id fun h => hb.own h hg hne
theorem AdM.off {w0 wr x : World} {B : Nat} {y : XAd} {a : Ad} {ob : Option Nat} {t : TypeId} (h : AdM w0 B wr y a) (hb : Off ob wr x) (hg : Tag ob wr t) (hne : (26 == t) = false) : AdM w0 B x y a := ⟨h.1, h.2.1, h.2.2.off hb hg hne⟩
theorem EnM.off {w0 wr x : World} {B : Nat} {y : XEn} {a : En} {ob : Option Nat} {t : TypeId} (h : EnM w0 B wr y a) (hb : Off ob wr x) (hg : Tag ob wr t) (hne : (26 == t) = false) : EnM w0 B x y a := ⟨h.1, h.2.1, h.2.2.1, h.2.2.2.1, h.2.2.2.2.off hb hg hne⟩
theorem OwM.off {w0 wr x : World} {B : Nat} {y : XOw} {a : Ow} {ob : Option Nat} {t : TypeId} (h : OwM w0 B wr y a) (hb : Off ob wr x) (hg : Tag ob wr t) (hne : (26 == t) = false) : OwM w0 B x y a := ⟨h.1, h.2.off hb hg hne⟩
theorem Cp.offD {w0 wr x : World} {B : Nat} {b : Br} {nv av sv ev ov av' : Sl} {al : List Ad} (h : Cp w0 B wr b nv av sv ev ov) (hb : Off (slv av).ownBlock wr x) (hx : ∃ l, OwnD x B (slv av') l ∧ All2 (AdM w0 B x) l al) : Cp w0 B x { b with adv := al } nv av' sv ev ov := by
  obtain ⟨l0, hl0, _⟩ := h.adv
  have hg := tag_own hl0
  exact {
    near := hb.own h.near hg (by decide)
    seen := hb.own h.seen hg (by decide)
    adv := hx
    ent := by obtain ⟨l, h1, h2⟩ := h.ent; exact ⟨l, hb.own h1 hg (by decide), h2.mono fun _ _ h => h.off hb hg (by decide)⟩
    own := by obtain ⟨l, h1, h2⟩ := h.own; exact ⟨l, hb.own h1 hg (by decide), h2.mono fun _ _ h => h.off hb hg (by decide)⟩ }
theorem Cp.offN {w0 wr x : World} {B : Nat} {b : Br} {nv av sv ev ov ev' : Sl} {el : List En} (h : Cp w0 B wr b nv av sv ev ov) (hb : Off (slv ev).ownBlock wr x) (hx : ∃ l, OwnN x B (slv ev') l ∧ All2 (EnM w0 B x) l el) : Cp w0 B x { b with ent := el } nv av sv ev' ov := by
  obtain ⟨l0, hl0, _⟩ := h.ent
  have hg := tag_own hl0
  exact {
    near := hb.own h.near hg (by decide)
    seen := hb.own h.seen hg (by decide)
    adv := by obtain ⟨l, h1, h2⟩ := h.adv; exact ⟨l, hb.own h1 hg (by decide), h2.mono fun _ _ h => h.off hb hg (by decide)⟩
    ent := hx
    own := by obtain ⟨l, h1, h2⟩ := h.own; exact ⟨l, hb.own h1 hg (by decide), h2.mono fun _ _ h => h.off hb hg (by decide)⟩ }
theorem Cp.offJ {w0 wr x : World} {B : Nat} {b : Br} {nv av sv ev ov sv' : Sl} {sl : List XID} (h : Cp w0 B wr b nv av sv ev ov) (hb : Off (slv sv).ownBlock wr x) (hx : OwnJ x B (slv sv') sl) : Cp w0 B x { b with seen := sl } nv av sv' ev ov := by
  have hg := tag_own h.seen
  exact {
    near := hb.own h.near hg (by decide)
    seen := hx
    adv := by obtain ⟨l, h1, h2⟩ := h.adv; exact ⟨l, hb.own h1 hg (by decide), h2.mono fun _ _ h => h.off hb hg (by decide)⟩
    ent := by obtain ⟨l, h1, h2⟩ := h.ent; exact ⟨l, hb.own h1 hg (by decide), h2.mono fun _ _ h => h.off hb hg (by decide)⟩
    own := by obtain ⟨l, h1, h2⟩ := h.own; exact ⟨l, hb.own h1 hg (by decide), h2.mono fun _ _ h => h.off hb hg (by decide)⟩ }
theorem all2_ins {α β : Type} {R : α → β → Prop} {l : List α} {m : List β} (h : All2 R l m) (k : Nat) {a : α} {b : β} (hr : R a b) : All2 R (insAt l k a) (insAt m k b) :=
  ((h.take k).append (.cons hr .nil)).append (h.drop k)
theorem keys_eq {w0 wr : World} {B : Nat} : ∀ {l : List XAd} {al : List Ad}, All2 (AdM w0 B wr) l al → l.map keyD = al.map Ad.id
  | _, _, .nil => rfl
  | _, _, .cons h t => by rw [List.map_cons, List.map_cons, keys_eq t]; exact congrArg (· :: _) h.1
theorem riseK_map {α : Type} (key : α → XID) (l : List α) : RiseK key l ↔ RiseK (fun x : XID => x) (l.map key) := by
  unfold RiseK
  rw [List.pairwise_map]
end Go.Proofs.Ytncogjpmboglhaa.Av
