/-
  slices.BinarySearch of numbers; comes of package adverts. Conditions: they don't fall; at most 900 of them.
  inEntries of package adverts: by their tree, then by their subscription. No condition.
  rises of package adverts at its five kinds of rows. Condition: rows no longer than a machine holds.
  Lists that are the same; Same of IDs. Condition: at most a million elements.
  Entries of broadsidekeep: are two rows of entries the same? Condition: at most a million elements.
  What a predicate of numbers is; what lists of constraints are small. No program's function in it.
  Covered of broadsideref9: does one of a tree that was passed on cover a predicate? Condition: predicates in normal form.
  The loop of Add that looks for an entry's place. Condition: at most a million elements.
  The last region of Add: the broker is stored, its flag is handed back. No condition beyond what the theorem states.
  Add of broadsideref9: a broker with one entry more, if its tree is known, it is not there already, and it came from elsewhere. Condition: at most 900 of each; predicates in normal form.
  What Take answers, of lists alone; an entry of a row of one's own put up. No program's function in it.
  Plain facts on one constraint held against another by both of them, on samples, and on what is kept when two predicates are put together. No program in it.
  Both of package pred, and the two that it calls: the constraint that holds just where two of one name do. No condition.
  Both of package pred: the constraint that holds just where two of one name do. No condition.
  join of package pred: one constraint more in a normal form. Condition: the normal form has at most five constraints; it is the caller's own.
  of, wider, one of package rel: the constraint of a name, is a constraint wider, a value that it holds of. Conditions: at most 100 constraints; right ones.
-/
import Derived.Test.YtncogjpmboglhaaQ010
import Derived.Test.YtncogjpmboglhaaQ013
import Derived.Deep.LoopGhost
import Derived.Laws.Externs
import Derived.Test.YtncogjpmboglhaaQ015
import Derived.Lib.QuietBelow
import Derived.BigQuiet
import Derived.Test.YtncogjpmboglhaaQ016
import Derived.Test.YtncogjpmboglhaaQ012
import Derived.Test.YtncogjpmboglhaaQ014
import Derived.BigRegion
import Derived.Deep.RegionWith
namespace Go.Proofs.Ytncogjpmboglhaa.Av
open Go.RowKit Go.Sort Go.Proofs.Ytncogjpmboglhaa Go.Proofs.Ytncogjpmboglhaa.Rw Go.Proofs.Ytncogjpmboglhaa.Nm Go.Proofs.Ytncogjpmboglhaa.Pr Go.Proofs.Ytncogjpmboglhaa.Bk

end Go.Proofs.Ytncogjpmboglhaa.Av

namespace Go.Proofs.Ytncogjpmboglhaa.Av
open Go.RowKit Go.Sort Go.Proofs.Ytncogjpmboglhaa Go.Proofs.Ytncogjpmboglhaa.Rw Go.Proofs.Ytncogjpmboglhaa.Nm Go.Proofs.Ytncogjpmboglhaa.Pr Go.Proofs.Ytncogjpmboglhaa.Bk

end Go.Proofs.Ytncogjpmboglhaa.Av

namespace Go.Proofs.Ytncogjpmboglhaa.Av
open Go.RowKit Go.Sort Go.Proofs.Ytncogjpmboglhaa Go.Proofs.Ytncogjpmboglhaa.Rw Go.Proofs.Ytncogjpmboglhaa.Nm Go.Proofs.Ytncogjpmboglhaa.Pr Go.Proofs.Ytncogjpmboglhaa.Bk

end Go.Proofs.Ytncogjpmboglhaa.Av

namespace Go.Proofs.Ytncogjpmboglhaa.Bk
open Go.RowKit Go.Sort Go.Proofs.Ytncogjpmboglhaa Go.Proofs.Ytncogjpmboglhaa.Rw Go.Proofs.Ytncogjpmboglhaa.Nm Go.Proofs.Ytncogjpmboglhaa.Pr

def eqI (x y : Id) : Bool := x.1 == y.1 && x.2 == y.2
theorem eqI_iff (x y : Id) : eqI x y = true ↔ x = y := by
  obtain ⟨a, b⟩ := x
  obtain ⟨c, d⟩ := y
  simp [eqI]
end Go.Proofs.Ytncogjpmboglhaa.Bk

namespace Go.Proofs.Ytncogjpmboglhaa.Bk
open Go.RowKit Go.Sort Go.Proofs.Ytncogjpmboglhaa Go.Proofs.Ytncogjpmboglhaa.Rw Go.Proofs.Ytncogjpmboglhaa.Nm Go.Proofs.Ytncogjpmboglhaa.Pr

end Go.Proofs.Ytncogjpmboglhaa.Bk

namespace Go.Proofs.Ytncogjpmboglhaa.Pr
open Go.RowKit Go.Proofs.Ytncogjpmboglhaa Go.Proofs.Ytncogjpmboglhaa.Pu Go.Proofs.Ytncogjpmboglhaa.Rw Go.Proofs.Ytncogjpmboglhaa.Va Go.Proofs.Ytncogjpmboglhaa.Kp

/-- Sizes that every law keeps to. -/
def smallC (c : Cn) : Prop := c.1.size ≤ 100 ∧ (kT c.2).size ≤ 100 ∧ (-9223372036854775808 ≤ kLo c.2 ∧ kLo c.2 ≤ 9223372036854775807) ∧ (-9223372036854775808 ≤ kHi c.2 ∧ kHi c.2 ≤ 9223372036854775807)
/-- What a right predicate of numbers is. -/
structure NF (l : List Cn) : Prop where
  rise : RiseC l
  five : l.length ≤ 5
  good : ∀ c ∈ l, goodC c = true
  small : ∀ c ∈ l, smallC c
theorem NF.goodK {l : List Cn} (h : NF l) : ∀ c ∈ l, Pr.goodK c.2 = true := fun c hc => by
  have := h.good c hc
  simp only [goodC, Bool.and_eq_true] at this
  exact this.2
theorem r5_inj {a b : Cn} (h : r5 a = r5 b) : a = b := by
  obtain ⟨n, a⟩ := a
  obtain ⟨m, b⟩ := b
  simp only [r5, Prod.mk.injEq] at h
  obtain ⟨rfl, h1, h2, h3, h4⟩ := h
  cases a <;> cases b <;> simp [kN, kLo, kHi, kT] at h1 h2 h3 h4 <;> simp [*]
end Go.Proofs.Ytncogjpmboglhaa.Pr

namespace Go.Proofs.Ytncogjpmboglhaa.Bk
open Go.RowKit Go.Proofs.Ytncogjpmboglhaa Go.Proofs.Ytncogjpmboglhaa.Rw Go.Proofs.Ytncogjpmboglhaa.Nm Go.Proofs.Ytncogjpmboglhaa.Pr Go.Proofs.Ytncogjpmboglhaa.Rl

/-- A constraint, as its kind says. -/
def unR (c : C5) : Cn := (c.1, if c.2.1 = 1 then .rg c.2.2.1 c.2.2.2.1 else if c.2.1 = 2 then .tx c.2.2.2.2 else .pr c.2.2.2.2)
theorem unR_r5 (c : Cn) : unR (r5 c) = c := by
  obtain ⟨n, k⟩ := c
  cases k <;> simp [unR, r5, kN, kLo, kHi, kT]
theorem unR_map (a : List Cn) : (a.map r5).map unR = a := by
  rw [List.map_map]
  have h : unR ∘ r5 = id := funext unR_r5
  rw [h, List.map_id]
/-- A predicate in normal form. -/
def PredOk (p : List C5) : Prop := ∃ a : List Cn, NF a ∧ p = a.map r5
def coversC (p q : List C5) : Bool := coversL (p.map unR) (q.map unR)
def covE (t : Id) (p : List C5) (e : En) : Bool := decide (e.tree = t) && (e.up && coversC e.p p)
def coveredE (m : List En) (t : Id) (p : List C5) : Bool := m.any (covE t p)
end Go.Proofs.Ytncogjpmboglhaa.Bk

namespace Go.Proofs.Ytncogjpmboglhaa.Bk
open Go.RowKit Go.Sort Go.Proofs.Ytncogjpmboglhaa Go.Proofs.Ytncogjpmboglhaa.Rw Go.Proofs.Ytncogjpmboglhaa.Nm Go.Proofs.Ytncogjpmboglhaa.Pr

/-- A tree's subscription is ahead of another. -/
def lessP (a b : Id × Id) : Bool := lessI a.1 b.1 || (eqI a.1 b.1 && lessI a.2 b.2)
def placeP (l : List (Id × Id)) (x : Id × Id) : Nat := (l.takeWhile fun a => lessP a x).length
end Go.Proofs.Ytncogjpmboglhaa.Bk

namespace Go.Proofs.Ytncogjpmboglhaa.Bk
open Go.RowKit Go.Proofs.Ytncogjpmboglhaa Go.Proofs.Ytncogjpmboglhaa.Rw Go.Proofs.Ytncogjpmboglhaa.Nm Go.Proofs.Ytncogjpmboglhaa.Pr

end Go.Proofs.Ytncogjpmboglhaa.Bk

namespace Go.Proofs.Ytncogjpmboglhaa.Bk
open Go.RowKit Go.Sort Go.Proofs.Ytncogjpmboglhaa Go.Proofs.Ytncogjpmboglhaa.Rw Go.Proofs.Ytncogjpmboglhaa.Nm Go.Proofs.Ytncogjpmboglhaa.Pr

abbrev keyE (e : En) : Id × Id := (e.tree, e.sub)
def addB (b : Br) (e : En) : Br × Bool := match b.adv[(findI (b.adv.map Ad.id) e.tree).toNat]? with
  | none => (b, false)
  | some a => if findI (b.adv.map Ad.id) e.tree = -1 then (b, false) else if findK (b.ent.map keyE) (keyE e) ≠ -1 then (b, false) else if e.from_ ≠ -1 ∧ e.from_ = a.par then (b, false) else
    ({ b with ent := insAt b.ent (placeP (b.ent.map keyE) (keyE e)) { e with up := decide (a.par ≠ -1) && !coveredE b.ent e.tree e.p } }, decide (a.par ≠ -1) && !coveredE b.ent e.tree e.p)
end Go.Proofs.Ytncogjpmboglhaa.Bk

namespace Go.Proofs.Ytncogjpmboglhaa.Bk
open Go.RowKit Go.Sort Go.Proofs.Ytncogjpmboglhaa Go.Proofs.Ytncogjpmboglhaa.Rw Go.Proofs.Ytncogjpmboglhaa.Nm Go.Proofs.Ytncogjpmboglhaa.Pr

open Go.Proofs.Ytncogjpmboglhaa.Av
def upE (e : En) : En := { e with up := true }
def takeStep (t : Id) (s : List En × List En) (k : Nat) : List En × List En := match s.1[k]? with
  | none => s
  | some e => if e.tree = t ∧ e.up = false ∧ coveredE s.1 t e.p = false then (s.1.set k (upE e), s.2 ++ [upE e]) else s
def takeK (t : Id) (m : List En) (k : Nat) : List En × List En := (List.range k).foldl (takeStep t) (m, [])
def takeB (b : Br) (t s : Id) (f : Int) : Br × List En × Bool := match b.ent[(findK (b.ent.map keyE) (t, s)).toNat]? with
  | none => (b, [], false)
  | some e => if findK (b.ent.map keyE) (t, s) = -1 then (b, [], false) else if e.from_ ≠ f then (b, [], false) else
    if e.up = false then ({ b with ent := cutAt b.ent (findK (b.ent.map keyE) (t, s)).toNat }, [], false) else
    ({ b with ent := (takeK t (cutAt b.ent (findK (b.ent.map keyE) (t, s)).toNat) (cutAt b.ent (findK (b.ent.map keyE) (t, s)).toNat).length).1 }, (takeK t (cutAt b.ent (findK (b.ent.map keyE) (t, s)).toNat) (cutAt b.ent (findK (b.ent.map keyE) (t, s)).toNat).length).2, true)
theorem takeK_succ (t : Id) (m : List En) (k : Nat) : takeK t m (k + 1) = takeStep t (takeK t m k) k := by
  simp [takeK, List.range_succ]
theorem flatN_up : ∀ (l : List XEn) (k : Nat) (x : XEn), l[k]? = some x → flat EN (l.set k (x.1, x.2.1, x.2.2.1, x.2.2.2.1, x.2.2.2.2.1, x.2.2.2.2.2.1, true)) = (flat EN l).set (k * 7 + 6) (.bool true)
  | [], k, x, h => by simp at h
  | y :: r, 0, x, h => by
    obtain rfl : y = x := by simpa using h
    rfl
  | y :: r, k + 1, x, h => by
    have ih := flatN_up r k x (by simpa using h)
    rw [show (k + 1) * 7 + 6 = (k * 7 + 6) + 1 + 1 + 1 + 1 + 1 + 1 + 1 by omega]
    simp only [List.set_cons_succ, flat, EN, cellsN, List.cons_append, List.nil_append] at ih ⊢
    rw [ih]
theorem own_upN {w : World} {B g n cap k : Nat} {l : List XEn} {x : XEn} (h : OwnN w B (.slice (some ⟨g, 0, none⟩) n cap) l) (hk : l[k]? = some x) :
    OwnN (w.setCell ⟨g, k * 7 + 6, none⟩ (.bool true)) B (.slice (some ⟨g, 0, none⟩) n cap) (l.set k (x.1, x.2.1, x.2.2.1, x.2.2.2.1, x.2.2.2.2.1, x.2.2.2.2.2.1, true)) ∧ w.cell? ⟨g, k * 7 + 6, none⟩ = some (.bool x.2.2.2.2.2.2) ∧ w.frozen? ⟨g, k * 7 + 6, none⟩ = false := by
  have c := own_row_at okN h hk w (Below.refl _ _)
  have c6 := c 6 _ rfl
  simp [Addr.add, EN] at c6
  obtain ⟨cur, hb⟩ := own_tag h
  obtain ⟨ao, c', hv⟩ := (Row.of_own h).len
  obtain ⟨_, rfl, _⟩ : some ⟨g, 0, none⟩ = ao ∧ n = l.length ∧ cap = c' := by simpa using hv
  have h : w.ownsRow B 42 7 (.slice (some ⟨g, 0, none⟩) l.length cap) l.length (flat EN l) := h
  have t1 := (h.stored (k * 7 + 6) (.bool true)).1
  refine ⟨?_, c6, hb.fr _⟩
  have e := flatN_up l k x hk
  show World.ownsRow _ B 42 7 _ (List.length _) (flat EN _)
  rw [e, List.length_set]
  exact t1
theorem All2.set2 {α β : Type} {R : α → β → Prop} : ∀ {l : List α} {m : List β} (k : Nat) {a : α} {b : β}, All2 R l m → R a b → All2 R (l.set k a) (m.set k b)
  | _, _, _, _, _, .nil, _ => .nil
  | _, _, 0, _, _, .cons _ t, hr => .cons hr t
  | _, _, k + 1, _, _, .cons x t, hr => .cons x (All2.set2 k t hr)
theorem four_new (w : World) (c d e f : Array Value) (r s t u : TypeId) : Below w.heap.size w ((((w.alloc (.cells c r)).alloc (.cells d s)).alloc (.cells e t)).alloc (.cells f u)) ∧ Box ((((w.alloc (.cells c r)).alloc (.cells d s)).alloc (.cells e t)).alloc (.cells f u)) w.heap.size c r ∧ Box ((((w.alloc (.cells c r)).alloc (.cells d s)).alloc (.cells e t)).alloc (.cells f u)) (w.heap.size + 1) d s ∧ Box ((((w.alloc (.cells c r)).alloc (.cells d s)).alloc (.cells e t)).alloc (.cells f u)) (w.heap.size + 1 + 1) e t ∧ Box ((((w.alloc (.cells c r)).alloc (.cells d s)).alloc (.cells e t)).alloc (.cells f u)) (w.heap.size + 1 + 1 + 1) f u := by
  obtain ⟨h0, h1, h2, h3⟩ := three_new w c d e r s t
  refine ⟨h0.alloc h0.size _, h1.more _, h2.more _, h3.more _, ?_⟩
  have h := box_new (((w.alloc (.cells c r)).alloc (.cells d s)).alloc (.cells e t)) f u
  have e2 : (((w.alloc (.cells c r)).alloc (.cells d s)).alloc (.cells e t)).heap.size = w.heap.size + 1 + 1 + 1 := by simp
  rw [e2] at h
  exact h
end Go.Proofs.Ytncogjpmboglhaa.Bk

namespace Go.Proofs.Ytncogjpmboglhaa.Rl
open Go.RowKit Go.Proofs.Ytncogjpmboglhaa Go.Proofs.Ytncogjpmboglhaa.Pu Go.Proofs.Ytncogjpmboglhaa.Pr

/-- The constraint of that name. -/
def ofC (p : List Cn) (n : ByteArray) : Option Cn := p.find? fun c => decide (c.1 = n)
theorem of_mem {p : List Cn} {n : ByteArray} {y : Cn} (h : ofC p n = some y) : y ∈ p ∧ y.1 = n := ⟨List.mem_of_find?_eq_some h, by simpa using List.find?_some h⟩
theorem of_at {p : List Cn} {n : ByteArray} {k : Nat} {y : Cn} (hk : p[k]? = some y) (he : y.1 = n) (hn : ∀ (j : Nat) (z : Cn), j < k → p[j]? = some z → z.1 ≠ n) : ofC p n = some y := by
  unfold ofC
  rw [List.find?_eq_some_iff_getElem]
  obtain ⟨hlt, hy⟩ := List.getElem?_eq_some_iff.1 hk
  refine ⟨by simpa using he, k, hlt, hy, fun j hj => ?_⟩
  have := hn j p[j] hj (List.getElem?_eq_getElem (by omega))
  simpa using this
theorem of_none {p : List Cn} {n : ByteArray} (hn : ∀ (j : Nat) (z : Cn), j < p.length → p[j]? = some z → z.1 ≠ n) : ofC p n = none := by
  unfold ofC
  rw [List.find?_eq_none]
  intro x hx
  obtain ⟨j, hj, e⟩ := List.getElem_of_mem hx
  have := hn j x hj (by rw [List.getElem?_eq_getElem hj, e])
  simpa using this
def covO (b : List Cn) (x : Cn) : Bool := match ofC b x.1 with
  | some y => impliesK y.2 x.2
  | none => false
/-- Covers, name by name. -/
theorem covers_of {a b : List Cn} (hb : RiseC b) : coversL a b = a.all (covO b) := by
  unfold coversL
  congr 1
  funext x
  unfold covO
  cases hf : ofC b x.1 with
  | none =>
    rw [List.any_eq_false]
    intro y hy
    have := List.find?_eq_none.1 hf y hy
    simp only [decide_eq_true_eq] at this
    simp [this]
  | some y =>
    obtain ⟨h1, h2⟩ := of_mem hf
    rw [Bool.eq_iff_iff, List.any_eq_true]
    constructor
    · rintro ⟨z, hz, h3⟩
      simp only [Bool.and_eq_true, decide_eq_true_eq] at h3
      rw [uniqC hb h1 hz (h2.trans h3.1.symm)]
      exact h3.2
    · intro h3
      exact ⟨y, h1, by simp [h2, h3]⟩
/-- The one is wider where both of them are the other. -/
theorem wider_some {n : ByteArray} {c d k : Kd} (hc : goodK c = true) (hd : goodK d = true) (h : bothK c d = some k) : eqlC (r5 (n, k)) (r5 (n, d)) = impliesK d c := by
  obtain ⟨k1, k2⟩ := both_some c d k hc hd h
  rw [Bool.eq_iff_iff, eqlC_iff]
  constructor
  · intro e
    have e2 := r5_inj e
    obtain rfl : k = d := congrArg Prod.snd e2
    exact holds_implies k c hd fun v hv => by rw [k2, Bool.and_eq_true] at hv; exact hv.1
  · intro hi
    have : k = d := same_holds k d k1 hd fun v => by
      rw [k2, Bool.eq_iff_iff, Bool.and_eq_true]
      exact ⟨fun h => h.2, fun h => ⟨implies_holds d c hi v h, h⟩⟩
    rw [this]
theorem wider_none {c d : Kd} (hd : goodK d = true) (h : bothK c d = none) : impliesK d c = false := by
  rw [Bool.eq_false_iff]
  intro hi
  obtain ⟨v, hv⟩ := some_holds d hd
  have := both_none c d h v
  rw [hv, implies_holds d c hi v hv] at this
  cases this

/-! ### samples -/
/-! ### both together -/
end Go.Proofs.Ytncogjpmboglhaa.Rl

namespace Go.Proofs.Ytncogjpmboglhaa.Pr
open Go.RowKit Go.Sort Go.Proofs.Ytncogjpmboglhaa Go.Proofs.Ytncogjpmboglhaa.Pu Go.Proofs.Ytncogjpmboglhaa.Rw Go.Proofs.Ytncogjpmboglhaa.Va

theorem vtext_any (s : ByteArray) (w : World) :
    Calls Try.prog 95 #[.string s] w fun e w' => e = .returned (vl true 0 s) ∧ Below w.heap.size w w' := by
  go_enter Try.func95, Try.ntmps95
  go_wp2
  exact bodyPost_ret (v := vl true 0 s) (by simp [results, Try.results95, go_sem]) rfl ⟨rfl, (Below.refl _ _).alloc (Nat.le_refl _) _⟩
theorem vtext_re (s : ByteArray) (w : World) (d : Nat) (os : Array Obj) :
    Calls Try.prog 95 #[.string s] (grow (redrawn w d) os) fun e w'' => e = .returned (vl true 0 s) ∧ ∃ p : Regrown, w'' = grow (redrawn w p.d) p.os :=
  Calls.regrown_of (vtext_any _ _)
theorem holdsT_re (c : Cn) (s : ByteArray) (r : Bool) (hr : holdsK c.2 (true, 0, s) = r) (w : World) (d : Nat) (os : Array Obj) :
    Calls Try.prog 94 #[cv (r5 c), vl true 0 s] (grow (redrawn w d) os) fun e w'' => e = .returned (.bool r) ∧ ∃ p : Regrown, w'' = grow (redrawn w p.d) p.os := by
  subst hr
  exact Calls.regrown_of (holds_any _ _ _ _ _)
/-- Is the one of texts, and does the other one hold of all of them? -/
def insideK : Kd → Kd → Bool
  | .pr s, .pr t => pfx t s
  | .tx s, k => holdsK k (true, 0, s)
  | _, _ => false
theorem box2 (w : World) (c d : C5) : Box ((w.alloc (.cells (cells5 c).toArray 26)).alloc (.cells (cells5 d).toArray 26)) w.heap.size (cells5 c).toArray 26 ∧ Box ((w.alloc (.cells (cells5 c).toArray 26)).alloc (.cells (cells5 d).toArray 26)) (w.heap.size + 1) (cells5 d).toArray 26 ∧ Below w.heap.size w ((w.alloc (.cells (cells5 c).toArray 26)).alloc (.cells (cells5 d).toArray 26)) := by
  refine ⟨(box_new w _ _).more _, ?_, ((Below.refl w.heap.size w).alloc (Nat.le_refl _) _).alloc (by simp) _⟩
  have h := box_new (w.alloc (.cells (cells5 c).toArray 26)) (cells5 d).toArray 26
  rwa [show (w.alloc (.cells (cells5 c).toArray 26)).heap.size = w.heap.size + 1 by simp] at h

set_option maxRecDepth 100000 in
set_option maxHeartbeats 4000000 in
/-- The last part: it asks Holds of a's text. -/
theorem inside_tx (na nb : ByteArray) (s : ByteArray) (kb : Kd) (w : World) : Calls Try.prog 85 #[cv (r5 (na, .tx s)), cv (r5 (nb, kb))] w fun e w' => e = .returned (.bool (insideK (.tx s) kb)) ∧ Below w.heap.size w w' := by
  obtain ⟨ba, bb, hb⟩ := box2 w (r5 (na, .tx s)) (r5 (nb, kb))
  have BA := Lib.hid ba
  have BB := Lib.hid bb
  have B := Lib.hid hb
  have H := holdsT_re (nb, kb) s _ rfl
  have C := vtext_re s
  have R := Lib.hid (show insideK (.tx s) kb = holdsK kb (true, 0, s) from rfl)
  generalize insideK (.tx s) kb = r at *
  simp only [r5] at H ⊢
  clear ba bb hb
  go_enter Try.func85, Try.ntmps85
  go_wp2
  have HH := Lib.hid H
  have CC := Lib.hid C
  clear H C
  change Code.wp _ _ _ _ ((w.alloc (.cells (cells5 (r5 (na, .tx s))).toArray 26)).alloc (.cells (cells5 (r5 (nb, kb))).toArray 26))
  generalize (w.alloc (.cells (cells5 (r5 (na, .tx s))).toArray 26)).alloc (.cells (cells5 (r5 (nb, kb))).toArray 26) = W at *
  have a4 := cell_regrown (show W.cell? ⟨w.heap.size, 4, none⟩ = some (.string s) from BA.out.cell 4)
  have b0 := cell_regrown (show W.cell? ⟨w.heap.size + 1, 0, none⟩ = some (.string nb) from BB.out.cell 0)
  have b1 := cell_regrown (show W.cell? ⟨w.heap.size + 1, 1, none⟩ = some (.int .i64 (kN kb)) from BB.out.cell 1)
  have b2 := cell_regrown (show W.cell? ⟨w.heap.size + 1, 2, none⟩ = some (.int .i64 (kLo kb)) from BB.out.cell 2)
  have b3 := cell_regrown (show W.cell? ⟨w.heap.size + 1, 3, none⟩ = some (.int .i64 (kHi kb)) from BB.out.cell 3)
  have b4 := cell_regrown (show W.cell? ⟨w.heap.size + 1, 4, none⟩ = some (.string (kT kb)) from BB.out.cell 4)
  refine wp_region_quiet_below (by kernel_rfl) (by kernel_rfl) ?_
  repeat (go_big_quiet_step (first | (with_reducible exact CC.out _ _ _) | (with_reducible exact HH.out _ _ _)))
  refine wpQuiet_nil ?_
  intro _ hw'
  obtain ⟨⟨dq, osq⟩, hw''⟩ := hw'
  subst hw''
  have BZ := Lib.hid (B.out.trans ((below_regrown W dq osq).mono B.out.size))
  clear a4 b0 b1 b2 b3 b4
  go_wp2
  go_ret
  exact ⟨ret_bool R.out.symm, BZ.out⟩
set_option maxRecDepth 100000 in
set_option maxHeartbeats 4000000 in
theorem inside_pr (na nb : ByteArray) (s : ByteArray) (t : ByteArray) (w : World) : Calls Try.prog 85 #[cv (r5 (na, .pr s)), cv (r5 (nb, .pr t))] w fun e w' => e = .returned (.bool (insideK (.pr s) (.pr t))) ∧ Below w.heap.size w w' := by
  obtain ⟨ba, bb, hb⟩ := box2 w (r5 (na, .pr s)) (r5 (nb, .pr t))
  have BA := Lib.hid ba
  have BB := Lib.hid bb
  have B := Lib.hid hb
  have H := holdsT_re (nb, .pr t) s _ rfl
  have C := vtext_re s
  have R := Lib.hid (show insideK (.pr s) (.pr t) = holdsK (.pr t) (true, 0, s) by simp only [insideK, holdsK, Bool.true_and])
  generalize insideK (.pr s) (.pr t) = r at *
  simp only [r5] at H ⊢
  clear ba bb hb
  go_enter Try.func85, Try.ntmps85
  go_wp2
  have HH := Lib.hid H
  have CC := Lib.hid C
  clear H C
  change Code.wp _ _ _ _ ((w.alloc (.cells (cells5 (r5 (na, .pr s))).toArray 26)).alloc (.cells (cells5 (r5 (nb, .pr t))).toArray 26))
  generalize (w.alloc (.cells (cells5 (r5 (na, .pr s))).toArray 26)).alloc (.cells (cells5 (r5 (nb, .pr t))).toArray 26) = W at *
  have a4 := cell_regrown (show W.cell? ⟨w.heap.size, 4, none⟩ = some (.string s) from BA.out.cell 4)
  have b0 := cell_regrown (show W.cell? ⟨w.heap.size + 1, 0, none⟩ = some (.string nb) from BB.out.cell 0)
  have b1 := cell_regrown (show W.cell? ⟨w.heap.size + 1, 1, none⟩ = some (.int .i64 (kN (.pr t))) from BB.out.cell 1)
  have b2 := cell_regrown (show W.cell? ⟨w.heap.size + 1, 2, none⟩ = some (.int .i64 (kLo (.pr t))) from BB.out.cell 2)
  have b3 := cell_regrown (show W.cell? ⟨w.heap.size + 1, 3, none⟩ = some (.int .i64 (kHi (.pr t))) from BB.out.cell 3)
  have b4 := cell_regrown (show W.cell? ⟨w.heap.size + 1, 4, none⟩ = some (.string (kT (.pr t))) from BB.out.cell 4)
  refine wp_region_quiet_below (by kernel_rfl) (by kernel_rfl) ?_
  repeat (go_big_quiet_step (first | (with_reducible exact CC.out _ _ _) | (with_reducible exact HH.out _ _ _)))
  refine wpQuiet_nil ?_
  intro _ hw'
  obtain ⟨⟨dq, osq⟩, hw''⟩ := hw'
  subst hw''
  have BZ := Lib.hid (B.out.trans ((below_regrown W dq osq).mono B.out.size))
  clear a4 b0 b1 b2 b3 b4
  go_wp2
  go_ret
  exact ⟨ret_bool R.out.symm, BZ.out⟩

set_option maxRecDepth 100000 in
set_option maxHeartbeats 4000000 in
theorem inside_no (na nb : ByteArray) (ka kb : Kd) (w : World) (h : (∃ lo hi, ka = .rg lo hi) ∨ (∃ s, ka = .pr s) ∧ ¬ ∃ t, kb = .pr t) : Calls Try.prog 85 #[cv (r5 (na, ka)), cv (r5 (nb, kb))] w fun e w' => e = .returned (.bool (insideK ka kb)) ∧ Below w.heap.size w w' := by
  have B := Lib.hid (box2 w (r5 (na, ka)) (r5 (nb, kb))).2.2
  rcases h with ⟨lo, hi, rfl⟩ | ⟨⟨s, rfl⟩, h⟩
  · have R := Lib.hid (show insideK (.rg lo hi) kb = false from rfl)
    generalize insideK (.rg lo hi) kb = r at *
    simp only [r5]
    go_enter Try.func85, Try.ntmps85
    go_wp2
    go_ret
    exact ⟨ret_bool R.out.symm, B.out⟩
  · have R := Lib.hid (show insideK (.pr s) kb = false by
      cases kb with
      | pr t => exact absurd ⟨t, rfl⟩ h
      | _ => rfl)
    have e : ((kN kb) != (3 : Int)) = true := by
      cases kb with
      | pr t => exact absurd ⟨t, rfl⟩ h
      | _ => rfl
    generalize insideK (.pr s) kb = r at *
    clear h
    simp only [r5]
    go_enter Try.func85, Try.ntmps85
    go_wp2
    go_ret
    exact ⟨ret_bool R.out.symm, B.out⟩
theorem inside_any (a b : Cn) (w : World) : Calls Try.prog 85 #[cv (r5 a), cv (r5 b)] w fun e w' => e = .returned (.bool (insideK a.2 b.2)) ∧ Below w.heap.size w w' := by
  obtain ⟨na, ka⟩ := a
  obtain ⟨nb, kb⟩ := b
  cases ka with
  | rg lo hi => exact inside_no na nb _ kb w (Or.inl ⟨lo, hi, rfl⟩)
  | tx s => exact inside_tx na nb s kb w
  | pr s =>
    cases kb with
    | pr t => exact inside_pr na nb s t w
    | rg lo hi => exact inside_no na nb _ _ w (Or.inr ⟨⟨s, rfl⟩, by rintro ⟨t, h⟩; cases h⟩)
    | tx t => exact inside_no na nb _ _ w (Or.inr ⟨⟨s, rfl⟩, by rintro ⟨t', h⟩; cases h⟩)

/-- What both of two are told as. -/
def BothQ (n : ByteArray) (r : Option Kd) (w : World) (e : Ending) (w' : World) : Prop := (∃ x, e = .returned (.tuple #[cv x, .bool r.isSome]) ∧ ∀ k, r = some k → x = r5 (n, k)) ∧ Below w.heap.size w w'
theorem b3 (w : World) (o p q : Obj) : Below w.heap.size w (((w.alloc o).alloc p).alloc q) := (((Below.refl w.heap.size w).alloc (Nat.le_refl _) _).alloc (by simp) _).alloc (by simp; omega) _
set_option maxRecDepth 100000 in
set_option maxHeartbeats 4000000 in
theorem overlap_any (na nb : ByteArray) (a b c d : Int) (w : World) : Calls Try.prog 84 #[cv (na, 1, a, b, ⟨#[]⟩), cv (nb, 1, c, d, ⟨#[]⟩)] w (BothQ na (bothK (.rg a b) (.rg c d)) w) := by
  have R := Lib.hid (show bothK (.rg a b) (.rg c d) = if max a c ≤ min b d then some (.rg (max a c) (min b d)) else none from rfl)
  generalize bothK (.rg a b) (.rg c d) = r at *
  go_enter Try.func84, Try.ntmps84
  go_wp2_with fail
  go_region
  have e1 : (if a < c then c else a) = max a c := by split <;> omega
  have e2 : (if d < b then d else b) = min b d := by split <;> omega
  try rw [e1]
  try rw [e2]
  clear e1 e2
  generalize max a c = M at R ⊢
  generalize min b d = N at R ⊢
  by_cases h : M ≤ N
  · have h1 : ¬ N < M := by omega
    have R2 := Lib.hid (show r = some (.rg M N) by rw [R.out, if_pos h])
    clear h
    go_wp2
    refine bodyPost_ret (v := .tuple #[cv (na, 1, M, N, ⟨#[]⟩), .bool true]) (by simp [results, Try.results84, go_sem]) rfl ?_
    refine ⟨⟨(na, 1, M, N, ⟨#[]⟩), by rw [R2.out]; rfl, fun k hk => ?_⟩, (b3 w _ _ _).drew⟩
    rw [R2.out] at hk
    rw [← Option.some.inj hk]
    rfl
  · have h1 : N < M := by omega
    have R2 := Lib.hid (show r = none by rw [R.out, if_neg h])
    clear h
    go_wp2
    refine bodyPost_ret (v := .tuple #[cv (⟨#[]⟩, 0, 0, 0, ⟨#[]⟩), .bool false]) (by simp [results, Try.results84, go_sem]) rfl ?_
    refine ⟨⟨(⟨#[]⟩, 0, 0, 0, ⟨#[]⟩), by rw [R2.out]; rfl, fun k hk => ?_⟩, (b3 w _ _ _).drew⟩
    rw [R2.out] at hk
    cases hk
theorem both_is (a b : Kd) : bothK a b = (match a, b with
  | .rg p q, .rg r t => if max p r ≤ min q t then some (.rg (max p r) (min q t)) else none
  | a, b => if insideK a b then some a else if insideK b a then some b else none) := by
  cases a <;> cases b <;> simp [bothK, insideK, holdsK]
  · rename_i s t
    by_cases h : s.data = t.data
    · rw [if_pos h, if_pos h]
    · rw [if_neg h, if_neg h, if_neg (fun e => h e.symm)]
  · rename_i s t
    by_cases h1 : pfx s t = true <;> by_cases h2 : pfx t s = true <;> simp [h1, h2]
    have e1 := (pfx_iff _ _).1 h1
    have e2 := (pfx_iff _ _).1 h2
    rw [bytes_eq (e2.eq_of_length_le e1.length_le)]
end Go.Proofs.Ytncogjpmboglhaa.Pr

namespace Go.Proofs.Ytncogjpmboglhaa.Pr
open Go.RowKit Go.Sort Go.Proofs.Ytncogjpmboglhaa Go.Proofs.Ytncogjpmboglhaa.Pu Go.Proofs.Ytncogjpmboglhaa.Rw Go.Proofs.Ytncogjpmboglhaa.Va

theorem boxR (w : World) (c d z : C5) : Box (((w.alloc (.cells (cells5 c).toArray 26)).alloc (.cells (cells5 d).toArray 26)).alloc (.cells (cells5 z).toArray 26)) w.heap.size (cells5 c).toArray 26 ∧ Box (((w.alloc (.cells (cells5 c).toArray 26)).alloc (.cells (cells5 d).toArray 26)).alloc (.cells (cells5 z).toArray 26)) (w.heap.size + 1) (cells5 d).toArray 26 ∧ Box (((w.alloc (.cells (cells5 c).toArray 26)).alloc (.cells (cells5 d).toArray 26)).alloc (.cells (cells5 z).toArray 26)) (w.heap.size + 1 + 1) (cells5 z).toArray 26 ∧ Below w.heap.size w (((w.alloc (.cells (cells5 c).toArray 26)).alloc (.cells (cells5 d).toArray 26)).alloc (.cells (cells5 z).toArray 26)) := by
  obtain ⟨h1, h2, h3⟩ := box2 w c d
  refine ⟨h1.more _, h2.more _, ?_, h3.alloc h3.size _⟩
  have h := box_new ((w.alloc (.cells (cells5 c).toArray 26)).alloc (.cells (cells5 d).toArray 26)) (cells5 z).toArray 26
  rwa [show ((w.alloc (.cells (cells5 c).toArray 26)).alloc (.cells (cells5 d).toArray 26)).heap.size = w.heap.size + 1 + 1 by simp] at h
/-- The cells of a block that holds a constraint. -/
theorem box_five {W : World} {b : Nat} {c : C5} (h : Box W b (cells5 c).toArray 26) : W.cell? ⟨b, 0, none⟩ = some (.string c.1) ∧ W.cell? ⟨b, 1, none⟩ = some (.int .i64 c.2.1) ∧ W.cell? ⟨b, 2, none⟩ = some (.int .i64 c.2.2.1) ∧ W.cell? ⟨b, 3, none⟩ = some (.int .i64 c.2.2.2.1) ∧ W.cell? ⟨b, 4, none⟩ = some (.string c.2.2.2.2) := ⟨h.cell 0, h.cell 1, h.cell 2, h.cell 3, h.cell 4⟩
/-- The result's block, written anew. -/
theorem below_five {B : Nat} {W w : World} (h : Below B W w) (g : Nat) (hB : B ≤ g) (v0 v1 v2 v3 v4 : Value) : Below B W (((((w.setCell ⟨g, 0, none⟩ v0).setCell ⟨g, 1, none⟩ v1).setCell ⟨g, 2, none⟩ v2).setCell ⟨g, 3, none⟩ v3).setCell ⟨g, 4, none⟩ v4) :=
  ((((h.setCell hB _).setCell hB _).setCell hB _).setCell hB _).setCell hB _

set_option maxRecDepth 100000 in
set_option maxHeartbeats 4000000 in
theorem both_rg (na nb : ByteArray) (a b c d : Int) (w : World) : Calls Try.prog 65 #[cv (r5 (na, .rg a b)), cv (r5 (nb, .rg c d))] w (BothQ na (bothK (.rg a b) (.rg c d)) w) := by
  obtain ⟨ba, bb, bz, hb⟩ := boxR w (r5 (na, .rg a b)) (r5 (nb, .rg c d)) (⟨#[]⟩, 0, 0, 0, ⟨#[]⟩)
  have B := Lib.hid hb
  have BA := Lib.hid ba
  have BB := Lib.hid bb
  have BZ := Lib.hid bz
  have O := Lib.hid (overlap_any na nb a b c d (((w.alloc (.cells (cells5 (r5 (na, .rg a b))).toArray 26)).alloc (.cells (cells5 (r5 (nb, .rg c d))).toArray 26)).alloc (.cells (cells5 (⟨#[]⟩, 0, 0, 0, ⟨#[]⟩)).toArray 26)))
  generalize bothK (.rg a b) (.rg c d) = r at *
  clear ba bb bz hb
  simp only [r5, kN, kLo, kHi, kT]
  go_enter Try.func65, Try.ntmps65
  go_wp2_with fail
  refine O.out.mono ?_
  rintro e W2 ⟨⟨x, rfl, hx⟩, hb2⟩
  have B2 := Lib.hid (B.out.trans (hb2.mono B.out.size))
  have Z2 := Lib.hid (BZ.out.on hb2)
  have X := Lib.hid hx
  obtain ⟨z0, z1, z2, z3, z4⟩ := box_five Z2.out
  have fz := fun k => Z2.out.fr k
  simp only at z0 z1 z2 z3 z4
  clear hx hb2 O B BA BB BZ
  go_wp2
  refine bodyPost_ret (v := .tuple #[cv x, .bool r.isSome]) (by simp [results, Try.results65, go_sem, z0, z1, z2, z3, z4]) rfl ?_
  exact ⟨⟨x, rfl, X.out⟩, below_five B2.out (w.heap.size + 1 + 1) (by omega) _ _ _ _ _⟩

set_option maxRecDepth 100000 in
set_option maxHeartbeats 4000000 in
/-- Not both ranges: from the first question on. -/
theorem both_apart (na nb : ByteArray) (ka kb : Kd) (w : World) (hno : (kN ka = 1 ∧ kN kb ≠ 1) ∨ kN ka ≠ 1) (hn : na = nb) (r : Option Kd) (hr : r = if insideK ka kb then some ka else if insideK kb ka then some kb else none) : Calls Try.prog 65 #[cv (r5 (na, ka)), cv (r5 (nb, kb))] w (BothQ na r w) := by
  obtain ⟨ba, bb, bz, hb⟩ := boxR w (r5 (na, ka)) (r5 (nb, kb)) (⟨#[]⟩, 0, 0, 0, ⟨#[]⟩)
  have B := Lib.hid hb
  have BA := Lib.hid ba
  have BB := Lib.hid bb
  have BZ := Lib.hid bz
  have I1 := Lib.hid (inside_any (na, ka) (nb, kb) (((w.alloc (.cells (cells5 (r5 (na, ka))).toArray 26)).alloc (.cells (cells5 (r5 (nb, kb))).toArray 26)).alloc (.cells (cells5 (⟨#[]⟩, 0, 0, 0, ⟨#[]⟩)).toArray 26)))
  have I2 := Lib.hid (fun W => inside_any (nb, kb) (na, ka) W)
  obtain ⟨i1, e1⟩ : ∃ i, insideK ka kb = i := ⟨_, rfl⟩
  obtain ⟨i2, e2⟩ : ∃ i, insideK kb ka = i := ⟨_, rfl⟩
  simp only [e1] at I1
  simp only [e2] at I2
  rw [e1, e2] at hr
  have HR := Lib.hid hr
  have NE := Lib.hid hn
  obtain ⟨j1, g1⟩ : ∃ j, (kN ka == (1 : Int)) = j := ⟨_, rfl⟩
  have g2 : j1 = true → (kN kb == (1 : Int)) = false := fun e => by
    subst e
    rcases hno with ⟨_, h⟩ | h
    · exact beq_eq_false_iff_ne.2 h
    · exact absurd (beq_iff_eq.1 g1) h
  have G2 := Lib.hid g2
  clear ba bb bz hb e1 e2 hn hno g2 hr
  simp only [r5] at I1 I2 ⊢
  cases j1
  all_goals try have g3 := G2.out rfl
  all_goals
    clear G2
    go_enter Try.func65, Try.ntmps65
    go_wp2_with fail
    refine I1.out.mono ?_
    rintro e W2 ⟨rfl, hb2⟩
    have B2 := Lib.hid (B.out.trans (hb2.mono B.out.size))
    have Z2 := Lib.hid (BZ.out.on hb2)
    have A2 := Lib.hid (BA.out.on hb2)
    have D2 := Lib.hid (BB.out.on hb2)
    obtain ⟨a0, a1, a2, a3, a4⟩ := box_five A2.out
    obtain ⟨d0, d1, d2, d3, d4⟩ := box_five D2.out
    obtain ⟨z0, z1, z2, z3, z4⟩ := box_five Z2.out
    have fz := fun k => Z2.out.fr k
    simp only [r5] at a0 a1 a2 a3 a4 d0 d1 d2 d3 d4
    simp only at z0 z1 z2 z3 z4
    clear hb2 B BA BB BZ I1
    rcases Bool.eq_false_or_eq_true i1 with rfl | rfl
    · go_wp2
      refine bodyPost_ret (v := .tuple #[cv (r5 (na, ka)), .bool true]) (by simp [results, Try.results65, go_sem, z0, z1, z2, z3, z4, r5]) rfl ?_
      exact ⟨⟨r5 (na, ka), by rw [HR.out]; rfl, fun k hk => by rw [HR.out] at hk; rw [← Option.some.inj hk]⟩, below_five B2.out (w.heap.size + 1 + 1) (by omega) _ _ _ _ _⟩
    · clear a0 a1 a2 a3 a4 d0 d1 d2 d3 d4
      obtain ⟨a0, a1, a2, a3, a4⟩ := box_five A2.out
      obtain ⟨d0, d1, d2, d3, d4⟩ := box_five D2.out
      simp only [r5] at a0 a1 a2 a3 a4 d0 d1 d2 d3 d4
      go_wp2_with fail
      refine (I2.out _).mono ?_
      rintro e W3 ⟨rfl, hb3⟩
      have B3 := Lib.hid (B2.out.trans (hb3.mono B2.out.size))
      have Z3 := Lib.hid (Z2.out.on hb3)
      have D3 := Lib.hid (D2.out.on hb3)
      clear a0 a1 a2 a3 a4 d0 d1 d2 d3 d4 z0 z1 z2 z3 z4 fz
      obtain ⟨d0, d1, d2, d3, d4⟩ := box_five D3.out
      obtain ⟨z0, z1, z2, z3, z4⟩ := box_five Z3.out
      have fz := fun k => Z3.out.fr k
      simp only [r5] at d0 d1 d2 d3 d4
      simp only at z0 z1 z2 z3 z4
      clear hb3 B2 I2 A2 D2 Z2
      rcases Bool.eq_false_or_eq_true i2 with rfl | rfl
      · go_wp2
        refine bodyPost_ret (v := .tuple #[cv (r5 (nb, kb)), .bool true]) (by simp [results, Try.results65, go_sem, z0, z1, z2, z3, z4, r5]) rfl ?_
        exact ⟨⟨r5 (nb, kb), by rw [HR.out]; rfl, fun k hk => by rw [HR.out] at hk; rw [NE.out, ← Option.some.inj hk]⟩, below_five B3.out (w.heap.size + 1 + 1) (by omega) _ _ _ _ _⟩
      · go_wp2
        refine bodyPost_ret (v := .tuple #[cv ((⟨#[]⟩, 0, 0, 0, ⟨#[]⟩)), .bool false]) (by simp [results, Try.results65, go_sem, z0, z1, z2, z3, z4]) rfl ?_
        exact ⟨⟨(⟨#[]⟩, 0, 0, 0, ⟨#[]⟩), by rw [HR.out]; rfl, fun k hk => by rw [HR.out] at hk; cases hk⟩, below_five B3.out (w.heap.size + 1 + 1) (by omega) _ _ _ _ _⟩

theorem both_any (a b : Cn) (w : World) (hn : a.1 = b.1) : Calls Try.prog 65 #[cv (r5 a), cv (r5 b)] w (BothQ a.1 (bothK a.2 b.2) w) := by
  obtain ⟨na, ka⟩ := a
  obtain ⟨nb, kb⟩ := b
  cases ka with
  | rg p q =>
    cases kb with
    | rg r t => exact both_rg na nb p q r t w
    | tx t => exact both_apart na nb _ _ w (Or.inl ⟨rfl, by simp [kN]⟩) hn _ (both_is _ _)
    | pr t => exact both_apart na nb _ _ w (Or.inl ⟨rfl, by simp [kN]⟩) hn _ (both_is _ _)
  | tx s => exact both_apart na nb _ _ w (Or.inr (by simp [kN])) hn _ (both_is _ _)
  | pr s => exact both_apart na nb _ _ w (Or.inr (by simp [kN])) hn _ (both_is _ _)
end Go.Proofs.Ytncogjpmboglhaa.Pr

namespace Go.Proofs.Ytncogjpmboglhaa.Pr
open Go.RowKit Go.Sort Go.Proofs.Ytncogjpmboglhaa Go.Proofs.Ytncogjpmboglhaa.Pu Go.Proofs.Ytncogjpmboglhaa.Rw Go.Proofs.Ytncogjpmboglhaa.Va

theorem box_store {W : World} {b : Nat} {z : C5} (h : Box W b (cells5 z).toArray 26) (x : C5) : Box (((((W.setCell ⟨b, 0, none⟩ (.string x.1)).setCell ⟨b, 1, none⟩ (.int .i64 x.2.1)).setCell ⟨b, 2, none⟩ (.int .i64 x.2.2.1)).setCell ⟨b, 3, none⟩ (.int .i64 x.2.2.2.1)).setCell ⟨b, 4, none⟩ (.string x.2.2.2.2)) b (cells5 x).toArray 26 := by
  have h1 := heap_setCell_same W b 0 _ 26 (.string x.1) h
  have h2 := heap_setCell_same _ b 1 _ 26 (.int .i64 x.2.1) h1
  have h3 := heap_setCell_same _ b 2 _ 26 (.int .i64 x.2.2.1) h2
  have h4 := heap_setCell_same _ b 3 _ 26 (.int .i64 x.2.2.2.1) h3
  have h5 := heap_setCell_same _ b 4 _ 26 (.string x.2.2.2.2) h4
  unfold Box
  rw [h5]
  simp [cells5]
end Go.Proofs.Ytncogjpmboglhaa.Pr

namespace Go.Proofs.Ytncogjpmboglhaa.Rl
open Go.RowKit Go.Sort Go.Proofs.Ytncogjpmboglhaa Go.Proofs.Ytncogjpmboglhaa.Pu Go.Proofs.Ytncogjpmboglhaa.Rw Go.Proofs.Ytncogjpmboglhaa.Pr Go.Proofs.Ytncogjpmboglhaa.Va

abbrev z5 : C5 := (⟨#[]⟩, 0, 0, 0, ⟨#[]⟩)
def ofV : Option Cn → Value
  | some y => .tuple #[cv (r5 y), .bool true]
  | none => .tuple #[cv z5, .bool false]
set_option maxRecDepth 100000 in
set_option maxHeartbeats 4000000 in
theorem of_any (pv : Value) (p : List Cn) (n : ByteArray) (w : World) (hp : RowC w pv (p.map r5)) (_h100 : p.length ≤ 100) :
    Calls Try.prog 41 #[pv, .string n] w fun e w' => e = .returned (ofV (ofC p n)) ∧ Below w.heap.size w w' := by
  have HP := Lib.hid hp
  obtain ⟨ao, ac, rfl⟩ := hp.len
  rw [List.length_map] at HP ⊢
  generalize hm : p.length = m at *
  have HM := Lib.hid hm
  clear hp hm
  have B0 := Lib.hid (show Below w.heap.size w (w.alloc (.cells #[.string ⟨#[]⟩, .int .i64 0, .int .i64 0, .int .i64 0, .string ⟨#[]⟩] 26)) from (Below.refl _ _).alloc (Nat.le_refl _) _)
  have Z0 := Lib.hid (show Box (w.alloc (.cells #[.string ⟨#[]⟩, .int .i64 0, .int .i64 0, .int .i64 0, .string ⟨#[]⟩] 26)) w.heap.size (cells5 z5).toArray 26 from box_new w _ _)
  go_enter Try.func41, Try.ntmps41
  go_wp2
  generalize w.alloc (.cells #[.string ⟨#[]⟩, .int .i64 0, .int .i64 0, .int .i64 0, .string ⟨#[]⟩] 26) = w1 at B0 Z0 ⊢
  go_loopw [10] (fun i wr => ∃ k : Nat, k ≤ m ∧ i = .int .i64 k ∧ Below w.heap.size w wr ∧ Box wr w.heap.size (cells5 z5).toArray 26 ∧ ∀ (j : Nat) (y : Cn), j < k → p[j]? = some y → y.1 ≠ n) (fun i _ => m - (intOf i).toNat)
  case atStart => exact ⟨0, Nat.zero_le _, rfl, B0.out, Z0.out, fun j y h => by omega⟩
  case round =>
    obtain ⟨k, hk, rfl, hb, ht, hall⟩ := hrel
    have HB := Lib.hid hb
    have HT := Lib.hid ht
    have AL := Lib.hid hall
    clear hb hall ht
    by_cases hlt : k < m
    · obtain ⟨⟨xn, xk⟩, hx⟩ : ∃ x, p[k]? = some x := ⟨_, List.getElem?_eq_getElem (by rw [HM.out]; exact hlt)⟩
      obtain ⟨q, ix, px⟩ := elC (x := r5 (xn, xk)) HP.out rfl (by rw [List.length_map]; exact HM.out) (by rw [List.getElem?_map, hx]; rfl)
      obtain ⟨p0, p1, p2, p3, p4⟩ := px _ HB.out
      have HX := Lib.hid hx
      have B4 := Lib.hid (HB.out.alloc HB.out.size (.cells #[.string xn, .int .i64 (kN xk), .int .i64 (kLo xk), .int .i64 (kHi xk), .string (kT xk)] 26))
      have T4 := Lib.hid (HT.out.more (.cells #[.string xn, .int .i64 (kN xk), .int .i64 (kLo xk), .int .i64 (kHi xk), .string (kT xk)] 26))
      clear hx px
      simp only [r5] at p0 p1 p2 p3 p4
      by_cases he : xn = n
      · have hn : (xn.toList == n.toList) = true := by rw [he]; exact beq_self_eq_true _
        have R := Lib.hid (of_at HX.out he AL.out)
        clear he
        obtain ⟨c0, c1, c2, c3, c4⟩ := box_five HT.out
        have f0 := HT.out.fr 0
        have f1 := HT.out.fr 1
        have f2 := HT.out.fr 2
        have f3 := HT.out.fr 3
        have f4 := HT.out.fr 4
        have hlt4 := HT.out.lt
        simp only at c0 c1 c2 c3 c4
        go_wp2
        have T5 := (box_store HT.out (xn, kN xk, kLo xk, kHi xk, kT xk)).more (.cells #[.string xn, .int .i64 (kN xk), .int .i64 (kLo xk), .int .i64 (kHi xk), .string (kT xk)] 26)
        have B5 := (below_five HB.out w.heap.size (Nat.le_refl _) (.string xn) (.int .i64 (kN xk)) (.int .i64 (kLo xk)) (.int .i64 (kHi xk)) (.string (kT xk))).alloc (below_five HB.out w.heap.size (Nat.le_refl _) (.string xn) (.int .i64 (kN xk)) (.int .i64 (kLo xk)) (.int .i64 (kHi xk)) (.string (kT xk))).size (.cells #[.string xn, .int .i64 (kN xk), .int .i64 (kLo xk), .int .i64 (kHi xk), .string (kT xk)] 26)
        generalize World.alloc _ (.cells #[.string xn, .int .i64 (kN xk), .int .i64 (kLo xk), .int .i64 (kHi xk), .string (kT xk)] 26) = w6 at T5 B5 ⊢
        obtain ⟨d0, d1, d2, d3, d4⟩ := box_five T5
        simp only at d0 d1 d2 d3 d4
        refine bodyPost_ret (v := ofV (some (xn, xk))) (by simp [results, Try.results41, go_sem, d0, d1, d2, d3, d4, ofV, r5]) rfl ⟨by rw [R.out], B5⟩
      · have hn : (xn.toList == n.toList) = false := by rw [beq_eq_false_iff_ne]; exact fun h => he (name_inj h)
        have HE := Lib.hid he
        clear he
        go_wp2
        go_roundw
        case rel => exact ⟨k + 1, by omega, by go_num, B4.out, T4.out, fun j y hj hy => by
          rcases Nat.lt_or_ge j k with h3 | h3
          · exact AL.out j y h3 hy
          · obtain rfl : j = k := by omega
            have e := HX.out
            rw [hy] at e
            rw [Option.some.inj e]
            exact HE.out⟩
        case measure => simp [intOf]; omega
    · obtain rfl : k = m := by omega
      have R := Lib.hid (of_none (p := p) (n := n) (fun j y hj hy => AL.out j y (by rw [← HM.out]; exact hj) hy))
      obtain ⟨c0, c1, c2, c3, c4⟩ := box_five HT.out
      have f0 := HT.out.fr 0
      have f1 := HT.out.fr 1
      have f2 := HT.out.fr 2
      have f3 := HT.out.fr 3
      have f4 := HT.out.fr 4
      have hlt4 := HT.out.lt
      simp only at c0 c1 c2 c3 c4
      go_wp2
      have T5 := box_store HT.out z5
      have B5 := below_five HB.out w.heap.size (Nat.le_refl _) (.string ⟨#[]⟩) (.int .i64 0) (.int .i64 0) (.int .i64 0) (.string ⟨#[]⟩)
      simp only at T5
      generalize World.setCell _ _ (.string ⟨#[]⟩) = w6 at T5 B5 ⊢
      obtain ⟨d0, d1, d2, d3, d4⟩ := box_five T5
      simp only at d0 d1 d2 d3 d4
      refine bodyPost_ret (v := ofV none) (by simp [results, Try.results41, go_sem, d0, d1, d2, d3, d4, ofV]) rfl ⟨by rw [R.out], B5⟩
set_option maxRecDepth 100000 in
set_option maxHeartbeats 4000000 in
theorem wider_any (n : ByteArray) (c d : Kd) (w : World) (hc : goodK c = true) (hd : goodK d = true) :
    Calls Try.prog 42 #[cv (r5 (n, c)), cv (r5 (n, d))] w fun e w' => e = .returned (.bool (impliesK d c)) ∧ Below w.heap.size w w' := by
  obtain ⟨ba, bb, hb⟩ := box2 w (r5 (n, c)) (r5 (n, d))
  have BB := Lib.hid bb
  have B := Lib.hid hb
  have CB := Lib.hid (both_any (n, c) (n, d) ((w.alloc (.cells (cells5 (r5 (n, c))).toArray 26)).alloc (.cells (cells5 (r5 (n, d))).toArray 26)) rfl)
  have WS := Lib.hid (fun k (h : bothK c d = some k) => wider_some (n := n) hc hd h)
  have WN := Lib.hid (fun (h : bothK c d = none) => wider_none hd h)
  simp only at CB
  generalize bothK c d = r at *
  generalize impliesK d c = i at *
  clear ba bb hb hc hd
  simp only [r5] at CB ⊢
  go_enter Try.func42, Try.ntmps42
  go_wp2_with fail
  refine CB.out.mono ?_
  rintro e w2 ⟨⟨y, rfl, hy⟩, hb2⟩
  have B2 := Lib.hid (B.out.trans (hb2.mono B.out.size))
  obtain ⟨b0, b1, b2, b3, b4⟩ := box_five (BB.out.on hb2)
  simp only [r5] at b0 b1 b2 b3 b4
  have B3 := Lib.hid (B2.out.alloc B2.out.size (.cells #[.string y.1, .int .i64 y.2.1, .int .i64 y.2.2.1, .int .i64 y.2.2.2.1, .string y.2.2.2.2] 26))
  have HY := Lib.hid hy
  have hw2 : w.heap.size + 1 < w2.heap.size := by have := hb2.size; simp at this; omega
  clear hb2 CB BB B hy
  rcases r with _ | k
  · have E := Lib.hid (WN.out rfl)
    clear WN WS
    go_wp2
    go_ret
    exact ⟨ret_bool E.out.symm, B3.out⟩
  · have E := Lib.hid (show eqlC y (r5 (n, d)) = i by rw [HY.out k rfl]; exact WS.out k rfl)
    obtain ⟨y0, y1, y2, y3, y4⟩ := y
    clear WN WS HY B3
    go_wp2
    all_goals go_ret
    all_goals exact ⟨ret_bool (by rw [← E.out]; simp [eqlC, r5, *]), B2.out.alloc B2.out.size _⟩
end Go.Proofs.Ytncogjpmboglhaa.Rl
