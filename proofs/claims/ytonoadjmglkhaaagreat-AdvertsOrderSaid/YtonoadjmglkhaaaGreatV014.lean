/-
  Stores into elements of rows of one's own; a broker while Copy fills it. No program's function in it.
  A step of Copy: an advertisement copied. Condition: at most 900 constraints.
  A step of Copy: an entry's predicate copied. Condition: at most 900 constraints.
-/
import Derived.Test.YtonoadjmglkhaaaGreatV012
import Derived.Test.YtonoadjmglkhaaaGreatV013
import Derived.Test.YtonoadjmglkhaaaGreatV001
namespace Go.Proofs.YtonoadjmglkhaaaGreat.Av
open Go.RowKit Go.Sort Go.Proofs.YtonoadjmglkhaaaGreat Go.Proofs.YtonoadjmglkhaaaGreat.Rw Go.Proofs.YtonoadjmglkhaaaGreat.Nm Go.Proofs.YtonoadjmglkhaaaGreat.Pr Go.Proofs.YtonoadjmglkhaaaGreat.Bk

theorem own_row_at {α : Type} {E : Ek α} (K : E.Ok) {W : World} {B g n cap k : Nat} {l : List α} {x : α} (h : Own E W B (.slice (some ⟨g, 0, none⟩) n cap) l) (hk : l[k]? = some x) : ∀ w, Below W.heap.size W w → ∀ j u, (E.cells x)[j]? = some u → w.cell? ((⟨g, k * E.n, none⟩ : Addr).add j) = some u := by
  obtain ⟨ao, c, hv⟩ := (Row.of_own h).len
  obtain ⟨rfl, rfl, rfl⟩ : some ⟨g, 0, none⟩ = ao ∧ n = l.length ∧ cap = c := by simpa using hv
  obtain ⟨p, h1, _, h2⟩ := row_el K (Row.of_own h) rfl rfl hk
  have h3 := index_own K g k l.length cap (List.getElem?_eq_some_iff.1 hk).1 W
  rw [h1] at h3
  injection h3 with h4 _
  injection h4 with h5
  injection h5 with h6
  subst h6
  exact h2
/-- The tag of a row's block. -/
theorem own_tag {α : Type} {E : Ek α} {W : World} {B g n cap : Nat} {l : List α} (h : Own E W B (.slice (some ⟨g, 0, none⟩) n cap) l) : ∃ cur, Box W g cur E.t := by
  rcases own_open h with ⟨h1, _⟩ | ⟨g', c', cur, h1, _, h2, _⟩
  · cases h1
  · obtain ⟨rfl, _⟩ : g = g' ∧ True := by simp at h1; exact ⟨h1.1, trivial⟩
    exact ⟨cur, h2⟩
theorem box_ne {W : World} {b g : Nat} {c d : Array Value} {s t : TypeId} (hb : Box W b c s) (hg : Box W g d t) (hne : (s == t) = false) : b ≠ g := by
  rintro rfl
  unfold Box at hb hg
  rw [hb] at hg
  injection hg with h
  injection h with _ h2
  rw [h2] at hne
  simp at hne
/-- All but one block stays. -/
def But (g : Nat) (W x : World) : Prop := (∀ k, k < W.heap.size → k ≠ g → x.heap[k]? = W.heap[k]?) ∧ W.heap.size ≤ x.heap.size
theorem But.box {g b : Nat} {W x : World} {cs : Array Value} {t : TypeId} (h : But g W x) (hb : Box W b cs t) (hne : b ≠ g) : Box x b cs t := (h.1 b hb.lt hne).trans hb
theorem But.own {α : Type} {E : Ek α} {g : Nat} {W x : World} {B : Nat} {v : Value} {l : List α} {d : Array Value} {t : TypeId} (h : But g W x) (ho : Own E W B v l) (hg : Box W g d t) (hne : (E.t == t) = false) : Own E x B v l := by
  refine ⟨ho.1, ?_⟩
  rcases ho.2 with h2 | ⟨g', cap, cur, h1, h2, h3, h4⟩
  · exact Or.inl h2
  · exact Or.inr ⟨g', cap, cur, h1, h2, by rw [h.1 g' (lt_of_heap h3) (box_ne (show Box W g' cur E.t from h3) hg hne)]; exact h3, h4⟩
theorem flatD_set : ∀ (l : List XAd) (k : Nat) (x : XAd), k < l.length → flat ED (l.set k x) = ((((flat ED l).set (k * 4) (.int .i64 x.1)).set (k * 4 + 1) (.int .i64 x.2.1)).set (k * 4 + 2) (slv x.2.2.1)).set (k * 4 + 3) (.int .i64 x.2.2.2)
  | [], k, x, h => by simp at h
  | y :: r, 0, x, _ => rfl
  | y :: r, k + 1, x, h => by
    have ih := flatD_set r k x (by simpa using h)
    rw [show (k + 1) * 4 + 3 = (k * 4 + 3) + 1 + 1 + 1 + 1 by omega, show (k + 1) * 4 + 2 = (k * 4 + 2) + 1 + 1 + 1 + 1 by omega, show (k + 1) * 4 + 1 = (k * 4 + 1) + 1 + 1 + 1 + 1 by omega, show (k + 1) * 4 = (k * 4) + 1 + 1 + 1 + 1 by omega]
    simp only [List.set_cons_succ, flat, ED, cellsD, List.cons_append, List.nil_append] at ih ⊢
    rw [ih]
theorem flatN_set : ∀ (l : List XEn) (k : Nat) (x : XEn) (s : Sl), l[k]? = some x → flat EN (l.set k (x.1, x.2.1, x.2.2.1, x.2.2.2.1, s, x.2.2.2.2.2.1, x.2.2.2.2.2.2)) = (flat EN l).set (k * 7 + 4) (slv s)
  | [], k, x, s, h => by simp at h
  | y :: r, 0, x, s, h => by
    obtain rfl : y = x := by simpa using h
    rfl
  | y :: r, k + 1, x, s, h => by
    have ih := flatN_set r k x s (by simpa using h)
    rw [show (k + 1) * 7 + 4 = (k * 7 + 4) + 1 + 1 + 1 + 1 + 1 + 1 + 1 by omega]
    simp only [List.set_cons_succ, flat, EN, cellsN, List.cons_append, List.nil_append] at ih ⊢
    rw [ih]
theorem flatW_set : ∀ (l : List XOw) (k : Nat) (x : XOw) (s : Sl), l[k]? = some x → flat EW (l.set k (x.1, x.2.1, s)) = (flat EW l).set (k * 3 + 2) (slv s)
  | [], k, x, s, h => by simp at h
  | y :: r, 0, x, s, h => by
    obtain rfl : y = x := by simpa using h
    rfl
  | y :: r, k + 1, x, s, h => by
    have ih := flatW_set r k x s (by simpa using h)
    rw [show (k + 1) * 3 + 2 = (k * 3 + 2) + 1 + 1 + 1 by omega]
    simp only [List.set_cons_succ, flat, EW, cellsW, List.cons_append, List.nil_append] at ih ⊢
    rw [ih]
/-- What a store into an element of a row of one's own does. -/
def StoQ {α : Type} (E : Ek α) (B g : Nat) (v : Value) (l : List α) (w w' : World) : Prop := Own E w' B v l ∧ But g w w' ∧ (∀ B' W, B' ≤ g → Below B' W w → Below B' W w')
theorem but_cell (w : World) (g j : Nat) (u : Value) : But g w (w.setCell ⟨g, j, none⟩ u) := ⟨fun k _ hk => RowKit.Below.heap_setCell w ⟨g, j, none⟩ u k hk, by simp⟩
theorem But.trans {g : Nat} {a b c : World} (h1 : But g a b) (h2 : But g b c) : But g a c := ⟨fun k hk hne => (h2.1 k (Nat.lt_of_lt_of_le hk h1.2) hne).trans (h1.1 k hk hne), Nat.le_trans h1.2 h2.2⟩
theorem But.of_below {g : Nat} {a b : World} (h : Below a.heap.size a b) : But g a b := ⟨fun k hk _ => h.block k hk, h.size⟩
set_option maxRecDepth 10000 in
theorem storeD {w : World} {B g n cap k : Nat} {l : List XAd} (x : XAd) (h : OwnD w B (.slice (some ⟨g, 0, none⟩) n cap) l) (hk : k < l.length) :
    ∃ w', (Instr.storeAt 42 (.pointer (some ⟨g, k * 4, none⟩)) (valD x)).run Tryz.prog w = .ok () w' ∧ StoQ ED B g (.slice (some ⟨g, 0, none⟩) n cap) (l.set k x) w w' := by
  obtain ⟨y, hy⟩ : ∃ y, l[k]? = some y := ⟨_, List.getElem?_eq_getElem hk⟩
  have c := own_row_at okD h hy w (Below.refl _ _)
  have c0 := c 0 _ rfl
  have c1 := c 1 _ rfl
  have c2 := c 2 _ rfl
  have c3 := c 3 _ rfl
  simp [Addr.add, ED] at c0 c1 c2 c3
  obtain ⟨cur, hb⟩ := own_tag h
  have f := fun j => hb.fr j
  obtain ⟨ao, c', hv⟩ := (Row.of_own h).len
  obtain ⟨_, rfl, _⟩ : some ⟨g, 0, none⟩ = ao ∧ n = l.length ∧ cap = c' := by simpa using hv
  have h : w.ownsRow B 42 4 (.slice (some ⟨g, 0, none⟩) l.length cap) l.length (flat ED l) := h
  have s1 := (h.stored (k * 4) (.int .i64 x.1)).1
  have s2 := (s1.stored (k * 4 + 1) (.int .i64 x.2.1)).1
  have s3 := (s2.stored (k * 4 + 2) (slv x.2.2.1)).1
  have s4 := (s3.stored (k * 4 + 3) (.int .i64 x.2.2.2)).1
  refine ⟨(((w.setCell ⟨g, k * 4, none⟩ (.int .i64 x.1)).setCell ⟨g, k * 4 + 1, none⟩ (.int .i64 x.2.1)).setCell ⟨g, k * 4 + 2, none⟩ (slv x.2.2.1)).setCell ⟨g, k * 4 + 3, none⟩ (.int .i64 x.2.2.2), ?_, ?_, ((but_cell _ g _ _).trans (but_cell _ g _ _)).trans ((but_cell _ g _ _).trans (but_cell _ g _ _)), fun B' W hB hb => (((hb.setCell (p := ⟨g, _, none⟩) hB _).setCell (p := ⟨g, _, none⟩) hB _).setCell (p := ⟨g, _, none⟩) hB _).setCell (p := ⟨g, _, none⟩) hB _⟩
  · simp [go_sem, c0, c1, c2, c3, f]
  · have e := flatD_set l k x hk
    show World.ownsRow _ B 42 4 _ (l.set k x).length (flat ED (l.set k x))
    rw [e, List.length_set]
    exact s4
theorem storeN {w : World} {B g n cap k : Nat} {l : List XEn} {x : XEn} (s1 : Option Addr) (s2 s3 : Nat) (h : OwnN w B (.slice (some ⟨g, 0, none⟩) n cap) l) (hk : l[k]? = some x) :
    ∃ w', (Instr.storeAt 39 (.pointer (some ⟨g, k * 7 + 4, none⟩)) (.slice s1 s2 s3)).run Tryz.prog w = .ok () w' ∧ StoQ EN B g (.slice (some ⟨g, 0, none⟩) n cap) (l.set k (x.1, x.2.1, x.2.2.1, x.2.2.2.1, (s1, s2, s3), x.2.2.2.2.2.1, x.2.2.2.2.2.2)) w w' := by
  have c := own_row_at okN h hk w (Below.refl _ _)
  have c4 := c 4 _ rfl
  simp [Addr.add, EN] at c4
  obtain ⟨cur, hb⟩ := own_tag h
  have f := hb.fr (k * 7 + 4)
  obtain ⟨ao, c', hv⟩ := (Row.of_own h).len
  obtain ⟨_, rfl, _⟩ : some ⟨g, 0, none⟩ = ao ∧ n = l.length ∧ cap = c' := by simpa using hv
  have h : w.ownsRow B 58 7 (.slice (some ⟨g, 0, none⟩) l.length cap) l.length (flat EN l) := h
  have t1 := (h.stored (k * 7 + 4) (.slice s1 s2 s3)).1
  refine ⟨w.setCell ⟨g, k * 7 + 4, none⟩ (.slice s1 s2 s3), by simp [go_sem, c4, f], ?_, but_cell _ g _ _, fun B' W hB hb => hb.setCell (p := ⟨g, _, none⟩) hB _⟩
  have e := flatN_set l k x (s1, s2, s3) hk
  show World.ownsRow _ B 58 7 _ (List.length _) (flat EN _)
  rw [e, List.length_set]
  exact t1
theorem storeW {w : World} {B g n cap k : Nat} {l : List XOw} {x : XOw} (s1 : Option Addr) (s2 s3 : Nat) (h : OwnW w B (.slice (some ⟨g, 0, none⟩) n cap) l) (hk : l[k]? = some x) :
    ∃ w', (Instr.storeAt 39 (.pointer (some ⟨g, k * 3 + 2, none⟩)) (.slice s1 s2 s3)).run Tryz.prog w = .ok () w' ∧ StoQ EW B g (.slice (some ⟨g, 0, none⟩) n cap) (l.set k (x.1, x.2.1, (s1, s2, s3))) w w' := by
  have c := own_row_at okW h hk w (Below.refl _ _)
  have c2 := c 2 _ rfl
  simp [Addr.add, EW] at c2
  obtain ⟨cur, hb⟩ := own_tag h
  have f := hb.fr (k * 3 + 2)
  obtain ⟨ao, c', hv⟩ := (Row.of_own h).len
  obtain ⟨_, rfl, _⟩ : some ⟨g, 0, none⟩ = ao ∧ n = l.length ∧ cap = c' := by simpa using hv
  have h : w.ownsRow B 60 3 (.slice (some ⟨g, 0, none⟩) l.length cap) l.length (flat EW l) := h
  have t1 := (h.stored (k * 3 + 2) (.slice s1 s2 s3)).1
  refine ⟨w.setCell ⟨g, k * 3 + 2, none⟩ (.slice s1 s2 s3), by simp [go_sem, c2, f], ?_, but_cell _ g _ _, fun B' W hB hb => hb.setCell (p := ⟨g, _, none⟩) hB _⟩
  have e := flatW_set l k x (s1, s2, s3) hk
  show World.ownsRow _ B 60 3 _ (List.length _) (flat EW _)
  rw [e, List.length_set]
  exact t1
theorem All2.set {α β : Type} {R : α → β → Prop} : ∀ {l : List α} {m : List β} (k : Nat) (a : α) (b : β), All2 R l m → m[k]? = some b → R a b → All2 R (l.set k a) m
  | _, _, _, _, _, .nil, h, _ => by simp at h
  | _, _, 0, a, b, .cons x t, h, hr => by
    simp at h
    subst h
    exact .cons hr t
  | _, _, k + 1, a, b, .cons x t, h, hr => .cons x (All2.set k a b t (by simpa using h) hr)
/-- A predicate: still the one that came in, or copied. -/
def PM (w0 : World) (B : Nat) (wr : World) (v : Value) (p : List C5) : Prop := RowC w0 v p ∨ OwnC wr B v p
def AdM (w0 : World) (B : Nat) (wr : World) (x : XAd) (a : Ad) : Prop := (x.1, x.2.1) = a.id ∧ x.2.2.2 = a.par ∧ PM w0 B wr (slv x.2.2.1) a.p
def EnM (w0 : World) (B : Nat) (wr : World) (x : XEn) (a : En) : Prop := (x.1, x.2.1) = a.tree ∧ (x.2.2.1, x.2.2.2.1) = a.sub ∧ x.2.2.2.2.2.1 = a.from_ ∧ x.2.2.2.2.2.2 = a.up ∧ PM w0 B wr (slv x.2.2.2.2.1) a.p
def OwM (w0 : World) (B : Nat) (wr : World) (x : XOw) (a : Ow) : Prop := (x.1, x.2.1) = a.id ∧ PM w0 B wr (slv x.2.2) a.p
theorem PM.grow {w0 wr x : World} {B : Nat} {v : Value} {p : List C5} (h : PM w0 B wr v p) (hb : Below wr.heap.size wr x) : PM w0 B x v p := h.imp id fun h => Bk.own_on h hb
theorem PM.but {w0 wr x : World} {B : Nat} {v : Value} {p : List C5} {g : Nat} {d : Array Value} {t : TypeId} (h : PM w0 B wr v p) (hb : But g wr x) (hg : Box wr g d t) (hne : (62 == t) = false) : PM w0 B x v p := h.imp id fun h => hb.own h hg hne
theorem PM.row {w0 wr : World} {B : Nat} {v : Value} {p : List C5} (h : PM w0 B wr v p) (hb : Below w0.heap.size w0 wr) : RowC wr v p := h.elim (fun h => h.on hb) Row.of_own
theorem AdM.grow {w0 wr x : World} {B : Nat} {y : XAd} {a : Ad} (h : AdM w0 B wr y a) (hb : Below wr.heap.size wr x) : AdM w0 B x y a := ⟨h.1, h.2.1, h.2.2.grow hb⟩
theorem EnM.grow {w0 wr x : World} {B : Nat} {y : XEn} {a : En} (h : EnM w0 B wr y a) (hb : Below wr.heap.size wr x) : EnM w0 B x y a := ⟨h.1, h.2.1, h.2.2.1, h.2.2.2.1, h.2.2.2.2.grow hb⟩
theorem OwM.grow {w0 wr x : World} {B : Nat} {y : XOw} {a : Ow} (h : OwM w0 B wr y a) (hb : Below wr.heap.size wr x) : OwM w0 B x y a := ⟨h.1, h.2.grow hb⟩
theorem AdM.but {w0 wr x : World} {B : Nat} {y : XAd} {a : Ad} {g : Nat} {d : Array Value} {t : TypeId} (h : AdM w0 B wr y a) (hb : But g wr x) (hg : Box wr g d t) (hne : (62 == t) = false) : AdM w0 B x y a := ⟨h.1, h.2.1, h.2.2.but hb hg hne⟩
theorem EnM.but {w0 wr x : World} {B : Nat} {y : XEn} {a : En} {g : Nat} {d : Array Value} {t : TypeId} (h : EnM w0 B wr y a) (hb : But g wr x) (hg : Box wr g d t) (hne : (62 == t) = false) : EnM w0 B x y a := ⟨h.1, h.2.1, h.2.2.1, h.2.2.2.1, h.2.2.2.2.but hb hg hne⟩
theorem OwM.but {w0 wr x : World} {B : Nat} {y : XOw} {a : Ow} {g : Nat} {d : Array Value} {t : TypeId} (h : OwM w0 B wr y a) (hb : But g wr x) (hg : Box wr g d t) (hne : (62 == t) = false) : OwM w0 B x y a := ⟨h.1, h.2.but hb hg hne⟩
/-- A broker whose rows are one's own, above B, and whose predicates are one's own or were there in w0. -/
structure Cp (w0 : World) (B : Nat) (wr : World) (b : Br) (nv av sv ev ov : Sl) : Prop where
  near : OwnI wr B (slv nv) b.near
  seen : OwnJ wr B (slv sv) b.seen
  adv : ∃ l, OwnD wr B (slv av) l ∧ All2 (AdM w0 B wr) l b.adv
  ent : ∃ l, OwnN wr B (slv ev) l ∧ All2 (EnM w0 B wr) l b.ent
  own : ∃ l, OwnW wr B (slv ov) l ∧ All2 (OwM w0 B wr) l b.own
theorem Cp.grow {w0 wr x : World} {B : Nat} {b : Br} {nv av sv ev ov : Sl} (h : Cp w0 B wr b nv av sv ev ov) (hb : Below wr.heap.size wr x) : Cp w0 B x b nv av sv ev ov where
  near := Bk.own_on h.near hb
  seen := Bk.own_on h.seen hb
  adv := by obtain ⟨l, h1, h2⟩ := h.adv; exact ⟨l, Bk.own_on h1 hb, h2.mono fun _ _ h => h.grow hb⟩
  ent := by obtain ⟨l, h1, h2⟩ := h.ent; exact ⟨l, Bk.own_on h1 hb, h2.mono fun _ _ h => h.grow hb⟩
  own := by obtain ⟨l, h1, h2⟩ := h.own; exact ⟨l, Bk.own_on h1 hb, h2.mono fun _ _ h => h.grow hb⟩
/-- A store into a broker's variable leaves its rows. -/
theorem Cp.but {w0 wr x : World} {B : Nat} {b : Br} {nv av sv ev ov : Sl} (h : Cp w0 B wr b nv av sv ev ov) {g : Nat} {d : Array Value} (hb : But g wr x) (hg : Box wr g d 29) : Cp w0 B x b nv av sv ev ov where
  near := hb.own h.near hg (by decide)
  seen := hb.own h.seen hg (by decide)
  adv := by obtain ⟨l, h1, h2⟩ := h.adv; exact ⟨l, hb.own h1 hg (by decide), h2.mono fun _ _ h => h.but hb hg (by decide)⟩
  ent := by obtain ⟨l, h1, h2⟩ := h.ent; exact ⟨l, hb.own h1 hg (by decide), h2.mono fun _ _ h => h.but hb hg (by decide)⟩
  own := by obtain ⟨l, h1, h2⟩ := h.own; exact ⟨l, hb.own h1 hg (by decide), h2.mono fun _ _ h => h.but hb hg (by decide)⟩
theorem Cp.br {w0 wr : World} {B : Nat} {b : Br} {nv av sv ev ov : Sl} (h : Cp w0 B wr b nv av sv ev ov) (hl : Below w0.heap.size w0 wr) : BrIn wr b nv av sv ev ov where
  near := Row.of_own h.near
  adv := by obtain ⟨l, h1, h2⟩ := h.adv; exact ⟨l, Row.of_own h1, h2.mono fun _ _ q => ⟨q.1, q.2.1, q.2.2.row hl⟩⟩
  seen := Row.of_own h.seen
  ent := by obtain ⟨l, h1, h2⟩ := h.ent; exact ⟨l, Row.of_own h1, h2.mono fun _ _ q => ⟨q.1, q.2.1, q.2.2.1, q.2.2.2.1, q.2.2.2.2.row hl⟩⟩
  own := by obtain ⟨l, h1, h2⟩ := h.own; exact ⟨l, Row.of_own h1, h2.mono fun _ _ q => ⟨q.1, q.2.row hl⟩⟩
/-- A broker while Copy fills it. -/
structure Cs (w0 w wr : World) (b : Br) (nv av sv ev ov : Sl) : Prop where
  bel : Below w.heap.size w wr
  bx : Box wr w.heap.size #[.int .i64 b.me, slv nv, slv av, slv sv, slv ev, slv ov] 29
  bz : Box wr (w.heap.size + 1) #[.int .i64 0, .slice none 0 0, .slice none 0 0, .slice none 0 0, .slice none 0 0, .slice none 0 0] 29
  near : OwnI wr w.heap.size (slv nv) b.near
  seen : OwnJ wr w.heap.size (slv sv) b.seen
  adv : ∃ l, OwnD wr w.heap.size (slv av) l ∧ All2 (AdM w0 w.heap.size wr) l b.adv
  ent : ∃ l, OwnN wr w.heap.size (slv ev) l ∧ All2 (EnM w0 w.heap.size wr) l b.ent
  own : ∃ l, OwnW wr w.heap.size (slv ov) l ∧ All2 (OwM w0 w.heap.size wr) l b.own
theorem Cs.grow {w0 w wr x : World} {b : Br} {nv av sv ev ov : Sl} (h : Cs w0 w wr b nv av sv ev ov) (hb : Below wr.heap.size wr x) : Cs w0 w x b nv av sv ev ov where
  bel := h.bel.trans (hb.mono h.bel.size)
  bx := h.bx.on hb
  bz := h.bz.on hb
  near := Bk.own_on h.near hb
  seen := Bk.own_on h.seen hb
  adv := by obtain ⟨l, h1, h2⟩ := h.adv; exact ⟨l, Bk.own_on h1 hb, h2.mono fun _ _ h => h.grow hb⟩
  ent := by obtain ⟨l, h1, h2⟩ := h.ent; exact ⟨l, Bk.own_on h1 hb, h2.mono fun _ _ h => h.grow hb⟩
  own := by obtain ⟨l, h1, h2⟩ := h.own; exact ⟨l, Bk.own_on h1 hb, h2.mono fun _ _ h => h.grow hb⟩
theorem box_own_ne {α : Type} {E : Ek α} {W : World} {b B g n cap : Nat} {l : List α} {c : Array Value} {s : TypeId} (hb : Box W b c s) (ho : Own E W B (.slice (some ⟨g, 0, none⟩) n cap) l) (hne : (s == E.t) = false) : b ≠ g := by
  obtain ⟨cur, hg⟩ := own_tag ho
  exact box_ne hb hg hne
theorem Cs.setD {w0 w wr x : World} {b : Br} {nv sv ev ov : Sl} {g n cap : Nat} {l l' : List XAd} (h : Cs w0 w wr b nv (some ⟨g, 0, none⟩, n, cap) sv ev ov) (ho : OwnD wr w.heap.size (.slice (some ⟨g, 0, none⟩) n cap) l) (hx : OwnD x w.heap.size (.slice (some ⟨g, 0, none⟩) n cap) l') (hb : But g wr x) (hw : Below w.heap.size w x) (hA : All2 (AdM w0 w.heap.size x) l' b.adv) : Cs w0 w x b nv (some ⟨g, 0, none⟩, n, cap) sv ev ov := by
  obtain ⟨cur, hg⟩ := own_tag ho
  exact {
    bel := hw
    bx := hb.box h.bx (box_ne h.bx hg (by decide))
    bz := hb.box h.bz (box_ne h.bz hg (by decide))
    near := hb.own h.near hg (by decide)
    seen := hb.own h.seen hg (by decide)
    adv := ⟨l', hx, hA⟩
    ent := by obtain ⟨l, h1, h2⟩ := h.ent; exact ⟨l, hb.own h1 hg (by decide), h2.mono fun _ _ h => h.but hb hg (by decide)⟩
    own := by obtain ⟨l, h1, h2⟩ := h.own; exact ⟨l, hb.own h1 hg (by decide), h2.mono fun _ _ h => h.but hb hg (by decide)⟩ }
theorem Cs.setN {w0 w wr x : World} {b : Br} {nv av sv ov : Sl} {g n cap : Nat} {l l' : List XEn} (h : Cs w0 w wr b nv av sv (some ⟨g, 0, none⟩, n, cap) ov) (ho : OwnN wr w.heap.size (.slice (some ⟨g, 0, none⟩) n cap) l) (hx : OwnN x w.heap.size (.slice (some ⟨g, 0, none⟩) n cap) l') (hb : But g wr x) (hw : Below w.heap.size w x) (hA : All2 (EnM w0 w.heap.size x) l' b.ent) : Cs w0 w x b nv av sv (some ⟨g, 0, none⟩, n, cap) ov := by
  obtain ⟨cur, hg⟩ := own_tag ho
  exact {
    bel := hw
    bx := hb.box h.bx (box_ne h.bx hg (by decide))
    bz := hb.box h.bz (box_ne h.bz hg (by decide))
    near := hb.own h.near hg (by decide)
    seen := hb.own h.seen hg (by decide)
    adv := by obtain ⟨l, h1, h2⟩ := h.adv; exact ⟨l, hb.own h1 hg (by decide), h2.mono fun _ _ h => h.but hb hg (by decide)⟩
    ent := ⟨l', hx, hA⟩
    own := by obtain ⟨l, h1, h2⟩ := h.own; exact ⟨l, hb.own h1 hg (by decide), h2.mono fun _ _ h => h.but hb hg (by decide)⟩ }
theorem Cs.setW {w0 w wr x : World} {b : Br} {nv av sv ev : Sl} {g n cap : Nat} {l l' : List XOw} (h : Cs w0 w wr b nv av sv ev (some ⟨g, 0, none⟩, n, cap)) (ho : OwnW wr w.heap.size (.slice (some ⟨g, 0, none⟩) n cap) l) (hx : OwnW x w.heap.size (.slice (some ⟨g, 0, none⟩) n cap) l') (hb : But g wr x) (hw : Below w.heap.size w x) (hA : All2 (OwM w0 w.heap.size x) l' b.own) : Cs w0 w x b nv av sv ev (some ⟨g, 0, none⟩, n, cap) := by
  obtain ⟨cur, hg⟩ := own_tag ho
  exact {
    bel := hw
    bx := hb.box h.bx (box_ne h.bx hg (by decide))
    bz := hb.box h.bz (box_ne h.bz hg (by decide))
    near := hb.own h.near hg (by decide)
    seen := hb.own h.seen hg (by decide)
    adv := by obtain ⟨l, h1, h2⟩ := h.adv; exact ⟨l, hb.own h1 hg (by decide), h2.mono fun _ _ h => h.but hb hg (by decide)⟩
    ent := by obtain ⟨l, h1, h2⟩ := h.ent; exact ⟨l, hb.own h1 hg (by decide), h2.mono fun _ _ h => h.but hb hg (by decide)⟩
    own := ⟨l', hx, hA⟩ }
end Go.Proofs.YtonoadjmglkhaaaGreat.Av

namespace Go.Proofs.YtonoadjmglkhaaaGreat.Av
open Go.RowKit Go.Sort Go.Proofs.YtonoadjmglkhaaaGreat Go.Proofs.YtonoadjmglkhaaaGreat.Rw Go.Proofs.YtonoadjmglkhaaaGreat.Nm Go.Proofs.YtonoadjmglkhaaaGreat.Pr Go.Proofs.YtonoadjmglkhaaaGreat.Bk

def cp6V (B : Nat) (b1 : Nat) (_me : Int) (_z1 _z3 _z4 _z5 : Value) (g n cap k : Nat) (y1 y2 : Int) (yo : Option Addr) (yn yc : Nat) (y4 : Int) (p : List C5) (i : Nat) (v : Value) (x : World) : Prop :=
  match i with
  | 0 => v = .pointer (some ⟨b1, 2, none⟩)
  | 1 => v = .slice (some ⟨g, 0, none⟩) n cap
  | 2 => v = .int .i64 (k : Int)
  | 3 => v = .pointer (some ⟨b1, 2, none⟩)
  | 4 => v = .slice (some ⟨g, 0, none⟩) n cap
  | 5 => v = .int .i64 (k : Int)
  | 6 => v = .pointer (some ⟨g, k * 4, none⟩)
  | 7 => v = valD (y1, y2, (yo, yn, yc), y4)
  | 8 => ∃ s : Sl, v = valD (y1, y2, s, y4) ∧ OwnC x B (slv s) p
  | 9 => v = .pointer (some ⟨g, k * 4, none⟩)
  | _ => True
noncomputable def cp6C : Code := ((Tryz.f29.body.bind (findRegion 6)).getD .skip)
theorem cp6V_on (B : Nat) (b1 : Nat) (me : Int) (z1 z3 z4 z5 : Value) (g n cap k : Nat) (y1 y2 : Int) (yo : Option Addr) (yn yc : Nat) (y4 : Int) (p : List C5) (i : Nat) (v : Value) (x x' : World) (h : cp6V B b1 me z1 z3 z4 z5 g n cap k y1 y2 yo yn yc y4 p i v x) (hb : Below x.heap.size x x') : cp6V B b1 me z1 z3 z4 z5 g n cap k y1 y2 yo yn yc y4 p i v x' := by
  by_cases hi : i < 10
  · rcases (by omega : i = 0 ∨ i = 1 ∨ i = 2 ∨ i = 3 ∨ i = 4 ∨ i = 5 ∨ i = 6 ∨ i = 7 ∨ i = 8 ∨ i = 9) with rfl | rfl | rfl | rfl | rfl | rfl | rfl | rfl | rfl | rfl
    · exact h
    · exact h
    · exact h
    · exact h
    · exact h
    · exact h
    · exact h
    · exact h
    · obtain ⟨s, h1, h2⟩ := h; exact ⟨s, h1, Bk.own_on h2 hb⟩
    · exact h
  · unfold cp6V
    split <;> first | omega | trivial
set_option maxRecDepth 100000 in
set_option maxHeartbeats 8000000 in
theorem cp6 (Q : Exit → Act → World → Prop) (W : World) (B0 : Nat) (l : List XAd) (b1 : Nat) (me : Int) (z1 z3 z4 z5 : Value) (g n cap k : Nat) (y1 y2 : Int) (yo : Option Addr) (yn yc : Nat) (y4 : Int) (p : List C5) (u0 u2 u4 u5 u6 u7 u8 u9 u10 u11 u12 u13 u14 u15 u16 u17 u18 u19 u20 u21 u22 u23 u24 u25 u26 u27 u28 u29 u30 u31 u32 u33 u34 u35 u36 u37 u38 u39 u40 u41 u42 u43 u44 u45 u46 u47 u48 u49 u50 u51 u52 u53 u54 u55 u56 u57 u58 u59 u60 u61 u62 u63 u64 u65 u66 u67 u68 u69 u70 u71 u72 u73 u74 u75 u76 u77 u78 u79 u80 u81 : Value)
    (h1 : Box W b1 #[.int .i64 me, z1, .slice (some ⟨g, 0, none⟩) n cap, z3, z4, z5] 29) (ho : OwnD W B0 (.slice (some ⟨g, 0, none⟩) n cap) l) (hy : l[k]? = some (y1, y2, (yo, yn, yc), y4)) (hp : RowC W (.slice yo yn yc) p) (lp : p.length ≤ 900)
    (hQ : ∀ (x : World) (v32 v33 v34 v35 v36 v37 v38 v39 v40 v41 : Value) (s1 : Option Addr) (s2 s3 : Nat), OwnC x W.heap.size (.slice s1 s2 s3) p → OwnD x B0 (.slice (some ⟨g, 0, none⟩) n cap) (l.set k (y1, y2, (s1, s2, s3), y4)) → But g W x → (∀ B1, B1 ≤ g → B1 ≤ W.heap.size → Below B1 W x) → Q .normal ⟨(u0 :: .pointer (some ⟨b1, 0, none⟩) :: u2 :: .int .i64 (k : Int) :: u4 :: u5 :: u6 :: u7 :: u8 :: u9 :: u10 :: u11 :: u12 :: u13 :: u14 :: u15 :: u16 :: u17 :: u18 :: u19 :: u20 :: u21 :: u22 :: u23 :: u24 :: u25 :: u26 :: u27 :: u28 :: u29 :: u30 :: u31 :: v32 :: v33 :: v34 :: v35 :: v36 :: v37 :: v38 :: v39 :: v40 :: v41 :: u42 :: u43 :: u44 :: u45 :: u46 :: u47 :: u48 :: u49 :: u50 :: u51 :: u52 :: u53 :: u54 :: u55 :: u56 :: u57 :: u58 :: u59 :: u60 :: u61 :: u62 :: u63 :: u64 :: u65 :: u66 :: u67 :: u68 :: u69 :: u70 :: u71 :: u72 :: u73 :: u74 :: u75 :: u76 :: u77 :: u78 :: u79 :: u80 :: u81 :: []).toArray, []⟩ x) :
    Code.wp Tryz.prog cp6C Q ⟨(u0 :: .pointer (some ⟨b1, 0, none⟩) :: u2 :: .int .i64 (k : Int) :: u4 :: u5 :: u6 :: u7 :: u8 :: u9 :: u10 :: u11 :: u12 :: u13 :: u14 :: u15 :: u16 :: u17 :: u18 :: u19 :: u20 :: u21 :: u22 :: u23 :: u24 :: u25 :: u26 :: u27 :: u28 :: u29 :: u30 :: u31 :: u32 :: u33 :: u34 :: u35 :: u36 :: u37 :: u38 :: u39 :: u40 :: u41 :: u42 :: u43 :: u44 :: u45 :: u46 :: u47 :: u48 :: u49 :: u50 :: u51 :: u52 :: u53 :: u54 :: u55 :: u56 :: u57 :: u58 :: u59 :: u60 :: u61 :: u62 :: u63 :: u64 :: u65 :: u66 :: u67 :: u68 :: u69 :: u70 :: u71 :: u72 :: u73 :: u74 :: u75 :: u76 :: u77 :: u78 :: u79 :: u80 :: u81 :: []).toArray, []⟩ W := by
  have HQ := Lib.hid hQ
  have H1 := Lib.hid h1
  have HO := Lib.hid ho
  have HY := Lib.hid hy
  have HP := Lib.hid hp
  have LP := Lib.hid lp
  have IX := Lib.hid (index_own okD g k n cap (by obtain ⟨_, _, hv⟩ := (Row.of_own ho).len; have h := (List.getElem?_eq_some_iff.1 hy).1; simp at hv; omega))
  have EL := Lib.hid (own_row_at okD ho hy)
  clear hQ h1 ho hy hp lp
  have stab := cp6V_on W.heap.size b1 me z1 z3 z4 z5 g n cap k y1 y2 yo yn yc y4 p
  unfold cp6C
  conv => arg 2; whnf
  have nd : ∀ j, (j < 32 ∨ 42 ≤ j) → ∀ i, i < 10 → (fun i => 32 + i) i ≠ j := by
    intro j hj i hi h
    simp only at h
    omega
  refine Rg.region_live 11 10 (fun i => 32 + i) (fun _ => 10) (cp6V W.heap.size b1 me z1 z3 z4 z5 g n cap k y1 y2 yo yn yc y4 p) (by kernel_rfl) (by kernel_rfl) rfl (by decide) (fun i j _ _ h => by have h2 : 32 + i = 32 + j := h; omega) (fun i hi => by show 32 + i < 82; omega) ?_ (fun _ => Rg.hall_of 14 (by kernel_rfl)) ?_ ?_
  · intro i o hi ho a x D hnd hc hD hb seen K hK
    clear HQ
    rcases (by omega : i = 0 ∨ i = 1 ∨ i = 2 ∨ i = 3 ∨ i = 4 ∨ i = 5 ∨ i = 6 ∨ i = 7 ∨ i = 8 ∨ i = 9) with rfl | rfl | rfl | rfl | rfl | rfl | rfl | rfl | rfl | rfl
    · obtain rfl := Option.some.inj ho
      have e1 : a.eval (.tmp 1) = .pointer (some ⟨b1, 0, none⟩) := seen.kp 1 _ (nd 1 (by omega)) rfl
      exact Rg.op_value rfl rfl (Rg.ex_field a.eval _ 29 (.tmp 1) 2 rfl (by rw [e1]; simp [go_sem])) (hK _ _ rfl (Below.refl _ _) fun _ _ _ _ _ _ _ h => h)
    · obtain rfl := Option.some.inj ho
      have e32 : a.eval (.tmp 32) = .pointer (some ⟨b1, 2, none⟩) := seen.at_ ⟨0, .data⟩ (by simp) rfl (Or.inr (by decide))
      have y2 := (H1.out.on hb).cell 2
      simp only [List.getElem?_toArray, List.getElem?_cons_zero, List.getElem?_cons_succ] at y2
      exact Rg.op_value rfl rfl (Rg.ex_load a.eval _ 24 (.tmp 32) rfl (by rw [e32]; simp [go_sem, y2])) (hK _ _ rfl (Below.refl _ _) fun _ _ _ _ _ _ _ h => h)
    · obtain rfl := Option.some.inj ho
      have e3 : a.eval (.tmp 3) = .int .i64 (k : Int) := seen.kp 3 _ (nd 3 (by omega)) rfl
      exact Rg.op_value rfl rfl (Rg.ex_move a.eval _ (.tmp 3) rfl x) (hK _ _ e3 (Below.refl _ _) fun _ _ _ _ _ _ _ h => h)
    · obtain rfl := Option.some.inj ho
      have e1 : a.eval (.tmp 1) = .pointer (some ⟨b1, 0, none⟩) := seen.kp 1 _ (nd 1 (by omega)) rfl
      exact Rg.op_value rfl rfl (Rg.ex_field a.eval _ 29 (.tmp 1) 2 rfl (by rw [e1]; simp [go_sem])) (hK _ _ rfl (Below.refl _ _) fun _ _ _ _ _ _ _ h => h)
    · obtain rfl := Option.some.inj ho
      have e35 : a.eval (.tmp 35) = .pointer (some ⟨b1, 2, none⟩) := seen.at_ ⟨3, .data⟩ (by simp) rfl (Or.inr (by decide))
      have y2 := (H1.out.on hb).cell 2
      simp only [List.getElem?_toArray, List.getElem?_cons_zero, List.getElem?_cons_succ] at y2
      exact Rg.op_value rfl rfl (Rg.ex_load a.eval _ 24 (.tmp 35) rfl (by rw [e35]; simp [go_sem, y2])) (hK _ _ rfl (Below.refl _ _) fun _ _ _ _ _ _ _ h => h)
    · obtain rfl := Option.some.inj ho
      have e3 : a.eval (.tmp 3) = .int .i64 (k : Int) := seen.kp 3 _ (nd 3 (by omega)) rfl
      exact Rg.op_value rfl rfl (Rg.ex_move a.eval _ (.tmp 3) rfl x) (hK _ _ e3 (Below.refl _ _) fun _ _ _ _ _ _ _ h => h)
    · obtain rfl := Option.some.inj ho
      have e36 : a.eval (.tmp 36) = .slice (some ⟨g, 0, none⟩) n cap := seen.at_ ⟨4, .data⟩ (by simp) rfl (Or.inr (by decide))
      have e37 : a.eval (.tmp 37) = .int .i64 (k : Int) := seen.at_ ⟨5, .data⟩ (by simp) rfl (Or.inr (by decide))
      exact Rg.op_value rfl rfl (Rg.ex_index a.eval _ 24 (.tmp 36) (.tmp 37) rfl (by rw [e36, e37]; exact IX.out x)) (hK _ _ rfl (Below.refl _ _) fun _ _ _ _ _ _ _ h => h)
    · obtain rfl := Option.some.inj ho
      have e38 : a.eval (.tmp 38) = .pointer (some ⟨g, k * 4, none⟩) := seen.at_ ⟨6, .data⟩ (by simp) rfl (Or.inr (by decide))
      exact Rg.op_value rfl rfl (Rg.ex_load a.eval _ 42 (.tmp 38) rfl (by rw [e38]; exact loadD x _ (y1, y2, (yo, yn, yc), y4) (EL.out x hb))) (hK _ _ rfl (Below.refl _ _) fun _ _ _ _ _ _ _ h => h)
    · obtain rfl := Option.some.inj ho
      have e39 : a.eval (.tmp 39) = valD (y1, y2, (yo, yn, yc), y4) := seen.at_ ⟨7, .data⟩ (by simp) rfl (Or.inr (by decide))
      exact Rg.op_call rfl rfl (Rw.ex_call1 a.eval _ (.tmp 39) 42 31 rfl e39 rfl _ (call_fn Tryz.func31 rfl rfl _ _)) (cpAd_any (y1, y2, (yo, yn, yc), y4) p x (HP.out.on hb) LP.out) fun e w1 h => by
        obtain ⟨⟨s, rfl, h1⟩, h3⟩ := h
        exact ⟨_, rfl, hK _ _ ⟨s, rfl, own_fewer h1 hb.size⟩ (h3.mono hb.size) fun j u hj _ _ _ hne h => stab j u _ _ h h3⟩
    · obtain rfl := Option.some.inj ho
      have e33 : a.eval (.tmp 33) = .slice (some ⟨g, 0, none⟩) n cap := seen.at_ ⟨1, .data⟩ (by simp) rfl (Or.inr (by decide))
      have e34 : a.eval (.tmp 34) = .int .i64 (k : Int) := seen.at_ ⟨2, .data⟩ (by simp) rfl (Or.inr (by decide))
      exact Rg.op_value rfl rfl (Rg.ex_index a.eval _ 24 (.tmp 33) (.tmp 34) rfl (by rw [e33, e34]; exact IX.out x)) (hK _ _ rfl (Below.refl _ _) fun _ _ _ _ _ _ _ h => h)
  · intro kk o h1 h2 ho
    omega
  · intro a w' df sz kp ⟨vs, hv⟩ hb
    have sz' : a.tmps.size = 82 := sz
    have g41 : a.tmps[41]? = some (.pointer (some ⟨g, k * 4, none⟩)) := by
      have h : vs 9 = .pointer (some ⟨g, k * 4, none⟩) := (hv 9 (by omega)).2 (by decide)
      rw [← h]
      exact (hv 9 (by omega)).1
    obtain ⟨⟨s1, s2, s3⟩, hs, hc⟩ := (hv 8 (by omega)).2 (by decide)
    have g40 : a.tmps[40]? = some (valD (y1, y2, (s1, s2, s3), y4)) := ((hv 8 (by omega)).1).trans (congrArg some hs)
    obtain ⟨w2, hr, st1, st2, st3⟩ := storeD (k := k) (y1, y2, (s1, s2, s3), y4) (Bk.own_on HO.out hb) (List.getElem?_eq_some_iff.1 HY.out).1
    obtain ⟨cur, hg⟩ := own_tag (Bk.own_on HO.out hb)
    show Rg.SeqFrom _ _ _ 1 10 a w'
    simp only [Rg.SeqFrom]
    refine Rg.op_store 42 (.tmp 41) (.tmp 40) rfl rfl rfl rfl (Rg.eval_some g41) (Rg.eval_some g40) (w' := w2) hr ?_
    have kp2 : ∀ j, (j < 32 ∨ 42 ≤ j) → (a).tmps[j]? = (u0 :: .pointer (some ⟨b1, 0, none⟩) :: u2 :: .int .i64 (k : Int) :: u4 :: u5 :: u6 :: u7 :: u8 :: u9 :: u10 :: u11 :: u12 :: u13 :: u14 :: u15 :: u16 :: u17 :: u18 :: u19 :: u20 :: u21 :: u22 :: u23 :: u24 :: u25 :: u26 :: u27 :: u28 :: u29 :: u30 :: u31 :: u32 :: u33 :: u34 :: u35 :: u36 :: u37 :: u38 :: u39 :: u40 :: u41 :: u42 :: u43 :: u44 :: u45 :: u46 :: u47 :: u48 :: u49 :: u50 :: u51 :: u52 :: u53 :: u54 :: u55 :: u56 :: u57 :: u58 :: u59 :: u60 :: u61 :: u62 :: u63 :: u64 :: u65 :: u66 :: u67 :: u68 :: u69 :: u70 :: u71 :: u72 :: u73 :: u74 :: u75 :: u76 :: u77 :: u78 :: u79 :: u80 :: u81 :: [])[j]? := fun j hj => (kp j (nd j (by omega))).trans List.getElem?_toArray
    obtain ⟨mid, hmid, hfr⟩ := Rg.frame_mid (a := a) (bl := (u0 :: .pointer (some ⟨b1, 0, none⟩) :: u2 :: .int .i64 (k : Int) :: u4 :: u5 :: u6 :: u7 :: u8 :: u9 :: u10 :: u11 :: u12 :: u13 :: u14 :: u15 :: u16 :: u17 :: u18 :: u19 :: u20 :: u21 :: u22 :: u23 :: u24 :: u25 :: u26 :: u27 :: u28 :: u29 :: u30 :: u31 :: u32 :: u33 :: u34 :: u35 :: u36 :: u37 :: u38 :: u39 :: u40 :: u41 :: u42 :: u43 :: u44 :: u45 :: u46 :: u47 :: u48 :: u49 :: u50 :: u51 :: u52 :: u53 :: u54 :: u55 :: u56 :: u57 :: u58 :: u59 :: u60 :: u61 :: u62 :: u63 :: u64 :: u65 :: u66 :: u67 :: u68 :: u69 :: u70 :: u71 :: u72 :: u73 :: u74 :: u75 :: u76 :: u77 :: u78 :: u79 :: u80 :: u81 :: [])) 32 10 df (by simp [sz']) (by simp) kp2
    show Q .normal (a) _
    rw [hfr]
    match mid, hmid with
    | [v32, v33, v34, v35, v36, v37, v38, v39, v40, v41], _ =>
      exact HQ.out _ _ _ _ _ _ _ _ _ _ _ s1 s2 s3 (st2.own hc hg (by decide)) st1 ((But.of_below hb).trans st2) fun B1 hB hl => st3 B1 W hB (hb.mono hl)
end Go.Proofs.YtonoadjmglkhaaaGreat.Av

namespace Go.Proofs.YtonoadjmglkhaaaGreat.Av
open Go.RowKit Go.Sort Go.Proofs.YtonoadjmglkhaaaGreat Go.Proofs.YtonoadjmglkhaaaGreat.Rw Go.Proofs.YtonoadjmglkhaaaGreat.Nm Go.Proofs.YtonoadjmglkhaaaGreat.Pr Go.Proofs.YtonoadjmglkhaaaGreat.Bk

def cp11V (B : Nat) (b1 : Nat) (_me : Int) (_z1 _z2 _z3 _z5 : Value) (g n cap k : Nat) (_y1 _y2 _y3 _y4 : Int) (yo : Option Addr) (yn yc : Nat) (_y6 : Int) (_y7 : Bool) (p : List C5) (i : Nat) (v : Value) (x : World) : Prop :=
  match i with
  | 0 => v = .pointer (some ⟨b1, 4, none⟩)
  | 1 => v = .slice (some ⟨g, 0, none⟩) n cap
  | 2 => v = .int .i64 (k : Int)
  | 3 => v = .pointer (some ⟨b1, 4, none⟩)
  | 4 => v = .slice (some ⟨g, 0, none⟩) n cap
  | 5 => v = .int .i64 (k : Int)
  | 6 => v = .pointer (some ⟨g, k * 7, none⟩)
  | 7 => v = .pointer (some ⟨g, k * 7 + 4, none⟩)
  | 8 => v = .slice yo yn yc
  | 9 => ∃ s : Sl, v = slv s ∧ OwnC x B v p
  | 10 => v = .pointer (some ⟨g, k * 7, none⟩)
  | 11 => v = .pointer (some ⟨g, k * 7 + 4, none⟩)
  | _ => True
noncomputable def cp11C : Code := ((Tryz.f29.body.bind (findRegion 11)).getD .skip)
theorem cp11V_on (B : Nat) (b1 : Nat) (me : Int) (z1 z2 z3 z5 : Value) (g n cap k : Nat) (y1 y2 y3 y4 : Int) (yo : Option Addr) (yn yc : Nat) (y6 : Int) (y7 : Bool) (p : List C5) (i : Nat) (v : Value) (x x' : World) (h : cp11V B b1 me z1 z2 z3 z5 g n cap k y1 y2 y3 y4 yo yn yc y6 y7 p i v x) (hb : Below x.heap.size x x') : cp11V B b1 me z1 z2 z3 z5 g n cap k y1 y2 y3 y4 yo yn yc y6 y7 p i v x' := by
  by_cases hi : i < 12
  · rcases (by omega : i = 0 ∨ i = 1 ∨ i = 2 ∨ i = 3 ∨ i = 4 ∨ i = 5 ∨ i = 6 ∨ i = 7 ∨ i = 8 ∨ i = 9 ∨ i = 10 ∨ i = 11) with rfl | rfl | rfl | rfl | rfl | rfl | rfl | rfl | rfl | rfl | rfl | rfl
    · exact h
    · exact h
    · exact h
    · exact h
    · exact h
    · exact h
    · exact h
    · exact h
    · exact h
    · obtain ⟨s, h1, h2⟩ := h; exact ⟨s, h1, Bk.own_on h2 hb⟩
    · exact h
    · exact h
  · unfold cp11V
    split <;> first | omega | trivial
set_option maxRecDepth 100000 in
set_option maxHeartbeats 8000000 in
theorem cp11 (Q : Exit → Act → World → Prop) (W : World) (B0 : Nat) (l : List XEn) (b1 : Nat) (me : Int) (z1 z2 z3 z5 : Value) (g n cap k : Nat) (y1 y2 y3 y4 : Int) (yo : Option Addr) (yn yc : Nat) (y6 : Int) (y7 : Bool) (p : List C5) (u0 u2 u3 u5 u6 u7 u8 u9 u10 u11 u12 u13 u14 u15 u16 u17 u18 u19 u20 u21 u22 u23 u24 u25 u26 u27 u28 u29 u30 u31 u32 u33 u34 u35 u36 u37 u38 u39 u40 u41 u42 u43 u44 u45 u46 u47 u48 u49 u50 u51 u52 u53 u54 u55 u56 u57 u58 u59 u60 u61 u62 u63 u64 u65 u66 u67 u68 u69 u70 u71 u72 u73 u74 u75 u76 u77 u78 u79 u80 u81 : Value)
    (h1 : Box W b1 #[.int .i64 me, z1, z2, z3, .slice (some ⟨g, 0, none⟩) n cap, z5] 29) (ho : OwnN W B0 (.slice (some ⟨g, 0, none⟩) n cap) l) (hy : l[k]? = some (y1, y2, y3, y4, (yo, yn, yc), y6, y7)) (hp : RowC W (.slice yo yn yc) p) (lp : p.length ≤ 900)
    (hQ : ∀ (x : World) (v49 v50 v51 v52 v53 v54 v55 v56 v57 v58 v59 v60 : Value) (s1 : Option Addr) (s2 s3 : Nat), OwnC x W.heap.size (.slice s1 s2 s3) p → OwnN x B0 (.slice (some ⟨g, 0, none⟩) n cap) (l.set k (y1, y2, y3, y4, (s1, s2, s3), y6, y7)) → But g W x → (∀ B1, B1 ≤ g → B1 ≤ W.heap.size → Below B1 W x) → Q .normal ⟨(u0 :: .pointer (some ⟨b1, 0, none⟩) :: u2 :: u3 :: .int .i64 (k : Int) :: u5 :: u6 :: u7 :: u8 :: u9 :: u10 :: u11 :: u12 :: u13 :: u14 :: u15 :: u16 :: u17 :: u18 :: u19 :: u20 :: u21 :: u22 :: u23 :: u24 :: u25 :: u26 :: u27 :: u28 :: u29 :: u30 :: u31 :: u32 :: u33 :: u34 :: u35 :: u36 :: u37 :: u38 :: u39 :: u40 :: u41 :: u42 :: u43 :: u44 :: u45 :: u46 :: u47 :: u48 :: v49 :: v50 :: v51 :: v52 :: v53 :: v54 :: v55 :: v56 :: v57 :: v58 :: v59 :: v60 :: u61 :: u62 :: u63 :: u64 :: u65 :: u66 :: u67 :: u68 :: u69 :: u70 :: u71 :: u72 :: u73 :: u74 :: u75 :: u76 :: u77 :: u78 :: u79 :: u80 :: u81 :: []).toArray, []⟩ x) :
    Code.wp Tryz.prog cp11C Q ⟨(u0 :: .pointer (some ⟨b1, 0, none⟩) :: u2 :: u3 :: .int .i64 (k : Int) :: u5 :: u6 :: u7 :: u8 :: u9 :: u10 :: u11 :: u12 :: u13 :: u14 :: u15 :: u16 :: u17 :: u18 :: u19 :: u20 :: u21 :: u22 :: u23 :: u24 :: u25 :: u26 :: u27 :: u28 :: u29 :: u30 :: u31 :: u32 :: u33 :: u34 :: u35 :: u36 :: u37 :: u38 :: u39 :: u40 :: u41 :: u42 :: u43 :: u44 :: u45 :: u46 :: u47 :: u48 :: u49 :: u50 :: u51 :: u52 :: u53 :: u54 :: u55 :: u56 :: u57 :: u58 :: u59 :: u60 :: u61 :: u62 :: u63 :: u64 :: u65 :: u66 :: u67 :: u68 :: u69 :: u70 :: u71 :: u72 :: u73 :: u74 :: u75 :: u76 :: u77 :: u78 :: u79 :: u80 :: u81 :: []).toArray, []⟩ W := by
  have HQ := Lib.hid hQ
  have H1 := Lib.hid h1
  have HO := Lib.hid ho
  have HY := Lib.hid hy
  have HP := Lib.hid hp
  have LP := Lib.hid lp
  have IX := Lib.hid (index_own okN g k n cap (by obtain ⟨_, _, hv⟩ := (Row.of_own ho).len; have h := (List.getElem?_eq_some_iff.1 hy).1; simp at hv; omega))
  have EL := Lib.hid (own_row_at okN ho hy)
  clear hQ h1 ho hy hp lp
  have stab := cp11V_on W.heap.size b1 me z1 z2 z3 z5 g n cap k y1 y2 y3 y4 yo yn yc y6 y7 p
  unfold cp11C
  conv => arg 2; whnf
  have nd : ∀ j, (j < 49 ∨ 61 ≤ j) → ∀ i, i < 12 → (fun i => 49 + i) i ≠ j := by
    intro j hj i hi h
    simp only at h
    omega
  refine Rg.region_live 13 12 (fun i => 49 + i) (fun _ => 12) (cp11V W.heap.size b1 me z1 z2 z3 z5 g n cap k y1 y2 y3 y4 yo yn yc y6 y7 p) (by kernel_rfl) (by kernel_rfl) rfl (by decide) (fun i j _ _ h => by have h2 : 49 + i = 49 + j := h; omega) (fun i hi => by show 49 + i < 82; omega) ?_ (fun _ => Rg.hall_of 14 (by kernel_rfl)) ?_ ?_
  · intro i o hi ho a x D hnd hc hD hb seen K hK
    clear HQ
    rcases (by omega : i = 0 ∨ i = 1 ∨ i = 2 ∨ i = 3 ∨ i = 4 ∨ i = 5 ∨ i = 6 ∨ i = 7 ∨ i = 8 ∨ i = 9 ∨ i = 10 ∨ i = 11) with rfl | rfl | rfl | rfl | rfl | rfl | rfl | rfl | rfl | rfl | rfl | rfl
    · obtain rfl := Option.some.inj ho
      have e1 : a.eval (.tmp 1) = .pointer (some ⟨b1, 0, none⟩) := seen.kp 1 _ (nd 1 (by omega)) rfl
      exact Rg.op_value rfl rfl (Rg.ex_field a.eval _ 29 (.tmp 1) 4 rfl (by rw [e1]; simp [go_sem])) (hK _ _ rfl (Below.refl _ _) fun _ _ _ _ _ _ _ h => h)
    · obtain rfl := Option.some.inj ho
      have e49 : a.eval (.tmp 49) = .pointer (some ⟨b1, 4, none⟩) := seen.at_ ⟨0, .data⟩ (by simp) rfl (Or.inr (by decide))
      have y4 := (H1.out.on hb).cell 4
      simp only [List.getElem?_toArray, List.getElem?_cons_zero, List.getElem?_cons_succ] at y4
      exact Rg.op_value rfl rfl (Rg.ex_load a.eval _ 26 (.tmp 49) rfl (by rw [e49]; simp [go_sem, y4])) (hK _ _ rfl (Below.refl _ _) fun _ _ _ _ _ _ _ h => h)
    · obtain rfl := Option.some.inj ho
      have e4 : a.eval (.tmp 4) = .int .i64 (k : Int) := seen.kp 4 _ (nd 4 (by omega)) rfl
      exact Rg.op_value rfl rfl (Rg.ex_move a.eval _ (.tmp 4) rfl x) (hK _ _ e4 (Below.refl _ _) fun _ _ _ _ _ _ _ h => h)
    · obtain rfl := Option.some.inj ho
      have e1 : a.eval (.tmp 1) = .pointer (some ⟨b1, 0, none⟩) := seen.kp 1 _ (nd 1 (by omega)) rfl
      exact Rg.op_value rfl rfl (Rg.ex_field a.eval _ 29 (.tmp 1) 4 rfl (by rw [e1]; simp [go_sem])) (hK _ _ rfl (Below.refl _ _) fun _ _ _ _ _ _ _ h => h)
    · obtain rfl := Option.some.inj ho
      have e52 : a.eval (.tmp 52) = .pointer (some ⟨b1, 4, none⟩) := seen.at_ ⟨3, .data⟩ (by simp) rfl (Or.inr (by decide))
      have y4 := (H1.out.on hb).cell 4
      simp only [List.getElem?_toArray, List.getElem?_cons_zero, List.getElem?_cons_succ] at y4
      exact Rg.op_value rfl rfl (Rg.ex_load a.eval _ 26 (.tmp 52) rfl (by rw [e52]; simp [go_sem, y4])) (hK _ _ rfl (Below.refl _ _) fun _ _ _ _ _ _ _ h => h)
    · obtain rfl := Option.some.inj ho
      have e4 : a.eval (.tmp 4) = .int .i64 (k : Int) := seen.kp 4 _ (nd 4 (by omega)) rfl
      exact Rg.op_value rfl rfl (Rg.ex_move a.eval _ (.tmp 4) rfl x) (hK _ _ e4 (Below.refl _ _) fun _ _ _ _ _ _ _ h => h)
    · obtain rfl := Option.some.inj ho
      have e53 : a.eval (.tmp 53) = .slice (some ⟨g, 0, none⟩) n cap := seen.at_ ⟨4, .data⟩ (by simp) rfl (Or.inr (by decide))
      have e54 : a.eval (.tmp 54) = .int .i64 (k : Int) := seen.at_ ⟨5, .data⟩ (by simp) rfl (Or.inr (by decide))
      exact Rg.op_value rfl rfl (Rg.ex_index a.eval _ 26 (.tmp 53) (.tmp 54) rfl (by rw [e53, e54]; exact IX.out x)) (hK _ _ rfl (Below.refl _ _) fun _ _ _ _ _ _ _ h => h)
    · obtain rfl := Option.some.inj ho
      have e55 : a.eval (.tmp 55) = .pointer (some ⟨g, k * 7, none⟩) := seen.at_ ⟨6, .data⟩ (by simp) rfl (Or.inr (by decide))
      exact Rg.op_value rfl rfl (Rg.ex_field a.eval _ 58 (.tmp 55) 2 rfl (by rw [e55]; simp [go_sem])) (hK _ _ rfl (Below.refl _ _) fun _ _ _ _ _ _ _ h => h)
    · obtain rfl := Option.some.inj ho
      have e56 : a.eval (.tmp 56) = .pointer (some ⟨g, k * 7 + 4, none⟩) := seen.at_ ⟨7, .data⟩ (by simp) rfl (Or.inr (by decide))
      have y := EL.out x hb 4 _ rfl
      simp [Addr.add, EN] at y
      exact Rg.op_value rfl rfl (Rg.ex_load a.eval _ 39 (.tmp 56) rfl (by rw [e56]; simp [go_sem, y])) (hK _ _ rfl (Below.refl _ _) fun _ _ _ _ _ _ _ h => h)
    · obtain rfl := Option.some.inj ho
      have e57 : a.eval (.tmp 57) = .slice yo yn yc := seen.at_ ⟨8, .data⟩ (by simp) rfl (Or.inr (by decide))
      exact Rg.op_call rfl rfl (Rw.ex_call1 a.eval _ (.tmp 57) 39 83 rfl e57 rfl _ (call_fn Tryz.func83 rfl rfl _ _)) (cloneC_any (yo, yn, yc) p x (HP.out.on hb) LP.out) fun e w1 h => by
        obtain ⟨⟨s, rfl, h1⟩, h3⟩ := h
        exact ⟨_, rfl, hK _ _ ⟨s, rfl, own_fewer h1 hb.size⟩ (h3.mono hb.size) fun j u hj _ _ _ hne h => stab j u _ _ h h3⟩
    · obtain rfl := Option.some.inj ho
      have e50 : a.eval (.tmp 50) = .slice (some ⟨g, 0, none⟩) n cap := seen.at_ ⟨1, .data⟩ (by simp) rfl (Or.inr (by decide))
      have e51 : a.eval (.tmp 51) = .int .i64 (k : Int) := seen.at_ ⟨2, .data⟩ (by simp) rfl (Or.inr (by decide))
      exact Rg.op_value rfl rfl (Rg.ex_index a.eval _ 26 (.tmp 50) (.tmp 51) rfl (by rw [e50, e51]; exact IX.out x)) (hK _ _ rfl (Below.refl _ _) fun _ _ _ _ _ _ _ h => h)
    · obtain rfl := Option.some.inj ho
      have e59 : a.eval (.tmp 59) = .pointer (some ⟨g, k * 7, none⟩) := seen.at_ ⟨10, .data⟩ (by simp) rfl (Or.inr (by decide))
      exact Rg.op_value rfl rfl (Rg.ex_field a.eval _ 58 (.tmp 59) 2 rfl (by rw [e59]; simp [go_sem])) (hK _ _ rfl (Below.refl _ _) fun _ _ _ _ _ _ _ h => h)
  · intro kk o h1 h2 ho
    omega
  · intro a w' df sz kp ⟨vs, hv⟩ hb
    have sz' : a.tmps.size = 82 := sz
    have g60 : a.tmps[60]? = some (.pointer (some ⟨g, k * 7 + 4, none⟩)) := by
      have h : vs 11 = .pointer (some ⟨g, k * 7 + 4, none⟩) := (hv 11 (by omega)).2 (by decide)
      rw [← h]
      exact (hv 11 (by omega)).1
    obtain ⟨⟨s1, s2, s3⟩, hs, hc⟩ := (hv 9 (by omega)).2 (by decide)
    have g58 : a.tmps[58]? = some (.slice s1 s2 s3) := ((hv 9 (by omega)).1).trans (congrArg some hs)
    rw [hs] at hc
    obtain ⟨w2, hr, st1, st2, st3⟩ := storeN (k := k) s1 s2 s3 (Bk.own_on HO.out hb) HY.out
    obtain ⟨cur, hg⟩ := own_tag (Bk.own_on HO.out hb)
    show Rg.SeqFrom _ _ _ 1 12 a w'
    simp only [Rg.SeqFrom]
    refine Rg.op_store 39 (.tmp 60) (.tmp 58) rfl rfl rfl rfl (Rg.eval_some g60) (Rg.eval_some g58) (w' := w2) hr ?_
    have kp2 : ∀ j, (j < 49 ∨ 61 ≤ j) → (a).tmps[j]? = (u0 :: .pointer (some ⟨b1, 0, none⟩) :: u2 :: u3 :: .int .i64 (k : Int) :: u5 :: u6 :: u7 :: u8 :: u9 :: u10 :: u11 :: u12 :: u13 :: u14 :: u15 :: u16 :: u17 :: u18 :: u19 :: u20 :: u21 :: u22 :: u23 :: u24 :: u25 :: u26 :: u27 :: u28 :: u29 :: u30 :: u31 :: u32 :: u33 :: u34 :: u35 :: u36 :: u37 :: u38 :: u39 :: u40 :: u41 :: u42 :: u43 :: u44 :: u45 :: u46 :: u47 :: u48 :: u49 :: u50 :: u51 :: u52 :: u53 :: u54 :: u55 :: u56 :: u57 :: u58 :: u59 :: u60 :: u61 :: u62 :: u63 :: u64 :: u65 :: u66 :: u67 :: u68 :: u69 :: u70 :: u71 :: u72 :: u73 :: u74 :: u75 :: u76 :: u77 :: u78 :: u79 :: u80 :: u81 :: [])[j]? := fun j hj => (kp j (nd j (by omega))).trans List.getElem?_toArray
    obtain ⟨mid, hmid, hfr⟩ := Rg.frame_mid (a := a) (bl := (u0 :: .pointer (some ⟨b1, 0, none⟩) :: u2 :: u3 :: .int .i64 (k : Int) :: u5 :: u6 :: u7 :: u8 :: u9 :: u10 :: u11 :: u12 :: u13 :: u14 :: u15 :: u16 :: u17 :: u18 :: u19 :: u20 :: u21 :: u22 :: u23 :: u24 :: u25 :: u26 :: u27 :: u28 :: u29 :: u30 :: u31 :: u32 :: u33 :: u34 :: u35 :: u36 :: u37 :: u38 :: u39 :: u40 :: u41 :: u42 :: u43 :: u44 :: u45 :: u46 :: u47 :: u48 :: u49 :: u50 :: u51 :: u52 :: u53 :: u54 :: u55 :: u56 :: u57 :: u58 :: u59 :: u60 :: u61 :: u62 :: u63 :: u64 :: u65 :: u66 :: u67 :: u68 :: u69 :: u70 :: u71 :: u72 :: u73 :: u74 :: u75 :: u76 :: u77 :: u78 :: u79 :: u80 :: u81 :: [])) 49 12 df (by simp [sz']) (by simp) kp2
    show Q .normal (a) _
    rw [hfr]
    match mid, hmid with
    | [v49, v50, v51, v52, v53, v54, v55, v56, v57, v58, v59, v60], _ =>
      exact HQ.out _ _ _ _ _ _ _ _ _ _ _ _ _ s1 s2 s3 (st2.own hc hg (by decide)) st1 ((But.of_below hb).trans st2) fun B1 hB hl => st3 B1 W hB (hb.mono hl)
end Go.Proofs.YtonoadjmglkhaaaGreat.Av
