/-
  Links in memory: as values, as cells, as lists. No program's function in it.
  Numbers in memory, as lists. No program's function in it.
  Graphs as lists of links: who is near whom, how far; searched breadth first. Pure facts; no program's function in it.
  A set of links as a map of Booleans: made, asked, stored into. Condition: numbers of 64 bits; fewer entries than a machine holds.
  Maps of numbers: made, asked, stored into, counted. Condition: numbers of 64 bits; fewer entries than a machine holds.
-/
import Derived.Test.YtbnfndcbhnjnaaaDoorBb
import Derived.Maps.OwnSet
import Derived.DeepKeys4
import Derived.KernelRfl
namespace Go.Proofs.YtbnfndcbhnjnaaaDoor.Gr
open Go.RowKit Go.Proofs.YtbnfndcbhnjnaaaDoor Go.Proofs.YtbnfndcbhnjnaaaDoor.Rw

/-- A link: two brokers. -/
abbrev Lk := Int × Int
abbrev kv (l : Lk) : Value := .agg #[.int .i64 l.1, .int .i64 l.2]
def cells2 (l : Lk) : List Value := [.int .i64 l.1, .int .i64 l.2]
def EK : Ek Lk := ⟨22, 23, 2, 16, .agg #[.int .i64 0, .int .i64 0], kv, cells2⟩
theorem infoK0 : (Tryd.prog.info? 22).map (fun i => (i.zero, i.size, i.bytes)) = some (some (.agg #[.int .i64 0, .int .i64 0]), 2, 16) := by kernel_rfl
theorem load_runL (w : World) (p : Addr) (c : Lk) (h : ∀ j u, (cells2 c)[j]? = some u → w.cell? (p.add j) = some u) : (Instr.loadAt 22 (.pointer (some p))).run Tryd.prog w = .ok (kv c) w := by
  have h0 := h 0 _ rfl
  have h1 := h 1 _ rfl
  simp [Addr.add] at h0 h1
  simp [go_sem, h0, h1]
theorem okK : EK.Ok where
  hu := Tryd.underlying23
  info := by
    have h := infoK0
    cases hi : Tryd.prog.info? 22 with
    | none => rw [hi] at h; cases h
    | some i =>
      rw [hi] at h
      simp only [Option.map_some, Option.some.injEq, Prod.mk.injEq] at h
      exact ⟨i, hi, h.1, h.2.1, h.2.2⟩
  zs := rfl
  len := fun _ => rfl
  one := fun x u hu => by
    simp only [EK, cells2, List.mem_cons, List.not_mem_nil, or_false] at hu
    rcases hu with rfl | rfl <;> rfl
  pos := by decide
  few := by decide
  load := fun w p x h => load_runL w p x h
abbrev RowK (W : World) (v : Value) (l : List Lk) : Prop := Row EK W v l
abbrev OwnK (W : World) (B : Nat) (v : Value) (l : List Lk) : Prop := Own EK W B v l
/-- The cells of a link. -/
theorem two {w : World} {p : Addr} {c : Lk} (h : ∀ j u, (EK.cells c)[j]? = some u → w.cell? (p.add j) = some u) : w.cell? p = some (.int .i64 c.1) ∧ w.cell? ⟨p.block, p.off + 1, none⟩ = some (.int .i64 c.2) := by
  have h0 := h 0 _ rfl
  have h1 := h 1 _ rfl
  rw [add_zero] at h0
  rw [add_pos p 1 (by decide)] at h1
  exact ⟨h0, h1⟩
theorem elK {W : World} {v : Value} {l : List Lk} {ao : Option Addr} {n c k : Nat} {x : Lk} (h : RowK W v l) (hv : v = .slice ao n c) (hn : l.length = n) (hk : l[k]? = some x) :
    ∃ p : Addr, (∀ w, (Instr.indexAt 23 (.slice ao n c) (.int .i64 k)).run Tryd.prog w = .ok (.pointer (some p)) w) ∧ ∀ w, Below W.heap.size W w →
      w.cell? p = some (.int .i64 x.1) ∧ w.cell? ⟨p.block, p.off + 1, none⟩ = some (.int .i64 x.2) := by
  obtain ⟨p, h1, _, h2⟩ := row_el okK h hv hn hk
  exact ⟨p, h1, fun w hw => two (h2 w hw)⟩
theorem appK {w : World} (B : Nat) {v x : Value} {l m : List Lk} (hown : OwnK w B v l) (hx : RowK w x m) (hn : l.length ≤ 1000) (hm : m.length ≤ 1000) (hB : B ≤ w.heap.size) :
    ∃ v' w', (Builtin.append_ #[23, 23] 23 #[v, x]).run Tryd.prog w = .ok v' w' ∧ OwnK w' B v' (l ++ m) ∧ w.grownBy w' v.ownBlock := app_row okK B hown hx hn hm hB 23
theorem row_oneK (w : World) (c : Lk) : RowK (w.alloc (.cells #[.int .i64 c.1, .int .i64 c.2] 22)) (.slice (some ⟨w.heap.size, 0, none⟩) 1 1) [c] :=
  Row.of_own (row_lit okK w [c] 1 rfl (by simp) _ rfl)
end Go.Proofs.YtbnfndcbhnjnaaaDoor.Gr

namespace Go.Proofs.YtbnfndcbhnjnaaaDoor.Gr
open Go.RowKit Go.Proofs.YtbnfndcbhnjnaaaDoor Go.Proofs.YtbnfndcbhnjnaaaDoor.Rw

def EI : Ek Int := ⟨3, 30, 1, 8, .int .i64 0, fun n => .int .i64 n, fun n => [.int .i64 n]⟩
theorem infoI0 : (Tryd.prog.info? 3).map (fun i => (i.zero, i.size, i.bytes)) = some (some (.int .i64 0), 1, 8) := by kernel_rfl
theorem okI : EI.Ok where
  hu := Tryd.underlying30
  info := by
    have h := infoI0
    cases hi : Tryd.prog.info? 3 with
    | none => rw [hi] at h; cases h
    | some i =>
      rw [hi] at h
      simp only [Option.map_some, Option.some.injEq, Prod.mk.injEq] at h
      exact ⟨i, hi, h.1, h.2.1, h.2.2⟩
  zs := rfl
  len := fun _ => rfl
  one := fun x u hu => by
    simp only [EI, List.mem_cons, List.not_mem_nil, or_false] at hu
    rw [hu]
    rfl
  pos := by decide
  few := by decide
  load := fun w p x h => by
    have h0 := h 0 _ rfl
    rw [add_zero] at h0
    show (Instr.loadAt 3 (.pointer (some p))).run Tryd.prog w = .ok (.int .i64 x) w
    simp [go_sem, h0]
abbrev RowI (W : World) (v : Value) (l : List Int) : Prop := Row EI W v l
abbrev OwnI (W : World) (B : Nat) (v : Value) (l : List Int) : Prop := Own EI W B v l
theorem elI {W : World} {v : Value} {l : List Int} {ao : Option Addr} {n c k : Nat} {x : Int} (h : RowI W v l) (hv : v = .slice ao n c) (hn : l.length = n) (hk : l[k]? = some x) :
    ∃ p : Addr, (∀ w, (Instr.indexAt 30 (.slice ao n c) (.int .i64 k)).run Tryd.prog w = .ok (.pointer (some p)) w) ∧ p.block < W.heap.size ∧ ∀ w, Below W.heap.size W w → w.cell? p = some (.int .i64 x) := by
  obtain ⟨p, h1, h3, h2⟩ := row_el okI h hv hn hk
  exact ⟨p, h1, h3, fun w hw => by
    have h0 := h2 w hw 0 _ rfl
    rwa [add_zero] at h0⟩
theorem appI {w : World} (B : Nat) {v x : Value} {l m : List Int} (hown : OwnI w B v l) (hx : RowI w x m) (hn : l.length ≤ 1000) (hm : m.length ≤ 1000) (hB : B ≤ w.heap.size) :
    ∃ v' w', (Builtin.append_ #[30, 30] 30 #[v, x]).run Tryd.prog w = .ok v' w' ∧ OwnI w' B v' (l ++ m) ∧ w.grownBy w' v.ownBlock := app_row okI B hown hx hn hm hB 30
theorem row_oneI (w : World) (c : Int) : RowI (w.alloc (.cells #[.int .i64 c] 3)) (.slice (some ⟨w.heap.size, 0, none⟩) 1 1) [c] :=
  Row.of_own (row_lit okI w [c] 1 rfl (by simp) _ rfl)
theorem own_oneI (w : World) (c : Int) : OwnI (w.alloc (.cells #[.int .i64 c] 3)) w.heap.size (.slice (some ⟨w.heap.size, 0, none⟩) 1 1) [c] := row_lit okI w [c] 1 rfl (by simp) _ rfl
theorem flatI : ∀ l : List Int, flat EI l = l.map (fun n => .int .i64 n)
  | [] => rfl
  | x :: r => by
    show EI.cells x ++ flat EI r = _
    rw [flatI r]
    rfl
end Go.Proofs.YtbnfndcbhnjnaaaDoor.Gr

namespace Go.Proofs.YtbnfndcbhnjnaaaDoor.Gr

/-- A link joins them. -/
def Adj (ls : List Lk) (a b : Int) : Prop := (a, b) ∈ ls ∨ (b, a) ∈ ls
theorem Adj.symm {ls : List Lk} {a b : Int} (h : Adj ls a b) : Adj ls b a := Or.symm h
/-- All links are between brokers. -/
def Lok (n : Int) (ls : List Lk) : Prop := ∀ l ∈ ls, (0 ≤ l.1 ∧ l.1 < n) ∧ (0 ≤ l.2 ∧ l.2 < n)
theorem Lok.adj {n : Int} {ls : List Lk} (h : Lok n ls) {a b : Int} (hab : Adj ls a b) : (0 ≤ a ∧ a < n) ∧ (0 ≤ b ∧ b < n) := by
  rcases hab with h1 | h1
  · exact h _ h1
  · exact (h _ h1).symm
/-- A walk of so many links. -/
def Wk (ls : List Lk) : Nat → Int → Int → Prop
  | 0, a, b => a = b
  | k + 1, a, b => ∃ c, Wk ls k a c ∧ Adj ls c b
theorem Wk.trans {ls : List Lk} {a b : Int} {i : Nat} (h : Wk ls i a b) : ∀ {j : Nat} {c : Int}, Wk ls j b c → Wk ls (i + j) a c
  | 0, c, h2 => by
    obtain rfl : b = c := h2
    exact h
  | j + 1, c, ⟨x, h2, h3⟩ => ⟨x, h.trans h2, h3⟩
theorem Wk.one {ls : List Lk} {a b : Int} (h : Adj ls a b) : Wk ls 1 a b := ⟨a, rfl, h⟩
theorem Wk.symm {ls : List Lk} : ∀ {k : Nat} {a b : Int}, Wk ls k a b → Wk ls k b a
  | 0, a, b, h => Eq.symm h
  | k + 1, a, b, ⟨c, h1, h2⟩ => by
    have h3 := (Wk.one h2.symm).trans h1.symm
    rwa [Nat.add_comm] at h3
theorem Wk.more {ls ms : List Lk} (h : ∀ l, l ∈ ls → l ∈ ms) : ∀ {k : Nat} {a b : Int}, Wk ls k a b → Wk ms k a b
  | 0, _a, _b, h1 => h1
  | _k + 1, _a, _b, ⟨c, h1, h2⟩ => ⟨c, h1.more h, h2.imp (h _) (h _)⟩
theorem Wk.range {n : Int} {ls : List Lk} (h : Lok n ls) {a : Int} (ha : 0 ≤ a ∧ a < n) : ∀ {k : Nat} {b : Int}, Wk ls k a b → 0 ≤ b ∧ b < n
  | 0, b, h1 => by
    obtain rfl : a = b := h1
    exact ha
  | k + 1, b, ⟨c, _, h2⟩ => (h.adj h2).2
/-- A shortest walk. -/
def DistIs (ls : List Lk) (a b : Int) (d : Nat) : Prop := Wk ls d a b ∧ ∀ k, Wk ls k a b → d ≤ k
theorem DistIs.uniq {ls : List Lk} {a b : Int} {d e : Nat} (h : DistIs ls a b d) (h' : DistIs ls a b e) : d = e := Nat.le_antisymm (h.2 _ h'.1) (h'.2 _ h.1)
theorem DistIs.symm {ls : List Lk} {a b : Int} {d : Nat} (h : DistIs ls a b d) : DistIs ls b a d := ⟨h.1.symm, fun k hk => h.2 k hk.symm⟩
theorem least {p : Nat → Prop} : ∀ {k : Nat}, p k → ∃ m, p m ∧ m ≤ k ∧ ∀ j, p j → m ≤ j := by
  intro k
  induction k using Nat.strongRecOn with
  | _ k ih =>
    intro hk
    by_cases h : ∃ j, j < k ∧ p j
    · obtain ⟨j, h1, h2⟩ := h
      obtain ⟨m, h3, h4, h5⟩ := ih j h1 h2
      exact ⟨m, h3, by omega, h5⟩
    · refine ⟨k, hk, Nat.le_refl _, fun j hj => ?_⟩
      rcases Nat.lt_or_ge j k with h1 | h1
      · exact absurd ⟨j, h1, hj⟩ h
      · exact h1
theorem dist_of {ls : List Lk} {a b : Int} {k : Nat} (h : Wk ls k a b) : ∃ d, DistIs ls a b d ∧ d ≤ k := by
  obtain ⟨m, h1, h2, h3⟩ := least (p := fun k => Wk ls k a b) h
  exact ⟨m, ⟨h1, h3⟩, h2⟩
theorem DistIs.prev {ls : List Lk} {a b : Int} {d : Nat} (h : DistIs ls a b (d + 1)) : ∃ c, DistIs ls a c d ∧ Adj ls c b := by
  obtain ⟨⟨c, h1, h2⟩, h3⟩ := h
  refine ⟨c, ⟨h1, fun k hk => ?_⟩, h2⟩
  have := h3 (k + 1) ⟨c, hk, h2⟩
  omega
theorem pigeon : ∀ (n : Nat) (l : List Int), l.Nodup → (∀ x ∈ l, 0 ≤ x ∧ x < (n : Int)) → l.length ≤ n
  | 0, l, _, h => by
    cases l with
    | nil => exact Nat.le_refl _
    | cons x r =>
      have := h x (List.mem_cons_self ..)
      omega
  | n + 1, l, hn, h => by
    have h1 := pigeon n (l.erase (n : Int)) (hn.erase _) (fun x hx => by
      have h2 := (List.Nodup.mem_erase_iff hn).1 hx
      have h3 := h x h2.2
      have h4 := h2.1
      omega)
    have h2 := List.length_erase (a := (n : Int)) (l := l)
    split at h2 <;> omega
/-- As many unlike brokers as steps. -/
theorem DistIs.row {n : Int} {ls : List Lk} (h : Lok n ls) {a : Int} (ha : 0 ≤ a ∧ a < n) : ∀ {d : Nat} {b : Int}, DistIs ls a b d → ∃ l : List Int, l.length = d + 1 ∧ l.Nodup ∧ ∀ x ∈ l, (0 ≤ x ∧ x < n) ∧ ∃ k, k ≤ d ∧ DistIs ls a x k
  | 0, b, hd => ⟨[b], rfl, by simp, fun x hx => by
    obtain rfl : x = b := by simpa using hx
    exact ⟨hd.1.range h ha, 0, Nat.le_refl _, hd⟩⟩
  | d + 1, b, hd => by
    obtain ⟨c, h1, _⟩ := hd.prev
    obtain ⟨l, h2, h3, h4⟩ := h1.row h ha
    refine ⟨b :: l, by simp [h2], List.nodup_cons.2 ⟨fun hb => ?_, h3⟩, fun x hx => ?_⟩
    · obtain ⟨_, k, hk, h5⟩ := h4 b hb
      have := h5.uniq hd
      omega
    · rcases List.mem_cons.1 hx with rfl | hx
      · exact ⟨hd.1.range h ha, d + 1, Nat.le_refl _, hd⟩
      · obtain ⟨h5, k, h6, h7⟩ := h4 x hx
        exact ⟨h5, k, by omega, h7⟩
theorem DistIs.lt {n : Int} {ls : List Lk} (h : Lok n ls) {a b : Int} (ha : 0 ≤ a ∧ a < n) {d : Nat} (hd : DistIs ls a b d) : (d : Int) < n := by
  obtain ⟨l, h1, h2, h3⟩ := hd.row h ha
  have := pigeon n.toNat l h2 (fun x hx => by have := (h3 x hx).1; omega)
  omega
/-- How far one is from one: the document's word. -/
def FarIs (n : Int) (ls : List Lk) (a b r : Int) : Prop := ((0 ≤ a ∧ a < n) ∧ ∃ d : Nat, r = d ∧ DistIs ls a b d) ∨ (r = -1 ∧ ((0 ≤ a ∧ a < n) → ∀ k, ¬ Wk ls k a b))
theorem FarIs.uniq {n : Int} {ls : List Lk} {a b r s : Int} (h : FarIs n ls a b r) (h' : FarIs n ls a b s) : r = s := by
  rcases h with ⟨ha, d, rfl, h1⟩ | ⟨rfl, h1⟩
  · rcases h' with ⟨_, e, rfl, h2⟩ | ⟨rfl, h2⟩
    · rw [h1.uniq h2]
    · exact absurd h1.1 (h2 ha d)
  · rcases h' with ⟨hb, e, rfl, h2⟩ | ⟨rfl, h2⟩
    · exact absurd h2.1 (h1 hb e)
    · rfl
theorem FarIs.of_dist {n : Int} {ls : List Lk} {a b r : Int} (h : FarIs n ls a b r) (ha : 0 ≤ a ∧ a < n) {d : Nat} (hd : DistIs ls a b d) : r = d := h.uniq (Or.inl ⟨ha, d, rfl, hd⟩)
theorem FarIs.lt {n : Int} {ls : List Lk} (h : Lok n ls) {a b r : Int} (hr : FarIs n ls a b r) (hn : 1 ≤ n) : -1 ≤ r ∧ r < n := by
  rcases hr with ⟨ha, d, rfl, h1⟩ | ⟨rfl, _⟩
  · have := h1.lt h ha
    omega
  · omega

/-! ### Lists that rise -/
theorem rise_ext {α : Type} {r : α → α → Prop} (irr : ∀ x, ¬ r x x) (asy : ∀ x y, r x y → ¬ r y x) : ∀ {l m : List α}, l.Pairwise r → m.Pairwise r → (∀ x, x ∈ l ↔ x ∈ m) → l = m
  | [], [], _, _, _ => rfl
  | [], y :: m, _, _, h => by have := (h y).2 (List.mem_cons_self ..); simp at this
  | x :: l, [], _, _, h => by have := (h x).1 (List.mem_cons_self ..); simp at this
  | x :: l, y :: m, hl, hm, h => by
    obtain ⟨h1, h2⟩ := List.pairwise_cons.1 hl
    obtain ⟨h3, h4⟩ := List.pairwise_cons.1 hm
    have e : x = y := by
      rcases List.mem_cons.1 ((h x).1 (List.mem_cons_self ..)) with e | hx
      · exact e
      · rcases List.mem_cons.1 ((h y).2 (List.mem_cons_self ..)) with e | hy
        · exact e.symm
        · exact absurd (h1 y hy) (asy _ _ (h3 x hx))
    subst e
    rw [rise_ext irr asy h2 h4 fun z => ?_]
    have hz := h z
    simp only [List.mem_cons] at hz
    constructor
    · intro h5
      rcases hz.1 (Or.inr h5) with rfl | h6
      · exact absurd (h1 _ h5) (irr _)
      · exact h6
    · intro h5
      rcases hz.2 (Or.inr h5) with rfl | h6
      · exact absurd (h3 _ h5) (irr _)
      · exact h6
/-- The brokers that a link joins with one, rising. -/
def NearIs (ls : List Lk) (b : Int) (l : List Int) : Prop := l.Pairwise (· < ·) ∧ ∀ x, x ∈ l ↔ Adj ls b x
theorem NearIs.uniq {ls : List Lk} {b : Int} {l m : List Int} (h : NearIs ls b l) (h' : NearIs ls b m) : l = m := rise_ext (fun x => by omega) (fun x y => by omega) h.1 h'.1 fun x => (h.2 x).trans (h'.2 x).symm
/-- By the first, then the second. -/
def LexLt (p q : Lk) : Prop := p.1 < q.1 ∨ p.1 = q.1 ∧ p.2 < q.2
def WaysIs (ls : List Lk) (l : List Lk) : Prop := l.Pairwise LexLt ∧ ∀ p, p ∈ l ↔ Adj ls p.1 p.2
theorem lex_irr (x : Lk) : ¬ LexLt x x := by unfold LexLt; omega
theorem lex_asy (x y : Lk) (h : LexLt x y) : ¬ LexLt y x := by unfold LexLt at *; omega
theorem WaysIs.uniq {ls ms : List Lk} {l m : List Lk} (h : WaysIs ls l) (h' : WaysIs ms m) (he : ∀ a b, Adj ls a b ↔ Adj ms a b) : l = m := rise_ext lex_irr lex_asy h.1 h'.1 fun x => (h.2 x).trans ((he _ _).trans (h'.2 x).symm)
/-- No link is there twice, none joins one with itself. -/
def Simp (ls : List Lk) : Prop := ls.Pairwise (fun l m => m ≠ l ∧ m ≠ (l.2, l.1)) ∧ ∀ l ∈ ls, l.1 ≠ l.2
def swapL (l : Lk) : Lk := (l.2, l.1)
theorem swap_swap (l : Lk) : swapL (swapL l) = l := rfl
/-- All ways, as they come. -/
def bothL : List Lk → List Lk
  | [] => []
  | l :: r => l :: swapL l :: bothL r
theorem mem_both : ∀ {ls : List Lk} {p : Lk}, p ∈ bothL ls ↔ Adj ls p.1 p.2
  | [], p => by simp [bothL, Adj]
  | l :: r, p => by
    have h := mem_both (ls := r) (p := p)
    simp only [bothL, List.mem_cons, h, Adj]
    have e : p = swapL l ↔ (p.2, p.1) = l := by
      constructor
      · rintro rfl; rfl
      · rintro rfl; rfl
    rw [e]
    constructor
    · rintro (h1 | h1 | h1 | h1)
      · exact Or.inl (Or.inl h1)
      · exact Or.inr (Or.inl h1)
      · exact Or.inl (Or.inr h1)
      · exact Or.inr (Or.inr h1)
    · rintro ((h1 | h1) | (h1 | h1))
      · exact Or.inl h1
      · exact Or.inr (Or.inr (Or.inl h1))
      · exact Or.inr (Or.inl h1)
      · exact Or.inr (Or.inr (Or.inr h1))
theorem both_len : ∀ ls : List Lk, (bothL ls).length = 2 * ls.length
  | [] => rfl
  | l :: r => by simp [bothL, both_len r]; omega
theorem both_append : ∀ a b : List Lk, bothL (a ++ b) = bothL a ++ bothL b
  | [], b => rfl
  | x :: r, b => by simp [bothL, both_append r b]
theorem Simp.tail {l : Lk} {r : List Lk} (h : Simp (l :: r)) : Simp r := ⟨(List.pairwise_cons.1 h.1).2, fun x hx => h.2 x (List.mem_cons_of_mem _ hx)⟩
theorem Simp.head {l : Lk} {r : List Lk} (h : Simp (l :: r)) : ¬ Adj r l.1 l.2 := by
  rintro (h1 | h1)
  · exact ((List.pairwise_cons.1 h.1).1 _ h1).1 rfl
  · exact ((List.pairwise_cons.1 h.1).1 _ h1).2 rfl
theorem both_nodup : ∀ {ls : List Lk}, Simp ls → (bothL ls).Nodup
  | [], _ => by simp [bothL]
  | l :: r, h => by
    have hh := h.head
    have hl := h.2 l (List.mem_cons_self ..)
    refine List.nodup_cons.2 ⟨?_, List.nodup_cons.2 ⟨fun h1 => hh (mem_both.1 h1).symm, both_nodup h.tail⟩⟩
    intro h1
    rcases List.mem_cons.1 h1 with h2 | h2
    · exact hl (congrArg Prod.fst h2)
    · exact hh (mem_both.1 h2)
theorem nodup_of_rise {α : Type} {r : α → α → Prop} (irr : ∀ x, ¬ r x x) {l : List α} (h : l.Pairwise r) : l.Nodup := by
  refine List.Pairwise.imp ?_ h
  intro a b hab e
  subst e
  exact irr _ hab
theorem WaysIs.len {ls l : List Lk} (h : WaysIs ls l) (hs : Simp ls) : l.length = 2 * ls.length := by
  rw [← both_len]
  exact ((List.perm_ext_iff_of_nodup (nodup_of_rise lex_irr h.1) (both_nodup hs)).2 fun p => (h.2 p).trans mem_both.symm).length_eq
/-- The brokers that one link joins with b. -/
def ends (b : Int) (l : Lk) : List Int := (if l.1 = b then [l.2] else []) ++ (if l.2 = b then [l.1] else [])
/-- All of them, as they come. -/
def nearL (b : Int) : List Lk → List Int
  | [] => []
  | l :: r => ends b l ++ nearL b r
theorem mem_ends {b x : Int} {l : Lk} : x ∈ ends b l ↔ (b, x) = l ∨ (x, b) = l := by
  obtain ⟨p, q⟩ := l
  unfold ends
  simp only [List.mem_append, Prod.mk.injEq]
  by_cases h1 : p = b <;> by_cases h2 : q = b <;> simp [h1, h2] <;> omega
theorem mem_near {b x : Int} : ∀ {ls : List Lk}, x ∈ nearL b ls ↔ Adj ls b x
  | [] => by simp [nearL, Adj]
  | l :: r => by
    have h := mem_near (b := b) (x := x) (ls := r)
    simp only [nearL, List.mem_append, mem_ends, h, Adj, List.mem_cons]
    constructor
    · rintro ((h1 | h1) | (h1 | h1))
      · exact Or.inl (Or.inl h1)
      · exact Or.inr (Or.inl h1)
      · exact Or.inl (Or.inr h1)
      · exact Or.inr (Or.inr h1)
    · rintro ((h1 | h1) | (h1 | h1))
      · exact Or.inl (Or.inl h1)
      · exact Or.inr (Or.inl h1)
      · exact Or.inl (Or.inr h1)
      · exact Or.inr (Or.inr h1)
theorem near_append (b : Int) : ∀ l m : List Lk, nearL b (l ++ m) = nearL b l ++ nearL b m
  | [], m => rfl
  | x :: r, m => by simp [nearL, near_append b r m]
theorem near_len (b : Int) : ∀ ls : List Lk, (nearL b ls).length ≤ 2 * ls.length
  | [] => Nat.le_refl _
  | l :: r => by
    have h := near_len b r
    have h2 : (ends b l).length ≤ 2 := by unfold ends; split <;> split <;> simp
    simp [nearL]
    omega
theorem near_nodup {b : Int} : ∀ {ls : List Lk}, Simp ls → (nearL b ls).Nodup
  | [], _ => by simp [nearL]
  | l :: r, h => by
    have hh := h.head
    have hl := h.2 l (List.mem_cons_self ..)
    refine List.nodup_append.2 ⟨?_, near_nodup h.tail, ?_⟩
    · unfold ends
      by_cases h1 : l.1 = b <;> by_cases h2 : l.2 = b <;> simp [h1, h2]
      · exact absurd (h1.trans h2.symm) hl
    · intro x hx y hy e
      subst e
      have h3 := mem_near.1 hy
      rcases mem_ends.1 hx with h4 | h4
      · rw [← h4] at hh
        exact hh h3
      · rw [← h4] at hh
        exact hh h3.symm
/-! ### Breadth first -/
def dv (D : Int → Option Nat) (x : Int) : Nat := (D x).getD 0
def updD (D : Int → Option Nat) (x : Int) (d : Nat) : Int → Option Nat := fun y => if y = x then some d else D y
/-- So far: the head of the queue is being looked at, these ones of its neighbours have been. -/
structure Mid (ls : List Lk) (a : Int) (D : Int → Option Nat) (h : Int) (t ds : List Int) : Prop where
  start : D a = some 0
  walk : ∀ v d, D v = some d → Wk ls d a v
  inq : ∀ v, v ∈ h :: t → ∃ d, D v = some d
  srt : (h :: t).Pairwise (fun x y => dv D x ≤ dv D y)
  top : ∀ v d, D v = some d → d ≤ dv D h + 1
  cl : ∀ v d, D v = some d → v ∉ h :: t → ∀ w, Adj ls v w → ∃ e, D w = some e ∧ e ≤ d + 1
  ds : ∀ w ∈ ds, ∃ e, D w = some e ∧ e ≤ dv D h + 1
theorem Mid.seen {ls : List Lk} {a : Int} {D : Int → Option Nat} {h : Int} {t ds : List Int} (m : Mid ls a D h t ds) {x : Int} {d : Nat} (hx : D x = some d) : Mid ls a D h t (ds ++ [x]) :=
  ⟨m.start, m.walk, m.inq, m.srt, m.top, m.cl, fun w hw => by
      rcases List.mem_append.1 hw with h1 | h1
      · exact m.ds w h1
      · obtain rfl : w = x := by simpa using h1
        exact ⟨d, hx, m.top _ _ hx⟩⟩
theorem Mid.push {ls : List Lk} {a : Int} {D : Int → Option Nat} {h : Int} {t ds : List Int} (m : Mid ls a D h t ds) {x : Int} (hx : D x = none) (hadj : Adj ls h x) : Mid ls a (updD D x (dv D h + 1)) h (t ++ [x]) (ds ++ [x]) := by
  have ne : ∀ v d, D v = some d → v ≠ x := fun v d hv e => by rw [e, hx] at hv; cases hv
  have keep : ∀ v d, D v = some d → updD D x (dv D h + 1) v = some d := fun v d hv => by unfold updD; rw [if_neg (ne v d hv)]; exact hv
  obtain ⟨dh, hdh⟩ := m.inq h (List.mem_cons_self ..)
  have dvk : ∀ v, v ∈ h :: t → dv (updD D x (dv D h + 1)) v = dv D v := fun v hv => by
    obtain ⟨d, hd⟩ := m.inq v hv
    have h1 := keep v d hd
    generalize updD D x (dv D h + 1) = D' at h1 ⊢
    unfold dv
    rw [h1, hd]
  have dvh := dvk h (List.mem_cons_self ..)
  have dvx : dv (updD D x (dv D h + 1)) x = dv D h + 1 := by unfold dv updD; simp
  have cases_ : ∀ v d, updD D x (dv D h + 1) v = some d → (v = x ∧ d = dv D h + 1) ∨ D v = some d := fun v d hv => by
    unfold updD at hv
    split at hv
    · rename_i e
      exact Or.inl ⟨e, by injection hv with hv; exact hv.symm⟩
    · exact Or.inr hv
  refine ⟨keep _ _ m.start, ?_, ?_, ?_, ?_, ?_, ?_⟩
  · intro v d hv
    rcases cases_ v d hv with ⟨rfl, rfl⟩ | h1
    · refine ⟨h, ?_, hadj⟩
      have := m.walk h dh hdh
      unfold dv
      rw [hdh]
      exact this
    · exact m.walk v d h1
  · intro v hv
    rw [← List.cons_append] at hv
    rcases List.mem_append.1 hv with h1 | h1
    · obtain ⟨d, hd⟩ := m.inq v h1
      exact ⟨d, keep v d hd⟩
    · obtain rfl : v = x := by simpa using h1
      exact ⟨_, by unfold updD; rw [if_pos rfl]⟩
  · rw [← List.cons_append]
    refine List.pairwise_append.2 ⟨?_, by simp, ?_⟩
    · refine List.Pairwise.imp_of_mem ?_ m.srt
      intro u v hu hv huv
      rw [dvk u hu, dvk v hv]
      exact huv
    · intro u hu v hv
      obtain rfl : v = x := by simpa using hv
      obtain ⟨d, hd⟩ := m.inq u hu
      have := m.top u d hd
      rw [dvk u hu, dvx]
      unfold dv at this ⊢
      rw [hd]
      exact this
  · intro v d hv
    rw [dvh]
    rcases cases_ v d hv with ⟨rfl, rfl⟩ | h1
    · exact Nat.le_refl _
    · exact m.top v d h1
  · intro v d hv hq w hw
    rcases cases_ v d hv with ⟨rfl, rfl⟩ | h1
    · exact absurd (by simp) hq
    · obtain ⟨e, he, hle⟩ := m.cl v d h1 (fun h2 => hq (by rw [← List.cons_append]; exact List.mem_append_left _ h2)) w hw
      exact ⟨e, keep w e he, hle⟩
  · intro w hw
    rw [dvh]
    rcases List.mem_append.1 hw with h1 | h1
    · obtain ⟨e, he, hle⟩ := m.ds w h1
      exact ⟨e, keep w e he, hle⟩
    · obtain rfl : w = x := by simpa using h1
      exact ⟨_, by unfold updD; rw [if_pos rfl], Nat.le_refl _⟩
/-- The head is done. -/
theorem Mid.pop {ls : List Lk} {a : Int} {D : Int → Option Nat} {h g : Int} {t ds : List Int} (m : Mid ls a D h (g :: t) ds) (hds : ∀ w, Adj ls h w → w ∈ ds) : Mid ls a D g t [] := by
  have hle := (List.pairwise_cons.1 m.srt).1 g (List.mem_cons_self ..)
  obtain ⟨dh, hdh⟩ := m.inq h (List.mem_cons_self ..)
  refine ⟨m.start, m.walk, fun v hv => m.inq v (List.mem_cons_of_mem _ hv), (List.pairwise_cons.1 m.srt).2, fun v d hv => Nat.le_trans (m.top v d hv) (by omega), ?_, fun w hw => by cases hw⟩
  intro v d hv hq w hw
  by_cases e : v = h
  · subst e
    obtain ⟨f, hf, hle⟩ := m.ds w (hds w hw)
    refine ⟨f, hf, ?_⟩
    rw [hdh] at hv
    cases hv
    unfold dv at hle
    rw [hdh] at hle
    exact hle
  · exact m.cl v d hv (fun h1 => by
      rcases List.mem_cons.1 h1 with h2 | h2
      · exact e h2
      · exact hq h2) w hw
/-- All is looked at. -/
structure Found (ls : List Lk) (a : Int) (D : Int → Option Nat) : Prop where
  start : D a = some 0
  walk : ∀ v d, D v = some d → Wk ls d a v
  cl : ∀ v d, D v = some d → ∀ w, Adj ls v w → ∃ e, D w = some e ∧ e ≤ d + 1
theorem Mid.last {ls : List Lk} {a : Int} {D : Int → Option Nat} {h : Int} {ds : List Int} (m : Mid ls a D h [] ds) (hds : ∀ w, Adj ls h w → w ∈ ds) : Found ls a D := by
  obtain ⟨dh, hdh⟩ := m.inq h (List.mem_cons_self ..)
  refine ⟨m.start, m.walk, fun v d hv w hw => ?_⟩
  by_cases e : v = h
  · subst e
    obtain ⟨f, hf, hle⟩ := m.ds w (hds w hw)
    refine ⟨f, hf, ?_⟩
    rw [hdh] at hv
    cases hv
    unfold dv at hle
    rw [hdh] at hle
    exact hle
  · exact m.cl v d hv (by simpa using e) w hw
theorem Found.reach {ls : List Lk} {a : Int} {D : Int → Option Nat} (f : Found ls a D) : ∀ {k : Nat} {v : Int}, Wk ls k a v → ∃ e, D v = some e ∧ e ≤ k
  | 0, v, h => by
    obtain rfl : a = v := h
    exact ⟨0, f.start, Nat.le_refl _⟩
  | k + 1, v, ⟨c, h1, h2⟩ => by
    obtain ⟨e, he, hle⟩ := f.reach h1
    obtain ⟨g, hg, hle2⟩ := f.cl c e he v h2
    exact ⟨g, hg, by omega⟩
theorem Found.dist {ls : List Lk} {a : Int} {D : Int → Option Nat} (f : Found ls a D) {v : Int} {d : Nat} (hv : D v = some d) : DistIs ls a v d := ⟨f.walk v d hv, fun k hk => by
  obtain ⟨e, he, hle⟩ := f.reach hk
  rw [hv] at he
  cases he
  exact hle⟩
theorem Found.none {ls : List Lk} {a : Int} {D : Int → Option Nat} (f : Found ls a D) {v : Int} (hv : D v = none) (k : Nat) : ¬ Wk ls k a v := fun hk => by
  obtain ⟨e, he, _⟩ := f.reach hk
  rw [hv] at he
  cases he
/-- How many brokers are not found. -/
def left (D : Int → Option Nat) : Nat → Nat
  | 0 => 0
  | n + 1 => left D n + if (D (n : Int)).isNone then 1 else 0
theorem left_upd {D : Int → Option Nat} {x : Int} {d : Nat} (hx : D x = none) (h0 : 0 ≤ x) : ∀ n : Nat, left D n = left (updD D x d) n + if x < (n : Int) then 1 else 0
  | 0 => by
    rw [if_neg (by omega)]
    rfl
  | n + 1 => by
    have h := left_upd (d := d) hx h0 n
    simp only [left, h]
    by_cases e : (n : Int) = x
    · rw [e, if_neg (by omega)]
      have e2 : updD D x d x = some d := by unfold updD; rw [if_pos rfl]
      rw [hx, e2]
      have h3 : x < ((n + 1 : Nat) : Int) := by omega
      rw [if_pos h3]
      rfl
    · have e2 : updD D x d (n : Int) = D (n : Int) := by unfold updD; rw [if_neg e]
      rw [e2]
      by_cases h1 : x < (n : Int)
      · have h2 : x < ((n + 1 : Nat) : Int) := by omega
        rw [if_pos h1, if_pos h2]; omega
      · have h2 : ¬ x < ((n + 1 : Nat) : Int) := by omega
        rw [if_neg h1, if_neg h2]; rfl
theorem left_none : ∀ n : Nat, left (fun _ => none) n = n
  | 0 => rfl
  | n + 1 => by simp [left, left_none n]
theorem left_zero {D : Int → Option Nat} : ∀ n : Nat, left D n = 0 ↔ ∀ v : Int, 0 ≤ v → v < (n : Int) → ∃ d, D v = some d
  | 0 => ⟨fun _ v h1 h2 => by omega, fun _ => rfl⟩
  | n + 1 => by
    have h := left_zero (D := D) n
    simp only [left]
    constructor
    · intro h0 v h1 h2
      have h3 : left D n = 0 := by omega
      by_cases e : v = (n : Int)
      · subst e
        cases hD : D (n : Int) with
        | none => rw [hD] at h0; simp at h0
        | some d => exact ⟨d, rfl⟩
      · exact h.1 h3 v h1 (by omega)
    · intro h0
      have h3 := h.2 fun v h1 h2 => h0 v h1 (by omega)
      obtain ⟨d, hd⟩ := h0 n (by omega) (by omega)
      rw [h3, hd]
      rfl
theorem left_le (D : Int → Option Nat) : ∀ n : Nat, left D n ≤ n
  | 0 => Nat.le_refl _
  | n + 1 => by
    have := left_le D n
    simp only [left]
    split <;> omega
/-- What a graph must be. -/
structure RightG (n : Int) (ls : List Lk) : Prop where
  lo : 1 ≤ n
  hi : n ≤ 64
  few : ls.length ≤ 200
  ok : Lok n ls
  simp : Simp ls
  all : ∀ v : Int, 0 ≤ v → v < n → ∃ k, Wk ls k 0 v
theorem RightG.join {n : Int} {ls : List Lk} (h : RightG n ls) {a b : Int} (ha : 0 ≤ a ∧ a < n) (hb : 0 ≤ b ∧ b < n) : ∃ d, DistIs ls a b d := by
  obtain ⟨i, hi⟩ := h.all a ha.1 ha.2
  obtain ⟨j, hj⟩ := h.all b hb.1 hb.2
  obtain ⟨d, hd, _⟩ := dist_of (hi.symm.trans hj)
  exact ⟨d, hd⟩
end Go.Proofs.YtbnfndcbhnjnaaaDoor.Gr

namespace Go.Proofs.YtbnfndcbhnjnaaaDoor.Gr
open Go.RowKit Go.Proofs.YtbnfndcbhnjnaaaDoor Go.Proofs.YtbnfndcbhnjnaaaDoor.Rw Go.Maps Go.ChangeMaps

theorem laidOut : laidOutB Tryd.prog = true := by kernel_rfl
theorem typesSize : Tryd.prog.types.size = 173 := by kernel_rfl
theorem law : Keyed Tryd.prog 22 := Keyed.of_law (deep_law_laid laidOut (m := 3) (by omega) (by rw [typesSize]; decide) (by kernel_rfl) (by kernel_rfl))
/-- Numbers of 64 bits. -/
def Ok2 (l : Lk) : Prop := (-9223372036854775808 ≤ l.1 ∧ l.1 ≤ 9223372036854775807) ∧ (-9223372036854775808 ≤ l.2 ∧ l.2 ≤ 9223372036854775807)
theorem wf64 {n : Int} (h : -9223372036854775808 ≤ n ∧ n ≤ 9223372036854775807) : (Lit.int .i64 n).wf = true := by
  show (decide (IntKind.i64.min ≤ n) && decide (n ≤ IntKind.i64.max)) = true
  rw [Bool.and_eq_true, decide_eq_true_eq, decide_eq_true_eq, show IntKind.i64.min = -9223372036854775808 by decide, show IntKind.i64.max = 9223372036854775807 by decide]
  exact h
theorem key_some (l : Lk) (h : Ok2 l) : ∃ kl, keyOf Tryd.prog 22 (kv l) = some kl := by
  have hk : Tryd.prog.keyType 22 = true := by kernel_rfl
  have c2 : Tryd.prog.cellsOf 22 = 2 := by kernel_rfl
  have c1 : Tryd.prog.cellsOf 3 = 1 := by kernel_rfl
  have w1 := wf64 h.1
  have w2 := wf64 h.2
  have e : ∀ d, Tryd.prog.keyLits (d + 1 + 1) 22 [.int .i64 l.1, .int .i64 l.2] = some [.int .i64 l.1, .int .i64 l.2] := fun d => by
    simp [Program.keyLits, Tryd.underlying22, Tryd.underlying3, c2, c1, List.range, List.range.loop, List.drop, List.take, w1, w2]
  refine ⟨.string (keyBytes [.int .i64 l.1, .int .i64 l.2]), ?_⟩
  have f : Value.formed Tryd.prog 22 (kv l) = true := by simp [Value.formed, Tryd.underlying22, c2]
  have e2 := e (173 - 1)
  simp only [keyOf, Tryd.underlying22, hk, f, typesSize, Bool.and_self, if_true]
  show (Tryd.prog.keyLits (173 + 1) 22 [.int .i64 l.1, .int .i64 l.2]).map _ = _
  rw [show (173 + 1 : Nat) = (173 - 1) + 1 + 1 from rfl, e2]
  rfl
noncomputable def kl (l : Lk) : Lit := (keyOf Tryd.prog 22 (kv l)).getD (.bool false)
theorem kl_is (l : Lk) (h : Ok2 l) : keyOf Tryd.prog 22 (kv l) = some (kl l) := by
  obtain ⟨x, hx⟩ := key_some l h
  unfold kl
  rw [hx]
  rfl
theorem kl_inj {l m : Lk} (hl : Ok2 l) (hm : Ok2 m) (h : kl l = kl m) : l = m := by
  have h1 := kl_is l hl
  rw [h] at h1
  have h2 := law.inj h1 (kl_is m hm)
  obtain ⟨a, b⟩ := l
  obtain ⟨c, d⟩ := m
  simpa using h2
theorem zeroB (w : World) : (zeroValue 4).run Tryd.prog w = .ok (.bool false) w := by kernel_rfl
/-- Block b is a map that holds true at just these links. -/
def InMap (W : World) (b : Nat) (s : List Lk) : Prop := ∃ (n : Nat) (D : DataW Unit), n ≤ s.length ∧ W.ownsMap Tryd.prog 22 (plainElem Tryd.prog 4) b n D ∧ IsMap D ∧ ∀ l, Ok2 l → D.atKey (kl l) (.lit (.bool false)) = .lit (.bool (decide (l ∈ s)))
theorem inMap_made (w : World) : InMap (w.alloc (.map #[] 0)) w.heap.size [] :=
  ⟨0, .map [], Nat.le_refl _, World.ownsMap_made _ _ _ _, ⟨[], rfl⟩, fun l _ => by simp [DataW.atKey]⟩
theorem InMap.lt {W : World} {b : Nat} {s : List Lk} (h : InMap W b s) : b < W.heap.size := by
  obtain ⟨n, D, _, h2, _⟩ := h
  exact h2.lt
theorem InMap.of_block {W W' : World} {b : Nat} {s : List Lk} (h : InMap W b s) (hb : W'.heap[b]? = W.heap[b]?) : InMap W' b s := by
  obtain ⟨n, D, h1, ⟨es, clock, h2, r⟩, h3⟩ := h
  exact ⟨n, D, h1, ⟨es, clock, by rw [hb]; exact h2, r⟩, h3⟩
theorem InMap.on {W W' : World} {b : Nat} {s : List Lk} (h : InMap W b s) (hb : Below W.heap.size W W') : InMap W' b s := h.of_block (hb.block _ h.lt)
theorem InMap.grown {W W' : World} {b : Nat} {s : List Lk} {row : Option Nat} (h : InMap W b s) (hg : W.grownBy W' row) (hne : some b ≠ row) : InMap W' b s := h.of_block (hg.block b h.lt hne)
theorem InMap.setCell {W : World} {b : Nat} {s : List Lk} (h : InMap W b s) {a : Addr} (ha : b ≠ a.block) (u : Value) : InMap (W.setCell a u) b s := h.of_block (RowKit.Below.heap_setCell _ _ _ _ ha)
set_option maxRecDepth 100000 in
theorem InMap.look {W : World} {b : Nat} {s : List Lk} (h : InMap W b s) (l : Lk) (hl : Ok2 l) : (Instr.lookup 45 (.map (some b)) (kv l) false).run Tryd.prog W = .ok (.bool (decide (l ∈ s))) W := by
  obtain ⟨n, D, _, h2, _, h4⟩ := h
  obtain ⟨v, ps, hr, hv⟩ := h2.lookup law Tryd.underlying45 (zeroB W) (plainElem_bool Tryd.underlying4 _) (kl_is l hl)
  rw [h4 l hl] at hv
  rw [hr]
  cases v <;> simp [plainElem, Tryd.underlying4] at hv
  rw [hv.1]
set_option maxRecDepth 100000 in
theorem InMap.store {W : World} {b : Nat} {s : List Lk} (h : InMap W b s) (l : Lk) (hl : Ok2 l) (hs : s.length < 1000) : ∃ W', (Instr.mapUpdate 45 (.map (some b)) (kv l) (.bool true)).run Tryd.prog W = .ok () W' ∧ InMap W' b (s ++ [l]) ∧ W.grownBy W' (some b) := by
  obtain ⟨n, D, h1, h2, h3, h4⟩ := h
  obtain ⟨W', hr, ho, ht⟩ := h2.store law Tryd.underlying45 (by unfold maxLen; omega) (kl_is l hl) (plainElem_bool Tryd.underlying4 true)
  refine ⟨W', hr, ⟨n + 1, _, by simp; omega, ho, ho.isMap, fun m hm => ?_⟩, ht.grown⟩
  by_cases e : m = l
  · subst e
    rw [atKey_put_same h3 (law.key (kl_is m hm))]
    simp
  · rw [atKey_put_other (fun h => e (kl_inj hm hl h)), h4 m hm]
    simp [e]
end Go.Proofs.YtbnfndcbhnjnaaaDoor.Gr

namespace Go.Proofs.YtbnfndcbhnjnaaaDoor.Gr
open Go.RowKit Go.Proofs.YtbnfndcbhnjnaaaDoor Go.Proofs.YtbnfndcbhnjnaaaDoor.Rw Go.Maps Go.ChangeMaps

def I64 (n : Int) : Prop := -9223372036854775808 ≤ n ∧ n ≤ 9223372036854775807
theorem lawI : Keyed Tryd.prog 3 := int_keyed Tryd.underlying3
theorem keyI {n : Int} (h : I64 n) : keyOf Tryd.prog 3 (.int .i64 n) = some (.int .i64 n) := by
  have hw := wf64 h
  simp [keyOf, mapKey, Tryd.underlying3, hw]
/-- An element, as it lies. -/
def RV (v : Value) : Option (DataW Value × List MemPlace) := some (.held v, [])
/-- Block b is a map of s entries that holds just these. -/
def MapF (W : World) (b : Nat) (f : Int → Option Value) (s : Nat) : Prop := ∃ D : DataW Value, W.ownsMap Tryd.prog 3 RV b s D ∧ Maps.size D = s ∧ ∀ k, I64 k → ∀ z, D.atKey (.int .i64 k) z = match f k with
  | some v => .held v
  | none => z
theorem own_size {W : World} {b n : Nat} {D : DataW Value} (h : W.ownsMap Tryd.prog 3 RV b n D) : W.ownsMap Tryd.prog 3 RV b (Maps.size D) D := by
  obtain ⟨es, clock, h1, h2, h3, rfl⟩ := h
  exact ⟨es, clock, h1, h2, by simp [Maps.size, length_sorted], rfl⟩
theorem mapF_made (w : World) : MapF (w.alloc (.map #[] 0)) w.heap.size (fun _ => none) 0 := ⟨.map [], World.ownsMap_made _ _ _ _, rfl, fun _k _ _z => rfl⟩
theorem MapF.lt {W : World} {b : Nat} {f : Int → Option Value} {s : Nat} (h : MapF W b f s) : b < W.heap.size := by
  obtain ⟨D, h2, _⟩ := h
  exact h2.lt
theorem MapF.of_block {W W' : World} {b : Nat} {f : Int → Option Value} {s : Nat} (h : MapF W b f s) (hb : W'.heap[b]? = W.heap[b]?) : MapF W' b f s := by
  obtain ⟨D, ⟨es, clock, h2, r⟩, h3⟩ := h
  exact ⟨D, ⟨es, clock, by rw [hb]; exact h2, r⟩, h3⟩
theorem MapF.on {W W' : World} {b : Nat} {f : Int → Option Value} {s : Nat} (h : MapF W b f s) (hb : Below W.heap.size W W') : MapF W' b f s := h.of_block (hb.block _ h.lt)
theorem MapF.grown {W W' : World} {b : Nat} {f : Int → Option Value} {s : Nat} {row : Option Nat} (h : MapF W b f s) (hg : W.grownBy W' row) (hne : some b ≠ row) : MapF W' b f s := h.of_block (hg.block b h.lt hne)
theorem MapF.of_has {W : World} {b : Nat} {f : Int → Option Value} {s : Nat} {D : DataW Value} (h3 : ∀ k, I64 k → ∀ z, D.atKey (.int .i64 k) z = match f k with
  | some v => .held v
  | none => z) (_ : MapF W b f s) {k : Int} (hk : I64 k) : Maps.has D (.int .i64 k) = (f k).isSome := by
  have h := h3 k hk
  cases hf : f k with
  | none => exact has_false_of_atKey (by rw [hf] at h; exact h)
  | some v => exact has_true_of_atKey (y := .held v) (by rw [hf] at h; exact h)
theorem MapF.look_ok {W : World} {b : Nat} {f : Int → Option Value} {s : Nat} (h : MapF W b f s) {t e : TypeId} (ht : Tryd.prog.underlying t = some (.map 3 e)) {z : Value} (hz : ∀ w : World, (zeroValue e).run Tryd.prog w = .ok z w) {k : Int} (hk : I64 k) :
    (Instr.lookup t (.map (some b)) (.int .i64 k) true).run Tryd.prog W = .ok (.tuple #[(f k).getD z, .bool (f k).isSome]) W := by
  have h0 := h
  obtain ⟨D, h2, h4, h3⟩ := h
  obtain ⟨v, ps, hr, hv⟩ := h2.look_ok lawI ht (hz W) (zd := .held z) (zp := []) rfl (keyI hk)
  rw [hr, MapF.of_has h3 h0 hk]
  rw [h3 k hk] at hv
  unfold RV at hv
  cases hf : f k with
  | none =>
    rw [hf] at hv
    simp at hv
    rw [hv.1]
    rfl
  | some u =>
    rw [hf] at hv
    simp at hv
    rw [hv.1]
    rfl
theorem MapF.look {W : World} {b : Nat} {f : Int → Option Value} {s : Nat} (h : MapF W b f s) {t e : TypeId} (ht : Tryd.prog.underlying t = some (.map 3 e)) {z : Value} (hz : ∀ w : World, (zeroValue e).run Tryd.prog w = .ok z w) {k : Int} (hk : I64 k) :
    (Instr.lookup t (.map (some b)) (.int .i64 k) false).run Tryd.prog W = .ok ((f k).getD z) W := by
  obtain ⟨D, h2, h4, h3⟩ := h
  obtain ⟨v, ps, hr, hv⟩ := h2.lookup lawI ht (hz W) (zd := .held z) (zp := []) rfl (keyI hk)
  rw [hr]
  rw [h3 k hk] at hv
  unfold RV at hv
  cases hf : f k with
  | none =>
    rw [hf] at hv
    simp at hv
    rw [hv.1]
    rfl
  | some u =>
    rw [hf] at hv
    simp at hv
    rw [hv.1]
    rfl
def updF (f : Int → Option Value) (k : Int) (v : Value) : Int → Option Value := fun j => if j = k then some v else f j
theorem MapF.store {W : World} {b : Nat} {f : Int → Option Value} {s : Nat} (h : MapF W b f s) {t e : TypeId} (ht : Tryd.prog.underlying t = some (.map 3 e)) {k : Int} (hk : I64 k) (v : Value) (hs : s ≤ 100000) :
    ∃ W', (Instr.mapUpdate t (.map (some b)) (.int .i64 k) v).run Tryd.prog W = .ok () W' ∧ MapF W' b (updF f k v) (if (f k).isSome then s else s + 1) ∧ W.grownBy W' (some b) := by
  have h0 := h
  obtain ⟨D, h2, h4, h3⟩ := h
  obtain ⟨W', hr, ho, ht'⟩ := h2.store lawI ht (by unfold maxLen; omega) (keyI hk) (val := v) (d := .held v) (ps := []) rfl
  have hsz : Maps.size (D.put (.int .i64 k) (.held v)) = if (f k).isSome then s else s + 1 := by
    rw [size_put (h2.tidy lawI), MapF.of_has h3 h0 hk, h4]
  have ho2 := own_size ho
  rw [hsz] at ho2
  refine ⟨W', hr, ⟨_, ho2, hsz, fun j hj z => ?_⟩, ht'.grown⟩
  unfold updF
  by_cases e : j = k
  · subst e
    rw [atKey_put_same h2.isMap (lawI.key (keyI hk)), if_pos rfl]
  · rw [atKey_put_other (fun h => e (by injection h)), h3 j hj z, if_neg e]
theorem MapF.len {W : World} {b : Nat} {f : Int → Option Value} {s : Nat} (h : MapF W b f s) {t e : TypeId} (ht : Tryd.prog.underlying t = some (.map 3 e)) (ty : TypeId) : (Builtin.len_ #[t] ty #[.map (some b)]).run Tryd.prog W = .ok (.int .i64 s) W := by
  obtain ⟨D, h2, h4, h3⟩ := h
  rw [h2.len ht ty, h4]
theorem look_none {t e : TypeId} (ht : Tryd.prog.underlying t = some (.map 3 e)) {z : Value} {w : World} (hz : (zeroValue e).run Tryd.prog w = .ok z w) {k : Int} (hk : I64 k) (c : Bool) :
    (Instr.lookup t (.map none) (.int .i64 k) c).run Tryd.prog w = .ok (if c then .tuple #[z, .bool false] else z) w := Maps.look_nil c lawI ht hz (keyI hk)
end Go.Proofs.YtbnfndcbhnjnaaaDoor.Gr
