/-
  Appends onto a row of one's own that begins empty: a row, one link, a row; the link's own row made ahead of it, or between. No program's function in it. Condition: rows of at most 100.
-/
import Derived.Test.YtbnfndcbhnjnaaaDoorGrPut
namespace Go.Proofs.YtbnfndcbhnjnaaaDoor.Gr
open Go.RowKit Go.Proofs.YtbnfndcbhnjnaaaDoor Go.Proofs.YtbnfndcbhnjnaaaDoor.Rw

theorem app_lit {w : World} (B : Nat) {v x : Value} {l m : List Lk} (hown : OwnK w B v l) (hx : RowK w x m) (hn : l.length ≤ 1000) (hm : m.length ≤ 1000) (hB : B ≤ w.heap.size) (hp : 0 < (l ++ m).length) :
    ∃ g c w', (Builtin.append_ #[23, 23] 23 #[v, x]).run Tryd.prog w = .ok (.slice (some ⟨g, 0, none⟩) (l ++ m).length c) w' ∧ OwnK w' B (.slice (some ⟨g, 0, none⟩) (l ++ m).length c) (l ++ m) ∧ w.grownBy w' v.ownBlock := by
  obtain ⟨v', w', r, o, gr⟩ := appK B hown hx hn hm hB
  rcases own_open o with ⟨_, e⟩ | ⟨g, cap, cur, rfl, _⟩
  · rw [e] at hp
    exact absurd hp (by simp)
  · exact ⟨g, cap, w', r, o, gr⟩
theorem row_keptK {U w : World} {cb : Nat} {c : Lk} {row : Option Nat} (hx : RowK U (.slice (some ⟨cb, 0, none⟩) 1 1) [c]) (hg : U.grownBy w row) (hne : row ≠ some cb) : RowK w (.slice (some ⟨cb, 0, none⟩) 1 1) [c] := by
  rcases hx with ⟨h, _⟩ | ⟨a, cap, h1, h2, h3, h4⟩
  · cases h
  · obtain ⟨rfl, rfl⟩ : (⟨cb, 0, none⟩ : Addr) = a ∧ 1 = cap := by simpa using h1
    exact Or.inr ⟨_, 1, rfl, h2, h3, fun j u hj => hg.cell (h4 j u hj) (by rw [add_own]; exact fun e => hne e.symm)⟩
abbrev litK (x : Lk) : Obj := .cells #[.int .i64 x.1, .int .i64 x.2] 22
/-- The runs of two appends: a row, then one link. -/
structure Runs2 (U u1 : World) (e1 lo : Value) (x : Lk) (a : List Lk) (u2 : World) (xl : Value) (v1 : Value) (w1 : World) (g2 c2 : Nat) (w2 : World) : Prop where
  r1 : (Builtin.append_ #[23, 23] 23 #[e1, lo]).run Tryd.prog u1 = .ok v1 w1
  r2 : (Builtin.append_ #[23, 23] 23 #[v1, xl]).run Tryd.prog u2 = .ok (.slice (some ⟨g2, 0, none⟩) (a.length + 1) c2) w2
  own : OwnK w2 U.heap.size (.slice (some ⟨g2, 0, none⟩) (a.length + 1) c2) (a ++ [x])
  b1 : Below U.heap.size U w1
  b2 : Below U.heap.size U w2
theorem own_emptyK (w : World) (B : Nat) (hB : B ≤ w.heap.size) : OwnK (w.alloc (.cells #[] 22)) B (.slice (some ⟨w.heap.size, 0, none⟩) 0 0) [] := own_less hB (own_made (E := EK) w)
/-- The link's row is there ahead of the first append. -/
theorem runs2_b {U u : World} {g cb : Nat} {lo : Value} {a : List Lk} {x : Lk} (h0 : OwnK u U.heap.size (.slice (some ⟨g, 0, none⟩) 0 0) []) (hx : RowK u (.slice (some ⟨cb, 0, none⟩) 1 1) [x]) (hne : g ≠ cb) (hb : Below U.heap.size U u) (hl : RowK U lo a) (la : a.length ≤ 100) :
    ∃ v1 w1 g2 c2 w2, Runs2 U u (.slice (some ⟨g, 0, none⟩) 0 0) lo x a w1 (.slice (some ⟨cb, 0, none⟩) 1 1) v1 w1 g2 c2 w2 := by
  obtain ⟨v1, w1, r1, o1, g1⟩ := appK U.heap.size h0 (hl.on hb) (by simp) (by omega) hb.size
  have b1 := hb.grown g1 hb.size (fun j hj => (h0.lt j hj).1)
  rw [List.nil_append] at o1
  obtain ⟨g2, c2, w2, r2, o2, g3⟩ := app_lit U.heap.size o1 (row_keptK hx g1 (by simp [Value.ownBlock, hne])) (by omega) (by simp) b1.size (by simp)
  have b2 := b1.grown g3 b1.size (fun j hj => (o1.lt j hj).1)
  rw [show (a ++ [x]).length = a.length + 1 by simp] at r2 o2
  exact ⟨v1, w1, g2, c2, w2, r1, r2, o2, b1, b2⟩
/-- .. behind it. -/
theorem runs2_a {U : World} {lo : Value} {a : List Lk} (x : Lk) (hl : RowK U lo a) (la : a.length ≤ 100) :
    ∃ v1 w1 g2 c2 w2, Runs2 U (U.drew.alloc (.cells #[] 22)) (.slice (some ⟨U.heap.size, 0, none⟩) 0 0) lo x a (w1.alloc (litK x)) (.slice (some ⟨w1.heap.size, 0, none⟩) 1 1) v1 w1 g2 c2 w2 := by
  have b0 : Below U.heap.size U (U.drew.alloc (.cells #[] 22)) := (Below.refl _ _).drew.alloc (Nat.le_refl _) _
  have h0 := own_emptyK U.drew U.heap.size (Nat.le_refl _)
  obtain ⟨v1, w1, r1, o1, g1⟩ := appK U.heap.size h0 (hl.on b0) (by simp) (by omega) b0.size
  have b1 := b0.grown g1 b0.size (fun j hj => (h0.lt j hj).1)
  rw [List.nil_append] at o1
  have o1' := own_on o1 ((Below.refl _ _).alloc (Nat.le_refl _) (litK x))
  have b1' := b1.alloc b1.size (litK x)
  obtain ⟨g2, c2, w2, r2, o2, g3⟩ := app_lit U.heap.size o1' (row_oneK w1 x) (by omega) (by simp) b1'.size (by simp)
  have b2 := b1'.grown g3 b1'.size (fun j hj => (o1'.lt j hj).1)
  rw [show (a ++ [x]).length = a.length + 1 by simp] at r2 o2
  exact ⟨v1, w1, g2, c2, w2, r1, r2, o2, b1, b2⟩
/-- A third one. -/
theorem Runs2.more {U u1 u2 : World} {e1 lo xl v1 hi : Value} {x : Lk} {a b : List Lk} {w1 w2 : World} {g2 c2 : Nat} (h : Runs2 U u1 e1 lo x a u2 xl v1 w1 g2 c2 w2) (hh : RowK U hi b) (la : a.length ≤ 100) (lb : b.length ≤ 100) :
    ∃ g3 c3 w3, (Builtin.append_ #[23, 23] 23 #[.slice (some ⟨g2, 0, none⟩) (a.length + 1) c2, hi]).run Tryd.prog w2 = .ok (.slice (some ⟨g3, 0, none⟩) (a.length + 1 + b.length) c3) w3 ∧ OwnK w3 U.heap.size (.slice (some ⟨g3, 0, none⟩) (a.length + 1 + b.length) c3) (a ++ x :: b) ∧ Below U.heap.size U w3 := by
  obtain ⟨g3, c3, w3, r3, o3, gr⟩ := app_lit U.heap.size h.own (hh.on h.b2) (by simp; omega) (by omega) h.b2.size (by simp; omega)
  have b3 := h.b2.grown gr h.b2.size (fun j hj => (h.own.lt j hj).1)
  have e : (a ++ [x] ++ b).length = a.length + 1 + b.length := by simp; omega
  rw [e] at r3 o3
  exact ⟨g3, c3, w3, r3, by simpa using o3, b3⟩
/-- The three worlds in which the appends begin. -/
theorem lit_first (U : World) (x : Lk) : OwnK ((U.drew.alloc (litK x)).alloc (.cells #[] 22)) U.heap.size (.slice (some ⟨U.heap.size + 1, 0, none⟩) 0 0) [] ∧ RowK ((U.drew.alloc (litK x)).alloc (.cells #[] 22)) (.slice (some ⟨U.heap.size, 0, none⟩) 1 1) [x] ∧ Below U.heap.size U ((U.drew.alloc (litK x)).alloc (.cells #[] 22)) := by
  have b0 : Below U.heap.size U (U.drew.alloc (litK x)) := (Below.refl _ _).drew.alloc (Nat.le_refl _) _
  have hs : (U.drew.alloc (litK x)).heap.size = U.heap.size + 1 := by simp
  have h1 := own_emptyK (U.drew.alloc (litK x)) U.heap.size b0.size
  rw [hs] at h1
  exact ⟨h1, (row_oneK U.drew x).on ((Below.refl _ _).alloc (Nat.le_refl _) _), b0.alloc b0.size _⟩
theorem lit_second (U : World) (x : Lk) : OwnK ((U.drew.alloc (.cells #[] 22)).alloc (litK x)) U.heap.size (.slice (some ⟨U.heap.size, 0, none⟩) 0 0) [] ∧ RowK ((U.drew.alloc (.cells #[] 22)).alloc (litK x)) (.slice (some ⟨U.heap.size + 1, 0, none⟩) 1 1) [x] ∧ Below U.heap.size U ((U.drew.alloc (.cells #[] 22)).alloc (litK x)) := by
  have b0 : Below U.heap.size U (U.drew.alloc (.cells #[] 22)) := (Below.refl _ _).drew.alloc (Nat.le_refl _) _
  have hs : (U.drew.alloc (.cells #[] 22)).heap.size = U.heap.size + 1 := by simp
  have h1 := row_oneK (U.drew.alloc (.cells #[] 22)) x
  rw [hs] at h1
  exact ⟨own_on (own_emptyK U.drew U.heap.size (Nat.le_refl _)) ((Below.refl _ _).alloc (Nat.le_refl _) _), h1, b0.alloc b0.size _⟩
end Go.Proofs.YtbnfndcbhnjnaaaDoor.Gr
