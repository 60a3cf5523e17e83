/-
  Rows of elements of any kind: how they lie in memory, are read, cut, c. Conditions as told.
-/
import Derived.Test.YtmklifheakemeaaGreatProg
import Derived.WalkKit
import Derived.ProofKit
import Derived.Laws.AppendOwn
import Derived.Laws.OwnMore
import Derived.Laws.MakeOwn
import Derived.Laws.CopyRow
import Derived.Deep.Slices
import Derived.Deep.CutBlock
import Derived.Deep.Cut
set_option maxRecDepth 100000
set_option maxHeartbeats 64000000
namespace Go.Proofs.YtmklifheakemeaaGreat.Rw
open Go.RowKit
structure Ek (α : Type) where
 t : TypeId
 ts : TypeId
 n : Nat
 bytes : Nat
 z : Value
 val : α → Value
 cells : α → List Value
structure Ek.Ok {α : Type} (E : Ek α) : Prop where
 hu : Tryz.prog.underlying E.ts = some (.slice E.t)
 info : ∃ i,Tryz.prog.info? E.t = some i ∧ i.zero = some E.z ∧ i.size = E.n ∧ i.bytes = E.bytes
 zs : E.z.cells.size = E.n
 len : ∀ x,(E.cells x).length = E.n
 one : ∀ x,∀ u ∈ E.cells x,u.oneCell' = true
 pos : 0 < E.n
 few : E.bytes ≤ 100000
 load : ∀ (w : World) (p : Addr) (x : α),(∀ j u,(E.cells x)[j]? = some u → w.cell? (p.add j) = some u) → (Instr.loadAt E.t (.pointer (some p))).run Tryz.prog w = .ok (E.val x) w
variable {α : Type} {E : Ek α}
def flat (E : Ek α) : List α → List Value
 | [] => []
 | x :: r => E.cells x ++ flat E r
theorem flat_append : ∀ a b : List α,flat E (a ++ b) = flat E a ++ flat E b
 | [],b => rfl
 | x :: r,b => by simp [flat,flat_append r b]
theorem flat_one' (x : α) : flat E [x] = E.cells x := by simp [flat]
theorem flat_length (K : E.Ok) : ∀ l : List α,(flat E l).length = l.length * E.n
 | [] => by simp [flat]
 | x :: r => by simp [flat,flat_length K r,K.len x,Nat.add_mul]; omega
theorem flat_cell (K : E.Ok) : ∀ l : List α,∀ u ∈ flat E l,u.oneCell' = true
 | [],u,h => by cases h
 | x :: r,u,h => by
  simp only [flat,List.mem_append] at h
  rcases h with h | h
  ·exact K.one x u h
  ·exact flat_cell K r u h
theorem flat_at (K : E.Ok) : ∀ (l : List α) (m : Nat) (x : α),l[m]? = some x → ∀ j,j < E.n → (flat E l)[m * E.n + j]? = (E.cells x)[j]?
 | [],m,x,h,_,_ => by simp at h
 | y :: r,0,x,h,j,hj => by
  simp at h
  subst h
  simp only [flat]
  rw [Nat.zero_mul,Nat.zero_add,List.getElem?_append_left (by rw [K.len]; exact hj)]
 | y :: r,m + 1,x,h,j,hj => by
  have h2 := flat_at K r m x (by simpa using h) j hj
  simp only [flat]
  rw [List.getElem?_append_right (by rw [K.len,Nat.add_mul]; omega),K.len,show (m + 1) * E.n + j - E.n = m * E.n + j by rw [Nat.add_mul]; omega]
  exact h2
theorem add_add (a : Addr) (i j : Nat) : (a.add i).add j = a.add (i + j) := by
 unfold Addr.add
 by_cases hi : i = 0 <;> by_cases hj : j = 0 <;> simp [hi,hj,Nat.add_assoc]
theorem add_block (a : Addr) (i : Nat) : (a.add i).block = a.block := by unfold Addr.add; split <;> rfl
theorem add_own (g j : Nat) : (⟨g,0,none⟩ : Addr).add j = ⟨g,j,none⟩ := by unfold Addr.add; split <;> simp_all
theorem add_pos (p : Addr) (j : Nat) (h : j ≠ 0) : p.add j = ⟨p.block,p.off + j,none⟩ := by unfold Addr.add; rw [if_neg h]
theorem add_zero (p : Addr) : p.add 0 = p := by unfold Addr.add; simp
theorem lt_of_heap {w : World} {b : Nat} {o : Obj} (h : w.heap[b]? = some o) : b < w.heap.size := by
 rcases Nat.lt_or_ge b w.heap.size with h0 | h0
 ·exact h0
 ·simp [Array.getElem?_eq_none h0] at h
theorem grown_refl (w : World) (row : Option Nat) : w.grownBy w row := ⟨rfl,rfl,rfl,Nat.le_refl _,fun _ _ _ => rfl⟩
def Row (E : Ek α) (W : World) (v : Value) (l : List α) : Prop :=
 (l = [] ∧ v = .slice none 0 0) ∨ ∃ (a : Addr) (cap : Nat),v = .slice (some a) l.length cap ∧ l.length ≤ cap ∧ cap ≤ maxLen ∧ ∀ j u,(flat E l)[j]? = some u → W.cell? (a.add j) = some u
theorem Row.on {W W' : World} {v : Value} {l : List α} (h : Row E W v l) (hb : Below W.heap.size W W') : Row E W' v l := by
 rcases h with h | ⟨a,cap,h1,h2,h3,h5⟩
 ·exact Or.inl h
 ·exact Or.inr ⟨a,cap,h1,h2,h3,fun j u hj => by
   have hc := h5 j u hj
   rw [hb.cell (World.block_lt_of_cell? W _ hc)]; exact hc⟩
theorem Row.len {W : World} {v : Value} {l : List α} (h : Row E W v l) : ∃ ao cap,v = .slice ao l.length cap := by
 rcases h with ⟨rfl,rfl⟩ | ⟨a,cap,rfl,_⟩
 ·exact ⟨none,0,rfl⟩
 ·exact ⟨_,cap,rfl⟩
theorem Row.most {W : World} {v : Value} {l : List α} (h : Row E W v l) : l.length ≤ maxLen := by
 rcases h with ⟨rfl,rfl⟩ | ⟨a,cap,rfl,h1,h2,_⟩
 ·exact Nat.zero_le _
 ·omega
theorem row_nil (W : World) : Row E W (.slice none 0 0) ([] : List α) := Or.inl ⟨rfl,rfl⟩
abbrev Own (E : Ek α) (W : World) (B : Nat) (v : Value) (l : List α) : Prop := W.ownsRow B E.t E.n v l.length (flat E l)
theorem Row.of_own {W : World} {B : Nat} {v : Value} {l : List α} (h : Own E W B v l) : Row E W v l := by
 rcases h.2 with ⟨h1,h2⟩ | ⟨g,cap,cur,h1,h2,h3,h4,h5,h6,h7⟩
 ·exact Or.inl ⟨List.eq_nil_of_length_eq_zero h2,h1⟩
 ·exact Or.inr ⟨⟨g,0,none⟩,cap,h1,h4,h5,fun j u hj => h.cells (g := g) (by rw [h1]; rfl) j u hj⟩
theorem own_on {W W' : World} {B k : Nat} {e : TypeId} {v : Value} {n : Nat} {xs : List Value} (h : W.ownsRow B e k v n xs) (hb : Below W.heap.size W W') : W'.ownsRow B e k v n xs := by
 refine ⟨h.1,?_⟩
 rcases h.2 with h2 | ⟨g,cap,cur,h1,h2,h3,h4⟩
 ·exact Or.inl h2
 ·exact Or.inr ⟨g,cap,cur,h1,h2,by rw [hb.block _ (lt_of_heap h3)]; exact h3,h4⟩
theorem own_nil (W : World) (B : Nat) : Own E W B (.slice none 0 0) ([] : List α) := World.ownsRow_nil _ _ _ _
theorem index_run (K : E.Ok) (a : Addr) (m len cap : Nat) (h : m < len) (w : World) : (Instr.indexAt E.ts (.slice (some a) len cap) (.int .i64 m)).run Tryz.prog w = .ok (.pointer (some (a.add (m * E.n)))) w := by
 have h1 : (m : Int) < len := by omega
 obtain ⟨i,i1,i2,i3,i4⟩ := K.info
 simp [go_sem,K.hu,sizeOf,typeInfo,h1,i1,i3]
theorem index_own (K : E.Ok) (g m len cap : Nat) (h : m < len) (w : World) : (Instr.indexAt E.ts (.slice (some ⟨g,0,none⟩) len cap) (.int .i64 m)).run Tryz.prog w = .ok (.pointer (some ⟨g,m * E.n,none⟩)) w := by
 rw [index_run K ⟨g,0,none⟩ m len cap h w,add_own]
theorem row_el (K : E.Ok) {W : World} {v : Value} {l : List α} {ao : Option Addr} {n c k : Nat} {x : α} (h : Row E W v l) (hv : v = .slice ao n c) (hn : l.length = n) (hk : l[k]? = some x) :
  ∃ p : Addr,(∀ w,(Instr.indexAt E.ts (.slice ao n c) (.int .i64 k)).run Tryz.prog w = .ok (.pointer (some p)) w) ∧ p.block < W.heap.size ∧ ∀ w,Below W.heap.size W w → ∀ j u,(E.cells x)[j]? = some u → w.cell? (p.add j) = some u := by
 have hlt := (List.getElem?_eq_some_iff.1 hk).1
 rcases h with ⟨rfl,_⟩ | ⟨a,cap,h1,h2,h3,h4⟩
 ·simp at hk
 ·rw [hv] at h1
  obtain ⟨rfl,rfl,rfl⟩ : ao = some a ∧ n = l.length ∧ c = cap := by simpa using h1
  have g : ∀ j u,(E.cells x)[j]? = some u → W.cell? ((a.add (k * E.n)).add j) = some u := fun j u hj => by
   have hjn : j < E.n := by have := (List.getElem?_eq_some_iff.1 hj).1; rw [K.len] at this; exact this
   rw [add_add]
   exact h4 _ u ((flat_at K l k x hk j hjn).trans hj)
  have hp := K.pos
  have hb : (a.add (k * E.n)).block < W.heap.size := by
   obtain ⟨u,hu⟩ : ∃ u,(E.cells x)[0]? = some u := ⟨_,List.getElem?_eq_getElem (by rw [K.len]; exact hp)⟩
   have := World.block_lt_of_cell? W _ (g 0 u hu)
   rwa [add_zero] at this
  exact ⟨a.add (k * E.n),fun w => index_run K a k _ _ hlt w,hb,fun w hw j u hj => by
   rw [hw.cell (by rw [add_block]; exact hb)]
   exact g j u hj⟩
theorem slice_lo (K : E.Ok) (a : Addr) (k len cap : Nat) (h : k ≤ cap) (w : World) : (Instr.sliceAt E.ts (.slice (some a) len cap) none (some (.int .i64 k)) none).run Tryz.prog w = .ok (.slice (some a) k cap) w := by
 have h1 : (k : Int) ≤ cap := by omega
 obtain ⟨i,i1,i2,i3,i4⟩ := K.info
 simp [go_sem,K.hu,sizeOf,typeInfo,h1,i1,i3]
theorem slice_hi (K : E.Ok) (a : Addr) (k len cap : Nat) (h : k ≤ len) (w : World) : (Instr.sliceAt E.ts (.slice (some a) len cap) (some (.int .i64 k)) none none).run Tryz.prog w = .ok (.slice (some (if cap = k then a else a.add (k * E.n))) (len - k) (cap - k)) w := by
 have h1 : (k : Int) ≤ len := by omega
 obtain ⟨i,i1,i2,i3,i4⟩ := K.info
 by_cases he : cap = k
 ·subst he
  simp [go_sem,K.hu,sizeOf,typeInfo,h1,i1,i3]
 ·simp [go_sem,K.hu,sizeOf,typeInfo,h1,he,i1,i3]
theorem row_hi (K : E.Ok) {W : World} {v : Value} {l : List α} (h : Row E W v l) (k : Nat) (hk : k ≤ l.length) : ∃ hi,(∀ w,(Instr.sliceAt E.ts v (some (.int .i64 k)) none none).run Tryz.prog w = .ok hi w) ∧ Row E W hi (l.drop k) := by
 rcases h with ⟨rfl,rfl⟩ | ⟨a,cap,rfl,h2,h3,h4⟩
 ·obtain rfl : k = 0 := by simpa using hk
  obtain ⟨i,i1,i2,i3,i4⟩ := K.info
  exact ⟨.slice none 0 0,fun w => by simp [go_sem,K.hu,sizeOf,typeInfo,i1],Or.inl ⟨rfl,rfl⟩⟩
 ·refine ⟨_,slice_hi K a k _ _ hk,Or.inr ⟨_,cap - k,by rw [List.length_drop],by rw [List.length_drop]; omega,by omega,fun j u hj => ?_⟩⟩
  have hlt := (List.getElem?_eq_some_iff.1 hj).1
  have hne : (l.drop k) ≠ [] := by rintro e; rw [e] at hlt; simp [flat] at hlt
  have hlk : k < l.length := by
   rcases Nat.lt_or_ge k l.length with h0 | h0
   ·exact h0
   ·exact absurd (List.drop_eq_nil_of_le h0) hne
  rw [if_neg (by omega),add_add]
  refine h4 _ u ?_
  conv => lhs; rw [← List.take_append_drop k l,flat_append]
  rw [List.getElem?_append_right (by rw [flat_length K,List.length_take,Nat.min_eq_left hk]; omega),flat_length K,List.length_take,Nat.min_eq_left hk,show k * E.n + j - k * E.n = j by omega]
  exact hj
theorem app_row (K : E.Ok) {w : World} (B : Nat) {v x : Value} {l m : List α} (hown : Own E w B v l) (hx : Row E w x m) (hn : l.length ≤ 1000) (hm : m.length ≤ 1000) (hB : B ≤ w.heap.size) (ty : TypeId) :
  ∃ v' w',(Builtin.append_ #[E.ts,E.ts] ty #[v,x]).run Tryz.prog w = .ok v' w' ∧ Own E w' B v' (l ++ m) ∧ w.grownBy w' v.ownBlock := by
 obtain ⟨i,i1,i2,i3,i4⟩ := K.info
 rcases hx with ⟨rfl,rfl⟩ | ⟨ad,c,rfl,h2,h3,h4⟩
 ·exact ⟨v,w,run_append_owned_none (P := Tryz.prog) (w := w) B E.ts ty E.t i E.n K.hu i1 v _ _ hown,by simpa using hown,grown_refl _ _⟩
 ·have hf := K.few
  obtain ⟨v',w',r1,r2,r3,_⟩ := run_append_own (P := Tryz.prog) w B E.ts ty E.t i E.z E.n E.bytes K.hu i1 i2 i3 i4 K.zs K.pos v _ _ hown ad m.length c (flat E m) (flat_length K m) h4 (flat_cell K m) (by unfold maxLen; omega)
   (Nat.le_trans (Nat.mul_le_mul (show l.length + m.length ≤ 2000 by omega) hf) (by decide)) hB
  exact ⟨v',w',r1,by rw [Own,List.length_append,flat_append]; exact r2,r3⟩
theorem row_lit (K : E.Ok) (w : World) (l : List α) (n : Nat) (hn : n = l.length) (hl : l.length ≤ 1000) (cs : Array Value) (hcs : cs.toList = flat E l) : Own E (w.alloc (.cells cs E.t)) w.heap.size (.slice (some ⟨w.heap.size,0,none⟩) n n) l := by
 subst hn
 have hsz : cs.size = l.length * E.n := by rw [← flat_length K,← hcs,Array.length_toList]
 refine ⟨flat_length K l,Or.inr ⟨w.heap.size,l.length,cs,rfl,Nat.le_refl _,?_,Nat.le_refl _,by unfold maxLen; omega,hsz,?_⟩⟩
 ·show (w.heap.push _)[w.heap.size]? = _
  simp
 ·rw [← hcs,List.take_of_length_le (by rw [Array.length_toList,hsz]; exact Nat.le_refl _)]
def Box (W : World) (b : Nat) (cs : Array Value) (t : TypeId) : Prop := W.heap[b]? = some (.cells cs t (0,0))
theorem Box.cell {W : World} {b : Nat} {cs : Array Value} {t : TypeId} (h : Box W b cs t) (k : Nat) : W.cell? ⟨b,k,none⟩ = cs[k]? := by
 unfold Box at h
 simp [World.cell?,h]
theorem Box.fr {W : World} {b : Nat} {cs : Array Value} {t : TypeId} (h : Box W b cs t) (k : Nat) : W.frozen? ⟨b,k,none⟩ = false := by
 unfold Box at h
 simp [World.frozen?,h]
theorem Box.cs2 {W : World} {b : Nat} {t : TypeId} {a0 a1 : Value} (h : Box W b #[a0,a1] t) : W.cell? ⟨b,0,none⟩ = some a0 ∧ W.cell? ⟨b,1,none⟩ = some a1 := ⟨h.cell 0,h.cell 1⟩
theorem Box.cs3 {W : World} {b : Nat} {t : TypeId} {a0 a1 a2 : Value} (h : Box W b #[a0,a1,a2] t) : W.cell? ⟨b,0,none⟩ = some a0 ∧ W.cell? ⟨b,1,none⟩ = some a1 ∧ W.cell? ⟨b,2,none⟩ = some a2 := ⟨h.cell 0,h.cell 1,h.cell 2⟩
theorem Box.cs4 {W : World} {b : Nat} {t : TypeId} {a0 a1 a2 a3 : Value} (h : Box W b #[a0,a1,a2,a3] t) : W.cell? ⟨b,0,none⟩ = some a0 ∧ W.cell? ⟨b,1,none⟩ = some a1 ∧ W.cell? ⟨b,2,none⟩ = some a2 ∧ W.cell? ⟨b,3,none⟩ = some a3 := ⟨h.cell 0,h.cell 1,h.cell 2,h.cell 3⟩
theorem Box.cs5 {W : World} {b : Nat} {t : TypeId} {a0 a1 a2 a3 a4 : Value} (h : Box W b #[a0,a1,a2,a3,a4] t) : W.cell? ⟨b,0,none⟩ = some a0 ∧ W.cell? ⟨b,1,none⟩ = some a1 ∧ W.cell? ⟨b,2,none⟩ = some a2 ∧ W.cell? ⟨b,3,none⟩ = some a3 ∧ W.cell? ⟨b,4,none⟩ = some a4 := ⟨h.cell 0,h.cell 1,h.cell 2,h.cell 3,h.cell 4⟩
theorem Box.cs6 {W : World} {b : Nat} {t : TypeId} {a0 a1 a2 a3 a4 a5 : Value} (h : Box W b #[a0,a1,a2,a3,a4,a5] t) : W.cell? ⟨b,0,none⟩ = some a0 ∧ W.cell? ⟨b,1,none⟩ = some a1 ∧ W.cell? ⟨b,2,none⟩ = some a2 ∧ W.cell? ⟨b,3,none⟩ = some a3 ∧ W.cell? ⟨b,4,none⟩ = some a4 ∧ W.cell? ⟨b,5,none⟩ = some a5 := ⟨h.cell 0,h.cell 1,h.cell 2,h.cell 3,h.cell 4,h.cell 5⟩
theorem Box.cs7 {W : World} {b : Nat} {t : TypeId} {a0 a1 a2 a3 a4 a5 a6 : Value} (h : Box W b #[a0,a1,a2,a3,a4,a5,a6] t) : W.cell? ⟨b,0,none⟩ = some a0 ∧ W.cell? ⟨b,1,none⟩ = some a1 ∧ W.cell? ⟨b,2,none⟩ = some a2 ∧ W.cell? ⟨b,3,none⟩ = some a3 ∧ W.cell? ⟨b,4,none⟩ = some a4 ∧ W.cell? ⟨b,5,none⟩ = some a5 ∧ W.cell? ⟨b,6,none⟩ = some a6 := ⟨h.cell 0,h.cell 1,h.cell 2,h.cell 3,h.cell 4,h.cell 5,h.cell 6⟩
theorem Box.fs2 {W : World} {b : Nat} {cs : Array Value} {t : TypeId} (h : Box W b cs t) : W.frozen? ⟨b,0,none⟩ = false ∧ W.frozen? ⟨b,1,none⟩ = false := ⟨h.fr 0,h.fr 1⟩
theorem Box.fs4 {W : World} {b : Nat} {cs : Array Value} {t : TypeId} (h : Box W b cs t) : W.frozen? ⟨b,0,none⟩ = false ∧ W.frozen? ⟨b,1,none⟩ = false ∧ W.frozen? ⟨b,2,none⟩ = false ∧ W.frozen? ⟨b,3,none⟩ = false := ⟨h.fr 0,h.fr 1,h.fr 2,h.fr 3⟩
theorem Box.fs6 {W : World} {b : Nat} {cs : Array Value} {t : TypeId} (h : Box W b cs t) : W.frozen? ⟨b,0,none⟩ = false ∧ W.frozen? ⟨b,1,none⟩ = false ∧ W.frozen? ⟨b,2,none⟩ = false ∧ W.frozen? ⟨b,3,none⟩ = false ∧ W.frozen? ⟨b,4,none⟩ = false ∧ W.frozen? ⟨b,5,none⟩ = false := ⟨h.fr 0,h.fr 1,h.fr 2,h.fr 3,h.fr 4,h.fr 5⟩
theorem Box.fs7 {W : World} {b : Nat} {cs : Array Value} {t : TypeId} (h : Box W b cs t) : W.frozen? ⟨b,0,none⟩ = false ∧ W.frozen? ⟨b,1,none⟩ = false ∧ W.frozen? ⟨b,2,none⟩ = false ∧ W.frozen? ⟨b,3,none⟩ = false ∧ W.frozen? ⟨b,4,none⟩ = false ∧ W.frozen? ⟨b,5,none⟩ = false ∧ W.frozen? ⟨b,6,none⟩ = false := ⟨h.fr 0,h.fr 1,h.fr 2,h.fr 3,h.fr 4,h.fr 5,h.fr 6⟩
theorem Box.lt {W : World} {b : Nat} {cs : Array Value} {t : TypeId} (h : Box W b cs t) : b < W.heap.size := lt_of_heap h
theorem Box.on {W W' : World} {b : Nat} {cs : Array Value} {t : TypeId} (h : Box W b cs t) (hb : Below W.heap.size W W') : Box W' b cs t := by
 have hl := h.lt
 unfold Box at *
 rw [hb.block _ hl]; exact h
theorem Box.more {W : World} {b : Nat} {cs : Array Value} {t : TypeId} (h : Box W b cs t) (o : Obj) : Box (W.alloc o) b cs t := h.on ((Below.refl _ _).alloc (Nat.le_refl _) _)
theorem box_new (W : World) (cs : Array Value) (t : TypeId) : Box (W.alloc (.cells cs t)) W.heap.size cs t := by
 unfold Box
 show (W.heap.push _)[W.heap.size]? = _
 simp
theorem wpList_append_run {P : Program} {ops : Array Oper} {rest : List Oper} {o : Oper} {a : Act} {Q : Exit → Act → World → Prop} {w w' : World} (hgd : o.guard = none) (s x : Operand) (t : TypeId)
  (ho : o.op = .call { callee := .builtin .append,args := #[s,x],argTypes := #[t,t] }) {v xv v' : Value} (hs : a.eval s = v) (hx : a.eval x = xv) (hr : (Builtin.append_ #[t,t] o.type #[v,xv]).run P w = .ok v' w')
  (h : wpList P ops Q rest (a.put o.dst v') w') : wpList P ops Q (o :: rest) a w := by
 refine wpList_plain hgd fun K hK => ?_
 unfold Oper.wp execOp
 simp only [ho,resolve,invoke,builtin,Sem.run_bind,Sem.run_pure,Result.andThen_ok,List.map_toArray,List.map_cons,List.map_nil,hs,hx,hr]
 exact hK _ _ h
def findBlock (k : Nat) : Code → Option Code
 | .block id c => if id = k then some (.block id c) else findBlock k c
 | .seq a b => match findBlock k a with
  | some c => some c
  | none => findBlock k b
 | .cond _ a b => match findBlock k a with
  | some c => some c
  | none => findBlock k b
 | .loop c => findBlock k c
 | .scope c => findBlock k c
 | _ => none
def findRegion (k : Nat) : Code → Option Code
 | .region id ops d => if id = k then some (.region id ops d) else none
 | .seq a b => match findRegion k a with
  | some c => some c
  | none => findRegion k b
 | .cond _ a b => match findRegion k a with
  | some c => some c
  | none => findRegion k b
 | .block _ c => findRegion k c
 | .loop c => findRegion k c
 | .scope c => findRegion k c
 | _ => none
end Go.Proofs.YtmklifheakemeaaGreat.Rw
