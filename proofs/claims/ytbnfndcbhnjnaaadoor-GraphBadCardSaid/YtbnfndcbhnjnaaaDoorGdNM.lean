/-
  A map of rows of numbers, each row one's own: one number appended to one of them. Conditions: numbers of 64 bits; at most 900 in a row.
-/
import Derived.Test.YtbnfndcbhnjnaaaDoorBk
import Derived.Test.YtbnfndcbhnjnaaaDoorGdQueue
import Derived.Test.YtbnfndcbhnjnaaaDoorBl
namespace Go.Proofs.YtbnfndcbhnjnaaaDoor.Gr
open Go.RowKit Go.Sort Go.Proofs.YtbnfndcbhnjnaaaDoor Go.Proofs.YtbnfndcbhnjnaaaDoor.Rw

def updV (S : Int → Value) (k : Int) (v : Value) : Int → Value := fun j => if j = k then v else S j
def updZ (Z : Int → List Int) (k x : Int) : Int → List Int := fun j => if j = k then Z j ++ [x] else Z j
def fNM (S : Int → Value) (Z : Int → List Int) : Int → Option Value := fun v => if Z v = [] then none else some (S v)
/-- Block nb is a map of rows, each one's own, no two in one block. -/
structure NM (W : World) (B nb : Nat) (S : Int → Value) (Z : Int → List Int) (c : Nat) : Prop where
  map : MapF W nb (fNM S Z) c
  rows : ∀ v, QI W B (S v) (Z v)
  nil : ∀ v, Z v = [] → S v = .slice none 0 0
  apart : ∀ v u, v ≠ u → ∀ g, (S v).ownBlock = some g → (S u).ownBlock ≠ some g
theorem NM.on {W W' : World} {B nb : Nat} {S : Int → Value} {Z : Int → List Int} {c : Nat} (h : NM W B nb S Z c) (hb : Below W.heap.size W W') : NM W' B nb S Z c :=
  ⟨h.map.on hb, fun v => (h.rows v).on hb, h.nil, h.apart⟩
theorem nm_start (W : World) (B : Nat) : NM (W.alloc (.map #[] 0)) B W.heap.size (fun _ => .slice none 0 0) (fun _ => []) 0 :=
  ⟨mapF_made W, fun v => Or.inl ⟨rfl, rfl⟩, fun v _ => rfl, fun v u _ g h => (by cases h)⟩
/-- The blocks below B, but for one, are as they were. -/
structure Kp (B nb : Nat) (W W' : World) : Prop where
  os : W'.os = W.os
  tape : W'.tape = W.tape
  output : W'.output = W.output
  size : W.heap.size ≤ W'.heap.size
  block : ∀ k, k < B → k ≠ nb → W'.heap[k]? = W.heap[k]?
theorem Kp.refl (B nb : Nat) (W : World) : Kp B nb W W := ⟨rfl, rfl, rfl, Nat.le_refl _, fun _ _ _ => rfl⟩
theorem Kp.trans {B nb : Nat} {W W' W'' : World} (h : Kp B nb W W') (h' : Kp B nb W' W'') : Kp B nb W W'' :=
  ⟨h'.os.trans h.os, h'.tape.trans h.tape, h'.output.trans h.output, Nat.le_trans h.size h'.size, fun k h1 h2 => (h'.block k h1 h2).trans (h.block k h1 h2)⟩
theorem Kp.of_below {B nb : Nat} {W W' : World} (h : Below B W W') : Kp B nb W W' := ⟨h.os, h.tape, h.output, h.size, fun k h1 _ => h.block k h1⟩
theorem Kp.of_grown {B nb : Nat} {W W' : World} {row : Option Nat} (h : W.grownBy W' row) (hB : B ≤ W.heap.size) (hr : ∀ k, row = some k → B ≤ k ∨ k = nb) : Kp B nb W W' :=
  ⟨h.os, h.tape, h.output, h.size, fun k h1 h2 => h.block k (by omega) (fun e => by rcases hr k e.symm with h3 | h3 <;> omega)⟩
theorem Kp.grown {B nb : Nat} {W W' : World} (h : Kp B nb W W') (hB : W.heap.size ≤ B) : W.grownBy W' (some nb) :=
  ⟨h.os, h.tape, h.output, h.size, fun k h1 h2 => h.block k (by omega) (fun e => h2 (by rw [e]))⟩
theorem Kp.below {B b nb : Nat} {W W' : World} (h : Kp B nb W W') (hb : b ≤ B) (hn : b ≤ nb) : Below b W W' := ⟨h.os, h.tape, h.output, h.size, fun k h1 => h.block k (by omega) (by omega)⟩
theorem NM.val {W : World} {B nb : Nat} {S : Int → Value} {Z : Int → List Int} {c : Nat} (h : NM W B nb S Z c) (v : Int) : (fNM S Z v).getD (.slice none 0 0) = S v := by
  unfold fNM
  by_cases e : Z v = []
  · rw [if_pos e, h.nil v e]
    rfl
  · rw [if_neg e]
    rfl
theorem zeroIs (w : World) : (zeroValue 30).run Tryd.prog w = .ok (.slice none 0 0) w := by kernel_rfl
theorem NM.look {W : World} {B nb : Nat} {S : Int → Value} {Z : Int → List Int} {c : Nat} (h : NM W B nb S Z c) {v : Int} (hv : I64 v) : (Instr.lookup 79 (.map (some nb)) (.int .i64 v) false).run Tryd.prog W = .ok (S v) W := by
  have h1 := h.map.look Tryd.underlying79 zeroIs hv
  rw [h.val v] at h1
  exact h1
theorem QI.ne_box {W : World} {B b : Nat} {v : Value} {l : List Int} {cs : Array Value} {t : TypeId} (h : QI W B v l) (hb : Box W b cs t) (ht : t ≠ 3) : v.ownBlock ≠ some b := by
  intro e
  rcases h with ⟨h1, _⟩ | ⟨g, off, cap, cur, h1, h2, h3, h4⟩
  · rw [h1] at e; cases e
  · rw [h1] at e
    obtain rfl : g = b := by simpa [Value.ownBlock] using e
    unfold Box at h3 hb
    rw [hb] at h3
    simp only [Option.some.injEq, Obj.cells.injEq] at h3
    exact ht h3.2.1
theorem QI.ne_mapF {W : World} {B b : Nat} {v : Value} {l : List Int} {f : Int → Option Value} {s : Nat} (h : QI W B v l) (hb : MapF W b f s) : v.ownBlock ≠ some b := by
  obtain ⟨D, ⟨es, clock, h2, r⟩, h3⟩ := hb
  exact h.ne_map h2
theorem mapF_ne {W : World} {mb b : Nat} {f : Int → Option Value} {s : Nat} {cs : Array Value} {t : TypeId} (h : MapF W mb f s) (hb : Box W b cs t) : mb ≠ b := by
  rintro rfl
  obtain ⟨D, ⟨es, clock, h2, _⟩, _⟩ := h
  unfold Box at hb
  rw [hb] at h2
  cases h2
theorem NM.step {W : World} {B nb : Nat} {S : Int → Value} {Z : Int → List Int} {c : Nat} (h : NM W B nb S Z c) (v x : Int) (hv : I64 v) (hc : c ≤ 1000) (hz : (Z v).length ≤ 900) (hB : B ≤ W.heap.size) :
    ∃ g off n cap w2 w3 c', (Builtin.append_ #[30, 30] 30 #[S v, .slice (some ⟨W.heap.size, 0, none⟩) 1 1]).run Tryd.prog (W.alloc (.cells #[.int .i64 x] 3)) = .ok (.slice (some ⟨g, off, none⟩) n cap) w2 ∧
      (Instr.mapUpdate 79 (.map (some nb)) (.int .i64 v) (.slice (some ⟨g, off, none⟩) n cap)).run Tryd.prog w2 = .ok () w3 ∧ (W.alloc (.cells #[.int .i64 x] 3)).grownBy w2 (S v).ownBlock ∧
      NM w3 B nb (updV S v (.slice (some ⟨g, off, none⟩) n cap)) (updZ Z v x) c' ∧ c' ≤ c + 1 ∧ Kp B nb W w3 ∧ w2.grownBy w3 (some nb) := by
  obtain ⟨r, w2, hr, hq, hg, hblk, g, off, n, cap, rfl⟩ := app_q W B (S v) (Z v) x (h.rows v) hz hB
  have hb1 : Below W.heap.size W (W.alloc (.cells #[.int .i64 x] 3)) := (Below.refl _ _).alloc (Nat.le_refl _) _
  have hs1 : (W.alloc (.cells #[.int .i64 x] 3)).heap.size = W.heap.size + 1 := by simp
  have h1 := h.on hb1
  have bB : Below B W (W.alloc (.cells #[.int .i64 x] 3)) := (Below.refl _ _).alloc hB _
  generalize W.alloc (.cells #[.int .i64 x] 3) = W1 at *
  have m2 := h1.map.grown hg (fun e => (h1.rows v).ne_mapF h1.map e.symm)
  obtain ⟨w3, hu, hm3, hg3⟩ := m2.store Tryd.underlying79 hv (.slice (some ⟨g, off, none⟩) n cap) (by omega)
  have hnb := h.map.lt
  have rn : Value.ownBlock (.slice (some ⟨g, off, none⟩) n cap) ≠ some nb := hq.ne_mapF m2
  refine ⟨g, off, n, cap, w2, w3, (if (fNM S Z v).isSome = true then c else c + 1), hr, hu, hg, ⟨?_, ?_, ?_, ?_⟩, ?_, ?_, hg3⟩
  · have e : updF (fNM S Z) v (.slice (some ⟨g, off, none⟩) n cap) = fNM (updV S v (.slice (some ⟨g, off, none⟩) n cap)) (updZ Z v x) := by
      funext u
      unfold updF fNM updV updZ
      by_cases e : u = v
      · simp [e]
      · simp [e]
    rw [e] at hm3
    exact hm3
  · intro u
    unfold updV updZ
    by_cases e : u = v
    · subst e
      simp only [if_true]
      exact hq.kept hg3 (Or.inr rn)
    · simp only [e, if_false]
      have hq1 := h1.rows u
      have hq2 : QI w2 B (S u) (Z u) := by
        cases hb : (S u).ownBlock with
        | none => exact hq1.kept hg (Or.inl hb)
        | some gu => exact hq1.kept hg (Or.inr (by rw [hb]; exact fun e2 => h.apart v u (Ne.symm e) gu e2.symm hb))
      exact hq2.kept hg3 (Or.inr (hq2.ne_mapF m2))
  · intro u hu0
    unfold updV updZ at *
    by_cases e : u = v
    · simp [e] at hu0
    · simp only [e, if_false] at hu0 ⊢
      exact h.nil u hu0
  · intro a b hab gg h2 h3
    unfold updV at h2 h3
    by_cases ea : a = v
    · rw [if_pos ea] at h2
      rw [if_neg (fun e => hab (ea.trans e.symm))] at h3
      rcases hblk with hk | ⟨g5, hk, hge⟩
      · rw [hk] at h2
        exact h.apart v b (fun e => hab (ea.trans e)) gg h2 h3
      · rw [hk] at h2
        have := (h.rows b).lt gg h3
        obtain rfl : g5 = gg := by injection h2
        omega
    · rw [if_neg ea] at h2
      by_cases eb : b = v
      · rw [if_pos eb] at h3
        rcases hblk with hk | ⟨g5, hk, hge⟩
        · rw [hk] at h3
          exact h.apart a v ea gg h2 h3
        · rw [hk] at h3
          have := (h.rows a).lt gg h2
          obtain rfl : g5 = gg := by injection h3
          omega
      · rw [if_neg eb] at h3
        exact h.apart a b hab gg h2 h3
  · split <;> omega
  · have k1 : Kp B nb W W1 := Kp.of_below bB
    have hB1 : B ≤ W1.heap.size := by rw [hs1]; exact Nat.le_succ_of_le hB
    have k2 : Kp B nb W1 w2 := Kp.of_grown hg hB1 (fun j hj => Or.inl ((h.rows v).lt j hj).1)
    have k3 : Kp B nb w2 w3 := Kp.of_grown hg3 (Nat.le_trans hB1 hg.size) (fun j hj => Or.inr (Option.some.inj hj).symm)
    exact (k1.trans k2).trans k3
end Go.Proofs.YtbnfndcbhnjnaaaDoor.Gr
