/-
  Plain facts on predicates: constraints on one name, both of two, norma. Conditions as told.
-/
import Derived.Test.YtncogjpmboglhaaGreatQ003
set_option maxRecDepth 100000
set_option maxHeartbeats 64000000
namespace Go.Proofs.YtncogjpmboglhaaGreat.Pr
open Go.RowKit Pu
inductive Kd where
 | rg (lo hi : Int)
 | tx (t : ByteArray)
 | pr (t : ByteArray)
abbrev Cn := ByteArray × Kd
abbrev V3 := Bool × Int × ByteArray
def kN : Kd → Int
 | .rg _ _ => 1
 | .tx _ => 2
 | .pr _ => 3
def kLo : Kd → Int
 | .rg lo _ => lo
 | _ => 0
def kHi : Kd → Int
 | .rg _ hi => hi
 | _ => 0
def kT : Kd → ByteArray
 | .rg _ _ => ⟨#[]⟩
 | .tx t => t
 | .pr t => t
def pfx (s t : ByteArray) : Bool := s.data.toList.isPrefixOf t.data.toList
theorem pfx_iff (s t : ByteArray) : pfx s t = true ↔ s.data.toList <+: t.data.toList := List.isPrefixOf_iff_prefix
theorem pfx_self (s : ByteArray) : pfx s s = true := (pfx_iff s s).2 (List.prefix_refl _)
def goodK : Kd → Bool
 | .rg lo hi => decide (lo ≤ hi)
 | .tx t => decide (t.size ≤ 12)
 | .pr t => decide (t.size < 12)
def goodC (c : Cn) : Bool := nameB c.1 && goodK c.2
def holdsK : Kd → V3 → Bool
 | .rg lo hi,v => !v.1 && (decide (lo ≤ v.2.1) && decide (v.2.1 ≤ hi))
 | .tx t,v => v.1 && (v.2.2.data.toList == t.data.toList)
 | .pr t,v => v.1 && pfx t v.2.2
def bothK : Kd → Kd → Option Kd
 | .rg a b,.rg c d => if max a c ≤ min b d then some (.rg (max a c) (min b d)) else none
 | .tx s,.tx t => if s.data.toList = t.data.toList then some (.tx s) else none
 | .tx s,.pr t => if pfx t s then some (.tx s) else none
 | .pr s,.tx t => if pfx s t then some (.tx t) else none
 | .pr s,.pr t => if pfx s t then some (.pr t) else if pfx t s then some (.pr s) else none
 | _,_ => none
theorem bytes_eq {s t : ByteArray} (h : s.data.toList = t.data.toList) : s = t := WideShapes.bytes_inj h
theorem hold_pr (t s : ByteArray) : holdsK (.pr t) (true,0,s) = pfx t s := by simp only [holdsK,Bool.true_and]
theorem hold_tx (t s : ByteArray) : holdsK (.tx t) (true,0,s) = (s.data.toList == t.data.toList) := by simp only [holdsK,Bool.true_and]
/-! ### normal forms -/
def RiseC (l : List Cn) : Prop := l.Pairwise fun x y => Op.bytesLess x.1.toList y.1.toList = true
def insC : List Cn → Cn → Option (List Cn)
 | [],c => some [c]
 | x :: r,c => if Op.bytesLess x.1.toList c.1.toList = true then (insC r c).map (x :: ·) else if x.1 = c.1 then (bothK x.2 c.2).map (fun k => (x.1,k) :: r) else some (c :: x :: r)
def foldC : Nat → List Cn → List Cn → Except (Int × Nat) (List Cn)
 | _,m,[] => .ok m
 | at_,m,c :: r => match insC m c with
  | none => .error (5,at_)
  | some m' => if 5 < m'.length then .error (7,at_) else foldC (at_ + 1) m' r
theorem ins_end : ∀ (m : List Cn) (c : Cn),(∀ x ∈ m,Op.bytesLess x.1.toList c.1.toList = true) → insC m c = some (m ++ [c])
 | [],c,_ => rfl
 | x :: r,c,h => by
  simp only [insC]
  rw [if_pos (h x (List.mem_cons_self ..)),ins_end r c (fun y hy => h y (List.mem_cons_of_mem _ hy))]
  rfl
theorem ins_rise : ∀ (m : List Cn) (c : Cn) (m' : List Cn),RiseC m → insC m c = some m' → RiseC m' ∧ ∀ y ∈ m',y.1 = c.1 ∨ ∃ x ∈ m,x.1 = y.1
 | [],c,m',_,h => by
  obtain rfl := Option.some.inj h
  exact ⟨List.pairwise_singleton _ _,fun y hy => Or.inl (by simp at hy; rw [hy])⟩
 | x :: r,c,m',hr,h => by
  obtain ⟨h1,h2⟩ := List.pairwise_cons.1 hr
  simp only [insC] at h
  split at h
  ·rename_i hl
   cases hi : insC r c with
   | none => rw [hi] at h; cases h
   | some n =>
    rw [hi] at h
    obtain rfl := Option.some.inj h
    obtain ⟨k1,k2⟩ := ins_rise r c n h2 hi
    refine ⟨List.pairwise_cons.2 ⟨fun y hy => ?_,k1⟩,fun y hy => ?_⟩
    ·rcases k2 y hy with e | ⟨z,hz,e⟩
     ·rw [e]; exact hl
     ·rw [← e]; exact h1 z hz
    ·rcases List.mem_cons.1 hy with rfl | hy
     ·exact Or.inr ⟨y,List.mem_cons_self ..,rfl⟩
     ·rcases k2 y hy with e | ⟨z,hz,e⟩
      ·exact Or.inl e
      ·exact Or.inr ⟨z,List.mem_cons_of_mem _ hz,e⟩
  ·rename_i hl
   split at h
   ·rename_i he
    cases hb : bothK x.2 c.2 with
    | none => rw [hb] at h; cases h
    | some k =>
     rw [hb] at h
     obtain rfl := Option.some.inj h
     refine ⟨List.pairwise_cons.2 ⟨fun y hy => h1 y hy,h2⟩,fun y hy => ?_⟩
     rcases List.mem_cons.1 hy with rfl | hy
     ·exact Or.inl he
     ·exact Or.inr ⟨y,List.mem_cons_of_mem _ hy,rfl⟩
   ·rename_i he
    obtain rfl := Option.some.inj h
    have hc : Op.bytesLess c.1.toList x.1.toList = true := less_or hl he
    refine ⟨List.pairwise_cons.2 ⟨fun y hy => ?_,hr⟩,fun y hy => ?_⟩
    ·rcases List.mem_cons.1 hy with rfl | hy
     ·exact hc
     ·exact VaP.bl_trans _ _ _ hc (h1 y hy)
    ·rcases List.mem_cons.1 hy with rfl | hy
     ·exact Or.inl rfl
     ·exact Or.inr ⟨y,hy,rfl⟩
/-! ### what they say -/
end Go.Proofs.YtncogjpmboglhaaGreat.Pr
