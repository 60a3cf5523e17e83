/-
  Plain facts on predicates: constraints on one name, both of two, norma. Conditions as told.
-/
import Derived.Test.YtmklifheakemeaaGreatfr003
set_option maxRecDepth 100000
set_option maxHeartbeats 64000000
namespace Go.Proofs.YtmklifheakemeaaGreat.Pr
open Go.RowKit Pu
inductive Kd where
 | rg (lo hi : Int)
 | tx (t : ByteArray)
 | pr (t : ByteArray)
abbrev Cn := ByteArray × Kd
abbrev V3 := Bool × Int × ByteArray
def kN : Kd → Int
 | .rg _ _ => 1
 | .tx _ => 2
 | .pr _ => 3
def kLo : Kd → Int
 | .rg lo _ => lo
 | _ => 0
def kHi : Kd → Int
 | .rg _ hi => hi
 | _ => 0
def kT : Kd → ByteArray
 | .rg _ _ => ⟨#[]⟩
 | .tx t => t
 | .pr t => t
def pfx (s t : ByteArray) : Bool := s.data.toList.isPrefixOf t.data.toList
theorem pfx_iff (s t : ByteArray) : pfx s t = true ↔ s.data.toList <+: t.data.toList := List.isPrefixOf_iff_prefix
theorem pfx_self (s : ByteArray) : pfx s s = true := (pfx_iff s s).2 (List.prefix_refl _)
def goodK : Kd → Bool
 | .rg lo hi => decide (lo ≤ hi)
 | .tx t => decide (t.size ≤ 12)
 | .pr t => decide (t.size < 12)
def goodC (c : Cn) : Bool := nameB c.1 && goodK c.2
def holdsK : Kd → V3 → Bool
 | .rg lo hi,v => !v.1 && (decide (lo ≤ v.2.1) && decide (v.2.1 ≤ hi))
 | .tx t,v => v.1 && (v.2.2.data.toList == t.data.toList)
 | .pr t,v => v.1 && pfx t v.2.2
def bothK : Kd → Kd → Option Kd
 | .rg a b,.rg c d => if max a c ≤ min b d then some (.rg (max a c) (min b d)) else none
 | .tx s,.tx t => if s.data.toList = t.data.toList then some (.tx s) else none
 | .tx s,.pr t => if pfx t s then some (.tx s) else none
 | .pr s,.tx t => if pfx s t then some (.tx t) else none
 | .pr s,.pr t => if pfx s t then some (.pr t) else if pfx t s then some (.pr s) else none
 | _,_ => none
theorem bytes_eq {s t : ByteArray} (h : s.data.toList = t.data.toList) : s = t := WideShapes.bytes_inj h
theorem both_some (a b c : Kd) (ha : goodK a = true) (hb : goodK b = true) (h : bothK a b = some c) : goodK c = true ∧ ∀ v,holdsK c v = (holdsK a v && holdsK b v) := by
 cases a with
 | rg p q => cases b with
  | rg r s =>
   simp only [bothK] at h
   split at h
   ·rename_i hc
    obtain rfl := Option.some.inj h
    refine ⟨by simpa [goodK] using hc,fun v => ?_⟩
    obtain ⟨t,n,u⟩ := v
    cases t <;> simp only [holdsK,Bool.not_true,Bool.not_false,Bool.false_and,Bool.true_and]
    rw [Bool.eq_iff_iff]
    simp only [Bool.and_eq_true,decide_eq_true_eq]
    omega
   ·cases h
  | tx t => simp [bothK] at h
  | pr t => simp [bothK] at h
 | tx p => cases b with
  | rg r s => simp [bothK] at h
  | tx t =>
   simp only [bothK] at h
   split at h
   ·rename_i hc
    obtain rfl := Option.some.inj h
    exact ⟨ha,fun v => by simp [holdsK,hc]⟩
   ·cases h
  | pr t =>
   simp only [bothK] at h
   split at h
   ·rename_i hc
    obtain rfl := Option.some.inj h
    refine ⟨ha,fun v => ?_⟩
    rw [Bool.eq_iff_iff]
    simp only [holdsK,Bool.and_eq_true,beq_iff_eq]
    constructor
    ·rintro ⟨h1,h2⟩
     exact ⟨⟨h1,h2⟩,h1,by rw [pfx_iff,h2,← pfx_iff]; exact hc⟩
    ·rintro ⟨h1,_⟩
     exact h1
   ·cases h
 | pr p => cases b with
  | rg r s => simp [bothK] at h
  | tx t =>
   simp only [bothK] at h
   split at h
   ·rename_i hc
    obtain rfl := Option.some.inj h
    refine ⟨hb,fun v => ?_⟩
    rw [Bool.eq_iff_iff]
    simp only [holdsK,Bool.and_eq_true,beq_iff_eq]
    constructor
    ·rintro ⟨h1,h2⟩
     exact ⟨⟨h1,by rw [pfx_iff,h2,← pfx_iff]; exact hc⟩,h1,h2⟩
    ·rintro ⟨_,h1⟩
     exact h1
   ·cases h
  | pr t =>
   simp only [bothK] at h
   split at h
   ·rename_i hc
    obtain rfl := Option.some.inj h
    refine ⟨hb,fun v => ?_⟩
    rw [Bool.eq_iff_iff]
    simp only [holdsK,Bool.and_eq_true]
    constructor
    ·rintro ⟨h1,h2⟩
     exact ⟨⟨h1,(pfx_iff _ _).2 (((pfx_iff _ _).1 hc).trans ((pfx_iff _ _).1 h2))⟩,h1,h2⟩
    ·rintro ⟨_,h1⟩
     exact h1
   ·split at h
    ·rename_i _ hc
     obtain rfl := Option.some.inj h
     refine ⟨ha,fun v => ?_⟩
     rw [Bool.eq_iff_iff]
     simp only [holdsK,Bool.and_eq_true]
     constructor
     ·rintro ⟨h1,h2⟩
      exact ⟨⟨h1,h2⟩,h1,(pfx_iff _ _).2 (((pfx_iff _ _).1 hc).trans ((pfx_iff _ _).1 h2))⟩
     ·rintro ⟨h1,_⟩
      exact h1
    ·cases h
theorem both_none (a b : Kd) (h : bothK a b = none) (v : V3) : (holdsK a v && holdsK b v) = false := by
 obtain ⟨w,n,u⟩ := v
 rw [Bool.eq_false_iff]
 intro hv
 rw [Bool.and_eq_true] at hv
 obtain ⟨h1,h2⟩ := hv
 cases a with
 | rg p q => cases b with
  | rg r s =>
   simp only [bothK] at h
   split at h
   ·cases h
   ·rename_i hc
    simp only [holdsK,Bool.and_eq_true,decide_eq_true_eq] at h1 h2
    omega
  | tx t => simp only [holdsK,Bool.and_eq_true] at h1 h2; rw [h2.1] at h1; cases h1.1
  | pr t => simp only [holdsK,Bool.and_eq_true] at h1 h2; rw [h2.1] at h1; cases h1.1
 | tx p => cases b with
  | rg r s => simp only [holdsK,Bool.and_eq_true] at h1 h2; rw [h1.1] at h2; cases h2.1
  | tx t =>
   simp only [holdsK,Bool.and_eq_true,beq_iff_eq] at h1 h2
   simp only [bothK] at h
   rw [if_pos (h1.2.symm.trans h2.2)] at h
   cases h
  | pr t =>
   simp only [holdsK,Bool.and_eq_true,beq_iff_eq] at h1 h2
   simp only [bothK] at h
   rw [if_pos (by rw [pfx_iff,← h1.2,← pfx_iff]; exact h2.2)] at h
   cases h
 | pr p => cases b with
  | rg r s => simp only [holdsK,Bool.and_eq_true] at h1 h2; rw [h1.1] at h2; cases h2.1
  | tx t =>
   simp only [holdsK,Bool.and_eq_true,beq_iff_eq] at h1 h2
   simp only [bothK] at h
   rw [if_pos (by rw [pfx_iff,← h2.2,← pfx_iff]; exact h1.2)] at h
   cases h
  | pr t =>
   simp only [holdsK,Bool.and_eq_true] at h1 h2
   have e1 := (pfx_iff _ _).1 h1.2
   have e2 := (pfx_iff _ _).1 h2.2
   simp only [bothK] at h
   rcases Nat.le_total p.data.toList.length t.data.toList.length with hl | hl
   ·rw [if_pos ((pfx_iff _ _).2 (List.prefix_of_prefix_length_le e1 e2 hl))] at h
    cases h
   ·by_cases hp : pfx p t = true
    ·rw [if_pos hp] at h; cases h
    ·rw [if_neg hp,if_pos ((pfx_iff _ _).2 (List.prefix_of_prefix_length_le e2 e1 hl))] at h
     cases h
theorem some_holds (a : Kd) (h : goodK a = true) : ∃ v,holdsK a v = true := by
 cases a with
 | rg lo hi =>
  simp only [goodK,decide_eq_true_eq] at h
  exact ⟨(false,lo,⟨#[]⟩),by simp [holdsK,h]⟩
 | tx t => exact ⟨(true,0,t),by simp [holdsK]⟩
 | pr t => exact ⟨(true,0,t),by simp only [holdsK,Bool.true_and]; exact pfx_self t⟩
theorem hold_pr (t s : ByteArray) : holdsK (.pr t) (true,0,s) = pfx t s := by simp only [holdsK,Bool.true_and]
theorem hold_tx (t s : ByteArray) : holdsK (.tx t) (true,0,s) = (s.data.toList == t.data.toList) := by simp only [holdsK,Bool.true_and]
theorem hold_rg (a b : Int) (s : ByteArray) : holdsK (.rg a b) (true,0,s) = false := by simp only [holdsK,Bool.not_true,Bool.false_and]
theorem hold_n (a b n : Int) : holdsK (.rg a b) (false,n,⟨#[]⟩) = (decide (a ≤ n) && decide (n ≤ b)) := by simp only [holdsK,Bool.not_false,Bool.true_and]
def more (t : ByteArray) : ByteArray := ⟨(t.data.toList ++ [0]).toArray⟩
theorem pfx_more (t : ByteArray) : pfx t (more t) = true := (pfx_iff _ _).2 (List.prefix_append _ _)
theorem not_tx_pr (p t : ByteArray) (h : ∀ v,holdsK (.tx p) v = holdsK (.pr t) v) : False := by
 have h1 := h (true,0,more t)
 have h2 := h (true,0,t)
 rw [hold_tx,hold_pr,pfx_more,beq_iff_eq] at h1
 rw [hold_tx,hold_pr,pfx_self,beq_iff_eq] at h2
 rw [← h2] at h1
 have h3 := congrArg List.length h1
 simp [more] at h3
theorem same_holds (a b : Kd) (ha : goodK a = true) (hb : goodK b = true) (h : ∀ v,holdsK a v = holdsK b v) : a = b := by
 cases a with
 | rg p q => cases b with
  | rg r s =>
   simp only [goodK,decide_eq_true_eq] at ha hb
   have le : ∀ n,(p ≤ n ∧ n ≤ q) ↔ (r ≤ n ∧ n ≤ s) := fun n => by
    have h1 := h (false,n,⟨#[]⟩)
    rw [hold_n,hold_n,Bool.eq_iff_iff,Bool.and_eq_true,Bool.and_eq_true,decide_eq_true_eq,decide_eq_true_eq,decide_eq_true_eq,decide_eq_true_eq] at h1
    exact h1
   have h1 := (le p).1 ⟨Int.le_refl _,ha⟩
   have h2 := (le q).1 ⟨ha,Int.le_refl _⟩
   have h3 := (le r).2 ⟨Int.le_refl _,hb⟩
   have h4 := (le s).2 ⟨hb,Int.le_refl _⟩
   rw [show p = r by omega,show q = s by omega]
  | tx t => have h1 := h (true,0,t); rw [hold_rg,hold_tx,beq_self_eq_true] at h1; cases h1
  | pr t => have h1 := h (true,0,t); rw [hold_rg,hold_pr,pfx_self] at h1; cases h1
 | tx p => cases b with
  | rg r s => have h1 := h (true,0,p); rw [hold_rg,hold_tx,beq_self_eq_true] at h1; cases h1
  | tx t =>
   have h1 := h (true,0,p)
   rw [hold_tx,hold_tx,beq_self_eq_true] at h1
   rw [bytes_eq (beq_iff_eq.1 h1.symm)]
  | pr t => exact (not_tx_pr p t h).elim
 | pr p => cases b with
  | rg r s => have h1 := h (true,0,p); rw [hold_rg,hold_pr,pfx_self] at h1; cases h1
  | tx t => exact (not_tx_pr t p fun v => (h v).symm).elim
  | pr t =>
   have h1 := h (true,0,p)
   have h2 := h (true,0,t)
   rw [hold_pr,hold_pr,pfx_self] at h1 h2
   have e1 := (pfx_iff _ _).1 h1.symm
   have e2 := (pfx_iff _ _).1 h2
   rw [bytes_eq (e2.eq_of_length_le e1.length_le)]
/-! ### normal forms -/
def RiseC (l : List Cn) : Prop := l.Pairwise fun x y => Op.bytesLess x.1.toList y.1.toList = true
def insC : List Cn → Cn → Option (List Cn)
 | [],c => some [c]
 | x :: r,c => if Op.bytesLess x.1.toList c.1.toList = true then (insC r c).map (x :: ·) else if x.1 = c.1 then (bothK x.2 c.2).map (fun k => (x.1,k) :: r) else some (c :: x :: r)
def foldC : Nat → List Cn → List Cn → Except (Int × Nat) (List Cn)
 | _,m,[] => .ok m
 | at_,m,c :: r => match insC m c with
  | none => .error (5,at_)
  | some m' => if 5 < m'.length then .error (7,at_) else foldC (at_ + 1) m' r
def makeC (l : List Cn) : Except (Int × Nat) (List Cn) := foldC 0 [] l
theorem ins_end : ∀ (m : List Cn) (c : Cn),(∀ x ∈ m,Op.bytesLess x.1.toList c.1.toList = true) → insC m c = some (m ++ [c])
 | [],c,_ => rfl
 | x :: r,c,h => by
  simp only [insC]
  rw [if_pos (h x (List.mem_cons_self ..)),ins_end r c (fun y hy => h y (List.mem_cons_of_mem _ hy))]
  rfl
theorem fold_end : ∀ (p m : List Cn) (at_ : Nat),RiseC (m ++ p) → (m ++ p).length ≤ 5 → foldC at_ m p = .ok (m ++ p)
 | [],m,at_,_,_ => by simp [foldC]
 | c :: r,m,at_,h,h5 => by
  have h1 : ∀ x ∈ m,Op.bytesLess x.1.toList c.1.toList = true := fun x hx => (List.pairwise_append.1 h).2.2 x hx c (List.mem_cons_self ..)
  simp only [foldC]
  rw [ins_end m c h1]
  simp only
  rw [if_neg (by simp at h5 ⊢; omega),fold_end r (m ++ [c]) (at_ + 1) (by simpa using h) (by simpa using h5)]
  simp
theorem make_self (p : List Cn) (h : RiseC p) (h5 : p.length ≤ 5) : makeC p = .ok p := by
 have := fold_end p [] 0 (by simpa using h) (by simpa using h5)
 simpa [makeC] using this
theorem fold_append : ∀ (a b m m' : List Cn) (at_ : Nat),foldC at_ m a = .ok m' → foldC at_ m (a ++ b) = foldC (at_ + a.length) m' b
 | [],b,m,m',at_,h => by
  simp only [foldC] at h
  injection h with h
  subst h
  simp
 | c :: r,b,m,m',at_,h => by
  simp only [List.cons_append,foldC] at h ⊢
  cases hi : insC m c with
  | none => rw [hi] at h; cases h
  | some n =>
   rw [hi] at h
   simp only at h ⊢
   split at h
   ·cases h
   ·rename_i hn
    rw [if_neg hn,fold_append r b n m' (at_ + 1) h]
    rw [List.length_cons,show at_ + 1 + r.length = at_ + (r.length + 1) by omega]
theorem ins_rise : ∀ (m : List Cn) (c : Cn) (m' : List Cn),RiseC m → insC m c = some m' → RiseC m' ∧ ∀ y ∈ m',y.1 = c.1 ∨ ∃ x ∈ m,x.1 = y.1
 | [],c,m',_,h => by
  obtain rfl := Option.some.inj h
  exact ⟨List.pairwise_singleton _ _,fun y hy => Or.inl (by simp at hy; rw [hy])⟩
 | x :: r,c,m',hr,h => by
  obtain ⟨h1,h2⟩ := List.pairwise_cons.1 hr
  simp only [insC] at h
  split at h
  ·rename_i hl
   cases hi : insC r c with
   | none => rw [hi] at h; cases h
   | some n =>
    rw [hi] at h
    obtain rfl := Option.some.inj h
    obtain ⟨k1,k2⟩ := ins_rise r c n h2 hi
    refine ⟨List.pairwise_cons.2 ⟨fun y hy => ?_,k1⟩,fun y hy => ?_⟩
    ·rcases k2 y hy with e | ⟨z,hz,e⟩
     ·rw [e]; exact hl
     ·rw [← e]; exact h1 z hz
    ·rcases List.mem_cons.1 hy with rfl | hy
     ·exact Or.inr ⟨y,List.mem_cons_self ..,rfl⟩
     ·rcases k2 y hy with e | ⟨z,hz,e⟩
      ·exact Or.inl e
      ·exact Or.inr ⟨z,List.mem_cons_of_mem _ hz,e⟩
  ·rename_i hl
   split at h
   ·rename_i he
    cases hb : bothK x.2 c.2 with
    | none => rw [hb] at h; cases h
    | some k =>
     rw [hb] at h
     obtain rfl := Option.some.inj h
     refine ⟨List.pairwise_cons.2 ⟨fun y hy => h1 y hy,h2⟩,fun y hy => ?_⟩
     rcases List.mem_cons.1 hy with rfl | hy
     ·exact Or.inl he
     ·exact Or.inr ⟨y,List.mem_cons_of_mem _ hy,rfl⟩
   ·rename_i he
    obtain rfl := Option.some.inj h
    have hc : Op.bytesLess c.1.toList x.1.toList = true := less_or hl he
    refine ⟨List.pairwise_cons.2 ⟨fun y hy => ?_,hr⟩,fun y hy => ?_⟩
    ·rcases List.mem_cons.1 hy with rfl | hy
     ·exact hc
     ·exact VaP.bl_trans _ _ _ hc (h1 y hy)
    ·rcases List.mem_cons.1 hy with rfl | hy
     ·exact Or.inl rfl
     ·exact Or.inr ⟨y,hy,rfl⟩
/-! ### what they say -/
end Go.Proofs.YtmklifheakemeaaGreat.Pr
