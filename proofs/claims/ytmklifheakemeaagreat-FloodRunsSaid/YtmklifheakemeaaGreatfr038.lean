/-
  The document's own Meets (package broadsideref1); its Make of two pred. Conditions as told.
-/
import Derived.Test.YtmklifheakemeaaGreatfr037
import Derived.Test.YtmklifheakemeaaGreatfr028
import Derived.Test.YtmklifheakemeaaGreatfr031
import Derived.Test.YtmklifheakemeaaGreatfr032
set_option maxRecDepth 100000
set_option maxHeartbeats 64000000
namespace Go.Proofs.YtmklifheakemeaaGreat.Rl
open Go.RowKit Go.Sort Pu Rw Pr Va
end Go.Proofs.YtmklifheakemeaaGreat.Rl
namespace Go.Proofs.YtmklifheakemeaaGreat.Bk
open Go.RowKit Go.Sort Rw YtmklifheakemeaaGreat.Nm Pr Rl
def meetsC (p q : List C5) : Bool := meetsB (p.map unR) (q.map unR)
def addStep (s : Br × List Ou) (mt : Bool) (e : En) (to_ : Int) : Br × List Ou := if mt = false then s else ((addB s.1 e).1,if (addB s.1 e).2 = true then s.2 ++ [subE to_ e] else s.2)
theorem addB_all {b : Br} {e : En} (R : En → Prop) (h : ∀ q ∈ b.ent,R q) (he : ∀ u,R { e with up := u }) : ∀ q ∈ (addB b e).1.ent,R q := by
 unfold addB
 split
 ·exact h
 ·split
  ·exact h
  ·split
   ·exact h
   ·split
    ·exact h
    ·intro q hq
     rcases List.mem_append.1 hq with h1 | h1
     ·rcases List.mem_append.1 h1 with h2 | h2
      ·exact h q (List.mem_of_mem_take h2)
      ·rw [List.mem_singleton.1 h2]
       exact he _
     ·exact h q (List.mem_of_mem_drop h1)
theorem addB_len (b : Br) (e : En) : (addB b e).1.ent.length ≤ b.ent.length + 1 := by
 unfold addB
 split
 ·exact Nat.le_succ _
 ·split
  ·exact Nat.le_succ _
  ·split
   ·exact Nat.le_succ _
   ·split
    ·exact Nat.le_succ _
    ·show (insAt _ _ _).length ≤ _
     unfold insAt
     rw [List.length_append,List.length_append,List.length_take,List.length_drop]
     simp
     omega
structure AdI (b0 b : Br) (k : Nat) : Prop where
 me : b.me = b0.me
 near : b.near = b0.near
 adv : b.adv = b0.adv
 seen : b.seen = b0.seen
 own : b.own = b0.own
 len : b.ent.length ≤ b0.ent.length + k
theorem AdI.add {b0 b : Br} {k : Nat} (h : AdI b0 b k) (e : En) : AdI b0 (addB b e).1 (k + 1) := by
 obtain ⟨h1,h2,h3,h4,h5⟩ := addB_same b e
 exact ⟨h1.trans h.me,h2.trans h.near,h3.trans h.adv,h4.trans h.seen,h5.trans h.own,by have := addB_len b e; have := h.len; omega⟩
theorem AdI.succ {b0 b : Br} {k : Nat} (h : AdI b0 b k) : AdI b0 b (k + 1) := ⟨h.me,h.near,h.adv,h.seen,h.own,by have := h.len; omega⟩
theorem AdI.step {b0 : Br} {s : Br × List Ou} {k : Nat} (h : AdI b0 s.1 k) (mt : Bool) (e : En) (t : Int) : AdI b0 (addStep s mt e t).1 (k + 1) := by
 unfold addStep
 split
 ·exact h.succ
 ·exact h.add e
theorem step_all {s : Br × List Ou} (mt : Bool) (e : En) (t : Int) (R : En → Prop) (h : ∀ q ∈ s.1.ent,R q) (he : ∀ u,R { e with up := u }) : ∀ q ∈ (addStep s mt e t).1.ent,R q := by
 unfold addStep
 split
 ·exact h
 ·exact addB_all R h he
theorem step_len {s : Br × List Ou} (mt : Bool) (e : En) (t : Int) : (addStep s mt e t).2.length ≤ s.2.length + 1 := by
 unfold addStep
 split
 ·exact Nat.le_succ _
 ·show (if _ then _ else _ : List Ou).length ≤ _
  split
  ·simp
  ·exact Nat.le_succ _
def foldK {α : Type} (l : List α) (f : Br × List Ou → α → Br × List Ou) (s0 : Br × List Ou) (k : Nat) : Br × List Ou := (l.take k).foldl f s0
theorem foldK_succ {α : Type} {l : List α} {k : Nat} {a : α} (f : Br × List Ou → α → Br × List Ou) (s0 : Br × List Ou) (h : l[k]? = some a) : foldK l f s0 (k + 1) = f (foldK l f s0 k) a := by
 unfold foldK
 rw [List.take_add_one,h,List.foldl_append]
 rfl
theorem foldK_ok {α : Type} {l : List α} {b0 : Br} {o0 : List Ou} (mt : α → Bool) (e : α → En) (t : α → Int) (R : En → Prop) (h0 : ∀ q ∈ b0.ent,R q) (hR : ∀ a ∈ l,∀ u,R { e a with up := u }) : ∀ k,k ≤ l.length → AdI b0 (foldK l (fun s a => addStep s (mt a) (e a) (t a)) (b0,o0) k).1 k ∧ (∀ q ∈ (foldK l (fun s a => addStep s (mt a) (e a) (t a)) (b0,o0) k).1.ent,R q) ∧ (foldK l (fun s a => addStep s (mt a) (e a) (t a)) (b0,o0) k).2.length ≤ o0.length + k
 | 0,_ => ⟨⟨rfl,rfl,rfl,rfl,rfl,Nat.le_refl _⟩,h0,Nat.le_refl _⟩
 | k + 1,hk => by
  obtain ⟨a,ha⟩ : ∃ a,l[k]? = some a := ⟨_,List.getElem?_eq_getElem hk⟩
  obtain ⟨h1,h2,h3⟩ := foldK_ok mt e t R h0 hR k (by omega) (o0 := o0)
  rw [foldK_succ _ _ ha]
  exact ⟨h1.step _ _ _,step_all _ _ _ R h2 (hR a (List.mem_of_getElem? ha)),Nat.le_trans (step_len _ _ _) (by omega)⟩
def othersO (near : List Int) (but kind : Int) (t x : Id) (p : List C5) : List Ou := (near.filter fun n => n != but).map fun n => ⟨n,kind,t,x,p⟩
abbrev advE (x : Id) (o : Ow) : En := ⟨x,o.id,o.p,-1,false⟩
abbrev advF (f : Int) (x : Id) (p : List C5) (s : Br × List Ou) (o : Ow) : Br × List Ou := addStep s (meetsC o.p p) (advE x o) f
def advB (b : Br) (f : Int) (x : Id) (p : List C5) : Br × List Ou := if (learnB b ⟨x,p,f⟩).2 = false then ((learnB b ⟨x,p,f⟩).1,[]) else
 foldK (learnB b ⟨x,p,f⟩).1.own (advF f x p) ((learnB b ⟨x,p,f⟩).1,othersO b.near f 1 x (0,0) p) (learnB b ⟨x,p,f⟩).1.own.length
theorem learn_same (b : Br) (a : Ad) : (learnB b a).1.me = b.me ∧ (learnB b a).1.near = b.near ∧ (learnB b a).1.ent = b.ent ∧ (learnB b a).1.own = b.own := by
 unfold learnB
 split <;> exact ⟨rfl,rfl,rfl,rfl⟩
theorem learn_len (b : Br) (a : Ad) : (learnB b a).1.adv.length ≤ b.adv.length + 1 ∧ (learnB b a).1.seen.length ≤ b.seen.length + 1 := by
 unfold learnB
 split
 ·exact ⟨Nat.le_succ _,Nat.le_succ _⟩
 ·constructor <;> (show (insAt _ _ _).length ≤ _; unfold insAt; rw [List.length_append,List.length_append,List.length_take,List.length_drop]; simp; omega)
end Go.Proofs.YtmklifheakemeaaGreat.Bk
namespace Go.Proofs.YtmklifheakemeaaGreat.Bk
open Go.RowKit Go.Sort Rw YtmklifheakemeaaGreat.Nm Pr
open Av
theorem mid_pred {W1 W : World} {k : Nat} {me : Int} {s1 s2 s3 s4 s5 : Sl} {v : Value} {p : List C5} (hb : Box W1 k (brcells me s1 s2 s3 s4 s5) 28) (hk : But k W1 W) (h : RowC W1 v p) : RowC W v p := row_keep okC h hk.1 (no_text hb (br_text me s1 s2 s3 s4 s5))
end Go.Proofs.YtmklifheakemeaaGreat.Bk
