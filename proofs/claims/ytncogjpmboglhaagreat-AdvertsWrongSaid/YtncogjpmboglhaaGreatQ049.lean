/-
  A broker that steps made, turned in one thing: it is not right, nor th. Conditions as told.
-/
import Derived.Test.YtncogjpmboglhaaGreatQ048
set_option maxRecDepth 100000
set_option maxHeartbeats 64000000
namespace Go.Proofs.YtncogjpmboglhaaGreat.Av
open Go.RowKit Go.Sort Rw YtncogjpmboglhaaGreat.Nm Pr Bk
theorem predOk_len {p : List C5} (h : PredOk p) : p.length ≤ 5 := by
 obtain ⟨a,na,rfl⟩ := h
 rw [List.length_map]
 exact na.five
theorem KI.few {b : Br} (h : KI 12 b) : Few b := ⟨Nat.le_trans h.ln (by decide),Nat.le_trans h.la (by decide),Nat.le_trans h.ls (by decide),Nat.le_trans h.le (by decide),Nat.le_trans h.lo (by decide)⟩
theorem KI.fewp {b : Br} (h : KI 12 b) : FewP b := ⟨fun a q => Nat.le_trans (predOk_len (h.pa a q)) (by decide),fun a q => Nat.le_trans (predOk_len (h.pe a q)) (by decide),fun a q => Nat.le_trans (predOk_len (h.po a q)) (by decide)⟩
theorem okEn_right {b : Br} {e : En} (h : okEn b e = true) : Wr.rightP e.p = true := by
 unfold okEn at h
 split at h
 ·cases h
 ·simp only [Bool.and_eq_true] at h
  exact h.2.2.2
theorem KI.tame {b : Br} (h : KI 12 b) : TameB b := ⟨fun a q => tame_right (h.ok.oks a q).2.2,fun e q => tame_right (okEn_right (h.ok.oke e q)),fun o q => tame_right (h.ok.oko o q)⟩
structure Trn (b c : Br) : Prop where
 few : Few c
 fewp : FewP c
 tame : TameB c
 bad : okBr c = false
 ne : c ≠ b
theorem Trn.s1 {b c : Br} (h : Trn b c) : sameBr c b = false := by
 cases q : sameBr c b with
 | false => rfl
 | true => exact absurd ((sameBr_iff _ _).1 q) h.ne
theorem Trn.s2 {b c : Br} (h : Trn b c) : sameBr b c = false := by
 cases q : sameBr b c with
 | false => rfl
 | true => exact absurd ((sameBr_iff _ _).1 q).symm h.ne
theorem bad_of {c : Br} (h : ¬ OkBr c) : okBr c = false := by
 cases q : okBr c with
 | false => rfl
 | true => exact absurd ((okBr_iff c).1 q) h
abbrev z5 : C5 := (⟨#[]⟩,0,0,0,⟨#[]⟩)
theorem all_app {α : Type} {P : α → Prop} {l m : List α} (h1 : ∀ x ∈ l,P x) (h2 : ∀ x ∈ m,P x) : ∀ x ∈ l ++ m,P x := fun x hx => by
 rcases List.mem_append.1 hx with h | h
 ·exact h1 x h
 ·exact h2 x h
abbrev c0 (b : Br) (z : Int) : Br := { b with near := b.near ++ [z] }
abbrev c1 (b : Br) : Br := { b with adv := b.adv ++ [⟨(99,0),[],-1⟩] }
abbrev c2 (b : Br) : Br := { b with ent := b.ent ++ [⟨(98,0),(0,0),[],-1,false⟩] }
abbrev c3 (b : Br) : Br := { b with own := b.own ++ [⟨(-1,0),[]⟩,⟨(-1,0),[]⟩] }
abbrev c4 (b : Br) : Br := { b with seen := b.seen ++ [(97,0),(97,0)] }
abbrev c5 (b : Br) : Br := { b with own := [⟨(-5,0),[z5]⟩] ++ b.own }
theorem trn0 {b : Br} (h : KI 12 b) {z : Int} (hz : z ∈ b.near) : Trn b (c0 b z) where
 few := ⟨by have := h.ln; simp only [List.length_append,List.length_cons,List.length_nil]; omega,h.few.adv,h.few.seen,h.few.ent,h.few.own⟩
 fewp := ⟨h.fewp.adv,h.fewp.ent,h.fewp.own⟩
 tame := ⟨h.tame.adv,h.tame.ent,h.tame.own⟩
 bad := bad_of fun q => by
  have h1 := (List.pairwise_append.1 q.near).2.2 z hz z (by simp)
  omega
 ne := fun e => by
  have := congrArg (fun b : Br => b.near.length) e
  simp at this
theorem trn1 {b : Br} (h : KI 12 b) (hs : ∀ x ∈ b.seen,x.1 ≤ 2) : Trn b (c1 b) where
 few := ⟨h.few.near,by have := h.la; simp only [List.length_append,List.length_cons,List.length_nil]; omega,h.few.seen,h.few.ent,h.few.own⟩
 fewp := ⟨all_app h.fewp.adv (by simp),h.fewp.ent,h.fewp.own⟩
 tame := ⟨all_app h.tame.adv (by simp),h.tame.ent,h.tame.own⟩
 bad := bad_of fun q => by
  have h1 := (q.oks ⟨(99,0),[],-1⟩ (by simp)).1
  have h2 := hs _ h1
  simp at h2
 ne := fun e => by
  have := congrArg (fun b : Br => b.adv.length) e
  simp at this
theorem trn2 {b : Br} (h : KI 12 b) (hs : ∀ x ∈ b.seen,x.1 ≤ 2) : Trn b (c2 b) where
 few := ⟨h.few.near,h.few.adv,h.few.seen,by have := h.le; simp only [List.length_append,List.length_cons,List.length_nil]; omega,h.few.own⟩
 fewp := ⟨h.fewp.adv,all_app h.fewp.ent (by simp),h.fewp.own⟩
 tame := ⟨h.tame.adv,all_app h.tame.ent (by simp),h.tame.own⟩
 bad := bad_of fun q => by
  have h1 := q.oke ⟨(98,0),(0,0),[],-1,false⟩ (by simp)
  unfold okEn at h1
  cases hf : findA b.adv (98,0) with
  | none => rw [show findA (c2 b).adv (98,0) = none from hf] at h1; cases h1
  | some a =>
   obtain ⟨q1,q2⟩ := findA_some hf
   have h2 := hs _ (h.ok.oks a q1).1
   rw [q2] at h2
   simp at h2
 ne := fun e => by
  have := congrArg (fun b : Br => b.ent.length) e
  simp at this
theorem trn3 {b : Br} (h : KI 12 b) : Trn b (c3 b) where
 few := ⟨h.few.near,h.few.adv,h.few.seen,h.few.ent,by have := h.lo; simp only [List.length_append,List.length_cons,List.length_nil]; omega⟩
 fewp := ⟨h.fewp.adv,h.fewp.ent,all_app h.fewp.own (by simp)⟩
 tame := ⟨h.tame.adv,h.tame.ent,all_app h.tame.own (by simp)⟩
 bad := bad_of fun q => by
  have h1 := (List.pairwise_append.1 q.own).2.1
  have h2 := (List.pairwise_cons.1 h1).1 ⟨(-1,0),[]⟩ (by simp)
  rw [lessI_irr] at h2
  cases h2
 ne := fun e => by
  have := congrArg (fun b : Br => b.own.length) e
  simp at this
theorem trn4 {b : Br} (h : KI 12 b) : Trn b (c4 b) where
 few := ⟨h.few.near,h.few.adv,by have := h.ls; simp only [List.length_append,List.length_cons,List.length_nil]; omega,h.few.ent,h.few.own⟩
 fewp := ⟨h.fewp.adv,h.fewp.ent,h.fewp.own⟩
 tame := ⟨h.tame.adv,h.tame.ent,h.tame.own⟩
 bad := bad_of fun q => by
  have h1 := (List.pairwise_append.1 q.seen).2.1
  have h2 := (List.pairwise_cons.1 h1).1 (97,0) (by simp)
  rw [lessI_irr] at h2
  cases h2
 ne := fun e => by
  have := congrArg (fun b : Br => b.seen.length) e
  simp at this
theorem trn5 {b : Br} (h : KI 12 b) : Trn b (c5 b) where
 few := ⟨h.few.near,h.few.adv,h.few.seen,h.few.ent,by have := h.lo; simp only [List.length_append,List.length_cons,List.length_nil]; omega⟩
 fewp := ⟨h.fewp.adv,h.fewp.ent,all_app (by simp) h.fewp.own⟩
 tame := ⟨h.tame.adv,h.tame.ent,all_app (fun o ho => by rw [List.mem_singleton.1 ho]; intro x hx; rw [List.mem_singleton.1 hx]; exact ⟨Nat.zero_le _,Nat.zero_le _⟩) h.tame.own⟩
 bad := bad_of fun q => by
  have h1 := q.oko ⟨(-5,0),[z5]⟩ (by simp)
  exact absurd h1 (by decide)
 ne := fun e => by
  have := congrArg (fun b : Br => b.own.length) e
  simp at this
end Go.Proofs.YtncogjpmboglhaaGreat.Av
