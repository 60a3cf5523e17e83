/-
  What a call of SubsPlays leaves: a right and tight broker of three nei. Conditions as told.
-/
import Derived.Test.YtncogjpmboglhaaGreatG031
import Derived.Test.YtncogjpmboglhaaGreatG030
import Derived.Test.YtncogjpmboglhaaGreatG048
set_option maxRecDepth 100000
set_option maxHeartbeats 64000000
namespace Go.Proofs.YtncogjpmboglhaaGreat.Sb
open Go.RowKit Go.Sort Rw YtncogjpmboglhaaGreat.Nm Pr Bk Av Rl
structure PlI (b : Br) (n : Nat) : Prop where
 ok : OkBr b
 near : b.near = [1,2,3]
 own : b.own = []
 tight : TightE b
 pa : ∀ a ∈ b.adv,PredOk a.p
 pe : ∀ e ∈ b.ent,PredOk e.p
 sn : b.seen.length ≤ n
 an : b.adv.length ≤ n
 en : b.ent.length ≤ n
theorem PlI.few {b : Br} {n : Nat} (h : PlI b n) (hn : n ≤ 900) : Few b :=
 ⟨by rw [h.near]; decide,Nat.le_trans h.an hn,Nat.le_trans h.sn hn,Nat.le_trans h.en hn,by rw [h.own]; decide⟩
theorem PlI.fewp {b : Br} {n : Nat} (h : PlI b n) : FewP b :=
 ⟨fun a q => Nat.le_trans (predOk_len (h.pa a q)) (by decide),fun a q => Nat.le_trans (predOk_len (h.pe a q)) (by decide),by rw [h.own]; simp⟩
theorem PlI.tame {b : Br} {n : Nat} (h : PlI b n) : TameB b :=
 ⟨fun a q => tame_right (h.ok.oks a q).2.2,fun e q => tame_right (okEn_right (h.ok.oke e q)),by rw [h.own]; simp⟩
theorem PlI.tightB {b : Br} {n : Nat} (h : PlI b n) : tightB b = true := (tight_iff h.ok.ent).2 h.tight
theorem PlI.comes {b : Br} {n : Nat} (h : PlI b n) {f : Int} (hf : f = -1 ∨ f = 1 ∨ f = 2 ∨ f = 3) : comesB b.near f = true := by
 rw [h.near]
 rcases hf with rfl | rfl | rfl | rfl <;> decide
theorem PlI.more {b : Br} {n : Nat} (h : PlI b n) : PlI b (n + 1) := ⟨h.ok,h.near,h.own,h.tight,h.pa,h.pe,Nat.le_succ_of_le h.sn,Nat.le_succ_of_le h.an,Nat.le_succ_of_le h.en⟩
theorem pl_new : PlI (newB0 0 [1,2,3]) 0 :=
 ⟨⟨by simp,List.Pairwise.nil,List.Pairwise.nil,List.Pairwise.nil,List.Pairwise.nil,fun a h => by simp at h,fun a h => by simp at h,fun a h => by simp at h⟩,rfl,rfl,fun a h => by simp at h,fun a h => by simp at h,fun a h => by simp at h,Nat.le_refl _,Nat.le_refl _,Nat.le_refl _⟩
theorem pl_learn {b : Br} {n : Nat} (h : PlI b n) (x : XID) (p : List C5) (f : Int) (hf : f = -1 ∨ f = 1 ∨ f = 2 ∨ f = 3) (hq : Wr.rightP p = true) (hp : PredOk p) : PlI (learnB b ⟨x,p,f⟩).1 (n + 1) := by
 have H := learn_ok h.ok ⟨x,p,f⟩ (h.comes hf) hq
 have HT := learn_tight h.ok ⟨x,p,f⟩ h.tight
 by_cases hin : x ∈ b.seen
 ·rw [learnB_in (a := ⟨x,p,f⟩) hin] at H HT ⊢
  exact h.more
 ·rw [learnB_out (a := ⟨x,p,f⟩) hin] at H HT ⊢
  refine ⟨H,h.near,h.own,HT,fun a ha => ?_,h.pe,Nat.le_trans (Nat.le_of_eq (insAt_len _ _ _)) (Nat.succ_le_succ h.sn),Nat.le_trans (Nat.le_of_eq (insAt_len _ _ _)) (Nat.succ_le_succ h.an),Nat.le_succ_of_le h.en⟩
  rcases (mem_ins _ _ _ _).1 ha with rfl | ha
  ·exact hp
  ·exact h.pa a ha
theorem pl_forget {b : Br} {n : Nat} (h : PlI b n) (x : XID) (f : Int) : PlI (forgetF b x f).1 (n + 1) := by
 have H := forget_ok h.ok x f
 have HT := forget_tight x f h.tight
 unfold forgetF at H HT ⊢
 cases hf : findA b.adv x with
 | none => exact h.more
 | some a =>
  rw [hf] at H HT
  by_cases hp : a.par = f
  ·simp only [hp,if_true] at H HT ⊢
   exact ⟨H,h.near,h.own,HT,fun e he => h.pa e (List.mem_filter.1 he).1,fun e he => h.pe e (List.mem_filter.1 he).1,Nat.le_succ_of_le h.sn,Nat.le_succ_of_le (Nat.le_trans (List.length_filter_le _ _) h.an),Nat.le_succ_of_le (Nat.le_trans (List.length_filter_le _ _) h.en)⟩
  ·simp only [hp,if_false] at H HT ⊢
   exact h.more
theorem pl_add {b : Br} {n : Nat} (h : PlI b n) (t s : XID) (p : List C5) (f : Int) (hf : f = -1 ∨ f = 1 ∨ f = 2 ∨ f = 3) (hq : Wr.rightP p = true) (hp : PredOk p) : PlI (addB b ⟨t,s,p,f,false⟩).1 (n + 1) := by
 have H := add_ok h.ok ⟨t,s,p,f,false⟩ (h.comes hf) hq
 have HT := add_tight h.ok ⟨t,s,p,f,false⟩ h.tight
 rw [← addF_eq h.ok.ent] at H HT ⊢
 unfold addF at H HT ⊢
 cases hf : findA b.adv t with
 | none => exact h.more
 | some a =>
  simp only [hf] at H HT ⊢
  split
  ·exact h.more
  ·split
   ·exact h.more
   ·rename_i h1 h2
    rw [if_neg h1,if_neg h2] at H HT
    refine ⟨H,h.near,h.own,HT,h.pa,fun e he => ?_,Nat.le_succ_of_le h.sn,Nat.le_succ_of_le h.an,Nat.le_trans (Nat.le_of_eq (insAt_len _ _ _)) (Nat.succ_le_succ h.en)⟩
    rcases (mem_ins _ _ _ _).1 he with rfl | he
    ·exact hp
    ·exact h.pe e he
theorem pl_take {b : Br} {n : Nat} (h : PlI b n) (t s : XID) (f : Int) : PlI (takeB b t s f).1 (n + 1) := by
 have H := take_ok h.ok t s f
 have HT := take_tight t s f h.tight
 unfold takeB at H HT ⊢
 cases he : b.ent[(findK (b.ent.map keyE) (t,s)).toNat]? with
 | none => exact h.more
 | some e =>
  simp only [he] at H HT ⊢
  split
  ·exact h.more
  ·rename_i h0
   rw [if_neg h0] at H HT
   split
   ·exact h.more
   ·rename_i h2
    rw [if_neg h2] at H HT
    have hl : (cutAt b.ent (findK (b.ent.map keyE) (t,s)).toNat).length ≤ b.ent.length := (List.Sublist.length_le (cut_sub _ _))
    split
    ·rename_i h3
     rw [if_pos h3] at H HT
     exact ⟨H,h.near,h.own,HT,h.pa,fun e he => h.pe e (mem_cut he),Nat.le_succ_of_le h.sn,Nat.le_succ_of_le h.an,Nat.le_succ_of_le (Nat.le_trans hl h.en)⟩
    ·rename_i h3
     rw [if_neg h3] at H HT
     refine ⟨H,h.near,h.own,HT,h.pa,(takeK_ok PredOk (fun e he => h.pe e (mem_cut he)) _).1,Nat.le_succ_of_le h.sn,Nat.le_succ_of_le h.an,?_⟩
     show (takeK t _ _).1.length ≤ _
     rw [(takeK_len t _ _).1]
     exact Nat.le_succ_of_le (Nat.le_trans hl h.en)
end Go.Proofs.YtncogjpmboglhaaGreat.Sb
