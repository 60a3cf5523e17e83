/-
  A broker that the steps of broadsidekeep.Broker make is right. Conditions as told.
-/
import Derived.Test.YtmklifheakemeaaGreatfr031
import Derived.Test.YtmklifheakemeaaGreatfr041
import Derived.Test.YtmklifheakemeaaGreatfr042
import Derived.Test.YtmklifheakemeaaGreatfr029
import Derived.Test.YtmklifheakemeaaGreatfr032
set_option maxRecDepth 100000
set_option maxHeartbeats 64000000
namespace Go.Proofs.YtmklifheakemeaaGreat.Av
open Go.RowKit Go.Sort Rw YtmklifheakemeaaGreat.Nm Pr Bk
theorem lessP_cEn (x y : En) : lessP (keyE x) (keyE y) = true ↔ cEn x y < 0 := by
 rw [cEn_neg]
 unfold lessP keyE
 simp only [Bool.or_eq_true,Bool.and_eq_true,eqI_iff]
theorem cEn_total (x y : En) (h : keyE x ≠ keyE y) : cEn x y < 0 ∨ cEn y x < 0 := by
 rw [cEn_neg,cEn_neg]
 rcases lessI_total x.tree y.tree with q | q | q
 ·exact Or.inl (Or.inl q)
 ·rcases lessI_total x.sub y.sub with r | r | r
  ·exact Or.inl (Or.inr ⟨q,r⟩)
  ·exact absurd (Prod.ext q r) h
  ·exact Or.inr (Or.inr ⟨q.symm,r⟩)
 ·exact Or.inr (Or.inl q)
theorem placeP_lo : ∀ (l : List En) (x : En),∀ y ∈ l.take (placeP (l.map keyE) (keyE x)),cEn y x < 0
 | [],_,y,h => by simp at h
 | a :: l,x,y,h => by
  unfold placeP at h
  by_cases ha : lessP (keyE a) (keyE x) = true
  ·simp only [List.map_cons,List.takeWhile_cons,ha,if_true,List.length_cons,List.take_succ_cons,List.mem_cons] at h
   rcases h with rfl | h
   ·exact (lessP_cEn _ _).1 ha
   ·exact placeP_lo l x y h
  ·simp [ha] at h
theorem placeP_hi : ∀ {l : List En} (_ : l.Pairwise fun x y => cEn x y < 0) (x : En) (_ : ∀ y ∈ l,keyE y ≠ keyE x),∀ y ∈ l.drop (placeP (l.map keyE) (keyE x)),cEn x y < 0
 | [],_,_,_,y,h => by simp at h
 | a :: l,hr,x,hn,y,h => by
  unfold placeP at h
  have hr' := List.pairwise_cons.1 hr
  by_cases ha : lessP (keyE a) (keyE x) = true
  ·simp only [List.map_cons,List.takeWhile_cons,ha,if_true,List.length_cons,List.drop_succ_cons] at h
   exact placeP_hi hr'.2 x (fun y hy => hn y (List.mem_cons_of_mem _ hy)) y h
  ·simp [ha] at h
   have hax : cEn x a < 0 := by
    rcases cEn_total a x (hn a (by simp)) with q | q
    ·exact absurd ((lessP_cEn _ _).2 q) ha
    ·exact q
   rcases h with rfl | h
   ·exact hax
   ·exact cEn_tr _ _ _ hax (hr'.1 y h)
theorem ins_riseE {l : List En} (hr : l.Pairwise fun x y => cEn x y < 0) (x : En) (hn : ∀ y ∈ l,keyE y ≠ keyE x) : (insAt l (placeP (l.map keyE) (keyE x)) x).Pairwise fun x y => cEn x y < 0 := by
 unfold insAt
 have h1 := hr.sublist (List.take_sublist (placeP (l.map keyE) (keyE x)) l)
 have h2 := hr.sublist (List.drop_sublist (placeP (l.map keyE) (keyE x)) l)
 have lo := placeP_lo l x
 have hi := placeP_hi hr x hn
 rw [List.append_assoc,List.pairwise_append]
 refine ⟨h1,?_,fun a ha b hb => ?_⟩
 ·rw [List.singleton_append,List.pairwise_cons]
  exact ⟨fun b hb => hi b hb,h2⟩
 ·rw [List.singleton_append,List.mem_cons] at hb
  rcases hb with rfl | hb
  ·exact lo a ha
  ·exact cEn_tr _ _ _ (lo a ha) (hi b hb)
theorem findI_out : ∀ (l : List XID) (x : XID),x ∉ l → findI l x = -1
 | [],_,_ => rfl
 | a :: l,x,h => by
  rw [findI,if_neg fun e => h (by rw [e]; simp),findI_out l x fun q => h (List.mem_cons_of_mem _ q),if_pos rfl]
theorem findK_ne {κ : Type} [DecidableEq κ] {l : List κ} {x : κ} (h : findK l x = -1) : x ∉ l := by
 rcases findK_or l x with _ | ⟨k,h1,_⟩
 ·intro hm
  induction l with
  | nil => simp at hm
  | cons a l ih =>
   rw [findK] at h
   split at h
   ·cases h
   ·rename_i hne
    split at h
    ·rename_i h2
     rcases List.mem_cons.1 hm with e | e
     ·exact hne e.symm
     ·exact ih h2 h2 e
    ·rename_i h2
     have := findK_or l x
     rcases this with q | ⟨k,q,_⟩
     ·exact h2 q
     ·omega
 ·omega
theorem ok_ent {b : Br} (h : OkBr b) {l : List En} (hp : l.Pairwise fun x y => cEn x y < 0) (ho : ∀ e ∈ l,okEn b e = true) : OkBr { b with ent := l } :=
 ⟨h.near,h.seen,h.adv,hp,h.own,h.oks,fun e he => okEn_of (b := b) rfl rfl (ho e he),h.oko⟩
theorem add_ok {b : Br} (h : OkBr b) (e : En) (hc : comesB b.near e.from_ = true) (hq : Wr.rightP e.p = true) : OkBr (addB b e).1 := by
 unfold addB
 split
 ·exact h
 ·rename_i a ha
  split
  ·exact h
  ·rename_i h1
   split
   ·exact h
   ·rename_i h2
    split
    ·exact h
    ·rename_i h3
     have hid : a.id = e.tree := by
      have hm : e.tree ∈ b.adv.map Ad.id := Decidable.byContradiction fun q => h1 (findI_out _ _ q)
      obtain ⟨k2,h5,h6⟩ := findI_mem _ _ hm
      rw [h5,Int.toNat_natCast] at ha
      rw [List.getElem?_map,ha] at h6
      exact Option.some.inj h6
     have hf : findA b.adv e.tree = some a := by
      rw [← hid]
      exact findA_uniq h.adv (List.mem_of_getElem? ha)
     have hins := ins_riseE h.ent { e with up := decide (a.par ≠ -1) && !coveredE b.ent e.tree e.p } fun y hy hk => by
      have hm : keyE e ∈ b.ent.map keyE := List.mem_map.2 ⟨y,hy,hk⟩
      have h9 : findK (b.ent.map keyE) (keyE e) = -1 := Decidable.not_not.1 h2
      exact findK_ne h9 hm
     refine ok_ent h hins fun q hq2 => ?_
     rcases (mem_ins _ _ _ _).1 hq2 with rfl | hq2
     ·unfold okEn
      simp only [hf]
      have h4 : ¬ (e.from_ ≠ -1 ∧ e.from_ = a.par) := h3
      rw [hc,hq]
      by_cases g1 : e.from_ = a.par
      ·have g2 : a.par = -1 := by
        rw [← g1]
        exact Decidable.byContradiction fun q => h4 ⟨q,g1⟩
       simp [g1,g2]
      ·by_cases g2 : a.par = -1 <;> simp [g1,g2]
     ·exact h.oke q hq2
theorem foldK_P {α : Type} {l : List α} {f : Br × List Ou → α → Br × List Ou} {s0 : Br × List Ou} (P : Br → Prop) (h0 : P s0.1) (hs : ∀ s a,a ∈ l → P s.1 → P (f s a).1) : ∀ k,k ≤ l.length → P (foldK l f s0 k).1
 | 0,_ => h0
 | k + 1,hk => by
  obtain ⟨a,ha⟩ : ∃ a,l[k]? = some a := ⟨_,List.getElem?_eq_getElem hk⟩
  rw [foldK_succ f s0 ha]
  exact hs _ a (List.mem_of_getElem? ha) (foldK_P P h0 hs k (by omega))
theorem step_ok {s : Br × List Ou} (h : OkBr s.1) (mt : Bool) (e : En) (t : Int) (hc : comesB s.1.near e.from_ = true) (hq : Wr.rightP e.p = true) : OkBr (addStep s mt e t).1 := by
 unfold addStep
 split
 ·exact h
 ·exact add_ok h e hc hq
theorem comes_own (l : List Int) : comesB l (-1) = true := by simp [comesB]
theorem adv_ok {b : Br} (h : OkBr b) (f : Int) (x : XID) (p : List C5) (hc : comesB b.near f = true) (hq : Wr.rightP p = true) : OkBr (advB b f x p).1 := by
 have hl := learn_ok h ⟨x,p,f⟩ hc hq
 unfold advB
 split
 ·exact hl
 ·refine foldK_P OkBr hl (fun s o ho hs => step_ok hs _ _ _ (comes_own _) ?_) _ (Nat.le_refl _)
  rw [(learn_same b ⟨x,p,f⟩).2.2.2] at ho
  exact h.oko o ho
theorem learn_mem (b : Br) (a : Ad) : ∀ y ∈ (learnB b a).1.adv,y = a ∨ y ∈ b.adv := by
 unfold learnB
 split
 ·exact fun y hy => Or.inr hy
 ·exact fun y hy => (mem_ins _ _ _ _).1 hy
end Go.Proofs.YtmklifheakemeaaGreat.Av
