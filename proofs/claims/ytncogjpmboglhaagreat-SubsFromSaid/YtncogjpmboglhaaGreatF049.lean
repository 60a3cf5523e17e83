/-
  Who subscribed at a . Conditions as told.
-/
import Derived.Test.YtncogjpmboglhaaGreatF048
set_option maxRecDepth 100000
set_option maxHeartbeats 64000000
namespace Go.Proofs.YtncogjpmboglhaaGreat.Av
open Go.RowKit Go.Sort Rw YtncogjpmboglhaaGreat.Nm Pr Bk
abbrev KS (b:Br):Prop:=(∀ e∈b.ent,e.sub.1≤4)∧∀ o∈b.own,o.id.1≤4
theorem ks_add {b:Br} (h:KS b) (e:En) (he:e.sub.1≤4):KS (addB b e).1:=by
 unfold addB
 split
 ·exact h
 ·split
  ·exact h
  ·split
   ·exact h
   ·split
    ·exact h
    ·refine⟨fun z hz=>?_,h.2⟩
     rcases (mem_ins _ _ _ _).1 hz with rfl|hz
     ·exact he
     ·exact h.1 z hz
theorem ks_step0 {s:Br×List Ou} (h:KS s.1) (mt:Bool) (e:En) (t:Int) (he:e.sub.1≤4):KS (addStep s mt e t).1:=by
 unfold addStep
 split
 ·exact h
 ·exact ks_add h e he
theorem ks_adv {b:Br} (h:KS b) (f:Int) (x:XID) (p:List C5):KS (advB b f x p).1:=by
 have hs:=learn_same b ⟨x,p,f⟩
 have hl:KS (learnB b ⟨x,p,f⟩).1:=⟨by rw [hs.2.2.1]; exact h.1,by rw [hs.2.2.2]; exact h.2⟩
 unfold advB
 split
 ·exact hl
 ·refine foldK_P KS hl (fun s o ho hs2=>ks_step0 hs2 _ _ _ ?_) _ (Nat.le_refl _)
  rw [hs.2.2.2] at ho
  exact h.2 o ho
theorem ks_subs {b:Br} (h:KS b) (x:XID) (p:List C5) (hx:x.1≤4):KS (subsB b x p).1:=by
 unfold subsB
 split
 ·exact h
 ·have hi:KS (ownIn b x p):=⟨h.1,fun o ho=>by
   rcases (mem_ins _ _ _ _).1 ho with rfl|ho
   ·exact hx
   ·exact h.2 o ho⟩
  exact foldK_P KS hi (fun s a _ hs=>ks_step0 hs _ _ _ hx) _ (Nat.le_refl _)
theorem ks_take {b:Br} (h:KS b) (t x:XID) (f:Int):KS (takeB b t x f).1:=by
 unfold takeB
 split
 ·exact h
 ·split
  ·exact h
  ·split
   ·exact h
   ·split
    ·exact⟨fun e he=>h.1 e (mem_cut he),h.2⟩
    ·refine⟨fun e he=>?_,h.2⟩
     have hk:keyE e∈(takeK t (cutAt b.ent (findK (b.ent.map keyE) (t,x)).toNat) (cutAt b.ent (findK (b.ent.map keyE) (t,x)).toNat).length).1.map keyE:=List.mem_map.2 ⟨e,he,rfl⟩
     rw [takeK_keys] at hk
     obtain⟨z,hz,hk2⟩:=List.mem_map.1 hk
     have h3:=h.1 z (mem_cut hz)
     rw [← show z.sub=e.sub from congrArg Prod.snd hk2]
     exact h3
theorem ks_unsubK {b:Br} (h:KS b) (x:XID):∀ k,k≤b.adv.length→KS (unsubK b x k).1
 | 0,_=>⟨h.1,fun o ho=>h.2 o ((List.mem_filter.1 ho).1)⟩
 | k+1,hk=>by
  obtain⟨a,ha⟩:∃ a,b.adv[k]?=some a:=⟨_,List.getElem?_eq_getElem hk⟩
  rw [unsubK_succ b x ha]
  show KS (dropB _ _ _ _).1
  rw [dropB_near]
  exact ks_take (ks_unsubK h x k (by omega)) _ _ _
theorem ks_unsubs {b:Br} (h:KS b) (x:XID):KS (unsubsB b x).1:=by
 unfold unsubsB
 split
 ·exact h
 ·exact ks_unsubK h x _ (Nat.le_refl _)
theorem ks_step {b:Br} (h:KS b) (f mk:Int) (t x:XID) (p:List C5) (hx:x.1≤4):KS (stepB b f mk t x p).1:=by
 unfold stepB
 split
 ·exact ks_adv h f t p
 ·split
  ·show KS (forgetB b t f).1
   unfold forgetB
   split
   ·exact h
   ·split
    ·exact h
    ·split
     ·exact⟨fun e he=>h.1 e ((List.mem_filter.1 he).1),h.2⟩
     ·exact h
  ·split
   ·rw [onSubB_br]; exact ks_add h _ hx
   ·rw [dropB_near]; exact ks_take h _ _ _
abbrev SnK (b:Br):Prop:=(∀ x∈b.seen,x.1≤2)∧KS b
end Go.Proofs.YtncogjpmboglhaaGreat.Av
