/-
  A broker that the st. Conditions as told.
-/
import Derived.Test.YtghlpefopidlaaaGreatOQ032
import Derived.Test.YtghlpefopidlaaaGreatOQ040
import Derived.Test.YtghlpefopidlaaaGreatOQ041
set_option maxRecDepth 100000
set_option maxHeartbeats 64000000
open _root_.List renaming getElem?_eq_getElem->D
open _root_.Nat renaming le_refl->J
namespace Go.Proofs.YtghlpefopidlaaaGreat
namespace Av
open Go.RowKit Go.Sort Rw YtghlpefopidlaaaGreat.Nm Pr Bk
theorem Ox {b:Br} (h:fQ b) (t x:dO) (f:Int):fQ (jF b t x f).1:=by
 rw [kW];exact Oj h t x f
theorem kZ {b:Br} (h:fQ b) (x:dO):∀ k,k<=b.dG.length->fQ (fA b x k).1
 | 0,_=>⟨h.near,h.seen,h.dG,h.ent,h.own.sublist List.filter_sublist,h.oks,fun e he=>qM (b:=b) rfl rfl (h.NZ e he),fun o ho=>h.UQ o ((List.mem_filter.1 ho).1)⟩
 | k+1,hk=>by
  obtain⟨a,ha⟩:∃ a,b.dG[k]?=some a:=⟨_,D hk⟩;rw [iX b x ha];exact Ox (kZ h x k (by omega)) _ _ _
theorem IY {b:Br} (h:fQ b) (x:dO):fQ (fB b x).1:=by
 unfold fB
 split
 ·exact h
 ·exact kZ h x _ (J _)
theorem tX {α:Type} {l:List α} {f:Br×List Ou->α->Br×List Ou} {s0:Br×List Ou} (P:Br->Prop) (h0:P s0.1) (hs:∀ s a,a∈l->P s.1->P (f s a).1):∀ k,k<=l.length->P (gP l f s0 k).1
 | 0,_=>h0
 | k+1,hk=>by
  obtain⟨a,ha⟩:∃ a,l[k]?=some a:=⟨_,D hk⟩;rw [kY f s0 ha];exact hs _ a (List.mem_of_getElem? ha) (tX P h0 hs k (by omega))
theorem step_ok {s:Br×List Ou} (h:fQ s.1) (mt:Bool) (e:En) (t:Int) (hc:oC s.1.near e.from_=true) (hq:Wr.gV e.p=true):fQ (gD s mt e t).1:=by
 unfold gD
 split
 ·exact h
 ·exact RZ h e hc hq
theorem sw (l:List Int):oC l (-1)=true:=by simp [oC]
theorem sD {l:List Ow} (hr:iE Ow.id l) {x:dO} (h:¬ (l[gF (l.map Ow.id) x]?).map Ow.id=some x):∀ y∈l,y.id≠x:=by
 intro y hy e;apply h;rw [<- gu];have ht:fF Ow.id l x=true:=by
  rw [rH hr];exact decide_eq_true (List.mem_map.2 ⟨y,hy,e⟩)
 unfold fF at ht;cases hg:l[dX Ow.id l x]? with
 | none=>rw [hg] at ht; cases ht
 | some z =>
  rw [hg] at ht;rw [Option.map_some,of_decide_eq_true ht]
theorem FZ {b:Br} (h:fQ b) (x:dO) (p:List C5) (hq:Wr.gV p=true):fQ (eF b x p).1:=by
 unfold eF
 split
 ·exact h
 ·rename_i hn
  have hi:fQ (ownIn b x p):=by
   have hr:iE Ow.id (eZ b.own (gF (b.own.map Ow.id) x) ⟨x,p⟩):=by
    rw [<- gu];exact kL h.own ⟨x,p⟩ (sD h.own hn)
   exact⟨h.near,h.seen,h.dG,h.ent,hr,h.oks,fun e he=>qM (b:=b) rfl rfl (h.NZ e he),fun o ho=>by
    rcases (jQ _ _ _ _).1 ho with rfl|ho
    ·exact hq
    ·exact h.UQ o ho⟩
  exact tX fQ hi (fun s a _ hs=>step_ok hs _ _ _ (sw _) hq) _ (J _)
end Av
namespace Sb
open Go.RowKit Go.Sort Rw YtghlpefopidlaaaGreat.Nm Pr Bk Av
theorem DZ {s:Br×List Ou} (h:fQ s.1) (ht:gK s.1) (mt:Bool) (e:En) (t:Int):gK (gD s mt e t).1:=by
 unfold gD
 split
 ·exact ht
 ·exact Ik h e ht
theorem D5 {α:Type} {l:List α} (mt:α->Bool) (e:α->En) (t:α->Int) {s0:Br×List Ou} (h:fQ s0.1) (ht:gK s0.1) (hc:∀ s:Br×List Ou,∀ a∈l,fQ s.1->fQ (gD s (mt a) (e a) (t a)).1) (k:Nat) (hk:k<=l.length):gK (gP l (fun s a=>gD s (mt a) (e a) (t a)) s0 k).1 :=
 (tX (fun b=>fQ b/\gK b) ⟨h,ht⟩ (fun s a ha hs=>⟨hc s a ha hs.1,DZ hs.1 hs.2 _ _ _⟩) k hk).2
theorem vF {b:Br} (h:fQ b) (ht:gK b) (x:dO) (p:List C5) (hq:Wr.gV p=true):gK (eF b x p).1:=by
 unfold eF
 split
 ·exact ht
 ·rename_i hn
  have hi:fQ (ownIn b x p):=by
   have hr:iE Ow.id (eZ b.own (gF (b.own.map Ow.id) x) ⟨x,p⟩):=by
    rw [<- gu];exact kL h.own ⟨x,p⟩ (sD h.own hn)
   exact⟨h.near,h.seen,h.dG,h.ent,hr,h.oks,fun e he=>qM (b:=b) rfl rfl (h.NZ e he),fun o ho=>by
    rcases (jQ _ _ _ _).1 ho with rfl|ho
    ·exact hq
    ·exact h.UQ o ho⟩
  exact D5 (s0:=(ownIn b x p,[])) (fun a=>gY p a.p) (fun a=>iY x p a) (fun a=>a.par) hi (show gK (ownIn b x p) from ht) (fun s a _ hs=>step_ok hs _ _ _ (sw _) hq) _ (J _)
theorem nI {b:Br} (ht:gK b) (x:dO):∀ k,k<=b.dG.length->gK (fA b x k).1
 | 0,_=>ht
 | k+1,hk=>by
  obtain⟨a,ha⟩:∃ a,b.dG[k]?=some a:=⟨_,D hk⟩;rw [iX b x ha];show gK (jF _ _ _ _).1;rw [kW];exact DL _ _ _ (nI ht x k (by omega))
theorem zJ {b:Br} (ht:gK b) (x:dO):gK (fB b x).1:=by
 unfold fB
 split
 ·exact ht
 ·exact nI ht x _ (J _)
end Sb
end Go.Proofs.YtghlpefopidlaaaGreat
