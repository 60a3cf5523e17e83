/-
  A broker that the st. Conditions as told.
-/
import Derived.Test.YtghlpefopidlaaaGreatBQ033
import Derived.Test.YtghlpefopidlaaaGreatBQ039
import Derived.Test.YtghlpefopidlaaaGreatBQ040
set_option maxRecDepth 100000
set_option maxHeartbeats 64000000
open _root_.List renaming getElem?_eq_getElem->D
open _root_.Nat renaming le_refl->J
namespace Go.Proofs.YtghlpefopidlaaaGreat
namespace Av
open Go.RowKit Go.Sort Rw YtghlpefopidlaaaGreat.Nm Pr Bk
theorem Hy {b:Br} (h:gP b) (t x:dV) (f:Int):gP (gW b t x f).1:=by
 rw [iM];exact Ht h t x f
theorem oq {b:Br} (h:gP b) (x:dV):∀ k,k<=b.dW.length->gP (gy b x k).1
 | 0,_=>⟨h.near,h.seen,h.dW,h.ent,h.own.sublist List.filter_sublist,h.oks,fun e he=>qb (b:=b) rfl rfl (h.Pv e he),fun o ho=>h.VA o ((List.mem_filter.1 ho).1)⟩
 | k+1,hk=>by
  obtain⟨a,ha⟩:∃ a,b.dW[k]?=some a:=⟨_,D hk⟩;rw [jC b x ha];exact Hy (oq h x k (by omega)) _ _ _
theorem JL {b:Br} (h:gP b) (x:dV):gP (fB b x).1:=by
 unfold fB
 split
 ·exact h
 ·exact oq h x _ (J _)
theorem uS {α:Type} {l:List α} {f:Br×List Ou->α->Br×List Ou} {s0:Br×List Ou} (P:Br->Prop) (h0:P s0.1) (hs:∀ s a,a∈l->P s.1->P (f s a).1):∀ k,k<=l.length->P (iy l f s0 k).1
 | 0,_=>h0
 | k+1,hk=>by
  obtain⟨a,ha⟩:∃ a,l[k]?=some a:=⟨_,D hk⟩;rw [om f s0 ha];exact hs _ a (List.mem_of_getElem? ha) (uS P h0 hs k (by omega))
theorem step_ok {s:Br×List Ou} (h:gP s.1) (mt:Bool) (e:En) (t:Int) (hc:mQ s.1.near e.from_=true) (hq:Wr.gX e.p=true):gP (gH s mt e t).1:=by
 unfold gH
 split
 ·exact h
 ·exact Fw h e hc hq
theorem tK (l:List Int):mQ l (-1)=true:=by simp [mQ]
theorem tL {l:List Ow} (hr:iN Ow.id l) {x:dV} (h:¬ (l[gQ (l.map Ow.id) x]?).map Ow.id=some x):∀ y∈l,y.id≠x:=by
 intro y hy e;apply h;rw [<- gu];have ht:fO Ow.id l x=true:=by
  rw [sK hr];exact decide_eq_true (List.mem_map.2 ⟨y,hy,e⟩)
 unfold fO at ht;cases hg:l[eG Ow.id l x]? with
 | none=>rw [hg] at ht; cases ht
 | some z =>
  rw [hg] at ht;rw [Option.map_some,of_decide_eq_true ht]
theorem QH {b:Br} (h:gP b) (x:dV) (p:List C5) (hq:Wr.gX p=true):gP (iX b x p).1:=by
 unfold iX
 split
 ·exact h
 ·rename_i hn
  have hi:gP (ownIn b x p):=by
   have hr:iN Ow.id (eY b.own (gQ (b.own.map Ow.id) x) ⟨x,p⟩):=by
    rw [<- gu];exact kC h.own ⟨x,p⟩ (tL h.own hn)
   exact⟨h.near,h.seen,h.dW,h.ent,hr,h.oks,fun e he=>qb (b:=b) rfl rfl (h.Pv e he),fun o ho=>by
    rcases (jf _ _ _ _).1 ho with rfl|ho
    ·exact hq
    ·exact h.VA o ho⟩
  exact uS gP hi (fun s a _ hs=>step_ok hs _ _ _ (tK _) hq) _ (J _)
end Av
namespace Sb
open Go.RowKit Go.Sort Rw YtghlpefopidlaaaGreat.Nm Pr Bk Av
theorem FI {s:Br×List Ou} (h:gP s.1) (ht:iL s.1) (mt:Bool) (e:En) (t:Int):iL (gH s mt e t).1:=by
 unfold gH
 split
 ·exact ht
 ·exact sV h e ht
theorem FJ {α:Type} {l:List α} (mt:α->Bool) (e:α->En) (t:α->Int) {s0:Br×List Ou} (h:gP s0.1) (ht:iL s0.1) (hc:∀ s:Br×List Ou,∀ a∈l,gP s.1->gP (gH s (mt a) (e a) (t a)).1) (k:Nat) (hk:k<=l.length):iL (iy l (fun s a=>gH s (mt a) (e a) (t a)) s0 k).1 :=
 (uS (fun b=>gP b/\iL b) ⟨h,ht⟩ (fun s a ha hs=>⟨hc s a ha hs.1,FI hs.1 hs.2 _ _ _⟩) k hk).2
theorem FK {b:Br} (h:gP b) (ht:iL b) (x:dV) (p:List C5) (hq:Wr.gX p=true):iL (iX b x p).1:=by
 unfold iX
 split
 ·exact ht
 ·rename_i hn
  have hi:gP (ownIn b x p):=by
   have hr:iN Ow.id (eY b.own (gQ (b.own.map Ow.id) x) ⟨x,p⟩):=by
    rw [<- gu];exact kC h.own ⟨x,p⟩ (tL h.own hn)
   exact⟨h.near,h.seen,h.dW,h.ent,hr,h.oks,fun e he=>qb (b:=b) rfl rfl (h.Pv e he),fun o ho=>by
    rcases (jf _ _ _ _).1 ho with rfl|ho
    ·exact hq
    ·exact h.VA o ho⟩
  exact FJ (s0:=(ownIn b x p,[])) (fun a=>jQ p a.p) (fun a=>nJ x p a) (fun a=>a.par) hi (show iL (ownIn b x p) from ht) (fun s a _ hs=>step_ok hs _ _ _ (tK _) hq) _ (J _)
theorem rR {b:Br} (ht:iL b) (x:dV):∀ k,k<=b.dW.length->iL (gy b x k).1
 | 0,_=>ht
 | k+1,hk=>by
  obtain⟨a,ha⟩:∃ a,b.dW[k]?=some a:=⟨_,D hk⟩;rw [jC b x ha];show iL (gW _ _ _ _).1;rw [iM];exact qO _ _ _ (rR ht x k (by omega))
theorem AO {b:Br} (ht:iL b) (x:dV):iL (fB b x).1:=by
 unfold fB
 split
 ·exact ht
 ·exact rR ht x _ (J _)
end Sb
end Go.Proofs.YtghlpefopidlaaaGreat
