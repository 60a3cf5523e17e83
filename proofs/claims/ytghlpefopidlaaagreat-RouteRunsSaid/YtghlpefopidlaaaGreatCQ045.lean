/-
  A broker that the st. Conditions as told.
-/
import Derived.Test.YtghlpefopidlaaaGreatCQ037
import Derived.Test.YtghlpefopidlaaaGreatCQ043
import Derived.Test.YtghlpefopidlaaaGreatCQ044
set_option maxRecDepth 100000
set_option maxHeartbeats 64000000
open _root_.List renaming getElem?_eq_getElem->D
namespace Go.Proofs.YtghlpefopidlaaaGreat
namespace Av
open Go.RowKit Go.Sort Rw YtghlpefopidlaaaGreat.Nm Pr Bk
theorem IV {b:Br} (h:iH b) (t x:dQ) (f:Int):iH (kW b t x f).1:=by
 rw [nu];exact II h t x f
theorem rF {b:Br} (h:iH b) (x:dQ):∀ k,k<=b.dP.length->iH (fK b x k).1
 | 0,_=>⟨h.near,h.seen,h.dP,h.ent,h.own.sublist List.filter_sublist,h.oks,fun e he=>vJ (b:=b) rfl rfl (h.KS e he),fun o ho=>h.Qu o ((List.mem_filter.1 ho).1)⟩
 | k+1,hk=>by
  obtain⟨a,ha⟩:∃ a,b.dP[k]?=some a:=⟨_,D hk⟩;rw [jQ b x ha];exact IV (rF h x k (by omega)) _ _ _
theorem z8 {α:Type} {l:List α} {f:Br×List Ou->α->Br×List Ou} {s0:Br×List Ou} (P:Br->Prop) (h0:P s0.1) (hs:∀ s a,a∈l->P s.1->P (f s a).1):∀ k,k<=l.length->P (gG l f s0 k).1
 | 0,_=>h0
 | k+1,hk=>by
  obtain⟨a,ha⟩:∃ a,l[k]?=some a:=⟨_,D hk⟩;rw [ny f s0 ha];exact hs _ a (List.mem_of_getElem? ha) (z8 P h0 hs k (by omega))
theorem step_ok {s:Br×List Ou} (h:iH s.1) (mt:Bool) (e:En) (t:Int) (hc:mY s.1.near e.from_=true) (hq:Wr.jT e.p=true):iH (iB s mt e t).1:=by
 unfold iB
 split
 ·exact h
 ·exact Lc h e hc hq
theorem CG (l:List Int):mY l (-1)=true:=by simp [mY]
end Av
namespace Sb
open Go.RowKit Go.Sort Rw YtghlpefopidlaaaGreat.Nm Pr Bk Av
end Sb
end Go.Proofs.YtghlpefopidlaaaGreat
