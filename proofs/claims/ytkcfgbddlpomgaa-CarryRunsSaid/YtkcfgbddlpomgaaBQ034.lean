/-
  Messages and Outs of. Conditions as told.
-/
import Derived.Test.YtkcfgbddlpomgaaBQ032
import Derived.Test.YtkcfgbddlpomgaaBQ033
set_option maxRecDepth 100000
set_option maxHeartbeats 64000000
open _root_.Go renaming World->L
open _root_.List renaming mem_cons->D,mem_cons_of_mem->J,pairwise_cons->K
namespace Go.Proofs.Ytkcfgbddlpomgaa
namespace Ca
open Go.RowKit Go.Sort Rw Ytkcfgbddlpomgaa.Nm Pr Bk Rl
def Cg (W:L) (x:nG) (o:Ou×List An):Prop:=x.1=o.1.Im/\x.2.1=o.1.kind/\(x.2.2.1,x.2.2.2.1)=o.1.tree/\(x.2.2.2.2.1,x.2.2.2.2.2.1)=o.1.id/\gL W (dz x.2.2.2.2.2.2.1) o.1.p/\kX W (dz x.2.2.2.2.2.2.2) o.2
theorem Cg.on {W W':L} {x:nG} {o:Ou×List An} (h:Cg W x o) (hb:Below W.heap.size W W'):Cg W' x o:=⟨h.1,h.2.1,h.2.2.1,h.2.2.2.1,h.2.2.2.2.1.on hb,h.2.2.2.2.2.on hb⟩
def G5 (W:L) (x:oK) (o:(Int×dI)×List An):Prop:=x.1=o.1.1/\(x.2.1,x.2.2.1)=o.1.2/\kX W (dz x.2.2.2) o.2
end Ca
namespace Bk
open Go.RowKit Go.Sort Rw Ytkcfgbddlpomgaa.Nm Pr Rl
theorem rP {α:Type} {E:Ek α} {W:L} {so:Option Addr} {sn sc:Nat} {l:List α} (h:Row E W (.slice so sn sc) l):l.length=sn:=by
 obtain⟨a,c,hv⟩:=h.len;simp only [Value.slice.injEq] at hv;exact hv.2.1.symm
end Bk
namespace Av
open Go.RowKit Rw Ytkcfgbddlpomgaa.Nm Pr Wr
end Av
namespace Bk
open Go.RowKit Go.Sort Rw Ytkcfgbddlpomgaa.Nm Pr
end Bk
namespace Av
open Go.RowKit Go.Sort Rw Ytkcfgbddlpomgaa.Nm Pr Bk
structure vF (W:L) (b:Br) (nv av sv ev ov:Sl):Prop where
 br:iF W b nv av sv ev ov
 no:fT W nv b.near
theorem vF.on {W W':L} {b:Br} {nv av sv ev ov:Sl} (h:vF W b nv av sv ev ov) (hb:Below W.heap.size W W'):vF W' b nv av sv ev ov:=⟨h.br.on hb,h.no.on hb⟩
theorem vF.keep {W W':L} {k:Nat} {me:Int} {s1 s2 s3 s4 s5:Sl} {b:Br} {nv av sv ev ov:Sl} (h:vF W b nv av sv ev ov) (hb:dh W k (jQ me s1 s2 s3 s4 s5) 30) (hk:But k W W'):vF W' b nv av sv ev ov:=by
 obtain⟨B,hn⟩:=h.no;have hn2:gK W' B (dz nv) b.near:=hk.own hn hb (by decide);exact⟨uK h.br hb hk.1 (Row.dw hn2),B,hn2⟩
theorem jr:∀ {l m:List Int},l.Pairwise (·<·)->m.Pairwise (·<·)->(∀ x,x∈l↔x∈m)->l=m
 | [],[],_,_,_=>rfl
 | [],y::m,_,_,h=>by have:=(h y).2 (by simp); simp at this
 | x::l,[],_,_,h=>by have:=(h x).1 (by simp); simp at this
 | x::l,y::m,hl,hm,h=>by
  have hl':=K.1 hl;have hm':=K.1 hm;have h1:x=y:=by
   rcases D.1 ((h x).1 (by simp)) with e|e
   ·exact e
   ·rcases D.1 ((h y).2 (by simp)) with e2|e2
    ·exact e2.symm
    ·have a1:=hm'.1 x e;have a2:=hl'.1 y e2;omega
  subst h1;rw [jr hl'.2 hm'.2 fun z=>⟨fun hz=>?_,fun hz=>?_⟩]
  ·rcases D.1 ((h z).1 (J _ hz)) with e|e
   ·have:=hl'.1 z hz;omega
   ·exact e
  ·rcases D.1 ((h z).2 (J _ hz)) with e|e
   ·have:=hm'.1 z hz;omega
   ·exact e
theorem vG {W W':L} {b:Nat} (h:W.grownBy W' (some b)):But b W W':=⟨fun k hk hne=>h.block k hk (by simpa using hne),h.size⟩
end Av
namespace Bk
open Go.RowKit Rw Ytkcfgbddlpomgaa.Nm Pr
end Bk
namespace Bk
open Go.RowKit Go.Sort Rw Ytkcfgbddlpomgaa.Nm Pr
end Bk
namespace At
open Go.RowKit Go.Sort Va In
end At
namespace Rl
open Go.RowKit Pu Rw Pr In
end Rl
namespace Rg
open Go.RowKit
end Rg
end Go.Proofs.Ytkcfgbddlpomgaa
