/-
  Forget of package ad. Conditions as told.
-/
import Derived.Test.YtkcfgbddlpomgaaGreatLQ030
import Derived.Test.YtkcfgbddlpomgaaGreatLQ020
import Derived.Test.YtkcfgbddlpomgaaGreatLQ029
import Derived.Test.YtkcfgbddlpomgaaGreatLQ019
set_option maxRecDepth 100000
set_option maxHeartbeats 64000000
open _root_.List renaming getElem?_eq_some_iff->D,mem_iff_getElem?->J,filter_eq_self->K,getElem?_map->L
namespace Go.Proofs.YtkcfgbddlpomgaaGreat.Av
open Go.RowKit Go.Sort Rw YtkcfgbddlpomgaaGreat.Nm Pr Bk
def sK (b:Br) (x:eG) (f:Int):Br×Bool:=match fP b.dM x with
 | none=>(b,false)
 | some a=>if a.par=f then ({ b with dM:=b.dM.filter fun e=>decide (e.id≠x),ent:=b.ent.filter fun e=>decide (e.tree≠x) },true) else (b,false)
theorem JF {al:List Ad} (hr:rT al) {k:Nat} {a:Ad} {x:eG} (hk:al[k]?=some a) (hx:a.id=x):al.filter (fun e=>decide (e.id≠x))=cutAt al k:=by
 subst hx;unfold cutAt;have h1:al=al.take k++(a::al.drop (k+1)):=by
  have hlt:=(D.1 hk).1;have he:=(D.1 hk).2;rw [<- he,List.getElem_cons_drop,List.take_append_drop]
 conv=>lhs; rw [h1]
 rw [List.filter_append,List.filter_cons_of_neg (by simp)];have hp:=List.pairwise_iff_getElem.1 hr;have e1:(al.take k).filter (fun e=>decide (e.id≠a.id))=al.take k:=by
  rw [K];intro y hy;obtain⟨j,hj⟩:=J.1 hy;have hjl:=(D.1 hj).1;rw [List.length_take] at hjl;rw [List.getElem?_take_of_lt (by omega)] at hj;have:=mM hr (show j<k by omega) hj hk;refine decide_eq_true fun e=>?_;rw [e,j5] at this;cases this
 have e2:(al.drop (k+1)).filter (fun e=>decide (e.id≠a.id))=al.drop (k+1):=by
  rw [K];intro y hy;obtain⟨j,hj⟩:=J.1 hy;rw [List.getElem?_drop] at hj;have:=mM hr (show k<k+1+j by omega) hk hj;refine decide_eq_true fun e=>?_;rw [e,j5] at this;cases this
 rw [e1,e2]
theorem zl {b:Br} (hr:rT b.dM) (x:eG) (f:Int):sK b x f=gJ b x f:=by
 unfold sK gJ;by_cases h:fD (b.dM.map Ad.id) x=-1
 ·have hn:fP b.dM x=none:=uh fun j a hj=>Cz (key:=Ad.id) h j a hj;rw [hn];cases b.dM[(fD (b.dM.map Ad.id) x).toNat]? with
  | none=>rfl
  | some a=>simp only; rw [if_pos h]
 ·obtain⟨k,hk⟩:∃ k:Nat,fD (b.dM.map Ad.id) x=k:=⟨(fD (b.dM.map Ad.id) x).toNat,by have:=pJ (b.dM.map Ad.id) x; omega⟩;obtain⟨g1,g2⟩:=wJ hk;rw [L] at g1;cases ha:b.dM[k]? with
  | none=>rw [ha] at g1; cases g1
  | some a =>
   rw [ha] at g1;have hx:a.id=x:=Option.some.inj g1;have hf:fP b.dM x=some a:=rQ ha hx fun j z hj hz=>g2 j z.id hj (by rw [L,hz]; rfl);rw [hf,hk,Int.toNat_natCast,ha];simp only;rw [if_neg (show ¬ ((k:Int)=-1) by omega)]
   split
   ·rw [JF hr ha hx]
   ·rfl
def aa0 (b:Br) (a:Ad):Bool:=decide (a.id∈b.seen) && (jQ b.near a.par && Wr.iV a.p)
end Go.Proofs.YtkcfgbddlpomgaaGreat.Av
