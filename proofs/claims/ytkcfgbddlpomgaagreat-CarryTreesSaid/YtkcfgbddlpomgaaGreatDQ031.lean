/-
  Forget of package ad. Conditions as told.
-/
import Derived.Test.YtkcfgbddlpomgaaGreatDQ029
import Derived.Test.YtkcfgbddlpomgaaGreatDQ030
import Derived.Test.YtkcfgbddlpomgaaGreatDQ019
import Derived.Test.YtkcfgbddlpomgaaGreatDQ020
set_option maxRecDepth 100000
set_option maxHeartbeats 64000000
open _root_.List renaming getElem?_eq_some_iff->D,mem_iff_getElem?->J,filter_eq_self->K,getElem?_map->L
namespace Go.Proofs.YtkcfgbddlpomgaaGreat.Av
open Go.RowKit Go.Sort Rw YtkcfgbddlpomgaaGreat.Nm Pr Bk
def sN (b:Br) (x:eO) (f:Int):Br×Bool:=match fV b.dO x with
 | none=>(b,false)
 | some a=>if a.par=f then ({ b with dO:=b.dO.filter fun e=>decide (e.id≠x),ent:=b.ent.filter fun e=>decide (e.tree≠x) },true) else (b,false)
theorem JM {al:List Ad} (hr:rO al) {k:Nat} {a:Ad} {x:eO} (hk:al[k]?=some a) (hx:a.id=x):al.filter (fun e=>decide (e.id≠x))=cutAt al k:=by
 subst hx;unfold cutAt;have h1:al=al.take k++(a::al.drop (k+1)):=by
  have hlt:=(D.1 hk).1;have he:=(D.1 hk).2;rw [<- he,List.getElem_cons_drop,List.take_append_drop]
 conv=>lhs; rw [h1]
 rw [List.filter_append,List.filter_cons_of_neg (by simp)];have hp:=List.pairwise_iff_getElem.1 hr;have e1:(al.take k).filter (fun e=>decide (e.id≠a.id))=al.take k:=by
  rw [K];intro y hy;obtain⟨j,hj⟩:=J.1 hy;have hjl:=(D.1 hj).1;rw [List.length_take] at hjl;rw [List.getElem?_take_of_lt (by omega)] at hj;have:=mK hr (show j<k by omega) hj hk;refine decide_eq_true fun e=>?_;rw [e,j6] at this;cases this
 have e2:(al.drop (k+1)).filter (fun e=>decide (e.id≠a.id))=al.drop (k+1):=by
  rw [K];intro y hy;obtain⟨j,hj⟩:=J.1 hy;rw [List.getElem?_drop] at hj;have:=mK hr (show k<k+1+j by omega) hk hj;refine decide_eq_true fun e=>?_;rw [e,j6] at this;cases this
 rw [e1,e2]
theorem zw {b:Br} (hr:rO b.dO) (x:eO) (f:Int):sN b x f=gM b x f:=by
 unfold sN gM;by_cases h:fG (b.dO.map Ad.id) x=-1
 ·have hn:fV b.dO x=none:=uo fun j a hj=>Dl (key:=Ad.id) h j a hj;rw [hn];cases b.dO[(fG (b.dO.map Ad.id) x).toNat]? with
  | none=>rfl
  | some a=>simp only; rw [if_pos h]
 ·obtain⟨k,hk⟩:∃ k:Nat,fG (b.dO.map Ad.id) x=k:=⟨(fG (b.dO.map Ad.id) x).toNat,by have:=pq (b.dO.map Ad.id) x; omega⟩;obtain⟨g1,g2⟩:=wN hk;rw [L] at g1;cases ha:b.dO[k]? with
  | none=>rw [ha] at g1; cases g1
  | some a =>
   rw [ha] at g1;have hx:a.id=x:=Option.some.inj g1;have hf:fV b.dO x=some a:=rM ha hx fun j z hj hz=>g2 j z.id hj (by rw [L,hz]; rfl);rw [hf,hk,Int.toNat_natCast,ha];simp only;rw [if_neg (show ¬ ((k:Int)=-1) by omega)]
   split
   ·rw [JM hr ha hx]
   ·rfl
def abk (b:Br) (a:Ad):Bool:=decide (a.id∈b.seen) && (jR b.near a.par && Wr.iX a.p)
end Go.Proofs.YtkcfgbddlpomgaaGreat.Av
