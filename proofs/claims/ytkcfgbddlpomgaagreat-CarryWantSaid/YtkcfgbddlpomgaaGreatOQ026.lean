/-
  Forget of package ad. Conditions as told.
-/
import Derived.Test.YtkcfgbddlpomgaaGreatOQ024
import Derived.Test.YtkcfgbddlpomgaaGreatOQ019
import Derived.Test.YtkcfgbddlpomgaaGreatOQ025
import Derived.Test.YtkcfgbddlpomgaaGreatOQ018
set_option maxRecDepth 100000
set_option maxHeartbeats 64000000
open _root_.List renaming getElem?_eq_some_iff->D,mem_iff_getElem?->J,filter_eq_self->K,getElem?_map->L
namespace Go.Proofs.YtkcfgbddlpomgaaGreat.Av
open Go.RowKit Go.Sort Rw YtkcfgbddlpomgaaGreat.Nm Pr Bk
def uO (b:Br) (x:eT) (f:Int):Br×Bool:=match gD b.dQ x with
 | none=>(b,false)
 | some a=>if a.par=f then ({ b with dQ:=b.dQ.filter fun e=>decide (e.id≠x),ent:=b.ent.filter fun e=>decide (e.tree≠x) },true) else (b,false)
theorem Lp {al:List Ad} (hr:ug al) {k:Nat} {a:Ad} {x:eT} (hk:al[k]?=some a) (hx:a.id=x):al.filter (fun e=>decide (e.id≠x))=cutAt al k:=by
 subst hx;unfold cutAt;have h1:al=al.take k++(a::al.drop (k+1)):=by
  have hlt:=(D.1 hk).1;have he:=(D.1 hk).2;rw [<- he,List.getElem_cons_drop,List.take_append_drop]
 conv=>lhs; rw [h1]
 rw [List.filter_append,List.filter_cons_of_neg (by simp)];have hp:=List.pairwise_iff_getElem.1 hr;have e1:(al.take k).filter (fun e=>decide (e.id≠a.id))=al.take k:=by
  rw [K];intro y hy;obtain⟨j,hj⟩:=J.1 hy;have hjl:=(D.1 hj).1;rw [List.length_take] at hjl;rw [List.getElem?_take_of_lt (by omega)] at hj;have:=nU hr (show j<k by omega) hj hk;refine decide_eq_true fun e=>?_;rw [e,kU] at this;cases this
 have e2:(al.drop (k+1)).filter (fun e=>decide (e.id≠a.id))=al.drop (k+1):=by
  rw [K];intro y hy;obtain⟨j,hj⟩:=J.1 hy;rw [List.getElem?_drop] at hj;have:=nU hr (show k<k+1+j by omega) hk hj;refine decide_eq_true fun e=>?_;rw [e,kU] at this;cases this
 rw [e1,e2]
theorem AA {b:Br} (hr:ug b.dQ) (x:eT) (f:Int):uO b x f=ig b x f:=by
 unfold uO ig;by_cases h:fK (b.dQ.map Ad.id) x=-1
 ·have hn:gD b.dQ x=none:=vT fun j a hj=>Ee (key:=Ad.id) h j a hj;rw [hn];cases b.dQ[(fK (b.dQ.map Ad.id) x).toNat]? with
  | none=>rfl
  | some a=>simp only; rw [if_pos h]
 ·obtain⟨k,hk⟩:∃ k:Nat,fK (b.dQ.map Ad.id) x=k:=⟨(fK (b.dQ.map Ad.id) x).toNat,by have:=qZ (b.dQ.map Ad.id) x; omega⟩;obtain⟨g1,g2⟩:=yI hk;rw [L] at g1;cases ha:b.dQ[k]? with
  | none=>rw [ha] at g1; cases g1
  | some a =>
   rw [ha] at g1;have hx:a.id=x:=Option.some.inj g1;have hf:gD b.dQ x=some a:=tZ ha hx fun j z hj hz=>g2 j z.id hj (by rw [L,hz]; rfl);rw [hf,hk,Int.toNat_natCast,ha];simp only;rw [if_neg (show ¬ ((k:Int)=-1) by omega)]
   split
   ·rw [Lp hr ha hx]
   ·rfl
def adE (b:Br) (a:Ad):Bool:=decide (a.id∈b.seen) && (jS b.near a.par && Wr.jg a.p)
def yK (b:Br) (e:En):Bool:=match gD b.dQ e.tree with
 | none=>false
 | some a=>!(e.from_ == a.par && !(a.par == -1)) && (jS b.near e.from_ && (!(e.up && a.par == -1) && Wr.jg e.p))
end Go.Proofs.YtkcfgbddlpomgaaGreat.Av
