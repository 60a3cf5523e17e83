/-
  Constraint of the st. Conditions as told.
-/
import Derived.Deep.RegionWith
import Derived.Test.YtghlpefopidlaaaGreatCQ007
import Derived.Test.YtghlpefopidlaaaGreatCQ011
set_option maxRecDepth 100000
set_option maxHeartbeats 64000000
open _root_.Bool renaming and_eq_true->D,eq_iff_iff->K,true->O
open _root_.List renaming getElem?_eq_getElem->J,find?_eq_none->L
namespace Go.Proofs.YtghlpefopidlaaaGreat
namespace Pr
open Go.RowKit Pu Rw Va Kp
def P7 (n:Int):Int:=Wi.within (n.tdiv 4) 0 9
end Pr
namespace Pr
open Go.RowKit Pu Rw Va Kp In
end Pr
namespace Pr
open Go.RowKit Pu Rw Va Kp
def D8 (c:Cn):Prop:=c.1.size<=100/\(kT c.2).size<=100/\(-9223372036854775808<=mI c.2/\mI c.2<=9223372036854775807)/\(-9223372036854775808<=mJ c.2/\mJ c.2<=9223372036854775807)
def D9 (l:List Cn):Prop:=l.length<=100/\∀ c∈l,D8 c
structure NF (l:List Cn):Prop where
 rise:je l
 five:l.length<=5
 good:∀ c∈l,qy c=O
 small:∀ c∈l,D8 c
theorem NF.gH {l:List Cn} (h:NF l):∀ c∈l,Pr.gH c.2=O:=fun c hc=>by
 have:=h.good c hc;simp only [qy,D] at this;exact this.2
theorem KG {a b:Cn} (h:r5 a=r5 b):a=b:=by
 obtain⟨n,a⟩:=a;obtain⟨m,b⟩:=b;simp only [r5,Prod.mk.injEq] at h;obtain⟨rfl,h1,h2,h3,h4⟩:=h;cases a <;> cases b <;> simp [kN,mI,mJ,kT] at h1 h2 h3 h4 <;> simp [*]
end Pr
namespace Bk
open Go.RowKit Rw YtghlpefopidlaaaGreat.Nm Pr
end Bk
namespace Rl
open Go.RowKit Pu Pr
def GU (p:List Cn) (n:ByteArray):Option Cn:=p.find? fun c=>decide (c.1=n)
theorem Ea {p:List Cn} {n:ByteArray} {y:Cn} (h:GU p n=some y):y∈p/\y.1=n:=⟨List.mem_of_find?_eq_some h,by simpa using List.find?_some h⟩
theorem MP {p:List Cn} {n:ByteArray} {k:Nat} {y:Cn} (hk:p[k]?=some y) (he:y.1=n) (hn:∀ (j:Nat) (z:Cn),j<k->p[j]?=some z->z.1≠n):GU p n=some y:=by
 unfold GU;rw [List.find?_eq_some_iff_getElem];obtain⟨hlt,hy⟩:=List.getElem?_eq_some_iff.1 hk;refine⟨by simpa using he,k,hlt,hy,fun j hj=>?_⟩;have:=hn j p[j] hj (J (by omega));simpa using this
theorem Hz {p:List Cn} {n:ByteArray} (hn:∀ (j:Nat) (z:Cn),j<p.length->p[j]?=some z->z.1≠n):GU p n=none:=by
 unfold GU;rw [L];intro x hx;obtain⟨j,hj,e⟩:=List.getElem_of_mem hx;have:=hn j x hj (by rw [J hj,e]);simpa using this
def yI (b:List Cn) (x:Cn):Bool:=match GU b x.1 with
 | some y=>gW y.2 x.2
 | none=>false
theorem Bh {a b:List Cn} (hb:je b):nR a b=a.all (yI b):=by
 unfold nR
 congr 1
 funext x
 unfold yI;cases hf:GU b x.1 with
 | none =>
  rw [List.any_eq_false];intro y hy;have:=L.1 hf y hy;simp only [decide_eq_true_eq] at this;simp [this]
 | some y =>
  obtain⟨h1,h2⟩:=Ea hf;rw [K,List.any_eq_true];constructor
  ·rintro⟨z,hz,h3⟩;simp only [D,decide_eq_true_eq] at h3;rw [Mr hb h1 hz (h2.trans h3.1.symm)];exact h3.2
  ·intro h3;exact⟨y,h1,by simp [h2,h3]⟩
theorem yJ {n:ByteArray} {c d k:Kd} (hc:gH c=O) (hd:gH d=O) (h:fE c d=some k):Dt (r5 (n,k)) (r5 (n,d))=gW d c:=by
 obtain⟨k1,k2⟩:=Ak c d k hc hd h;rw [K,Du];constructor
 ·intro e;have e2:=KG e;obtain rfl:k=d:=congrArg Prod.snd e2;exact rW k c hd fun v hv=>by rw [k2,D] at hv; exact hv.1
 ·intro hi;have:k=d:=x9 k d k1 hd fun v=>by
   rw [k2,K,D];exact⟨fun h=>h.2,fun h=>⟨mK d c hi v h,h⟩⟩
  rw [this]
theorem yK {c d:Kd} (hd:gH d=O) (h:fE c d=none):gW d c=false:=by
 rw [Bool.eq_false_iff];intro hi;obtain⟨v,hv⟩:=xZ d hd;have:=Al c d h v;rw [hv,mK d c hi v hv] at this;cases this
/-! ### samples -/
/-! ### both together -/
end Rl
end Go.Proofs.YtghlpefopidlaaaGreat
