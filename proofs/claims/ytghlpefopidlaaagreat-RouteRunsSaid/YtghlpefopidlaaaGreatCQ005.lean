/-
  A list of numbers th. Conditions as told.
-/
import Derived.ChangeSlices
import Derived.Lib.Hide
import Derived.Below
import Derived.Test.YtghlpefopidlaaaGreatCQ000
import Derived.Lib.Bytealg
import Derived.Shelf.Slices.In.SortNone
import Derived.Shelf.Sort.Plain
import Derived.Shelf.Slices.CompactI
import Derived.Shelf.Slices.SearchI
import Derived.OpenShut
import Derived.Carry
import Derived.ChangeMaps5
import Derived.ChangeArms
set_option maxRecDepth 100000
set_option maxHeartbeats 64000000
open _root_.Bool renaming and_eq_true->O,true->U,false->Z
open Go.Lib renaming compareBytes->D
open Go.Op renaming bytesLess->J
open _root_.List renaming getElem?_eq_some_iff->L,pairwise_cons->V,mem_cons->Y
open _root_.Option renaming some->K
open _root_.UInt8 renaming not_lt->Q,le_antisymm->X
namespace Go.Proofs.YtghlpefopidlaaaGreat.In
open Go.RowKit Go.ChangeShapes Go.WideShapes
end Go.Proofs.YtghlpefopidlaaaGreat.In
namespace Go.Proofs.YtghlpefopidlaaaGreat.Rl
open Go.RowKit Pu Pr
def uM (a b:List Cn):Bool:=match iG a.length a b with
 | .ok _=>U
 | .error _=>Z
theorem Aw {c:Cn} {r:List Cn} (h:je (c::r)):∀ y∈r,y.1≠c.1:=fun y hy e=>He ((V.1 h).1 y hy) e.symm
/-! ### match -/
theorem Mr {l:List Cn} (h:je l) {x y:Cn} (hx:x∈l) (hy:y∈l) (e:x.1=y.1):x=y:=by
 induction l with
 | nil=>cases hx
 | cons z r ih =>
  have h1:=Aw h;have h2:=(V.1 h).2;rcases Y.1 hx with rfl|hx2 <;> rcases Y.1 hy with rfl|hy2
  ·rfl
  ·exact absurd e.symm (h1 y hy2)
  ·exact absurd e (h1 x hx2)
  ·exact ih h2 hx2 hy2
/-! ### cover -/
def gW:Kd->Kd->Bool
 | .rg p q,.rg r s=>decide (r<=p) && decide (q<=s)
 | .tx s,.tx t=>s.data.toList == t.data.toList
 | .tx s,.pr t=>pfx t s
 | .pr s,.pr t=>pfx t s
 | _,_=>Z
theorem mK (a b:Kd) (h:gW a b=U) (v:V3) (hv:dI a v=U):dI b v=U:=by
 obtain⟨t,n,u⟩:=v;cases a <;> cases b <;> simp only [gW,O,decide_eq_true_eq,beq_iff_eq] at h <;> simp only [dI,O,decide_eq_true_eq,beq_iff_eq] at hv ⊢
 ·exact⟨hv.1,by omega,by omega⟩
 ·cases h
 ·cases h
 ·cases h
 ·exact⟨hv.1,hv.2.trans h⟩
 ·exact⟨hv.1,by rw [eF,hv.2,<- eF]; exact h⟩
 ·cases h
 ·cases h
 ·exact⟨hv.1,(eF _ _).2 (((eF _ _).1 h).trans ((eF _ _).1 hv.2))⟩
theorem rW (a b:Kd) (ha:gH a=U) (h:∀ v,dI a v=U->dI b v=U):gW a b=U:=by
 cases a with
 | rg p q =>
  simp only [gH,decide_eq_true_eq] at ha;have h1:=h (Z,p,⟨#[]⟩) (by rw [qz]; simp [ha]);have h2:=h (Z,q,⟨#[]⟩) (by rw [qz]; simp [ha]);cases b with
  | rg r s =>
   rw [qz] at h1 h2;simp only [O,decide_eq_true_eq] at h1 h2;simp [gW,h1.1,h2.2]
  | tx t=>simp [dI] at h1
  | pr t=>simp [dI] at h1
 | tx s =>
  have h1:=h (U,0,s) (by rw [jr]; simp);cases b with
  | rg r t=>rw [lQ] at h1; cases h1
  | tx t=>rw [jr] at h1; exact h1
  | pr t=>rw [jd] at h1; exact h1
 | pr s =>
  have h1:=h (U,0,s) (by rw [jd]; exact jY s);cases b with
  | rg r t=>rw [lQ] at h1; cases h1
  | tx t =>
   have h2:=h (U,0,more s) (by rw [jd]; exact vV s);rw [jr,beq_iff_eq] at h1 h2;rw [<- h1] at h2;have h3:=congrArg List.length h2;simp [more] at h3
  | pr t=>rw [jd] at h1; exact h1
def nR (a b:List Cn):Bool:=a.all fun x=>b.any fun y=>decide (y.1=x.1) && gW y.2 x.2
end Go.Proofs.YtghlpefopidlaaaGreat.Rl
namespace Go.Proofs.YtghlpefopidlaaaGreat.Pr
open Go.RowKit Pu
def iL:List Cn->ByteArray->Nat
 | [],_=>0
 | x::r,n=>if J x.1.toList n.toList=U then iL r n+1 else 0
theorem qg:∀ l n,iL l n<=l.length
 | [],n=>Nat.le_refl _
 | x::r,n=>by
  have:=qg r n;simp only [iL]
  split <;> simp; omega
theorem zG:∀ (l:List Cn) (n:ByteArray) (k:Nat),k<=l.length->(∀ (j:Nat) (y:Cn),j<k->l[j]?=K y->J y.1.toList n.toList=U)->(∀ y:Cn,l[k]?=K y->J y.1.toList n.toList=Z)->iL l n=k
 | [],n,k,hk,_,_=>by simp at hk; simp [iL,hk]
 | x::r,n,0,_,_,h=>by simp [iL,h x rfl]
 | x::r,n,k+1,hk,h1,h2=>by
  simp only [iL];rw [if_pos (h1 0 x (by omega) rfl),zG r n k (by simpa using hk) (fun j y hj hy=>h1 (j+1) y (by omega) (by simpa using hy)) (fun y hy=>h2 y (by simpa using hy))]
def iU (l:List Cn) (n:ByteArray):Bool:=match l[iL l n]? with
 | some x=>decide (x.1=n)
 | none=>Z
def Dw (m:List Cn) (c:Cn):Option (List Cn):=match m[iL m c.1]? with
 | some x=>if x.1=c.1 then (fE x.2 c.2).map fun k=>m.set (iL m c.1) (x.1,k) else K (m.take (iL m c.1)++c::m.drop (iL m c.1))
 | none=>K (m.take (iL m c.1)++c::m.drop (iL m c.1))
theorem uN:∀ (m:List Cn) (c:Cn),mU m c=Dw m c
 | [],c=>rfl
 | x::r,c=>by
  unfold Dw;simp only [mU,iL]
  split
  ·rw [uN r c,Dw];simp only [List.getElem?_cons_succ,List.take_succ_cons,List.drop_succ_cons,List.set_cons_succ];cases h:r[iL r c.1]? with
   | none=>simp
   | some y =>
    simp only
    split
    ·simp [Option.map_map,Function.comp_def]
    ·simp
  ·simp
theorem Ay {m:List Cn} {c:Cn} (h:iU m c.1=U):∃ x,m[iL m c.1]?=K x/\x.1=c.1/\mU m c=(fE x.2 c.2).map fun k=>m.set (iL m c.1) (x.1,k):=by
 rw [uN];unfold iU at h;unfold Dw;cases hx:m[iL m c.1]? with
 | none=>rw [hx] at h; cases h
 | some x =>
  rw [hx] at h;have e:x.1=c.1:=by simpa using h
  exact⟨x,rfl,e,by simp only; rw [if_pos e]⟩
theorem zH {m:List Cn} {c:Cn} (h:iU m c.1=Z):mU m c=K (m.take (iL m c.1)++c::m.drop (iL m c.1)):=by
 rw [uN];unfold iU at h;unfold Dw;cases hx:m[iL m c.1]? with
 | none=>rfl
 | some x =>
  rw [hx] at h;have e:¬ x.1=c.1:=by simpa using h
  simp only;rw [if_neg e]
theorem vZ:∀ a b:List UInt8,D a b<0↔J a b=U
 | [],[]=>by simp [D,J]
 | [],_::_=>by simp [D,J]
 | _::_,[]=>by simp [D,J]
 | a::x,b::y=>by
  simp only [D,J];by_cases h1:a<b
  ·rw [if_pos h1]; simp [h1]
  ·rw [if_neg h1];by_cases h2:b<a
   ·have h3:a≠b:=by rintro rfl; exact h1 h2
    rw [if_pos h2]; simp [h1,h3]
   ·have h3:a=b:=X (Q.1 h2) (Q.1 h1);subst h3;rw [if_neg h2,vZ x y]; simp [h1]
theorem wh:∀ a b:List UInt8,D a b=0↔a=b
 | [],[]=>by simp [D]
 | [],_::_=>by simp [D]
 | _::_,[]=>by simp [D]
 | a::x,b::y=>by
  simp only [D];by_cases h1:a<b
  ·rw [if_pos h1];have h3:a≠b:=by rintro rfl; exact absurd h1 (UInt8.lt_irrefl _)
   simp [h3]
  ·rw [if_neg h1];by_cases h2:b<a
   ·have h3:a≠b:=by rintro rfl; exact h1 h2
    rw [if_pos h2]; simp [h3]
   ·have h3:a=b:=X (Q.1 h2) (Q.1 h1);subst h3;rw [if_neg h2,wh x y]; simp
def uO (a b:ByteArray):Int:=D a.data.toList b.data.toList
theorem Az (a b:ByteArray):decide (uO a b<0)=J a.toList b.toList:=by
 rw [ByteArray.toList_eq,ByteArray.toList_eq,Bool.eq_iff_iff,decide_eq_true_eq];exact vZ _ _
theorem AA (a b:ByteArray):uO a b=0↔a=b:=by
 unfold uO;rw [wh];exact⟨nM,fun h=>by rw [h]⟩
theorem sM {l:List Cn} (h:je l) {i j:Nat} {x y:Cn} (hij:i<=j) (hi:l[i]?=K x) (hj:l[j]?=K y) {n:ByteArray} (hy:J y.1.toList n.toList=U):J x.1.toList n.toList=U:=by
 rcases Nat.lt_or_ge i j with h1|h1
 ·obtain⟨a1,a2⟩:=L.1 hi;obtain⟨b1,b2⟩:=L.1 hj;have h2:=List.pairwise_iff_getElem.1 h i j a1 b1 h1;rw [a2,b2] at h2;exact Mk.qx _ _ _ h2 hy
 ·obtain rfl:i=j:=by omega
  rw [hi] at hj;obtain rfl:=Option.some.inj hj;exact hy
end Go.Proofs.YtghlpefopidlaaaGreat.Pr
namespace Go.Proofs
open Go.Shelf
def Tryz.sortI_ren:Go.Shelf.Ren:=⟨fun | 189=>40 | 125=>109 | 257=>108 | 128=>153 | 129=>154 | 294=>144 | 295=>145 | 296=>146 | 297=>147 | 298=>148 | 299=>149 | 216=>150 | 300=>151 | 301=>152 | 328=>175 | 329=>176 | 330=>177 | 331=>178 | 332=>179 | 215=>128 | 343=>194 | n=>n,fun | 28=>24 | 3=>3 | 46=>155 | 0=>0 | 51=>199 | 53=>201 | 4=>4 | 183=>192 | 182=>191 | 131=>84 | 5=>5 | 9=>9 | 218=>215 | 222=>219 | 228=>234 | 229=>235 | n=>n,fun | n=>n⟩
theorem Tryz.sortI:Go.Proofs.Lays.n189 Tryz.prog Tryz.sortI_ren:={
 mixed:=by kernel_rfl
 f125:=Tryz.func109.trans (congrArg K (by kernel_rfl))
 f128:=Tryz.func153.trans (congrArg K (by kernel_rfl))
 f129:=Tryz.func154.trans (congrArg K (by kernel_rfl))
 f189:=Tryz.func40.trans (congrArg K (by kernel_rfl))
 f215:=Tryz.func128.trans (congrArg K (by kernel_rfl))
 f216:=Tryz.func150.trans (congrArg K (by kernel_rfl))
 f257:=Tryz.func108.trans (congrArg K (by kernel_rfl))
 f294:=Tryz.func144.trans (congrArg K (by kernel_rfl))
 f295:=Tryz.func145.trans (congrArg K (by kernel_rfl))
 f296:=Tryz.func146.trans (congrArg K (by kernel_rfl))
 f297:=Tryz.func147.trans (congrArg K (by kernel_rfl))
 f298:=Tryz.func148.trans (congrArg K (by kernel_rfl))
 f299:=Tryz.func149.trans (congrArg K (by kernel_rfl))
 f300:=Tryz.func151.trans (congrArg K (by kernel_rfl))
 f301:=Tryz.func152.trans (congrArg K (by kernel_rfl))
 f328:=Tryz.func175.trans (congrArg K (by kernel_rfl))
 f329:=Tryz.func176.trans (congrArg K (by kernel_rfl))
 f330:=Tryz.func177.trans (congrArg K (by kernel_rfl))
 f331:=Tryz.func178.trans (congrArg K (by kernel_rfl))
 f332:=Tryz.func179.trans (congrArg K (by kernel_rfl))
 f343:=Tryz.func194.trans (congrArg K (by kernel_rfl))
 t0:=Tryz.underlying0
 a0:=Tryz.isAgg0
 z0:=Tryz.sizeOf0
 v0:=Tryz.zeroValue0
 t3:=Tryz.underlying3
 a3:=Tryz.isAgg3
 z3:=Tryz.sizeOf3
 v3:=Tryz.zeroValue3
 t4:=Tryz.underlying4
 a4:=Tryz.isAgg4
 z4:=Tryz.sizeOf4
 v4:=Tryz.zeroValue4
 t5:=Tryz.underlying5
 a5:=Tryz.isAgg5
 z5:=Tryz.sizeOf5
 v5:=Tryz.zeroValue5
 t9:=Tryz.underlying9
 a9:=Tryz.isAgg9
 z9:=Tryz.sizeOf9
 v9:=Tryz.zeroValue9
 t28:=Tryz.underlying24
 a28:=Tryz.isAgg24
 z28:=Tryz.sizeOf24
 v28:=Tryz.zeroValue24
 t46:=Tryz.underlying155
 a46:=Tryz.isAgg155
 z46:=Tryz.sizeOf155
 v46:=Tryz.zeroValue155
 t51:=Tryz.underlying199
 a51:=Tryz.isAgg199
 z51:=Tryz.sizeOf199
 v51:=Tryz.zeroValue199
 t53:=Tryz.underlying201
 a53:=Tryz.isAgg201
 z53:=Tryz.sizeOf201
 v53:=Tryz.zeroValue201
 t131:=Tryz.underlying84
 a131:=Tryz.isAgg84
 z131:=Tryz.sizeOf84
 v131:=Tryz.zeroValue84
 t182:=Tryz.underlying191
 a182:=Tryz.isAgg191
 z182:=Tryz.sizeOf191
 v182:=Tryz.zeroValue191
 t183:=Tryz.underlying192
 a183:=Tryz.isAgg192
 z183:=Tryz.sizeOf192
 v183:=Tryz.zeroValue192
 t218:=Tryz.underlying215
 a218:=Tryz.isAgg215
 z218:=Tryz.sizeOf215
 v218:=Tryz.zeroValue215
 t222:=Tryz.underlying219
 a222:=Tryz.isAgg219
 z222:=Tryz.sizeOf219
 v222:=Tryz.zeroValue219
 t228:=Tryz.underlying234
 a228:=Tryz.isAgg234
 z228:=Tryz.sizeOf234
 v228:=Tryz.zeroValue234
 t229:=Tryz.underlying235
 a229:=Tryz.isAgg235
 z229:=Tryz.sizeOf235
 v229:=Tryz.zeroValue235 }
def Tryz.cptI_ren:Go.Shelf.Ren:=⟨fun | 20=>41 | n=>n,fun | 0=>0 | 3=>3 | 4=>4 | 22=>24 | n=>n,fun | n=>n⟩
theorem Tryz.cptI:Go.Proofs.Lays2.n20 Tryz.prog Tryz.cptI_ren:={
 mixed:=by kernel_rfl
 i3:=by kernel_rfl
 f20:=Tryz.func41.trans (congrArg K (by kernel_rfl))
 t0:=Tryz.underlying0
 a0:=Tryz.isAgg0
 z0:=Tryz.sizeOf0
 v0:=Tryz.zeroValue0
 t3:=Tryz.underlying3
 a3:=Tryz.isAgg3
 z3:=Tryz.sizeOf3
 v3:=Tryz.zeroValue3
 t4:=Tryz.underlying4
 a4:=Tryz.isAgg4
 z4:=Tryz.sizeOf4
 v4:=Tryz.zeroValue4
 t22:=Tryz.underlying24
 a22:=Tryz.isAgg24
 z22:=Tryz.sizeOf24
 v22:=Tryz.zeroValue24 }
def Tryz.bsI_ren:Go.Shelf.Ren:=⟨fun | 25=>165 | 31=>150 | 32=>186 | 37=>128 | n=>n,fun | 0=>0 | 3=>3 | 4=>4 | 22=>24 | 40=>155 | n=>n,fun | n=>n⟩
theorem Tryz.bsI:Go.Proofs.Lays2.n25 Tryz.prog Tryz.bsI_ren:={
 mixed:=by kernel_rfl
 f25:=Tryz.func165.trans (congrArg K (by kernel_rfl))
 f31:=Tryz.func150.trans (congrArg K (by kernel_rfl))
 f32:=Tryz.func186.trans (congrArg K (by kernel_rfl))
 f37:=Tryz.func128.trans (congrArg K (by kernel_rfl))
 t0:=Tryz.underlying0
 a0:=Tryz.isAgg0
 z0:=Tryz.sizeOf0
 v0:=Tryz.zeroValue0
 t3:=Tryz.underlying3
 a3:=Tryz.isAgg3
 z3:=Tryz.sizeOf3
 v3:=Tryz.zeroValue3
 t4:=Tryz.underlying4
 a4:=Tryz.isAgg4
 z4:=Tryz.sizeOf4
 v4:=Tryz.zeroValue4
 t22:=Tryz.underlying24
 a22:=Tryz.isAgg24
 z22:=Tryz.sizeOf24
 v22:=Tryz.zeroValue24
 t40:=Tryz.underlying155
 a40:=Tryz.isAgg155
 z40:=Tryz.sizeOf155
 v40:=Tryz.zeroValue155 }
end Go.Proofs
namespace Go.Proofs.YtghlpefopidlaaaGreat.Ar
open Go.ChangeShapes Go.WideShapes Go.RowKit
end Go.Proofs.YtghlpefopidlaaaGreat.Ar
