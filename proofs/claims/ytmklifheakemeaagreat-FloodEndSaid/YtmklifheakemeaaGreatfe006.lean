/-
  A list of numbers th. Conditions as told.
-/
import Derived.ChangeSlices
import Derived.ProofKit
import Derived.Below
import Derived.Test.YtmklifheakemeaaGreatfe005
import Derived.Laws.AppendOwn
import Derived.Laws.OwnMore
import Derived.Deep.Slices
import Derived.Maps.AppendAt
import Derived.Lib.QuietBelow
import Derived.BigQuiet
import Derived.Shelf.Slices.In.SortNone
import Derived.Shelf.Sort.Plain
import Derived.Shelf.Slices.CompactI
import Derived.Shelf.Slices.SearchI
import Derived.Test.YtmklifheakemeaaGreatfe002
import Derived.Lib.Bytealg
import Derived.OpenShut
import Derived.Carry
import Derived.ChangeMaps5
import Derived.ChangeArms
set_option maxRecDepth 100000
set_option maxHeartbeats 64000000
open _root_.Go renaming Value->aB,World->aO,TypeId->aV
open Go.Lib renaming compareBytes->D
open Go.Op renaming bytesLess->J
open Go.Proofs.Tryz renaming underlying22->O,prog->V,underlying3->X,underlying0->Z,underlying4->ah,zeroValue22->aj,zeroValue0->au,zeroValue3->ay,zeroValue4->aA,sizeOf22->aC,underlying139->aD,sizeOf0->aF,sizeOf3->aG,sizeOf4->aH,isAgg22->aI,zeroValue139->aJ,isAgg0->aL,isAgg3->aM,isAgg4->aN,sizeOf139->aP,isAgg139->aQ,ntmps44->aS,func44->aU
open Go.Value renaming string->K,slice->aR,int->aW
open _root_.List renaming getElem?_eq_some_iff->Q,getElem?_eq_getElem->U,getD_eq_getElem?_getD->Y
open _root_.Option renaming some->L
open _root_.UInt8 renaming not_lt->ak,le_antisymm->aK,ofNat->aT
namespace Go.Proofs.YtmklifheakemeaaGreat.In
open Go.RowKit Go.ChangeShapes Go.WideShapes
structure nR (W:aO) (nv:aB) (zs:List Int):Prop where
 shape:∃ ao cap,nv=aR ao zs.length cap
 at_:∀ (i:Nat) (z:Int),zs[i]?=L z->(-9223372036854775808<=z/\z<=9223372036854775807)/\∃ p:Addr,p.block<W.heap.size/\(∀ w,(Instr.indexAt 22 nv (aW .i64 i)).run V w=.ok (.pointer (L p)) w)/\W.cell? p=L (aW .i64 z)
theorem nR.on {W W':aO} {nv:aB} {zs:List Int} (h:nR W nv zs) (hb:Below W.heap.size W W'):nR W' nv zs :=
 ⟨h.shape,fun i z hz=>by
  obtain⟨h1,p,h2,h3,h4⟩:=h.at_ i z hz;exact⟨h1,p,Nat.lt_of_lt_of_le h2 hb.size,h3,by rw [hb.cell h2]; exact h4⟩⟩
theorem uH {n:Int} (h:(Lit.int .i64 n).wf=true):-9223372036854775808<=n/\n<=9223372036854775807:=by
 have h2:(decide (IntKind.i64.min<=n) && decide (n<=IntKind.i64.max))=true:=h;rw [Bool.and_eq_true,decide_eq_true_eq,decide_eq_true_eq,show IntKind.i64.min=-9223372036854775808 by decide,show IntKind.i64.max=9223372036854775807 by decide] at h2;exact h2
theorem Kr:Tryz.prog.cellsOf 3=1:=by kernel_rfl
theorem Kt (a:Addr) (m len cap:Nat) (h:m<len) (w:aO):(Instr.indexAt 22 (aR (L a) len cap) (aW .i64 m)).run V w=.ok (.pointer (L (a.add m))) w:=by
 have h1:(m:Int)<len:=by omega
 simp [go_sem,O,h1]
theorem M9 {H:Type} {enc:aV×aB->H} {W:aO} {sp:Nat->Bool} {held:Bool} {fuel:Nat} {v:aB} {x:DataW H×List MemPlace}
  (hf:DataW.trod enc V W 0 sp held fuel 22 [v]=L x):∃ zs,zs.length<=maxLen/\nR W v zs:=by
 rcases open_ints O X Kr hf with⟨h1,_⟩|⟨a',len',cap',zs,h1,_,h3,h4,h5,_,h7,h8⟩
 ·have e:v=aR none 0 0:=by simpa using h1
  rw [e];exact⟨[],Nat.zero_le _,⟨none,0,rfl⟩,fun i z h=>by simp at h⟩
 ·have e:v=aR (L a') len' cap':=by simpa using h1
  rw [e];have hle:len'<=zs.length:=by rw [h5]; split <;> omega
  have hl:(zs.take len').length=len':=by simp; omega
  refine⟨zs.take len',by omega,⟨L a',cap',by rw [hl]⟩,fun i z hz=>?_⟩;obtain⟨hi,hzi⟩:=Q.1 hz;have hi2:i<len':=by omega
  have hz2:zs[i]'(by omega)=z:=by simpa using hzi
  have hc:=h7 i (by omega);have hg:zs.getD i 0=z:=by rw [<- hz2]; simp [List.getD,show i<zs.length by omega]
  rw [hg] at hc;exact⟨uH (h8 z (by rw [<- hz2]; exact List.getElem_mem _)),a'.add i,World.block_lt_of_cell? W _ hc,fun w=>Kt a' i len' cap' hi2 w,hc⟩
end Go.Proofs.YtmklifheakemeaaGreat.In
namespace Go.Proofs.YtmklifheakemeaaGreat.At
open Go.RowKit Va
abbrev A4:=ByteArray×Bool×Int×ByteArray
abbrev av (x:A4):aB:=.agg #[K x.1,.bool x.2.1,aW .i64 x.2.2.1,K x.2.2.2]
def acs (x:A4):List aB:=[K x.1,.bool x.2.1,aW .i64 x.2.2.1,K x.2.2.2]
end Go.Proofs.YtmklifheakemeaaGreat.At
namespace Go.Proofs.YtmklifheakemeaaGreat.At
open Go.RowKit Va In
def nm (i:Nat):ByteArray:=⟨#[aT (97+i)]⟩
def wH:Array aB:=#[K ⟨#[97]⟩,K ⟨#[98]⟩,K ⟨#[99]⟩,K ⟨#[100]⟩,K ⟨#[101]⟩,K ⟨#[102]⟩,K ⟨#[103]⟩]
def sP (zs:List Int) (i:Nat):Int:=if zs=[] then 0 else zs.getD (i % zs.length) 0
def odd (z:Int):Bool:=bits BinOp.and IntKind.i64 z 1 == 1
end Go.Proofs.YtmklifheakemeaaGreat.At
namespace Go.Proofs.YtmklifheakemeaaGreat.At
open Go.RowKit Go.Sort Va In
end Go.Proofs.YtmklifheakemeaaGreat.At
namespace Go.Proofs.YtmklifheakemeaaGreat.At
open Go.RowKit Go.Sort Va In
def zJ (c:UInt8):Bool:=decide (97<=c.toNat) && decide (c.toNat<=122)
def nV (s:ByteArray):Bool:=s.data.toList.all zJ && (decide (1<=s.size) && decide (s.size<=12))
end Go.Proofs.YtmklifheakemeaaGreat.At
namespace Go.Proofs
open Go.Shelf
def Tryz.sortI_ren:Go.Shelf.Ren:=⟨fun | 189=>33 | 125=>90 | 257=>89 | 128=>138 | 129=>139 | 294=>129 | 295=>130 | 296=>131 | 297=>132 | 298=>133 | 299=>134 | 216=>135 | 300=>136 | 301=>137 | 328=>161 | 329=>162 | 330=>163 | 331=>164 | 332=>165 | 215=>111 | 343=>182 | n=>n,fun | 28=>22 | 3=>3 | 46=>139 | 0=>0 | 51=>183 | 53=>185 | 4=>4 | 183=>176 | 182=>175 | 131=>126 | 5=>5 | 9=>9 | 218=>209 | 222=>213 | 228=>229 | 229=>230 | n=>n,fun | n=>n⟩
theorem Tryz.sortI:Go.Proofs.Lays.n189 V Tryz.sortI_ren:={
 mixed:=by kernel_rfl
 f125:=Tryz.func90.trans (congrArg L (by kernel_rfl))
 f128:=Tryz.func138.trans (congrArg L (by kernel_rfl))
 f129:=Tryz.func139.trans (congrArg L (by kernel_rfl))
 f189:=Tryz.func33.trans (congrArg L (by kernel_rfl))
 f215:=Tryz.func111.trans (congrArg L (by kernel_rfl))
 f216:=Tryz.func135.trans (congrArg L (by kernel_rfl))
 f257:=Tryz.func89.trans (congrArg L (by kernel_rfl))
 f294:=Tryz.func129.trans (congrArg L (by kernel_rfl))
 f295:=Tryz.func130.trans (congrArg L (by kernel_rfl))
 f296:=Tryz.func131.trans (congrArg L (by kernel_rfl))
 f297:=Tryz.func132.trans (congrArg L (by kernel_rfl))
 f298:=Tryz.func133.trans (congrArg L (by kernel_rfl))
 f299:=Tryz.func134.trans (congrArg L (by kernel_rfl))
 f300:=Tryz.func136.trans (congrArg L (by kernel_rfl))
 f301:=Tryz.func137.trans (congrArg L (by kernel_rfl))
 f328:=Tryz.func161.trans (congrArg L (by kernel_rfl))
 f329:=Tryz.func162.trans (congrArg L (by kernel_rfl))
 f330:=Tryz.func163.trans (congrArg L (by kernel_rfl))
 f331:=Tryz.func164.trans (congrArg L (by kernel_rfl))
 f332:=Tryz.func165.trans (congrArg L (by kernel_rfl))
 f343:=Tryz.func182.trans (congrArg L (by kernel_rfl))
 t0:=Z
 a0:=aL
 z0:=aF
 v0:=au
 t3:=X
 a3:=aM
 z3:=aG
 v3:=ay
 t4:=ah
 a4:=aN
 z4:=aH
 v4:=aA
 t5:=Tryz.underlying5
 a5:=Tryz.isAgg5
 z5:=Tryz.sizeOf5
 v5:=Tryz.zeroValue5
 t9:=Tryz.underlying9
 a9:=Tryz.isAgg9
 z9:=Tryz.sizeOf9
 v9:=Tryz.zeroValue9
 t28:=O
 a28:=aI
 z28:=aC
 v28:=aj
 t46:=aD
 a46:=aQ
 z46:=aP
 v46:=aJ
 t51:=Tryz.underlying183
 a51:=Tryz.isAgg183
 z51:=Tryz.sizeOf183
 v51:=Tryz.zeroValue183
 t53:=Tryz.underlying185
 a53:=Tryz.isAgg185
 z53:=Tryz.sizeOf185
 v53:=Tryz.zeroValue185
 t131:=Tryz.underlying126
 a131:=Tryz.isAgg126
 z131:=Tryz.sizeOf126
 v131:=Tryz.zeroValue126
 t182:=Tryz.underlying175
 a182:=Tryz.isAgg175
 z182:=Tryz.sizeOf175
 v182:=Tryz.zeroValue175
 t183:=Tryz.underlying176
 a183:=Tryz.isAgg176
 z183:=Tryz.sizeOf176
 v183:=Tryz.zeroValue176
 t218:=Tryz.underlying209
 a218:=Tryz.isAgg209
 z218:=Tryz.sizeOf209
 v218:=Tryz.zeroValue209
 t222:=Tryz.underlying213
 a222:=Tryz.isAgg213
 z222:=Tryz.sizeOf213
 v222:=Tryz.zeroValue213
 t228:=Tryz.underlying229
 a228:=Tryz.isAgg229
 z228:=Tryz.sizeOf229
 v228:=Tryz.zeroValue229
 t229:=Tryz.underlying230
 a229:=Tryz.isAgg230
 z229:=Tryz.sizeOf230
 v229:=Tryz.zeroValue230 }
def Tryz.cptI_ren:Go.Shelf.Ren:=⟨fun | 20=>34 | n=>n,fun | 0=>0 | 3=>3 | 4=>4 | 22=>22 | n=>n,fun | n=>n⟩
theorem Tryz.cptI:Go.Proofs.Lays2.n20 V Tryz.cptI_ren:={
 mixed:=by kernel_rfl
 i3:=by kernel_rfl
 f20:=Tryz.func34.trans (congrArg L (by kernel_rfl))
 t0:=Z
 a0:=aL
 z0:=aF
 v0:=au
 t3:=X
 a3:=aM
 z3:=aG
 v3:=ay
 t4:=ah
 a4:=aN
 z4:=aH
 v4:=aA
 t22:=O
 a22:=aI
 z22:=aC
 v22:=aj }
def Tryz.bsI_ren:Go.Shelf.Ren:=⟨fun | 25=>154 | 31=>135 | 32=>175 | 37=>111 | n=>n,fun | 0=>0 | 3=>3 | 4=>4 | 22=>22 | 40=>139 | n=>n,fun | n=>n⟩
theorem Tryz.bsI:Go.Proofs.Lays2.n25 V Tryz.bsI_ren:={
 mixed:=by kernel_rfl
 f25:=Tryz.func154.trans (congrArg L (by kernel_rfl))
 f31:=Tryz.func135.trans (congrArg L (by kernel_rfl))
 f32:=Tryz.func175.trans (congrArg L (by kernel_rfl))
 f37:=Tryz.func111.trans (congrArg L (by kernel_rfl))
 t0:=Z
 a0:=aL
 z0:=aF
 v0:=au
 t3:=X
 a3:=aM
 z3:=aG
 v3:=ay
 t4:=ah
 a4:=aN
 z4:=aH
 v4:=aA
 t22:=O
 a22:=aI
 z22:=aC
 v22:=aj
 t40:=aD
 a40:=aQ
 z40:=aP
 v40:=aJ }
end Go.Proofs
namespace Go.Proofs.YtmklifheakemeaaGreat.Kp
open Go.RowKit Va In
def nm (i:Nat):ByteArray:=⟨#[aT (97+i)]⟩
def wH:Array aB:=#[K ⟨#[97]⟩,K ⟨#[98]⟩,K ⟨#[99]⟩,K ⟨#[100]⟩,K ⟨#[101]⟩,K ⟨#[102]⟩,K ⟨#[103]⟩]
theorem aei (i:Nat) (h:i<7):wH[i]?=L (K (nm i)):=by
 match i,h with
 | 0,_=>rfl
 | 1,_=>rfl
 | 2,_=>rfl
 | 3,_=>rfl
 | 4,_=>rfl
 | 5,_=>rfl
 | 6,_=>rfl
theorem Pz (w:aO):Calls V 42 #[] w fun e w'=>e=.returned (aR (L ⟨w.heap.size,0,none⟩) 7 7)/\w'=w.alloc (.cells wH 9):=by
 go_enter Tryz.func42,Tryz.ntmps42;go_wp2;go_ret;exact⟨rfl,rfl⟩
def sP (zs:List Int) (i:Nat):Int:=if zs=[] then 0 else zs.getD (i % zs.length) 0
theorem RI (nv:aB) (zs:List Int) (i:Nat) (w:aO) (hz:nR w nv zs) (hl:zs.length<=maxLen) (hi:i<=100) :
  Calls V 44 #[nv,aW .i64 i] w fun e w'=>e=.returned (aW .i64 (sP zs i))/\w=w':=by
 obtain⟨ao,cap,rfl⟩:=hz.shape;unfold maxLen at hl;cases zs with
 | nil =>
  go_enter aU,aS;go_wp2;go_ret;exact⟨rfl,rfl⟩
 | cons z r =>
  have hm:i % (z::r).length<(z::r).length:=Nat.mod_lt _ (by simp);obtain⟨y,hy⟩:∃ y,(z::r)[i % (z::r).length]?=L y:=⟨_,U hm⟩;obtain⟨_,p,_,hix,hpc⟩:=hz.at_ _ y hy;have P:=Lib.hid (show sP (z::r) i=y by unfold sP; rw [if_neg (by simp),Y,hy]; rfl);have h0:((((z::r).length:Nat):Int) == 0)=false:=by simp; omega
  have hne:(((z::r).length:Nat):Int)≠0:=by simp; omega
  have ht:(i:Int) % ((z::r).length:Nat)=((i % (z::r).length:Nat):Int):=rfl;have ht2:(i:Int).tmod ((z::r).length:Nat)=((i % (z::r).length:Nat):Int):=by
   rw [Int.tmod_eq_emod_of_nonneg (by omega)]; rfl
  have hn0:0<(((z::r).length:Nat):Int):=by simp
  generalize (z::r).length=n at *;generalize i % n=m at *;clear hz hy hm;go_enter aU,aS;go_wp2;go_ret;exact⟨Wi.FR P.out.symm,rfl⟩
def odd (z:Int):Bool:=bits BinOp.and IntKind.i64 z 1 == 1
theorem RJ {W:aO} {nv:aB} {zs:List Int} (hz:nR W nv zs) (i:Nat):-9223372036854775808<=sP zs i/\sP zs i<=9223372036854775807:=by
 unfold sP
 split
 ·omega
 ·rename_i h
  have hm:i % zs.length<zs.length:=Nat.mod_lt _ (List.length_pos_iff.2 h);have:=(hz.at_ _ _ (U hm)).1;rw [Y,U hm];exact this
end Go.Proofs.YtmklifheakemeaaGreat.Kp
namespace Go.Proofs.YtmklifheakemeaaGreat.Pr
open Go.RowKit Pu
def jW:List Cn->ByteArray->Nat
 | [],_=>0
 | x::r,n=>if J x.1.toList n.toList=true then jW r n+1 else 0
theorem wI:∀ l n,jW l n<=l.length
 | [],n=>Nat.le_refl _
 | x::r,n=>by
  have:=wI r n;simp only [jW]
  split <;> simp; omega
theorem Na:∀ (l:List Cn) (n:ByteArray) (k:Nat),k<=l.length->(∀ (j:Nat) (y:Cn),j<k->l[j]?=L y->J y.1.toList n.toList=true)->(∀ y:Cn,l[k]?=L y->J y.1.toList n.toList=false)->jW l n=k
 | [],n,k,hk,_,_=>by simp at hk; simp [jW,hk]
 | x::r,n,0,_,_,h=>by simp [jW,h x rfl]
 | x::r,n,k+1,hk,h1,h2=>by
  simp only [jW];rw [if_pos (h1 0 x (by omega) rfl),Na r n k (by simpa using hk) (fun j y hj hy=>h1 (j+1) y (by omega) (by simpa using hy)) (fun y hy=>h2 y (by simpa using hy))]
def kC (l:List Cn) (n:ByteArray):Bool:=match l[jW l n]? with
 | some x=>decide (x.1=n)
 | none=>false
def RN (m:List Cn) (c:Cn):Option (List Cn):=match m[jW m c.1]? with
 | some x=>if x.1=c.1 then (fE x.2 c.2).map fun k=>m.set (jW m c.1) (x.1,k) else L (m.take (jW m c.1)++c::m.drop (jW m c.1))
 | none=>L (m.take (jW m c.1)++c::m.drop (jW m c.1))
theorem FT:∀ (m:List Cn) (c:Cn),oM m c=RN m c
 | [],c=>rfl
 | x::r,c=>by
  unfold RN;simp only [oM,jW]
  split
  ·rw [FT r c,RN];simp only [List.getElem?_cons_succ,List.take_succ_cons,List.drop_succ_cons,List.set_cons_succ];cases h:r[jW r c.1]? with
   | none=>simp
   | some y =>
    simp only
    split
    ·simp [Option.map_map,Function.comp_def]
    ·simp
  ·simp
theorem Dy {m:List Cn} {c:Cn} (h:kC m c.1=true):∃ x,m[jW m c.1]?=L x/\x.1=c.1/\oM m c=(fE x.2 c.2).map fun k=>m.set (jW m c.1) (x.1,k):=by
 rw [FT];unfold kC at h;unfold RN;cases hx:m[jW m c.1]? with
 | none=>rw [hx] at h; cases h
 | some x =>
  rw [hx] at h;have e:x.1=c.1:=by simpa using h
  exact⟨x,rfl,e,by simp only; rw [if_pos e]⟩
theorem zW {m:List Cn} {c:Cn} (h:kC m c.1=false):oM m c=L (m.take (jW m c.1)++c::m.drop (jW m c.1)):=by
 rw [FT];unfold kC at h;unfold RN;cases hx:m[jW m c.1]? with
 | none=>rfl
 | some x =>
  rw [hx] at h;have e:¬ x.1=c.1:=by simpa using h
  simp only;rw [if_neg e]
theorem Hw:∀ a b:List UInt8,D a b<0↔J a b=true
 | [],[]=>by simp [D,J]
 | [],_::_=>by simp [D,J]
 | _::_,[]=>by simp [D,J]
 | a::x,b::y=>by
  simp only [D,J];by_cases h1:a<b
  ·rw [if_pos h1]; simp [h1]
  ·rw [if_neg h1];by_cases h2:b<a
   ·have h3:a≠b:=by rintro rfl; exact h1 h2
    rw [if_pos h2]; simp [h1,h3]
   ·have h3:a=b:=aK (ak.1 h2) (ak.1 h1);subst h3;rw [if_neg h2,Hw x y]; simp [h1]
theorem Hy:∀ a b:List UInt8,D a b=0↔a=b
 | [],[]=>by simp [D]
 | [],_::_=>by simp [D]
 | _::_,[]=>by simp [D]
 | a::x,b::y=>by
  simp only [D];by_cases h1:a<b
  ·rw [if_pos h1];have h3:a≠b:=by rintro rfl; exact absurd h1 (UInt8.lt_irrefl _)
   simp [h3]
  ·rw [if_neg h1];by_cases h2:b<a
   ·have h3:a≠b:=by rintro rfl; exact h1 h2
    rw [if_pos h2]; simp [h3]
   ·have h3:a=b:=aK (ak.1 h2) (ak.1 h1);subst h3;rw [if_neg h2,Hy x y]; simp
def FU (a b:ByteArray):Int:=D a.data.toList b.data.toList
theorem PD (a b:ByteArray):decide (FU a b<0)=J a.toList b.toList:=by
 rw [ByteArray.toList_eq,ByteArray.toList_eq,Bool.eq_iff_iff,decide_eq_true_eq];exact Hw _ _
theorem PG (a b:ByteArray):FU a b=0↔a=b:=by
 unfold FU;rw [Hy];exact⟨qL,fun h=>by rw [h]⟩
theorem Dz {l:List Cn} (h:jN l) {i j:Nat} {x y:Cn} (hij:i<=j) (hi:l[i]?=L x) (hj:l[j]?=L y) {n:ByteArray} (hy:J y.1.toList n.toList=true):J x.1.toList n.toList=true:=by
 rcases Nat.lt_or_ge i j with h1|h1
 ·obtain⟨a1,a2⟩:=Q.1 hi;obtain⟨b1,b2⟩:=Q.1 hj;have h2:=List.pairwise_iff_getElem.1 h i j a1 b1 h1;rw [a2,b2] at h2;exact VaP.Aj _ _ _ h2 hy
 ·obtain rfl:i=j:=by omega
  rw [hi] at hj;obtain rfl:=Option.some.inj hj;exact hy
end Go.Proofs.YtmklifheakemeaaGreat.Pr
namespace Go.Proofs.YtmklifheakemeaaGreat.Ar
open Go.ChangeShapes Go.WideShapes Go.RowKit
def readable (P:Program) (ts:List aV):Bool:=ts.all fun t=>P.readableRec t && decide (t<P.types.size)
theorem carry {H:Type} {enc:aV×aB->H} {P:Program} (hl:laidOutB P=true) {W W':aO} (hb:Below W.heap.size W W') :
  ∀ (ts:List aV) (vs:List aB) (ds:List (DataW H)) (ps:List MemPlace),readable P ts=true->DataW.TrodAll enc P W 0 (fun _=>true) true ts vs ds ps->(∀ x∈ps,x.block<W.heap.size) ->
   DataW.TrodAll enc P W' 0 (fun b=>decide (b<W.heap.size)) true ts vs ds ps
 | [],vs,ds,ps,_,h,_=>by
  obtain⟨rfl,rfl,rfl⟩:=trodAll_nil h;exact trodAll_mk0
 | t::ts,vs,ds,ps,hr,h,hlt=>by
  obtain⟨v,vs',d,ds',p,q,rfl,rfl,rfl,h1,h2⟩:=trodAll_cons h;simp only [readable,List.all_cons,Bool.and_eq_true,decide_eq_true_eq] at hr;exact trodAll_cons_mk (Below.trod hl hr.1.1 hr.1.2 h1 hb (fun x hx=>hlt x (List.mem_append_left _ hx)))
   (carry hl hb ts vs' ds' q hr.2 h2 (fun x hx=>hlt x (List.mem_append_right _ hx)))
end Go.Proofs.YtmklifheakemeaaGreat.Ar
