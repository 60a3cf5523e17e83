/-
  Plain facts on what . Conditions as told.
-/
import Derived.Lib.ItoaNum
import GoSem.Claim
import Derived.Laws.Strings
import Derived.RowKit
set_option maxRecDepth 100000
set_option maxHeartbeats 64000000
open _root_.Bool renaming and_eq_true->D,eq_iff_iff->K,true_and->O,true->Q,not_false->X,false_and->Y,not_true->Z,false->ah
open Go.Op renaming bytesLess->U
open _root_.Int renaming le_refl->V
open _root_.List renaming prefix_of_prefix_length_le->L
open Option.some renaming inj->J
namespace Go.Proofs.Ytmklifheakemeaa
namespace Pt
/-! ### the order of texts -/
theorem qI:∀ x:List UInt8,U x x=ah
 | []=>rfl
 | a::x=>by simp [U,qI x]
end Pt
namespace Pu
open Go.RowKit
def Jc (c:UInt8):Bool:=decide (97<=c.toNat) && decide (c.toNat<=122)
def tX (s:ByteArray):Bool:=s.data.toList.all Jc && (decide (1<=s.size) && decide (s.size<=12))
theorem oN {a b:ByteArray} (h:a.toList=b.toList):a=b:=by
 rw [ByteArray.toList_eq,ByteArray.toList_eq] at h;exact WideShapes.bytes_inj h
theorem EK {a b:ByteArray} (h:U a.toList b.toList=Q):a≠b:=by
 rintro rfl;rw [Pt.qI] at h; cases h
end Pu
namespace Pr
open Go.RowKit Pu
inductive Kd where
 | rg (lo hi:Int)
 | tx (t:ByteArray)
 | pr (t:ByteArray)
abbrev Cn:=ByteArray×Kd
abbrev V3:=Bool×Int×ByteArray
def kN:Kd->Int
 | .rg _ _=>1
 | .tx _=>2
 | .pr _=>3
def ko:Kd->Int
 | .rg lo _=>lo
 | _=>0
def kr:Kd->Int
 | .rg _ hi=>hi
 | _=>0
def kT:Kd->ByteArray
 | .rg _ _=>⟨#[]⟩
 | .tx t=>t
 | .pr t=>t
def pfx (s t:ByteArray):Bool:=s.data.toList.isPrefixOf t.data.toList
theorem dZ (s t:ByteArray):pfx s t=Q↔s.data.toList <+: t.data.toList:=List.isPrefixOf_iff_prefix
theorem jk (s:ByteArray):pfx s s=Q:=(dZ s s).2 (List.prefix_refl _)
def fU:Kd->Bool
 | .rg lo hi=>decide (lo<=hi)
 | .tx t=>decide (t.size<=12)
 | .pr t=>decide (t.size<12)
def qJ (c:Cn):Bool:=tX c.1 && fU c.2
def dJ:Kd->V3->Bool
 | .rg lo hi,v=>!v.1 && (decide (lo<=v.2.1) && decide (v.2.1<=hi))
 | .tx t,v=>v.1 && (v.2.2.data.toList == t.data.toList)
 | .pr t,v=>v.1 && pfx t v.2.2
def fV:Kd->Kd->Option Kd
 | .rg a b,.rg c d=>if max a c<=min b d then some (.rg (max a c) (min b d)) else none
 | .tx s,.tx t=>if s.data.toList=t.data.toList then some (.tx s) else none
 | .tx s,.pr t=>if pfx t s then some (.tx s) else none
 | .pr s,.tx t=>if pfx s t then some (.tx t) else none
 | .pr s,.pr t=>if pfx s t then some (.pr t) else if pfx t s then some (.pr s) else none
 | _,_=>none
theorem oO {s t:ByteArray} (h:s.data.toList=t.data.toList):s=t:=WideShapes.bytes_inj h
theorem yC (a b c:Kd) (ha:fU a=Q) (hb:fU b=Q) (h:fV a b=some c):fU c=Q/\∀ v,dJ c v=(dJ a v && dJ b v):=by
 cases a with
 | rg p q=>cases b with
  | rg r s =>
   simp only [fV] at h
   split at h
   ·rename_i hc
    obtain rfl:=J h;refine⟨by simpa [fU] using hc,fun v=>?_⟩;obtain⟨t,n,u⟩:=v;cases t <;> simp only [dJ,Z,X,Y,O];rw [K];simp only [D,decide_eq_true_eq];omega
   ·cases h
  | tx t=>simp [fV] at h
  | pr t=>simp [fV] at h
 | tx p=>cases b with
  | rg r s=>simp [fV] at h
  | tx t =>
   simp only [fV] at h
   split at h
   ·rename_i hc
    obtain rfl:=J h;exact⟨ha,fun v=>by simp [dJ,hc]⟩
   ·cases h
  | pr t =>
   simp only [fV] at h
   split at h
   ·rename_i hc
    obtain rfl:=J h;refine⟨ha,fun v=>?_⟩;rw [K];simp only [dJ,D,beq_iff_eq];constructor
    ·rintro⟨h1,h2⟩;exact⟨⟨h1,h2⟩,h1,by rw [dZ,h2,<- dZ]; exact hc⟩
    ·rintro⟨h1,_⟩;exact h1
   ·cases h
 | pr p=>cases b with
  | rg r s=>simp [fV] at h
  | tx t =>
   simp only [fV] at h
   split at h
   ·rename_i hc
    obtain rfl:=J h;refine⟨hb,fun v=>?_⟩;rw [K];simp only [dJ,D,beq_iff_eq];constructor
    ·rintro⟨h1,h2⟩;exact⟨⟨h1,by rw [dZ,h2,<- dZ]; exact hc⟩,h1,h2⟩
    ·rintro⟨_,h1⟩;exact h1
   ·cases h
  | pr t =>
   simp only [fV] at h
   split at h
   ·rename_i hc
    obtain rfl:=J h;refine⟨hb,fun v=>?_⟩;rw [K];simp only [dJ,D];constructor
    ·rintro⟨h1,h2⟩;exact⟨⟨h1,(dZ _ _).2 (((dZ _ _).1 hc).trans ((dZ _ _).1 h2))⟩,h1,h2⟩
    ·rintro⟨_,h1⟩;exact h1
   ·split at h
    ·rename_i _ hc
     obtain rfl:=J h;refine⟨ha,fun v=>?_⟩;rw [K];simp only [dJ,D];constructor
     ·rintro⟨h1,h2⟩;exact⟨⟨h1,h2⟩,h1,(dZ _ _).2 (((dZ _ _).1 hc).trans ((dZ _ _).1 h2))⟩
     ·rintro⟨h1,_⟩;exact h1
    ·cases h
theorem yD (a b:Kd) (h:fV a b=none) (v:V3):(dJ a v && dJ b v)=ah:=by
 obtain⟨w,n,u⟩:=v;rw [Bool.eq_false_iff];intro hv;rw [D] at hv;obtain⟨h1,h2⟩:=hv;cases a with
 | rg p q=>cases b with
  | rg r s =>
   simp only [fV] at h
   split at h
   ·cases h
   ·rename_i hc
    simp only [dJ,D,decide_eq_true_eq] at h1 h2;omega
  | tx t=>simp only [dJ,D] at h1 h2; rw [h2.1] at h1; cases h1.1
  | pr t=>simp only [dJ,D] at h1 h2; rw [h2.1] at h1; cases h1.1
 | tx p=>cases b with
  | rg r s=>simp only [dJ,D] at h1 h2; rw [h1.1] at h2; cases h2.1
  | tx t =>
   simp only [dJ,D,beq_iff_eq] at h1 h2;simp only [fV] at h;rw [if_pos (h1.2.symm.trans h2.2)] at h;cases h
  | pr t =>
   simp only [dJ,D,beq_iff_eq] at h1 h2;simp only [fV] at h;rw [if_pos (by rw [dZ,<- h1.2,<- dZ]; exact h2.2)] at h;cases h
 | pr p=>cases b with
  | rg r s=>simp only [dJ,D] at h1 h2; rw [h1.1] at h2; cases h2.1
  | tx t =>
   simp only [dJ,D,beq_iff_eq] at h1 h2;simp only [fV] at h;rw [if_pos (by rw [dZ,<- h2.2,<- dZ]; exact h1.2)] at h;cases h
  | pr t =>
   simp only [dJ,D] at h1 h2;have e1:=(dZ _ _).1 h1.2;have e2:=(dZ _ _).1 h2.2;simp only [fV] at h;rcases Nat.le_total p.data.toList.length t.data.toList.length with hl|hl
   ·rw [if_pos ((dZ _ _).2 (L e1 e2 hl))] at h;cases h
   ·by_cases hp:pfx p t=Q
    ·rw [if_pos hp] at h; cases h
    ·rw [if_neg hp,if_pos ((dZ _ _).2 (L e2 e1 hl))] at h;cases h
theorem vP (a:Kd) (h:fU a=Q):∃ v,dJ a v=Q:=by
 cases a with
 | rg lo hi =>
  simp only [fU,decide_eq_true_eq] at h;exact⟨(ah,lo,⟨#[]⟩),by simp [dJ,h]⟩
 | tx t=>exact⟨(Q,0,t),by simp [dJ]⟩
 | pr t=>exact⟨(Q,0,t),by simp only [dJ,O]; exact jk t⟩
theorem iT (t s:ByteArray):dJ (.pr t) (Q,0,s)=pfx t s:=by simp only [dJ,O]
theorem jh (t s:ByteArray):dJ (.tx t) (Q,0,s)=(s.data.toList == t.data.toList):=by simp only [dJ,O]
theorem kY (a b:Int) (s:ByteArray):dJ (.rg a b) (Q,0,s)=ah:=by simp only [dJ,Z,Y]
theorem oP (a b n:Int):dJ (.rg a b) (ah,n,⟨#[]⟩)=(decide (a<=n) && decide (n<=b)):=by simp only [dJ,X,O]
def more (t:ByteArray):ByteArray:=⟨(t.data.toList++[0]).toArray⟩
theorem tY (t:ByteArray):pfx t (more t)=Q:=(dZ _ _).2 (List.prefix_append _ _)
theorem qK (p t:ByteArray) (h:∀ v,dJ (.tx p) v=dJ (.pr t) v):False:=by
 have h1:=h (Q,0,more t);have h2:=h (Q,0,t);rw [jh,iT,tY,beq_iff_eq] at h1;rw [jh,iT,jk,beq_iff_eq] at h2;rw [<- h2] at h1;have h3:=congrArg List.length h1;simp [more] at h3
theorem vQ (a b:Kd) (ha:fU a=Q) (hb:fU b=Q) (h:∀ v,dJ a v=dJ b v):a=b:=by
 cases a with
 | rg p q=>cases b with
  | rg r s =>
   simp only [fU,decide_eq_true_eq] at ha hb;have le:∀ n,(p<=n/\n<=q)↔(r<=n/\n<=s):=fun n=>by
    have h1:=h (ah,n,⟨#[]⟩);rw [oP,oP,K,D,D,decide_eq_true_eq,decide_eq_true_eq,decide_eq_true_eq,decide_eq_true_eq] at h1;exact h1
   have h1:=(le p).1 ⟨V _,ha⟩;have h2:=(le q).1 ⟨ha,V _⟩;have h3:=(le r).2 ⟨V _,hb⟩;have h4:=(le s).2 ⟨hb,V _⟩;rw [show p=r by omega,show q=s by omega]
  | tx t=>have h1:=h (Q,0,t); rw [kY,jh,beq_self_eq_true] at h1; cases h1
  | pr t=>have h1:=h (Q,0,t); rw [kY,iT,jk] at h1; cases h1
 | tx p=>cases b with
  | rg r s=>have h1:=h (Q,0,p); rw [kY,jh,beq_self_eq_true] at h1; cases h1
  | tx t =>
   have h1:=h (Q,0,p);rw [jh,jh,beq_self_eq_true] at h1;rw [oO (beq_iff_eq.1 h1.symm)]
  | pr t=>exact (qK p t h).elim
 | pr p=>cases b with
  | rg r s=>have h1:=h (Q,0,p); rw [kY,iT,jk] at h1; cases h1
  | tx t=>exact (qK t p fun v=>(h v).symm).elim
  | pr t =>
   have h1:=h (Q,0,p);have h2:=h (Q,0,t);rw [iT,iT,jk] at h1 h2;have e1:=(dZ _ _).1 h1.symm;have e2:=(dZ _ _).1 h2;rw [oO (e2.eq_of_length_le e1.length_le)]
/-! ### normal forms -/
def qL (l:List Cn):Prop:=l.Pairwise fun x y=>U x.1.toList y.1.toList=Q
/-! ### what they say -/
end Pr
end Go.Proofs.Ytmklifheakemeaa
