/-
  Plain facts on predi. Conditions as told.
-/
import Derived.Test.YtkcfgbddlpomgaaBQ002
set_option maxRecDepth 100000
set_option maxHeartbeats 64000000
open _root_.Bool renaming and_eq_true->D,eq_iff_iff->K,true_and->O,true->Q,not_false->V,false_and->X,not_true->Y,false->Z
open _root_.Int renaming le_refl->U
open _root_.List renaming prefix_of_prefix_length_le->L
open Option.some renaming inj->J
namespace Go.Proofs.Ytkcfgbddlpomgaa.Pr
open Go.RowKit Pu
inductive Kd where
 | rg (lo hi:Int)
 | tx (t:ByteArray)
 | pr (t:ByteArray)
abbrev Cn:=ByteArray×Kd
abbrev V3:=Bool×Int×ByteArray
def kN:Kd->Int
 | .rg _ _=>1
 | .tx _=>2
 | .pr _=>3
def jO:Kd->Int
 | .rg lo _=>lo
 | _=>0
def jP:Kd->Int
 | .rg _ hi=>hi
 | _=>0
def kT:Kd->ByteArray
 | .rg _ _=>⟨#[]⟩
 | .tx t=>t
 | .pr t=>t
def pfx (s t:ByteArray):Bool:=s.data.toList.isPrefixOf t.data.toList
theorem dK (s t:ByteArray):pfx s t=Q↔s.data.toList <+: t.data.toList:=List.isPrefixOf_iff_prefix
theorem iE (s:ByteArray):pfx s s=Q:=(dK s s).2 (List.prefix_refl _)
def fJ:Kd->Bool
 | .rg lo hi=>decide (lo<=hi)
 | .tx t=>decide (t.size<=12)
 | .pr t=>decide (t.size<12)
def wN (c:Cn):Bool:=wM c.1 && fJ c.2
def cZ:Kd->V3->Bool
 | .rg lo hi,v=>!v.1 && (decide (lo<=v.2.1) && decide (v.2.1<=hi))
 | .tx t,v=>v.1 && (v.2.2.data.toList == t.data.toList)
 | .pr t,v=>v.1 && pfx t v.2.2
def eu:Kd->Kd->Option Kd
 | .rg a b,.rg c d=>if max a c<=min b d then some (.rg (max a c) (min b d)) else none
 | .tx s,.tx t=>if s.data.toList=t.data.toList then some (.tx s) else none
 | .tx s,.pr t=>if pfx t s then some (.tx s) else none
 | .pr s,.tx t=>if pfx s t then some (.tx t) else none
 | .pr s,.pr t=>if pfx s t then some (.pr t) else if pfx t s then some (.pr s) else none
 | _,_=>none
theorem lI {s t:ByteArray} (h:s.data.toList=t.data.toList):s=t:=WideShapes.bytes_inj h
theorem uo (a b c:Kd) (ha:fJ a=Q) (hb:fJ b=Q) (h:eu a b=some c):fJ c=Q/\∀ v,cZ c v=(cZ a v && cZ b v):=by
 cases a with
 | rg p q=>cases b with
  | rg r s =>
   simp only [eu] at h
   split at h
   ·rename_i hc
    obtain rfl:=J h;refine⟨by simpa [fJ] using hc,fun v=>?_⟩;obtain⟨t,n,u⟩:=v;cases t <;> simp only [cZ,Y,V,X,O];rw [K];simp only [D,decide_eq_true_eq];omega
   ·cases h
  | tx t=>simp [eu] at h
  | pr t=>simp [eu] at h
 | tx p=>cases b with
  | rg r s=>simp [eu] at h
  | tx t =>
   simp only [eu] at h
   split at h
   ·rename_i hc
    obtain rfl:=J h;exact⟨ha,fun v=>by simp [cZ,hc]⟩
   ·cases h
  | pr t =>
   simp only [eu] at h
   split at h
   ·rename_i hc
    obtain rfl:=J h;refine⟨ha,fun v=>?_⟩;rw [K];simp only [cZ,D,beq_iff_eq];constructor
    ·rintro⟨h1,h2⟩;exact⟨⟨h1,h2⟩,h1,by rw [dK,h2,<- dK]; exact hc⟩
    ·rintro⟨h1,_⟩;exact h1
   ·cases h
 | pr p=>cases b with
  | rg r s=>simp [eu] at h
  | tx t =>
   simp only [eu] at h
   split at h
   ·rename_i hc
    obtain rfl:=J h;refine⟨hb,fun v=>?_⟩;rw [K];simp only [cZ,D,beq_iff_eq];constructor
    ·rintro⟨h1,h2⟩;exact⟨⟨h1,by rw [dK,h2,<- dK]; exact hc⟩,h1,h2⟩
    ·rintro⟨_,h1⟩;exact h1
   ·cases h
  | pr t =>
   simp only [eu] at h
   split at h
   ·rename_i hc
    obtain rfl:=J h;refine⟨hb,fun v=>?_⟩;rw [K];simp only [cZ,D];constructor
    ·rintro⟨h1,h2⟩;exact⟨⟨h1,(dK _ _).2 (((dK _ _).1 hc).trans ((dK _ _).1 h2))⟩,h1,h2⟩
    ·rintro⟨_,h1⟩;exact h1
   ·split at h
    ·rename_i _ hc
     obtain rfl:=J h;refine⟨ha,fun v=>?_⟩;rw [K];simp only [cZ,D];constructor
     ·rintro⟨h1,h2⟩;exact⟨⟨h1,h2⟩,h1,(dK _ _).2 (((dK _ _).1 hc).trans ((dK _ _).1 h2))⟩
     ·rintro⟨h1,_⟩;exact h1
    ·cases h
theorem uq (a b:Kd) (h:eu a b=none) (v:V3):(cZ a v && cZ b v)=Z:=by
 obtain⟨w,n,u⟩:=v;rw [Bool.eq_false_iff];intro hv;rw [D] at hv;obtain⟨h1,h2⟩:=hv;cases a with
 | rg p q=>cases b with
  | rg r s =>
   simp only [eu] at h
   split at h
   ·cases h
   ·rename_i hc
    simp only [cZ,D,decide_eq_true_eq] at h1 h2;omega
  | tx t=>simp only [cZ,D] at h1 h2; rw [h2.1] at h1; cases h1.1
  | pr t=>simp only [cZ,D] at h1 h2; rw [h2.1] at h1; cases h1.1
 | tx p=>cases b with
  | rg r s=>simp only [cZ,D] at h1 h2; rw [h1.1] at h2; cases h2.1
  | tx t =>
   simp only [cZ,D,beq_iff_eq] at h1 h2;simp only [eu] at h;rw [if_pos (h1.2.symm.trans h2.2)] at h;cases h
  | pr t =>
   simp only [cZ,D,beq_iff_eq] at h1 h2;simp only [eu] at h;rw [if_pos (by rw [dK,<- h1.2,<- dK]; exact h2.2)] at h;cases h
 | pr p=>cases b with
  | rg r s=>simp only [cZ,D] at h1 h2; rw [h1.1] at h2; cases h2.1
  | tx t =>
   simp only [cZ,D,beq_iff_eq] at h1 h2;simp only [eu] at h;rw [if_pos (by rw [dK,<- h2.2,<- dK]; exact h1.2)] at h;cases h
  | pr t =>
   simp only [cZ,D] at h1 h2;have e1:=(dK _ _).1 h1.2;have e2:=(dK _ _).1 h2.2;simp only [eu] at h;rcases Nat.le_total p.data.toList.length t.data.toList.length with hl|hl
   ·rw [if_pos ((dK _ _).2 (L e1 e2 hl))] at h;cases h
   ·by_cases hp:pfx p t=Q
    ·rw [if_pos hp] at h; cases h
    ·rw [if_neg hp,if_pos ((dK _ _).2 (L e2 e1 hl))] at h;cases h
theorem qO (a:Kd) (h:fJ a=Q):∃ v,cZ a v=Q:=by
 cases a with
 | rg lo hi =>
  simp only [fJ,decide_eq_true_eq] at h;exact⟨(Z,lo,⟨#[]⟩),by simp [cZ,h]⟩
 | tx t=>exact⟨(Q,0,t),by simp [cZ]⟩
 | pr t=>exact⟨(Q,0,t),by simp only [cZ,O]; exact iE t⟩
theorem gI (t s:ByteArray):cZ (.pr t) (Q,0,s)=pfx t s:=by simp only [cZ,O]
theorem gP (t s:ByteArray):cZ (.tx t) (Q,0,s)=(s.data.toList == t.data.toList):=by simp only [cZ,O]
theorem jl (a b:Int) (s:ByteArray):cZ (.rg a b) (Q,0,s)=Z:=by simp only [cZ,Y,X]
theorem lJ (a b n:Int):cZ (.rg a b) (Z,n,⟨#[]⟩)=(decide (a<=n) && decide (n<=b)):=by simp only [cZ,V,O]
def more (t:ByteArray):ByteArray:=⟨(t.data.toList++[0]).toArray⟩
theorem pF (t:ByteArray):pfx t (more t)=Q:=(dK _ _).2 (List.prefix_append _ _)
theorem nD (p t:ByteArray) (h:∀ v,cZ (.tx p) v=cZ (.pr t) v):False:=by
 have h1:=h (Q,0,more t);have h2:=h (Q,0,t);rw [gP,gI,pF,beq_iff_eq] at h1;rw [gP,gI,iE,beq_iff_eq] at h2;rw [<- h2] at h1;have h3:=congrArg List.length h1;simp [more] at h3
theorem qP (a b:Kd) (ha:fJ a=Q) (hb:fJ b=Q) (h:∀ v,cZ a v=cZ b v):a=b:=by
 cases a with
 | rg p q=>cases b with
  | rg r s =>
   simp only [fJ,decide_eq_true_eq] at ha hb;have le:∀ n,(p<=n/\n<=q)↔(r<=n/\n<=s):=fun n=>by
    have h1:=h (Z,n,⟨#[]⟩);rw [lJ,lJ,K,D,D,decide_eq_true_eq,decide_eq_true_eq,decide_eq_true_eq,decide_eq_true_eq] at h1;exact h1
   have h1:=(le p).1 ⟨U _,ha⟩;have h2:=(le q).1 ⟨ha,U _⟩;have h3:=(le r).2 ⟨U _,hb⟩;have h4:=(le s).2 ⟨hb,U _⟩;rw [show p=r by omega,show q=s by omega]
  | tx t=>have h1:=h (Q,0,t); rw [jl,gP,beq_self_eq_true] at h1; cases h1
  | pr t=>have h1:=h (Q,0,t); rw [jl,gI,iE] at h1; cases h1
 | tx p=>cases b with
  | rg r s=>have h1:=h (Q,0,p); rw [jl,gP,beq_self_eq_true] at h1; cases h1
  | tx t =>
   have h1:=h (Q,0,p);rw [gP,gP,beq_self_eq_true] at h1;rw [lI (beq_iff_eq.1 h1.symm)]
  | pr t=>exact (nD p t h).elim
 | pr p=>cases b with
  | rg r s=>have h1:=h (Q,0,p); rw [jl,gI,iE] at h1; cases h1
  | tx t=>exact (nD t p fun v=>(h v).symm).elim
  | pr t =>
   have h1:=h (Q,0,p);have h2:=h (Q,0,t);rw [gI,gI,iE] at h1 h2;have e1:=(dK _ _).1 h1.symm;have e2:=(dK _ _).1 h2;rw [lI (e2.eq_of_length_le e1.length_le)]
/-! ### normal forms -/
def su (l:List Cn):Prop:=l.Pairwise fun x y=>Op.bytesLess x.1.toList y.1.toList=Q
/-! ### what they say -/
end Go.Proofs.Ytkcfgbddlpomgaa.Pr
