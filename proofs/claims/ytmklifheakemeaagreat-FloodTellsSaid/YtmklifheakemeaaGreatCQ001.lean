/-
  Plain facts on what . Conditions as told.
-/
import Derived.Lib.ItoaNum
import GoSem.Claim
import Derived.Laws.Strings
import Derived.RowKit
set_option maxRecDepth 100000
set_option maxHeartbeats 64000000
open _root_.Bool renaming and_eq_true->D,true->L,eq_iff_iff->O,true_and->Y,false->au,not_false->ay,false_and->aA,not_true->aB
open Go.Op renaming bytesLess->J
open _root_.Int renaming le_refl->ak
open _root_.List renaming pairwise_cons->V,prefix_of_prefix_length_le->X,mem_cons_of_mem->Z,mem_cons_self->ah,mem_cons->aj
open Option.some renaming inj->K
open _root_.Or renaming inr->Q,inl->U
namespace Go.Proofs.YtmklifheakemeaaGreat
namespace VaP
/-! ### the order of texts -/
theorem Ec:∀ x:List UInt8,J x x=au
 | []=>rfl
 | a::x=>by simp [J,Ec x]
theorem GK (a b:UInt8) (x y:List UInt8):J (a::x) (b::y)=L↔a.toNat<b.toNat\/(a.toNat=b.toNat/\J x y=L):=by
 simp only [J,Bool.or_eq_true,decide_eq_true_eq,D,beq_iff_eq,UInt8.lt_iff_toNat_lt];constructor
 ·rintro (h|⟨h,k⟩)
  ·exact U h
  ·exact Q ⟨by rw [h],k⟩
 ·rintro (h|⟨h,k⟩)
  ·exact U h
  ·exact Q ⟨UInt8.toNat_inj.1 h,k⟩
theorem AV:∀ x y z:List UInt8,J x y=L->J y z=L->J x z=L
 | _,[],_,h,_=>by cases ‹List UInt8› <;> simp [J] at h
 | _,_::_,[],_,k=>by simp [J] at k
 | [],_::_,_::_,_,_=>rfl
 | a::x,b::y,c::z,h,k=>by
  rw [GK] at h k ⊢;rcases h with h|⟨h,h2⟩ <;> rcases k with k|⟨k,k2⟩
  ·exact U (by omega)
  ·exact U (by omega)
  ·exact U (by omega)
  ·exact Q ⟨by omega,AV x y z h2 k2⟩
theorem I5:∀ x y:List UInt8,J x y=L\/x=y\/J y x=L
 | [],[]=>Q (U rfl)
 | [],_::_=>U rfl
 | _::_,[]=>Q (Q rfl)
 | a::x,b::y=>by
  rw [GK,GK];rcases Nat.lt_trichotomy a.toNat b.toNat with h|h|h
  ·exact U (U h)
  ·rcases I5 x y with k|k|k
   ·exact U (Q ⟨h,k⟩)
   ·exact Q (U (by rw [k,UInt8.toNat_inj.1 h]))
   ·exact Q (Q (Q ⟨h.symm,k⟩))
  ·exact Q (Q (U h))
end VaP
namespace Pu
open Go.RowKit
def zZ (c:UInt8):Bool:=decide (97<=c.toNat) && decide (c.toNat<=122)
def kQ (s:ByteArray):Bool:=s.data.toList.all zZ && (decide (1<=s.size) && decide (s.size<=12))
theorem Ed (s:ByteArray) (k:Nat) (h:k<s.size) (hc:zZ s[k]=au):kQ s=au:=by
 have:s.data.toList.all zZ=au:=by
  rw [List.all_eq_false];exact⟨s[k],by rw [Array.mem_toList_iff]; exact Array.getElem_mem h,by rw [hc]; decide⟩
 simp [kQ,this]
theorem QA (s:ByteArray) (h:∀ (j:Nat) (hj:j<s.size),zZ s[j]=L):kQ s=(decide (1<=s.size) && decide (s.size<=12)):=by
 have:s.data.toList.all zZ=L:=by
  rw [List.all_eq_true];intro c hc;obtain⟨j,hj,rfl⟩:=List.getElem_of_mem hc;exact h j (by rw [Array.length_toList] at hj; exact hj)
 simp [kQ,this]
theorem tL {a b:ByteArray} (h:a.toList=b.toList):a=b:=by
 rw [ByteArray.toList_eq,ByteArray.toList_eq] at h;exact WideShapes.bytes_inj h
theorem Oh {a b:ByteArray} (h:J a.toList b.toList=L):a≠b:=by
 rintro rfl;rw [VaP.Ec] at h; cases h
theorem aaf {a b:ByteArray} (h1:¬ J a.toList b.toList=L) (h2:a≠b):J b.toList a.toList=L:=by
 rcases VaP.I5 a.toList b.toList with h|h|h
 ·exact absurd h h1
 ·exact absurd (tL h) h2
 ·exact h
end Pu
namespace Pr
open Go.RowKit Pu
inductive Kd where
 | rg (lo hi:Int)
 | tx (t:ByteArray)
 | pr (t:ByteArray)
abbrev Cn:=ByteArray×Kd
abbrev V3:=Bool×Int×ByteArray
def kN:Kd->Int
 | .rg _ _=>1
 | .tx _=>2
 | .pr _=>3
def jQ:Kd->Int
 | .rg lo _=>lo
 | _=>0
def jR:Kd->Int
 | .rg _ hi=>hi
 | _=>0
def kT:Kd->ByteArray
 | .rg _ _=>⟨#[]⟩
 | .tx t=>t
 | .pr t=>t
def pfx (s t:ByteArray):Bool:=s.data.toList.isPrefixOf t.data.toList
theorem gB (s t:ByteArray):pfx s t=L↔s.data.toList <+: t.data.toList:=List.isPrefixOf_iff_prefix
theorem o7 (s:ByteArray):pfx s s=L:=(gB s s).2 (List.prefix_refl _)
def iY:Kd->Bool
 | .rg lo hi=>decide (lo<=hi)
 | .tx t=>decide (t.size<=12)
 | .pr t=>decide (t.size<12)
def vM (c:Cn):Bool:=kQ c.1 && iY c.2
def eH:Kd->V3->Bool
 | .rg lo hi,v=>!v.1 && (decide (lo<=v.2.1) && decide (v.2.1<=hi))
 | .tx t,v=>v.1 && (v.2.2.data.toList == t.data.toList)
 | .pr t,v=>v.1 && pfx t v.2.2
def fG:Kd->Kd->Option Kd
 | .rg a b,.rg c d=>if max a c<=min b d then some (.rg (max a c) (min b d)) else none
 | .tx s,.tx t=>if s.data.toList=t.data.toList then some (.tx s) else none
 | .tx s,.pr t=>if pfx t s then some (.tx s) else none
 | .pr s,.tx t=>if pfx s t then some (.tx t) else none
 | .pr s,.pr t=>if pfx s t then some (.pr t) else if pfx t s then some (.pr s) else none
 | _,_=>none
theorem qR {s t:ByteArray} (h:s.data.toList=t.data.toList):s=t:=WideShapes.bytes_inj h
theorem QC (a b c:Kd) (ha:iY a=L) (hb:iY b=L) (h:fG a b=some c):iY c=L/\∀ v,eH c v=(eH a v && eH b v):=by
 cases a with
 | rg p q=>cases b with
  | rg r s =>
   simp only [fG] at h
   split at h
   ·rename_i hc
    obtain rfl:=K h;refine⟨by simpa [iY] using hc,fun v=>?_⟩;obtain⟨t,n,u⟩:=v;cases t <;> simp only [eH,aB,ay,aA,Y];rw [O];simp only [D,decide_eq_true_eq];omega
   ·cases h
  | tx t=>simp [fG] at h
  | pr t=>simp [fG] at h
 | tx p=>cases b with
  | rg r s=>simp [fG] at h
  | tx t =>
   simp only [fG] at h
   split at h
   ·rename_i hc
    obtain rfl:=K h;exact⟨ha,fun v=>by simp [eH,hc]⟩
   ·cases h
  | pr t =>
   simp only [fG] at h
   split at h
   ·rename_i hc
    obtain rfl:=K h;refine⟨ha,fun v=>?_⟩;rw [O];simp only [eH,D,beq_iff_eq];constructor
    ·rintro⟨h1,h2⟩;exact⟨⟨h1,h2⟩,h1,by rw [gB,h2,<- gB]; exact hc⟩
    ·rintro⟨h1,_⟩;exact h1
   ·cases h
 | pr p=>cases b with
  | rg r s=>simp [fG] at h
  | tx t =>
   simp only [fG] at h
   split at h
   ·rename_i hc
    obtain rfl:=K h;refine⟨hb,fun v=>?_⟩;rw [O];simp only [eH,D,beq_iff_eq];constructor
    ·rintro⟨h1,h2⟩;exact⟨⟨h1,by rw [gB,h2,<- gB]; exact hc⟩,h1,h2⟩
    ·rintro⟨_,h1⟩;exact h1
   ·cases h
  | pr t =>
   simp only [fG] at h
   split at h
   ·rename_i hc
    obtain rfl:=K h;refine⟨hb,fun v=>?_⟩;rw [O];simp only [eH,D];constructor
    ·rintro⟨h1,h2⟩;exact⟨⟨h1,(gB _ _).2 (((gB _ _).1 hc).trans ((gB _ _).1 h2))⟩,h1,h2⟩
    ·rintro⟨_,h1⟩;exact h1
   ·split at h
    ·rename_i _ hc
     obtain rfl:=K h;refine⟨ha,fun v=>?_⟩;rw [O];simp only [eH,D];constructor
     ·rintro⟨h1,h2⟩;exact⟨⟨h1,h2⟩,h1,(gB _ _).2 (((gB _ _).1 hc).trans ((gB _ _).1 h2))⟩
     ·rintro⟨h1,_⟩;exact h1
    ·cases h
theorem QD (a b:Kd) (h:fG a b=none) (v:V3):(eH a v && eH b v)=au:=by
 obtain⟨w,n,u⟩:=v;rw [Bool.eq_false_iff];intro hv;rw [D] at hv;obtain⟨h1,h2⟩:=hv;cases a with
 | rg p q=>cases b with
  | rg r s =>
   simp only [fG] at h
   split at h
   ·cases h
   ·rename_i hc
    simp only [eH,D,decide_eq_true_eq] at h1 h2;omega
  | tx t=>simp only [eH,D] at h1 h2; rw [h2.1] at h1; cases h1.1
  | pr t=>simp only [eH,D] at h1 h2; rw [h2.1] at h1; cases h1.1
 | tx p=>cases b with
  | rg r s=>simp only [eH,D] at h1 h2; rw [h1.1] at h2; cases h2.1
  | tx t =>
   simp only [eH,D,beq_iff_eq] at h1 h2;simp only [fG] at h;rw [if_pos (h1.2.symm.trans h2.2)] at h;cases h
  | pr t =>
   simp only [eH,D,beq_iff_eq] at h1 h2;simp only [fG] at h;rw [if_pos (by rw [gB,<- h1.2,<- gB]; exact h2.2)] at h;cases h
 | pr p=>cases b with
  | rg r s=>simp only [eH,D] at h1 h2; rw [h1.1] at h2; cases h2.1
  | tx t =>
   simp only [eH,D,beq_iff_eq] at h1 h2;simp only [fG] at h;rw [if_pos (by rw [gB,<- h2.2,<- gB]; exact h1.2)] at h;cases h
  | pr t =>
   simp only [eH,D] at h1 h2;have e1:=(gB _ _).1 h1.2;have e2:=(gB _ _).1 h2.2;simp only [fG] at h;rcases Nat.le_total p.data.toList.length t.data.toList.length with hl|hl
   ·rw [if_pos ((gB _ _).2 (X e1 e2 hl))] at h;cases h
   ·by_cases hp:pfx p t=L
    ·rw [if_pos hp] at h; cases h
    ·rw [if_neg hp,if_pos ((gB _ _).2 (X e2 e1 hl))] at h;cases h
theorem Md (a:Kd) (h:iY a=L):∃ v,eH a v=L:=by
 cases a with
 | rg lo hi =>
  simp only [iY,decide_eq_true_eq] at h;exact⟨(au,lo,⟨#[]⟩),by simp [eH,h]⟩
 | tx t=>exact⟨(L,0,t),by simp [eH]⟩
 | pr t=>exact⟨(L,0,t),by simp only [eH,Y]; exact o7 t⟩
theorem lW (t s:ByteArray):eH (.pr t) (L,0,s)=pfx t s:=by simp only [eH,Y]
theorem nE (t s:ByteArray):eH (.tx t) (L,0,s)=(s.data.toList == t.data.toList):=by simp only [eH,Y]
theorem uJ (a b:Int) (s:ByteArray):eH (.rg a b) (L,0,s)=au:=by simp only [eH,aB,aA]
theorem AX (a b n:Int):eH (.rg a b) (au,n,⟨#[]⟩)=(decide (a<=n) && decide (n<=b)):=by simp only [eH,ay,Y]
def more (t:ByteArray):ByteArray:=⟨(t.data.toList++[0]).toArray⟩
theorem I6 (t:ByteArray):pfx t (more t)=L:=(gB _ _).2 (List.prefix_append _ _)
theorem Ee (p t:ByteArray) (h:∀ v,eH (.tx p) v=eH (.pr t) v):False:=by
 have h1:=h (L,0,more t);have h2:=h (L,0,t);rw [nE,lW,I6,beq_iff_eq] at h1;rw [nE,lW,o7,beq_iff_eq] at h2;rw [<- h2] at h1;have h3:=congrArg List.length h1;simp [more] at h3
theorem Me (a b:Kd) (ha:iY a=L) (hb:iY b=L) (h:∀ v,eH a v=eH b v):a=b:=by
 cases a with
 | rg p q=>cases b with
  | rg r s =>
   simp only [iY,decide_eq_true_eq] at ha hb;have le:∀ n,(p<=n/\n<=q)↔(r<=n/\n<=s):=fun n=>by
    have h1:=h (au,n,⟨#[]⟩);rw [AX,AX,O,D,D,decide_eq_true_eq,decide_eq_true_eq,decide_eq_true_eq,decide_eq_true_eq] at h1;exact h1
   have h1:=(le p).1 ⟨ak _,ha⟩;have h2:=(le q).1 ⟨ha,ak _⟩;have h3:=(le r).2 ⟨ak _,hb⟩;have h4:=(le s).2 ⟨hb,ak _⟩;rw [show p=r by omega,show q=s by omega]
  | tx t=>have h1:=h (L,0,t); rw [uJ,nE,beq_self_eq_true] at h1; cases h1
  | pr t=>have h1:=h (L,0,t); rw [uJ,lW,o7] at h1; cases h1
 | tx p=>cases b with
  | rg r s=>have h1:=h (L,0,p); rw [uJ,nE,beq_self_eq_true] at h1; cases h1
  | tx t =>
   have h1:=h (L,0,p);rw [nE,nE,beq_self_eq_true] at h1;rw [qR (beq_iff_eq.1 h1.symm)]
  | pr t=>exact (Ee p t h).elim
 | pr p=>cases b with
  | rg r s=>have h1:=h (L,0,p); rw [uJ,lW,o7] at h1; cases h1
  | tx t=>exact (Ee t p fun v=>(h v).symm).elim
  | pr t =>
   have h1:=h (L,0,p);have h2:=h (L,0,t);rw [lW,lW,o7] at h1 h2;have e1:=(gB _ _).1 h1.symm;have e2:=(gB _ _).1 h2;rw [qR (e2.eq_of_length_le e1.length_le)]
/-! ### normal forms -/
def jW (l:List Cn):Prop:=l.Pairwise fun x y=>J x.1.toList y.1.toList=L
def o8:List Cn->Cn->Option (List Cn)
 | [],c=>some [c]
 | x::r,c=>if J x.1.toList c.1.toList=L then (o8 r c).map (x::·) else if x.1=c.1 then (fG x.2 c.2).map (fun k=>(x.1,k)::r) else some (c::x::r)
def kD:Nat->List Cn->List Cn->Except (Int×Nat) (List Cn)
 | _,m,[]=>.ok m
 | at_,m,c::r=>match o8 m c with
  | none=>.error (5,at_)
  | some m'=>if 5<m'.length then .error (7,at_) else kD (at_+1) m' r
def AY (l:List Cn):Except (Int×Nat) (List Cn):=kD 0 [] l
theorem GQ:∀ (m:List Cn) (c:Cn),(∀ x∈m,J x.1.toList c.1.toList=L)->o8 m c=some (m++[c])
 | [],c,_=>rfl
 | x::r,c,h=>by
  simp only [o8];rw [if_pos (h x (ah ..)),GQ r c (fun y hy=>h y (Z _ hy))]
  rfl
theorem I7:∀ (p m:List Cn) (at_:Nat),jW (m++p)->(m++p).length<=5->kD at_ m p=.ok (m++p)
 | [],m,at_,_,_=>by simp [kD]
 | c::r,m,at_,h,h5=>by
  have h1:∀ x∈m,J x.1.toList c.1.toList=L:=fun x hx=>(List.pairwise_append.1 h).2.2 x hx c (ah ..);simp only [kD];rw [GQ m c h1];simp only;rw [if_neg (by simp at h5 ⊢; omega),I7 r (m++[c]) (at_+1) (by simpa using h) (by simpa using h5)];simp
theorem QE (p:List Cn) (h:jW p) (h5:p.length<=5):AY p=.ok p:=by
 have:=I7 p [] 0 (by simpa using h) (by simpa using h5);simpa [AY] using this
theorem zw:∀ (a b m m':List Cn) (at_:Nat),kD at_ m a=.ok m'->kD at_ m (a++b)=kD (at_+a.length) m' b
 | [],b,m,m',at_,h=>by
  simp only [kD] at h;injection h with h
  subst h;simp
 | c::r,b,m,m',at_,h=>by
  simp only [List.cons_append,kD] at h ⊢;cases hi:o8 m c with
  | none=>rw [hi] at h; cases h
  | some n =>
   rw [hi] at h;simp only at h ⊢
   split at h
   ·cases h
   ·rename_i hn
    rw [if_neg hn,zw r b n m' (at_+1) h];rw [List.length_cons,show at_+1+r.length=at_+(r.length+1) by omega]
theorem kR:∀ (m:List Cn) (c:Cn) (m':List Cn),jW m->o8 m c=some m'->jW m'/\∀ y∈m',y.1=c.1\/∃ x∈m,x.1=y.1
 | [],c,m',_,h=>by
  obtain rfl:=K h;exact⟨List.pairwise_singleton _ _,fun y hy=>U (by simp at hy; rw [hy])⟩
 | x::r,c,m',hr,h=>by
  obtain⟨h1,h2⟩:=V.1 hr;simp only [o8] at h
  split at h
  ·rename_i hl
   cases hi:o8 r c with
   | none=>rw [hi] at h; cases h
   | some n =>
    rw [hi] at h;obtain rfl:=K h;obtain⟨k1,k2⟩:=kR r c n h2 hi;refine⟨V.2 ⟨fun y hy=>?_,k1⟩,fun y hy=>?_⟩
    ·rcases k2 y hy with e|⟨z,hz,e⟩
     ·rw [e]; exact hl
     ·rw [<- e]; exact h1 z hz
    ·rcases aj.1 hy with rfl|hy
     ·exact Q ⟨y,ah ..,rfl⟩
     ·rcases k2 y hy with e|⟨z,hz,e⟩
      ·exact U e
      ·exact Q ⟨z,Z _ hz,e⟩
  ·rename_i hl
   split at h
   ·rename_i he
    cases hb:fG x.2 c.2 with
    | none=>rw [hb] at h; cases h
    | some k =>
     rw [hb] at h;obtain rfl:=K h;refine⟨V.2 ⟨fun y hy=>h1 y hy,h2⟩,fun y hy=>?_⟩;rcases aj.1 hy with rfl|hy
     ·exact U he
     ·exact Q ⟨y,Z _ hy,rfl⟩
   ·rename_i he
    obtain rfl:=K h;have hc:J c.1.toList x.1.toList=L:=aaf hl he;refine⟨V.2 ⟨fun y hy=>?_,hr⟩,fun y hy=>?_⟩
    ·rcases aj.1 hy with rfl|hy
     ·exact hc
     ·exact VaP.AV _ _ _ hc (h1 y hy)
    ·rcases aj.1 hy with rfl|hy
     ·exact U rfl
     ·exact Q ⟨y,hy,rfl⟩
/-! ### what they say -/
end Pr
end Go.Proofs.YtmklifheakemeaaGreat
