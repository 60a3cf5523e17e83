/-
  Plain facts on what . Conditions as told.
-/
import Derived.Lib.ItoaNum
import GoSem.Claim
import Derived.Laws.Strings
import Derived.RowKit
set_option maxRecDepth 100000
set_option maxHeartbeats 64000000
open _root_.Bool renaming and_eq_true->D,true->L,eq_iff_iff->Q,true_and->Y,false->au,not_false->ay,false_and->aA,not_true->aB
open Go.Op renaming bytesLess->J
open _root_.Int renaming le_refl->ak
open _root_.List renaming pairwise_cons->O,prefix_of_prefix_length_le->X,mem_cons_of_mem->Z,mem_cons_self->ah,mem_cons->aj
open Option.some renaming inj->K
open _root_.Or renaming inr->U,inl->V
namespace Go.Proofs.YtghlpefopidlaaaGreat
namespace VaP
/-! ### the order of texts -/
theorem yV:∀ x:List UInt8,J x x=au
 | []=>rfl
 | a::x=>by simp [J,yV x]
theorem IU (a b:UInt8) (x y:List UInt8):J (a::x) (b::y)=L↔a.toNat<b.toNat\/(a.toNat=b.toNat/\J x y=L):=by
 simp only [J,Bool.or_eq_true,decide_eq_true_eq,D,beq_iff_eq,UInt8.lt_iff_toNat_lt];constructor
 ·rintro (h|⟨h,k⟩)
  ·exact V h
  ·exact U ⟨by rw [h],k⟩
 ·rintro (h|⟨h,k⟩)
  ·exact V h
  ·exact U ⟨UInt8.toNat_inj.1 h,k⟩
theorem Bu:∀ x y z:List UInt8,J x y=L->J y z=L->J x z=L
 | _,[],_,h,_=>by cases ‹List UInt8› <;> simp [J] at h
 | _,_::_,[],_,k=>by simp [J] at k
 | [],_::_,_::_,_,_=>rfl
 | a::x,b::y,c::z,h,k=>by
  rw [IU] at h k ⊢;rcases h with h|⟨h,h2⟩ <;> rcases k with k|⟨k,k2⟩
  ·exact V (by omega)
  ·exact V (by omega)
  ·exact V (by omega)
  ·exact U ⟨by omega,Bu x y z h2 k2⟩
theorem JR:∀ x y:List UInt8,J x y=L\/x=y\/J y x=L
 | [],[]=>U (V rfl)
 | [],_::_=>V rfl
 | _::_,[]=>U (U rfl)
 | a::x,b::y=>by
  rw [IU,IU];rcases Nat.lt_trichotomy a.toNat b.toNat with h|h|h
  ·exact V (V h)
  ·rcases JR x y with k|k|k
   ·exact V (U ⟨h,k⟩)
   ·exact U (V (by rw [k,UInt8.toNat_inj.1 h]))
   ·exact U (U (U ⟨h.symm,k⟩))
  ·exact U (U (V h))
end VaP
namespace Pu
open Go.RowKit
def Aw (c:UInt8):Bool:=decide (97<=c.toNat) && decide (c.toNat<=122)
def pK (s:ByteArray):Bool:=s.data.toList.all Aw && (decide (1<=s.size) && decide (s.size<=12))
theorem Fy (s:ByteArray) (k:Nat) (h:k<s.size) (hc:Aw s[k]=au):pK s=au:=by
 have:s.data.toList.all Aw=au:=by
  rw [List.all_eq_false];exact⟨s[k],by rw [Array.mem_toList_iff]; exact Array.getElem_mem h,by rw [hc]; decide⟩
 simp [pK,this]
theorem Tg (s:ByteArray) (h:∀ (j:Nat) (hj:j<s.size),Aw s[j]=L):pK s=(decide (1<=s.size) && decide (s.size<=12)):=by
 have:s.data.toList.all Aw=L:=by
  rw [List.all_eq_true];intro c hc;obtain⟨j,hj,rfl⟩:=List.getElem_of_mem hc;exact h j (by rw [Array.length_toList] at hj; exact hj)
 simp [pK,this]
theorem uP {a b:ByteArray} (h:a.toList=b.toList):a=b:=by
 rw [ByteArray.toList_eq,ByteArray.toList_eq] at h;exact WideShapes.bytes_inj h
theorem Ba {a b:ByteArray} (h:J a.toList b.toList=L):a≠b:=by
 rintro rfl;rw [VaP.yV] at h; cases h
theorem abK {a b:ByteArray} (h1:¬ J a.toList b.toList=L) (h2:a≠b):J b.toList a.toList=L:=by
 rcases VaP.JR a.toList b.toList with h|h|h
 ·exact absurd h h1
 ·exact absurd (uP h) h2
 ·exact h
end Pu
namespace Pr
open Go.RowKit Pu
inductive Kd where
 | rg (lo hi:Int)
 | tx (t:ByteArray)
 | pr (t:ByteArray)
abbrev Cn:=ByteArray×Kd
abbrev V3:=Bool×Int×ByteArray
def kN:Kd->Int
 | .rg _ _=>1
 | .tx _=>2
 | .pr _=>3
def kH:Kd->Int
 | .rg lo _=>lo
 | _=>0
def kI:Kd->Int
 | .rg _ hi=>hi
 | _=>0
def kT:Kd->ByteArray
 | .rg _ _=>⟨#[]⟩
 | .tx t=>t
 | .pr t=>t
def pfx (s t:ByteArray):Bool:=s.data.toList.isPrefixOf t.data.toList
theorem gH (s t:ByteArray):pfx s t=L↔s.data.toList <+: t.data.toList:=List.isPrefixOf_iff_prefix
theorem qD (s:ByteArray):pfx s s=L:=(gH s s).2 (List.prefix_refl _)
def iE:Kd->Bool
 | .rg lo hi=>decide (lo<=hi)
 | .tx t=>decide (t.size<=12)
 | .pr t=>decide (t.size<12)
def wJ (c:Cn):Bool:=pK c.1 && iE c.2
def eP:Kd->V3->Bool
 | .rg lo hi,v=>!v.1 && (decide (lo<=v.2.1) && decide (v.2.1<=hi))
 | .tx t,v=>v.1 && (v.2.2.data.toList == t.data.toList)
 | .pr t,v=>v.1 && pfx t v.2.2
def fH:Kd->Kd->Option Kd
 | .rg a b,.rg c d=>if max a c<=min b d then some (.rg (max a c) (min b d)) else none
 | .tx s,.tx t=>if s.data.toList=t.data.toList then some (.tx s) else none
 | .tx s,.pr t=>if pfx t s then some (.tx s) else none
 | .pr s,.tx t=>if pfx s t then some (.tx t) else none
 | .pr s,.pr t=>if pfx s t then some (.pr t) else if pfx t s then some (.pr s) else none
 | _,_=>none
theorem rV {s t:ByteArray} (h:s.data.toList=t.data.toList):s=t:=WideShapes.bytes_inj h
theorem Fz (a b c:Kd) (ha:iE a=L) (hb:iE b=L) (h:fH a b=some c):iE c=L/\∀ v,eP c v=(eP a v && eP b v):=by
 cases a with
 | rg p q=>cases b with
  | rg r s =>
   simp only [fH] at h
   split at h
   ·rename_i hc
    obtain rfl:=K h;refine⟨by simpa [iE] using hc,fun v=>?_⟩;obtain⟨t,n,u⟩:=v;cases t <;> simp only [eP,aB,ay,aA,Y];rw [Q];simp only [D,decide_eq_true_eq];omega
   ·cases h
  | tx t=>simp [fH] at h
  | pr t=>simp [fH] at h
 | tx p=>cases b with
  | rg r s=>simp [fH] at h
  | tx t =>
   simp only [fH] at h
   split at h
   ·rename_i hc
    obtain rfl:=K h;exact⟨ha,fun v=>by simp [eP,hc]⟩
   ·cases h
  | pr t =>
   simp only [fH] at h
   split at h
   ·rename_i hc
    obtain rfl:=K h;refine⟨ha,fun v=>?_⟩;rw [Q];simp only [eP,D,beq_iff_eq];constructor
    ·rintro⟨h1,h2⟩;exact⟨⟨h1,h2⟩,h1,by rw [gH,h2,<- gH]; exact hc⟩
    ·rintro⟨h1,_⟩;exact h1
   ·cases h
 | pr p=>cases b with
  | rg r s=>simp [fH] at h
  | tx t =>
   simp only [fH] at h
   split at h
   ·rename_i hc
    obtain rfl:=K h;refine⟨hb,fun v=>?_⟩;rw [Q];simp only [eP,D,beq_iff_eq];constructor
    ·rintro⟨h1,h2⟩;exact⟨⟨h1,by rw [gH,h2,<- gH]; exact hc⟩,h1,h2⟩
    ·rintro⟨_,h1⟩;exact h1
   ·cases h
  | pr t =>
   simp only [fH] at h
   split at h
   ·rename_i hc
    obtain rfl:=K h;refine⟨hb,fun v=>?_⟩;rw [Q];simp only [eP,D];constructor
    ·rintro⟨h1,h2⟩;exact⟨⟨h1,(gH _ _).2 (((gH _ _).1 hc).trans ((gH _ _).1 h2))⟩,h1,h2⟩
    ·rintro⟨_,h1⟩;exact h1
   ·split at h
    ·rename_i _ hc
     obtain rfl:=K h;refine⟨ha,fun v=>?_⟩;rw [Q];simp only [eP,D];constructor
     ·rintro⟨h1,h2⟩;exact⟨⟨h1,h2⟩,h1,(gH _ _).2 (((gH _ _).1 hc).trans ((gH _ _).1 h2))⟩
     ·rintro⟨h1,_⟩;exact h1
    ·cases h
theorem FJ (a b:Kd) (h:fH a b=none) (v:V3):(eP a v && eP b v)=au:=by
 obtain⟨w,n,u⟩:=v;rw [Bool.eq_false_iff];intro hv;rw [D] at hv;obtain⟨h1,h2⟩:=hv;cases a with
 | rg p q=>cases b with
  | rg r s =>
   simp only [fH] at h
   split at h
   ·cases h
   ·rename_i hc
    simp only [eP,D,decide_eq_true_eq] at h1 h2;omega
  | tx t=>simp only [eP,D] at h1 h2; rw [h2.1] at h1; cases h1.1
  | pr t=>simp only [eP,D] at h1 h2; rw [h2.1] at h1; cases h1.1
 | tx p=>cases b with
  | rg r s=>simp only [eP,D] at h1 h2; rw [h1.1] at h2; cases h2.1
  | tx t =>
   simp only [eP,D,beq_iff_eq] at h1 h2;simp only [fH] at h;rw [if_pos (h1.2.symm.trans h2.2)] at h;cases h
  | pr t =>
   simp only [eP,D,beq_iff_eq] at h1 h2;simp only [fH] at h;rw [if_pos (by rw [gH,<- h1.2,<- gH]; exact h2.2)] at h;cases h
 | pr p=>cases b with
  | rg r s=>simp only [eP,D] at h1 h2; rw [h1.1] at h2; cases h2.1
  | tx t =>
   simp only [eP,D,beq_iff_eq] at h1 h2;simp only [fH] at h;rw [if_pos (by rw [gH,<- h2.2,<- gH]; exact h1.2)] at h;cases h
  | pr t =>
   simp only [eP,D] at h1 h2;have e1:=(gH _ _).1 h1.2;have e2:=(gH _ _).1 h2.2;simp only [fH] at h;rcases Nat.le_total p.data.toList.length t.data.toList.length with hl|hl
   ·rw [if_pos ((gH _ _).2 (X e1 e2 hl))] at h;cases h
   ·by_cases hp:pfx p t=L
    ·rw [if_pos hp] at h; cases h
    ·rw [if_neg hp,if_pos ((gH _ _).2 (X e2 e1 hl))] at h;cases h
theorem Bv (a:Kd) (h:iE a=L):∃ v,eP a v=L:=by
 cases a with
 | rg lo hi =>
  simp only [iE,decide_eq_true_eq] at h;exact⟨(au,lo,⟨#[]⟩),by simp [eP,h]⟩
 | tx t=>exact⟨(L,0,t),by simp [eP]⟩
 | pr t=>exact⟨(L,0,t),by simp only [eP,Y]; exact qD t⟩
theorem mK (t s:ByteArray):eP (.pr t) (L,0,s)=pfx t s:=by simp only [eP,Y]
theorem oC (t s:ByteArray):eP (.tx t) (L,0,s)=(s.data.toList == t.data.toList):=by simp only [eP,Y]
theorem vS (a b:Int) (s:ByteArray):eP (.rg a b) (L,0,s)=au:=by simp only [eP,aB,aA]
theorem Bw (a b n:Int):eP (.rg a b) (au,n,⟨#[]⟩)=(decide (a<=n) && decide (n<=b)):=by simp only [eP,ay,Y]
def more (t:ByteArray):ByteArray:=⟨(t.data.toList++[0]).toArray⟩
theorem JU (t:ByteArray):pfx t (more t)=L:=(gH _ _).2 (List.prefix_append _ _)
theorem FR (p t:ByteArray) (h:∀ v,eP (.tx p) v=eP (.pr t) v):False:=by
 have h1:=h (L,0,more t);have h2:=h (L,0,t);rw [oC,mK,JU,beq_iff_eq] at h1;rw [oC,mK,qD,beq_iff_eq] at h2;rw [<- h2] at h1;have h3:=congrArg List.length h1;simp [more] at h3
theorem Ny (a b:Kd) (ha:iE a=L) (hb:iE b=L) (h:∀ v,eP a v=eP b v):a=b:=by
 cases a with
 | rg p q=>cases b with
  | rg r s =>
   simp only [iE,decide_eq_true_eq] at ha hb;have le:∀ n,(p<=n/\n<=q)↔(r<=n/\n<=s):=fun n=>by
    have h1:=h (au,n,⟨#[]⟩);rw [Bw,Bw,Q,D,D,decide_eq_true_eq,decide_eq_true_eq,decide_eq_true_eq,decide_eq_true_eq] at h1;exact h1
   have h1:=(le p).1 ⟨ak _,ha⟩;have h2:=(le q).1 ⟨ha,ak _⟩;have h3:=(le r).2 ⟨ak _,hb⟩;have h4:=(le s).2 ⟨hb,ak _⟩;rw [show p=r by omega,show q=s by omega]
  | tx t=>have h1:=h (L,0,t); rw [vS,oC,beq_self_eq_true] at h1; cases h1
  | pr t=>have h1:=h (L,0,t); rw [vS,mK,qD] at h1; cases h1
 | tx p=>cases b with
  | rg r s=>have h1:=h (L,0,p); rw [vS,oC,beq_self_eq_true] at h1; cases h1
  | tx t =>
   have h1:=h (L,0,p);rw [oC,oC,beq_self_eq_true] at h1;rw [rV (beq_iff_eq.1 h1.symm)]
  | pr t=>exact (FR p t h).elim
 | pr p=>cases b with
  | rg r s=>have h1:=h (L,0,p); rw [vS,mK,qD] at h1; cases h1
  | tx t=>exact (FR t p fun v=>(h v).symm).elim
  | pr t =>
   have h1:=h (L,0,p);have h2:=h (L,0,t);rw [mK,mK,qD] at h1 h2;have e1:=(gH _ _).1 h1.symm;have e2:=(gH _ _).1 h2;rw [rV (e2.eq_of_length_le e1.length_le)]
/-! ### normal forms -/
def iU (l:List Cn):Prop:=l.Pairwise fun x y=>J x.1.toList y.1.toList=L
def ng:List Cn->Cn->Option (List Cn)
 | [],c=>some [c]
 | x::r,c=>if J x.1.toList c.1.toList=L then (ng r c).map (x::·) else if x.1=c.1 then (fH x.2 c.2).map (fun k=>(x.1,k)::r) else some (c::x::r)
def jT:Nat->List Cn->List Cn->Except (Int×Nat) (List Cn)
 | _,m,[]=>.ok m
 | at_,m,c::r=>match ng m c with
  | none=>.error (5,at_)
  | some m'=>if 5<m'.length then .error (7,at_) else jT (at_+1) m' r
def Bz (l:List Cn):Except (Int×Nat) (List Cn):=jT 0 [] l
theorem IW:∀ (m:List Cn) (c:Cn),(∀ x∈m,J x.1.toList c.1.toList=L)->ng m c=some (m++[c])
 | [],c,_=>rfl
 | x::r,c,h=>by
  simp only [ng];rw [if_pos (h x (ah ..)),IW r c (fun y hy=>h y (Z _ hy))]
  rfl
theorem JV:∀ (p m:List Cn) (at_:Nat),iU (m++p)->(m++p).length<=5->jT at_ m p=.ok (m++p)
 | [],m,at_,_,_=>by simp [jT]
 | c::r,m,at_,h,h5=>by
  have h1:∀ x∈m,J x.1.toList c.1.toList=L:=fun x hx=>(List.pairwise_append.1 h).2.2 x hx c (ah ..);simp only [jT];rw [IW m c h1];simp only;rw [if_neg (by simp at h5 ⊢; omega),JV r (m++[c]) (at_+1) (by simpa using h) (by simpa using h5)];simp
theorem Ti (p:List Cn) (h:iU p) (h5:p.length<=5):Bz p=.ok p:=by
 have:=JV p [] 0 (by simpa using h) (by simpa using h5);simpa [Bz] using this
theorem zT:∀ (a b m m':List Cn) (at_:Nat),jT at_ m a=.ok m'->jT at_ m (a++b)=jT (at_+a.length) m' b
 | [],b,m,m',at_,h=>by
  simp only [jT] at h;injection h with h
  subst h;simp
 | c::r,b,m,m',at_,h=>by
  simp only [List.cons_append,jT] at h ⊢;cases hi:ng m c with
  | none=>rw [hi] at h; cases h
  | some n =>
   rw [hi] at h;simp only at h ⊢
   split at h
   ·cases h
   ·rename_i hn
    rw [if_neg hn,zT r b n m' (at_+1) h];rw [List.length_cons,show at_+1+r.length=at_+(r.length+1) by omega]
theorem kg:∀ (m:List Cn) (c:Cn) (m':List Cn),iU m->ng m c=some m'->iU m'/\∀ y∈m',y.1=c.1\/∃ x∈m,x.1=y.1
 | [],c,m',_,h=>by
  obtain rfl:=K h;exact⟨List.pairwise_singleton _ _,fun y hy=>V (by simp at hy; rw [hy])⟩
 | x::r,c,m',hr,h=>by
  obtain⟨h1,h2⟩:=O.1 hr;simp only [ng] at h
  split at h
  ·rename_i hl
   cases hi:ng r c with
   | none=>rw [hi] at h; cases h
   | some n =>
    rw [hi] at h;obtain rfl:=K h;obtain⟨k1,k2⟩:=kg r c n h2 hi;refine⟨O.2 ⟨fun y hy=>?_,k1⟩,fun y hy=>?_⟩
    ·rcases k2 y hy with e|⟨z,hz,e⟩
     ·rw [e]; exact hl
     ·rw [<- e]; exact h1 z hz
    ·rcases aj.1 hy with rfl|hy
     ·exact U ⟨y,ah ..,rfl⟩
     ·rcases k2 y hy with e|⟨z,hz,e⟩
      ·exact V e
      ·exact U ⟨z,Z _ hz,e⟩
  ·rename_i hl
   split at h
   ·rename_i he
    cases hb:fH x.2 c.2 with
    | none=>rw [hb] at h; cases h
    | some k =>
     rw [hb] at h;obtain rfl:=K h;refine⟨O.2 ⟨fun y hy=>h1 y hy,h2⟩,fun y hy=>?_⟩;rcases aj.1 hy with rfl|hy
     ·exact V he
     ·exact U ⟨y,Z _ hy,rfl⟩
   ·rename_i he
    obtain rfl:=K h;have hc:J c.1.toList x.1.toList=L:=abK hl he;refine⟨O.2 ⟨fun y hy=>?_,hr⟩,fun y hy=>?_⟩
    ·rcases aj.1 hy with rfl|hy
     ·exact hc
     ·exact VaP.Bu _ _ _ hc (h1 y hy)
    ·rcases aj.1 hy with rfl|hy
     ·exact V rfl
     ·exact U ⟨y,hy,rfl⟩
theorem uQ:∀ {l:List Cn},iU l->(l.map (·.1)).Nodup
 | [],_=>by simp
 | x::r,h=>by
  obtain⟨h1,h2⟩:=O.1 h;simp only [List.map_cons,List.nodup_cons];refine⟨fun hm=>?_,uQ h2⟩;obtain⟨y,hy,e⟩:=List.mem_map.1 hm;exact Ba (h1 y hy) e.symm
/-! ### what they say -/
end Pr
end Go.Proofs.YtghlpefopidlaaaGreat
