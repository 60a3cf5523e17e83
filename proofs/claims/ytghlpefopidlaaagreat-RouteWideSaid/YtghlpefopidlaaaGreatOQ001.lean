/-
  Plain facts on what . Conditions as told.
-/
import Derived.Lib.ItoaNum
import GoSem.Claim
import Derived.Laws.Strings
import Derived.RowKit
set_option maxRecDepth 100000
set_option maxHeartbeats 64000000
open _root_.Bool renaming and_eq_true->D,true->L,eq_iff_iff->Q,true_and->Y,false->au,not_false->ay,false_and->aA,not_true->aB
open Go.Op renaming bytesLess->J
open _root_.Int renaming le_refl->ak
open _root_.List renaming pairwise_cons->O,prefix_of_prefix_length_le->X,mem_cons_of_mem->Z,mem_cons_self->ah,mem_cons->aj
open Option.some renaming inj->K
open _root_.Or renaming inr->U,inl->V
namespace Go.Proofs.YtghlpefopidlaaaGreat
namespace Tw
/-! ### the order of texts -/
theorem rA:∀ x:List UInt8,J x x=au
 | []=>rfl
 | a::x=>by simp [J,rA x]
theorem yU (a b:UInt8) (x y:List UInt8):J (a::x) (b::y)=L↔a.toNat<b.toNat\/(a.toNat=b.toNat/\J x y=L):=by
 simp only [J,Bool.or_eq_true,decide_eq_true_eq,D,beq_iff_eq,UInt8.lt_iff_toNat_lt];constructor
 ·rintro (h|⟨h,k⟩)
  ·exact V h
  ·exact U ⟨by rw [h],k⟩
 ·rintro (h|⟨h,k⟩)
  ·exact V h
  ·exact U ⟨UInt8.toNat_inj.1 h,k⟩
theorem uf:∀ x y z:List UInt8,J x y=L->J y z=L->J x z=L
 | _,[],_,h,_=>by cases ‹List UInt8› <;> simp [J] at h
 | _,_::_,[],_,k=>by simp [J] at k
 | [],_::_,_::_,_,_=>rfl
 | a::x,b::y,c::z,h,k=>by
  rw [yU] at h k ⊢;rcases h with h|⟨h,h2⟩ <;> rcases k with k|⟨k,k2⟩
  ·exact V (by omega)
  ·exact V (by omega)
  ·exact V (by omega)
  ·exact U ⟨by omega,uf x y z h2 k2⟩
theorem zU:∀ x y:List UInt8,J x y=L\/x=y\/J y x=L
 | [],[]=>U (V rfl)
 | [],_::_=>V rfl
 | _::_,[]=>U (U rfl)
 | a::x,b::y=>by
  rw [yU,yU];rcases Nat.lt_trichotomy a.toNat b.toNat with h|h|h
  ·exact V (V h)
  ·rcases zU x y with k|k|k
   ·exact V (U ⟨h,k⟩)
   ·exact U (V (by rw [k,UInt8.toNat_inj.1 h]))
   ·exact U (U (U ⟨h.symm,k⟩))
  ·exact U (U (V h))
end Tw
namespace Pu
open Go.RowKit
def tC (c:UInt8):Bool:=decide (97<=c.toNat) && decide (c.toNat<=122)
def ko (s:ByteArray):Bool:=s.data.toList.all tC && (decide (1<=s.size) && decide (s.size<=12))
theorem wU (s:ByteArray) (k:Nat) (h:k<s.size) (hc:tC s[k]=au):ko s=au:=by
 have:s.data.toList.all tC=au:=by
  rw [List.all_eq_false];exact⟨s[k],by rw [Array.mem_toList_iff]; exact Array.getElem_mem h,by rw [hc]; decide⟩
 simp [ko,this]
theorem Gn (s:ByteArray) (h:∀ (j:Nat) (hj:j<s.size),tC s[j]=L):ko s=(decide (1<=s.size) && decide (s.size<=12)):=by
 have:s.data.toList.all tC=L:=by
  rw [List.all_eq_true];intro c hc;obtain⟨j,hj,rfl⟩:=List.getElem_of_mem hc;exact h j (by rw [Array.length_toList] at hj; exact hj)
 simp [ko,this]
theorem qm {a b:ByteArray} (h:a.toList=b.toList):a=b:=by
 rw [ByteArray.toList_eq,ByteArray.toList_eq] at h;exact WideShapes.bytes_inj h
theorem tH {a b:ByteArray} (h:J a.toList b.toList=L):a≠b:=by
 rintro rfl;rw [Tw.rA] at h; cases h
theorem Nf {a b:ByteArray} (h1:¬ J a.toList b.toList=L) (h2:a≠b):J b.toList a.toList=L:=by
 rcases Tw.zU a.toList b.toList with h|h|h
 ·exact absurd h h1
 ·exact absurd (qm h) h2
 ·exact h
end Pu
namespace Pr
open Go.RowKit Pu
inductive Kd where
 | rg (lo hi:Int)
 | tx (t:ByteArray)
 | pr (t:ByteArray)
abbrev Cn:=ByteArray×Kd
abbrev V3:=Bool×Int×ByteArray
def kN:Kd->Int
 | .rg _ _=>1
 | .tx _=>2
 | .pr _=>3
def lN:Kd->Int
 | .rg lo _=>lo
 | _=>0
def lQ:Kd->Int
 | .rg _ hi=>hi
 | _=>0
def kT:Kd->ByteArray
 | .rg _ _=>⟨#[]⟩
 | .tx t=>t
 | .pr t=>t
def pfx (s t:ByteArray):Bool:=s.data.toList.isPrefixOf t.data.toList
theorem eX (s t:ByteArray):pfx s t=L↔s.data.toList <+: t.data.toList:=List.isPrefixOf_iff_prefix
theorem mg (s:ByteArray):pfx s s=L:=(eX s s).2 (List.prefix_refl _)
def fD:Kd->Bool
 | .rg lo hi=>decide (lo<=hi)
 | .tx t=>decide (t.size<=12)
 | .pr t=>decide (t.size<12)
def pF (c:Cn):Bool:=ko c.1 && fD c.2
def dQ:Kd->V3->Bool
 | .rg lo hi,v=>!v.1 && (decide (lo<=v.2.1) && decide (v.2.1<=hi))
 | .tx t,v=>v.1 && (v.2.2.data.toList == t.data.toList)
 | .pr t,v=>v.1 && pfx t v.2.2
def fE:Kd->Kd->Option Kd
 | .rg a b,.rg c d=>if max a c<=min b d then some (.rg (max a c) (min b d)) else none
 | .tx s,.tx t=>if s.data.toList=t.data.toList then some (.tx s) else none
 | .tx s,.pr t=>if pfx t s then some (.tx s) else none
 | .pr s,.tx t=>if pfx s t then some (.tx t) else none
 | .pr s,.pr t=>if pfx s t then some (.pr t) else if pfx t s then some (.pr s) else none
 | _,_=>none
theorem qo {s t:ByteArray} (h:s.data.toList=t.data.toList):s=t:=WideShapes.bytes_inj h
theorem wV (a b c:Kd) (ha:fD a=L) (hb:fD b=L) (h:fE a b=some c):fD c=L/\∀ v,dQ c v=(dQ a v && dQ b v):=by
 cases a with
 | rg p q=>cases b with
  | rg r s =>
   simp only [fE] at h
   split at h
   ·rename_i hc
    obtain rfl:=K h;refine⟨by simpa [fD] using hc,fun v=>?_⟩;obtain⟨t,n,u⟩:=v;cases t <;> simp only [dQ,aB,ay,aA,Y];rw [Q];simp only [D,decide_eq_true_eq];omega
   ·cases h
  | tx t=>simp [fE] at h
  | pr t=>simp [fE] at h
 | tx p=>cases b with
  | rg r s=>simp [fE] at h
  | tx t =>
   simp only [fE] at h
   split at h
   ·rename_i hc
    obtain rfl:=K h;exact⟨ha,fun v=>by simp [dQ,hc]⟩
   ·cases h
  | pr t =>
   simp only [fE] at h
   split at h
   ·rename_i hc
    obtain rfl:=K h;refine⟨ha,fun v=>?_⟩;rw [Q];simp only [dQ,D,beq_iff_eq];constructor
    ·rintro⟨h1,h2⟩;exact⟨⟨h1,h2⟩,h1,by rw [eX,h2,<- eX]; exact hc⟩
    ·rintro⟨h1,_⟩;exact h1
   ·cases h
 | pr p=>cases b with
  | rg r s=>simp [fE] at h
  | tx t =>
   simp only [fE] at h
   split at h
   ·rename_i hc
    obtain rfl:=K h;refine⟨hb,fun v=>?_⟩;rw [Q];simp only [dQ,D,beq_iff_eq];constructor
    ·rintro⟨h1,h2⟩;exact⟨⟨h1,by rw [eX,h2,<- eX]; exact hc⟩,h1,h2⟩
    ·rintro⟨_,h1⟩;exact h1
   ·cases h
  | pr t =>
   simp only [fE] at h
   split at h
   ·rename_i hc
    obtain rfl:=K h;refine⟨hb,fun v=>?_⟩;rw [Q];simp only [dQ,D];constructor
    ·rintro⟨h1,h2⟩;exact⟨⟨h1,(eX _ _).2 (((eX _ _).1 hc).trans ((eX _ _).1 h2))⟩,h1,h2⟩
    ·rintro⟨_,h1⟩;exact h1
   ·split at h
    ·rename_i _ hc
     obtain rfl:=K h;refine⟨ha,fun v=>?_⟩;rw [Q];simp only [dQ,D];constructor
     ·rintro⟨h1,h2⟩;exact⟨⟨h1,h2⟩,h1,(eX _ _).2 (((eX _ _).1 hc).trans ((eX _ _).1 h2))⟩
     ·rintro⟨h1,_⟩;exact h1
    ·cases h
theorem wW (a b:Kd) (h:fE a b=none) (v:V3):(dQ a v && dQ b v)=au:=by
 obtain⟨w,n,u⟩:=v;rw [Bool.eq_false_iff];intro hv;rw [D] at hv;obtain⟨h1,h2⟩:=hv;cases a with
 | rg p q=>cases b with
  | rg r s =>
   simp only [fE] at h
   split at h
   ·cases h
   ·rename_i hc
    simp only [dQ,D,decide_eq_true_eq] at h1 h2;omega
  | tx t=>simp only [dQ,D] at h1 h2; rw [h2.1] at h1; cases h1.1
  | pr t=>simp only [dQ,D] at h1 h2; rw [h2.1] at h1; cases h1.1
 | tx p=>cases b with
  | rg r s=>simp only [dQ,D] at h1 h2; rw [h1.1] at h2; cases h2.1
  | tx t =>
   simp only [dQ,D,beq_iff_eq] at h1 h2;simp only [fE] at h;rw [if_pos (h1.2.symm.trans h2.2)] at h;cases h
  | pr t =>
   simp only [dQ,D,beq_iff_eq] at h1 h2;simp only [fE] at h;rw [if_pos (by rw [eX,<- h1.2,<- eX]; exact h2.2)] at h;cases h
 | pr p=>cases b with
  | rg r s=>simp only [dQ,D] at h1 h2; rw [h1.1] at h2; cases h2.1
  | tx t =>
   simp only [dQ,D,beq_iff_eq] at h1 h2;simp only [fE] at h;rw [if_pos (by rw [eX,<- h2.2,<- eX]; exact h1.2)] at h;cases h
  | pr t =>
   simp only [dQ,D] at h1 h2;have e1:=(eX _ _).1 h1.2;have e2:=(eX _ _).1 h2.2;simp only [fE] at h;rcases Nat.le_total p.data.toList.length t.data.toList.length with hl|hl
   ·rw [if_pos ((eX _ _).2 (X e1 e2 hl))] at h;cases h
   ·by_cases hp:pfx p t=L
    ·rw [if_pos hp] at h; cases h
    ·rw [if_neg hp,if_pos ((eX _ _).2 (X e2 e1 hl))] at h;cases h
theorem ug (a:Kd) (h:fD a=L):∃ v,dQ a v=L:=by
 cases a with
 | rg lo hi =>
  simp only [fD,decide_eq_true_eq] at h;exact⟨(au,lo,⟨#[]⟩),by simp [dQ,h]⟩
 | tx t=>exact⟨(L,0,t),by simp [dQ]⟩
 | pr t=>exact⟨(L,0,t),by simp only [dQ,Y]; exact mg t⟩
theorem jP (t s:ByteArray):dQ (.pr t) (L,0,s)=pfx t s:=by simp only [dQ,Y]
theorem kC (t s:ByteArray):dQ (.tx t) (L,0,s)=(s.data.toList == t.data.toList):=by simp only [dQ,Y]
theorem oL (a b:Int) (s:ByteArray):dQ (.rg a b) (L,0,s)=au:=by simp only [dQ,aB,aA]
theorem uh (a b n:Int):dQ (.rg a b) (au,n,⟨#[]⟩)=(decide (a<=n) && decide (n<=b)):=by simp only [dQ,ay,Y]
def more (t:ByteArray):ByteArray:=⟨(t.data.toList++[0]).toArray⟩
theorem zV (t:ByteArray):pfx t (more t)=L:=(eX _ _).2 (List.prefix_append _ _)
theorem wX (p t:ByteArray) (h:∀ v,dQ (.tx p) v=dQ (.pr t) v):False:=by
 have h1:=h (L,0,more t);have h2:=h (L,0,t);rw [kC,jP,zV,beq_iff_eq] at h1;rw [kC,jP,mg,beq_iff_eq] at h2;rw [<- h2] at h1;have h3:=congrArg List.length h1;simp [more] at h3
theorem CJ (a b:Kd) (ha:fD a=L) (hb:fD b=L) (h:∀ v,dQ a v=dQ b v):a=b:=by
 cases a with
 | rg p q=>cases b with
  | rg r s =>
   simp only [fD,decide_eq_true_eq] at ha hb;have le:∀ n,(p<=n/\n<=q)↔(r<=n/\n<=s):=fun n=>by
    have h1:=h (au,n,⟨#[]⟩);rw [uh,uh,Q,D,D,decide_eq_true_eq,decide_eq_true_eq,decide_eq_true_eq,decide_eq_true_eq] at h1;exact h1
   have h1:=(le p).1 ⟨ak _,ha⟩;have h2:=(le q).1 ⟨ha,ak _⟩;have h3:=(le r).2 ⟨ak _,hb⟩;have h4:=(le s).2 ⟨hb,ak _⟩;rw [show p=r by omega,show q=s by omega]
  | tx t=>have h1:=h (L,0,t); rw [oL,kC,beq_self_eq_true] at h1; cases h1
  | pr t=>have h1:=h (L,0,t); rw [oL,jP,mg] at h1; cases h1
 | tx p=>cases b with
  | rg r s=>have h1:=h (L,0,p); rw [oL,kC,beq_self_eq_true] at h1; cases h1
  | tx t =>
   have h1:=h (L,0,p);rw [kC,kC,beq_self_eq_true] at h1;rw [qo (beq_iff_eq.1 h1.symm)]
  | pr t=>exact (wX p t h).elim
 | pr p=>cases b with
  | rg r s=>have h1:=h (L,0,p); rw [oL,jP,mg] at h1; cases h1
  | tx t=>exact (wX t p fun v=>(h v).symm).elim
  | pr t =>
   have h1:=h (L,0,p);have h2:=h (L,0,t);rw [jP,jP,mg] at h1 h2;have e1:=(eX _ _).1 h1.symm;have e2:=(eX _ _).1 h2;rw [qo (e2.eq_of_length_le e1.length_le)]
/-! ### normal forms -/
def gU (l:List Cn):Prop:=l.Pairwise fun x y=>J x.1.toList y.1.toList=L
def jX:List Cn->Cn->Option (List Cn)
 | [],c=>some [c]
 | x::r,c=>if J x.1.toList c.1.toList=L then (jX r c).map (x::·) else if x.1=c.1 then (fE x.2 c.2).map (fun k=>(x.1,k)::r) else some (c::x::r)
def iL:Nat->List Cn->List Cn->Except (Int×Nat) (List Cn)
 | _,m,[]=>.ok m
 | at_,m,c::r=>match jX m c with
  | none=>.error (5,at_)
  | some m'=>if 5<m'.length then .error (7,at_) else iL (at_+1) m' r
def uj (l:List Cn):Except (Int×Nat) (List Cn):=iL 0 [] l
theorem EP:∀ (m:List Cn) (c:Cn),(∀ x∈m,J x.1.toList c.1.toList=L)->jX m c=some (m++[c])
 | [],c,_=>rfl
 | x::r,c,h=>by
  simp only [jX];rw [if_pos (h x (ah ..)),EP r c (fun y hy=>h y (Z _ hy))]
  rfl
theorem zW:∀ (p m:List Cn) (at_:Nat),gU (m++p)->(m++p).length<=5->iL at_ m p=.ok (m++p)
 | [],m,at_,_,_=>by simp [iL]
 | c::r,m,at_,h,h5=>by
  have h1:∀ x∈m,J x.1.toList c.1.toList=L:=fun x hx=>(List.pairwise_append.1 h).2.2 x hx c (ah ..);simp only [iL];rw [EP m c h1];simp only;rw [if_neg (by simp at h5 ⊢; omega),zW r (m++[c]) (at_+1) (by simpa using h) (by simpa using h5)];simp
theorem Gp (p:List Cn) (h:gU p) (h5:p.length<=5):uj p=.ok p:=by
 have:=zW p [] 0 (by simpa using h) (by simpa using h5);simpa [uj] using this
theorem sO:∀ (a b m m':List Cn) (at_:Nat),iL at_ m a=.ok m'->iL at_ m (a++b)=iL (at_+a.length) m' b
 | [],b,m,m',at_,h=>by
  simp only [iL] at h;injection h with h
  subst h;simp
 | c::r,b,m,m',at_,h=>by
  simp only [List.cons_append,iL] at h ⊢;cases hi:jX m c with
  | none=>rw [hi] at h; cases h
  | some n =>
   rw [hi] at h;simp only at h ⊢
   split at h
   ·cases h
   ·rename_i hn
    rw [if_neg hn,sO r b n m' (at_+1) h];rw [List.length_cons,show at_+1+r.length=at_+(r.length+1) by omega]
theorem kL:∀ (m:List Cn) (c:Cn) (m':List Cn),gU m->jX m c=some m'->gU m'/\∀ y∈m',y.1=c.1\/∃ x∈m,x.1=y.1
 | [],c,m',_,h=>by
  obtain rfl:=K h;exact⟨List.pairwise_singleton _ _,fun y hy=>V (by simp at hy; rw [hy])⟩
 | x::r,c,m',hr,h=>by
  obtain⟨h1,h2⟩:=O.1 hr;simp only [jX] at h
  split at h
  ·rename_i hl
   cases hi:jX r c with
   | none=>rw [hi] at h; cases h
   | some n =>
    rw [hi] at h;obtain rfl:=K h;obtain⟨k1,k2⟩:=kL r c n h2 hi;refine⟨O.2 ⟨fun y hy=>?_,k1⟩,fun y hy=>?_⟩
    ·rcases k2 y hy with e|⟨z,hz,e⟩
     ·rw [e]; exact hl
     ·rw [<- e]; exact h1 z hz
    ·rcases aj.1 hy with rfl|hy
     ·exact U ⟨y,ah ..,rfl⟩
     ·rcases k2 y hy with e|⟨z,hz,e⟩
      ·exact V e
      ·exact U ⟨z,Z _ hz,e⟩
  ·rename_i hl
   split at h
   ·rename_i he
    cases hb:fE x.2 c.2 with
    | none=>rw [hb] at h; cases h
    | some k =>
     rw [hb] at h;obtain rfl:=K h;refine⟨O.2 ⟨fun y hy=>h1 y hy,h2⟩,fun y hy=>?_⟩;rcases aj.1 hy with rfl|hy
     ·exact V he
     ·exact U ⟨y,Z _ hy,rfl⟩
   ·rename_i he
    obtain rfl:=K h;have hc:J c.1.toList x.1.toList=L:=Nf hl he;refine⟨O.2 ⟨fun y hy=>?_,hr⟩,fun y hy=>?_⟩
    ·rcases aj.1 hy with rfl|hy
     ·exact hc
     ·exact Tw.uf _ _ _ hc (h1 y hy)
    ·rcases aj.1 hy with rfl|hy
     ·exact V rfl
     ·exact U ⟨y,hy,rfl⟩
theorem nT:∀ {l:List Cn},gU l->(l.map (·.1)).Nodup
 | [],_=>by simp
 | x::r,h=>by
  obtain⟨h1,h2⟩:=O.1 h;simp only [List.map_cons,List.nodup_cons];refine⟨fun hm=>?_,nT h2⟩;obtain⟨y,hy,e⟩:=List.mem_map.1 hm;exact tH (h1 y hy) e.symm
/-! ### what they say -/
end Pr
end Go.Proofs.YtghlpefopidlaaaGreat
