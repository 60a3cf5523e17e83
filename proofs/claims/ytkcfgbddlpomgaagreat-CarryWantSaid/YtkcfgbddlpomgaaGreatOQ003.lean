/-
  Plain facts on predi. Conditions as told.
-/
import Derived.Test.YtkcfgbddlpomgaaGreatOQ002
set_option maxRecDepth 100000
set_option maxHeartbeats 64000000
open _root_.Bool renaming and_eq_true->D,eq_iff_iff->K,true->O,true_and->U,not_false->aj,false_and->ak,not_true->au,false->ay
open Go.Op renaming bytesLess->Y
open _root_.Int renaming le_refl->Z
open _root_.List renaming pairwise_cons->L,prefix_of_prefix_length_le->Q,mem_cons_of_mem->V,mem_cons->X,mem_cons_self->ah
open Option.some renaming inj->J
namespace Go.Proofs.YtkcfgbddlpomgaaGreat.Pr
open Go.RowKit Pu
inductive Kd where
 | rg (lo hi:Int)
 | tx (t:ByteArray)
 | pr (t:ByteArray)
abbrev Cn:=ByteArray×Kd
abbrev V3:=Bool×Int×ByteArray
def kN:Kd->Int
 | .rg _ _=>1
 | .tx _=>2
 | .pr _=>3
def jN:Kd->Int
 | .rg lo _=>lo
 | _=>0
def jO:Kd->Int
 | .rg _ hi=>hi
 | _=>0
def kT:Kd->ByteArray
 | .rg _ _=>⟨#[]⟩
 | .tx t=>t
 | .pr t=>t
def pfx (s t:ByteArray):Bool:=s.data.toList.isPrefixOf t.data.toList
theorem fU (s t:ByteArray):pfx s t=O↔s.data.toList <+: t.data.toList:=List.isPrefixOf_iff_prefix
theorem pI (s:ByteArray):pfx s s=O:=(fU s s).2 (List.prefix_refl _)
def jy:Kd->Bool
 | .rg lo hi=>decide (lo<=hi)
 | .tx t=>decide (t.size<=12)
 | .pr t=>decide (t.size<12)
def Di (c:Cn):Bool:=Hw c.1 && jy c.2
def eG:Kd->V3->Bool
 | .rg lo hi,v=>!v.1 && (decide (lo<=v.2.1) && decide (v.2.1<=hi))
 | .tx t,v=>v.1 && (v.2.2.data.toList == t.data.toList)
 | .pr t,v=>v.1 && pfx t v.2.2
def fE:Kd->Kd->Option Kd
 | .rg a b,.rg c d=>if max a c<=min b d then some (.rg (max a c) (min b d)) else none
 | .tx s,.tx t=>if s.data.toList=t.data.toList then some (.tx s) else none
 | .tx s,.pr t=>if pfx t s then some (.tx s) else none
 | .pr s,.tx t=>if pfx s t then some (.tx t) else none
 | .pr s,.pr t=>if pfx s t then some (.pr t) else if pfx t s then some (.pr s) else none
 | _,_=>none
theorem tN {s t:ByteArray} (h:s.data.toList=t.data.toList):s=t:=WideShapes.bytes_inj h
theorem Pp (a b c:Kd) (ha:jy a=O) (hb:jy b=O) (h:fE a b=some c):jy c=O/\∀ v,eG c v=(eG a v && eG b v):=by
 cases a with
 | rg p q=>cases b with
  | rg r s =>
   simp only [fE] at h
   split at h
   ·rename_i hc
    obtain rfl:=J h;refine⟨by simpa [jy] using hc,fun v=>?_⟩;obtain⟨t,n,u⟩:=v;cases t <;> simp only [eG,au,aj,ak,U];rw [K];simp only [D,decide_eq_true_eq];omega
   ·cases h
  | tx t=>simp [fE] at h
  | pr t=>simp [fE] at h
 | tx p=>cases b with
  | rg r s=>simp [fE] at h
  | tx t =>
   simp only [fE] at h
   split at h
   ·rename_i hc
    obtain rfl:=J h;exact⟨ha,fun v=>by simp [eG,hc]⟩
   ·cases h
  | pr t =>
   simp only [fE] at h
   split at h
   ·rename_i hc
    obtain rfl:=J h;refine⟨ha,fun v=>?_⟩;rw [K];simp only [eG,D,beq_iff_eq];constructor
    ·rintro⟨h1,h2⟩;exact⟨⟨h1,h2⟩,h1,by rw [fU,h2,<- fU]; exact hc⟩
    ·rintro⟨h1,_⟩;exact h1
   ·cases h
 | pr p=>cases b with
  | rg r s=>simp [fE] at h
  | tx t =>
   simp only [fE] at h
   split at h
   ·rename_i hc
    obtain rfl:=J h;refine⟨hb,fun v=>?_⟩;rw [K];simp only [eG,D,beq_iff_eq];constructor
    ·rintro⟨h1,h2⟩;exact⟨⟨h1,by rw [fU,h2,<- fU]; exact hc⟩,h1,h2⟩
    ·rintro⟨_,h1⟩;exact h1
   ·cases h
  | pr t =>
   simp only [fE] at h
   split at h
   ·rename_i hc
    obtain rfl:=J h;refine⟨hb,fun v=>?_⟩;rw [K];simp only [eG,D];constructor
    ·rintro⟨h1,h2⟩;exact⟨⟨h1,(fU _ _).2 (((fU _ _).1 hc).trans ((fU _ _).1 h2))⟩,h1,h2⟩
    ·rintro⟨_,h1⟩;exact h1
   ·split at h
    ·rename_i _ hc
     obtain rfl:=J h;refine⟨ha,fun v=>?_⟩;rw [K];simp only [eG,D];constructor
     ·rintro⟨h1,h2⟩;exact⟨⟨h1,h2⟩,h1,(fU _ _).2 (((fU _ _).1 hc).trans ((fU _ _).1 h2))⟩
     ·rintro⟨h1,_⟩;exact h1
    ·cases h
theorem Pq (a b:Kd) (h:fE a b=none) (v:V3):(eG a v && eG b v)=ay:=by
 obtain⟨w,n,u⟩:=v;rw [Bool.eq_false_iff];intro hv;rw [D] at hv;obtain⟨h1,h2⟩:=hv;cases a with
 | rg p q=>cases b with
  | rg r s =>
   simp only [fE] at h
   split at h
   ·cases h
   ·rename_i hc
    simp only [eG,D,decide_eq_true_eq] at h1 h2;omega
  | tx t=>simp only [eG,D] at h1 h2; rw [h2.1] at h1; cases h1.1
  | pr t=>simp only [eG,D] at h1 h2; rw [h2.1] at h1; cases h1.1
 | tx p=>cases b with
  | rg r s=>simp only [eG,D] at h1 h2; rw [h1.1] at h2; cases h2.1
  | tx t =>
   simp only [eG,D,beq_iff_eq] at h1 h2;simp only [fE] at h;rw [if_pos (h1.2.symm.trans h2.2)] at h;cases h
  | pr t =>
   simp only [eG,D,beq_iff_eq] at h1 h2;simp only [fE] at h;rw [if_pos (by rw [fU,<- h1.2,<- fU]; exact h2.2)] at h;cases h
 | pr p=>cases b with
  | rg r s=>simp only [eG,D] at h1 h2; rw [h1.1] at h2; cases h2.1
  | tx t =>
   simp only [eG,D,beq_iff_eq] at h1 h2;simp only [fE] at h;rw [if_pos (by rw [fU,<- h2.2,<- fU]; exact h1.2)] at h;cases h
  | pr t =>
   simp only [eG,D] at h1 h2;have e1:=(fU _ _).1 h1.2;have e2:=(fU _ _).1 h2.2;simp only [fE] at h;rcases Nat.le_total p.data.toList.length t.data.toList.length with hl|hl
   ·rw [if_pos ((fU _ _).2 (Q e1 e2 hl))] at h;cases h
   ·by_cases hp:pfx p t=O
    ·rw [if_pos hp] at h; cases h
    ·rw [if_neg hp,if_pos ((fU _ _).2 (Q e2 e1 hl))] at h;cases h
theorem Kk (a:Kd) (h:jy a=O):∃ v,eG a v=O:=by
 cases a with
 | rg lo hi =>
  simp only [jy,decide_eq_true_eq] at h;exact⟨(ay,lo,⟨#[]⟩),by simp [eG,h]⟩
 | tx t=>exact⟨(O,0,t),by simp [eG]⟩
 | pr t=>exact⟨(O,0,t),by simp only [eG,U]; exact pI t⟩
theorem lT (t s:ByteArray):eG (.pr t) (O,0,s)=pfx t s:=by simp only [eG,U]
theorem nL (t s:ByteArray):eG (.tx t) (O,0,s)=(s.data.toList == t.data.toList):=by simp only [eG,U]
theorem uE (a b:Int) (s:ByteArray):eG (.rg a b) (O,0,s)=ay:=by simp only [eG,au,ak]
theorem zN (a b n:Int):eG (.rg a b) (ay,n,⟨#[]⟩)=(decide (a<=n) && decide (n<=b)):=by simp only [eG,aj,U]
def more (t:ByteArray):ByteArray:=⟨(t.data.toList++[0]).toArray⟩
theorem Hy (t:ByteArray):pfx t (more t)=O:=(fU _ _).2 (List.prefix_append _ _)
theorem Dj (p t:ByteArray) (h:∀ v,eG (.tx p) v=eG (.pr t) v):False:=by
 have h1:=h (O,0,more t);have h2:=h (O,0,t);rw [nL,lT,Hy,beq_iff_eq] at h1;rw [nL,lT,pI,beq_iff_eq] at h2;rw [<- h2] at h1;have h3:=congrArg List.length h1;simp [more] at h3
theorem Kl (a b:Kd) (ha:jy a=O) (hb:jy b=O) (h:∀ v,eG a v=eG b v):a=b:=by
 cases a with
 | rg p q=>cases b with
  | rg r s =>
   simp only [jy,decide_eq_true_eq] at ha hb;have le:∀ n,(p<=n/\n<=q)↔(r<=n/\n<=s):=fun n=>by
    have h1:=h (ay,n,⟨#[]⟩);rw [zN,zN,K,D,D,decide_eq_true_eq,decide_eq_true_eq,decide_eq_true_eq,decide_eq_true_eq] at h1;exact h1
   have h1:=(le p).1 ⟨Z _,ha⟩;have h2:=(le q).1 ⟨ha,Z _⟩;have h3:=(le r).2 ⟨Z _,hb⟩;have h4:=(le s).2 ⟨hb,Z _⟩;rw [show p=r by omega,show q=s by omega]
  | tx t=>have h1:=h (O,0,t); rw [uE,nL,beq_self_eq_true] at h1; cases h1
  | pr t=>have h1:=h (O,0,t); rw [uE,lT,pI] at h1; cases h1
 | tx p=>cases b with
  | rg r s=>have h1:=h (O,0,p); rw [uE,nL,beq_self_eq_true] at h1; cases h1
  | tx t =>
   have h1:=h (O,0,p);rw [nL,nL,beq_self_eq_true] at h1;rw [tN (beq_iff_eq.1 h1.symm)]
  | pr t=>exact (Dj p t h).elim
 | pr p=>cases b with
  | rg r s=>have h1:=h (O,0,p); rw [uE,lT,pI] at h1; cases h1
  | tx t=>exact (Dj t p fun v=>(h v).symm).elim
  | pr t =>
   have h1:=h (O,0,p);have h2:=h (O,0,t);rw [lT,lT,pI] at h1 h2;have e1:=(fU _ _).1 h1.symm;have e2:=(fU _ _).1 h2;rw [tN (e2.eq_of_length_le e1.length_le)]
/-! ### normal forms -/
def oz (l:List Cn):Prop:=l.Pairwise fun x y=>Y x.1.toList y.1.toList=O
def sH:List Cn->Cn->Option (List Cn)
 | [],c=>some [c]
 | x::r,c=>if Y x.1.toList c.1.toList=O then (sH r c).map (x::·) else if x.1=c.1 then (fE x.2 c.2).map (fun k=>(x.1,k)::r) else some (c::x::r)
def zO:Nat->List Cn->List Cn->Except (Int×Nat) (List Cn)
 | _,m,[]=>.ok m
 | at_,m,c::r=>match sH m c with
  | none=>.error (5,at_)
  | some m'=>if 5<m'.length then .error (7,at_) else zO (at_+1) m' r
theorem MN:∀ (m:List Cn) (c:Cn),(∀ x∈m,Y x.1.toList c.1.toList=O)->sH m c=some (m++[c])
 | [],c,_=>rfl
 | x::r,c,h=>by
  simp only [sH];rw [if_pos (h x (ah ..)),MN r c (fun y hy=>h y (V _ hy))]
  rfl
theorem kL:∀ (m:List Cn) (c:Cn) (m':List Cn),oz m->sH m c=some m'->oz m'/\∀ y∈m',y.1=c.1\/∃ x∈m,x.1=y.1
 | [],c,m',_,h=>by
  obtain rfl:=J h;exact⟨List.pairwise_singleton _ _,fun y hy=>Or.inl (by simp at hy; rw [hy])⟩
 | x::r,c,m',hr,h=>by
  obtain⟨h1,h2⟩:=L.1 hr;simp only [sH] at h
  split at h
  ·rename_i hl
   cases hi:sH r c with
   | none=>rw [hi] at h; cases h
   | some n =>
    rw [hi] at h;obtain rfl:=J h;obtain⟨k1,k2⟩:=kL r c n h2 hi;refine⟨L.2 ⟨fun y hy=>?_,k1⟩,fun y hy=>?_⟩
    ·rcases k2 y hy with e|⟨z,hz,e⟩
     ·rw [e]; exact hl
     ·rw [<- e]; exact h1 z hz
    ·rcases X.1 hy with rfl|hy
     ·exact Or.inr ⟨y,ah ..,rfl⟩
     ·rcases k2 y hy with e|⟨z,hz,e⟩
      ·exact Or.inl e
      ·exact Or.inr ⟨z,V _ hz,e⟩
  ·rename_i hl
   split at h
   ·rename_i he
    cases hb:fE x.2 c.2 with
    | none=>rw [hb] at h; cases h
    | some k =>
     rw [hb] at h;obtain rfl:=J h;refine⟨L.2 ⟨fun y hy=>h1 y hy,h2⟩,fun y hy=>?_⟩;rcases X.1 hy with rfl|hy
     ·exact Or.inl he
     ·exact Or.inr ⟨y,V _ hy,rfl⟩
   ·rename_i he
    obtain rfl:=J h;have hc:Y c.1.toList x.1.toList=O:=Yq hl he;refine⟨L.2 ⟨fun y hy=>?_,hr⟩,fun y hy=>?_⟩
    ·rcases X.1 hy with rfl|hy
     ·exact hc
     ·exact VaP.Ht _ _ _ hc (h1 y hy)
    ·rcases X.1 hy with rfl|hy
     ·exact Or.inl rfl
     ·exact Or.inr ⟨y,hy,rfl⟩
/-! ### what they say -/
end Go.Proofs.YtkcfgbddlpomgaaGreat.Pr
