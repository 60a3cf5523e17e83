/-
  Plain facts: a const. Conditions as told.
-/
import Derived.Lib.Bytealg
import Derived.Test.YtkcfgbddlpomgaaGreatCQ004
import Derived.Lib.Strings
import Derived.Test.YtkcfgbddlpomgaaGreatCQ007
import Derived.Laws.Cover3
set_option maxRecDepth 100000
set_option maxHeartbeats 64000000
open _root_.Bool renaming false->aQ,true->bg
open _root_.Go renaming World->aA,Calls->aL,Value->aZ,Addr->bA
open Go.Builtin renaming append_->aM
open Go.Ending renaming returned->O
open Go.IntKind renaming i64->aj
open Go.Lib renaming hid->J,toList_data->aO,size_eq->bI
open Go.Obj renaming cells->au
open Go.Operand renaming tmp->aJ
open Go.Proofs.Tryz renaming prog->L,ntmps131->aF,func131->aH,ntmps67->aT,func67->aU,ntmps96->bn,ntmps74->bC,ntmps84->bD,ntmps85->bE,ntmps86->bF,ntmps87->bG,ntmps66->bH,func96->bJ,func74->bK,func84->bL,func85->bN,func86->bO,func87->bP,func66->bQ
open Go.Proofs.YtkcfgbddlpomgaaGreat.Rw renaming wpList_append_run->aI
open Go.RowKit renaming Below->ay
open Go.RowKit.Below renaming refl->V,heap_setCell->aS
open Go.Value renaming slice->U,string->Z,int->ah,bool->ak,pointer->aC
open _root_.List renaming getElem?_cons_succ->aB,getElem?_toArray->aG,getElem?_cons_zero->aK,getElem?_eq_getElem->aN,length_map->aR,take_add_one->aV,getElem?_map->aW,take_length->aX,length_take->aY
open _root_.Nat renaming le_refl->aD,zero_le->bf
open _root_.Option renaming none->X,some->Y
open _root_.Or renaming inr->aP,inl->bR
namespace Go.Proofs.YtkcfgbddlpomgaaGreat
namespace Pr
open Go.RowKit Pu
def lH:List Cn->ByteArray->Nat
 | [],_=>0
 | x::r,n=>if Op.bytesLess x.1.toList n.toList=bg then lH r n+1 else 0
theorem Ki:∀ l n,lH l n<=l.length
 | [],n=>aD _
 | x::r,n=>by
  have:=Ki r n;simp only [lH]
  split <;> simp; omega
def oQ (l:List Cn) (n:ByteArray):Bool:=match l[lH l n]? with
 | some x=>decide (x.1=n)
 | none=>aQ
def Qj (m:List Cn) (c:Cn):Option (List Cn):=match m[lH m c.1]? with
 | some x=>if x.1=c.1 then (eX x.2 c.2).map fun k=>m.set (lH m c.1) (x.1,k) else Y (m.take (lH m c.1)++c::m.drop (lH m c.1))
 | none=>Y (m.take (lH m c.1)++c::m.drop (lH m c.1))
theorem DL:∀ (m:List Cn) (c:Cn),qB m c=Qj m c
 | [],c=>rfl
 | x::r,c=>by
  unfold Qj;simp only [qB,lH]
  split
  ·rw [DL r c,Qj];simp only [aB,List.take_succ_cons,List.drop_succ_cons,List.set_cons_succ];cases h:r[lH r c.1]? with
   | none=>simp
   | some y =>
    simp only
    split
    ·simp [Option.map_map,Function.comp_def]
    ·simp
  ·simp
theorem M0 {m:List Cn} {c:Cn} (h:oQ m c.1=bg):∃ x,m[lH m c.1]?=Y x/\x.1=c.1/\qB m c=(eX x.2 c.2).map fun k=>m.set (lH m c.1) (x.1,k):=by
 rw [DL];unfold oQ at h;unfold Qj;cases hx:m[lH m c.1]? with
 | none=>rw [hx] at h; cases h
 | some x =>
  rw [hx] at h;have e:x.1=c.1:=by simpa using h
  exact⟨x,rfl,e,by simp only; rw [if_pos e]⟩
theorem Kj {m:List Cn} {c:Cn} (h:oQ m c.1=aQ):qB m c=Y (m.take (lH m c.1)++c::m.drop (lH m c.1)):=by
 rw [DL];unfold oQ at h;unfold Qj;cases hx:m[lH m c.1]? with
 | none=>rfl
 | some x =>
  rw [hx] at h;have e:¬ x.1=c.1:=by simpa using h
  simp only;rw [if_neg e]
end Pr
namespace Rl
open Go.RowKit Pu Rw Pr Va
theorem nU (s p:ByteArray) (w:aA):aL L 96 #[Z s,Z p] w fun e w'=>e=O (ak (pfx p s))/\w'=w:=by
 show aL L _ _ _ fun e w'=>e=O (ak (Lib.hasPrefix s.data.toList p.data.toList))/\w'=w;rw [<- Lib.hasPrefix_of_take,<- bI,<- bI];by_cases h:p.size<=s.size
 ·have e1:(((s.size:Nat):Int) ≥ ((p.size:Nat):Int)):=by omega
  have H:=J h;go_enter bJ,bn;go_wp2
  all_goals (go_ret; refine⟨?_,rfl⟩; show O (ak ((s.extract 0 p.size).toList == p.toList))=_; rw [Lib.extract_toList,aO]; simp [h])
 ·have H:=J h;go_enter bJ,bn;go_wp2
  all_goals (go_ret; refine⟨?_,rfl⟩; show O (ak aQ)=_; simp [H.out])
theorem rB (w:aA) (nm:ByteArray) (k lo hi:Int) (u:ByteArray) (t:Bool) (n:Int) (s:ByteArray):ay w.heap.size w ((w.alloc (au #[Z nm,ah aj k,ah aj lo,ah aj hi,Z u] 106)).alloc (au #[ak t,ah aj n,Z s] 93)) :=
 ((V w.heap.size w).alloc (aD _) _).alloc (by simp) _
theorem rC (w:aA) (nm:ByteArray) (k lo hi:Int) (u:ByteArray) (nm':ByteArray) (k' lo' hi':Int) (u':ByteArray):ay w.heap.size w ((w.alloc (au #[Z nm,ah aj k,ah aj lo,ah aj hi,Z u] 106)).alloc (au #[Z nm',ah aj k',ah aj lo',ah aj hi',Z u'] 106)) :=
 ((V w.heap.size w).alloc (aD _) _).alloc (by simp) _
theorem M6 (nm:ByteArray) (lo hi:Int) (t:Bool) (n:Int) (s:ByteArray) (w:aA):aL L 67 #[cv (r5 (nm,.rg lo hi)),vl t n s] w fun e w'=>e=O (ak (dP (.rg lo hi) (t,n,s)))/\ay w.heap.size w w':=by
 simp only [r5,kN,jg,jh,kT];have R:=J (show dP (.rg lo hi) (t,n,s)=(!t && (decide (lo<=n) && decide (n<=hi))) from rfl);have B:=J (rB w nm 1 lo hi ⟨#[]⟩ t n s);generalize dP (.rg lo hi) (t,n,s)=r at *;by_cases h1:lo<=n <;> have H1:=J h1 <;> cases t <;> go_enter aU,aT <;> go_wp2 <;> go_ret <;> exact⟨dZ (by rw [R.out]; have h:=H1.out; simp [h] <;> omega),B.out⟩
theorem M7 (nm u:ByteArray) (t:Bool) (n:Int) (s:ByteArray) (w:aA):aL L 67 #[cv (r5 (nm,.tx u)),vl t n s] w fun e w'=>e=O (ak (dP (.tx u) (t,n,s)))/\ay w.heap.size w w':=by
 simp only [r5,kN,jg,jh,kT];have R:=J (show dP (.tx u) (t,n,s)=(t && (s.data.toList == u.data.toList)) from rfl);have B:=J (rB w nm 2 0 0 u t n s);generalize dP (.tx u) (t,n,s)=r at *;cases t <;> go_enter aU,aT <;> go_wp2 <;> go_ret <;> exact⟨dZ (by rw [R.out]; simp [aO]),B.out⟩
theorem M8 (nm u:ByteArray) (t:Bool) (n:Int) (s:ByteArray) (w:aA):aL L 67 #[cv (r5 (nm,.pr u)),vl t n s] w fun e w'=>e=O (ak (dP (.pr u) (t,n,s)))/\ay w.heap.size w w':=by
 simp only [r5,kN,jg,jh,kT];have R:=J (show dP (.pr u) (t,n,s)=(t && pfx u s) from rfl);have B:=J (rB w nm 3 0 0 u t n s);generalize dP (.pr u) (t,n,s)=r at *;cases t
 ·go_enter aU,aT;go_wp2;go_ret;exact⟨dZ (by rw [R.out]; simp),B.out⟩
 ·go_enter aU,aT;go_wp2_with fail;refine (nU s u _).mono ?_;rintro e w' ⟨rfl,rfl⟩;go_wp2;go_ret;exact⟨dZ (by rw [R.out]; simp),B.out⟩
theorem qG (c:Cn) (t:Bool) (n:Int) (s:ByteArray) (w:aA):aL L 67 #[cv (r5 c),vl t n s] w fun e w'=>e=O (ak (dP c.2 (t,n,s)))/\ay w.heap.size w w':=by
 obtain⟨nm,k⟩:=c;cases k with
 | rg lo hi=>exact M6 nm lo hi t n s w
 | tx u=>exact M7 nm u t n s w
 | pr u=>exact M8 nm u t n s w
theorem Zx (n1 n2:ByteArray) (lo1 hi1:Int) (lo2 hi2:Int) (w:aA):aL L 131 #[cv (r5 (n1,(.rg lo1 hi1))),cv (r5 (n2,(.rg lo2 hi2)))] w fun e w'=>e=O (ak (eB (.rg lo1 hi1) (.rg lo2 hi2)))/\ay w.heap.size w w':=by
 simp only [r5,kN,jg,jh,kT];have B:=J (rC w n1 1 lo1 hi1 ⟨#[]⟩ n2 1 lo2 hi2 ⟨#[]⟩);have R:=J (show eB (.rg lo1 hi1) (.rg lo2 hi2)=(decide (lo2<=lo1) && decide (hi1<=hi2)) from rfl);generalize eB (.rg lo1 hi1) (.rg lo2 hi2)=r at *;by_cases h1:lo2<=lo1 <;> have H1:=J h1 <;> go_enter aH,aF <;> go_wp2 <;> go_ret <;> exact⟨dZ (by rw [R.out]; have h:=H1.out; simp [h] <;> omega),B.out⟩
theorem Zy (n1 n2:ByteArray) (lo1 hi1:Int) (u2:ByteArray) (w:aA):aL L 131 #[cv (r5 (n1,(.rg lo1 hi1))),cv (r5 (n2,(.tx u2)))] w fun e w'=>e=O (ak (eB (.rg lo1 hi1) (.tx u2)))/\ay w.heap.size w w':=by
 simp only [r5,kN,jg,jh,kT];have B:=J (rC w n1 1 lo1 hi1 ⟨#[]⟩ n2 2 0 0 u2);have R:=J (show eB (.rg lo1 hi1) (.tx u2)=(aQ) from rfl);generalize eB (.rg lo1 hi1) (.tx u2)=r at *;go_enter aH,aF <;> go_wp2 <;> go_ret <;> exact⟨dZ (by rw [R.out]),B.out⟩
theorem Zz (n1 n2:ByteArray) (lo1 hi1:Int) (u2:ByteArray) (w:aA):aL L 131 #[cv (r5 (n1,(.rg lo1 hi1))),cv (r5 (n2,(.pr u2)))] w fun e w'=>e=O (ak (eB (.rg lo1 hi1) (.pr u2)))/\ay w.heap.size w w':=by
 simp only [r5,kN,jg,jh,kT];have B:=J (rC w n1 1 lo1 hi1 ⟨#[]⟩ n2 3 0 0 u2);have R:=J (show eB (.rg lo1 hi1) (.pr u2)=(aQ) from rfl);generalize eB (.rg lo1 hi1) (.pr u2)=r at *;go_enter aH,aF <;> go_wp2 <;> go_ret <;> exact⟨dZ (by rw [R.out]),B.out⟩
theorem ZA (n1 n2:ByteArray) (u1:ByteArray) (lo2 hi2:Int) (w:aA):aL L 131 #[cv (r5 (n1,(.tx u1))),cv (r5 (n2,(.rg lo2 hi2)))] w fun e w'=>e=O (ak (eB (.tx u1) (.rg lo2 hi2)))/\ay w.heap.size w w':=by
 simp only [r5,kN,jg,jh,kT];have B:=J (rC w n1 2 0 0 u1 n2 1 lo2 hi2 ⟨#[]⟩);have R:=J (show eB (.tx u1) (.rg lo2 hi2)=(aQ) from rfl);generalize eB (.tx u1) (.rg lo2 hi2)=r at *;go_enter aH,aF <;> go_wp2 <;> go_ret <;> exact⟨dZ (by rw [R.out]),B.out⟩
theorem ZC (n1 n2:ByteArray) (u1:ByteArray) (u2:ByteArray) (w:aA):aL L 131 #[cv (r5 (n1,(.tx u1))),cv (r5 (n2,(.tx u2)))] w fun e w'=>e=O (ak (eB (.tx u1) (.tx u2)))/\ay w.heap.size w w':=by
 simp only [r5,kN,jg,jh,kT];have B:=J (rC w n1 2 0 0 u1 n2 2 0 0 u2);have R:=J (show eB (.tx u1) (.tx u2)=(u1.data.toList == u2.data.toList) from rfl);generalize eB (.tx u1) (.tx u2)=r at *;go_enter aH,aF <;> go_wp2 <;> go_ret <;> exact⟨dZ (by rw [R.out]; simp [aO]),B.out⟩
theorem ZE (n1 n2:ByteArray) (u1:ByteArray) (u2:ByteArray) (w:aA):aL L 131 #[cv (r5 (n1,(.tx u1))),cv (r5 (n2,(.pr u2)))] w fun e w'=>e=O (ak (eB (.tx u1) (.pr u2)))/\ay w.heap.size w w':=by
 simp only [r5,kN,jg,jh,kT];have B:=J (rC w n1 2 0 0 u1 n2 3 0 0 u2);have R:=J (show eB (.tx u1) (.pr u2)=(pfx u2 u1) from rfl);generalize eB (.tx u1) (.pr u2)=r at *;go_enter aH,aF;go_wp2_with fail;refine (nU u1 u2 _).mono ?_;rintro e w' ⟨rfl,rfl⟩;go_wp2;go_ret;exact⟨dZ (by rw [R.out]),B.out⟩
theorem ZF (n1 n2:ByteArray) (u1:ByteArray) (lo2 hi2:Int) (w:aA):aL L 131 #[cv (r5 (n1,(.pr u1))),cv (r5 (n2,(.rg lo2 hi2)))] w fun e w'=>e=O (ak (eB (.pr u1) (.rg lo2 hi2)))/\ay w.heap.size w w':=by
 simp only [r5,kN,jg,jh,kT];have B:=J (rC w n1 3 0 0 u1 n2 1 lo2 hi2 ⟨#[]⟩);have R:=J (show eB (.pr u1) (.rg lo2 hi2)=(aQ) from rfl);generalize eB (.pr u1) (.rg lo2 hi2)=r at *;go_enter aH,aF <;> go_wp2 <;> go_ret <;> exact⟨dZ (by rw [R.out]),B.out⟩
theorem ZG (n1 n2:ByteArray) (u1:ByteArray) (u2:ByteArray) (w:aA):aL L 131 #[cv (r5 (n1,(.pr u1))),cv (r5 (n2,(.tx u2)))] w fun e w'=>e=O (ak (eB (.pr u1) (.tx u2)))/\ay w.heap.size w w':=by
 simp only [r5,kN,jg,jh,kT];have B:=J (rC w n1 3 0 0 u1 n2 2 0 0 u2);have R:=J (show eB (.pr u1) (.tx u2)=(aQ) from rfl);generalize eB (.pr u1) (.tx u2)=r at *;go_enter aH,aF <;> go_wp2 <;> go_ret <;> exact⟨dZ (by rw [R.out]),B.out⟩
theorem ZH (n1 n2:ByteArray) (u1:ByteArray) (u2:ByteArray) (w:aA):aL L 131 #[cv (r5 (n1,(.pr u1))),cv (r5 (n2,(.pr u2)))] w fun e w'=>e=O (ak (eB (.pr u1) (.pr u2)))/\ay w.heap.size w w':=by
 simp only [r5,kN,jg,jh,kT];have B:=J (rC w n1 3 0 0 u1 n2 3 0 0 u2);have R:=J (show eB (.pr u1) (.pr u2)=(pfx u2 u1) from rfl);generalize eB (.pr u1) (.pr u2)=r at *;go_enter aH,aF;go_wp2_with fail;refine (nU u1 u2 _).mono ?_;rintro e w' ⟨rfl,rfl⟩;go_wp2;go_ret;exact⟨dZ (by rw [R.out]),B.out⟩
theorem FU (c d:Cn) (w:aA):aL L 131 #[cv (r5 c),cv (r5 d)] w fun e w'=>e=O (ak (eB c.2 d.2))/\ay w.heap.size w w':=by
 obtain⟨n1,k1⟩:=c;obtain⟨n2,k2⟩:=d;cases k1 <;> cases k2
 ·exact Zx _ _ _ _ _ _ _
 ·exact Zy _ _ _ _ _ _
 ·exact Zz _ _ _ _ _ _
 ·exact ZA _ _ _ _ _ _
 ·exact ZC _ _ _ _ _
 ·exact ZE _ _ _ _ _
 ·exact ZF _ _ _ _ _ _
 ·exact ZG _ _ _ _ _
 ·exact ZH _ _ _ _ _
def vX (x y:Cn):Bool:=decide (y.1=x.1) && eB y.2 x.2
theorem FV {α:Type} (f:α->Bool) (l:List α) (k:Nat) (y:α) (h:l[k]?=Y y):(l.take (k+1)).any f=((l.take k).any f || f y):=by
 rw [aV,h,List.any_append];simp
theorem uM {α:Type} (f:α->Bool) (l:List α) (k:Nat) (y:α) (h:l[k]?=Y y):(l.take (k+1)).all f=((l.take k).all f && f y):=by
 rw [aV,h,List.all_append];simp
theorem yg {α:Type} (f:α->Bool) (l:List α) (k:Nat) (y:α) (h:l[k]?=Y y) (hf:f y=aQ):l.all f=aQ:=by
 rw [List.all_eq_false];exact⟨y,List.mem_of_getElem? h,by simp [hf]⟩
theorem str_eq (a b:ByteArray) (h:a=b):(a.toList == b.toList)=bg:=by simp [h]
theorem Qk (a b:ByteArray) (h:¬ a=b):(a.toList == b.toList)=aQ:=by
 rw [beq_eq_false_iff_ne];intro e;rw [aO,aO] at e;exact h (rD e)
theorem FX (oO bv:aZ) (a b:List Cn) (w:aA) (ha:fG w oO (a.map r5)) (hb:fG w bv (b.map r5)) (hl:a.length<=100) (hm:b.length<=100) :
  aL L 110 #[oO,bv] w fun e w'=>e=O (ak (ou a b))/\ay w.heap.size w w':=by
 have HA:=J ha;have HB:=J hb;have CO:=J (show ou a b=a.all fun x=>b.any (vX x) from rfl);obtain⟨ao,ac,rfl⟩:=ha.len;obtain⟨bo,bc,rfl⟩:=hb.len;clear ha hb;rw [aR] at HA HB ⊢;rw [aR];generalize ou a b=r at *;generalize hn:a.length=n at *;generalize hm':b.length=m at *;have HN:=J hn;have HM:=J hm';clear hn hm';go_enter Tryz.func110,Tryz.ntmps110;go_wp2
 go_loopw [12] (fun i wr=>∃ k:Nat,k<=n/\i=ah aj k/\ay w.heap.size w wr/\(a.take k).all (fun x=>b.any (vX x))=bg) (fun i _=>n-(intOf i).toNat)
 case atStart=>exact⟨0,bf _,rfl,V _ _,rfl⟩
 case round =>
  obtain⟨k,hk,rfl,hbe,hall⟩:=hrel;have BE:=J hbe;have AL:=J hall;clear hbe hall;by_cases hlt:k<n
  ·obtain⟨x,hx⟩:∃ x,a[k]?=Y x:=⟨_,aN (by rw [HN.out]; exact hlt)⟩;obtain⟨p,ix,px⟩:=U7 HA.out rfl (by rw [aR]; exact HN.out) (show (a.map r5)[k]?=Y (r5 x) by rw [aW,hx]; rfl);have p0:=(px _ BE.out).1;have p1:=(px _ BE.out).2.1;have p2:=(px _ BE.out).2.2.1;have p3:=(px _ BE.out).2.2.2.1;have p4:=(px _ BE.out).2.2.2.2;have HX:=J hx;have B1:=J (BE.out.alloc BE.out.size (au #[Z (r5 x).1,ah aj (r5 x).2.1,ah aj (r5 x).2.2.1,ah aj (r5 x).2.2.2.1,Z (r5 x).2.2.2.2] 106));have Z1:=J (show wr.heap.size<(wr.alloc (au #[Z (r5 x).1,ah aj (r5 x).2.1,ah aj (r5 x).2.2.1,ah aj (r5 x).2.2.2.1,Z (r5 x).2.2.2.2] 106)).heap.size by simp);have e0:(wr.alloc (au #[Z (r5 x).1,ah aj (r5 x).2.1,ah aj (r5 x).2.2.1,ah aj (r5 x).2.2.2.1,Z (r5 x).2.2.2.2] 106)).cell? ⟨wr.heap.size,0,X⟩=Y (Z (r5 x).1):=by simp [go_sem]
   have e1:(wr.alloc (au #[Z (r5 x).1,ah aj (r5 x).2.1,ah aj (r5 x).2.2.1,ah aj (r5 x).2.2.2.1,Z (r5 x).2.2.2.2] 106)).cell? ⟨wr.heap.size,1,X⟩=Y (ah aj (r5 x).2.1):=by simp [go_sem]
   have e2:(wr.alloc (au #[Z (r5 x).1,ah aj (r5 x).2.1,ah aj (r5 x).2.2.1,ah aj (r5 x).2.2.2.1,Z (r5 x).2.2.2.2] 106)).cell? ⟨wr.heap.size,2,X⟩=Y (ah aj (r5 x).2.2.1):=by simp [go_sem]
   have e3:(wr.alloc (au #[Z (r5 x).1,ah aj (r5 x).2.1,ah aj (r5 x).2.2.1,ah aj (r5 x).2.2.2.1,Z (r5 x).2.2.2.2] 106)).cell? ⟨wr.heap.size,3,X⟩=Y (ah aj (r5 x).2.2.2.1):=by simp [go_sem]
   have e4:(wr.alloc (au #[Z (r5 x).1,ah aj (r5 x).2.1,ah aj (r5 x).2.2.1,ah aj (r5 x).2.2.2.1,Z (r5 x).2.2.2.2] 106)).cell? ⟨wr.heap.size,4,X⟩=Y (Z (r5 x).2.2.2.2):=by simp [go_sem]
   clear px hx;go_wp2;generalize wr.alloc (au #[Z (r5 x).1,ah aj (r5 x).2.1,ah aj (r5 x).2.2.1,ah aj (r5 x).2.2.2.1,Z (r5 x).2.2.2.2] 106)=W1 at *;generalize wr.heap.size=bx at *;have E0:=J e0;have E1:=J e1;have E2:=J e2;have E3:=J e3;have E4:=J e4;clear e0 e1 e2 e3 e4 ix p0 p1 p2 p3 p4
   go_loopw [7,18] (fun v i wi=>∃ j:Nat,j<=m/\i=ah aj j/\v=ak ((b.take j).any (vX x))/\ay W1.heap.size W1 wi) (fun _ i _=>m-(intOf i).toNat)
   case atStart=>exact⟨0,bf _,rfl,rfl,V _ _⟩
   case round =>
    obtain⟨j,hj,rfl,rfl,hbi⟩:=hrel;have BI:=J hbi;have TK:=J (B1.out.trans (hbi.mono B1.out.size));clear hbi;by_cases hjt:j<m
    ·obtain⟨y,hy⟩:∃ y,b[j]?=Y y:=⟨_,aN (by rw [HM.out]; exact hjt)⟩;obtain⟨q,iy,py⟩:=U7 HB.out rfl (by rw [aR]; exact HM.out) (show (b.map r5)[j]?=Y (r5 y) by rw [aW,hy]; rfl);have q0:=(py _ TK.out).1;have q1:=(py _ TK.out).2.1;have q2:=(py _ TK.out).2.2.1;have q3:=(py _ TK.out).2.2.2.1;have q4:=(py _ TK.out).2.2.2.2;have MO:=J (FV (vX x) b j y hy);have DN:=J (BI.out.alloc BI.out.size (au #[Z (r5 y).1,ah aj (r5 y).2.1,ah aj (r5 y).2.2.1,ah aj (r5 y).2.2.2.1,Z (r5 y).2.2.2.2] 106));have f0:=(DN.out.cell (p:=⟨bx,0,X⟩) Z1.out).trans E0.out;have f1:=(DN.out.cell (p:=⟨bx,1,X⟩) Z1.out).trans E1.out;have f2:=(DN.out.cell (p:=⟨bx,2,X⟩) Z1.out).trans E2.out;have f3:=(DN.out.cell (p:=⟨bx,3,X⟩) Z1.out).trans E3.out;have f4:=(DN.out.cell (p:=⟨bx,4,X⟩) Z1.out).trans E4.out;clear py hy;cases hv:(b.take j).any (vX x)
     ·rw [hv] at MO;clear hv;by_cases hne:y.1=x.1
      ·have g0:=str_eq (r5 y).1 (r5 x).1 hne;have CV:=J (show vX x y=eB y.2 x.2 by simp [vX,hne]);go_wp2_with fail;refine (FU y x _).mono ?_;rintro e w2 ⟨rfl,hc⟩;have BC:=J (DN.out.trans (hc.mono DN.out.size));clear hc;go_wp2
       go_roundw
       case rel=>exact⟨j+1,by omega,by go_num,by rw [MO.out,CV.out]; rfl,BC.out⟩
       case measure=>simp [intOf]; omega
      ·have g0:=Qk (r5 y).1 (r5 x).1 hne;have CV:=J (show vX x y=aQ by simp [vX,hne]);go_wp2
       go_roundw
       case rel=>exact⟨j+1,by omega,by go_num,by rw [MO.out,CV.out]; rfl,DN.out⟩
       case measure=>simp [intOf]; omega
     ·rw [hv] at MO;clear hv;go_wp2
      go_roundw
      case rel=>exact⟨j+1,by omega,by go_num,by rw [MO.out]; rfl,DN.out⟩
      case measure=>simp [intOf]; omega
    ·obtain rfl:j=m:=by omega
     have TA:=J (show (b.take j).any (vX x)=b.any (vX x) by rw [<- HM.out,aX]);have AM:=J (uM (fun x=>b.any (vX x)) a k x HX.out);rw [TA.out];cases hv:b.any (vX x)
     ·have R:=J (show r=aQ from CO.out.trans (yg _ a k x HX.out hv));clear hv;go_wp2;go_ret;exact⟨dZ R.out.symm,TK.out⟩
     ·have HV:=J hv;clear hv;go_wp2
      go_roundw
      case rel=>exact⟨k+1,by omega,by go_num,TK.out,by rw [AM.out,AL.out,HV.out]; rfl⟩
      case measure=>simp [intOf]; omega
  ·obtain rfl:k=n:=by omega
   have R:=J (show r=bg by rw [CO.out,<- AL.out,<- HN.out,aX]);go_wp2;go_ret;exact⟨dZ R.out.symm,BE.out⟩
end Rl
namespace Av
open Go.RowKit Rw YtkcfgbddlpomgaaGreat.Nm Pr Bk Rg
theorem Ql (a:Option bA) (n c:Nat) (w:aA):(binOp .eql 25 (U a n c) (U X 0 0)).run L w=.ok (ak a.isNone) w:=by
 simp [go_sem,binOp,run_equal_slice_nil (P:=L) w 25 3 a n c Tryz.underlying25]
theorem yO (v:Sl) (l:List Int) (w:aA) (hv:Row EI w (dK v) l) (hl:l.length<=900) :
  aL L 74 #[dK v] w fun e w'=>(∃ v':Sl,e=O (dK v')/\Own EI w' w.heap.size (dK v') l)/\ay w.heap.size w w':=by
 obtain⟨vo,vn,vc⟩:=v;rcases hv with⟨rfl,hv⟩|⟨a,cap,hv,h1,h2,h3⟩
 ·obtain⟨rfl,rfl,rfl⟩:vo=X/\vn=0/\vc=0:=by simpa using hv
  clear hv hl;have q:∀ w',(binOp .eql 25 (U X 0 0) (U X 0 0)).run L w'=.ok (ak bg) w':=fun w'=>Ql X 0 0 w';go_enter bK,bC;go_wp2;go_ret;exact⟨⟨(X,0,0),rfl,fF _ _⟩,V _ _⟩
 ·obtain⟨rfl,rfl,rfl⟩:vo=Y a/\vn=l.length/\vc=cap:=by simpa using hv
  have hx:Row EI w (U (Y a) l.length vc) l:=aP ⟨a,vc,rfl,h1,h2,h3⟩;have n0:=fT w (au #[] 3);obtain⟨q0,w0,r0,o0,g0⟩:=iA Nm.I4 w.heap.size (dI w #[] 3) (aD _) (hx.on n0) (by omega) 25;obtain⟨v1,v3,hv1⟩:=(Row.dn o0).len;obtain⟨n,hn⟩:∃ n,n=l.length:=⟨_,rfl⟩;have Q:=J (show (∃ v':Sl,O q0=O (dK v')/\Own EI w0 w.heap.size (dK v') l)/\ay w.heap.size w w0 from ⟨⟨(v1,l.length,v3),by rw [hv1],by subst hv1; exact o0⟩,n0.trans (g0.mono n0.size)⟩);rw [<- hn] at r0 ⊢;clear hv h1 h2 h3 hx o0 g0 n0 hv1 hn hl;have q:∀ w',(binOp .eql 25 (U (Y a) n vc) (U X 0 0)).run L w'=.ok (ak aQ) w':=fun w'=>Ql (Y a) n vc w';have r0:(aM #[25,25] 25 #[U (Y ⟨w.heap.size,0,X⟩) 0 0,U (Y a) n vc]).run L (w.alloc (au #[] 3))=.ok q0 w0:=r0;go_enter bK,bC;go_wp2_with (first | (at_builtin; refine aI rfl _ _ 25 rfl rfl rfl r0 ?_) | fail);go_ret;exact Q.out
theorem Qm (a:Option bA) (n c:Nat) (w:aA):(binOp .eql 29 (U a n c) (U X 0 0)).run L w=.ok (ak a.isNone) w:=by
 simp [go_sem,binOp,run_equal_slice_nil (P:=L) w 29 38 a n c Tryz.underlying29]
theorem Jd (v:Sl) (l:List eF) (w:aA) (hv:Row EJ w (dK v) l) (hl:l.length<=900) :
  aL L 84 #[dK v] w fun e w'=>(∃ v':Sl,e=O (dK v')/\Own EJ w' w.heap.size (dK v') l)/\ay w.heap.size w w':=by
 obtain⟨vo,vn,vc⟩:=v;rcases hv with⟨rfl,hv⟩|⟨a,cap,hv,h1,h2,h3⟩
 ·obtain⟨rfl,rfl,rfl⟩:vo=X/\vn=0/\vc=0:=by simpa using hv
  clear hv hl;have q:∀ w',(binOp .eql 29 (U X 0 0) (U X 0 0)).run L w'=.ok (ak bg) w':=fun w'=>Qm X 0 0 w';go_enter bL,bD;go_wp2;go_ret;exact⟨⟨(X,0,0),rfl,fF _ _⟩,V _ _⟩
 ·obtain⟨rfl,rfl,rfl⟩:vo=Y a/\vn=l.length/\vc=cap:=by simpa using hv
  have hx:Row EJ w (U (Y a) l.length vc) l:=aP ⟨a,vc,rfl,h1,h2,h3⟩;have n0:=fT w (au #[] 38);obtain⟨q0,w0,r0,o0,g0⟩:=iA Am w.heap.size (dI w #[] 38) (aD _) (hx.on n0) (by omega) 29;obtain⟨v1,v3,hv1⟩:=(Row.dn o0).len;obtain⟨n,hn⟩:∃ n,n=l.length:=⟨_,rfl⟩;have Q:=J (show (∃ v':Sl,O q0=O (dK v')/\Own EJ w0 w.heap.size (dK v') l)/\ay w.heap.size w w0 from ⟨⟨(v1,l.length,v3),by rw [hv1],by subst hv1; exact o0⟩,n0.trans (g0.mono n0.size)⟩);rw [<- hn] at r0 ⊢;clear hv h1 h2 h3 hx o0 g0 n0 hv1 hn hl;have q:∀ w',(binOp .eql 29 (U (Y a) n vc) (U X 0 0)).run L w'=.ok (ak aQ) w':=fun w'=>Qm (Y a) n vc w';have r0:(aM #[29,29] 29 #[U (Y ⟨w.heap.size,0,X⟩) 0 0,U (Y a) n vc]).run L (w.alloc (au #[] 38))=.ok q0 w0:=r0;go_enter bL,bD;go_wp2_with (first | (at_builtin; refine aI rfl _ _ 29 rfl rfl rfl r0 ?_) | fail);go_ret;exact Q.out
theorem Qn (a:Option bA) (n c:Nat) (w:aA):(binOp .eql 28 (U a n c) (U X 0 0)).run L w=.ok (ak a.isNone) w:=by
 simp [go_sem,binOp,run_equal_slice_nil (P:=L) w 28 53 a n c Tryz.underlying28]
theorem Je (v:Sl) (l:List jv) (w:aA) (hv:Row ED w (dK v) l) (hl:l.length<=900) :
  aL L 85 #[dK v] w fun e w'=>(∃ v':Sl,e=O (dK v')/\Own ED w' w.heap.size (dK v') l)/\ay w.heap.size w w':=by
 obtain⟨vo,vn,vc⟩:=v;rcases hv with⟨rfl,hv⟩|⟨a,cap,hv,h1,h2,h3⟩
 ·obtain⟨rfl,rfl,rfl⟩:vo=X/\vn=0/\vc=0:=by simpa using hv
  clear hv hl;have q:∀ w',(binOp .eql 28 (U X 0 0) (U X 0 0)).run L w'=.ok (ak bg) w':=fun w'=>Qn X 0 0 w';go_enter bN,bE;go_wp2;go_ret;exact⟨⟨(X,0,0),rfl,fF _ _⟩,V _ _⟩
 ·obtain⟨rfl,rfl,rfl⟩:vo=Y a/\vn=l.length/\vc=cap:=by simpa using hv
  have hx:Row ED w (U (Y a) l.length vc) l:=aP ⟨a,vc,rfl,h1,h2,h3⟩;have n0:=fT w (au #[] 53);obtain⟨q0,w0,r0,o0,g0⟩:=iA okD w.heap.size (dI w #[] 53) (aD _) (hx.on n0) (by omega) 28;obtain⟨v1,v3,hv1⟩:=(Row.dn o0).len;obtain⟨n,hn⟩:∃ n,n=l.length:=⟨_,rfl⟩;have Q:=J (show (∃ v':Sl,O q0=O (dK v')/\Own ED w0 w.heap.size (dK v') l)/\ay w.heap.size w w0 from ⟨⟨(v1,l.length,v3),by rw [hv1],by subst hv1; exact o0⟩,n0.trans (g0.mono n0.size)⟩);rw [<- hn] at r0 ⊢;clear hv h1 h2 h3 hx o0 g0 n0 hv1 hn hl;have q:∀ w',(binOp .eql 28 (U (Y a) n vc) (U X 0 0)).run L w'=.ok (ak aQ) w':=fun w'=>Qn (Y a) n vc w';have r0:(aM #[28,28] 28 #[U (Y ⟨w.heap.size,0,X⟩) 0 0,U (Y a) n vc]).run L (w.alloc (au #[] 53))=.ok q0 w0:=r0;go_enter bN,bE;go_wp2_with (first | (at_builtin; refine aI rfl _ _ 28 rfl rfl rfl r0 ?_) | fail);go_ret;exact Q.out
theorem Qo (a:Option bA) (n c:Nat) (w:aA):(binOp .eql 30 (U a n c) (U X 0 0)).run L w=.ok (ak a.isNone) w:=by
 simp [go_sem,binOp,run_equal_slice_nil (P:=L) w 30 68 a n c Tryz.underlying30]
theorem Jf (v:Sl) (l:List iB) (w:aA) (hv:Row EN w (dK v) l) (hl:l.length<=900) :
  aL L 86 #[dK v] w fun e w'=>(∃ v':Sl,e=O (dK v')/\Own EN w' w.heap.size (dK v') l)/\ay w.heap.size w w':=by
 obtain⟨vo,vn,vc⟩:=v;rcases hv with⟨rfl,hv⟩|⟨a,cap,hv,h1,h2,h3⟩
 ·obtain⟨rfl,rfl,rfl⟩:vo=X/\vn=0/\vc=0:=by simpa using hv
  clear hv hl;have q:∀ w',(binOp .eql 30 (U X 0 0) (U X 0 0)).run L w'=.ok (ak bg) w':=fun w'=>Qo X 0 0 w';go_enter bO,bF;go_wp2;go_ret;exact⟨⟨(X,0,0),rfl,fF _ _⟩,V _ _⟩
 ·obtain⟨rfl,rfl,rfl⟩:vo=Y a/\vn=l.length/\vc=cap:=by simpa using hv
  have hx:Row EN w (U (Y a) l.length vc) l:=aP ⟨a,vc,rfl,h1,h2,h3⟩;have n0:=fT w (au #[] 68);obtain⟨q0,w0,r0,o0,g0⟩:=iA nR w.heap.size (dI w #[] 68) (aD _) (hx.on n0) (by omega) 30;obtain⟨v1,v3,hv1⟩:=(Row.dn o0).len;obtain⟨n,hn⟩:∃ n,n=l.length:=⟨_,rfl⟩;have Q:=J (show (∃ v':Sl,O q0=O (dK v')/\Own EN w0 w.heap.size (dK v') l)/\ay w.heap.size w w0 from ⟨⟨(v1,l.length,v3),by rw [hv1],by subst hv1; exact o0⟩,n0.trans (g0.mono n0.size)⟩);rw [<- hn] at r0 ⊢;clear hv h1 h2 h3 hx o0 g0 n0 hv1 hn hl;have q:∀ w',(binOp .eql 30 (U (Y a) n vc) (U X 0 0)).run L w'=.ok (ak aQ) w':=fun w'=>Qo (Y a) n vc w';have r0:(aM #[30,30] 30 #[U (Y ⟨w.heap.size,0,X⟩) 0 0,U (Y a) n vc]).run L (w.alloc (au #[] 68))=.ok q0 w0:=r0;go_enter bO,bF;go_wp2_with (first | (at_builtin; refine aI rfl _ _ 30 rfl rfl rfl r0 ?_) | fail);go_ret;exact Q.out
theorem Qp (a:Option bA) (n c:Nat) (w:aA):(binOp .eql 31 (U a n c) (U X 0 0)).run L w=.ok (ak a.isNone) w:=by
 simp [go_sem,binOp,run_equal_slice_nil (P:=L) w 31 61 a n c Tryz.underlying31]
theorem Jg (v:Sl) (l:List qy) (w:aA) (hv:Row EW w (dK v) l) (hl:l.length<=900) :
  aL L 87 #[dK v] w fun e w'=>(∃ v':Sl,e=O (dK v')/\Own EW w' w.heap.size (dK v') l)/\ay w.heap.size w w':=by
 obtain⟨vo,vn,vc⟩:=v;rcases hv with⟨rfl,hv⟩|⟨a,cap,hv,h1,h2,h3⟩
 ·obtain⟨rfl,rfl,rfl⟩:vo=X/\vn=0/\vc=0:=by simpa using hv
  clear hv hl;have q:∀ w',(binOp .eql 31 (U X 0 0) (U X 0 0)).run L w'=.ok (ak bg) w':=fun w'=>Qp X 0 0 w';go_enter bP,bG;go_wp2;go_ret;exact⟨⟨(X,0,0),rfl,fF _ _⟩,V _ _⟩
 ·obtain⟨rfl,rfl,rfl⟩:vo=Y a/\vn=l.length/\vc=cap:=by simpa using hv
  have hx:Row EW w (U (Y a) l.length vc) l:=aP ⟨a,vc,rfl,h1,h2,h3⟩;have n0:=fT w (au #[] 61);obtain⟨q0,w0,r0,o0,g0⟩:=iA okW w.heap.size (dI w #[] 61) (aD _) (hx.on n0) (by omega) 31;obtain⟨v1,v3,hv1⟩:=(Row.dn o0).len;obtain⟨n,hn⟩:∃ n,n=l.length:=⟨_,rfl⟩;have Q:=J (show (∃ v':Sl,O q0=O (dK v')/\Own EW w0 w.heap.size (dK v') l)/\ay w.heap.size w w0 from ⟨⟨(v1,l.length,v3),by rw [hv1],by subst hv1; exact o0⟩,n0.trans (g0.mono n0.size)⟩);rw [<- hn] at r0 ⊢;clear hv h1 h2 h3 hx o0 g0 n0 hv1 hn hl;have q:∀ w',(binOp .eql 31 (U (Y a) n vc) (U X 0 0)).run L w'=.ok (ak aQ) w':=fun w'=>Qp (Y a) n vc w';have r0:(aM #[31,31] 31 #[U (Y ⟨w.heap.size,0,X⟩) 0 0,U (Y a) n vc]).run L (w.alloc (au #[] 61))=.ok q0 w0:=r0;go_enter bP,bG;go_wp2_with (first | (at_builtin; refine aI rfl _ _ 31 rfl rfl rfl r0 ?_) | fail);go_ret;exact Q.out
theorem Jh (a:Option bA) (n c:Nat) (w:aA):(binOp .eql 41 (U a n c) (U X 0 0)).run L w=.ok (ak a.isNone) w:=by
 simp [go_sem,binOp,run_equal_slice_nil (P:=L) w 41 106 a n c Tryz.underlying41]
theorem qH (v:Sl) (l:List C5) (w:aA) (hv:Row EC w (dK v) l) (hl:l.length<=900) :
  aL L 66 #[dK v] w fun e w'=>(∃ v':Sl,e=O (dK v')/\Own EC w' w.heap.size (dK v') l)/\ay w.heap.size w w':=by
 obtain⟨vo,vn,vc⟩:=v;rcases hv with⟨rfl,hv⟩|⟨a,cap,hv,h1,h2,h3⟩
 ·obtain⟨rfl,rfl,rfl⟩:vo=X/\vn=0/\vc=0:=by simpa using hv
  clear hv hl;have q:∀ w',(binOp .eql 41 (U X 0 0) (U X 0 0)).run L w'=.ok (ak bg) w':=fun w'=>Jh X 0 0 w';go_enter bQ,bH;go_wp2;go_ret;exact⟨⟨(X,0,0),rfl,fF _ _⟩,V _ _⟩
 ·obtain⟨rfl,rfl,rfl⟩:vo=Y a/\vn=l.length/\vc=cap:=by simpa using hv
  have hx:Row EC w (U (Y a) l.length vc) l:=aP ⟨a,vc,rfl,h1,h2,h3⟩;have n0:=fT w (au #[] 106);obtain⟨q0,w0,r0,o0,g0⟩:=iA Bh w.heap.size (dI w #[] 106) (aD _) (hx.on n0) (by omega) 41;obtain⟨v1,v3,hv1⟩:=(Row.dn o0).len;obtain⟨n,hn⟩:∃ n,n=l.length:=⟨_,rfl⟩;have Q:=J (show (∃ v':Sl,O q0=O (dK v')/\Own EC w0 w.heap.size (dK v') l)/\ay w.heap.size w w0 from ⟨⟨(v1,l.length,v3),by rw [hv1],by subst hv1; exact o0⟩,n0.trans (g0.mono n0.size)⟩);rw [<- hn] at r0 ⊢;clear hv h1 h2 h3 hx o0 g0 n0 hv1 hn hl;have q:∀ w',(binOp .eql 41 (U (Y a) n vc) (U X 0 0)).run L w'=.ok (ak aQ) w':=fun w'=>Jh (Y a) n vc w';have r0:(aM #[41,41] 41 #[U (Y ⟨w.heap.size,0,X⟩) 0 0,U (Y a) n vc]).run L (w.alloc (au #[] 106))=.ok q0 w0:=r0;go_enter bQ,bH;go_wp2_with (first | (at_builtin; refine aI rfl _ _ 41 rfl rfl rfl r0 ?_) | fail);go_ret;exact Q.out
theorem Ji (l:List eF) (x:eF) (h:∀ (j:Nat) (y:eF),l[j]?=Y y->y≠x):eU l x=-1:=by
 induction l with
 | nil=>rfl
 | cons a l ih =>
  rw [eU,if_neg (h 0 a rfl),ih fun j y hj=>h (j+1) y (by simpa using hj),if_pos rfl]
theorem Qq (l:List eF) (k:Nat) (x:eF) (h:l[k]?=Y x) (hall:∀ (j:Nat) (z:eF),j<k->l[j]?=Y z->z≠x):eU l x=k:=by
 induction l generalizing k with
 | nil=>simp at h
 | cons a l ih =>
  cases k with
  | zero =>
   obtain rfl:a=x:=by simpa using h
   rw [eU,if_pos rfl]
   rfl
  | succ k =>
   have h2:=ih k (by simpa using h) fun j z hj hz=>hall (j+1) z (by omega) (by simpa using hz);rw [eU,if_neg (hall 0 a (by omega) rfl),h2,if_neg (by omega)];omega
theorem FY (l:List eF) (x:eF):decide ((0:Int)<=eU l x)=decide (x∈l):=by
 induction l with
 | nil=>simp [eU]
 | cons a l ih =>
  have hb:=mE l x;rw [eU];by_cases h:a=x
  ·rw [if_pos h]; simp [h]
  ·rw [if_neg h];have h':¬ x=a:=fun e=>h e.symm;simp only [List.mem_cons,h',false_or];rw [<- ih];by_cases h2:eU l x=-1
   ·rw [if_pos h2,h2]
   ·rw [if_neg h2];have h3:0<=eU l x:=by omega
    have h4:0<=eU l x+1:=by omega
    simp [h3,h4]
theorem M9 (sv:Sl) (l:List eF) (x:eF) (w:aA) (hs:vR w (dK sv) l) :
  aL L 111 #[dK sv,lZ x] w fun e w'=>e=O (ah aj (eU l x))/\ay w.heap.size w w':=by
 obtain⟨c,d⟩:=x;obtain⟨so,sn,sc⟩:=sv;obtain⟨ao,ac,hv⟩:=hs.len;have hv:U so sn sc=U ao l.length ac:=hv;obtain⟨rfl,rfl,rfl⟩:so=ao/\sn=l.length/\sc=ac:=by simpa using hv
 have h0:=fT w (au #[ah aj c,ah aj d] 38);have h2:=dI w #[ah aj c,ah aj d] 38;have B:=J h0;have HS:=J (hs.on h0);have X3:=J h2;have lm:=hs.most;unfold maxLen at lm;obtain⟨n,hn⟩:∃ n,n=l.length:=⟨_,rfl⟩;rw [<- hn] at HS lm ⊢;have HN:=J hn.symm;clear h0 h2 hs hv hn;go_enter Tryz.func111,Tryz.ntmps111;go_upto_region 1 with fail;generalize w.alloc (au #[ah aj c,ah aj d] 38)=W at *;go_wp2
 go_loopw [8] (fun i wr=>∃ k:Nat,k<=n/\i=ah aj k/\ay W.heap.size W wr/\∀ (j:Nat) (y:eF),j<k->l[j]?=Y y->y≠(c,d)) (fun i _=>n-(intOf i).toNat)
 case atStart=>exact⟨0,bf _,rfl,V _ _,fun j y h=>by omega⟩
 case round =>
  obtain⟨k,hk,rfl,hbe,hall⟩:=hrel;have BE:=J hbe;have AL:=J hall;clear hbe hall;by_cases hlt:k<n
  ·obtain⟨y,hy⟩:∃ y,l[k]?=Y y:=⟨_,aN (by rw [HN.out]; exact hlt)⟩;obtain⟨p,ix,px⟩:=elJ HS.out rfl HN.out hy;have DD:ay W.heap.size W wr.drew:=BE.out.drew;obtain⟨p0,p1⟩:=px wr BE.out;obtain⟨y1,y2⟩:=y;simp only at p0 p1;obtain⟨x0,x1⟩:=(X3.out.on BE.out).cs2;have hw3:IntKind.i64.wrap ((k:Int)+1)=(k:Int)+1:=IntWalk.i64_in _ (by omega);obtain⟨r,hr⟩:∃ r,(c == y1 && d == y2)=r:=⟨_,rfl⟩;have he:=rG c d y1 y2 r hr;have DB:=J DD;have HY:=J hy;have HR:=J hr;clear px hy hr DD;cases r
   ·go_wp2_with fail
    go_quiet (fail)
    go_wp2
    go_roundw
    case rel=>exact⟨k+1,by omega,by go_num,⟨BE.out.os,BE.out.tape,BE.out.output,BE.out.size,BE.out.block⟩,fun j y' hj h1=>by
     rcases Nat.lt_or_ge j k with h3|h3
     ·exact AL.out j y' h3 h1
     ·obtain rfl:j=k:=by omega
      have e1:=HY.out;rw [h1] at e1;rw [Option.some.inj e1];intro e;obtain⟨rfl,rfl⟩:y1=c/\y2=d:=by simpa using e
      have:=HR.out;simp at this⟩
    case measure=>simp [intOf]; omega
   ·go_wp2_with fail
    go_quiet (fail)
    go_wp2;go_ret;have h8:=HR.out;obtain⟨rfl,rfl⟩:c=y1/\d=y2:=by simpa using h8
    exact⟨by rw [Qq l k (c,d) HY.out AL.out]; rfl,B.out.trans (Below.mono ⟨BE.out.os,BE.out.tape,BE.out.output,BE.out.size,BE.out.block⟩ B.out.size)⟩
  ·obtain rfl:k=n:=by omega
   go_wp2;go_ret;have hd:eU l (c,d)=-1:=Ji l (c,d) fun j y hj=>AL.out j y (by rw [<- HN.out]; exact (List.getElem?_eq_some_iff.1 hj).1) hj;exact⟨by rw [hd]; rfl,B.out.trans (BE.out.mono B.out.size)⟩
theorem DU (sv:Sl) (l:List eF) (x:eF) (w:aA) (hs:vR w (dK sv) l) :
  aL L 97 #[dK sv,lZ x] w fun e w'=>e=O (ak (decide (x∈l)))/\ay w.heap.size w w':=by
 have h0:=fT w (au #[ah aj x.1,ah aj x.2] 38);have h2:=dI w #[ah aj x.1,ah aj x.2] 38;have C:=M9 sv l x _ (hs.on h0);have R:=J (FY l x);obtain⟨c,d⟩:=x;obtain⟨so,sn,sc⟩:=sv;have B:=J h0;obtain⟨x0,x1⟩:=h2.cs2;generalize eU l (c,d)=r at *;generalize decide ((c,d)∈l)=s at *;clear h0 h2 hs;go_enter Tryz.func97,Tryz.ntmps97;go_wp2_with fail;refine C.mono ?_;rintro e w1 ⟨rfl,hb⟩;go_wp2;go_ret;exact⟨by have h:=R.out; subst h; rfl,B.out.trans (hb.mono B.out.size)⟩
theorem Na (me:Int) (nv av ev ov:aZ) (sv:Sl) (l:List eF) (x:eF) (w:aA) (hs:vR w (dK sv) l) :
  aL L 69 #[.agg #[ah aj me,nv,av,dK sv,ev,ov],lZ x] w fun e w'=>e=O (ak (decide (x∈l)))/\ay w.heap.size w w':=by
 obtain⟨h0,h1,h2⟩:=gG w #[ah aj me,nv,av,dK sv,ev,ov] #[ah aj x.1,ah aj x.2] 33 38;have C:=DU sv l x _ (hs.on h0);obtain⟨c,d⟩:=x;obtain⟨so,sn,sc⟩:=sv;have B:=J h0;have b3:=h1.cell 3;obtain⟨x0,x1⟩:=h2.cs2;simp only [aG,aK,aB] at b3;generalize decide ((c,d)∈l)=s at *;clear h0 h1 h2 hs;go_enter Tryz.func69,Tryz.ntmps69;go_wp2_with fail;refine C.mono ?_;rintro e w1 ⟨rfl,hb⟩;go_wp2;go_ret;exact⟨rfl,B.out.trans (hb.mono B.out.size)⟩
end Av
namespace Bk
open Go.RowKit Rw YtkcfgbddlpomgaaGreat.Nm Pr
def Kk (B b2 _:Nat) (so:Option bA) (sn sc at_:Nat) (lo hiv:aZ) (z:iB) (lt ld:List iB) (i:Nat) (v:aZ) (x:aA):Prop :=
 match i with
 | 0=>∃ g,v=U (Y ⟨g,0,X⟩) 0 0/\B<=g/\dG x g #[] 68
 | 1=>v=aC (Y ⟨b2,4,X⟩)
 | 2=>v=U so sn sc
 | 3=>v=ah aj (at_:Int)
 | 4=>v=lo
 | 5=>jw x B v lt
 | 6=>v=qX z
 | 7=>jw x B v [z]
 | 8=>jw x B v (lt++[z])
 | 9=>v=aC (Y ⟨b2,4,X⟩)
 | 10=>v=U so sn sc
 | 11=>v=ah aj (at_:Int)
 | 12=>v=hiv
 | 13=>jw x B v (lt++[z]++ld)
 | 14=>v=aC (Y ⟨b2,4,X⟩)
 | _=>True
noncomputable def Xq:Code:=((Tryz.f57.body.bind (eu 8)).getD .skip)
theorem Qr (B b2 b3:Nat) (so:Option bA) (sn sc at_:Nat) (lo hiv:aZ) (z:iB) (lt ld:List iB) (i:Nat) (v:aZ) (x x':aA) (h:Kk B b2 b3 so sn sc at_ lo hiv z lt ld i v x) (hb:ay x.heap.size x x'):Kk B b2 b3 so sn sc at_ lo hiv z lt ld i v x':=by
 by_cases hi:i<15
 ·rcases (by omega:i=0\/i=1\/i=2\/i=3\/i=4\/i=5\/i=6\/i=7\/i=8\/i=9\/i=10\/i=11\/i=12\/i=13\/i=14) with rfl|rfl|rfl|rfl|rfl|rfl|rfl|rfl|rfl|rfl|rfl|rfl|rfl|rfl|rfl
  ·obtain⟨g,h1,h2,h3⟩:=h;exact⟨g,h1,h2,h3.on hb⟩
  ·exact h
  ·exact h
  ·exact h
  ·exact h
  ·exact dh h hb
  ·exact h
  ·exact dh h hb
  ·exact dh h hb
  ·exact h
  ·exact h
  ·exact h
  ·exact h
  ·exact dh h hb
  ·exact h
 ·unfold Kk
  split <;> first | omega | trivial
theorem Nb (Q:Exit->Act->aA->Prop) (W:aA) (b2 b3:Nat) (me:Int) (y1 y2 y3 y5:aZ) (so:Option bA) (sn sc at_:Nat) (l:List iB) (z:iB) (u0 u1 u4 u5 u6 u8 u9 u10 u11 u12 u13 u14 u15 u16 u17 u18 u19 u20 u21 u22 u23 u24 u25 u26 u27 u28 u29 u30 u31 u32 u33 u34 u35 u36 u37 u38 u39 u40 u41 u42 u43 u44 u45 u46 u47 u48 u49 u50 u51 u52 u53 u54 u55 u56 u57 u58 u59 u60 u61 u62 u63 u64 u65 u66 u67 u68 u69 u70 u71 u72 u73 u74 u75 u76 u77 u78 u79 u80 u81 u82 u83 u84 u85 u86 u87 u88 u89 u90 u91 u92 u93 u94 u95 u96 u97 u98 u99 u100 u101 u102 u103 u104 u105 u106 u107 u108 u109 u110 u111 u112 u113 u114:aZ)
  (h2:dG W b2 #[ah aj me,y1,y2,y3,U so sn sc,y5] 33) (hx:∀ x,ay W.heap.size W x->∀ j u,(iE z)[j]?=Y u->x.cell? ((⟨b3,0,X⟩:bA).add j)=Y u) (hs:jX W (U so sn sc) l) (hat:at_<=l.length) (hlen:l.length<=900)
  (hQ:∀ (x:aA) (v97 v98 v99 v100 v101 v102 v103 v104 v105 v106 v107 v108 v109 v110 v111:aZ),dG x b2 #[ah aj me,y1,y2,y3,v110,y5] 33->jw x W.heap.size v110 (l.take at_++[z]++l.drop at_)->(∀ B,B<=b2->ay B W x)->(∀ c cs t,c≠b2->dG W c cs t->dG x c cs t)->(∀ k,k<W.heap.size->k≠b2->x.heap[k]?=W.heap[k]?)->Q .normal ⟨(u0::u1::aC (Y ⟨b2,0,X⟩)::aC (Y ⟨b3,0,X⟩)::u4::u5::u6::ah aj (at_:Int)::u8::u9::u10::u11::u12::u13::u14::u15::u16::u17::u18::u19::u20::u21::u22::u23::u24::u25::u26::u27::u28::u29::u30::u31::u32::u33::u34::u35::u36::u37::u38::u39::u40::u41::u42::u43::u44::u45::u46::u47::u48::u49::u50::u51::u52::u53::u54::u55::u56::u57::u58::u59::u60::u61::u62::u63::u64::u65::u66::u67::u68::u69::u70::u71::u72::u73::u74::u75::u76::u77::u78::u79::u80::u81::u82::u83::u84::u85::u86::u87::u88::u89::u90::u91::u92::u93::u94::u95::u96::v97::v98::v99::v100::v101::v102::v103::v104::v105::v106::v107::v108::v109::v110::v111::u112::u113::u114::[]).toArray,[]⟩ x) :
  Code.wp L Xq Q ⟨(u0::u1::aC (Y ⟨b2,0,X⟩)::aC (Y ⟨b3,0,X⟩)::u4::u5::u6::ah aj (at_:Int)::u8::u9::u10::u11::u12::u13::u14::u15::u16::u17::u18::u19::u20::u21::u22::u23::u24::u25::u26::u27::u28::u29::u30::u31::u32::u33::u34::u35::u36::u37::u38::u39::u40::u41::u42::u43::u44::u45::u46::u47::u48::u49::u50::u51::u52::u53::u54::u55::u56::u57::u58::u59::u60::u61::u62::u63::u64::u65::u66::u67::u68::u69::u70::u71::u72::u73::u74::u75::u76::u77::u78::u79::u80::u81::u82::u83::u84::u85::u86::u87::u88::u89::u90::u91::u92::u93::u94::u95::u96::u97::u98::u99::u100::u101::u102::u103::u104::u105::u106::u107::u108::u109::u110::u111::u112::u113::u114::[]).toArray,[]⟩ W:=by
 have HQ:=J hQ;have H2:=J h2;have LX:=J hx;obtain⟨lo,AA,uz⟩:=tV nR hs at_ (by omega);obtain⟨hiv,AJ,vS⟩:=oN nR hs (at_) hat;have LT:=J (show (l.take at_).length<=1000 by rw [aY]; omega);have PU:=J (show (l.take at_).length<=900 by rw [aY]; omega);have LD:=J (show (l.drop (at_)).length<=1000 by rw [List.length_drop]; omega);generalize l.take at_=lt at *;generalize l.drop (at_)=ld at *;have SL:=J AA;have SH:=J AJ;have RL:=J uz;have RH:=J vS;clear hQ h2 hx hs AA AJ uz vS hat hlen;have iJ:=Qr W.heap.size b2 b3 so sn sc at_ lo hiv z lt ld;unfold Xq
 conv=>arg 2; whnf
 have nd:∀ j,(j<97\/112<=j)->∀ i,i<15->(fun i=>97+i) i≠j:=by
  intro j hj i hi h;simp only at h;omega
 refine Rg.fH 16 15 (fun i=>97+i) (fun i=>if i=0 then 5 else if i=5 then 8 else if i=7 then 8 else if i=8 then 13 else 15) (Kk W.heap.size b2 b3 so sn sc at_ lo hiv z lt ld) (by kernel_rfl) (by kernel_rfl) rfl (by decide) (fun i j _ _ h=>by have h2:97+i=97+j:=h; omega) (fun i hi=>by show 97+i<115; omega) ?_ (fun _=>Rg.iW 1 (by kernel_rfl)) (fun kk o h1 h2=>by omega) ?_
 ·intro i o hi ho a x D hnd hc hD hb seen K hK;clear HQ;rcases (by omega:i=0\/i=1\/i=2\/i=3\/i=4\/i=5\/i=6\/i=7\/i=8\/i=9\/i=10\/i=11\/i=12\/i=13\/i=14) with rfl|rfl|rfl|rfl|rfl|rfl|rfl|rfl|rfl|rfl|rfl|rfl|rfl|rfl|rfl
  ·cases ho;exact Rg.cZ rfl rfl (Rg.iG a.eval _ 30 0 #[] rfl rfl (by simp [go_sem])) (hK (U (Y ⟨x.heap.size,0,X⟩) 0 0) (x.alloc (au #[] 68)) ⟨x.heap.size,rfl,hb.size,dI x #[] 68⟩ ((V _ _).alloc hb.size _) fun j u _ _ _ _ _ h=>iJ j u _ _ h ((V _ _).alloc (aD _) _))
  ·cases ho;have e2:a.eval (aJ 2)=aC (Y ⟨b2,0,X⟩):=seen.kp 2 _ (nd 2 (by omega)) rfl;exact Rg.cZ rfl rfl (Rg.dJ a.eval _ 33 (aJ 2) 4 rfl (by rw [e2]; simp [go_sem])) (hK _ _ rfl (V _ _) fun _ _ _ _ _ _ _ h=>h)
  ·cases ho;have e98:a.eval (aJ 98)=aC (Y ⟨b2,4,X⟩):=seen.at_ ⟨1,.data⟩ (by simp) rfl (aP (by decide));have y:=(H2.out.on hb).cell 4;simp only [aG,aK,aB] at y;exact Rg.cZ rfl rfl (Rg.dR a.eval _ 30 (aJ 98) rfl (by rw [e98]; simp [go_sem,y])) (hK _ _ rfl (V _ _) fun _ _ _ _ _ _ _ h=>h)
  ·cases ho;have e7:a.eval (aJ 7)=ah aj (at_:Int):=seen.kp 7 _ (nd 7 (by omega)) rfl;exact Rg.cZ rfl rfl (Rg.fJ a.eval _ (aJ 7) rfl x) (hK _ _ e7 (V _ _) fun _ _ _ _ _ _ _ h=>h)
  ·cases ho;have e99:a.eval (aJ 99)=U so sn sc:=seen.at_ ⟨2,.data⟩ (by simp) rfl (aP (by decide));have e100:a.eval (aJ 100)=ah aj (at_:Int):=seen.at_ ⟨3,.data⟩ (by simp) rfl (aP (by decide));exact Rg.cZ rfl rfl (Rg.jI a.eval _ 30 (aJ 99) X (Y (aJ 100)) X rfl (by show (Instr.sliceAt 30 (a.eval (aJ 99)) X (Y (a.eval (aJ 100))) X).run L x=.ok lo x; rw [e99,e100]; exact SL.out x)) (hK _ _ rfl (V _ _) fun _ _ _ _ _ _ _ h=>h)
  ·cases ho;obtain⟨g,q0,hBg,hbx⟩:=seen.at_ ⟨0,.data⟩ (by simp) rfl (bR rfl);have q0:a.eval (aJ 97)=U (Y ⟨g,0,X⟩) 0 0:=q0;have e101:a.eval (aJ 101)=lo:=seen.at_ ⟨4,.data⟩ (by simp) rfl (aP (by decide));obtain⟨v',x',r,o',gr⟩:=iA nR W.heap.size hbx hBg (RL.out.on hb) LT.out 30;exact Rg.cZ rfl rfl (Rg.fM a.eval _ (aJ 97) (aJ 101) 30 rfl q0 e101 r) (hK v' x' o' (gr.mono hb.size) fun j u _ _ _ _ _ h=>iJ j u _ _ h gr)
  ·cases ho;have e3:a.eval (aJ 3)=aC (Y ⟨b3,0,X⟩):=seen.kp 3 _ (nd 3 (by omega)) rfl;exact Rg.cZ rfl rfl (Rg.dR a.eval _ 68 (aJ 3) rfl (by rw [e3]; exact Xn x _ z (LX.out x hb))) (hK _ _ rfl (V _ _) fun _ _ _ _ _ _ _ h=>h)
  ·cases ho;have e103:a.eval (aJ 103)=qX z:=seen.at_ ⟨6,.data⟩ (by simp) rfl (aP (by decide));have hl:=gH nR x [z] 1 rfl (by simp) (iE z).toArray (by simp [flat,EN]);have hl:jw (x.alloc (au (iE z).toArray 68)) x.heap.size (U (Y ⟨x.heap.size,0,X⟩) 1 1) [z]:=hl;exact Rg.cZ rfl rfl (Rg.iG a.eval _ 30 1 #[(0,aJ 103)] rfl (ps:=#[(0,qX z)]) (by simp [e103]) (by simp [go_sem])) (hK (U (Y ⟨x.heap.size,0,X⟩) 1 1) (x.alloc (au (iE z).toArray 68)) (dx hl hb.size) ((V _ _).alloc hb.size _) fun j u _ _ _ _ _ h=>iJ j u _ _ h ((V _ _).alloc (aD _) _))
  ·cases ho;have o102:jw x W.heap.size (a.eval (aJ 102)) (lt):=seen.at_ ⟨5,.data⟩ (by simp) rfl (bR rfl);have o104:jw x W.heap.size (a.eval (aJ 104)) ([z]):=seen.at_ ⟨7,.data⟩ (by simp) rfl (bR rfl);have ox:=Row.dn o104;obtain⟨v',x',r,o',gr⟩:=fO nR W.heap.size o102 ox (by have:=LT.out; omega) (by simp) hb.size 30;exact Rg.cZ rfl rfl (Rg.fM a.eval _ (aJ 102) (aJ 104) 30 rfl rfl rfl r) (hK v' x' o' ((V _ x).grown gr hb.size fun j hj=>(o102.lt j hj).1) fun j u hj dj nl nx ni h=>by
    rcases (by omega:j=0\/j=1\/j=2\/j=3\/j=4\/j=5\/j=6\/j=7\/j=8\/j=9\/j=10\/j=11\/j=12\/j=13\/j=14) with rfl|rfl|rfl|rfl|rfl|rfl|rfl|rfl|rfl|rfl|rfl|rfl|rfl|rfl|rfl
    ·exact absurd rfl (fun _:(0:Nat)=0=>nl (hc 5 _ (hD ⟨5,.data⟩ (by simp) rfl) rfl ⟨0,.data⟩ (by simp) rfl |> fun _=>hD ⟨5,.data⟩ (by simp) rfl))
    ·exact h
    ·exact h
    ·exact h
    ·exact h
    ·exact absurd rfl (fun _:(0:Nat)=0=>nx rfl)
    ·exact h
    ·exact absurd rfl (fun _:(0:Nat)=0=>nx rfl)
    ·exact absurd rfl (fun _:(0:Nat)=0=>ni rfl)
    ·exact h
    ·exact h
    ·exact h
    ·exact h
    ·exact absurd rfl (fun _:(0:Nat)=0=>hnd (hc 13 _ dj rfl ⟨8,.data⟩ (by simp) rfl))
    ·exact h)
  ·cases ho;have e2:a.eval (aJ 2)=aC (Y ⟨b2,0,X⟩):=seen.kp 2 _ (nd 2 (by omega)) rfl;exact Rg.cZ rfl rfl (Rg.dJ a.eval _ 33 (aJ 2) 4 rfl (by rw [e2]; simp [go_sem])) (hK _ _ rfl (V _ _) fun _ _ _ _ _ _ _ h=>h)
  ·cases ho;have e106:a.eval (aJ 106)=aC (Y ⟨b2,4,X⟩):=seen.at_ ⟨9,.data⟩ (by simp) rfl (aP (by decide));have y:=(H2.out.on hb).cell 4;simp only [aG,aK,aB] at y;exact Rg.cZ rfl rfl (Rg.dR a.eval _ 30 (aJ 106) rfl (by rw [e106]; simp [go_sem,y])) (hK _ _ rfl (V _ _) fun _ _ _ _ _ _ _ h=>h)
  ·cases ho;have e7:a.eval (aJ 7)=ah aj (at_:Int):=seen.kp 7 _ (nd 7 (by omega)) rfl;exact Rg.cZ rfl rfl (Rg.fJ a.eval _ (aJ 7) rfl x) (hK _ _ e7 (V _ _) fun _ _ _ _ _ _ _ h=>h)
  ·cases ho;have e107:a.eval (aJ 107)=U so sn sc:=seen.at_ ⟨10,.data⟩ (by simp) rfl (aP (by decide));have e108:a.eval (aJ 108)=ah aj (at_:Int):=seen.at_ ⟨11,.data⟩ (by simp) rfl (aP (by decide));exact Rg.cZ rfl rfl (Rg.jI a.eval _ 30 (aJ 107) (Y (aJ 108)) X X rfl (by show (Instr.sliceAt 30 (a.eval (aJ 107)) (Y (a.eval (aJ 108))) X X).run L x=.ok hiv x; rw [e107,e108]; exact SH.out x)) (hK _ _ rfl (V _ _) fun _ _ _ _ _ _ _ h=>h)
  ·cases ho;have o105:jw x W.heap.size (a.eval (aJ 105)) ((lt++[z])):=seen.at_ ⟨8,.data⟩ (by simp) rfl (bR rfl);have e109:a.eval (aJ 109)=hiv:=seen.at_ ⟨12,.data⟩ (by simp) rfl (aP (by decide));have ox:jX x (a.eval (aJ 109)) ld:=by rw [e109]; exact RH.out.on hb
   obtain⟨v',x',r,o',gr⟩:=fO nR W.heap.size o105 ox (by have:=PU.out; rw [List.length_append,List.length_singleton]; omega) LD.out hb.size 30;exact Rg.cZ rfl rfl (Rg.fM a.eval _ (aJ 105) (aJ 109) 30 rfl rfl rfl r) (hK v' x' o' ((V _ x).grown gr hb.size fun j hj=>(o105.lt j hj).1) fun j u hj dj nl nx ni h=>by
    rcases (by omega:j=0\/j=1\/j=2\/j=3\/j=4\/j=5\/j=6\/j=7\/j=8\/j=9\/j=10\/j=11\/j=12\/j=13\/j=14) with rfl|rfl|rfl|rfl|rfl|rfl|rfl|rfl|rfl|rfl|rfl|rfl|rfl|rfl|rfl
    ·exact absurd rfl (fun _:(0:Nat)=0=>nl (hc 8 _ (hD ⟨8,.data⟩ (by simp) rfl) rfl ⟨5,.data⟩ (by simp) rfl))
    ·exact h
    ·exact h
    ·exact h
    ·exact h
    ·exact absurd rfl (fun _:(0:Nat)=0=>nl (hD ⟨8,.data⟩ (by simp) rfl))
    ·exact h
    ·exact absurd rfl (fun _:(0:Nat)=0=>nl (hD ⟨8,.data⟩ (by simp) rfl))
    ·exact absurd rfl (fun _:(0:Nat)=0=>nx rfl)
    ·exact h
    ·exact h
    ·exact h
    ·exact h
    ·exact absurd rfl (fun _:(0:Nat)=0=>ni rfl)
    ·exact h)
  ·cases ho;have e2:a.eval (aJ 2)=aC (Y ⟨b2,0,X⟩):=seen.kp 2 _ (nd 2 (by omega)) rfl;exact Rg.cZ rfl rfl (Rg.dJ a.eval _ 33 (aJ 2) 4 rfl (by rw [e2]; simp [go_sem])) (hK _ _ rfl (V _ _) fun _ _ _ _ _ _ _ h=>h)
 ·intro a w' df sz kp ⟨vs,hv⟩ hb;have gr:a.tmps[110]?=Y (vs 13):=(hv 13 (by omega)).1;have gp:a.tmps[111]?=Y (aC (Y ⟨b2,4,X⟩)):=by
   have h:vs 14=aC (Y ⟨b2,4,X⟩):=(hv 14 (by omega)).2 (by decide);rw [<- h];exact (hv 14 (by omega)).1
  have oR:jw w' W.heap.size (vs 13) (lt++[z]++ld):=(hv 13 (by omega)).2 (by decide);generalize vs 13=xR at *;obtain⟨ca,cp,eR⟩:=(Row.dn oR).len;have hbx:=H2.out.on hb;have hblt:=H2.out.lt;have c5:=hbx.cell 4;have f5:=hbx.fr 4;simp only [aG,aK,aB] at c5;have hb1:=dO (k:=4) hbx xR;show Rg.fu _ _ _ 1 15 a w';simp only [Rg.fu];refine Rg.fI 30 (aJ 111) (aJ 110) rfl rfl rfl rfl (Rg.dD gp) (Rg.dD gr) (w':=w'.setCell ⟨b2,4,X⟩ xR) (by rw [eR]; simp [go_sem,c5,f5]) ?_;have qF:∀ j,(j<97\/112<=j)->a.tmps[j]?=(u0::u1::aC (Y ⟨b2,0,X⟩)::aC (Y ⟨b3,0,X⟩)::u4::u5::u6::ah aj (at_:Int)::u8::u9::u10::u11::u12::u13::u14::u15::u16::u17::u18::u19::u20::u21::u22::u23::u24::u25::u26::u27::u28::u29::u30::u31::u32::u33::u34::u35::u36::u37::u38::u39::u40::u41::u42::u43::u44::u45::u46::u47::u48::u49::u50::u51::u52::u53::u54::u55::u56::u57::u58::u59::u60::u61::u62::u63::u64::u65::u66::u67::u68::u69::u70::u71::u72::u73::u74::u75::u76::u77::u78::u79::u80::u81::u82::u83::u84::u85::u86::u87::u88::u89::u90::u91::u92::u93::u94::u95::u96::u97::u98::u99::u100::u101::u102::u103::u104::u105::u106::u107::u108::u109::u110::u111::u112::u113::u114::[])[j]?:=fun j hj=>(kp j (nd j hj)).trans aG;obtain⟨mid,hmid,rfl⟩:=Rg.fQ 97 15 df sz (by simp) qF
  match mid,hmid with
  | [v97,v98,v99,v100,v101,v102,v103,v104,v105,v106,v107,v108,v109,v110,v111],_ =>
   have e1:Y v110=Y xR:=gr;obtain rfl:=Option.some.inj e1;refine HQ.out _ v97 v98 v99 v100 v101 v102 v103 v104 v105 v106 v107 v108 v109 v110 v111 ?_ ?_ ?_ ?_ ?_
   ·simpa using hb1
   ·exact dW oR b2 4 _ hblt
   ·exact fun B hB=>(hb.mono (Nat.le_of_lt (Nat.lt_of_le_of_lt hB hblt))).setCell hB _
   ·intro c cs t hc hbc;exact (aS _ _ _ _ hc).trans (hbc.on hb)
   ·intro k hk hne;exact (aS _ _ _ _ hne).trans (hb.block k hk)
end Bk
end Go.Proofs.YtkcfgbddlpomgaaGreat
