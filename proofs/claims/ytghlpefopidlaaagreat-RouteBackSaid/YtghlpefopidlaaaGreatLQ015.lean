/-
  Holds of package pre. Conditions as told.
-/
import Derived.Test.YtghlpefopidlaaaGreatLQ003
import Derived.Test.YtghlpefopidlaaaGreatLQ005
import Derived.Lib.Strings
import Derived.Lib.QuietBelow
import Derived.BigQuiet
import Derived.Test.YtghlpefopidlaaaGreatLQ002
import Derived.BigRegion
import Derived.Deep.RegionWith
set_option maxRecDepth 100000
set_option maxHeartbeats 64000000
open _root_.Array renaming length_toList->V
open _root_.Bool renaming false->ay,true->aM,eq_false_or_eq_true->aP
open _root_.Go renaming World->U,Calls->Z
open Go.Ending renaming returned->J
open Go.IntKind renaming i64->aL
open Go.Lib renaming hid->D,toList_data->aF,hasPrefix_of_take->aU,size_eq->aV,extract_toList->aW,hasPrefix->aY
open Go.Obj renaming cells->L
open Go.Proofs.Tryz renaming prog->K,ntmps185->ah,func185->aj,ntmps187->au,func187->aA,results133->aH,results163->aI,ntmps183->aN,ntmps168->aO,ntmps163->aQ,func183->aR,func168->aS,func163->aT,results167->aX,ntmps184->aZ,ntmps133->bf,func184->bg,func133->bF
open Go.RowKit renaming Below->aC
open Go.RowKit.Below renaming refl->aJ
open Go.Value renaming bool->Q,string->Y,int->aK
open _root_.Nat renaming le_refl->aD
open _root_.Option renaming none->ak,some->aB
open Option.some renaming inj->aG
namespace Go.Proofs.YtghlpefopidlaaaGreat
namespace Pr
open Go.RowKit Go.Sort Pu Rw Va
theorem TU (s p:ByteArray) (w:U):Z K 201 #[Y s,Y p] w fun e w'=>e=J (Q (pfx p s))/\w'=w:=by
 show Z K _ _ _ fun e w'=>e=J (Q (aY s.data.toList p.data.toList))/\w'=w;rw [<- aU,<- aV,<- aV];go_enter Tryz.func201,Tryz.ntmps201;go_wp2
 ·rename_i h
  go_ret;refine⟨?_,rfl⟩;show J (Q ((s.extract 0 p.size).toList == p.toList))=_;rw [aW,aF];simp [h]
 ·rename_i h
  go_ret;refine⟨?_,rfl⟩;show J (Q ay)=_;simp [h]
theorem wN (s p:ByteArray) (w:U):Z K 196 #[Y s,Y p] w fun e w'=>e=J (Q (pfx p s))/\w'=w:=by
 go_enter Tryz.func196,Tryz.ntmps196;go_wp2_with fail;refine (TU s p w).mono ?_;rintro e w' ⟨rfl,rfl⟩;go_wp2;go_ret;exact⟨rfl,rfl⟩
theorem abV (s u:ByteArray) (h:s.size=u.size):pfx u s=(s.data.toList == u.data.toList):=by
 have hl:u.data.toList.length=s.data.toList.length:=by rw [V,V]; exact h.symm
 rw [Bool.eq_iff_iff,beq_iff_eq,gH];exact⟨fun h1=>(h1.eq_of_length hl).symm,fun h1=>by rw [h1]; exact List.prefix_refl _⟩
theorem Xe (s u:ByteArray) (h:¬ s.size=u.size):(s.data.toList == u.data.toList)=ay:=by
 rw [beq_eq_false_iff_ne];intro e;have:=congrArg List.length e;rw [V,V] at this;exact h this
theorem hB (w:U) (nm:ByteArray) (k lo hi:Int) (u:ByteArray) (t:Bool) (n:Int) (s:ByteArray):Below w.heap.size w ((w.alloc (L #[Y nm,aK aL k,aK aL lo,aK aL hi,Y u] 91)).alloc (L #[Q t,aK aL n,Y s] 173)) :=
 ((aJ w.heap.size w).alloc (aD _) _).alloc (by simp) _
theorem Xf (nm:ByteArray) (lo hi:Int) (t:Bool) (n:Int) (s:ByteArray) (w:U):Z K 187 #[cv (r5 (nm,.rg lo hi)),vl t n s] w fun e w'=>e=J (Q (eP (.rg lo hi) (t,n,s)))/\Below w.heap.size w w':=by
 simp only [r5,kN,kH,kI,kT];have R:=D (show eP (.rg lo hi) (t,n,s)=(!t && (decide (lo<=n) && decide (n<=hi))) from rfl);have B:=D (hB w nm 1 lo hi ⟨#[]⟩ t n s);generalize eP (.rg lo hi) (t,n,s)=r at *;by_cases h1:lo<=n <;> have T:=D h1 <;> cases t <;> go_enter aA,au <;> go_wp2 <;> go_ret <;> exact⟨eX (by rw [R.out]; have h:=T.out; simp [h] <;> omega),B.out⟩
theorem Xg (nm u:ByteArray) (t:Bool) (n:Int) (s:ByteArray) (w:U):Z K 187 #[cv (r5 (nm,.tx u)),vl t n s] w fun e w'=>e=J (Q (eP (.tx u) (t,n,s)))/\Below w.heap.size w w':=by
 simp only [r5,kN,kH,kI,kT];have R:=D (show eP (.tx u) (t,n,s)=(t && (s.data.toList == u.data.toList)) from rfl);have B:=D (hB w nm 2 0 0 u t n s);generalize eP (.tx u) (t,n,s)=r at *;by_cases h1:s.size=u.size
 ·have e1:(((s.size:Nat):Int) != ((u.size:Nat):Int))=ay:=by simp [h1]
  have E:=D (abV s u h1);clear h1;cases t
  ·go_enter aA,au;go_wp2;go_ret;exact⟨eX (by rw [R.out]; simp),B.out⟩
  ·go_enter aA,au;go_wp2_with fail;refine (wN s u _).mono ?_;rintro e w' ⟨rfl,rfl⟩;go_wp2;go_ret;exact⟨eX (by rw [R.out,E.out]; simp),B.out⟩
 ·have e1:(((s.size:Nat):Int) != ((u.size:Nat):Int))=aM:=by simp; omega
  have E:=D (Xe s u h1);clear h1;go_enter aA,au;go_wp2;go_ret;exact⟨eX (by rw [R.out,E.out]; simp),B.out⟩
theorem Xh (nm u:ByteArray) (t:Bool) (n:Int) (s:ByteArray) (w:U):Z K 187 #[cv (r5 (nm,.pr u)),vl t n s] w fun e w'=>e=J (Q (eP (.pr u) (t,n,s)))/\Below w.heap.size w w':=by
 simp only [r5,kN,kH,kI,kT];have R:=D (show eP (.pr u) (t,n,s)=(t && pfx u s) from rfl);have B:=D (hB w nm 3 0 0 u t n s);generalize eP (.pr u) (t,n,s)=r at *;cases t
 ·go_enter aA,au;go_wp2;go_ret;exact⟨eX (by rw [R.out]; simp),B.out⟩
 ·go_enter aA,au;go_wp2_with fail;refine (wN s u _).mono ?_;rintro e w' ⟨rfl,rfl⟩;go_wp2;go_ret;exact⟨eX (by rw [R.out]; simp),B.out⟩
theorem TV (c:Cn) (t:Bool) (n:Int) (s:ByteArray) (w:U):Z K 187 #[cv (r5 c),vl t n s] w fun e w'=>e=J (Q (eP c.2 (t,n,s)))/\Below w.heap.size w w':=by
 obtain⟨nm,k⟩:=c;cases k with
 | rg lo hi=>exact Xf nm lo hi t n s w
 | tx u=>exact Xg nm u t n s w
 | pr u=>exact Xh nm u t n s w
end Pr
namespace Rl
open Go.RowKit Pu Rw Pr Va
theorem qH (s p:ByteArray) (w:U):Z K 184 #[Y s,Y p] w fun e w'=>e=J (Q (pfx p s))/\w'=w:=by
 show Z K _ _ _ fun e w'=>e=J (Q (aY s.data.toList p.data.toList))/\w'=w;rw [<- aU,<- aV,<- aV];by_cases h:p.size<=s.size
 ·have e1:(((s.size:Nat):Int) ≥ ((p.size:Nat):Int)):=by omega
  have H:=D h;go_enter bg,aZ;go_wp2
  all_goals (go_ret; refine⟨?_,rfl⟩; show J (Q ((s.extract 0 p.size).toList == p.toList))=_; rw [aW,aF]; simp [h])
 ·have H:=D h;go_enter bg,aZ;go_wp2
  all_goals (go_ret; refine⟨?_,rfl⟩; show J (Q ay)=_; simp [H.out])
theorem rB (w:U) (nm:ByteArray) (k lo hi:Int) (u:ByteArray) (t:Bool) (n:Int) (s:ByteArray):aC w.heap.size w ((w.alloc (L #[Y nm,aK aL k,aK aL lo,aK aL hi,Y u] 91)).alloc (L #[Q t,aK aL n,Y s] 173)) :=
 ((aJ w.heap.size w).alloc (aD _) _).alloc (by simp) _
theorem rC (w:U) (nm:ByteArray) (k lo hi:Int) (u:ByteArray) (nm':ByteArray) (k' lo' hi':Int) (u':ByteArray):aC w.heap.size w ((w.alloc (L #[Y nm,aK aL k,aK aL lo,aK aL hi,Y u] 91)).alloc (L #[Y nm',aK aL k',aK aL lo',aK aL hi',Y u'] 91)) :=
 ((aJ w.heap.size w).alloc (aD _) _).alloc (by simp) _
theorem TW (nm:ByteArray) (lo hi:Int) (t:Bool) (n:Int) (s:ByteArray) (w:U):Z K 183 #[cv (r5 (nm,.rg lo hi)),vl t n s] w fun e w'=>e=J (Q (eP (.rg lo hi) (t,n,s)))/\aC w.heap.size w w':=by
 simp only [r5,kN,kH,kI,kT];have R:=D (show eP (.rg lo hi) (t,n,s)=(!t && (decide (lo<=n) && decide (n<=hi))) from rfl);have B:=D (rB w nm 1 lo hi ⟨#[]⟩ t n s);generalize eP (.rg lo hi) (t,n,s)=r at *;by_cases h1:lo<=n <;> have T:=D h1 <;> cases t <;> go_enter aR,aN <;> go_wp2 <;> go_ret <;> exact⟨eX (by rw [R.out]; have h:=T.out; simp [h] <;> omega),B.out⟩
theorem TY (nm u:ByteArray) (t:Bool) (n:Int) (s:ByteArray) (w:U):Z K 183 #[cv (r5 (nm,.tx u)),vl t n s] w fun e w'=>e=J (Q (eP (.tx u) (t,n,s)))/\aC w.heap.size w w':=by
 simp only [r5,kN,kH,kI,kT];have R:=D (show eP (.tx u) (t,n,s)=(t && (s.data.toList == u.data.toList)) from rfl);have B:=D (rB w nm 2 0 0 u t n s);generalize eP (.tx u) (t,n,s)=r at *;cases t <;> go_enter aR,aN <;> go_wp2 <;> go_ret <;> exact⟨eX (by rw [R.out]; simp [aF]),B.out⟩
theorem T9 (nm u:ByteArray) (t:Bool) (n:Int) (s:ByteArray) (w:U):Z K 183 #[cv (r5 (nm,.pr u)),vl t n s] w fun e w'=>e=J (Q (eP (.pr u) (t,n,s)))/\aC w.heap.size w w':=by
 simp only [r5,kN,kH,kI,kT];have R:=D (show eP (.pr u) (t,n,s)=(t && pfx u s) from rfl);have B:=D (rB w nm 3 0 0 u t n s);generalize eP (.pr u) (t,n,s)=r at *;cases t
 ·go_enter aR,aN;go_wp2;go_ret;exact⟨eX (by rw [R.out]; simp),B.out⟩
 ·go_enter aR,aN;go_wp2_with fail;refine (qH s u _).mono ?_;rintro e w' ⟨rfl,rfl⟩;go_wp2;go_ret;exact⟨eX (by rw [R.out]; simp),B.out⟩
theorem wZ (c:Cn) (t:Bool) (n:Int) (s:ByteArray) (w:U):Z K 183 #[cv (r5 c),vl t n s] w fun e w'=>e=J (Q (eP c.2 (t,n,s)))/\aC w.heap.size w w':=by
 obtain⟨nm,k⟩:=c;cases k with
 | rg lo hi=>exact TW nm lo hi t n s w
 | tx u=>exact TY nm u t n s w
 | pr u=>exact T9 nm u t n s w
theorem ahF (n1 n2:ByteArray) (lo1 hi1:Int) (lo2 hi2:Int) (w:U):Z K 185 #[cv (r5 (n1,(.rg lo1 hi1))),cv (r5 (n2,(.rg lo2 hi2)))] w fun e w'=>e=J (Q (fE (.rg lo1 hi1) (.rg lo2 hi2)))/\aC w.heap.size w w':=by
 simp only [r5,kN,kH,kI,kT];have B:=D (rC w n1 1 lo1 hi1 ⟨#[]⟩ n2 1 lo2 hi2 ⟨#[]⟩);have R:=D (show fE (.rg lo1 hi1) (.rg lo2 hi2)=(decide (lo2<=lo1) && decide (hi1<=hi2)) from rfl);generalize fE (.rg lo1 hi1) (.rg lo2 hi2)=r at *;by_cases h1:lo2<=lo1 <;> have T:=D h1 <;> go_enter aj,ah <;> go_wp2 <;> go_ret <;> exact⟨eX (by rw [R.out]; have h:=T.out; simp [h] <;> omega),B.out⟩
theorem ahG (n1 n2:ByteArray) (lo1 hi1:Int) (T:ByteArray) (w:U):Z K 185 #[cv (r5 (n1,(.rg lo1 hi1))),cv (r5 (n2,(.tx T)))] w fun e w'=>e=J (Q (fE (.rg lo1 hi1) (.tx T)))/\aC w.heap.size w w':=by
 simp only [r5,kN,kH,kI,kT];have B:=D (rC w n1 1 lo1 hi1 ⟨#[]⟩ n2 2 0 0 T);have R:=D (show fE (.rg lo1 hi1) (.tx T)=(ay) from rfl);generalize fE (.rg lo1 hi1) (.tx T)=r at *;go_enter aj,ah <;> go_wp2 <;> go_ret <;> exact⟨eX (by rw [R.out]),B.out⟩
theorem ahH (n1 n2:ByteArray) (lo1 hi1:Int) (T:ByteArray) (w:U):Z K 185 #[cv (r5 (n1,(.rg lo1 hi1))),cv (r5 (n2,(.pr T)))] w fun e w'=>e=J (Q (fE (.rg lo1 hi1) (.pr T)))/\aC w.heap.size w w':=by
 simp only [r5,kN,kH,kI,kT];have B:=D (rC w n1 1 lo1 hi1 ⟨#[]⟩ n2 3 0 0 T);have R:=D (show fE (.rg lo1 hi1) (.pr T)=(ay) from rfl);generalize fE (.rg lo1 hi1) (.pr T)=r at *;go_enter aj,ah <;> go_wp2 <;> go_ret <;> exact⟨eX (by rw [R.out]),B.out⟩
theorem ahI (n1 n2:ByteArray) (T:ByteArray) (lo2 hi2:Int) (w:U):Z K 185 #[cv (r5 (n1,(.tx T))),cv (r5 (n2,(.rg lo2 hi2)))] w fun e w'=>e=J (Q (fE (.tx T) (.rg lo2 hi2)))/\aC w.heap.size w w':=by
 simp only [r5,kN,kH,kI,kT];have B:=D (rC w n1 2 0 0 T n2 1 lo2 hi2 ⟨#[]⟩);have R:=D (show fE (.tx T) (.rg lo2 hi2)=(ay) from rfl);generalize fE (.tx T) (.rg lo2 hi2)=r at *;go_enter aj,ah <;> go_wp2 <;> go_ret <;> exact⟨eX (by rw [R.out]),B.out⟩
theorem ahJ (n1 n2:ByteArray) (T:ByteArray) (a0:ByteArray) (w:U):Z K 185 #[cv (r5 (n1,(.tx T))),cv (r5 (n2,(.tx a0)))] w fun e w'=>e=J (Q (fE (.tx T) (.tx a0)))/\aC w.heap.size w w':=by
 simp only [r5,kN,kH,kI,kT];have B:=D (rC w n1 2 0 0 T n2 2 0 0 a0);have R:=D (show fE (.tx T) (.tx a0)=(T.data.toList == a0.data.toList) from rfl);generalize fE (.tx T) (.tx a0)=r at *;go_enter aj,ah <;> go_wp2 <;> go_ret <;> exact⟨eX (by rw [R.out]; simp [aF]),B.out⟩
theorem ahK (n1 n2:ByteArray) (T:ByteArray) (a0:ByteArray) (w:U):Z K 185 #[cv (r5 (n1,(.tx T))),cv (r5 (n2,(.pr a0)))] w fun e w'=>e=J (Q (fE (.tx T) (.pr a0)))/\aC w.heap.size w w':=by
 simp only [r5,kN,kH,kI,kT];have B:=D (rC w n1 2 0 0 T n2 3 0 0 a0);have R:=D (show fE (.tx T) (.pr a0)=(pfx a0 T) from rfl);generalize fE (.tx T) (.pr a0)=r at *;go_enter aj,ah;go_wp2_with fail;refine (qH T a0 _).mono ?_;rintro e w' ⟨rfl,rfl⟩;go_wp2;go_ret;exact⟨eX (by rw [R.out]),B.out⟩
theorem ahL (n1 n2:ByteArray) (T:ByteArray) (lo2 hi2:Int) (w:U):Z K 185 #[cv (r5 (n1,(.pr T))),cv (r5 (n2,(.rg lo2 hi2)))] w fun e w'=>e=J (Q (fE (.pr T) (.rg lo2 hi2)))/\aC w.heap.size w w':=by
 simp only [r5,kN,kH,kI,kT];have B:=D (rC w n1 3 0 0 T n2 1 lo2 hi2 ⟨#[]⟩);have R:=D (show fE (.pr T) (.rg lo2 hi2)=(ay) from rfl);generalize fE (.pr T) (.rg lo2 hi2)=r at *;go_enter aj,ah <;> go_wp2 <;> go_ret <;> exact⟨eX (by rw [R.out]),B.out⟩
theorem ahM (n1 n2:ByteArray) (T:ByteArray) (a0:ByteArray) (w:U):Z K 185 #[cv (r5 (n1,(.pr T))),cv (r5 (n2,(.tx a0)))] w fun e w'=>e=J (Q (fE (.pr T) (.tx a0)))/\aC w.heap.size w w':=by
 simp only [r5,kN,kH,kI,kT];have B:=D (rC w n1 3 0 0 T n2 2 0 0 a0);have R:=D (show fE (.pr T) (.tx a0)=(ay) from rfl);generalize fE (.pr T) (.tx a0)=r at *;go_enter aj,ah <;> go_wp2 <;> go_ret <;> exact⟨eX (by rw [R.out]),B.out⟩
theorem ahN (n1 n2:ByteArray) (T:ByteArray) (a0:ByteArray) (w:U):Z K 185 #[cv (r5 (n1,(.pr T))),cv (r5 (n2,(.pr a0)))] w fun e w'=>e=J (Q (fE (.pr T) (.pr a0)))/\aC w.heap.size w w':=by
 simp only [r5,kN,kH,kI,kT];have B:=D (rC w n1 3 0 0 T n2 3 0 0 a0);have R:=D (show fE (.pr T) (.pr a0)=(pfx a0 T) from rfl);generalize fE (.pr T) (.pr a0)=r at *;go_enter aj,ah;go_wp2_with fail;refine (qH T a0 _).mono ?_;rintro e w' ⟨rfl,rfl⟩;go_wp2;go_ret;exact⟨eX (by rw [R.out]),B.out⟩
theorem Kc (c d:Cn) (w:U):Z K 185 #[cv (r5 c),cv (r5 d)] w fun e w'=>e=J (Q (fE c.2 d.2))/\aC w.heap.size w w':=by
 obtain⟨n1,k1⟩:=c;obtain⟨n2,k2⟩:=d;cases k1 <;> cases k2
 ·exact ahF _ _ _ _ _ _ _
 ·exact ahG _ _ _ _ _ _
 ·exact ahH _ _ _ _ _ _
 ·exact ahI _ _ _ _ _ _
 ·exact ahJ _ _ _ _ _
 ·exact ahK _ _ _ _ _
 ·exact ahL _ _ _ _ _ _
 ·exact ahM _ _ _ _ _
 ·exact ahN _ _ _ _ _
end Rl
namespace Pr
open Go.RowKit Go.Sort Pu Rw Va
theorem Ua (s:ByteArray) (w:U) :
  Z K 188 #[Y s] w fun e w'=>e=J (vl aM 0 s)/\Below w.heap.size w w':=by
 go_enter Tryz.func188,Tryz.ntmps188;go_wp2;exact bodyPost_ret (v:=vl aM 0 s) (by simp [results,Tryz.results188,go_sem]) rfl ⟨rfl,(aJ _ _).alloc (aD _) _⟩
theorem Ke (s:ByteArray) (w:U) (d:Nat) (os:Array Obj) :
  Z K 188 #[Y s] (grow (redrawn w d) os) fun e w''=>e=J (vl aM 0 s)/\∃ p:Regrown,w''=grow (redrawn w p.d) p.os :=
 Calls.regrown_of (Ua _ _)
theorem Gq (c:Cn) (s:ByteArray) (r:Bool) (hr:eP c.2 (aM,0,s)=r) (w:U) (d:Nat) (os:Array Obj) :
  Z K 187 #[cv (r5 c),vl aM 0 s] (grow (redrawn w d) os) fun e w''=>e=J (Q r)/\∃ p:Regrown,w''=grow (redrawn w p.d) p.os:=by
 subst hr;exact Calls.regrown_of (TV _ _ _ _ _)
def jE:Kd->Kd->Bool
 | .pr s,.pr t=>pfx t s
 | .tx s,k=>eP k (aM,0,s)
 | _,_=>ay
theorem Xi (w:U) (c d:C5):dK ((w.alloc (L (cells5 c).toArray 91)).alloc (L (cells5 d).toArray 91)) w.heap.size (cells5 c).toArray 91/\dK ((w.alloc (L (cells5 c).toArray 91)).alloc (L (cells5 d).toArray 91)) (w.heap.size+1) (cells5 d).toArray 91/\Below w.heap.size w ((w.alloc (L (cells5 c).toArray 91)).alloc (L (cells5 d).toArray 91)):=by
 refine⟨(dQ w _ _).more _,?_,((aJ w.heap.size w).alloc (aD _) _).alloc (by simp) _⟩;have h:=dQ (w.alloc (L (cells5 c).toArray 91)) (cells5 d).toArray 91
 rwa [show (w.alloc (L (cells5 c).toArray 91)).heap.size=w.heap.size+1 by simp] at h
theorem Ub (na nb:ByteArray) (s:ByteArray) (kb:Kd) (w:U):Z K 168 #[cv (r5 (na,.tx s)),cv (r5 (nb,kb))] w fun e w'=>e=J (Q (jE (.tx s) kb))/\Below w.heap.size w w':=by
 obtain⟨ba,bb,hb⟩:=Xi w (r5 (na,.tx s)) (r5 (nb,kb));have a0:=D ba;have T:=D bb;have B:=D hb;have H:=Gq (nb,kb) s _ rfl;have C:=Ke s;have R:=D (show jE (.tx s) kb=eP kb (aM,0,s) from rfl);generalize jE (.tx s) kb=r at *;simp only [r5] at H ⊢;clear ba bb hb;go_enter aS,aO;go_wp2;have a6:=D H;have a5:=D C;clear H C;change Code.wp _ _ _ _ ((w.alloc (L (cells5 (r5 (na,.tx s))).toArray 91)).alloc (L (cells5 (r5 (nb,kb))).toArray 91));generalize (w.alloc (L (cells5 (r5 (na,.tx s))).toArray 91)).alloc (L (cells5 (r5 (nb,kb))).toArray 91)=W at *;have a4:=cell_regrown (show W.cell? ⟨w.heap.size,4,ak⟩=aB (Y s) from a0.out.cell 4);have b0:=cell_regrown (show W.cell? ⟨w.heap.size+1,0,ak⟩=aB (Y nb) from T.out.cell 0);have b1:=cell_regrown (show W.cell? ⟨w.heap.size+1,1,ak⟩=aB (aK aL (kN kb)) from T.out.cell 1);have b2:=cell_regrown (show W.cell? ⟨w.heap.size+1,2,ak⟩=aB (aK aL (kH kb)) from T.out.cell 2);have b3:=cell_regrown (show W.cell? ⟨w.heap.size+1,3,ak⟩=aB (aK aL (kI kb)) from T.out.cell 3);have b4:=cell_regrown (show W.cell? ⟨w.heap.size+1,4,ak⟩=aB (Y (kT kb)) from T.out.cell 4);refine wp_region_quiet_below (by kernel_rfl) (by kernel_rfl) ?_
 repeat (go_big_quiet_step (first | (with_reducible exact a5.out _ _ _) | (with_reducible exact a6.out _ _ _)))
 refine wpQuiet_nil ?_;intro _ hw';obtain⟨⟨dq,osq⟩,hw''⟩:=hw';subst hw'';have a3:=D (B.out.trans ((below_regrown W dq osq).mono B.out.size));clear a4 b0 b1 b2 b3 b4;go_wp2;go_ret;exact⟨eX R.out.symm,a3.out⟩
theorem Uc (na nb:ByteArray) (s:ByteArray) (t:ByteArray) (w:U):Z K 168 #[cv (r5 (na,.pr s)),cv (r5 (nb,.pr t))] w fun e w'=>e=J (Q (jE (.pr s) (.pr t)))/\Below w.heap.size w w':=by
 obtain⟨ba,bb,hb⟩:=Xi w (r5 (na,.pr s)) (r5 (nb,.pr t));have a0:=D ba;have T:=D bb;have B:=D hb;have H:=Gq (nb,.pr t) s _ rfl;have C:=Ke s;have R:=D (show jE (.pr s) (.pr t)=eP (.pr t) (aM,0,s) by simp only [jE,eP,Bool.true_and]);generalize jE (.pr s) (.pr t)=r at *;simp only [r5] at H ⊢;clear ba bb hb;go_enter aS,aO;go_wp2;have a6:=D H;have a5:=D C;clear H C;change Code.wp _ _ _ _ ((w.alloc (L (cells5 (r5 (na,.pr s))).toArray 91)).alloc (L (cells5 (r5 (nb,.pr t))).toArray 91));generalize (w.alloc (L (cells5 (r5 (na,.pr s))).toArray 91)).alloc (L (cells5 (r5 (nb,.pr t))).toArray 91)=W at *;have a4:=cell_regrown (show W.cell? ⟨w.heap.size,4,ak⟩=aB (Y s) from a0.out.cell 4);have b0:=cell_regrown (show W.cell? ⟨w.heap.size+1,0,ak⟩=aB (Y nb) from T.out.cell 0);have b1:=cell_regrown (show W.cell? ⟨w.heap.size+1,1,ak⟩=aB (aK aL (kN (.pr t))) from T.out.cell 1);have b2:=cell_regrown (show W.cell? ⟨w.heap.size+1,2,ak⟩=aB (aK aL (kH (.pr t))) from T.out.cell 2);have b3:=cell_regrown (show W.cell? ⟨w.heap.size+1,3,ak⟩=aB (aK aL (kI (.pr t))) from T.out.cell 3);have b4:=cell_regrown (show W.cell? ⟨w.heap.size+1,4,ak⟩=aB (Y (kT (.pr t))) from T.out.cell 4);refine wp_region_quiet_below (by kernel_rfl) (by kernel_rfl) ?_
 repeat (go_big_quiet_step (first | (with_reducible exact a5.out _ _ _) | (with_reducible exact a6.out _ _ _)))
 refine wpQuiet_nil ?_;intro _ hw';obtain⟨⟨dq,osq⟩,hw''⟩:=hw';subst hw'';have a3:=D (B.out.trans ((below_regrown W dq osq).mono B.out.size));clear a4 b0 b1 b2 b3 b4;go_wp2;go_ret;exact⟨eX R.out.symm,a3.out⟩
theorem zf (na nb:ByteArray) (ka kb:Kd) (w:U) (h:(∃ lo hi,ka=.rg lo hi)\/(∃ s,ka=.pr s)/\¬ ∃ t,kb=.pr t):Z K 168 #[cv (r5 (na,ka)),cv (r5 (nb,kb))] w fun e w'=>e=J (Q (jE ka kb))/\Below w.heap.size w w':=by
 have B:=D (Xi w (r5 (na,ka)) (r5 (nb,kb))).2.2;rcases h with⟨lo,hi,rfl⟩|⟨⟨s,rfl⟩,h⟩
 ·have R:=D (show jE (.rg lo hi) kb=ay from rfl);generalize jE (.rg lo hi) kb=r at *;simp only [r5];go_enter aS,aO;go_wp2;go_ret;exact⟨eX R.out.symm,B.out⟩
 ·have R:=D (show jE (.pr s) kb=ay by
   cases kb with
   | pr t=>exact absurd ⟨t,rfl⟩ h
   | _=>rfl)
  have e:((kN kb) != (3:Int))=aM:=by
   cases kb with
   | pr t=>exact absurd ⟨t,rfl⟩ h
   | _=>rfl
  generalize jE (.pr s) kb=r at *;clear h;simp only [r5];go_enter aS,aO;go_wp2;go_ret;exact⟨eX R.out.symm,B.out⟩
theorem Cj (a b:Cn) (w:U):Z K 168 #[cv (r5 a),cv (r5 b)] w fun e w'=>e=J (Q (jE a.2 b.2))/\Below w.heap.size w w':=by
 obtain⟨na,ka⟩:=a;obtain⟨nb,kb⟩:=b;cases ka with
 | rg lo hi=>exact zf na nb _ kb w (Or.inl ⟨lo,hi,rfl⟩)
 | tx s=>exact Ub na nb s kb w
 | pr s =>
  cases kb with
  | pr t=>exact Uc na nb s t w
  | rg lo hi=>exact zf na nb _ _ w (Or.inr ⟨⟨s,rfl⟩,by rintro⟨t,h⟩; cases h⟩)
  | tx t=>exact zf na nb _ _ w (Or.inr ⟨⟨s,rfl⟩,by rintro⟨t',h⟩; cases h⟩)
def Qh (n:ByteArray) (r:Option Kd) (w:U) (e:Ending) (w':U):Prop:=(∃ x,e=J (.tuple #[cv x,Q r.isSome])/\∀ k,r=aB k->x=r5 (n,k))/\Below w.heap.size w w'
theorem b3 (w:U) (o p q:Obj):Below w.heap.size w (((w.alloc o).alloc p).alloc q):=(((aJ w.heap.size w).alloc (aD _) _).alloc (by simp) _).alloc (by simp; omega) _
theorem Kg (na nb:ByteArray) (a b c d:Int) (w:U):Z K 167 #[cv (na,1,a,b,⟨#[]⟩),cv (nb,1,c,d,⟨#[]⟩)] w (Qh na (fH (.rg a b) (.rg c d)) w):=by
 have R:=D (show fH (.rg a b) (.rg c d)=if max a c<=min b d then aB (.rg (max a c) (min b d)) else ak from rfl);generalize fH (.rg a b) (.rg c d)=r at *;go_enter Tryz.func167,Tryz.ntmps167;go_wp2_with fail
 go_region
 have e1:(if a<c then c else a)=max a c:=by split <;> omega
 have e2:(if d<b then d else b)=min b d:=by split <;> omega
 try rw [e1]
 try rw [e2]
 clear e1 e2;generalize max a c=M at R ⊢;generalize min b d=N at R ⊢;by_cases h:M<=N
 ·have h1:¬ N<M:=by omega
  have T:=D (show r=aB (.rg M N) by rw [R.out,if_pos h]);clear h;go_wp2;refine bodyPost_ret (v:=.tuple #[cv (na,1,M,N,⟨#[]⟩),Q aM]) (by simp [results,aX,go_sem]) rfl ?_;refine⟨⟨(na,1,M,N,⟨#[]⟩),by rw [T.out]; rfl,fun k hk=>?_⟩,(b3 w _ _ _).drew⟩;rw [T.out] at hk;rw [<- aG hk]
  rfl
 ·have h1:N<M:=by omega
  have T:=D (show r=ak by rw [R.out,if_neg h]);clear h;go_wp2;refine bodyPost_ret (v:=.tuple #[cv (⟨#[]⟩,0,0,0,⟨#[]⟩),Q ay]) (by simp [results,aX,go_sem]) rfl ?_;refine⟨⟨(⟨#[]⟩,0,0,0,⟨#[]⟩),by rw [T.out]; rfl,fun k hk=>?_⟩,(b3 w _ _ _).drew⟩;rw [T.out] at hk;cases hk
theorem Bj (a b:Kd):fH a b=(match a,b with
 | .rg p q,.rg r t=>if max p r<=min q t then aB (.rg (max p r) (min q t)) else ak
 | a,b=>if jE a b then aB a else if jE b a then aB b else ak):=by
 cases a <;> cases b <;> simp [fH,jE,eP]
 ·rename_i s t
  by_cases h:s.data=t.data
  ·rw [if_pos h,if_pos h]
  ·rw [if_neg h,if_neg h,if_neg (fun e=>h e.symm)]
 ·rename_i s t
  by_cases h1:pfx s t=aM <;> by_cases h2:pfx t s=aM <;> simp [h1,h2];have e1:=(gH _ _).1 h1;have e2:=(gH _ _).1 h2;rw [rV (e2.eq_of_length_le e1.length_le)]
theorem Kh (w:U) (c d z:C5):dK (((w.alloc (L (cells5 c).toArray 91)).alloc (L (cells5 d).toArray 91)).alloc (L (cells5 z).toArray 91)) w.heap.size (cells5 c).toArray 91/\dK (((w.alloc (L (cells5 c).toArray 91)).alloc (L (cells5 d).toArray 91)).alloc (L (cells5 z).toArray 91)) (w.heap.size+1) (cells5 d).toArray 91/\dK (((w.alloc (L (cells5 c).toArray 91)).alloc (L (cells5 d).toArray 91)).alloc (L (cells5 z).toArray 91)) (w.heap.size+1+1) (cells5 z).toArray 91/\Below w.heap.size w (((w.alloc (L (cells5 c).toArray 91)).alloc (L (cells5 d).toArray 91)).alloc (L (cells5 z).toArray 91)):=by
 obtain⟨h1,h2,h3⟩:=Xi w c d;refine⟨h1.more _,h2.more _,?_,h3.alloc h3.size _⟩;have h:=dQ ((w.alloc (L (cells5 c).toArray 91)).alloc (L (cells5 d).toArray 91)) (cells5 z).toArray 91
 rwa [show ((w.alloc (L (cells5 c).toArray 91)).alloc (L (cells5 d).toArray 91)).heap.size=w.heap.size+1+1 by simp] at h
theorem fG {W:U} {b:Nat} {c:C5} (h:dK W b (cells5 c).toArray 91):W.cell? ⟨b,0,ak⟩=aB (Y c.1)/\W.cell? ⟨b,1,ak⟩=aB (aK aL c.2.1)/\W.cell? ⟨b,2,ak⟩=aB (aK aL c.2.2.1)/\W.cell? ⟨b,3,ak⟩=aB (aK aL c.2.2.2.1)/\W.cell? ⟨b,4,ak⟩=aB (Y c.2.2.2.2):=⟨h.cell 0,h.cell 1,h.cell 2,h.cell 3,h.cell 4⟩
theorem iR {B:Nat} {W w:U} (h:Below B W w) (g:Nat) (hB:B<=g) (T a0 a3 a4 a5:Value):Below B W (((((w.setCell ⟨g,0,ak⟩ T).setCell ⟨g,1,ak⟩ a0).setCell ⟨g,2,ak⟩ a3).setCell ⟨g,3,ak⟩ a4).setCell ⟨g,4,ak⟩ a5) :=
 ((((h.setCell hB _).setCell hB _).setCell hB _).setCell hB _).setCell hB _
theorem abW (na nb:ByteArray) (a b c d:Int) (w:U):Z K 133 #[cv (r5 (na,.rg a b)),cv (r5 (nb,.rg c d))] w (Qh na (fH (.rg a b) (.rg c d)) w):=by
 obtain⟨ba,bb,bz,hb⟩:=Kh w (r5 (na,.rg a b)) (r5 (nb,.rg c d)) (⟨#[]⟩,0,0,0,⟨#[]⟩);have B:=D hb;have a3:=D ba;have a4:=D bb;have T:=D bz;have O:=D (Kg na nb a b c d (((w.alloc (L (cells5 (r5 (na,.rg a b))).toArray 91)).alloc (L (cells5 (r5 (nb,.rg c d))).toArray 91)).alloc (L (cells5 (⟨#[]⟩,0,0,0,⟨#[]⟩)).toArray 91)));generalize fH (.rg a b) (.rg c d)=r at *;clear ba bb bz hb;simp only [r5,kN,kH,kI,kT];go_enter bF,bf;go_wp2_with fail;refine O.out.mono ?_;rintro e W2 ⟨⟨x,rfl,hx⟩,hb2⟩;have a5:=D (B.out.trans (hb2.mono B.out.size));have a0:=D (T.out.on hb2);have X:=D hx;obtain⟨z0,z1,z2,z3,z4⟩:=fG a0.out;have fz:=fun k=>a0.out.fr k;simp only at z0 z1 z2 z3 z4;clear hx hb2 O B a3 a4 T;go_wp2;refine bodyPost_ret (v:=.tuple #[cv x,Q r.isSome]) (by simp [results,aH,go_sem,z0,z1,z2,z3,z4]) rfl ?_;exact⟨⟨x,rfl,X.out⟩,iR a5.out (w.heap.size+1+1) (by omega) _ _ _ _ _⟩
theorem tC (na nb:ByteArray) (ka kb:Kd) (w:U) (hno:(kN ka=1/\kN kb≠1)\/kN ka≠1) (hn:na=nb) (r:Option Kd) (hr:r=if jE ka kb then aB ka else if jE kb ka then aB kb else ak):Z K 133 #[cv (r5 (na,ka)),cv (r5 (nb,kb))] w (Qh na r w):=by
 obtain⟨ba,bb,bz,hb⟩:=Kh w (r5 (na,ka)) (r5 (nb,kb)) (⟨#[]⟩,0,0,0,⟨#[]⟩);have B:=D hb;have bJ:=D ba;have bQ:=D bb;have c7:=D bz;have a6:=D (Cj (na,ka) (nb,kb) (((w.alloc (L (cells5 (r5 (na,ka))).toArray 91)).alloc (L (cells5 (r5 (nb,kb))).toArray 91)).alloc (L (cells5 (⟨#[]⟩,0,0,0,⟨#[]⟩)).toArray 91)));have a5:=D (fun W=>Cj (nb,kb) (na,ka) W);obtain⟨i1,e1⟩:∃ i,jE ka kb=i:=⟨_,rfl⟩;obtain⟨i2,e2⟩:∃ i,jE kb ka=i:=⟨_,rfl⟩;simp only [e1] at a6;simp only [e2] at a5;rw [e1,e2] at hr;have T:=D hr;have cD:=D hn;obtain⟨j1,g1⟩:∃ j,(kN ka == (1:Int))=j:=⟨_,rfl⟩;have g2:j1=aM->(kN kb == (1:Int))=ay:=fun e=>by
  subst e;rcases hno with⟨_,h⟩|h
  ·exact beq_eq_false_iff_ne.2 h
  ·exact absurd (beq_iff_eq.1 g1) h
 have c9:=D g2;clear ba bb bz hb e1 e2 hn hno g2 hr;simp only [r5] at a6 a5 ⊢;cases j1
 all_goals try have g3:=c9.out rfl
 all_goals
  clear c9;go_enter bF,bf;go_wp2_with fail;refine a6.out.mono ?_;rintro e W2 ⟨rfl,hb2⟩;have a8:=D (B.out.trans (hb2.mono B.out.size));have a7:=D (c7.out.on hb2);have b9:=D (bJ.out.on hb2);have aE:=D (bQ.out.on hb2);obtain⟨a0,a1,a2,a3,a4⟩:=fG b9.out;obtain⟨d0,d1,d2,d3,d4⟩:=fG aE.out;obtain⟨z0,z1,z2,z3,z4⟩:=fG a7.out;have fz:=fun k=>a7.out.fr k;simp only [r5] at a0 a1 a2 a3 a4 d0 d1 d2 d3 d4;simp only at z0 z1 z2 z3 z4;clear hb2 B bJ bQ c7 a6;rcases aP i1 with rfl|rfl
  ·go_wp2;refine bodyPost_ret (v:=.tuple #[cv (r5 (na,ka)),Q aM]) (by simp [results,aH,go_sem,z0,z1,z2,z3,z4,r5]) rfl ?_;exact⟨⟨r5 (na,ka),by rw [T.out]; rfl,fun k hk=>by rw [T.out] at hk; rw [<- aG hk]⟩,iR a8.out (w.heap.size+1+1) (by omega) _ _ _ _ _⟩
  ·clear a0 a1 a2 a3 a4 d0 d1 d2 d3 d4;obtain⟨a0,a1,a2,a3,a4⟩:=fG b9.out;obtain⟨d0,d1,d2,d3,d4⟩:=fG aE.out;simp only [r5] at a0 a1 a2 a3 a4 d0 d1 d2 d3 d4;go_wp2_with fail;refine (a5.out _).mono ?_;rintro e W3 ⟨rfl,hb3⟩;have cA:=D (a8.out.trans (hb3.mono a8.out.size));have c8:=D (a7.out.on hb3);have cC:=D (aE.out.on hb3);clear a0 a1 a2 a3 a4 d0 d1 d2 d3 d4 z0 z1 z2 z3 z4 fz;obtain⟨d0,d1,d2,d3,d4⟩:=fG cC.out;obtain⟨z0,z1,z2,z3,z4⟩:=fG c8.out;have fz:=fun k=>c8.out.fr k;simp only [r5] at d0 d1 d2 d3 d4;simp only at z0 z1 z2 z3 z4;clear hb3 a8 a5 b9 aE a7;rcases aP i2 with rfl|rfl
   ·go_wp2;refine bodyPost_ret (v:=.tuple #[cv (r5 (nb,kb)),Q aM]) (by simp [results,aH,go_sem,z0,z1,z2,z3,z4,r5]) rfl ?_;exact⟨⟨r5 (nb,kb),by rw [T.out]; rfl,fun k hk=>by rw [T.out] at hk; rw [cD.out,<- aG hk]⟩,iR cA.out (w.heap.size+1+1) (by omega) _ _ _ _ _⟩
   ·go_wp2;refine bodyPost_ret (v:=.tuple #[cv ((⟨#[]⟩,0,0,0,⟨#[]⟩)),Q ay]) (by simp [results,aH,go_sem,z0,z1,z2,z3,z4]) rfl ?_;exact⟨⟨(⟨#[]⟩,0,0,0,⟨#[]⟩),by rw [T.out]; rfl,fun k hk=>by rw [T.out] at hk; cases hk⟩,iR cA.out (w.heap.size+1+1) (by omega) _ _ _ _ _⟩
theorem Ki (a b:Cn) (w:U) (hn:a.1=b.1):Z K 133 #[cv (r5 a),cv (r5 b)] w (Qh a.1 (fH a.2 b.2) w):=by
 obtain⟨na,ka⟩:=a;obtain⟨nb,kb⟩:=b;cases ka with
 | rg p q =>
  cases kb with
  | rg r t=>exact abW na nb p q r t w
  | tx t=>exact tC na nb _ _ w (Or.inl ⟨rfl,by simp [kN]⟩) hn _ (Bj _ _)
  | pr t=>exact tC na nb _ _ w (Or.inl ⟨rfl,by simp [kN]⟩) hn _ (Bj _ _)
 | tx s=>exact tC na nb _ _ w (Or.inr (by simp [kN])) hn _ (Bj _ _)
 | pr s=>exact tC na nb _ _ w (Or.inr (by simp [kN])) hn _ (Bj _ _)
end Pr
namespace Rl
open Go.RowKit Pu Rw Pr Va
def Qi (n:ByteArray) (r:Option Kd) (w:U) (e:Ending) (w':U):Prop:=(∃ c,e=J (.tuple #[cv c,Q r.isSome])/\∀ k,r=aB k->c=r5 (n,k))/\aC w.heap.size w w'
theorem Jc {n:ByteArray} {w w':U} (c:C5) (h:aC w.heap.size w w'):Qi n ak w (J (.tuple #[cv c,Q ay])) w':=⟨⟨c,rfl,fun _ h=>by cases h⟩,h⟩
theorem ahO {n:ByteArray} {w w':U} (b:Bool) (k:Kd) (h:aC w.heap.size w w'):Qi n (if b=aM then aB k else ak) w (J (.tuple #[cv (r5 (n,k)),Q b])) w':=by
 cases b
 ·exact⟨⟨_,rfl,fun _ h=>by cases h⟩,h⟩
 ·exact⟨⟨_,rfl,fun _ h=>by rw [<- aG h]⟩,h⟩
theorem Xj (n:ByteArray) (lo1 hi1:Int) (T:ByteArray) (w:U):Z K 163 #[cv (r5 (n,(.rg lo1 hi1))),cv (r5 (n,(.tx T)))] w (Qi n (fH (.rg lo1 hi1) (.tx T)) w):=by
 have R:=D (show fH (.rg lo1 hi1) (.tx T)=ak from rfl);rw [R.out];clear R;simp only [r5,kN,kH,kI,kT];have B:=D (rC w n 1 lo1 hi1 ⟨#[]⟩ n 2 0 0 T);go_enter aT,aQ;go_wp2;exact bodyPost_ret (v:=.tuple #[cv (n,1,lo1,hi1,⟨#[]⟩),Q ay]) (by simp [results,aI,go_sem]) rfl (Jc (n,1,lo1,hi1,⟨#[]⟩) (by first | exact B.out.alloc B.out.size _ | exact (((((B.out.alloc B.out.size _).setCell (by simp) _).setCell (by simp) _).setCell (by simp) _).setCell (by simp) _).setCell (by simp) _))
theorem Xk (n:ByteArray) (lo1 hi1:Int) (T:ByteArray) (w:U):Z K 163 #[cv (r5 (n,(.rg lo1 hi1))),cv (r5 (n,(.pr T)))] w (Qi n (fH (.rg lo1 hi1) (.pr T)) w):=by
 have R:=D (show fH (.rg lo1 hi1) (.pr T)=ak from rfl);rw [R.out];clear R;simp only [r5,kN,kH,kI,kT];have B:=D (rC w n 1 lo1 hi1 ⟨#[]⟩ n 3 0 0 T);go_enter aT,aQ;go_wp2;exact bodyPost_ret (v:=.tuple #[cv (n,1,lo1,hi1,⟨#[]⟩),Q ay]) (by simp [results,aI,go_sem]) rfl (Jc (n,1,lo1,hi1,⟨#[]⟩) (by first | exact B.out.alloc B.out.size _ | exact (((((B.out.alloc B.out.size _).setCell (by simp) _).setCell (by simp) _).setCell (by simp) _).setCell (by simp) _).setCell (by simp) _))
theorem Xl (n:ByteArray) (T:ByteArray) (lo2 hi2:Int) (w:U):Z K 163 #[cv (r5 (n,(.tx T))),cv (r5 (n,(.rg lo2 hi2)))] w (Qi n (fH (.tx T) (.rg lo2 hi2)) w):=by
 have R:=D (show fH (.tx T) (.rg lo2 hi2)=ak from rfl);rw [R.out];clear R;simp only [r5,kN,kH,kI,kT];have B:=D (rC w n 2 0 0 T n 1 lo2 hi2 ⟨#[]⟩);go_enter aT,aQ;go_wp2;exact bodyPost_ret (v:=.tuple #[cv (n,2,0,0,T),Q ay]) (by simp [results,aI,go_sem]) rfl (Jc (n,2,0,0,T) (by first | exact B.out.alloc B.out.size _ | exact (((((B.out.alloc B.out.size _).setCell (by simp) _).setCell (by simp) _).setCell (by simp) _).setCell (by simp) _).setCell (by simp) _))
theorem Xm (n:ByteArray) (T:ByteArray) (lo2 hi2:Int) (w:U):Z K 163 #[cv (r5 (n,(.pr T))),cv (r5 (n,(.rg lo2 hi2)))] w (Qi n (fH (.pr T) (.rg lo2 hi2)) w):=by
 have R:=D (show fH (.pr T) (.rg lo2 hi2)=ak from rfl);rw [R.out];clear R;simp only [r5,kN,kH,kI,kT];have B:=D (rC w n 3 0 0 T n 1 lo2 hi2 ⟨#[]⟩);go_enter aT,aQ;go_wp2;exact bodyPost_ret (v:=.tuple #[cv (n,3,0,0,T),Q ay]) (by simp [results,aI,go_sem]) rfl (Jc (n,3,0,0,T) (by first | exact B.out.alloc B.out.size _ | exact (((((B.out.alloc B.out.size _).setCell (by simp) _).setCell (by simp) _).setCell (by simp) _).setCell (by simp) _).setCell (by simp) _))
end Rl
namespace Rl
open Go.RowKit Go.Sort Pu Rw Pr Va
theorem rY {n:ByteArray} {r:Option Kd} {b:Bool} {k:Kd} {w w':U} {e:Ending} (hr:r=if b=aM then aB k else ak) (he:e=J (.tuple #[cv (r5 (n,k)),Q b])) (h:Below w.heap.size w w'):Qi n r w e w':=by
 subst hr he;exact ahO b k h
theorem ajM {s t:ByteArray} (h:t.size<=s.size):fH (.pr s) (.pr t)=if pfx t s=aM then aB (.pr s) else ak:=by
 simp only [fH];by_cases h1:pfx s t=aM
 ·rw [if_pos h1];have e1:=(gH _ _).1 h1;have e2:s=t:=rV (e1.eq_of_length_le (by rw [V,V]; exact h));subst e2;rw [if_pos (qD s)]
 ·rw [if_neg h1]
theorem ajN {s t:ByteArray} (h:¬ t.size<=s.size):fH (.pr s) (.pr t)=if pfx s t=aM then aB (.pr t) else ak:=by
 simp only [fH];by_cases h1:pfx s t=aM
 ·rw [if_pos h1,if_pos h1]
 ·have h2:¬ pfx t s=aM:=fun h2=>by
   have:=((gH _ _).1 h2).length_le;rw [V,V] at this;exact h this
  rw [if_neg h1,if_neg h1,if_neg h2]
end Rl
end Go.Proofs.YtghlpefopidlaaaGreat
