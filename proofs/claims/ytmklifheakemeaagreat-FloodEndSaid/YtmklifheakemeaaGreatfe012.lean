/-
  Holds of package pre. Conditions as told.
-/
import Derived.Test.YtmklifheakemeaaGreatfe003
import Derived.Test.YtmklifheakemeaaGreatfe005
import Derived.Lib.Strings
import Derived.Lib.QuietBelow
import Derived.BigQuiet
set_option maxRecDepth 100000
set_option maxHeartbeats 64000000
open _root_.Array renaming length_toList->J
open Go.Ending renaming returned->D
open Go.Lib renaming hid->Q,size_eq->X
open Go.Proofs.Tryz renaming ntmps196->K,func196->L,prog->O
open Go.Value renaming bool->U,string->V,int->Y
namespace Go.Proofs.YtmklifheakemeaaGreat.Pr
open Go.RowKit Go.Sort Pu Rw Va
theorem P8 (s p:ByteArray) (w:World):Calls O 201 #[V s,V p] w fun e w'=>e=D (U (pfx p s))/\w'=w:=by
 show Calls O _ _ _ fun e w'=>e=D (U (Lib.hasPrefix s.data.toList p.data.toList))/\w'=w;rw [<- Lib.hasPrefix_of_take,<- X,<- X];go_enter Tryz.func201,Tryz.ntmps201;go_wp2
 ·rename_i h
  go_ret;refine⟨?_,rfl⟩;show D (U ((s.extract 0 p.size).toList == p.toList))=_;rw [Lib.extract_toList,Lib.toList_data];simp [h]
 ·rename_i h
  go_ret;refine⟨?_,rfl⟩;show D (U false)=_;simp [h]
theorem vG (s p:ByteArray) (w:World):Calls O 200 #[V s,V p] w fun e w'=>e=D (U (pfx p s))/\w'=w:=by
 go_enter Tryz.func200,Tryz.ntmps200;go_wp2_with fail;refine (P8 s p w).mono ?_;rintro e w' ⟨rfl,rfl⟩;go_wp2;go_ret;exact⟨rfl,rfl⟩
theorem Ym (s u:ByteArray) (h:s.size=u.size):pfx u s=(s.data.toList == u.data.toList):=by
 have hl:u.data.toList.length=s.data.toList.length:=by rw [J,J]; exact h.symm
 rw [Bool.eq_iff_iff,beq_iff_eq,fU];exact⟨fun h1=>(h1.eq_of_length hl).symm,fun h1=>by rw [h1]; exact List.prefix_refl _⟩
theorem SA (s u:ByteArray) (h:¬ s.size=u.size):(s.data.toList == u.data.toList)=false:=by
 rw [beq_eq_false_iff_ne];intro e;have:=congrArg List.length e;rw [J,J] at this;exact h this
theorem hB (w:World) (nm:ByteArray) (k lo hi:Int) (u:ByteArray) (t:Bool) (n:Int) (s:ByteArray):Below w.heap.size w ((w.alloc (.cells #[V nm,Y .i64 k,Y .i64 lo,Y .i64 hi,V u] 70)).alloc (.cells #[U t,Y .i64 n,V s] 154)) :=
 ((Below.refl w.heap.size w).alloc (Nat.le_refl _) _).alloc (by simp) _
theorem SE (nm:ByteArray) (lo hi:Int) (t:Bool) (n:Int) (s:ByteArray) (w:World):Calls O 196 #[cv (r5 (nm,.rg lo hi)),vl t n s] w fun e w'=>e=D (U (eD (.rg lo hi) (t,n,s)))/\Below w.heap.size w w':=by
 simp only [r5,kN,jF,jG,kT];have R:=Q (show eD (.rg lo hi) (t,n,s)=(!t && (decide (lo<=n) && decide (n<=hi))) from rfl);have B:=Q (hB w nm 1 lo hi ⟨#[]⟩ t n s);generalize eD (.rg lo hi) (t,n,s)=r at *;by_cases h1:lo<=n <;> have H1:=Q h1 <;> cases t <;> go_enter L,K <;> go_wp2 <;> go_ret <;> exact⟨eG (by rw [R.out]; have h:=H1.out; simp [h] <;> omega),B.out⟩
theorem SF (nm u:ByteArray) (t:Bool) (n:Int) (s:ByteArray) (w:World):Calls O 196 #[cv (r5 (nm,.tx u)),vl t n s] w fun e w'=>e=D (U (eD (.tx u) (t,n,s)))/\Below w.heap.size w w':=by
 simp only [r5,kN,jF,jG,kT];have R:=Q (show eD (.tx u) (t,n,s)=(t && (s.data.toList == u.data.toList)) from rfl);have B:=Q (hB w nm 2 0 0 u t n s);generalize eD (.tx u) (t,n,s)=r at *;by_cases h1:s.size=u.size
 ·have e1:(((s.size:Nat):Int) != ((u.size:Nat):Int))=false:=by simp [h1]
  have E:=Q (Ym s u h1);clear h1;cases t
  ·go_enter L,K;go_wp2;go_ret;exact⟨eG (by rw [R.out]; simp),B.out⟩
  ·go_enter L,K;go_wp2_with fail;refine (vG s u _).mono ?_;rintro e w' ⟨rfl,rfl⟩;go_wp2;go_ret;exact⟨eG (by rw [R.out,E.out]; simp),B.out⟩
 ·have e1:(((s.size:Nat):Int) != ((u.size:Nat):Int))=true:=by simp; omega
  have E:=Q (SA s u h1);clear h1;go_enter L,K;go_wp2;go_ret;exact⟨eG (by rw [R.out,E.out]; simp),B.out⟩
theorem SG (nm u:ByteArray) (t:Bool) (n:Int) (s:ByteArray) (w:World):Calls O 196 #[cv (r5 (nm,.pr u)),vl t n s] w fun e w'=>e=D (U (eD (.pr u) (t,n,s)))/\Below w.heap.size w w':=by
 simp only [r5,kN,jF,jG,kT];have R:=Q (show eD (.pr u) (t,n,s)=(t && pfx u s) from rfl);have B:=Q (hB w nm 3 0 0 u t n s);generalize eD (.pr u) (t,n,s)=r at *;cases t
 ·go_enter L,K;go_wp2;go_ret;exact⟨eG (by rw [R.out]; simp),B.out⟩
 ·go_enter L,K;go_wp2_with fail;refine (vG s u _).mono ?_;rintro e w' ⟨rfl,rfl⟩;go_wp2;go_ret;exact⟨eG (by rw [R.out]; simp),B.out⟩
theorem Qa (c:Cn) (t:Bool) (n:Int) (s:ByteArray) (w:World):Calls O 196 #[cv (r5 c),vl t n s] w fun e w'=>e=D (U (eD c.2 (t,n,s)))/\Below w.heap.size w w':=by
 obtain⟨nm,k⟩:=c;cases k with
 | rg lo hi=>exact SE nm lo hi t n s w
 | tx u=>exact SF nm u t n s w
 | pr u=>exact SG nm u t n s w
end Go.Proofs.YtmklifheakemeaaGreat.Pr
