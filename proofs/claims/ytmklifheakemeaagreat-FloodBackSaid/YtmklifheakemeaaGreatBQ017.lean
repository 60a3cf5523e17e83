/-
  The document's own H. Conditions as told.
-/
import Derived.Test.YtmklifheakemeaaGreatBQ004
import Derived.Test.YtmklifheakemeaaGreatBQ002
import Derived.Test.YtmklifheakemeaaGreatBQ005
import Derived.Lib.Strings
set_option maxRecDepth 100000
set_option maxHeartbeats 64000000
open _root_.Bool renaming false->aA
open _root_.Go renaming World->U,Calls->V
open Go.Ending renaming returned->J
open Go.Lib renaming hid->D,toList_data->ay,size_eq->aF
open Go.Proofs.Tryz renaming prog->K,ntmps174->L,func174->O,results152->Y,ntmps172->ah,ntmps152->aj,func172->ak,func152->au,ntmps173->aB,func173->aC
open Go.RowKit renaming Below->X
open Go.Value renaming bool->Q,string->Z,int->aD
namespace Go.Proofs.YtmklifheakemeaaGreat.Rl
open Go.RowKit Pu Rw Pr Va
theorem oC (s p:ByteArray) (w:U):V K 173 #[Z s,Z p] w fun e w'=>e=J (Q (pfx p s))/\w'=w:=by
 show V K _ _ _ fun e w'=>e=J (Q (Lib.hasPrefix s.data.toList p.data.toList))/\w'=w;rw [<- Lib.hasPrefix_of_take,<- aF,<- aF];by_cases h:p.size<=s.size
 ·have e1:(((s.size:Nat):Int) ≥ ((p.size:Nat):Int)):=by omega
  have H:=D h;go_enter aC,aB;go_wp2
  all_goals (go_ret; refine⟨?_,rfl⟩; show J (Q ((s.extract 0 p.size).toList == p.toList))=_; rw [Lib.extract_toList,ay]; simp [h])
 ·have H:=D h;go_enter aC,aB;go_wp2
  all_goals (go_ret; refine⟨?_,rfl⟩; show J (Q aA)=_; simp [H.out])
theorem rB (w:U) (nm:ByteArray) (k lo hi:Int) (u:ByteArray) (t:Bool) (n:Int) (s:ByteArray):X w.heap.size w ((w.alloc (.cells #[Z nm,aD .i64 k,aD .i64 lo,aD .i64 hi,Z u] 70)).alloc (.cells #[Q t,aD .i64 n,Z s] 154)) :=
 ((Below.refl w.heap.size w).alloc (Nat.le_refl _) _).alloc (by simp) _
theorem rC (w:U) (nm:ByteArray) (k lo hi:Int) (u:ByteArray) (nm':ByteArray) (k' lo' hi':Int) (u':ByteArray):X w.heap.size w ((w.alloc (.cells #[Z nm,aD .i64 k,aD .i64 lo,aD .i64 hi,Z u] 70)).alloc (.cells #[Z nm',aD .i64 k',aD .i64 lo',aD .i64 hi',Z u'] 70)) :=
 ((Below.refl w.heap.size w).alloc (Nat.le_refl _) _).alloc (by simp) _
theorem Qg (nm:ByteArray) (lo hi:Int) (t:Bool) (n:Int) (s:ByteArray) (w:U):V K 172 #[cv (r5 (nm,.rg lo hi)),vl t n s] w fun e w'=>e=J (Q (eH (.rg lo hi) (t,n,s)))/\X w.heap.size w w':=by
 simp only [r5,kN,jG,jH,kT];have R:=D (show eH (.rg lo hi) (t,n,s)=(!t && (decide (lo<=n) && decide (n<=hi))) from rfl);have B:=D (rB w nm 1 lo hi ⟨#[]⟩ t n s);generalize eH (.rg lo hi) (t,n,s)=r at *;by_cases h1:lo<=n <;> have H1:=D h1 <;> cases t <;> go_enter ak,ah <;> go_wp2 <;> go_ret <;> exact⟨eD (by rw [R.out]; have h:=H1.out; simp [h] <;> omega),B.out⟩
theorem Qh (nm u:ByteArray) (t:Bool) (n:Int) (s:ByteArray) (w:U):V K 172 #[cv (r5 (nm,.tx u)),vl t n s] w fun e w'=>e=J (Q (eH (.tx u) (t,n,s)))/\X w.heap.size w w':=by
 simp only [r5,kN,jG,jH,kT];have R:=D (show eH (.tx u) (t,n,s)=(t && (s.data.toList == u.data.toList)) from rfl);have B:=D (rB w nm 2 0 0 u t n s);generalize eH (.tx u) (t,n,s)=r at *;cases t <;> go_enter ak,ah <;> go_wp2 <;> go_ret <;> exact⟨eD (by rw [R.out]; simp [ay]),B.out⟩
theorem Qi (nm u:ByteArray) (t:Bool) (n:Int) (s:ByteArray) (w:U):V K 172 #[cv (r5 (nm,.pr u)),vl t n s] w fun e w'=>e=J (Q (eH (.pr u) (t,n,s)))/\X w.heap.size w w':=by
 simp only [r5,kN,jG,jH,kT];have R:=D (show eH (.pr u) (t,n,s)=(t && pfx u s) from rfl);have B:=D (rB w nm 3 0 0 u t n s);generalize eH (.pr u) (t,n,s)=r at *;cases t
 ·go_enter ak,ah;go_wp2;go_ret;exact⟨eD (by rw [R.out]; simp),B.out⟩
 ·go_enter ak,ah;go_wp2_with fail;refine (oC s u _).mono ?_;rintro e w' ⟨rfl,rfl⟩;go_wp2;go_ret;exact⟨eD (by rw [R.out]; simp),B.out⟩
theorem vE (c:Cn) (t:Bool) (n:Int) (s:ByteArray) (w:U):V K 172 #[cv (r5 c),vl t n s] w fun e w'=>e=J (Q (eH c.2 (t,n,s)))/\X w.heap.size w w':=by
 obtain⟨nm,k⟩:=c;cases k with
 | rg lo hi=>exact Qg nm lo hi t n s w
 | tx u=>exact Qh nm u t n s w
 | pr u=>exact Qi nm u t n s w
theorem ab2 (n1 n2:ByteArray) (lo1 hi1:Int) (lo2 hi2:Int) (w:U):V K 174 #[cv (r5 (n1,(.rg lo1 hi1))),cv (r5 (n2,(.rg lo2 hi2)))] w fun e w'=>e=J (Q (eU (.rg lo1 hi1) (.rg lo2 hi2)))/\X w.heap.size w w':=by
 simp only [r5,kN,jG,jH,kT];have B:=D (rC w n1 1 lo1 hi1 ⟨#[]⟩ n2 1 lo2 hi2 ⟨#[]⟩);have R:=D (show eU (.rg lo1 hi1) (.rg lo2 hi2)=(decide (lo2<=lo1) && decide (hi1<=hi2)) from rfl);generalize eU (.rg lo1 hi1) (.rg lo2 hi2)=r at *;by_cases h1:lo2<=lo1 <;> have H1:=D h1 <;> go_enter O,L <;> go_wp2 <;> go_ret <;> exact⟨eD (by rw [R.out]; have h:=H1.out; simp [h] <;> omega),B.out⟩
theorem ab3 (n1 n2:ByteArray) (lo1 hi1:Int) (u2:ByteArray) (w:U):V K 174 #[cv (r5 (n1,(.rg lo1 hi1))),cv (r5 (n2,(.tx u2)))] w fun e w'=>e=J (Q (eU (.rg lo1 hi1) (.tx u2)))/\X w.heap.size w w':=by
 simp only [r5,kN,jG,jH,kT];have B:=D (rC w n1 1 lo1 hi1 ⟨#[]⟩ n2 2 0 0 u2);have R:=D (show eU (.rg lo1 hi1) (.tx u2)=(aA) from rfl);generalize eU (.rg lo1 hi1) (.tx u2)=r at *;go_enter O,L <;> go_wp2 <;> go_ret <;> exact⟨eD (by rw [R.out]),B.out⟩
theorem ab4 (n1 n2:ByteArray) (lo1 hi1:Int) (u2:ByteArray) (w:U):V K 174 #[cv (r5 (n1,(.rg lo1 hi1))),cv (r5 (n2,(.pr u2)))] w fun e w'=>e=J (Q (eU (.rg lo1 hi1) (.pr u2)))/\X w.heap.size w w':=by
 simp only [r5,kN,jG,jH,kT];have B:=D (rC w n1 1 lo1 hi1 ⟨#[]⟩ n2 3 0 0 u2);have R:=D (show eU (.rg lo1 hi1) (.pr u2)=(aA) from rfl);generalize eU (.rg lo1 hi1) (.pr u2)=r at *;go_enter O,L <;> go_wp2 <;> go_ret <;> exact⟨eD (by rw [R.out]),B.out⟩
theorem ab5 (n1 n2:ByteArray) (u1:ByteArray) (lo2 hi2:Int) (w:U):V K 174 #[cv (r5 (n1,(.tx u1))),cv (r5 (n2,(.rg lo2 hi2)))] w fun e w'=>e=J (Q (eU (.tx u1) (.rg lo2 hi2)))/\X w.heap.size w w':=by
 simp only [r5,kN,jG,jH,kT];have B:=D (rC w n1 2 0 0 u1 n2 1 lo2 hi2 ⟨#[]⟩);have R:=D (show eU (.tx u1) (.rg lo2 hi2)=(aA) from rfl);generalize eU (.tx u1) (.rg lo2 hi2)=r at *;go_enter O,L <;> go_wp2 <;> go_ret <;> exact⟨eD (by rw [R.out]),B.out⟩
theorem ab6 (n1 n2:ByteArray) (u1:ByteArray) (u2:ByteArray) (w:U):V K 174 #[cv (r5 (n1,(.tx u1))),cv (r5 (n2,(.tx u2)))] w fun e w'=>e=J (Q (eU (.tx u1) (.tx u2)))/\X w.heap.size w w':=by
 simp only [r5,kN,jG,jH,kT];have B:=D (rC w n1 2 0 0 u1 n2 2 0 0 u2);have R:=D (show eU (.tx u1) (.tx u2)=(u1.data.toList == u2.data.toList) from rfl);generalize eU (.tx u1) (.tx u2)=r at *;go_enter O,L <;> go_wp2 <;> go_ret <;> exact⟨eD (by rw [R.out]; simp [ay]),B.out⟩
theorem ab7 (n1 n2:ByteArray) (u1:ByteArray) (u2:ByteArray) (w:U):V K 174 #[cv (r5 (n1,(.tx u1))),cv (r5 (n2,(.pr u2)))] w fun e w'=>e=J (Q (eU (.tx u1) (.pr u2)))/\X w.heap.size w w':=by
 simp only [r5,kN,jG,jH,kT];have B:=D (rC w n1 2 0 0 u1 n2 3 0 0 u2);have R:=D (show eU (.tx u1) (.pr u2)=(pfx u2 u1) from rfl);generalize eU (.tx u1) (.pr u2)=r at *;go_enter O,L;go_wp2_with fail;refine (oC u1 u2 _).mono ?_;rintro e w' ⟨rfl,rfl⟩;go_wp2;go_ret;exact⟨eD (by rw [R.out]),B.out⟩
theorem ab8 (n1 n2:ByteArray) (u1:ByteArray) (lo2 hi2:Int) (w:U):V K 174 #[cv (r5 (n1,(.pr u1))),cv (r5 (n2,(.rg lo2 hi2)))] w fun e w'=>e=J (Q (eU (.pr u1) (.rg lo2 hi2)))/\X w.heap.size w w':=by
 simp only [r5,kN,jG,jH,kT];have B:=D (rC w n1 3 0 0 u1 n2 1 lo2 hi2 ⟨#[]⟩);have R:=D (show eU (.pr u1) (.rg lo2 hi2)=(aA) from rfl);generalize eU (.pr u1) (.rg lo2 hi2)=r at *;go_enter O,L <;> go_wp2 <;> go_ret <;> exact⟨eD (by rw [R.out]),B.out⟩
theorem ab9 (n1 n2:ByteArray) (u1:ByteArray) (u2:ByteArray) (w:U):V K 174 #[cv (r5 (n1,(.pr u1))),cv (r5 (n2,(.tx u2)))] w fun e w'=>e=J (Q (eU (.pr u1) (.tx u2)))/\X w.heap.size w w':=by
 simp only [r5,kN,jG,jH,kT];have B:=D (rC w n1 3 0 0 u1 n2 2 0 0 u2);have R:=D (show eU (.pr u1) (.tx u2)=(aA) from rfl);generalize eU (.pr u1) (.tx u2)=r at *;go_enter O,L <;> go_wp2 <;> go_ret <;> exact⟨eD (by rw [R.out]),B.out⟩
theorem acd (n1 n2:ByteArray) (u1:ByteArray) (u2:ByteArray) (w:U):V K 174 #[cv (r5 (n1,(.pr u1))),cv (r5 (n2,(.pr u2)))] w fun e w'=>e=J (Q (eU (.pr u1) (.pr u2)))/\X w.heap.size w w':=by
 simp only [r5,kN,jG,jH,kT];have B:=D (rC w n1 3 0 0 u1 n2 3 0 0 u2);have R:=D (show eU (.pr u1) (.pr u2)=(pfx u2 u1) from rfl);generalize eU (.pr u1) (.pr u2)=r at *;go_enter O,L;go_wp2_with fail;refine (oC u1 u2 _).mono ?_;rintro e w' ⟨rfl,rfl⟩;go_wp2;go_ret;exact⟨eD (by rw [R.out]),B.out⟩
theorem GV (c d:Cn) (w:U):V K 174 #[cv (r5 c),cv (r5 d)] w fun e w'=>e=J (Q (eU c.2 d.2))/\X w.heap.size w w':=by
 obtain⟨n1,k1⟩:=c;obtain⟨n2,k2⟩:=d;cases k1 <;> cases k2
 ·exact ab2 _ _ _ _ _ _ _
 ·exact ab3 _ _ _ _ _ _
 ·exact ab4 _ _ _ _ _ _
 ·exact ab5 _ _ _ _ _ _
 ·exact ab6 _ _ _ _ _
 ·exact ab7 _ _ _ _ _
 ·exact ab8 _ _ _ _ _ _
 ·exact ab9 _ _ _ _ _
 ·exact acd _ _ _ _ _
def MF (n:ByteArray) (r:Option Kd) (w:U) (e:Ending) (w':U):Prop:=(∃ c,e=J (.tuple #[cv c,Q r.isSome])/\∀ k,r=some k->c=r5 (n,k))/\X w.heap.size w w'
theorem EK {n:ByteArray} {w w':U} (c:C5) (h:X w.heap.size w w'):MF n none w (J (.tuple #[cv c,Q aA])) w':=⟨⟨c,rfl,fun _ h=>by cases h⟩,h⟩
theorem ace {n:ByteArray} {w w':U} (b:Bool) (k:Kd) (h:X w.heap.size w w'):MF n (if b=true then some k else none) w (J (.tuple #[cv (r5 (n,k)),Q b])) w':=by
 cases b
 ·exact⟨⟨_,rfl,fun _ h=>by cases h⟩,h⟩
 ·exact⟨⟨_,rfl,fun _ h=>by rw [<- Option.some.inj h]⟩,h⟩
theorem SI (n:ByteArray) (lo1 hi1:Int) (u2:ByteArray) (w:U):V K 152 #[cv (r5 (n,(.rg lo1 hi1))),cv (r5 (n,(.tx u2)))] w (MF n (fE (.rg lo1 hi1) (.tx u2)) w):=by
 have R:=D (show fE (.rg lo1 hi1) (.tx u2)=none from rfl);rw [R.out];clear R;simp only [r5,kN,jG,jH,kT];have B:=D (rC w n 1 lo1 hi1 ⟨#[]⟩ n 2 0 0 u2);go_enter au,aj;go_wp2;exact bodyPost_ret (v:=.tuple #[cv (n,1,lo1,hi1,⟨#[]⟩),Q aA]) (by simp [results,Y,go_sem]) rfl (EK (n,1,lo1,hi1,⟨#[]⟩) (by first | exact B.out.alloc B.out.size _ | exact (((((B.out.alloc B.out.size _).setCell (by simp) _).setCell (by simp) _).setCell (by simp) _).setCell (by simp) _).setCell (by simp) _))
theorem SK (n:ByteArray) (lo1 hi1:Int) (u2:ByteArray) (w:U):V K 152 #[cv (r5 (n,(.rg lo1 hi1))),cv (r5 (n,(.pr u2)))] w (MF n (fE (.rg lo1 hi1) (.pr u2)) w):=by
 have R:=D (show fE (.rg lo1 hi1) (.pr u2)=none from rfl);rw [R.out];clear R;simp only [r5,kN,jG,jH,kT];have B:=D (rC w n 1 lo1 hi1 ⟨#[]⟩ n 3 0 0 u2);go_enter au,aj;go_wp2;exact bodyPost_ret (v:=.tuple #[cv (n,1,lo1,hi1,⟨#[]⟩),Q aA]) (by simp [results,Y,go_sem]) rfl (EK (n,1,lo1,hi1,⟨#[]⟩) (by first | exact B.out.alloc B.out.size _ | exact (((((B.out.alloc B.out.size _).setCell (by simp) _).setCell (by simp) _).setCell (by simp) _).setCell (by simp) _).setCell (by simp) _))
theorem SS (n:ByteArray) (u1:ByteArray) (lo2 hi2:Int) (w:U):V K 152 #[cv (r5 (n,(.tx u1))),cv (r5 (n,(.rg lo2 hi2)))] w (MF n (fE (.tx u1) (.rg lo2 hi2)) w):=by
 have R:=D (show fE (.tx u1) (.rg lo2 hi2)=none from rfl);rw [R.out];clear R;simp only [r5,kN,jG,jH,kT];have B:=D (rC w n 2 0 0 u1 n 1 lo2 hi2 ⟨#[]⟩);go_enter au,aj;go_wp2;exact bodyPost_ret (v:=.tuple #[cv (n,2,0,0,u1),Q aA]) (by simp [results,Y,go_sem]) rfl (EK (n,2,0,0,u1) (by first | exact B.out.alloc B.out.size _ | exact (((((B.out.alloc B.out.size _).setCell (by simp) _).setCell (by simp) _).setCell (by simp) _).setCell (by simp) _).setCell (by simp) _))
theorem SV (n:ByteArray) (u1:ByteArray) (lo2 hi2:Int) (w:U):V K 152 #[cv (r5 (n,(.pr u1))),cv (r5 (n,(.rg lo2 hi2)))] w (MF n (fE (.pr u1) (.rg lo2 hi2)) w):=by
 have R:=D (show fE (.pr u1) (.rg lo2 hi2)=none from rfl);rw [R.out];clear R;simp only [r5,kN,jG,jH,kT];have B:=D (rC w n 3 0 0 u1 n 1 lo2 hi2 ⟨#[]⟩);go_enter au,aj;go_wp2;exact bodyPost_ret (v:=.tuple #[cv (n,3,0,0,u1),Q aA]) (by simp [results,Y,go_sem]) rfl (EK (n,3,0,0,u1) (by first | exact B.out.alloc B.out.size _ | exact (((((B.out.alloc B.out.size _).setCell (by simp) _).setCell (by simp) _).setCell (by simp) _).setCell (by simp) _).setCell (by simp) _))
end Go.Proofs.YtmklifheakemeaaGreat.Rl
