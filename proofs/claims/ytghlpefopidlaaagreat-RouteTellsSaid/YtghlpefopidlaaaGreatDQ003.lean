/-
  Holds of package pre. Conditions as told.
-/
import Derived.Test.YtghlpefopidlaaaGreatDQ000
import Derived.Lib.Strings
import Derived.BigQuiet
import Derived.BigRegion
import Derived.Deep.RegionWith
set_option maxRecDepth 100000
set_option maxHeartbeats 64000000
open _root_.Array renaming length_toList->U
open _root_.Bool renaming false->aA,true->aN,eq_false_or_eq_true->aQ
open _root_.Go renaming World->Q,cell_regrown->Y,Calls->Z,bodyPost_ret->ah,below_regrown->bg,redrawn->bG
open Go.Ending renaming returned->D
open Go.IntKind renaming i64->aM
open Go.Lib renaming toList_data->aG,hasPrefix_of_take->aV,size_eq->aW,extract_toList->aX,hasPrefix->aZ
open Go.Obj renaming cells->K
open Go.Proofs.Tryz renaming prog->J,ntmps185->aj,func185->ak,ntmps187->ay,func187->aB,results133->aI,results163->aJ,ntmps183->aO,ntmps168->aP,ntmps163->aR,func183->aS,func168->aT,func163->aU,results167->aY,ntmps184->bf,ntmps133->bD,func184->bF,func133->bH
open Go.RowKit renaming Below->aD
open Go.RowKit.Below renaming refl->aK
open Go.Value renaming bool->L,string->V,int->aL
open _root_.Nat renaming le_refl->aF
open _root_.Option renaming none->au,some->aC
open Option.some renaming inj->aH
open Go.Proofs.YtghlpefopidlaaaGreat renaming hq->f
namespace Go.Proofs.YtghlpefopidlaaaGreat
namespace Pr
open Go.RowKit Go.Sort Pu Rw Va
theorem Vl (s p:ByteArray) (w:Q):Z J 201 #[V s,V p] w fun e w'=>e=D (L (pfx p s))/\w'=w:=by
 show Z J _ _ _ fun e w'=>e=D (L (aZ s.data.toList p.data.toList))/\w'=w;rw [<- aV,<- aW,<- aW];go_enter Tryz.func201,Tryz.ntmps201;go_wp2
 ·rename_i h
  go_ret;refine⟨?_,rfl⟩;show D (L ((s.extract 0 p.size).toList == p.toList))=_;rw [aX,aG];simp [h]
 ·rename_i h
  go_ret;refine⟨?_,rfl⟩;show D (L aA)=_;simp [h]
theorem xZ (s p:ByteArray) (w:Q):Z J 196 #[V s,V p] w fun e w'=>e=D (L (pfx p s))/\w'=w:=by
 go_enter Tryz.func196,Tryz.ntmps196;go_wp2_with fail;refine (Vl s p w).mono ?_;rintro e w' ⟨rfl,rfl⟩;go_wp2;go_ret;exact⟨rfl,rfl⟩
theorem adn (s j:ByteArray) (h:s.size=j.size):pfx j s=(s.data.toList == j.data.toList):=by
 have r:j.data.toList.length=s.data.toList.length:=by rw [U,U]; exact h.symm
 rw [Bool.eq_iff_iff,beq_iff_eq,gJ];exact⟨fun q=>(q.eq_of_length r).symm,fun q=>by rw [q]; exact List.prefix_refl _⟩
theorem Yy (s j:ByteArray) (h:¬ s.size=j.size):(s.data.toList == j.data.toList)=aA:=by
 rw [beq_eq_false_iff_ne];intro e;have:=congrArg List.length e;rw [U,U] at this;exact h this
theorem hB (w:Q) (nm:ByteArray) (k lo j:Int) (q:ByteArray) (t:Bool) (n:Int) (s:ByteArray):Below w.heap.size w ((w.alloc (K #[V nm,aL aM k,aL aM lo,aL aM j,V q] 91)).alloc (K #[L t,aL aM n,V s] 173)) :=
 ((aK w.heap.size w).alloc (aF _) _).alloc (by simp) _
theorem Yz (nm:ByteArray) (lo j:Int) (t:Bool) (n:Int) (s:ByteArray) (w:Q):Z J 187 #[cv (r5 (nm,.rg lo j)),vl t n s] w fun e w'=>e=D (L (eZ (.rg lo j) (t,n,s)))/\Below w.heap.size w w':=by
 simp only [r5,kN,kS,kU,kT];have R:=f (show eZ (.rg lo j) (t,n,s)=(!t && (decide (lo<=n) && decide (n<=j))) from rfl);have B:=f (hB w nm 1 lo j ⟨#[]⟩ t n s);generalize eZ (.rg lo j) (t,n,s)=u at *;by_cases r:lo<=n <;> have q:=f r <;> cases t <;> go_enter aB,ay <;> go_wp2 <;> go_ret <;> exact⟨eG (by rw [R.o]; have h:=q.o; simp [h] <;> omega),B.o⟩
theorem YA (nm j:ByteArray) (t:Bool) (n:Int) (s:ByteArray) (w:Q):Z J 187 #[cv (r5 (nm,.tx j)),vl t n s] w fun e w'=>e=D (L (eZ (.tx j) (t,n,s)))/\Below w.heap.size w w':=by
 simp only [r5,kN,kS,kU,kT];have R:=f (show eZ (.tx j) (t,n,s)=(t && (s.data.toList == j.data.toList)) from rfl);have B:=f (hB w nm 2 0 0 j t n s);generalize eZ (.tx j) (t,n,s)=u at *;by_cases q:s.size=j.size
 ·have r:(((s.size:Nat):Int) != ((j.size:Nat):Int))=aA:=by simp [q]
  have E:=f (adn s j q);clear q;cases t
  ·go_enter aB,ay;go_wp2;go_ret;exact⟨eG (by rw [R.o]; simp),B.o⟩
  ·go_enter aB,ay;go_wp2_with fail;refine (xZ s j _).mono ?_;rintro e w' ⟨rfl,rfl⟩;go_wp2;go_ret;exact⟨eG (by rw [R.o,E.o]; simp),B.o⟩
 ·have r:(((s.size:Nat):Int) != ((j.size:Nat):Int))=aN:=by simp; omega
  have E:=f (Yy s j q);clear q;go_enter aB,ay;go_wp2;go_ret;exact⟨eG (by rw [R.o,E.o]; simp),B.o⟩
theorem YC (nm j:ByteArray) (t:Bool) (n:Int) (s:ByteArray) (w:Q):Z J 187 #[cv (r5 (nm,.pr j)),vl t n s] w fun e w'=>e=D (L (eZ (.pr j) (t,n,s)))/\Below w.heap.size w w':=by
 simp only [r5,kN,kS,kU,kT];have R:=f (show eZ (.pr j) (t,n,s)=(t && pfx j s) from rfl);have B:=f (hB w nm 3 0 0 j t n s);generalize eZ (.pr j) (t,n,s)=q at *;cases t
 ·go_enter aB,ay;go_wp2;go_ret;exact⟨eG (by rw [R.o]; simp),B.o⟩
 ·go_enter aB,ay;go_wp2_with fail;refine (xZ s j _).mono ?_;rintro e w' ⟨rfl,rfl⟩;go_wp2;go_ret;exact⟨eG (by rw [R.o]; simp),B.o⟩
theorem Vm (c:Cn) (t:Bool) (n:Int) (s:ByteArray) (w:Q):Z J 187 #[cv (r5 c),vl t n s] w fun e w'=>e=D (L (eZ c.2 (t,n,s)))/\Below w.heap.size w w':=by
 obtain⟨nm,k⟩:=c;cases k with
 | rg lo q=>exact Yz nm lo q t n s w
 | tx j=>exact YA nm j t n s w
 | pr j=>exact YC nm j t n s w
end Pr
namespace Rl
open Go.RowKit Pu Rw Pr Va
theorem rE (s p:ByteArray) (w:Q):Z J 184 #[V s,V p] w fun e w'=>e=D (L (pfx p s))/\w'=w:=by
 show Z J _ _ _ fun e w'=>e=D (L (aZ s.data.toList p.data.toList))/\w'=w;rw [<- aV,<- aW,<- aW];by_cases h:p.size<=s.size
 ·have q:(((s.size:Nat):Int) ≥ ((p.size:Nat):Int)):=by omega
  have j:=f h;go_enter bF,bf;go_wp2
  all_goals (go_ret; refine⟨?_,rfl⟩; show D (L ((s.extract 0 p.size).toList == p.toList))=_; rw [aX,aG]; simp [h])
 ·have j:=f h;go_enter bF,bf;go_wp2
  all_goals (go_ret; refine⟨?_,rfl⟩; show D (L aA)=_; simp [j.o])
theorem rB (w:Q) (nm:ByteArray) (k lo j:Int) (q:ByteArray) (t:Bool) (n:Int) (s:ByteArray):aD w.heap.size w ((w.alloc (K #[V nm,aL aM k,aL aM lo,aL aM j,V q] 91)).alloc (K #[L t,aL aM n,V s] 173)) :=
 ((aK w.heap.size w).alloc (aF _) _).alloc (by simp) _
theorem rC (w:Q) (nm:ByteArray) (k lo j:Int) (G:ByteArray) (F:ByteArray) (r u q:Int) (H:ByteArray):aD w.heap.size w ((w.alloc (K #[V nm,aL aM k,aL aM lo,aL aM j,V G] 91)).alloc (K #[V F,aL aM r,aL aM u,aL aM q,V H] 91)) :=
 ((aK w.heap.size w).alloc (aF _) _).alloc (by simp) _
theorem Vt (nm:ByteArray) (lo j:Int) (t:Bool) (n:Int) (s:ByteArray) (w:Q):Z J 183 #[cv (r5 (nm,.rg lo j)),vl t n s] w fun e w'=>e=D (L (eZ (.rg lo j) (t,n,s)))/\aD w.heap.size w w':=by
 simp only [r5,kN,kS,kU,kT];have R:=f (show eZ (.rg lo j) (t,n,s)=(!t && (decide (lo<=n) && decide (n<=j))) from rfl);have B:=f (rB w nm 1 lo j ⟨#[]⟩ t n s);generalize eZ (.rg lo j) (t,n,s)=u at *;by_cases r:lo<=n <;> have q:=f r <;> cases t <;> go_enter aS,aO <;> go_wp2 <;> go_ret <;> exact⟨eG (by rw [R.o]; have h:=q.o; simp [h] <;> omega),B.o⟩
theorem Vu (nm j:ByteArray) (t:Bool) (n:Int) (s:ByteArray) (w:Q):Z J 183 #[cv (r5 (nm,.tx j)),vl t n s] w fun e w'=>e=D (L (eZ (.tx j) (t,n,s)))/\aD w.heap.size w w':=by
 simp only [r5,kN,kS,kU,kT];have R:=f (show eZ (.tx j) (t,n,s)=(t && (s.data.toList == j.data.toList)) from rfl);have B:=f (rB w nm 2 0 0 j t n s);generalize eZ (.tx j) (t,n,s)=q at *;cases t <;> go_enter aS,aO <;> go_wp2 <;> go_ret <;> exact⟨eG (by rw [R.o]; simp [aG]),B.o⟩
theorem Vv (nm j:ByteArray) (t:Bool) (n:Int) (s:ByteArray) (w:Q):Z J 183 #[cv (r5 (nm,.pr j)),vl t n s] w fun e w'=>e=D (L (eZ (.pr j) (t,n,s)))/\aD w.heap.size w w':=by
 simp only [r5,kN,kS,kU,kT];have R:=f (show eZ (.pr j) (t,n,s)=(t && pfx j s) from rfl);have B:=f (rB w nm 3 0 0 j t n s);generalize eZ (.pr j) (t,n,s)=q at *;cases t
 ·go_enter aS,aO;go_wp2;go_ret;exact⟨eG (by rw [R.o]; simp),B.o⟩
 ·go_enter aS,aO;go_wp2_with fail;refine (rE s j _).mono ?_;rintro e w' ⟨rfl,rfl⟩;go_wp2;go_ret;exact⟨eG (by rw [R.o]; simp),B.o⟩
theorem yN (c:Cn) (t:Bool) (n:Int) (s:ByteArray) (w:Q):Z J 183 #[cv (r5 c),vl t n s] w fun e w'=>e=D (L (eZ c.2 (t,n,s)))/\aD w.heap.size w w':=by
 obtain⟨nm,k⟩:=c;cases k with
 | rg lo q=>exact Vt nm lo q t n s w
 | tx j=>exact Vu nm j t n s w
 | pr j=>exact Vv nm j t n s w
theorem ais (F G:ByteArray) (j r:Int) (q u:Int) (w:Q):Z J 185 #[cv (r5 (F,(.rg j r))),cv (r5 (G,(.rg q u)))] w fun e w'=>e=D (L (fD (.rg j r) (.rg q u)))/\aD w.heap.size w w':=by
 simp only [r5,kN,kS,kU,kT];have B:=f (rC w F 1 j r ⟨#[]⟩ G 1 q u ⟨#[]⟩);have R:=f (show fD (.rg j r) (.rg q u)=(decide (q<=j) && decide (r<=u)) from rfl);generalize fD (.rg j r) (.rg q u)=M at *;by_cases I:q<=j <;> have H:=f I <;> go_enter ak,aj <;> go_wp2 <;> go_ret <;> exact⟨eG (by rw [R.o]; have h:=H.o; simp [h] <;> omega),B.o⟩
theorem ait (r u:ByteArray) (q j:Int) (u2:ByteArray) (w:Q):Z J 185 #[cv (r5 (r,(.rg q j))),cv (r5 (u,(.tx u2)))] w fun e w'=>e=D (L (fD (.rg q j) (.tx u2)))/\aD w.heap.size w w':=by
 simp only [r5,kN,kS,kU,kT];have B:=f (rC w r 1 q j ⟨#[]⟩ u 2 0 0 u2);have R:=f (show fD (.rg q j) (.tx u2)=(aA) from rfl);generalize fD (.rg q j) (.tx u2)=F at *;go_enter ak,aj <;> go_wp2 <;> go_ret <;> exact⟨eG (by rw [R.o]),B.o⟩
theorem aiu (r u:ByteArray) (q j:Int) (u2:ByteArray) (w:Q):Z J 185 #[cv (r5 (r,(.rg q j))),cv (r5 (u,(.pr u2)))] w fun e w'=>e=D (L (fD (.rg q j) (.pr u2)))/\aD w.heap.size w w':=by
 simp only [r5,kN,kS,kU,kT];have B:=f (rC w r 1 q j ⟨#[]⟩ u 3 0 0 u2);have R:=f (show fD (.rg q j) (.pr u2)=(aA) from rfl);generalize fD (.rg q j) (.pr u2)=F at *;go_enter ak,aj <;> go_wp2 <;> go_ret <;> exact⟨eG (by rw [R.o]),B.o⟩
theorem aiv (u F:ByteArray) (r:ByteArray) (q j:Int) (w:Q):Z J 185 #[cv (r5 (u,(.tx r))),cv (r5 (F,(.rg q j)))] w fun e w'=>e=D (L (fD (.tx r) (.rg q j)))/\aD w.heap.size w w':=by
 simp only [r5,kN,kS,kU,kT];have B:=f (rC w u 2 0 0 r F 1 q j ⟨#[]⟩);have R:=f (show fD (.tx r) (.rg q j)=(aA) from rfl);generalize fD (.tx r) (.rg q j)=G at *;go_enter ak,aj <;> go_wp2 <;> go_ret <;> exact⟨eG (by rw [R.o]),B.o⟩
theorem aiw (q r:ByteArray) (j:ByteArray) (u2:ByteArray) (w:Q):Z J 185 #[cv (r5 (q,(.tx j))),cv (r5 (r,(.tx u2)))] w fun e w'=>e=D (L (fD (.tx j) (.tx u2)))/\aD w.heap.size w w':=by
 simp only [r5,kN,kS,kU,kT];have B:=f (rC w q 2 0 0 j r 2 0 0 u2);have R:=f (show fD (.tx j) (.tx u2)=(j.data.toList == u2.data.toList) from rfl);generalize fD (.tx j) (.tx u2)=u at *;go_enter ak,aj <;> go_wp2 <;> go_ret <;> exact⟨eG (by rw [R.o]; simp [aG]),B.o⟩
theorem aix (q r:ByteArray) (j:ByteArray) (u2:ByteArray) (w:Q):Z J 185 #[cv (r5 (q,(.tx j))),cv (r5 (r,(.pr u2)))] w fun e w'=>e=D (L (fD (.tx j) (.pr u2)))/\aD w.heap.size w w':=by
 simp only [r5,kN,kS,kU,kT];have B:=f (rC w q 2 0 0 j r 3 0 0 u2);have R:=f (show fD (.tx j) (.pr u2)=(pfx u2 j) from rfl);generalize fD (.tx j) (.pr u2)=u at *;go_enter ak,aj;go_wp2_with fail;refine (rE j u2 _).mono ?_;rintro e w' ⟨rfl,rfl⟩;go_wp2;go_ret;exact⟨eG (by rw [R.o]),B.o⟩
theorem aiy (u F:ByteArray) (r:ByteArray) (q j:Int) (w:Q):Z J 185 #[cv (r5 (u,(.pr r))),cv (r5 (F,(.rg q j)))] w fun e w'=>e=D (L (fD (.pr r) (.rg q j)))/\aD w.heap.size w w':=by
 simp only [r5,kN,kS,kU,kT];have B:=f (rC w u 3 0 0 r F 1 q j ⟨#[]⟩);have R:=f (show fD (.pr r) (.rg q j)=(aA) from rfl);generalize fD (.pr r) (.rg q j)=G at *;go_enter ak,aj <;> go_wp2 <;> go_ret <;> exact⟨eG (by rw [R.o]),B.o⟩
theorem aiz (q r:ByteArray) (j:ByteArray) (u2:ByteArray) (w:Q):Z J 185 #[cv (r5 (q,(.pr j))),cv (r5 (r,(.tx u2)))] w fun e w'=>e=D (L (fD (.pr j) (.tx u2)))/\aD w.heap.size w w':=by
 simp only [r5,kN,kS,kU,kT];have B:=f (rC w q 3 0 0 j r 2 0 0 u2);have R:=f (show fD (.pr j) (.tx u2)=(aA) from rfl);generalize fD (.pr j) (.tx u2)=u at *;go_enter ak,aj <;> go_wp2 <;> go_ret <;> exact⟨eG (by rw [R.o]),B.o⟩
theorem aiA (q r:ByteArray) (j:ByteArray) (u2:ByteArray) (w:Q):Z J 185 #[cv (r5 (q,(.pr j))),cv (r5 (r,(.pr u2)))] w fun e w'=>e=D (L (fD (.pr j) (.pr u2)))/\aD w.heap.size w w':=by
 simp only [r5,kN,kS,kU,kT];have B:=f (rC w q 3 0 0 j r 3 0 0 u2);have R:=f (show fD (.pr j) (.pr u2)=(pfx u2 j) from rfl);generalize fD (.pr j) (.pr u2)=u at *;go_enter ak,aj;go_wp2_with fail;refine (rE j u2 _).mono ?_;rintro e w' ⟨rfl,rfl⟩;go_wp2;go_ret;exact⟨eG (by rw [R.o]),B.o⟩
theorem Nl (c d:Cn) (w:Q):Z J 185 #[cv (r5 c),cv (r5 d)] w fun e w'=>e=D (L (fD c.2 d.2))/\aD w.heap.size w w':=by
 obtain⟨r,j⟩:=c;obtain⟨u,q⟩:=d;cases j <;> cases q
 ·exact ais _ _ _ _ _ _ _
 ·exact ait _ _ _ _ _ _
 ·exact aiu _ _ _ _ _ _
 ·exact aiv _ _ _ _ _ _
 ·exact aiw _ _ _ _ _
 ·exact aix _ _ _ _ _
 ·exact aiy _ _ _ _ _ _
 ·exact aiz _ _ _ _ _
 ·exact aiA _ _ _ _ _
end Rl
namespace Pr
open Go.RowKit Go.Sort Pu Rw Va
theorem Vn (s:ByteArray) (w:Q) :
  Z J 188 #[V s] w fun e w'=>e=D (vl aN 0 s)/\Below w.heap.size w w':=by
 go_enter Tryz.func188,Tryz.ntmps188;go_wp2;exact ah (v:=vl aN 0 s) (by simp [results,Tryz.results188,go_sem]) rfl ⟨rfl,(aK _ _).alloc (aF _) _⟩
theorem Ni (s:ByteArray) (w:Q) (d:Nat) (os:Array Obj) :
  Z J 188 #[V s] (grow (bG w d) os) fun e j=>e=D (vl aN 0 s)/\∃ p:Regrown,j=grow (bG w p.d) p.os :=
 Calls.regrown_of (Vn _ _)
theorem Jb (c:Cn) (s:ByteArray) (j:Bool) (q:eZ c.2 (aN,0,s)=j) (w:Q) (d:Nat) (os:Array Obj) :
  Z J 187 #[cv (r5 c),vl aN 0 s] (grow (bG w d) os) fun e r=>e=D (L j)/\∃ p:Regrown,r=grow (bG w p.d) p.os:=by
 subst q;exact Calls.regrown_of (Vm _ _ _ _ _)
def jO:Kd->Kd->Bool
 | .pr s,.pr t=>pfx t s
 | .tx s,k=>eZ k (aN,0,s)
 | _,_=>aA
theorem YD (w:Q) (c d:C5):dN ((w.alloc (K (cells5 c).toArray 91)).alloc (K (cells5 d).toArray 91)) w.heap.size (cells5 c).toArray 91/\dN ((w.alloc (K (cells5 c).toArray 91)).alloc (K (cells5 d).toArray 91)) (w.heap.size+1) (cells5 d).toArray 91/\Below w.heap.size w ((w.alloc (K (cells5 c).toArray 91)).alloc (K (cells5 d).toArray 91)):=by
 refine⟨(dR w _ _).more _,?_,((aK w.heap.size w).alloc (aF _) _).alloc (by simp) _⟩;have h:=dR (w.alloc (K (cells5 c).toArray 91)) (cells5 d).toArray 91
 rwa [show (w.alloc (K (cells5 c).toArray 91)).heap.size=w.heap.size+1 by simp] at h
theorem Vo (F q:ByteArray) (s:ByteArray) (j:Kd) (w:Q):Z J 168 #[cv (r5 (F,.tx s)),cv (r5 (q,j))] w fun e w'=>e=D (L (jO (.tx s) j))/\Below w.heap.size w w':=by
 obtain⟨G,I,M⟩:=YD w (r5 (F,.tx s)) (r5 (q,j));have N:=f G;have u:=f I;have B:=f M;have H:=Jb (q,j) s _ rfl;have C:=Ni s;have R:=f (show jO (.tx s) j=eZ j (aN,0,s) from rfl);generalize jO (.tx s) j=r at *;simp only [r5] at H ⊢;clear G I M;go_enter aT,aP;go_wp2;have a1:=f H;have T:=f C;clear H C;change Code.wp _ _ _ _ ((w.alloc (K (cells5 (r5 (F,.tx s))).toArray 91)).alloc (K (cells5 (r5 (q,j))).toArray 91));generalize (w.alloc (K (cells5 (r5 (F,.tx s))).toArray 91)).alloc (K (cells5 (r5 (q,j))).toArray 91)=W at *;have a4:=Y (show W.cell? ⟨w.heap.size,4,au⟩=aC (V s) from N.o.cell 4);have b0:=Y (show W.cell? ⟨w.heap.size+1,0,au⟩=aC (V q) from u.o.cell 0);have a2:=Y (show W.cell? ⟨w.heap.size+1,1,au⟩=aC (aL aM (kN j)) from u.o.cell 1);have a6:=Y (show W.cell? ⟨w.heap.size+1,2,au⟩=aC (aL aM (kS j)) from u.o.cell 2);have b3:=Y (show W.cell? ⟨w.heap.size+1,3,au⟩=aC (aL aM (kU j)) from u.o.cell 3);have a7:=Y (show W.cell? ⟨w.heap.size+1,4,au⟩=aC (V (kT j)) from u.o.cell 4);refine ko ?_
 repeat (go_big_quiet_step (first | (with_reducible exact T.o _ _ _) | (with_reducible exact a1.o _ _ _)))
 refine kr fun a8 aE=>?_;have S:=f (B.o.trans ((bg W a8 aE).mono B.o.size));clear a4 b0 a2 a6 b3 a7;go_wp2;go_ret;exact⟨eG R.o.symm,S.o⟩
theorem Vp (u j:ByteArray) (s:ByteArray) (t:ByteArray) (w:Q):Z J 168 #[cv (r5 (u,.pr s)),cv (r5 (j,.pr t))] w fun e w'=>e=D (L (jO (.pr s) (.pr t)))/\Below w.heap.size w w':=by
 obtain⟨F,G,I⟩:=YD w (r5 (u,.pr s)) (r5 (j,.pr t));have M:=f F;have q:=f G;have B:=f I;have H:=Jb (j,.pr t) s _ rfl;have C:=Ni s;have R:=f (show jO (.pr s) (.pr t)=eZ (.pr t) (aN,0,s) by simp only [jO,eZ,Bool.true_and]);generalize jO (.pr s) (.pr t)=r at *;simp only [r5] at H ⊢;clear F G I;go_enter aT,aP;go_wp2;have T:=f H;have S:=f C;clear H C;change Code.wp _ _ _ _ ((w.alloc (K (cells5 (r5 (u,.pr s))).toArray 91)).alloc (K (cells5 (r5 (j,.pr t))).toArray 91));generalize (w.alloc (K (cells5 (r5 (u,.pr s))).toArray 91)).alloc (K (cells5 (r5 (j,.pr t))).toArray 91)=W at *;have a4:=Y (show W.cell? ⟨w.heap.size,4,au⟩=aC (V s) from M.o.cell 4);have b0:=Y (show W.cell? ⟨w.heap.size+1,0,au⟩=aC (V j) from q.o.cell 0);have a1:=Y (show W.cell? ⟨w.heap.size+1,1,au⟩=aC (aL aM (kN (.pr t))) from q.o.cell 1);have a2:=Y (show W.cell? ⟨w.heap.size+1,2,au⟩=aC (aL aM (kS (.pr t))) from q.o.cell 2);have b3:=Y (show W.cell? ⟨w.heap.size+1,3,au⟩=aC (aL aM (kU (.pr t))) from q.o.cell 3);have a6:=Y (show W.cell? ⟨w.heap.size+1,4,au⟩=aC (V (kT (.pr t))) from q.o.cell 4);refine ko ?_
 repeat (go_big_quiet_step (first | (with_reducible exact S.o _ _ _) | (with_reducible exact T.o _ _ _)))
 refine kr fun a7 a8=>?_;have N:=f (B.o.trans ((bg W a7 a8).mono B.o.size));clear a4 b0 a1 a2 b3 a6;go_wp2;go_ret;exact⟨eG R.o.symm,N.o⟩
theorem AA (u F:ByteArray) (q j:Kd) (w:Q) (h:(∃ lo r,q=.rg lo r)\/(∃ s,q=.pr s)/\¬ ∃ t,j=.pr t):Z J 168 #[cv (r5 (u,q)),cv (r5 (F,j))] w fun e w'=>e=D (L (jO q j))/\Below w.heap.size w w':=by
 have B:=f (YD w (r5 (u,q)) (r5 (F,j))).2.2;rcases h with⟨lo,r,rfl⟩|⟨⟨s,rfl⟩,h⟩
 ·have R:=f (show jO (.rg lo r) j=aA from rfl);generalize jO (.rg lo r) j=G at *;simp only [r5];go_enter aT,aP;go_wp2;go_ret;exact⟨eG R.o.symm,B.o⟩
 ·have R:=f (show jO (.pr s) j=aA by
   cases j with
   | pr t=>exact absurd ⟨t,rfl⟩ h
   | _=>rfl)
  have e:((kN j) != (3:Int))=aN:=by
   cases j with
   | pr t=>exact absurd ⟨t,rfl⟩ h
   | _=>rfl
  generalize jO (.pr s) j=G at *;clear h;simp only [r5];go_enter aT,aP;go_wp2;go_ret;exact⟨eG R.o.symm,B.o⟩
theorem E5 (a b:Cn) (w:Q):Z J 168 #[cv (r5 a),cv (r5 b)] w fun e w'=>e=D (L (jO a.2 b.2))/\Below w.heap.size w w':=by
 obtain⟨j,F⟩:=a;obtain⟨q,r⟩:=b;cases F with
 | rg lo u=>exact AA j q _ r w (Or.inl ⟨lo,u,rfl⟩)
 | tx s=>exact Vo j q s r w
 | pr s =>
  cases r with
  | pr t=>exact Vp j q s t w
  | rg lo u=>exact AA j q _ _ w (Or.inr ⟨⟨s,rfl⟩,by rintro⟨t,h⟩; cases h⟩)
  | tx t=>exact AA j q _ _ w (Or.inr ⟨⟨s,rfl⟩,by rintro⟨G,h⟩; cases h⟩)
def SQ (n:ByteArray) (j:Option Kd) (w:Q) (e:Ending) (w':Q):Prop:=(∃ x,e=D (.tuple #[cv x,L j.isSome])/\∀ k,j=aC k->x=r5 (n,k))/\Below w.heap.size w w'
theorem b3 (w:Q) (o p j:Obj):Below w.heap.size w (((w.alloc o).alloc p).alloc j):=(((aK w.heap.size w).alloc (aF _) _).alloc (by simp) _).alloc (by simp; omega) _
theorem Nj (F N:ByteArray) (a b c d:Int) (w:Q):Z J 167 #[cv (F,1,a,b,⟨#[]⟩),cv (N,1,c,d,⟨#[]⟩)] w (SQ F (fI (.rg a b) (.rg c d)) w):=by
 have R:=f (show fI (.rg a b) (.rg c d)=if max a c<=min b d then aC (.rg (max a c) (min b d)) else au from rfl);generalize fI (.rg a b) (.rg c d)=I at *;go_enter Tryz.func167,Tryz.ntmps167;go_wp2_with fail
 go_region
 have G:(if a<c then c else a)=max a c:=by split <;> omega
 have H:(if d<b then d else b)=min b d:=by split <;> omega
 try rw [G]
 try rw [H]
 clear G H;generalize max a c=j at R ⊢;generalize min b d=q at R ⊢;by_cases h:j<=q
 ·have M:¬ q<j:=by omega
  have r:=f (show I=aC (.rg j q) by rw [R.o,if_pos h]);clear h;go_wp2;refine ah (v:=.tuple #[cv (F,1,j,q,⟨#[]⟩),L aN]) (by simp [results,aY,go_sem]) rfl ?_;refine⟨⟨(F,1,j,q,⟨#[]⟩),by rw [r.o]; rfl,fun k u=>?_⟩,(b3 w _ _ _).drew⟩;rw [r.o] at u;rw [<- aH u]
  rfl
 ·have M:q<j:=by omega
  have r:=f (show I=au by rw [R.o,if_neg h]);clear h;go_wp2;refine ah (v:=.tuple #[cv (⟨#[]⟩,0,0,0,⟨#[]⟩),L aA]) (by simp [results,aY,go_sem]) rfl ?_;refine⟨⟨(⟨#[]⟩,0,0,0,⟨#[]⟩),by rw [r.o]; rfl,fun k u=>?_⟩,(b3 w _ _ _).drew⟩;rw [r.o] at u;cases u
theorem Ed (a b:Kd):fI a b=(match a,b with
 | .rg p r,.rg u t=>if max p u<=min r t then aC (.rg (max p u) (min r t)) else au
 | a,b=>if jO a b then aC a else if jO b a then aC b else au):=by
 cases a <;> cases b <;> simp [fI,jO,eZ]
 ·rename_i s t
  by_cases h:s.data=t.data
  ·rw [if_pos h,if_pos h]
  ·rw [if_neg h,if_neg h,if_neg (fun e=>h e.symm)]
 ·rename_i s t
  by_cases j:pfx s t=aN <;> by_cases q:pfx t s=aN <;> simp [j,q];have F:=(gJ _ _).1 j;have G:=(gJ _ _).1 q;rw [sV (G.eq_of_length_le F.length_le)]
theorem Ny (w:Q) (c d z:C5):dN (((w.alloc (K (cells5 c).toArray 91)).alloc (K (cells5 d).toArray 91)).alloc (K (cells5 z).toArray 91)) w.heap.size (cells5 c).toArray 91/\dN (((w.alloc (K (cells5 c).toArray 91)).alloc (K (cells5 d).toArray 91)).alloc (K (cells5 z).toArray 91)) (w.heap.size+1) (cells5 d).toArray 91/\dN (((w.alloc (K (cells5 c).toArray 91)).alloc (K (cells5 d).toArray 91)).alloc (K (cells5 z).toArray 91)) (w.heap.size+1+1) (cells5 z).toArray 91/\Below w.heap.size w (((w.alloc (K (cells5 c).toArray 91)).alloc (K (cells5 d).toArray 91)).alloc (K (cells5 z).toArray 91)):=by
 obtain⟨q,r,j⟩:=YD w c d;refine⟨q.more _,r.more _,?_,j.alloc j.size _⟩;have h:=dR ((w.alloc (K (cells5 c).toArray 91)).alloc (K (cells5 d).toArray 91)) (cells5 z).toArray 91
 rwa [show ((w.alloc (K (cells5 c).toArray 91)).alloc (K (cells5 d).toArray 91)).heap.size=w.heap.size+1+1 by simp] at h
theorem fF {W:Q} {b:Nat} {c:C5} (h:dN W b (cells5 c).toArray 91):W.cell? ⟨b,0,au⟩=aC (V c.1)/\W.cell? ⟨b,1,au⟩=aC (aL aM c.2.1)/\W.cell? ⟨b,2,au⟩=aC (aL aM c.2.2.1)/\W.cell? ⟨b,3,au⟩=aC (aL aM c.2.2.2.1)/\W.cell? ⟨b,4,au⟩=aC (V c.2.2.2.2):=⟨h.cell 0,h.cell 1,h.cell 2,h.cell 3,h.cell 4⟩
theorem jc {B:Nat} {W w:Q} (h:Below B W w) (g:Nat) (hB:B<=g) (v0 j q v3 v4:Value):Below B W (((((w.setCell ⟨g,0,au⟩ v0).setCell ⟨g,1,au⟩ j).setCell ⟨g,2,au⟩ q).setCell ⟨g,3,au⟩ v3).setCell ⟨g,4,au⟩ v4) :=
 ((((h.setCell hB _).setCell hB _).setCell hB _).setCell hB _).setCell hB _
theorem adw (j q:ByteArray) (a b c d:Int) (w:Q):Z J 133 #[cv (r5 (j,.rg a b)),cv (r5 (q,.rg c d))] w (SQ j (fI (.rg a b) (.rg c d)) w):=by
 obtain⟨H,I,bz,M⟩:=Ny w (r5 (j,.rg a b)) (r5 (q,.rg c d)) (⟨#[]⟩,0,0,0,⟨#[]⟩);have B:=f M;have a2:=f H;have a6:=f I;have F:=f bz;have O:=f (Nj j q a b c d (((w.alloc (K (cells5 (r5 (j,.rg a b))).toArray 91)).alloc (K (cells5 (r5 (q,.rg c d))).toArray 91)).alloc (K (cells5 (⟨#[]⟩,0,0,0,⟨#[]⟩)).toArray 91)));generalize fI (.rg a b) (.rg c d)=r at *;clear H I bz M;simp only [r5,kN,kS,kU,kT];go_enter bH,bD;go_wp2_with fail;refine O.o.mono ?_;rintro e a7 ⟨⟨x,rfl,N⟩,u⟩;have a1:=f (B.o.trans (u.mono B.o.size));have G:=f (F.o.on u);have X:=f N;obtain⟨z0,S,T,z3,z4⟩:=fF G.o;have a8:=fun k=>G.o.fr k;simp only at z0 S T z3 z4;clear N u O B a2 a6 F;go_wp2;refine ah (v:=.tuple #[cv x,L r.isSome]) (by simp [results,aI,go_sem,z0,S,T,z3,z4]) rfl ?_;exact⟨⟨x,rfl,X.o⟩,jc a1.o (w.heap.size+1+1) (by omega) _ _ _ _ _⟩
theorem uP (F H:ByteArray) (q u:Kd) (w:Q) (c9:(kN q=1/\kN u≠1)\/kN q≠1) (c8:F=H) (r:Option Kd) (bB:r=if jO q u then aC q else if jO u q then aC u else au):Z J 133 #[cv (r5 (F,q)),cv (r5 (H,u))] w (SQ F r w):=by
 obtain⟨bT,bW,bz,c7⟩:=Ny w (r5 (F,q)) (r5 (H,u)) (⟨#[]⟩,0,0,0,⟨#[]⟩);have B:=f c7;have bE:=f bT;have bI:=f bW;have bM:=f bz;have b4:=f (E5 (F,q) (H,u) (((w.alloc (K (cells5 (r5 (F,q))).toArray 91)).alloc (K (cells5 (r5 (H,u))).toArray 91)).alloc (K (cells5 (⟨#[]⟩,0,0,0,⟨#[]⟩)).toArray 91)));have b5:=f (fun W=>E5 (H,u) (F,q) W);obtain⟨cG,b9⟩:∃ i,jO q u=i:=⟨_,rfl⟩;obtain⟨cH,bA⟩:∃ i,jO u q=i:=⟨_,rfl⟩;simp only [b9] at b4;simp only [bA] at b5;rw [b9,bA] at bB;have a6:=f bB;have cD:=f c8;obtain⟨cA,cF⟩:∃ j,(kN q == (1:Int))=j:=⟨_,rfl⟩;have c6:cA=aN->(kN u == (1:Int))=aA:=fun e=>by
  subst e;rcases c9 with⟨_,h⟩|h
  ·exact beq_eq_false_iff_ne.2 h
  ·exact absurd (beq_iff_eq.1 cF) h
 have bO:=f c6;clear bT bW bz c7 b9 bA c8 c9 c6 bB;simp only [r5] at b4 b5 ⊢;cases cA
 all_goals try have cL:=bO.o rfl
 all_goals
  clear bO;go_enter bH,bD;go_wp2_with fail;refine b4.o.mono ?_;rintro e cI ⟨rfl,aE⟩;have b1:=f (B.o.trans (aE.mono B.o.size));have b6:=f (bM.o.on aE);have b8:=f (bE.o.on aE);have b2:=f (bI.o.on aE);obtain⟨a0,a7,a8,a3,a4⟩:=fF b8.o;obtain⟨I,M,N,S,T⟩:=fF b2.o;obtain⟨z0,a1,a2,z3,z4⟩:=fF b6.o;have bX:=fun k=>b6.o.fr k;simp only [r5] at a0 a7 a8 a3 a4 I M N S T;simp only at z0 a1 a2 z3 z4;clear aE B bE bI bM b4;rcases aQ cG with rfl|rfl
  ·go_wp2;refine ah (v:=.tuple #[cv (r5 (F,q)),L aN]) (by simp [results,aI,go_sem,z0,a1,a2,z3,z4,r5]) rfl ?_;exact⟨⟨r5 (F,q),by rw [a6.o]; rfl,fun k G=>by rw [a6.o] at G; rw [<- aH G]⟩,jc b1.o (w.heap.size+1+1) (by omega) _ _ _ _ _⟩
  ·clear a0 a7 a8 a3 a4 I M N S T;obtain⟨a0,a7,a8,a3,a4⟩:=fF b8.o;obtain⟨I,M,N,S,T⟩:=fF b2.o;simp only [r5] at a0 a7 a8 a3 a4 I M N S T;go_wp2_with fail;refine (b5.o _).mono ?_;rintro e cJ ⟨rfl,b7⟩;have bC:=f (b1.o.trans (b7.mono b1.o.size));have bP:=f (b6.o.on b7);have cC:=f (b2.o.on b7);clear a0 a7 a8 a3 a4 I M N S T z0 a1 a2 z3 z4 bX;obtain⟨I,M,N,S,T⟩:=fF cC.o;obtain⟨z0,a1,a2,z3,z4⟩:=fF bP.o;have bX:=fun k=>bP.o.fr k;simp only [r5] at I M N S T;simp only at z0 a1 a2 z3 z4;clear b7 b1 b5 b8 b2 b6;rcases aQ cH with rfl|rfl
   ·go_wp2;refine ah (v:=.tuple #[cv (r5 (H,u)),L aN]) (by simp [results,aI,go_sem,z0,a1,a2,z3,z4,r5]) rfl ?_;exact⟨⟨r5 (H,u),by rw [a6.o]; rfl,fun k G=>by rw [a6.o] at G; rw [cD.o,<- aH G]⟩,jc bC.o (w.heap.size+1+1) (by omega) _ _ _ _ _⟩
   ·go_wp2;refine ah (v:=.tuple #[cv ((⟨#[]⟩,0,0,0,⟨#[]⟩)),L aA]) (by simp [results,aI,go_sem,z0,a1,a2,z3,z4]) rfl ?_;exact⟨⟨(⟨#[]⟩,0,0,0,⟨#[]⟩),by rw [a6.o]; rfl,fun k G=>by rw [a6.o] at G; cases G⟩,jc bC.o (w.heap.size+1+1) (by omega) _ _ _ _ _⟩
theorem Nz (a b:Cn) (w:Q) (r:a.1=b.1):Z J 133 #[cv (r5 a),cv (r5 b)] w (SQ a.1 (fI a.2 b.2) w):=by
 obtain⟨j,u⟩:=a;obtain⟨q,F⟩:=b;cases u with
 | rg p G =>
  cases F with
  | rg H t=>exact adw j q p G H t w
  | tx t=>exact uP j q _ _ w (Or.inl ⟨rfl,by simp [kN]⟩) r _ (Ed _ _)
  | pr t=>exact uP j q _ _ w (Or.inl ⟨rfl,by simp [kN]⟩) r _ (Ed _ _)
 | tx s=>exact uP j q _ _ w (Or.inr (by simp [kN])) r _ (Ed _ _)
 | pr s=>exact uP j q _ _ w (Or.inr (by simp [kN])) r _ (Ed _ _)
end Pr
namespace Rl
open Go.RowKit Pu Rw Pr Va
def S9 (n:ByteArray) (j:Option Kd) (w:Q) (e:Ending) (w':Q):Prop:=(∃ c,e=D (.tuple #[cv c,L j.isSome])/\∀ k,j=aC k->c=r5 (n,k))/\aD w.heap.size w w'
theorem La {n:ByteArray} {w w':Q} (c:C5) (h:aD w.heap.size w w'):S9 n au w (D (.tuple #[cv c,L aA])) w':=⟨⟨c,rfl,fun _ h=>by cases h⟩,h⟩
theorem aiB {n:ByteArray} {w w':Q} (b:Bool) (k:Kd) (h:aD w.heap.size w w'):S9 n (if b=aN then aC k else au) w (D (.tuple #[cv (r5 (n,k)),L b])) w':=by
 cases b
 ·exact⟨⟨_,rfl,fun _ h=>by cases h⟩,h⟩
 ·exact⟨⟨_,rfl,fun _ h=>by rw [<- aH h]⟩,h⟩
theorem YK (n:ByteArray) (q j:Int) (u2:ByteArray) (w:Q):Z J 163 #[cv (r5 (n,(.rg q j))),cv (r5 (n,(.tx u2)))] w (S9 n (fI (.rg q j) (.tx u2)) w):=by
 have R:=f (show fI (.rg q j) (.tx u2)=au from rfl);rw [R.o];clear R;simp only [r5,kN,kS,kU,kT];have B:=f (rC w n 1 q j ⟨#[]⟩ n 2 0 0 u2);go_enter aU,aR;go_wp2;exact ah (v:=.tuple #[cv (n,1,q,j,⟨#[]⟩),L aA]) (by simp [results,aJ,go_sem]) rfl (La (n,1,q,j,⟨#[]⟩) (by first | exact B.o.alloc B.o.size _ | exact (((((B.o.alloc B.o.size _).setCell (by simp) _).setCell (by simp) _).setCell (by simp) _).setCell (by simp) _).setCell (by simp) _))
theorem YL (n:ByteArray) (q j:Int) (u2:ByteArray) (w:Q):Z J 163 #[cv (r5 (n,(.rg q j))),cv (r5 (n,(.pr u2)))] w (S9 n (fI (.rg q j) (.pr u2)) w):=by
 have R:=f (show fI (.rg q j) (.pr u2)=au from rfl);rw [R.o];clear R;simp only [r5,kN,kS,kU,kT];have B:=f (rC w n 1 q j ⟨#[]⟩ n 3 0 0 u2);go_enter aU,aR;go_wp2;exact ah (v:=.tuple #[cv (n,1,q,j,⟨#[]⟩),L aA]) (by simp [results,aJ,go_sem]) rfl (La (n,1,q,j,⟨#[]⟩) (by first | exact B.o.alloc B.o.size _ | exact (((((B.o.alloc B.o.size _).setCell (by simp) _).setCell (by simp) _).setCell (by simp) _).setCell (by simp) _).setCell (by simp) _))
theorem YM (n:ByteArray) (j:ByteArray) (r q:Int) (w:Q):Z J 163 #[cv (r5 (n,(.tx j))),cv (r5 (n,(.rg r q)))] w (S9 n (fI (.tx j) (.rg r q)) w):=by
 have R:=f (show fI (.tx j) (.rg r q)=au from rfl);rw [R.o];clear R;simp only [r5,kN,kS,kU,kT];have B:=f (rC w n 2 0 0 j n 1 r q ⟨#[]⟩);go_enter aU,aR;go_wp2;exact ah (v:=.tuple #[cv (n,2,0,0,j),L aA]) (by simp [results,aJ,go_sem]) rfl (La (n,2,0,0,j) (by first | exact B.o.alloc B.o.size _ | exact (((((B.o.alloc B.o.size _).setCell (by simp) _).setCell (by simp) _).setCell (by simp) _).setCell (by simp) _).setCell (by simp) _))
theorem YN (n:ByteArray) (j:ByteArray) (r q:Int) (w:Q):Z J 163 #[cv (r5 (n,(.pr j))),cv (r5 (n,(.rg r q)))] w (S9 n (fI (.pr j) (.rg r q)) w):=by
 have R:=f (show fI (.pr j) (.rg r q)=au from rfl);rw [R.o];clear R;simp only [r5,kN,kS,kU,kT];have B:=f (rC w n 3 0 0 j n 1 r q ⟨#[]⟩);go_enter aU,aR;go_wp2;exact ah (v:=.tuple #[cv (n,3,0,0,j),L aA]) (by simp [results,aJ,go_sem]) rfl (La (n,3,0,0,j) (by first | exact B.o.alloc B.o.size _ | exact (((((B.o.alloc B.o.size _).setCell (by simp) _).setCell (by simp) _).setCell (by simp) _).setCell (by simp) _).setCell (by simp) _))
end Rl
namespace Rl
open Go.RowKit Go.Sort Pu Rw Pr Va
theorem tK {n:ByteArray} {j:Option Kd} {b:Bool} {k:Kd} {w w':Q} {e:Ending} (r:j=if b=aN then aC k else au) (q:e=D (.tuple #[cv (r5 (n,k)),L b])) (h:Below w.heap.size w w'):S9 n j w e w':=by
 subst r q;exact aiB b k h
theorem akx {s t:ByteArray} (h:t.size<=s.size):fI (.pr s) (.pr t)=if pfx t s=aN then aC (.pr s) else au:=by
 simp only [fI];by_cases j:pfx s t=aN
 ·rw [if_pos j];have q:=(gJ _ _).1 j;have r:s=t:=sV (q.eq_of_length_le (by rw [U,U]; exact h));subst r;rw [if_pos (qV s)]
 ·rw [if_neg j]
theorem aky {s t:ByteArray} (h:¬ t.size<=s.size):fI (.pr s) (.pr t)=if pfx s t=aN then aC (.pr t) else au:=by
 simp only [fI];by_cases j:pfx s t=aN
 ·rw [if_pos j,if_pos j]
 ·have q:¬ pfx t s=aN:=fun q=>by
   have:=((gJ _ _).1 q).length_le;rw [U,U] at this;exact h this
  rw [if_neg j,if_neg j,if_neg q]
end Rl
end Go.Proofs.YtghlpefopidlaaaGreat
