/-
  The document's own H. Conditions as told.
-/
import Derived.Lib.Strings
import Derived.Deep.RegionWith
import Derived.Test.YtkcfgbddlpomgaaGreatDQ011
import Derived.Shelf.Slices.In.SortNone
import Derived.Shelf.Sort.Plain
import Derived.Shelf.Slices.CompactI
import Derived.Shelf.Slices.SearchI
import Derived.OpenShut
import Derived.Carry
import Derived.ChangeMaps5
import Derived.ChangeArms
set_option maxRecDepth 100000
set_option maxHeartbeats 64000000
open _root_.Bool renaming and_eq_true->aM,false->aQ,true->aV
open _root_.Go renaming World->Z,Calls->aG,Value->aI,bodyPost_ret->aP,TypeId->bf,maxLen->cB,Addr->cO
open Go.Ending renaming returned->O
open Go.IntKind renaming i64->Q
open Go.Lib renaming hid->D,toList_data->aD,size_eq->bR
open Go.Obj renaming cells->au
open Go.Proofs.Tryz renaming prog->L,ntmps131->ah,func131->aj,results52->aK,ntmps67->aN,ntmps52->aO,func67->aS,func52->aT,underlying25->aY,underlying0->bg,underlying3->bn,underlying4->bD,zeroValue25->bE,zeroValue0->bF,zeroValue3->bG,zeroValue4->bH,sizeOf25->bI,ntmps96->bK,ntmps33->bL,sizeOf0->bN,sizeOf3->bO,sizeOf4->bP,isAgg25->bQ,func96->bS,func33->bV,isAgg0->bY,isAgg3->bZ,isAgg4->cu
open Go.Proofs.YtkcfgbddlpomgaaGreat.Wi renaming within->U,iP->bJ,gY->cZ
open Go.RowKit renaming Below->aA
open Go.RowKit.Below renaming refl->ay
open Go.Value renaming string->J,int->Y,bool->aB,slice->aJ
open Go.World renaming cell?_alloc_at->aH,cell?_alloc_lt->aU,cell?->bW
open _root_.List renaming getElem?_eq_getElem->V,getD_eq_getElem?_getD->aC,length_map->aF,mem_append->aR,take_add_one->aW,getElem?_map->aX,take_length->aZ
open _root_.Nat renaming le_refl->ak,zero_le->bU,mod_lt->cK
open _root_.Option renaming some->X,none->aL
namespace Go.Proofs.YtkcfgbddlpomgaaGreat.Rl
open Go.RowKit Pu Rw Pr Va
theorem nU (s p:ByteArray) (w:Z):aG L 96 #[J s,J p] w fun e w'=>e=O (aB (pfx p s))/\w'=w:=by
 show aG L _ _ _ fun e w'=>e=O (aB (Lib.hasPrefix s.data.toList p.data.toList))/\w'=w;rw [<- Lib.hasPrefix_of_take,<- bR,<- bR];by_cases h:p.size<=s.size
 ·have e1:(((s.size:Nat):Int) ≥ ((p.size:Nat):Int)):=by omega
  have H:=D h;go_enter bS,bK;go_wp2
  all_goals (go_ret; refine⟨?_,rfl⟩; show O (aB ((s.extract 0 p.size).toList == p.toList))=_; rw [Lib.extract_toList,aD]; simp [h])
 ·have H:=D h;go_enter bS,bK;go_wp2
  all_goals (go_ret; refine⟨?_,rfl⟩; show O (aB aQ)=_; simp [H.out])
theorem rB (w:Z) (nm:ByteArray) (k lo hi:Int) (u:ByteArray) (t:Bool) (n:Int) (s:ByteArray):aA w.heap.size w ((w.alloc (au #[J nm,Y Q k,Y Q lo,Y Q hi,J u] 106)).alloc (au #[aB t,Y Q n,J s] 93)) :=
 ((ay w.heap.size w).alloc (ak _) _).alloc (by simp) _
theorem rC (w:Z) (nm:ByteArray) (k lo hi:Int) (u:ByteArray) (nm':ByteArray) (k' lo' hi':Int) (u':ByteArray):aA w.heap.size w ((w.alloc (au #[J nm,Y Q k,Y Q lo,Y Q hi,J u] 106)).alloc (au #[J nm',Y Q k',Y Q lo',Y Q hi',J u'] 106)) :=
 ((ay w.heap.size w).alloc (ak _) _).alloc (by simp) _
theorem Nt (nm:ByteArray) (lo hi:Int) (t:Bool) (n:Int) (s:ByteArray) (w:Z):aG L 67 #[cv (r5 (nm,.rg lo hi)),vl t n s] w fun e w'=>e=O (aB (dX (.rg lo hi) (t,n,s)))/\aA w.heap.size w w':=by
 simp only [r5,kN,jk,jl,kT];have R:=D (show dX (.rg lo hi) (t,n,s)=(!t && (decide (lo<=n) && decide (n<=hi))) from rfl);have B:=D (rB w nm 1 lo hi ⟨#[]⟩ t n s);generalize dX (.rg lo hi) (t,n,s)=r at *;by_cases h1:lo<=n <;> have H1:=D h1 <;> cases t <;> go_enter aS,aN <;> go_wp2 <;> go_ret <;> exact⟨eD (by rw [R.out]; have h:=H1.out; simp [h] <;> omega),B.out⟩
theorem Nu (nm u:ByteArray) (t:Bool) (n:Int) (s:ByteArray) (w:Z):aG L 67 #[cv (r5 (nm,.tx u)),vl t n s] w fun e w'=>e=O (aB (dX (.tx u) (t,n,s)))/\aA w.heap.size w w':=by
 simp only [r5,kN,jk,jl,kT];have R:=D (show dX (.tx u) (t,n,s)=(t && (s.data.toList == u.data.toList)) from rfl);have B:=D (rB w nm 2 0 0 u t n s);generalize dX (.tx u) (t,n,s)=r at *;cases t <;> go_enter aS,aN <;> go_wp2 <;> go_ret <;> exact⟨eD (by rw [R.out]; simp [aD]),B.out⟩
theorem Nv (nm u:ByteArray) (t:Bool) (n:Int) (s:ByteArray) (w:Z):aG L 67 #[cv (r5 (nm,.pr u)),vl t n s] w fun e w'=>e=O (aB (dX (.pr u) (t,n,s)))/\aA w.heap.size w w':=by
 simp only [r5,kN,jk,jl,kT];have R:=D (show dX (.pr u) (t,n,s)=(t && pfx u s) from rfl);have B:=D (rB w nm 3 0 0 u t n s);generalize dX (.pr u) (t,n,s)=r at *;cases t
 ·go_enter aS,aN;go_wp2;go_ret;exact⟨eD (by rw [R.out]; simp),B.out⟩
 ·go_enter aS,aN;go_wp2_with fail;refine (nU s u _).mono ?_;rintro e w' ⟨rfl,rfl⟩;go_wp2;go_ret;exact⟨eD (by rw [R.out]; simp),B.out⟩
theorem uf (c:Cn) (t:Bool) (n:Int) (s:ByteArray) (w:Z):aG L 67 #[cv (r5 c),vl t n s] w fun e w'=>e=O (aB (dX c.2 (t,n,s)))/\aA w.heap.size w w':=by
 obtain⟨nm,k⟩:=c;cases k with
 | rg lo hi=>exact Nt nm lo hi t n s w
 | tx u=>exact Nu nm u t n s w
 | pr u=>exact Nv nm u t n s w
theorem aaH (n1 n2:ByteArray) (lo1 hi1:Int) (lo2 hi2:Int) (w:Z):aG L 131 #[cv (r5 (n1,(.rg lo1 hi1))),cv (r5 (n2,(.rg lo2 hi2)))] w fun e w'=>e=O (aB (eF (.rg lo1 hi1) (.rg lo2 hi2)))/\aA w.heap.size w w':=by
 simp only [r5,kN,jk,jl,kT];have B:=D (rC w n1 1 lo1 hi1 ⟨#[]⟩ n2 1 lo2 hi2 ⟨#[]⟩);have R:=D (show eF (.rg lo1 hi1) (.rg lo2 hi2)=(decide (lo2<=lo1) && decide (hi1<=hi2)) from rfl);generalize eF (.rg lo1 hi1) (.rg lo2 hi2)=r at *;by_cases h1:lo2<=lo1 <;> have H1:=D h1 <;> go_enter aj,ah <;> go_wp2 <;> go_ret <;> exact⟨eD (by rw [R.out]; have h:=H1.out; simp [h] <;> omega),B.out⟩
theorem aaI (n1 n2:ByteArray) (lo1 hi1:Int) (u2:ByteArray) (w:Z):aG L 131 #[cv (r5 (n1,(.rg lo1 hi1))),cv (r5 (n2,(.tx u2)))] w fun e w'=>e=O (aB (eF (.rg lo1 hi1) (.tx u2)))/\aA w.heap.size w w':=by
 simp only [r5,kN,jk,jl,kT];have B:=D (rC w n1 1 lo1 hi1 ⟨#[]⟩ n2 2 0 0 u2);have R:=D (show eF (.rg lo1 hi1) (.tx u2)=(aQ) from rfl);generalize eF (.rg lo1 hi1) (.tx u2)=r at *;go_enter aj,ah <;> go_wp2 <;> go_ret <;> exact⟨eD (by rw [R.out]),B.out⟩
theorem aaJ (n1 n2:ByteArray) (lo1 hi1:Int) (u2:ByteArray) (w:Z):aG L 131 #[cv (r5 (n1,(.rg lo1 hi1))),cv (r5 (n2,(.pr u2)))] w fun e w'=>e=O (aB (eF (.rg lo1 hi1) (.pr u2)))/\aA w.heap.size w w':=by
 simp only [r5,kN,jk,jl,kT];have B:=D (rC w n1 1 lo1 hi1 ⟨#[]⟩ n2 3 0 0 u2);have R:=D (show eF (.rg lo1 hi1) (.pr u2)=(aQ) from rfl);generalize eF (.rg lo1 hi1) (.pr u2)=r at *;go_enter aj,ah <;> go_wp2 <;> go_ret <;> exact⟨eD (by rw [R.out]),B.out⟩
theorem aaK (n1 n2:ByteArray) (u1:ByteArray) (lo2 hi2:Int) (w:Z):aG L 131 #[cv (r5 (n1,(.tx u1))),cv (r5 (n2,(.rg lo2 hi2)))] w fun e w'=>e=O (aB (eF (.tx u1) (.rg lo2 hi2)))/\aA w.heap.size w w':=by
 simp only [r5,kN,jk,jl,kT];have B:=D (rC w n1 2 0 0 u1 n2 1 lo2 hi2 ⟨#[]⟩);have R:=D (show eF (.tx u1) (.rg lo2 hi2)=(aQ) from rfl);generalize eF (.tx u1) (.rg lo2 hi2)=r at *;go_enter aj,ah <;> go_wp2 <;> go_ret <;> exact⟨eD (by rw [R.out]),B.out⟩
theorem aaL (n1 n2:ByteArray) (u1:ByteArray) (u2:ByteArray) (w:Z):aG L 131 #[cv (r5 (n1,(.tx u1))),cv (r5 (n2,(.tx u2)))] w fun e w'=>e=O (aB (eF (.tx u1) (.tx u2)))/\aA w.heap.size w w':=by
 simp only [r5,kN,jk,jl,kT];have B:=D (rC w n1 2 0 0 u1 n2 2 0 0 u2);have R:=D (show eF (.tx u1) (.tx u2)=(u1.data.toList == u2.data.toList) from rfl);generalize eF (.tx u1) (.tx u2)=r at *;go_enter aj,ah <;> go_wp2 <;> go_ret <;> exact⟨eD (by rw [R.out]; simp [aD]),B.out⟩
theorem aaM (n1 n2:ByteArray) (u1:ByteArray) (u2:ByteArray) (w:Z):aG L 131 #[cv (r5 (n1,(.tx u1))),cv (r5 (n2,(.pr u2)))] w fun e w'=>e=O (aB (eF (.tx u1) (.pr u2)))/\aA w.heap.size w w':=by
 simp only [r5,kN,jk,jl,kT];have B:=D (rC w n1 2 0 0 u1 n2 3 0 0 u2);have R:=D (show eF (.tx u1) (.pr u2)=(pfx u2 u1) from rfl);generalize eF (.tx u1) (.pr u2)=r at *;go_enter aj,ah;go_wp2_with fail;refine (nU u1 u2 _).mono ?_;rintro e w' ⟨rfl,rfl⟩;go_wp2;go_ret;exact⟨eD (by rw [R.out]),B.out⟩
theorem aaN (n1 n2:ByteArray) (u1:ByteArray) (lo2 hi2:Int) (w:Z):aG L 131 #[cv (r5 (n1,(.pr u1))),cv (r5 (n2,(.rg lo2 hi2)))] w fun e w'=>e=O (aB (eF (.pr u1) (.rg lo2 hi2)))/\aA w.heap.size w w':=by
 simp only [r5,kN,jk,jl,kT];have B:=D (rC w n1 3 0 0 u1 n2 1 lo2 hi2 ⟨#[]⟩);have R:=D (show eF (.pr u1) (.rg lo2 hi2)=(aQ) from rfl);generalize eF (.pr u1) (.rg lo2 hi2)=r at *;go_enter aj,ah <;> go_wp2 <;> go_ret <;> exact⟨eD (by rw [R.out]),B.out⟩
theorem aaO (n1 n2:ByteArray) (u1:ByteArray) (u2:ByteArray) (w:Z):aG L 131 #[cv (r5 (n1,(.pr u1))),cv (r5 (n2,(.tx u2)))] w fun e w'=>e=O (aB (eF (.pr u1) (.tx u2)))/\aA w.heap.size w w':=by
 simp only [r5,kN,jk,jl,kT];have B:=D (rC w n1 3 0 0 u1 n2 2 0 0 u2);have R:=D (show eF (.pr u1) (.tx u2)=(aQ) from rfl);generalize eF (.pr u1) (.tx u2)=r at *;go_enter aj,ah <;> go_wp2 <;> go_ret <;> exact⟨eD (by rw [R.out]),B.out⟩
theorem aaP (n1 n2:ByteArray) (u1:ByteArray) (u2:ByteArray) (w:Z):aG L 131 #[cv (r5 (n1,(.pr u1))),cv (r5 (n2,(.pr u2)))] w fun e w'=>e=O (aB (eF (.pr u1) (.pr u2)))/\aA w.heap.size w w':=by
 simp only [r5,kN,jk,jl,kT];have B:=D (rC w n1 3 0 0 u1 n2 3 0 0 u2);have R:=D (show eF (.pr u1) (.pr u2)=(pfx u2 u1) from rfl);generalize eF (.pr u1) (.pr u2)=r at *;go_enter aj,ah;go_wp2_with fail;refine (nU u1 u2 _).mono ?_;rintro e w' ⟨rfl,rfl⟩;go_wp2;go_ret;exact⟨eD (by rw [R.out]),B.out⟩
theorem Gd (c d:Cn) (w:Z):aG L 131 #[cv (r5 c),cv (r5 d)] w fun e w'=>e=O (aB (eF c.2 d.2))/\aA w.heap.size w w':=by
 obtain⟨n1,k1⟩:=c;obtain⟨n2,k2⟩:=d;cases k1 <;> cases k2
 ·exact aaH _ _ _ _ _ _ _
 ·exact aaI _ _ _ _ _ _
 ·exact aaJ _ _ _ _ _ _
 ·exact aaK _ _ _ _ _ _
 ·exact aaL _ _ _ _ _
 ·exact aaM _ _ _ _ _
 ·exact aaN _ _ _ _ _ _
 ·exact aaO _ _ _ _ _
 ·exact aaP _ _ _ _ _
def vY (x y:Cn):Bool:=decide (y.1=x.1) && eF y.2 x.2
theorem QC {α:Type} (f:α->Bool) (l:List α) (k:Nat) (y:α) (h:l[k]?=X y):(l.take (k+1)).any f=((l.take k).any f || f y):=by
 rw [aW,h,List.any_append];simp
theorem yK {α:Type} (f:α->Bool) (l:List α) (k:Nat) (y:α) (h:l[k]?=X y):(l.take (k+1)).all f=((l.take k).all f && f y):=by
 rw [aW,h,List.all_append];simp
theorem Ed {α:Type} (f:α->Bool) (l:List α) (k:Nat) (y:α) (h:l[k]?=X y) (hf:f y=aQ):l.all f=aQ:=by
 rw [List.all_eq_false];exact⟨y,List.mem_of_getElem? h,by simp [hf]⟩
theorem str_eq (a b:ByteArray) (h:a=b):(a.toList == b.toList)=aV:=by simp [h]
theorem aaQ (a b:ByteArray) (h:¬ a=b):(a.toList == b.toList)=aQ:=by
 rw [beq_eq_false_iff_ne];intro e;rw [aD,aD] at e;exact h (ru e)
theorem Gf (qZ bv:aI) (a b:List Cn) (w:Z) (ha:fK w qZ (a.map r5)) (hb:fK w bv (b.map r5)) (hl:a.length<=100) (hm:b.length<=100) :
  aG L 110 #[qZ,bv] w fun e w'=>e=O (aB (oz a b))/\aA w.heap.size w w':=by
 have HA:=D ha;have HB:=D hb;have CO:=D (show oz a b=a.all fun x=>b.any (vY x) from rfl);obtain⟨ao,ac,rfl⟩:=ha.len;obtain⟨bo,bc,rfl⟩:=hb.len;clear ha hb;rw [aF] at HA HB ⊢;rw [aF];generalize oz a b=r at *;generalize hn:a.length=n at *;generalize hm':b.length=m at *;have HN:=D hn;have HM:=D hm';clear hn hm';go_enter Tryz.func110,Tryz.ntmps110;go_wp2
 go_loopw [12] (fun i wr=>∃ k:Nat,k<=n/\i=Y Q k/\aA w.heap.size w wr/\(a.take k).all (fun x=>b.any (vY x))=aV) (fun i _=>n-(intOf i).toNat)
 case atStart=>exact⟨0,bU _,rfl,ay _ _,rfl⟩
 case round =>
  obtain⟨k,hk,rfl,hbe,hall⟩:=hrel;have BE:=D hbe;have AL:=D hall;clear hbe hall;by_cases hlt:k<n
  ·obtain⟨x,hx⟩:∃ x,a[k]?=X x:=⟨_,V (by rw [HN.out]; exact hlt)⟩;obtain⟨p,ix,px⟩:=Wm HA.out rfl (by rw [aF]; exact HN.out) (show (a.map r5)[k]?=X (r5 x) by rw [aX,hx]; rfl);have p0:=(px _ BE.out).1;have p1:=(px _ BE.out).2.1;have p2:=(px _ BE.out).2.2.1;have p3:=(px _ BE.out).2.2.2.1;have p4:=(px _ BE.out).2.2.2.2;have HX:=D hx;have B1:=D (BE.out.alloc BE.out.size (au #[J (r5 x).1,Y Q (r5 x).2.1,Y Q (r5 x).2.2.1,Y Q (r5 x).2.2.2.1,J (r5 x).2.2.2.2] 106));have Z1:=D (show wr.heap.size<(wr.alloc (au #[J (r5 x).1,Y Q (r5 x).2.1,Y Q (r5 x).2.2.1,Y Q (r5 x).2.2.2.1,J (r5 x).2.2.2.2] 106)).heap.size by simp);have e0:(wr.alloc (au #[J (r5 x).1,Y Q (r5 x).2.1,Y Q (r5 x).2.2.1,Y Q (r5 x).2.2.2.1,J (r5 x).2.2.2.2] 106)).cell? ⟨wr.heap.size,0,aL⟩=X (J (r5 x).1):=by simp [go_sem]
   have e1:(wr.alloc (au #[J (r5 x).1,Y Q (r5 x).2.1,Y Q (r5 x).2.2.1,Y Q (r5 x).2.2.2.1,J (r5 x).2.2.2.2] 106)).cell? ⟨wr.heap.size,1,aL⟩=X (Y Q (r5 x).2.1):=by simp [go_sem]
   have e2:(wr.alloc (au #[J (r5 x).1,Y Q (r5 x).2.1,Y Q (r5 x).2.2.1,Y Q (r5 x).2.2.2.1,J (r5 x).2.2.2.2] 106)).cell? ⟨wr.heap.size,2,aL⟩=X (Y Q (r5 x).2.2.1):=by simp [go_sem]
   have e3:(wr.alloc (au #[J (r5 x).1,Y Q (r5 x).2.1,Y Q (r5 x).2.2.1,Y Q (r5 x).2.2.2.1,J (r5 x).2.2.2.2] 106)).cell? ⟨wr.heap.size,3,aL⟩=X (Y Q (r5 x).2.2.2.1):=by simp [go_sem]
   have e4:(wr.alloc (au #[J (r5 x).1,Y Q (r5 x).2.1,Y Q (r5 x).2.2.1,Y Q (r5 x).2.2.2.1,J (r5 x).2.2.2.2] 106)).cell? ⟨wr.heap.size,4,aL⟩=X (J (r5 x).2.2.2.2):=by simp [go_sem]
   clear px hx;go_wp2;generalize wr.alloc (au #[J (r5 x).1,Y Q (r5 x).2.1,Y Q (r5 x).2.2.1,Y Q (r5 x).2.2.2.1,J (r5 x).2.2.2.2] 106)=W1 at *;generalize wr.heap.size=bx at *;have E0:=D e0;have E1:=D e1;have E2:=D e2;have E3:=D e3;have E4:=D e4;clear e0 e1 e2 e3 e4 ix p0 p1 p2 p3 p4
   go_loopw [7,18] (fun v i wi=>∃ j:Nat,j<=m/\i=Y Q j/\v=aB ((b.take j).any (vY x))/\aA W1.heap.size W1 wi) (fun _ i _=>m-(intOf i).toNat)
   case atStart=>exact⟨0,bU _,rfl,rfl,ay _ _⟩
   case round =>
    obtain⟨j,hj,rfl,rfl,hbi⟩:=hrel;have BI:=D hbi;have TK:=D (B1.out.trans (hbi.mono B1.out.size));clear hbi;by_cases hjt:j<m
    ·obtain⟨y,hy⟩:∃ y,b[j]?=X y:=⟨_,V (by rw [HM.out]; exact hjt)⟩;obtain⟨q,iy,py⟩:=Wm HB.out rfl (by rw [aF]; exact HM.out) (show (b.map r5)[j]?=X (r5 y) by rw [aX,hy]; rfl);have q0:=(py _ TK.out).1;have q1:=(py _ TK.out).2.1;have q2:=(py _ TK.out).2.2.1;have q3:=(py _ TK.out).2.2.2.1;have q4:=(py _ TK.out).2.2.2.2;have MO:=D (QC (vY x) b j y hy);have Wv:=D (BI.out.alloc BI.out.size (au #[J (r5 y).1,Y Q (r5 y).2.1,Y Q (r5 y).2.2.1,Y Q (r5 y).2.2.2.1,J (r5 y).2.2.2.2] 106));have f0:=(Wv.out.cell (p:=⟨bx,0,aL⟩) Z1.out).trans E0.out;have f1:=(Wv.out.cell (p:=⟨bx,1,aL⟩) Z1.out).trans E1.out;have f2:=(Wv.out.cell (p:=⟨bx,2,aL⟩) Z1.out).trans E2.out;have f3:=(Wv.out.cell (p:=⟨bx,3,aL⟩) Z1.out).trans E3.out;have f4:=(Wv.out.cell (p:=⟨bx,4,aL⟩) Z1.out).trans E4.out;clear py hy;cases hv:(b.take j).any (vY x)
     ·rw [hv] at MO;clear hv;by_cases hne:y.1=x.1
      ·have g0:=str_eq (r5 y).1 (r5 x).1 hne;have CV:=D (show vY x y=eF y.2 x.2 by simp [vY,hne]);go_wp2_with fail;refine (Gd y x _).mono ?_;rintro e w2 ⟨rfl,hc⟩;have BC:=D (Wv.out.trans (hc.mono Wv.out.size));clear hc;go_wp2
       go_roundw
       case rel=>exact⟨j+1,by omega,by go_num,by rw [MO.out,CV.out]; rfl,BC.out⟩
       case measure=>simp [intOf]; omega
      ·have g0:=aaQ (r5 y).1 (r5 x).1 hne;have CV:=D (show vY x y=aQ by simp [vY,hne]);go_wp2
       go_roundw
       case rel=>exact⟨j+1,by omega,by go_num,by rw [MO.out,CV.out]; rfl,Wv.out⟩
       case measure=>simp [intOf]; omega
     ·rw [hv] at MO;clear hv;go_wp2
      go_roundw
      case rel=>exact⟨j+1,by omega,by go_num,by rw [MO.out]; rfl,Wv.out⟩
      case measure=>simp [intOf]; omega
    ·obtain rfl:j=m:=by omega
     have TA:=D (show (b.take j).any (vY x)=b.any (vY x) by rw [<- HM.out,aZ]);have AM:=D (yK (fun x=>b.any (vY x)) a k x HX.out);rw [TA.out];cases hv:b.any (vY x)
     ·have R:=D (show r=aQ from CO.out.trans (Ed _ a k x HX.out hv));clear hv;go_wp2;go_ret;exact⟨eD R.out.symm,TK.out⟩
     ·have HV:=D hv;clear hv;go_wp2
      go_roundw
      case rel=>exact⟨k+1,by omega,by go_num,TK.out,by rw [AM.out,AL.out,HV.out]; rfl⟩
      case measure=>simp [intOf]; omega
  ·obtain rfl:k=n:=by omega
   have R:=D (show r=aV by rw [CO.out,<- AL.out,<- HN.out,aZ]);go_wp2;go_ret;exact⟨eD R.out.symm,BE.out⟩
end Go.Proofs.YtkcfgbddlpomgaaGreat.Rl
namespace Go.Proofs.YtkcfgbddlpomgaaGreat.Kp
open Go.RowKit Va In
def nm (i:Nat):ByteArray:=⟨#[UInt8.ofNat (97+i)]⟩
def nA:Array aI:=#[J ⟨#[97]⟩,J ⟨#[98]⟩,J ⟨#[99]⟩,J ⟨#[100]⟩,J ⟨#[101]⟩,J ⟨#[102]⟩,J ⟨#[103]⟩]
theorem QD (i:Nat) (h:i<7):nA[i]?=X (J (nm i)):=by
 match i,h with
 | 0,_=>rfl
 | 1,_=>rfl
 | 2,_=>rfl
 | 3,_=>rfl
 | 4,_=>rfl
 | 5,_=>rfl
 | 6,_=>rfl
theorem vZ (w:Z):aG L 31 #[] w fun e w'=>e=O (aJ (X ⟨w.heap.size,0,aL⟩) 7 7)/\w'=w.alloc (au nA 9):=by
 go_enter Tryz.func31,Tryz.ntmps31;go_wp2;go_ret;exact⟨rfl,rfl⟩
def jV (zs:List Int) (i:Nat):Int:=if zs=[] then 0 else zs.getD (i % zs.length) 0
theorem yL (nv:aI) (zs:List Int) (i:Nat) (w:Z) (hz:jo w nv zs) (hl:zs.length<=cB) (hi:i<=100) :
  aG L 33 #[nv,Y Q i] w fun e w'=>e=O (Y Q (jV zs i))/\w=w':=by
 obtain⟨ao,cap,rfl⟩:=hz.shape;unfold cB at hl;cases zs with
 | nil =>
  go_enter bV,bL;go_wp2;go_ret;exact⟨rfl,rfl⟩
 | cons z r =>
  have hm:i % (z::r).length<(z::r).length:=cK _ (by simp);obtain⟨y,hy⟩:∃ y,(z::r)[i % (z::r).length]?=X y:=⟨_,V hm⟩;obtain⟨_,p,_,hix,hpc⟩:=hz.at_ _ y hy;have P:=D (show jV (z::r) i=y by unfold jV; rw [if_neg (by simp),aC,hy]; rfl);have h0:((((z::r).length:Nat):Int) == 0)=aQ:=by simp; omega
  have hne:(((z::r).length:Nat):Int)≠0:=by simp; omega
  have ht:(i:Int) % ((z::r).length:Nat)=((i % (z::r).length:Nat):Int):=rfl;have ht2:(i:Int).tmod ((z::r).length:Nat)=((i % (z::r).length:Nat):Int):=by
   rw [Int.tmod_eq_emod_of_nonneg (by omega)]; rfl
  have hn0:0<(((z::r).length:Nat):Int):=by simp
  generalize (z::r).length=n at *;generalize i % n=m at *;clear hz hy hm;go_enter bV,bL;go_wp2;go_ret;exact⟨Wi.xU P.out.symm,rfl⟩
def odd (z:Int):Bool:=bits BinOp.and Q z 1 == 1
theorem yM {W:Z} {nv:aI} {zs:List Int} (hz:jo W nv zs) (i:Nat):-9223372036854775808<=jV zs i/\jV zs i<=9223372036854775807:=by
 unfold jV
 split
 ·omega
 ·rename_i h
  have hm:i % zs.length<zs.length:=cK _ (List.length_pos_iff.2 h);have:=(hz.at_ _ _ (V hm)).1;rw [aC,V hm];exact this
end Go.Proofs.YtkcfgbddlpomgaaGreat.Kp
namespace Go.Proofs.YtkcfgbddlpomgaaGreat.Pr
open Go.RowKit Pu Rw Va Kp
def lo9 (n:Int):Int:=U (n.tdiv 4) 0 9
def tx6 (n:Int):ByteArray:=ou (U (n.tdiv 4) 0 6)
def rD (n:Int):Kd:=if U n 0 3=0\/U n 0 3=1 then .rg (lo9 n) (lo9 n+U (n.tdiv 40) 0 9) else if U n 0 3=2 then .tx (tx6 n) else .pr (tx6 n)
theorem Nw (n:Int):iZ (rD n)=aV:=by
 unfold rD;have hw:=bJ (n.tdiv 40) 0 9 (by omega);have ht:(tx6 n).size<=3:=yA _
 split
 ·simp only [iZ,decide_eq_true_eq]; omega
 ·split
  ·simp only [iZ,decide_eq_true_eq]; omega
  ·simp only [iZ,decide_eq_true_eq]; omega
theorem Kv (n k:Int) (hk:1<=k) (h1:-9223372036854775808<=n) (h2:n<=9223372036854775807):-9223372036854775808<=n.tdiv k/\n.tdiv k<=9223372036854775807:=by
 rcases Int.le_total 0 n with h|h
 ·rw [Int.tdiv_eq_ediv_of_nonneg h];have a:=Int.ediv_nonneg h (show 0<=k by omega);have b:=Int.ediv_le_self k h;omega
 ·have e:n.tdiv k=-((-n) / k):=by rw [<- Int.tdiv_eq_ediv_of_nonneg (by omega),Int.neg_tdiv,Int.neg_neg]
  have a:=Int.ediv_nonneg (show 0<=-n by omega) (show 0<=k by omega);have b:=Int.ediv_le_self k (show 0<=-n by omega);omega
theorem yN (nm_:ByteArray) (n:Int) (w:Z) (h1:-9223372036854775808<=n) (h2:n<=9223372036854775807) :
  aG L 52 #[J nm_,Y Q n] w fun e w'=>e=O (cv (r5 (nm_,rD n)))/\aA w.heap.size w w':=by
 have b4:=Kv n 4 (by decide) h1 h2;have b40:=Kv n 40 (by decide) h1 h2;have q4:IntKind.i64.wrap (n.tdiv 4)=n.tdiv 4:=IntWalk.i64_in _ b4;have q40:IntKind.i64.wrap (n.tdiv 40)=n.tdiv 40:=IntWalk.i64_in _ b40;have W3:=D (fun wx=>cZ n 0 3 wx (by omega) (by omega) (by omega) h1 h2);have W9:=D (fun wx=>cZ (n.tdiv 4) 0 9 wx (by omega) (by omega) (by omega) b4.1 b4.2);have W6:=D (fun wx=>cZ (n.tdiv 4) 0 6 wx (by omega) (by omega) (by omega) b4.1 b4.2);have V9:=D (fun wx=>cZ (n.tdiv 40) 0 9 wx (by omega) (by omega) (by omega) b40.1 b40.2);have d3:=bJ n 0 3 (by omega);have d9:=bJ (n.tdiv 4) 0 9 (by omega);have d6:=bJ (n.tdiv 4) 0 6 (by omega);have e9:=bJ (n.tdiv 40) 0 9 (by omega);have KD:rD n=if U n 0 3=0\/U n 0 3=1 then .rg (U (n.tdiv 4) 0 9) (U (n.tdiv 4) 0 9+U (n.tdiv 40) 0 9) else if U n 0 3=2 then .tx (ou (U (n.tdiv 4) 0 6)) else .pr (ou (U (n.tdiv 4) 0 6)):=rfl
 have TX:=D (Km (U (n.tdiv 4) 0 6) d6.1 d6.2);generalize U n 0 3=r at *;generalize U (n.tdiv 4) 0 9=p at *;generalize U (n.tdiv 4) 0 6=q at *;generalize U (n.tdiv 40) 0 9=s at *;have hs:IntKind.i64.wrap (p+s)=p+s:=IntWalk.i64_in _ (by omega);have hr:r=0\/r=1\/r=2\/r=3:=by omega
 have D6:=D d6;clear b4 b40 h1 h2 d3 d9 e9 d6;rcases hr with rfl|rfl|rfl|rfl
 ·have K:=D (show rD n=.rg p (p+s) by rw [KD]; rfl);clear KD;go_enter aT,aO;go_wp2_with fail;refine (W3.out _).mono ?_;rintro e1 w1 ⟨rfl,rfl⟩;go_wp2_with fail;refine (W9.out _).mono ?_;rintro e2 w2 ⟨rfl,rfl⟩;go_wp2_with fail
  go_region_with (go_at_call 9; refine (V9.out _).mono ?_; rintro e w' ⟨rfl,rfl⟩)
  all_goals go_wp2_with fail
  all_goals exact aP (v:=cv (r5 (nm_,.rg p (p+s)))) (by simp [results,aK,go_sem,r5,kN,jk,jl,kT]) rfl ⟨by rw [K.out],(((ay _ _).alloc (ak _) _).alloc (by simp) _).drew⟩
 ·have K:=D (show rD n=.rg p (p+s) by rw [KD]; rfl);clear KD;go_enter aT,aO;go_wp2_with fail;refine (W3.out _).mono ?_;rintro e1 w1 ⟨rfl,rfl⟩;go_wp2_with fail;refine (W9.out _).mono ?_;rintro e2 w2 ⟨rfl,rfl⟩;go_wp2_with fail
  go_region_with (go_at_call 9; refine (V9.out _).mono ?_; rintro e w' ⟨rfl,rfl⟩)
  all_goals go_wp2_with fail
  all_goals exact aP (v:=cv (r5 (nm_,.rg p (p+s)))) (by simp [results,aK,go_sem,r5,kN,jk,jl,kT]) rfl ⟨by rw [K.out],(((ay _ _).alloc (ak _) _).alloc (by simp) _).drew⟩
 ·have K:=D (show rD n=.tx (ou q) by rw [KD]; rfl);have tx:=TX.out;have d6:=D6.out;have d61:=d6.1;have d62:q<7:=by omega
  clear KD d6;go_enter aT,aO;go_wp2_with fail;refine (W3.out _).mono ?_;rintro e1 w1 ⟨rfl,rfl⟩;go_wp2_with fail
  go_region_with (first | (go_at_call 9; refine (W6.out _).mono ?_; rintro e w' ⟨rfl,rfl⟩) | (go_at_call 65; refine (vU _).mono ?_; rintro e w' ⟨rfl,rfl⟩))
  all_goals go_wp2_with fail
  all_goals exact aP (v:=cv (r5 (nm_,.tx (ou q)))) (by simp [results,aK,go_sem,r5,kN,jk,jl,kT]) rfl ⟨by rw [K.out],((((ay _ _).alloc (ak _) _).alloc (by simp) _).alloc (by simp; omega) _).drew⟩
 ·have K:=D (show rD n=.pr (ou q) by rw [KD]; rfl);have tx:=TX.out;have d6:=D6.out;have d61:=d6.1;have d62:q<7:=by omega
  clear KD d6;go_enter aT,aO;go_wp2_with fail;refine (W3.out _).mono ?_;rintro e1 w1 ⟨rfl,rfl⟩;go_wp2_with fail
  go_region_with (first | (go_at_call 9; refine (W6.out _).mono ?_; rintro e w' ⟨rfl,rfl⟩) | (go_at_call 65; refine (vU _).mono ?_; rintro e w' ⟨rfl,rfl⟩))
  all_goals go_wp2_with fail
  all_goals exact aP (v:=cv (r5 (nm_,.pr (ou q)))) (by simp [results,aK,go_sem,r5,kN,jk,jl,kT]) rfl ⟨by rw [K.out],((((ay _ _).alloc (ak _) _).alloc (by simp) _).alloc (by simp; omega) _).drew⟩
end Go.Proofs.YtkcfgbddlpomgaaGreat.Pr
namespace Go.Proofs.YtkcfgbddlpomgaaGreat.Pr
open Go.RowKit Pu Rw Va Kp In
def o7 (has vals:List Int):Nat->List Cn
 | 0=>[]
 | i+1=>if i<has.length/\odd (has.getD i 0)=aV/\(o7 has vals i).length<5 then o7 has vals i++[(nm i,rD (jV vals i))] else o7 has vals i
theorem Kw (has vals:List Int):∀ k,(o7 has vals k).length<=k
 | 0=>ak _
 | k+1=>by
  have h:=Kw has vals k;simp only [o7]
  split
  ·simp; omega
  ·omega
theorem Gg (has vals:List Int):∀ k,(o7 has vals k).length<=5
 | 0=>by simp [o7]
 | k+1=>by
  have h:=Gg has vals k;simp only [o7]
  split
  ·rename_i hc; simp; omega
  ·exact h
theorem sG (has vals:List Int):∀ k,∀ x∈o7 has vals k,∃ i,i<k/\x.1=nm i
 | 0,x,h=>by simp [o7] at h
 | k+1,x,h=>by
  simp only [o7] at h
  split at h
  ·rcases aR.1 h with h|h
   ·obtain⟨i,h1,h2⟩:=sG has vals k x h;exact⟨i,by omega,h2⟩
   ·simp at h;exact⟨k,by omega,by rw [h]⟩
  ·obtain⟨i,h1,h2⟩:=sG has vals k x h;exact⟨i,by omega,h2⟩
theorem yO (has vals:List Int):∀ k,∀ x∈o7 has vals k,iZ x.2=aV
 | 0,x,h=>by simp [o7] at h
 | k+1,x,h=>by
  simp only [o7] at h
  split at h
  ·rcases aR.1 h with h|h
   ·exact yO has vals k x h
   ·simp at h;rw [h]; exact Nw _
  ·exact yO has vals k x h
theorem Ee (i j:Nat) (h:i<j) (hj:j<7):Op.bytesLess (nm i).toList (nm j).toList=aV:=by
 rw [ByteArray.toList_eq,ByteArray.toList_eq];have:∀ j:Fin 7,∀ i:Fin 7,i.val<j.val->Op.bytesLess (nm i.val).data.toList (nm j.val).data.toList=aV:=by decide
 exact this ⟨j,hj⟩ ⟨i,by omega⟩ h
theorem Gh (has vals:List Int):∀ k,k<=7->mX (o7 has vals k)
 | 0,_=>by simp [o7,mX]
 | k+1,hk=>by
  have h:=Gh has vals k (by omega);simp only [o7]
  split
  ·refine List.pairwise_append.2 ⟨h,List.pairwise_singleton _ _,fun x hx y hy=>?_⟩;obtain⟨i,h1,h2⟩:=sG has vals k x hx;simp at hy;rw [hy,h2];exact Ee i k h1 (by omega)
  ·exact h
theorem uN (w:Z) (c:C5):fK (w.alloc (au #[J c.1,Y Q c.2.1,Y Q c.2.2.1,Y Q c.2.2.2.1,J c.2.2.2.2] 106)) (aJ (X ⟨w.heap.size,0,aL⟩) 1 1) [c] :=
 Row.dx (gT AO w [c] 1 rfl (by simp) _ rfl)
theorem QE (hv vv:aI) (has vals:List Int) (w:Z) (hh:jo w hv has) (hw:jo w vv vals) (lh:has.length<=cB) (lv:vals.length<=cB) :
  aG L 23 #[.agg #[hv,vv]] w fun e w'=>∃ v,e=O v/\jP w' w.heap.size v ((o7 has vals 7).map r5)/\aA w.heap.size w w':=by
 have HH:=D hh;have HW:=D hw;have LH:=D lh;have LV:=D lv;clear hh hw lh lv;go_enter Tryz.func23,Tryz.ntmps23;go_wp2_with fail;refine (vZ _).mono ?_;rintro e1 w1 ⟨rfl,rfl⟩;go_wp2
 go_loopw [3,8] (fun lv i wr=>∃ k:Nat,k<=7/\i=Y Q k/\jP wr (w.heap.size+2) lv ((o7 has vals k).map r5) /\
  aA (w.heap.size+2) ((w.alloc (au #[hv,vv] 72)).alloc (au nA 9)) wr) (fun _ i _=>7-(intOf i).toNat)
 case atStart=>exact⟨0,by omega,rfl,fZ _ _,ay _ _⟩
 case round =>
  obtain⟨k,hk,rfl,hown,hb⟩:=hrel;have HO:=D hown;have HB:=D hb;have T0:aA w.heap.size w ((w.alloc (au #[hv,vv] 72)).alloc (au nA 9)):=((ay _ _).alloc (ak _) _).alloc (by simp) _;have BW:=D (T0.trans (hb.mono (by omega)));have hsz:w.heap.size+2<=wr.heap.size:=by have:=hb.size; simp at this; omega
  clear T0;obtain⟨ro,afF,hrl⟩:=(Row.dx hown).len;rw [aF] at hrl;have hl5:=Kw has vals k;by_cases h7:k<7
  ·have n0:wr.cell? ⟨w.heap.size+1,k,aL⟩=X (J (nm k)):=by
    rw [hb.cell (p:=⟨w.heap.size+1,k,aL⟩) (by simp),aH _ _ _ _ (by simp)]; exact QD k h7
   have b0:wr.cell? ⟨w.heap.size,0,aL⟩=X hv:=by
    rw [hb.cell (p:=⟨w.heap.size,0,aL⟩) (by simp),aU _ _ _ (by simp),aH _ _ _ _ rfl]; rfl
   have b1:wr.cell? ⟨w.heap.size,1,aL⟩=X vv:=by
    rw [hb.cell (p:=⟨w.heap.size,1,aL⟩) (by simp),aU _ _ _ (by simp),aH _ _ _ _ rfl]; rfl
   have IH:=D (HH.out.on BW.out);obtain⟨ao,afG,hsh⟩:=HH.out.shape;clear hb hown;subst hsh;subst hrl;have hkk:(k:Int)<7:=by omega
   by_cases h1:k<has.length
   ·obtain⟨y,hy⟩:∃ y,has[k]?=X y:=⟨_,V h1⟩;have hg:has.getD k 0=y:=by rw [aC,hy]; rfl
    obtain⟨_,p,_,hix,hpc⟩:=IH.out.at_ k y hy;cases ho:odd y
    ·have T:=D (show o7 has vals (k+1)=o7 has vals k by simp only [o7]; rw [if_neg]; rintro⟨_,h2,_⟩; rw [hg,ho] at h2; cases h2);have hodd:(bits BinOp.and Q y 1 == 1)=aQ:=ho;clear ho hy hg;go_wp2
     go_roundw
     case rel=>exact⟨k+1,by omega,by go_num,by rw [T.out]; exact HO.out,HB.out⟩
     case measure=>simp [intOf]; omega
    ·have hodd:(bits BinOp.and Q y 1 == 1)=aV:=ho;by_cases h5:(o7 has vals k).length<5
     ·have T:=D (show (o7 has vals (k+1)).map r5=(o7 has vals k).map r5++[r5 (nm k,rD (jV vals k))] by simp only [o7]; rw [if_pos ⟨h1,by rw [hg,ho],h5⟩,List.map_append]; rfl);have PK:=D (fun (W:Z) (hW:aA w.heap.size w W)=>yL vv vals k W (HW.out.on hW) LV.out (by omega));have bd:=yM HW.out k;have KV:=D (fun W=>yN (nm k) (jV vals k) W bd.1 bd.2);clear ho hy hg bd;go_wp2_with fail;refine (PK.out _ BW.out).mono ?_;rintro e1 w1 ⟨rfl,rfl⟩;go_wp2_with fail;refine (KV.out _).mono ?_;rintro e2 w2 ⟨rfl,hb2⟩;have B2:=D hb2;have O2:=D (dB HO.out hb2);have hs2:=hb2.size;clear hb2;generalize r5 (nm k,rD (jV vals k))=c at T ⊢;have O3a:=D (O2.out.alloc (au #[J c.1,Y Q c.2.1,Y Q c.2.2.1,Y Q c.2.2.2.1,J c.2.2.2.2] 106));obtain⟨v3,w3,r3,o3,g3⟩:=fT AO (w.heap.size+2) O3a.out (uN w2 c) (by simp; omega) (by simp) (by simp; omega) 41;have O3:=D o3;have hbel:aA (w.heap.size+2) wr w3:=((B2.out.mono hsz).alloc (by omega) _).grown g3 (by simp; omega) (fun j hj=>(O3a.out.lt j hj).1);have B3:=D (HB.out.trans hbel);clear o3 g3 hbel;go_wp2_with (first | (at_builtin; refine wpList_append_run rfl _ _ 41 rfl rfl rfl r3 ?_) | fail);clear r3;go_wp2
      go_roundw
      case rel=>exact⟨k+1,by omega,by go_num,by rw [T.out]; exact O3.out,B3.out⟩
      case measure=>simp [intOf]; omega
     ·have T:=D (show o7 has vals (k+1)=o7 has vals k by simp only [o7]; rw [if_neg]; rintro⟨_,_,h2⟩; exact h5 h2);clear ho hy hg;go_wp2
      go_roundw
      case rel=>exact⟨k+1,by omega,by go_num,by rw [T.out]; exact HO.out,HB.out⟩
      case measure=>simp [intOf]; omega
   ·have T:=D (show o7 has vals (k+1)=o7 has vals k by simp only [o7]; rw [if_neg]; rintro⟨h2,_⟩; exact h1 h2);go_wp2
    go_roundw
    case rel=>exact⟨k+1,by omega,by go_num,by rw [T.out]; exact HO.out,HB.out⟩
    case measure=>simp [intOf]; omega
  ·obtain rfl:k=7:=by omega
   clear hb hown;go_wp2;go_ret;exact⟨_,rfl,mH (by omega) HO.out,BW.out⟩
def Jt (c:Cn):Prop:=c.1.size<=100/\(kT c.2).size<=100/\(-9223372036854775808<=jk c.2/\jk c.2<=9223372036854775807)/\(-9223372036854775808<=jl c.2/\jl c.2<=9223372036854775807)
structure NF (l:List Cn):Prop where
 rise:mX l
 five:l.length<=5
 good:∀ c∈l,Bv c=aV
 small:∀ c∈l,Jt c
theorem NF.iZ {l:List Cn} (h:NF l):∀ c∈l,Pr.iZ c.2=aV:=fun c hc=>by
 have:=h.good c hc;simp only [Bv,aM] at this;exact this.2
theorem QF (i:Nat) (h:i<7):FV (nm i)=aV:=by
 match i,h with
 | 0,_=>decide
 | 1,_=>decide
 | 2,_=>decide
 | 3,_=>decide
 | 4,_=>decide
 | 5,_=>decide
 | 6,_=>decide
theorem Ef (i:Nat):(nm i).size=1:=rfl
theorem QG (n:Int):(kT (rD n)).size<=100/\(-9223372036854775808<=jk (rD n)/\jk (rD n)<=9223372036854775807)/\(-9223372036854775808<=jl (rD n)/\jl (rD n)<=9223372036854775807):=by
 have h1:=bJ (n.tdiv 4) 0 9 (by omega);have h2:=bJ (n.tdiv 40) 0 9 (by omega);have ht:(tx6 n).size<=3:=yA _;unfold rD lo9
 split
 ·refine⟨by show (0:Nat)<=100; omega,?_,?_⟩ <;> simp only [jk,jl] <;> omega
 ·split
  ·refine⟨by show (tx6 n).size<=100; omega,?_,?_⟩ <;> simp only [jk,jl] <;> omega
  ·refine⟨by show (tx6 n).size<=100; omega,?_,?_⟩ <;> simp only [jk,jl] <;> omega
theorem wh (has vals:List Int):∀ k,∀ x∈o7 has vals k,Jt x
 | 0,x,h=>by simp [o7] at h
 | k+1,x,h=>by
  simp only [o7] at h
  split at h
  ·rcases aR.1 h with h|h
   ·exact wh has vals k x h
   ·simp at h;rw [h];exact⟨by show (nm k).size<=100; rw [Ef]; omega,QG _⟩
  ·exact wh has vals k x h
theorem QH (has vals:List Int):NF (o7 has vals 7) :=
 ⟨Gh has vals 7 (ak _),Gg has vals 7,fun c hc=>by
  obtain⟨i,h1,h2⟩:=sG has vals 7 c hc;simp only [Bv,aM];exact⟨by rw [h2]; exact QF i h1,yO has vals 7 c hc⟩,wh has vals 7⟩
theorem aaR {a b:Cn} (h:r5 a=r5 b):a=b:=by
 obtain⟨n,a⟩:=a;obtain⟨m,b⟩:=b;simp only [r5,Prod.mk.injEq] at h;obtain⟨rfl,h1,h2,h3,h4⟩:=h;cases a <;> cases b <;> simp [kN,jk,jl,kT] at h1 h2 h3 h4 <;> simp [*]
end Go.Proofs.YtkcfgbddlpomgaaGreat.Pr
namespace Go.Proofs.YtkcfgbddlpomgaaGreat.Bk
open Go.RowKit Rw YtkcfgbddlpomgaaGreat.Nm Pr
theorem uO {W:Z} {b:Nat} {cs:Array aI} {t:bf} (hb:dJ W b cs t) {a:cO} {v:aI} (h:W.cell? a=X v) (e:a.block=b):cs[a.off]?=X v:=by
 unfold bW at h;unfold dJ at hb;rw [e,hb] at h;have h2:a.spot=aL/\cs[a.off]?=X v:=by simpa using h
 exact h2.2
theorem Ny {W W':Z} {b:Nat} (hk:∀ j,j<W.heap.size->j≠b->W'.heap[j]?=W.heap[j]?) {a:cO} {v:aI} (h:W.cell? a=X v) (e:a.block≠b):W'.cell? a=X v:=by
 have hlt:=World.block_lt_of_cell? W _ h;unfold bW at h ⊢;rw [hk _ hlt e];exact h
theorem sH (a:cO) (j:Nat):(a.add j).block=a.block:=by unfold Addr.add; split <;> rfl
theorem fQ {α:Type} {E:Ek α} (_K:E.Ok) {W W':Z} {b:Nat} {v:aI} {l:List α} (h:Row E W v l) (hk:∀ j,j<W.heap.size->j≠b->W'.heap[j]?=W.heap[j]?) (hno:∀ (a:cO) (c:α),(∀ j u,(E.cells c)[j]?=X u->W.cell? (a.add j)=X u)->a.block≠b):Row E W' v l:=by
 rcases h with h|⟨a,cap,h1,h2,h3,h4⟩
 ·exact Or.inl h
 ·refine Or.inr ⟨a,cap,h1,h2,h3,fun j u hj=>?_⟩;cases l with
  | nil=>simp [flat] at hj
  | cons c r =>
   have hne:a.block≠b:=hno a c fun j u hj=>h4 j u (by
    rw [flat,List.getElem?_append_left (by exact (List.getElem?_eq_some_iff.1 hj).1)];exact hj)
   exact Ny hk (h4 j u hj) (by rw [sH]; exact hne)
theorem jq {α:Type} {E:Ek α} {W:Z} {b:Nat} {cs:Array aI} {t:bf} (hb:dJ W b cs t) (hE:∀ c:α,∃ i j:Int,(E.cells c)[0]?=X (Y Q i)/\(E.cells c)[1]?=X (Y Q j)) (hcs:∀ (k:Nat) (i j:Int),cs[k]?=X (Y Q i)->cs[k+1]?=X (Y Q j)->False) (a:cO) (c:α) (h:∀ j u,(E.cells c)[j]?=X u->W.cell? (a.add j)=X u):a.block≠b:=fun e=>by
 obtain⟨i,j,h0,h1⟩:=hE c;have c0:=uO hb (h 0 _ h0) (by rw [sH]; exact e);have c1:=uO hb (h 1 _ h1) (by rw [sH]; exact e);have o0:(a.add 0).off=a.off:=by rw [Addr.add_zero']
 have o1:(a.add 1).off=a.off+1:=by rw [add_pos _ _ (by decide)]
 rw [o0] at c0;rw [o1] at c1;exact hcs a.off i j c0 c1
theorem mE {W:Z} {b:Nat} {cs:Array aI} {t:bf} (hb:dJ W b cs t) (hcs:∀ (k:Nat) (s:ByteArray),cs[k]?≠X (J s)) (a:cO) (c:C5) (h:∀ j u,(EC.cells c)[j]?=X u->W.cell? (a.add j)=X u):a.block≠b:=fun e=>by
 have c0:=uO hb (h 0 _ rfl) (by rw [sH]; exact e);exact hcs _ _ c0
theorem j5 (me:Int) (s1 s2 s3 s4 s5:Sl):∀ (k:Nat) (i j:Int),(iw me s1 s2 s3 s4 s5)[k]?=X (Y Q i)->(iw me s1 s2 s3 s4 s5)[k+1]?=X (Y Q j)->False:=by
 intro k i j h1 h2
 match k with
 | 0=>simp at h2
 | 1=>simp at h1
 | 2=>simp at h1
 | 3=>simp at h1
 | 4=>simp at h1
 | 5=>simp at h1
 | k+6=>simp at h1
theorem kK (me:Int) (s1 s2 s3 s4 s5:Sl):∀ (k:Nat) (s:ByteArray),(iw me s1 s2 s3 s4 s5)[k]?≠X (J s):=by
 intro k s h
 match k with
 | 0=>simp at h
 | 1=>simp at h
 | 2=>simp at h
 | 3=>simp at h
 | 4=>simp at h
 | 5=>simp at h
 | k+6=>simp at h
theorem eZ {W W':Z} {k:Nat} {me:Int} {s1 s2 s3 s4 s5:Sl} {b:Br} {nv av sv ev ov:Sl} (h:gZ W b nv av sv ev ov) (hb:dJ W k (iw me s1 s2 s3 s4 s5) 33) (hk:∀ j,j<W.heap.size->j≠k->W'.heap[j]?=W.heap[j]?) (hn:q8 W' (dR nv) b.near):gZ W' b nv av sv ev ov where
 near:=hn
 dO:=by
  obtain⟨l,h1,h2⟩:=h.dO;exact⟨l,fQ okD h1 hk (jq hb (fun c=>⟨_,_,rfl,rfl⟩) (j5 me s1 s2 s3 s4 s5)),h2.mono fun x a hx=>⟨hx.1,hx.2.1,fQ AO hx.2.2 hk (mE hb (kK me s1 s2 s3 s4 s5))⟩⟩
 seen:=fQ yD h.seen hk (jq hb (fun c=>⟨_,_,rfl,rfl⟩) (j5 me s1 s2 s3 s4 s5))
 ent:=by
  obtain⟨l,h1,h2⟩:=h.ent;exact⟨l,fQ mY h1 hk (jq hb (fun c=>⟨_,_,rfl,rfl⟩) (j5 me s1 s2 s3 s4 s5)),h2.mono fun x a hx=>⟨hx.1,hx.2.1,hx.2.2.1,hx.2.2.2.1,fQ AO hx.2.2.2.2 hk (mE hb (kK me s1 s2 s3 s4 s5))⟩⟩
 own:=by
  obtain⟨l,h1,h2⟩:=h.own;exact⟨l,fQ okW h1 hk (jq hb (fun c=>⟨_,_,rfl,rfl⟩) (j5 me s1 s2 s3 s4 s5)),h2.mono fun x a hx=>⟨hx.1,fQ AO hx.2 hk (mE hb (kK me s1 s2 s3 s4 s5))⟩⟩
end Go.Proofs.YtkcfgbddlpomgaaGreat.Bk
namespace Go.Proofs.YtkcfgbddlpomgaaGreat.Bk
open Go.RowKit Go.Sort Rw YtkcfgbddlpomgaaGreat.Nm Pr
theorem sI {W:Z} {b:Nat} {z0 z1 z2 z3 z4 z5:aI} (h:dJ W b #[z0,z1,z2,z3,z4,z5] 33) (me:Int) (o1 o2 o3 o4 o5:Option cO) (n1 c1 n2 c2 n3 c3 n4 c4 n5 c5:Nat) :
  (Instr.storeAt 33 (.pointer (X ⟨b,0,aL⟩)) (.agg #[Y Q me,aJ o1 n1 c1,aJ o2 n2 c2,aJ o3 n3 c3,aJ o4 n4 c4,aJ o5 n5 c5])).run L W=.ok () (gP W b (Y Q me) (aJ o1 n1 c1) (aJ o2 n2 c2) (aJ o3 n3 c3) (aJ o4 n4 c4) (aJ o5 n5 c5)):=by
 obtain⟨x0,x1,x2,x3,x4,x5⟩:=h.fA;obtain⟨f0,f1,f2,f3,f4,f5⟩:=h.kg;simp [go_sem,x0,x1,x2,x3,x4,x5,f0,f1,f2,f3,f4,f5]
theorem wm {W:Z} {b:Nat} {z0 z1 z2 z3 z4 z5:aI} (h:dJ W b #[z0,z1,z2,z3,z4,z5] 33):(Instr.loadAt 33 (.pointer (X ⟨b,0,aL⟩))).run L W=.ok (.agg #[z0,z1,z2,z3,z4,z5]) W:=by
 obtain⟨x0,x1,x2,x3,x4,x5⟩:=h.fA;simp [go_sem,x0,x1,x2,x3,x4,x5]
theorem Cg {P:Program} (ρ:Operand->aI) (o:Oper) (x y z:Operand) (t s r:bf) (f:FuncId) (ho:o.op=.call { callee:=.value (.func f),args:=#[x,y,z],argTypes:=#[t,s,r] }) {v u q:aI} (hx:ρ x=v) (hy:ρ y=u) (hz:ρ z=q) (hf:ρ (.func f)=.func (.func f) #[] #[]) (w:Z)
  (hc:(callFunc f #[v,u,q]).run P w=.ok (.enter f #[v,u,q]) w):(execOp ρ o).run P w=.ok (.enter f #[v,u,q]) w:=by
 simp [execOp,ho,resolve,invoke,hx,hy,hz,hf,Deferred.ofValue,hc]
theorem Ky {W:Z} {b:Nat} {c d:Int} (h:dJ W b #[Y Q c,Y Q d] 38):∀ j u,(jm (c,d))[j]?=X u->W.cell? ((⟨b,0,aL⟩:cO).add j)=X u:=by
 intro j u hj;rw [nu,h.cell]
 match j with
 | 0=>exact hj
 | 1=>exact hj
 | j+2=>simp at hj
end Go.Proofs.YtkcfgbddlpomgaaGreat.Bk
namespace Go.Proofs
open Go.Shelf
def Tryz.sortI_ren:Go.Shelf.Ren:=⟨fun | 189=>75 | 125=>105 | 257=>104 | 128=>126 | 129=>127 | 294=>117 | 295=>118 | 296=>119 | 297=>120 | 298=>121 | 299=>122 | 216=>123 | 300=>124 | 301=>125 | 328=>134 | 329=>135 | 330=>136 | 331=>137 | 332=>138 | 215=>116 | 343=>142 | n=>n,fun | 28=>25 | 3=>3 | 46=>158 | 0=>0 | 51=>175 | 53=>177 | 4=>4 | 183=>168 | 182=>167 | 131=>114 | 5=>5 | 9=>9 | 218=>181 | 222=>185 | 228=>189 | 229=>190 | n=>n,fun | n=>n⟩
theorem Tryz.sortI:Go.Proofs.Lays.n189 L Tryz.sortI_ren:={
 mixed:=by kernel_rfl
 f125:=Tryz.func105.trans (congrArg X (by kernel_rfl))
 f128:=Tryz.func126.trans (congrArg X (by kernel_rfl))
 f129:=Tryz.func127.trans (congrArg X (by kernel_rfl))
 f189:=Tryz.func75.trans (congrArg X (by kernel_rfl))
 f215:=Tryz.func116.trans (congrArg X (by kernel_rfl))
 f216:=Tryz.func123.trans (congrArg X (by kernel_rfl))
 f257:=Tryz.func104.trans (congrArg X (by kernel_rfl))
 f294:=Tryz.func117.trans (congrArg X (by kernel_rfl))
 f295:=Tryz.func118.trans (congrArg X (by kernel_rfl))
 f296:=Tryz.func119.trans (congrArg X (by kernel_rfl))
 f297:=Tryz.func120.trans (congrArg X (by kernel_rfl))
 f298:=Tryz.func121.trans (congrArg X (by kernel_rfl))
 f299:=Tryz.func122.trans (congrArg X (by kernel_rfl))
 f300:=Tryz.func124.trans (congrArg X (by kernel_rfl))
 f301:=Tryz.func125.trans (congrArg X (by kernel_rfl))
 f328:=Tryz.func134.trans (congrArg X (by kernel_rfl))
 f329:=Tryz.func135.trans (congrArg X (by kernel_rfl))
 f330:=Tryz.func136.trans (congrArg X (by kernel_rfl))
 f331:=Tryz.func137.trans (congrArg X (by kernel_rfl))
 f332:=Tryz.func138.trans (congrArg X (by kernel_rfl))
 f343:=Tryz.func142.trans (congrArg X (by kernel_rfl))
 t0:=bg
 a0:=bY
 z0:=bN
 v0:=bF
 t3:=bn
 a3:=bZ
 z3:=bO
 v3:=bG
 t4:=bD
 a4:=cu
 z4:=bP
 v4:=bH
 t5:=Tryz.underlying5
 a5:=Tryz.isAgg5
 z5:=Tryz.sizeOf5
 v5:=Tryz.zeroValue5
 t9:=Tryz.underlying9
 a9:=Tryz.isAgg9
 z9:=Tryz.sizeOf9
 v9:=Tryz.zeroValue9
 t28:=aY
 a28:=bQ
 z28:=bI
 v28:=bE
 t46:=Tryz.underlying158
 a46:=Tryz.isAgg158
 z46:=Tryz.sizeOf158
 v46:=Tryz.zeroValue158
 t51:=Tryz.underlying175
 a51:=Tryz.isAgg175
 z51:=Tryz.sizeOf175
 v51:=Tryz.zeroValue175
 t53:=Tryz.underlying177
 a53:=Tryz.isAgg177
 z53:=Tryz.sizeOf177
 v53:=Tryz.zeroValue177
 t131:=Tryz.underlying114
 a131:=Tryz.isAgg114
 z131:=Tryz.sizeOf114
 v131:=Tryz.zeroValue114
 t182:=Tryz.underlying167
 a182:=Tryz.isAgg167
 z182:=Tryz.sizeOf167
 v182:=Tryz.zeroValue167
 t183:=Tryz.underlying168
 a183:=Tryz.isAgg168
 z183:=Tryz.sizeOf168
 v183:=Tryz.zeroValue168
 t218:=Tryz.underlying181
 a218:=Tryz.isAgg181
 z218:=Tryz.sizeOf181
 v218:=Tryz.zeroValue181
 t222:=Tryz.underlying185
 a222:=Tryz.isAgg185
 z222:=Tryz.sizeOf185
 v222:=Tryz.zeroValue185
 t228:=Tryz.underlying189
 a228:=Tryz.isAgg189
 z228:=Tryz.sizeOf189
 v228:=Tryz.zeroValue189
 t229:=Tryz.underlying190
 a229:=Tryz.isAgg190
 z229:=Tryz.sizeOf190
 v229:=Tryz.zeroValue190 }
def Tryz.cptI_ren:Go.Shelf.Ren:=⟨fun | 20=>76 | n=>n,fun | 0=>0 | 3=>3 | 4=>4 | 22=>25 | n=>n,fun | n=>n⟩
theorem Tryz.cptI:Go.Proofs.Lays2.n20 L Tryz.cptI_ren:={
 mixed:=by kernel_rfl
 i3:=by kernel_rfl
 f20:=Tryz.func76.trans (congrArg X (by kernel_rfl))
 t0:=bg
 a0:=bY
 z0:=bN
 v0:=bF
 t3:=bn
 a3:=bZ
 z3:=bO
 v3:=bG
 t4:=bD
 a4:=cu
 z4:=bP
 v4:=bH
 t22:=aY
 a22:=bQ
 z22:=bI
 v22:=bE }
end Go.Proofs
namespace Go.Proofs.YtkcfgbddlpomgaaGreat.Ar
open Go.ChangeShapes Go.WideShapes Go.RowKit
def readable (P:Program) (ts:List bf):Bool:=ts.all fun t=>P.readableRec t && decide (t<P.types.size)
theorem carry {H:Type} {enc:bf×aI->H} {P:Program} (hl:laidOutB P=aV) {W W':Z} (hb:aA W.heap.size W W') :
  ∀ (ts:List bf) (vs:List aI) (ds:List (DataW H)) (ps:List MemPlace),readable P ts=aV->DataW.TrodAll enc P W 0 (fun _=>aV) aV ts vs ds ps->(∀ x∈ps,x.block<W.heap.size) ->
   DataW.TrodAll enc P W' 0 (fun b=>decide (b<W.heap.size)) aV ts vs ds ps
 | [],vs,ds,ps,_,h,_=>by
  obtain⟨rfl,rfl,rfl⟩:=trodAll_nil h;exact trodAll_mk0
 | t::ts,vs,ds,ps,hr,h,hlt=>by
  obtain⟨v,vs',d,ds',p,q,rfl,rfl,rfl,h1,h2⟩:=trodAll_cons h;simp only [readable,List.all_cons,aM,decide_eq_true_eq] at hr;exact trodAll_cons_mk (Below.trod hl hr.1.1 hr.1.2 h1 hb (fun x hx=>hlt x (List.mem_append_left _ hx)))
   (carry hl hb ts vs' ds' q hr.2 h2 (fun x hx=>hlt x (List.mem_append_right _ hx)))
end Go.Proofs.YtkcfgbddlpomgaaGreat.Ar
