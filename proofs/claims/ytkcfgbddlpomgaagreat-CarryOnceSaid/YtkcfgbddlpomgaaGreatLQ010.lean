/-
  The document's own H. Conditions as told.
-/
import Derived.Test.YtkcfgbddlpomgaaGreatLQ008
import Derived.Lib.Strings
import Derived.Laws.Cover3
import Derived.Shelf.Slices.In.SortNone
import Derived.Shelf.Sort.Plain
import Derived.Shelf.Slices.CompactI
import Derived.Shelf.Slices.SearchI
import Derived.OpenShut
import Derived.Carry
import Derived.ChangeMaps5
import Derived.ChangeArms
set_option maxRecDepth 100000
set_option maxHeartbeats 64000000
open _root_.Bool renaming false->aI,true->aQ
open _root_.Go renaming World->ah,Calls->aF,Value->bO,Addr->cO
open Go.Builtin renaming append_->aD
open Go.Ending renaming returned->J
open Go.IntKind renaming i64->ak
open Go.Lib renaming hid->K,toList_data->aH,size_eq->bM
open Go.Obj renaming cells->Z
open Go.Proofs.Tryz renaming prog->D,ntmps131->aj,func131->ay,underlying25->aL,ntmps67->aM,func67->aN,underlying0->aS,underlying3->aT,underlying4->aU,zeroValue25->aV,zeroValue0->aW,zeroValue3->aX,zeroValue4->aY,sizeOf25->aZ,ntmps96->bf,ntmps33->bg,ntmps74->bn,ntmps84->bC,ntmps85->bD,ntmps86->bF,ntmps87->bG,ntmps66->bH,sizeOf0->bI,sizeOf3->bJ,sizeOf4->bK,isAgg25->bL,func96->bN,func33->bQ,func74->bR,func84->bS,func85->bU,func86->bV,func87->bW,func66->bY,isAgg0->bZ,isAgg3->cu,isAgg4->cB
open Go.Proofs.YtkcfgbddlpomgaaGreat.Rw renaming wpList_append_run->aA
open Go.RowKit renaming Below->au
open Go.RowKit.Below renaming refl->aC
open Go.Value renaming slice->L,string->O,bool->V,int->aB
open _root_.List renaming getElem?_eq_getElem->Y,length_map->aJ,getD_eq_getElem?_getD->aK,take_add_one->aO,getElem?_map->aP,take_length->aR
open _root_.Nat renaming le_refl->aG,zero_le->bP,mod_lt->cK
open _root_.Option renaming some->U,none->X
namespace Go.Proofs.YtkcfgbddlpomgaaGreat.Rl
open Go.RowKit Pu Rw Pr Va
theorem nV (s p:ByteArray) (w:ah):aF D 96 #[O s,O p] w fun e w'=>e=J (V (pfx p s))/\w'=w:=by
 show aF D _ _ _ fun e w'=>e=J (V (Lib.hasPrefix s.data.toList p.data.toList))/\w'=w;rw [<- Lib.hasPrefix_of_take,<- bM,<- bM];by_cases h:p.size<=s.size
 ·have e1:(((s.size:Nat):Int) ≥ ((p.size:Nat):Int)):=by omega
  have H:=K h;go_enter bN,bf;go_wp2
  all_goals (go_ret; refine⟨?_,rfl⟩; show J (V ((s.extract 0 p.size).toList == p.toList))=_; rw [Lib.extract_toList,aH]; simp [h])
 ·have H:=K h;go_enter bN,bf;go_wp2
  all_goals (go_ret; refine⟨?_,rfl⟩; show J (V aI)=_; simp [H.out])
theorem rB (w:ah) (nm:ByteArray) (k lo hi:Int) (u:ByteArray) (t:Bool) (n:Int) (s:ByteArray):au w.heap.size w ((w.alloc (Z #[O nm,aB ak k,aB ak lo,aB ak hi,O u] 106)).alloc (Z #[V t,aB ak n,O s] 93)) :=
 ((aC w.heap.size w).alloc (aG _) _).alloc (by simp) _
theorem rC (w:ah) (nm:ByteArray) (k lo hi:Int) (u:ByteArray) (nm':ByteArray) (k' lo' hi':Int) (u':ByteArray):au w.heap.size w ((w.alloc (Z #[O nm,aB ak k,aB ak lo,aB ak hi,O u] 106)).alloc (Z #[O nm',aB ak k',aB ak lo',aB ak hi',O u'] 106)) :=
 ((aC w.heap.size w).alloc (aG _) _).alloc (by simp) _
theorem Nn (nm:ByteArray) (lo hi:Int) (t:Bool) (n:Int) (s:ByteArray) (w:ah):aF D 67 #[cv (r5 (nm,.rg lo hi)),vl t n s] w fun e w'=>e=J (V (dU (.rg lo hi) (t,n,s)))/\au w.heap.size w w':=by
 simp only [r5,kN,jh,ji,kT];have R:=K (show dU (.rg lo hi) (t,n,s)=(!t && (decide (lo<=n) && decide (n<=hi))) from rfl);have B:=K (rB w nm 1 lo hi ⟨#[]⟩ t n s);generalize dU (.rg lo hi) (t,n,s)=r at *;by_cases h1:lo<=n <;> have H1:=K h1 <;> cases t <;> go_enter aN,aM <;> go_wp2 <;> go_ret <;> exact⟨eP (by rw [R.out]; have h:=H1.out; simp [h] <;> omega),B.out⟩
theorem Np (nm u:ByteArray) (t:Bool) (n:Int) (s:ByteArray) (w:ah):aF D 67 #[cv (r5 (nm,.tx u)),vl t n s] w fun e w'=>e=J (V (dU (.tx u) (t,n,s)))/\au w.heap.size w w':=by
 simp only [r5,kN,jh,ji,kT];have R:=K (show dU (.tx u) (t,n,s)=(t && (s.data.toList == u.data.toList)) from rfl);have B:=K (rB w nm 2 0 0 u t n s);generalize dU (.tx u) (t,n,s)=r at *;cases t <;> go_enter aN,aM <;> go_wp2 <;> go_ret <;> exact⟨eP (by rw [R.out]; simp [aH]),B.out⟩
theorem Nq (nm u:ByteArray) (t:Bool) (n:Int) (s:ByteArray) (w:ah):aF D 67 #[cv (r5 (nm,.pr u)),vl t n s] w fun e w'=>e=J (V (dU (.pr u) (t,n,s)))/\au w.heap.size w w':=by
 simp only [r5,kN,jh,ji,kT];have R:=K (show dU (.pr u) (t,n,s)=(t && pfx u s) from rfl);have B:=K (rB w nm 3 0 0 u t n s);generalize dU (.pr u) (t,n,s)=r at *;cases t
 ·go_enter aN,aM;go_wp2;go_ret;exact⟨eP (by rw [R.out]; simp),B.out⟩
 ·go_enter aN,aM;go_wp2_with fail;refine (nV s u _).mono ?_;rintro e w' ⟨rfl,rfl⟩;go_wp2;go_ret;exact⟨eP (by rw [R.out]; simp),B.out⟩
theorem tV (c:Cn) (t:Bool) (n:Int) (s:ByteArray) (w:ah):aF D 67 #[cv (r5 c),vl t n s] w fun e w'=>e=J (V (dU c.2 (t,n,s)))/\au w.heap.size w w':=by
 obtain⟨nm,k⟩:=c;cases k with
 | rg lo hi=>exact Nn nm lo hi t n s w
 | tx u=>exact Np nm u t n s w
 | pr u=>exact Nq nm u t n s w
theorem aal (n1 n2:ByteArray) (lo1 hi1:Int) (lo2 hi2:Int) (w:ah):aF D 131 #[cv (r5 (n1,(.rg lo1 hi1))),cv (r5 (n2,(.rg lo2 hi2)))] w fun e w'=>e=J (V (eB (.rg lo1 hi1) (.rg lo2 hi2)))/\au w.heap.size w w':=by
 simp only [r5,kN,jh,ji,kT];have B:=K (rC w n1 1 lo1 hi1 ⟨#[]⟩ n2 1 lo2 hi2 ⟨#[]⟩);have R:=K (show eB (.rg lo1 hi1) (.rg lo2 hi2)=(decide (lo2<=lo1) && decide (hi1<=hi2)) from rfl);generalize eB (.rg lo1 hi1) (.rg lo2 hi2)=r at *;by_cases h1:lo2<=lo1 <;> have H1:=K h1 <;> go_enter ay,aj <;> go_wp2 <;> go_ret <;> exact⟨eP (by rw [R.out]; have h:=H1.out; simp [h] <;> omega),B.out⟩
theorem aam (n1 n2:ByteArray) (lo1 hi1:Int) (u2:ByteArray) (w:ah):aF D 131 #[cv (r5 (n1,(.rg lo1 hi1))),cv (r5 (n2,(.tx u2)))] w fun e w'=>e=J (V (eB (.rg lo1 hi1) (.tx u2)))/\au w.heap.size w w':=by
 simp only [r5,kN,jh,ji,kT];have B:=K (rC w n1 1 lo1 hi1 ⟨#[]⟩ n2 2 0 0 u2);have R:=K (show eB (.rg lo1 hi1) (.tx u2)=(aI) from rfl);generalize eB (.rg lo1 hi1) (.tx u2)=r at *;go_enter ay,aj <;> go_wp2 <;> go_ret <;> exact⟨eP (by rw [R.out]),B.out⟩
theorem aan (n1 n2:ByteArray) (lo1 hi1:Int) (u2:ByteArray) (w:ah):aF D 131 #[cv (r5 (n1,(.rg lo1 hi1))),cv (r5 (n2,(.pr u2)))] w fun e w'=>e=J (V (eB (.rg lo1 hi1) (.pr u2)))/\au w.heap.size w w':=by
 simp only [r5,kN,jh,ji,kT];have B:=K (rC w n1 1 lo1 hi1 ⟨#[]⟩ n2 3 0 0 u2);have R:=K (show eB (.rg lo1 hi1) (.pr u2)=(aI) from rfl);generalize eB (.rg lo1 hi1) (.pr u2)=r at *;go_enter ay,aj <;> go_wp2 <;> go_ret <;> exact⟨eP (by rw [R.out]),B.out⟩
theorem aao (n1 n2:ByteArray) (u1:ByteArray) (lo2 hi2:Int) (w:ah):aF D 131 #[cv (r5 (n1,(.tx u1))),cv (r5 (n2,(.rg lo2 hi2)))] w fun e w'=>e=J (V (eB (.tx u1) (.rg lo2 hi2)))/\au w.heap.size w w':=by
 simp only [r5,kN,jh,ji,kT];have B:=K (rC w n1 2 0 0 u1 n2 1 lo2 hi2 ⟨#[]⟩);have R:=K (show eB (.tx u1) (.rg lo2 hi2)=(aI) from rfl);generalize eB (.tx u1) (.rg lo2 hi2)=r at *;go_enter ay,aj <;> go_wp2 <;> go_ret <;> exact⟨eP (by rw [R.out]),B.out⟩
theorem aap (n1 n2:ByteArray) (u1:ByteArray) (u2:ByteArray) (w:ah):aF D 131 #[cv (r5 (n1,(.tx u1))),cv (r5 (n2,(.tx u2)))] w fun e w'=>e=J (V (eB (.tx u1) (.tx u2)))/\au w.heap.size w w':=by
 simp only [r5,kN,jh,ji,kT];have B:=K (rC w n1 2 0 0 u1 n2 2 0 0 u2);have R:=K (show eB (.tx u1) (.tx u2)=(u1.data.toList == u2.data.toList) from rfl);generalize eB (.tx u1) (.tx u2)=r at *;go_enter ay,aj <;> go_wp2 <;> go_ret <;> exact⟨eP (by rw [R.out]; simp [aH]),B.out⟩
theorem aaq (n1 n2:ByteArray) (u1:ByteArray) (u2:ByteArray) (w:ah):aF D 131 #[cv (r5 (n1,(.tx u1))),cv (r5 (n2,(.pr u2)))] w fun e w'=>e=J (V (eB (.tx u1) (.pr u2)))/\au w.heap.size w w':=by
 simp only [r5,kN,jh,ji,kT];have B:=K (rC w n1 2 0 0 u1 n2 3 0 0 u2);have R:=K (show eB (.tx u1) (.pr u2)=(pfx u2 u1) from rfl);generalize eB (.tx u1) (.pr u2)=r at *;go_enter ay,aj;go_wp2_with fail;refine (nV u1 u2 _).mono ?_;rintro e w' ⟨rfl,rfl⟩;go_wp2;go_ret;exact⟨eP (by rw [R.out]),B.out⟩
theorem aar (n1 n2:ByteArray) (u1:ByteArray) (lo2 hi2:Int) (w:ah):aF D 131 #[cv (r5 (n1,(.pr u1))),cv (r5 (n2,(.rg lo2 hi2)))] w fun e w'=>e=J (V (eB (.pr u1) (.rg lo2 hi2)))/\au w.heap.size w w':=by
 simp only [r5,kN,jh,ji,kT];have B:=K (rC w n1 3 0 0 u1 n2 1 lo2 hi2 ⟨#[]⟩);have R:=K (show eB (.pr u1) (.rg lo2 hi2)=(aI) from rfl);generalize eB (.pr u1) (.rg lo2 hi2)=r at *;go_enter ay,aj <;> go_wp2 <;> go_ret <;> exact⟨eP (by rw [R.out]),B.out⟩
theorem aas (n1 n2:ByteArray) (u1:ByteArray) (u2:ByteArray) (w:ah):aF D 131 #[cv (r5 (n1,(.pr u1))),cv (r5 (n2,(.tx u2)))] w fun e w'=>e=J (V (eB (.pr u1) (.tx u2)))/\au w.heap.size w w':=by
 simp only [r5,kN,jh,ji,kT];have B:=K (rC w n1 3 0 0 u1 n2 2 0 0 u2);have R:=K (show eB (.pr u1) (.tx u2)=(aI) from rfl);generalize eB (.pr u1) (.tx u2)=r at *;go_enter ay,aj <;> go_wp2 <;> go_ret <;> exact⟨eP (by rw [R.out]),B.out⟩
theorem aat (n1 n2:ByteArray) (u1:ByteArray) (u2:ByteArray) (w:ah):aF D 131 #[cv (r5 (n1,(.pr u1))),cv (r5 (n2,(.pr u2)))] w fun e w'=>e=J (V (eB (.pr u1) (.pr u2)))/\au w.heap.size w w':=by
 simp only [r5,kN,jh,ji,kT];have B:=K (rC w n1 3 0 0 u1 n2 3 0 0 u2);have R:=K (show eB (.pr u1) (.pr u2)=(pfx u2 u1) from rfl);generalize eB (.pr u1) (.pr u2)=r at *;go_enter ay,aj;go_wp2_with fail;refine (nV u1 u2 _).mono ?_;rintro e w' ⟨rfl,rfl⟩;go_wp2;go_ret;exact⟨eP (by rw [R.out]),B.out⟩
theorem Fp (c d:Cn) (w:ah):aF D 131 #[cv (r5 c),cv (r5 d)] w fun e w'=>e=J (V (eB c.2 d.2))/\au w.heap.size w w':=by
 obtain⟨n1,k1⟩:=c;obtain⟨n2,k2⟩:=d;cases k1 <;> cases k2
 ·exact aal _ _ _ _ _ _ _
 ·exact aam _ _ _ _ _ _
 ·exact aan _ _ _ _ _ _
 ·exact aao _ _ _ _ _ _
 ·exact aap _ _ _ _ _
 ·exact aaq _ _ _ _ _
 ·exact aar _ _ _ _ _ _
 ·exact aas _ _ _ _ _
 ·exact aat _ _ _ _ _
def vR (x y:Cn):Bool:=decide (y.1=x.1) && eB y.2 x.2
theorem Ql {α:Type} (f:α->Bool) (l:List α) (k:Nat) (y:α) (h:l[k]?=U y):(l.take (k+1)).any f=((l.take k).any f || f y):=by
 rw [aO,h,List.any_append];simp
theorem yF {α:Type} (f:α->Bool) (l:List α) (k:Nat) (y:α) (h:l[k]?=U y):(l.take (k+1)).all f=((l.take k).all f && f y):=by
 rw [aO,h,List.all_append];simp
theorem Dx {α:Type} (f:α->Bool) (l:List α) (k:Nat) (y:α) (h:l[k]?=U y) (hf:f y=aI):l.all f=aI:=by
 rw [List.all_eq_false];exact⟨y,List.mem_of_getElem? h,by simp [hf]⟩
theorem str_eq (a b:ByteArray) (h:a=b):(a.toList == b.toList)=aQ:=by simp [h]
theorem aau (a b:ByteArray) (h:¬ a=b):(a.toList == b.toList)=aI:=by
 rw [beq_eq_false_iff_ne];intro e;rw [aH,aH] at e;exact h (rE e)
theorem Fq (Bc bv:bO) (a b:List Cn) (w:ah) (ha:fK w Bc (a.map r5)) (hb:fK w bv (b.map r5)) (hl:a.length<=100) (hm:b.length<=100) :
  aF D 110 #[Bc,bv] w fun e w'=>e=J (V (oG a b))/\au w.heap.size w w':=by
 have HA:=K ha;have HB:=K hb;have CO:=K (show oG a b=a.all fun x=>b.any (vR x) from rfl);obtain⟨ao,ac,rfl⟩:=ha.len;obtain⟨bo,bc,rfl⟩:=hb.len;clear ha hb;rw [aJ] at HA HB ⊢;rw [aJ];generalize oG a b=r at *;generalize hn:a.length=n at *;generalize hm':b.length=m at *;have HN:=K hn;have HM:=K hm';clear hn hm';go_enter Tryz.func110,Tryz.ntmps110;go_wp2
 go_loopw [12] (fun i wr=>∃ k:Nat,k<=n/\i=aB ak k/\au w.heap.size w wr/\(a.take k).all (fun x=>b.any (vR x))=aQ) (fun i _=>n-(intOf i).toNat)
 case atStart=>exact⟨0,bP _,rfl,aC _ _,rfl⟩
 case round =>
  obtain⟨k,hk,rfl,hbe,hall⟩:=hrel;have BE:=K hbe;have AL:=K hall;clear hbe hall;by_cases hlt:k<n
  ·obtain⟨x,hx⟩:∃ x,a[k]?=U x:=⟨_,Y (by rw [HN.out]; exact hlt)⟩;obtain⟨p,ix,px⟩:=elC HA.out rfl (by rw [aJ]; exact HN.out) (show (a.map r5)[k]?=U (r5 x) by rw [aP,hx]; rfl);have p0:=(px _ BE.out).1;have p1:=(px _ BE.out).2.1;have p2:=(px _ BE.out).2.2.1;have p3:=(px _ BE.out).2.2.2.1;have p4:=(px _ BE.out).2.2.2.2;have HX:=K hx;have B1:=K (BE.out.alloc BE.out.size (Z #[O (r5 x).1,aB ak (r5 x).2.1,aB ak (r5 x).2.2.1,aB ak (r5 x).2.2.2.1,O (r5 x).2.2.2.2] 106));have Z1:=K (show wr.heap.size<(wr.alloc (Z #[O (r5 x).1,aB ak (r5 x).2.1,aB ak (r5 x).2.2.1,aB ak (r5 x).2.2.2.1,O (r5 x).2.2.2.2] 106)).heap.size by simp);have e0:(wr.alloc (Z #[O (r5 x).1,aB ak (r5 x).2.1,aB ak (r5 x).2.2.1,aB ak (r5 x).2.2.2.1,O (r5 x).2.2.2.2] 106)).cell? ⟨wr.heap.size,0,X⟩=U (O (r5 x).1):=by simp [go_sem]
   have e1:(wr.alloc (Z #[O (r5 x).1,aB ak (r5 x).2.1,aB ak (r5 x).2.2.1,aB ak (r5 x).2.2.2.1,O (r5 x).2.2.2.2] 106)).cell? ⟨wr.heap.size,1,X⟩=U (aB ak (r5 x).2.1):=by simp [go_sem]
   have e2:(wr.alloc (Z #[O (r5 x).1,aB ak (r5 x).2.1,aB ak (r5 x).2.2.1,aB ak (r5 x).2.2.2.1,O (r5 x).2.2.2.2] 106)).cell? ⟨wr.heap.size,2,X⟩=U (aB ak (r5 x).2.2.1):=by simp [go_sem]
   have e3:(wr.alloc (Z #[O (r5 x).1,aB ak (r5 x).2.1,aB ak (r5 x).2.2.1,aB ak (r5 x).2.2.2.1,O (r5 x).2.2.2.2] 106)).cell? ⟨wr.heap.size,3,X⟩=U (aB ak (r5 x).2.2.2.1):=by simp [go_sem]
   have e4:(wr.alloc (Z #[O (r5 x).1,aB ak (r5 x).2.1,aB ak (r5 x).2.2.1,aB ak (r5 x).2.2.2.1,O (r5 x).2.2.2.2] 106)).cell? ⟨wr.heap.size,4,X⟩=U (O (r5 x).2.2.2.2):=by simp [go_sem]
   clear px hx;go_wp2;generalize wr.alloc (Z #[O (r5 x).1,aB ak (r5 x).2.1,aB ak (r5 x).2.2.1,aB ak (r5 x).2.2.2.1,O (r5 x).2.2.2.2] 106)=W1 at *;generalize wr.heap.size=bx at *;have E0:=K e0;have E1:=K e1;have E2:=K e2;have E3:=K e3;have E4:=K e4;clear e0 e1 e2 e3 e4 ix p0 p1 p2 p3 p4
   go_loopw [7,18] (fun v i wi=>∃ j:Nat,j<=m/\i=aB ak j/\v=V ((b.take j).any (vR x))/\au W1.heap.size W1 wi) (fun _ i _=>m-(intOf i).toNat)
   case atStart=>exact⟨0,bP _,rfl,rfl,aC _ _⟩
   case round =>
    obtain⟨j,hj,rfl,rfl,hbi⟩:=hrel;have BI:=K hbi;have TK:=K (B1.out.trans (hbi.mono B1.out.size));clear hbi;by_cases hjt:j<m
    ·obtain⟨y,hy⟩:∃ y,b[j]?=U y:=⟨_,Y (by rw [HM.out]; exact hjt)⟩;obtain⟨q,iy,py⟩:=elC HB.out rfl (by rw [aJ]; exact HM.out) (show (b.map r5)[j]?=U (r5 y) by rw [aP,hy]; rfl);have q0:=(py _ TK.out).1;have q1:=(py _ TK.out).2.1;have q2:=(py _ TK.out).2.2.1;have q3:=(py _ TK.out).2.2.2.1;have q4:=(py _ TK.out).2.2.2.2;have MO:=K (Ql (vR x) b j y hy);have VN:=K (BI.out.alloc BI.out.size (Z #[O (r5 y).1,aB ak (r5 y).2.1,aB ak (r5 y).2.2.1,aB ak (r5 y).2.2.2.1,O (r5 y).2.2.2.2] 106));have f0:=(VN.out.cell (p:=⟨bx,0,X⟩) Z1.out).trans E0.out;have f1:=(VN.out.cell (p:=⟨bx,1,X⟩) Z1.out).trans E1.out;have f2:=(VN.out.cell (p:=⟨bx,2,X⟩) Z1.out).trans E2.out;have f3:=(VN.out.cell (p:=⟨bx,3,X⟩) Z1.out).trans E3.out;have f4:=(VN.out.cell (p:=⟨bx,4,X⟩) Z1.out).trans E4.out;clear py hy;cases hv:(b.take j).any (vR x)
     ·rw [hv] at MO;clear hv;by_cases hne:y.1=x.1
      ·have g0:=str_eq (r5 y).1 (r5 x).1 hne;have CV:=K (show vR x y=eB y.2 x.2 by simp [vR,hne]);go_wp2_with fail;refine (Fp y x _).mono ?_;rintro e w2 ⟨rfl,hc⟩;have BC:=K (VN.out.trans (hc.mono VN.out.size));clear hc;go_wp2
       go_roundw
       case rel=>exact⟨j+1,by omega,by go_num,by rw [MO.out,CV.out]; rfl,BC.out⟩
       case measure=>simp [intOf]; omega
      ·have g0:=aau (r5 y).1 (r5 x).1 hne;have CV:=K (show vR x y=aI by simp [vR,hne]);go_wp2
       go_roundw
       case rel=>exact⟨j+1,by omega,by go_num,by rw [MO.out,CV.out]; rfl,VN.out⟩
       case measure=>simp [intOf]; omega
     ·rw [hv] at MO;clear hv;go_wp2
      go_roundw
      case rel=>exact⟨j+1,by omega,by go_num,by rw [MO.out]; rfl,VN.out⟩
      case measure=>simp [intOf]; omega
    ·obtain rfl:j=m:=by omega
     have TA:=K (show (b.take j).any (vR x)=b.any (vR x) by rw [<- HM.out,aR]);have AM:=K (yF (fun x=>b.any (vR x)) a k x HX.out);rw [TA.out];cases hv:b.any (vR x)
     ·have R:=K (show r=aI from CO.out.trans (Dx _ a k x HX.out hv));clear hv;go_wp2;go_ret;exact⟨eP R.out.symm,TK.out⟩
     ·have HV:=K hv;clear hv;go_wp2
      go_roundw
      case rel=>exact⟨k+1,by omega,by go_num,TK.out,by rw [AM.out,AL.out,HV.out]; rfl⟩
      case measure=>simp [intOf]; omega
  ·obtain rfl:k=n:=by omega
   have R:=K (show r=aQ by rw [CO.out,<- AL.out,<- HN.out,aR]);go_wp2;go_ret;exact⟨eP R.out.symm,BE.out⟩
end Go.Proofs.YtkcfgbddlpomgaaGreat.Rl
namespace Go.Proofs.YtkcfgbddlpomgaaGreat.Kp
open Go.RowKit Va In
def nm (i:Nat):ByteArray:=⟨#[UInt8.ofNat (97+i)]⟩
def nu:Array bO:=#[O ⟨#[97]⟩,O ⟨#[98]⟩,O ⟨#[99]⟩,O ⟨#[100]⟩,O ⟨#[101]⟩,O ⟨#[102]⟩,O ⟨#[103]⟩]
theorem Qm (i:Nat) (h:i<7):nu[i]?=U (O (nm i)):=by
 match i,h with
 | 0,_=>rfl
 | 1,_=>rfl
 | 2,_=>rfl
 | 3,_=>rfl
 | 4,_=>rfl
 | 5,_=>rfl
 | 6,_=>rfl
theorem vS (w:ah):aF D 31 #[] w fun e w'=>e=J (L (U ⟨w.heap.size,0,X⟩) 7 7)/\w'=w.alloc (Z nu 9):=by
 go_enter Tryz.func31,Tryz.ntmps31;go_wp2;go_ret;exact⟨rfl,rfl⟩
def jU (zs:List Int) (i:Nat):Int:=if zs=[] then 0 else zs.getD (i % zs.length) 0
theorem yG (nv:bO) (zs:List Int) (i:Nat) (w:ah) (hz:jl w nv zs) (hl:zs.length<=maxLen) (hi:i<=100) :
  aF D 33 #[nv,aB ak i] w fun e w'=>e=J (aB ak (jU zs i))/\w=w':=by
 obtain⟨ao,cap,rfl⟩:=hz.shape;unfold maxLen at hl;cases zs with
 | nil =>
  go_enter bQ,bg;go_wp2;go_ret;exact⟨rfl,rfl⟩
 | cons z r =>
  have hm:i % (z::r).length<(z::r).length:=cK _ (by simp);obtain⟨y,hy⟩:∃ y,(z::r)[i % (z::r).length]?=U y:=⟨_,Y hm⟩;obtain⟨_,p,_,hix,hpc⟩:=hz.at_ _ y hy;have P:=K (show jU (z::r) i=y by unfold jU; rw [if_neg (by simp),aK,hy]; rfl);have h0:((((z::r).length:Nat):Int) == 0)=aI:=by simp; omega
  have hne:(((z::r).length:Nat):Int)≠0:=by simp; omega
  have ht:(i:Int) % ((z::r).length:Nat)=((i % (z::r).length:Nat):Int):=rfl;have ht2:(i:Int).tmod ((z::r).length:Nat)=((i % (z::r).length:Nat):Int):=by
   rw [Int.tmod_eq_emod_of_nonneg (by omega)]; rfl
  have hn0:0<(((z::r).length:Nat):Int):=by simp
  generalize (z::r).length=n at *;generalize i % n=m at *;clear hz hy hm;go_enter bQ,bg;go_wp2;go_ret;exact⟨Wi.xM P.out.symm,rfl⟩
def odd (z:Int):Bool:=bits BinOp.and ak z 1 == 1
theorem yH {W:ah} {nv:bO} {zs:List Int} (hz:jl W nv zs) (i:Nat):-9223372036854775808<=jU zs i/\jU zs i<=9223372036854775807:=by
 unfold jU
 split
 ·omega
 ·rename_i h
  have hm:i % zs.length<zs.length:=cK _ (List.length_pos_iff.2 h);have:=(hz.at_ _ _ (Y hm)).1;rw [aK,Y hm];exact this
end Go.Proofs.YtkcfgbddlpomgaaGreat.Kp
namespace Go.Proofs.YtkcfgbddlpomgaaGreat.Av
open Go.RowKit Rw YtkcfgbddlpomgaaGreat.Nm Pr Bk Rg
theorem Qn (a:Option cO) (n c:Nat) (w:ah):(binOp .eql 25 (L a n c) (L X 0 0)).run D w=.ok (V a.isNone) w:=by
 simp [go_sem,binOp,run_equal_slice_nil (P:=D) w 25 3 a n c aL]
theorem yI (v:Sl) (l:List Int) (w:ah) (hv:Row EI w (dP v) l) (hl:l.length<=900) :
  aF D 74 #[dP v] w fun e w'=>(∃ v':Sl,e=J (dP v')/\Own EI w' w.heap.size (dP v') l)/\au w.heap.size w w':=by
 obtain⟨vo,vn,vc⟩:=v;rcases hv with⟨rfl,hv⟩|⟨a,cap,hv,h1,h2,h3⟩
 ·obtain⟨rfl,rfl,rfl⟩:vo=X/\vn=0/\vc=0:=by simpa using hv
  clear hv hl;have q:∀ w',(binOp .eql 25 (L X 0 0) (L X 0 0)).run D w'=.ok (V aQ) w':=fun w'=>Qn X 0 0 w';go_enter bR,bn;go_wp2;go_ret;exact⟨⟨(X,0,0),rfl,gy _ _⟩,aC _ _⟩
 ·obtain⟨rfl,rfl,rfl⟩:vo=U a/\vn=l.length/\vc=cap:=by simpa using hv
  have hx:Row EI w (L (U a) l.length vc) l:=Or.inr ⟨a,vc,rfl,h1,h2,h3⟩;have n0:=fO w (Z #[] 3);obtain⟨q0,w0,r0,o0,g0⟩:=iC Nm.IL w.heap.size (dK w #[] 3) (aG _) (hx.on n0) (by omega) 25;obtain⟨v1,v3,hv1⟩:=(Row.dw o0).len;obtain⟨n,hn⟩:∃ n,n=l.length:=⟨_,rfl⟩;have Q:=K (show (∃ v':Sl,J q0=J (dP v')/\Own EI w0 w.heap.size (dP v') l)/\au w.heap.size w w0 from ⟨⟨(v1,l.length,v3),by rw [hv1],by subst hv1; exact o0⟩,n0.trans (g0.mono n0.size)⟩);rw [<- hn] at r0 ⊢;clear hv h1 h2 h3 hx o0 g0 n0 hv1 hn hl;have q:∀ w',(binOp .eql 25 (L (U a) n vc) (L X 0 0)).run D w'=.ok (V aI) w':=fun w'=>Qn (U a) n vc w';have r0:(aD #[25,25] 25 #[L (U ⟨w.heap.size,0,X⟩) 0 0,L (U a) n vc]).run D (w.alloc (Z #[] 3))=.ok q0 w0:=r0;go_enter bR,bn;go_wp2_with (first | (at_builtin; refine aA rfl _ _ 25 rfl rfl rfl r0 ?_) | fail);go_ret;exact Q.out
theorem Qo (a:Option cO) (n c:Nat) (w:ah):(binOp .eql 29 (L a n c) (L X 0 0)).run D w=.ok (V a.isNone) w:=by
 simp [go_sem,binOp,run_equal_slice_nil (P:=D) w 29 38 a n c Tryz.underlying29]
theorem Jg (v:Sl) (l:List eG) (w:ah) (hv:Row EJ w (dP v) l) (hl:l.length<=900) :
  aF D 84 #[dP v] w fun e w'=>(∃ v':Sl,e=J (dP v')/\Own EJ w' w.heap.size (dP v') l)/\au w.heap.size w w':=by
 obtain⟨vo,vn,vc⟩:=v;rcases hv with⟨rfl,hv⟩|⟨a,cap,hv,h1,h2,h3⟩
 ·obtain⟨rfl,rfl,rfl⟩:vo=X/\vn=0/\vc=0:=by simpa using hv
  clear hv hl;have q:∀ w',(binOp .eql 29 (L X 0 0) (L X 0 0)).run D w'=.ok (V aQ) w':=fun w'=>Qo X 0 0 w';go_enter bS,bC;go_wp2;go_ret;exact⟨⟨(X,0,0),rfl,gy _ _⟩,aC _ _⟩
 ·obtain⟨rfl,rfl,rfl⟩:vo=U a/\vn=l.length/\vc=cap:=by simpa using hv
  have hx:Row EJ w (L (U a) l.length vc) l:=Or.inr ⟨a,vc,rfl,h1,h2,h3⟩;have n0:=fO w (Z #[] 38);obtain⟨q0,w0,r0,o0,g0⟩:=iC Ah w.heap.size (dK w #[] 38) (aG _) (hx.on n0) (by omega) 29;obtain⟨v1,v3,hv1⟩:=(Row.dw o0).len;obtain⟨n,hn⟩:∃ n,n=l.length:=⟨_,rfl⟩;have Q:=K (show (∃ v':Sl,J q0=J (dP v')/\Own EJ w0 w.heap.size (dP v') l)/\au w.heap.size w w0 from ⟨⟨(v1,l.length,v3),by rw [hv1],by subst hv1; exact o0⟩,n0.trans (g0.mono n0.size)⟩);rw [<- hn] at r0 ⊢;clear hv h1 h2 h3 hx o0 g0 n0 hv1 hn hl;have q:∀ w',(binOp .eql 29 (L (U a) n vc) (L X 0 0)).run D w'=.ok (V aI) w':=fun w'=>Qo (U a) n vc w';have r0:(aD #[29,29] 29 #[L (U ⟨w.heap.size,0,X⟩) 0 0,L (U a) n vc]).run D (w.alloc (Z #[] 38))=.ok q0 w0:=r0;go_enter bS,bC;go_wp2_with (first | (at_builtin; refine aA rfl _ _ 29 rfl rfl rfl r0 ?_) | fail);go_ret;exact Q.out
theorem Qp (a:Option cO) (n c:Nat) (w:ah):(binOp .eql 28 (L a n c) (L X 0 0)).run D w=.ok (V a.isNone) w:=by
 simp [go_sem,binOp,run_equal_slice_nil (P:=D) w 28 53 a n c Tryz.underlying28]
theorem Jh (v:Sl) (l:List jC) (w:ah) (hv:Row ED w (dP v) l) (hl:l.length<=900) :
  aF D 85 #[dP v] w fun e w'=>(∃ v':Sl,e=J (dP v')/\Own ED w' w.heap.size (dP v') l)/\au w.heap.size w w':=by
 obtain⟨vo,vn,vc⟩:=v;rcases hv with⟨rfl,hv⟩|⟨a,cap,hv,h1,h2,h3⟩
 ·obtain⟨rfl,rfl,rfl⟩:vo=X/\vn=0/\vc=0:=by simpa using hv
  clear hv hl;have q:∀ w',(binOp .eql 28 (L X 0 0) (L X 0 0)).run D w'=.ok (V aQ) w':=fun w'=>Qp X 0 0 w';go_enter bU,bD;go_wp2;go_ret;exact⟨⟨(X,0,0),rfl,gy _ _⟩,aC _ _⟩
 ·obtain⟨rfl,rfl,rfl⟩:vo=U a/\vn=l.length/\vc=cap:=by simpa using hv
  have hx:Row ED w (L (U a) l.length vc) l:=Or.inr ⟨a,vc,rfl,h1,h2,h3⟩;have n0:=fO w (Z #[] 53);obtain⟨q0,w0,r0,o0,g0⟩:=iC okD w.heap.size (dK w #[] 53) (aG _) (hx.on n0) (by omega) 28;obtain⟨v1,v3,hv1⟩:=(Row.dw o0).len;obtain⟨n,hn⟩:∃ n,n=l.length:=⟨_,rfl⟩;have Q:=K (show (∃ v':Sl,J q0=J (dP v')/\Own ED w0 w.heap.size (dP v') l)/\au w.heap.size w w0 from ⟨⟨(v1,l.length,v3),by rw [hv1],by subst hv1; exact o0⟩,n0.trans (g0.mono n0.size)⟩);rw [<- hn] at r0 ⊢;clear hv h1 h2 h3 hx o0 g0 n0 hv1 hn hl;have q:∀ w',(binOp .eql 28 (L (U a) n vc) (L X 0 0)).run D w'=.ok (V aI) w':=fun w'=>Qp (U a) n vc w';have r0:(aD #[28,28] 28 #[L (U ⟨w.heap.size,0,X⟩) 0 0,L (U a) n vc]).run D (w.alloc (Z #[] 53))=.ok q0 w0:=r0;go_enter bU,bD;go_wp2_with (first | (at_builtin; refine aA rfl _ _ 28 rfl rfl rfl r0 ?_) | fail);go_ret;exact Q.out
theorem Qq (a:Option cO) (n c:Nat) (w:ah):(binOp .eql 30 (L a n c) (L X 0 0)).run D w=.ok (V a.isNone) w:=by
 simp [go_sem,binOp,run_equal_slice_nil (P:=D) w 30 68 a n c Tryz.underlying30]
theorem Ji (v:Sl) (l:List iF) (w:ah) (hv:Row EN w (dP v) l) (hl:l.length<=900) :
  aF D 86 #[dP v] w fun e w'=>(∃ v':Sl,e=J (dP v')/\Own EN w' w.heap.size (dP v') l)/\au w.heap.size w w':=by
 obtain⟨vo,vn,vc⟩:=v;rcases hv with⟨rfl,hv⟩|⟨a,cap,hv,h1,h2,h3⟩
 ·obtain⟨rfl,rfl,rfl⟩:vo=X/\vn=0/\vc=0:=by simpa using hv
  clear hv hl;have q:∀ w',(binOp .eql 30 (L X 0 0) (L X 0 0)).run D w'=.ok (V aQ) w':=fun w'=>Qq X 0 0 w';go_enter bV,bF;go_wp2;go_ret;exact⟨⟨(X,0,0),rfl,gy _ _⟩,aC _ _⟩
 ·obtain⟨rfl,rfl,rfl⟩:vo=U a/\vn=l.length/\vc=cap:=by simpa using hv
  have hx:Row EN w (L (U a) l.length vc) l:=Or.inr ⟨a,vc,rfl,h1,h2,h3⟩;have n0:=fO w (Z #[] 68);obtain⟨q0,w0,r0,o0,g0⟩:=iC nR w.heap.size (dK w #[] 68) (aG _) (hx.on n0) (by omega) 30;obtain⟨v1,v3,hv1⟩:=(Row.dw o0).len;obtain⟨n,hn⟩:∃ n,n=l.length:=⟨_,rfl⟩;have Q:=K (show (∃ v':Sl,J q0=J (dP v')/\Own EN w0 w.heap.size (dP v') l)/\au w.heap.size w w0 from ⟨⟨(v1,l.length,v3),by rw [hv1],by subst hv1; exact o0⟩,n0.trans (g0.mono n0.size)⟩);rw [<- hn] at r0 ⊢;clear hv h1 h2 h3 hx o0 g0 n0 hv1 hn hl;have q:∀ w',(binOp .eql 30 (L (U a) n vc) (L X 0 0)).run D w'=.ok (V aI) w':=fun w'=>Qq (U a) n vc w';have r0:(aD #[30,30] 30 #[L (U ⟨w.heap.size,0,X⟩) 0 0,L (U a) n vc]).run D (w.alloc (Z #[] 68))=.ok q0 w0:=r0;go_enter bV,bF;go_wp2_with (first | (at_builtin; refine aA rfl _ _ 30 rfl rfl rfl r0 ?_) | fail);go_ret;exact Q.out
theorem Qr (a:Option cO) (n c:Nat) (w:ah):(binOp .eql 31 (L a n c) (L X 0 0)).run D w=.ok (V a.isNone) w:=by
 simp [go_sem,binOp,run_equal_slice_nil (P:=D) w 31 61 a n c Tryz.underlying31]
theorem Jj (v:Sl) (l:List qK) (w:ah) (hv:Row EW w (dP v) l) (hl:l.length<=900) :
  aF D 87 #[dP v] w fun e w'=>(∃ v':Sl,e=J (dP v')/\Own EW w' w.heap.size (dP v') l)/\au w.heap.size w w':=by
 obtain⟨vo,vn,vc⟩:=v;rcases hv with⟨rfl,hv⟩|⟨a,cap,hv,h1,h2,h3⟩
 ·obtain⟨rfl,rfl,rfl⟩:vo=X/\vn=0/\vc=0:=by simpa using hv
  clear hv hl;have q:∀ w',(binOp .eql 31 (L X 0 0) (L X 0 0)).run D w'=.ok (V aQ) w':=fun w'=>Qr X 0 0 w';go_enter bW,bG;go_wp2;go_ret;exact⟨⟨(X,0,0),rfl,gy _ _⟩,aC _ _⟩
 ·obtain⟨rfl,rfl,rfl⟩:vo=U a/\vn=l.length/\vc=cap:=by simpa using hv
  have hx:Row EW w (L (U a) l.length vc) l:=Or.inr ⟨a,vc,rfl,h1,h2,h3⟩;have n0:=fO w (Z #[] 61);obtain⟨q0,w0,r0,o0,g0⟩:=iC okW w.heap.size (dK w #[] 61) (aG _) (hx.on n0) (by omega) 31;obtain⟨v1,v3,hv1⟩:=(Row.dw o0).len;obtain⟨n,hn⟩:∃ n,n=l.length:=⟨_,rfl⟩;have Q:=K (show (∃ v':Sl,J q0=J (dP v')/\Own EW w0 w.heap.size (dP v') l)/\au w.heap.size w w0 from ⟨⟨(v1,l.length,v3),by rw [hv1],by subst hv1; exact o0⟩,n0.trans (g0.mono n0.size)⟩);rw [<- hn] at r0 ⊢;clear hv h1 h2 h3 hx o0 g0 n0 hv1 hn hl;have q:∀ w',(binOp .eql 31 (L (U a) n vc) (L X 0 0)).run D w'=.ok (V aI) w':=fun w'=>Qr (U a) n vc w';have r0:(aD #[31,31] 31 #[L (U ⟨w.heap.size,0,X⟩) 0 0,L (U a) n vc]).run D (w.alloc (Z #[] 61))=.ok q0 w0:=r0;go_enter bW,bG;go_wp2_with (first | (at_builtin; refine aA rfl _ _ 31 rfl rfl rfl r0 ?_) | fail);go_ret;exact Q.out
theorem Jk (a:Option cO) (n c:Nat) (w:ah):(binOp .eql 41 (L a n c) (L X 0 0)).run D w=.ok (V a.isNone) w:=by
 simp [go_sem,binOp,run_equal_slice_nil (P:=D) w 41 106 a n c Tryz.underlying41]
theorem qL (v:Sl) (l:List C5) (w:ah) (hv:Row EC w (dP v) l) (hl:l.length<=900) :
  aF D 66 #[dP v] w fun e w'=>(∃ v':Sl,e=J (dP v')/\Own EC w' w.heap.size (dP v') l)/\au w.heap.size w w':=by
 obtain⟨vo,vn,vc⟩:=v;rcases hv with⟨rfl,hv⟩|⟨a,cap,hv,h1,h2,h3⟩
 ·obtain⟨rfl,rfl,rfl⟩:vo=X/\vn=0/\vc=0:=by simpa using hv
  clear hv hl;have q:∀ w',(binOp .eql 41 (L X 0 0) (L X 0 0)).run D w'=.ok (V aQ) w':=fun w'=>Jk X 0 0 w';go_enter bY,bH;go_wp2;go_ret;exact⟨⟨(X,0,0),rfl,gy _ _⟩,aC _ _⟩
 ·obtain⟨rfl,rfl,rfl⟩:vo=U a/\vn=l.length/\vc=cap:=by simpa using hv
  have hx:Row EC w (L (U a) l.length vc) l:=Or.inr ⟨a,vc,rfl,h1,h2,h3⟩;have n0:=fO w (Z #[] 106);obtain⟨q0,w0,r0,o0,g0⟩:=iC Ba w.heap.size (dK w #[] 106) (aG _) (hx.on n0) (by omega) 41;obtain⟨v1,v3,hv1⟩:=(Row.dw o0).len;obtain⟨n,hn⟩:∃ n,n=l.length:=⟨_,rfl⟩;have Q:=K (show (∃ v':Sl,J q0=J (dP v')/\Own EC w0 w.heap.size (dP v') l)/\au w.heap.size w w0 from ⟨⟨(v1,l.length,v3),by rw [hv1],by subst hv1; exact o0⟩,n0.trans (g0.mono n0.size)⟩);rw [<- hn] at r0 ⊢;clear hv h1 h2 h3 hx o0 g0 n0 hv1 hn hl;have q:∀ w',(binOp .eql 41 (L (U a) n vc) (L X 0 0)).run D w'=.ok (V aI) w':=fun w'=>Jk (U a) n vc w';have r0:(aD #[41,41] 41 #[L (U ⟨w.heap.size,0,X⟩) 0 0,L (U a) n vc]).run D (w.alloc (Z #[] 106))=.ok q0 w0:=r0;go_enter bY,bH;go_wp2_with (first | (at_builtin; refine aA rfl _ _ 41 rfl rfl rfl r0 ?_) | fail);go_ret;exact Q.out
end Go.Proofs.YtkcfgbddlpomgaaGreat.Av
namespace Go.Proofs
open Go.Shelf
def Tryz.sortI_ren:Go.Shelf.Ren:=⟨fun | 189=>75 | 125=>105 | 257=>104 | 128=>126 | 129=>127 | 294=>117 | 295=>118 | 296=>119 | 297=>120 | 298=>121 | 299=>122 | 216=>123 | 300=>124 | 301=>125 | 328=>134 | 329=>135 | 330=>136 | 331=>137 | 332=>138 | 215=>116 | 343=>142 | n=>n,fun | 28=>25 | 3=>3 | 46=>158 | 0=>0 | 51=>175 | 53=>177 | 4=>4 | 183=>168 | 182=>167 | 131=>114 | 5=>5 | 9=>9 | 218=>181 | 222=>185 | 228=>189 | 229=>190 | n=>n,fun | n=>n⟩
theorem Tryz.sortI:Go.Proofs.Lays.n189 D Tryz.sortI_ren:={
 mixed:=by kernel_rfl
 f125:=Tryz.func105.trans (congrArg U (by kernel_rfl))
 f128:=Tryz.func126.trans (congrArg U (by kernel_rfl))
 f129:=Tryz.func127.trans (congrArg U (by kernel_rfl))
 f189:=Tryz.func75.trans (congrArg U (by kernel_rfl))
 f215:=Tryz.func116.trans (congrArg U (by kernel_rfl))
 f216:=Tryz.func123.trans (congrArg U (by kernel_rfl))
 f257:=Tryz.func104.trans (congrArg U (by kernel_rfl))
 f294:=Tryz.func117.trans (congrArg U (by kernel_rfl))
 f295:=Tryz.func118.trans (congrArg U (by kernel_rfl))
 f296:=Tryz.func119.trans (congrArg U (by kernel_rfl))
 f297:=Tryz.func120.trans (congrArg U (by kernel_rfl))
 f298:=Tryz.func121.trans (congrArg U (by kernel_rfl))
 f299:=Tryz.func122.trans (congrArg U (by kernel_rfl))
 f300:=Tryz.func124.trans (congrArg U (by kernel_rfl))
 f301:=Tryz.func125.trans (congrArg U (by kernel_rfl))
 f328:=Tryz.func134.trans (congrArg U (by kernel_rfl))
 f329:=Tryz.func135.trans (congrArg U (by kernel_rfl))
 f330:=Tryz.func136.trans (congrArg U (by kernel_rfl))
 f331:=Tryz.func137.trans (congrArg U (by kernel_rfl))
 f332:=Tryz.func138.trans (congrArg U (by kernel_rfl))
 f343:=Tryz.func142.trans (congrArg U (by kernel_rfl))
 t0:=aS
 a0:=bZ
 z0:=bI
 v0:=aW
 t3:=aT
 a3:=cu
 z3:=bJ
 v3:=aX
 t4:=aU
 a4:=cB
 z4:=bK
 v4:=aY
 t5:=Tryz.underlying5
 a5:=Tryz.isAgg5
 z5:=Tryz.sizeOf5
 v5:=Tryz.zeroValue5
 t9:=Tryz.underlying9
 a9:=Tryz.isAgg9
 z9:=Tryz.sizeOf9
 v9:=Tryz.zeroValue9
 t28:=aL
 a28:=bL
 z28:=aZ
 v28:=aV
 t46:=Tryz.underlying158
 a46:=Tryz.isAgg158
 z46:=Tryz.sizeOf158
 v46:=Tryz.zeroValue158
 t51:=Tryz.underlying175
 a51:=Tryz.isAgg175
 z51:=Tryz.sizeOf175
 v51:=Tryz.zeroValue175
 t53:=Tryz.underlying177
 a53:=Tryz.isAgg177
 z53:=Tryz.sizeOf177
 v53:=Tryz.zeroValue177
 t131:=Tryz.underlying114
 a131:=Tryz.isAgg114
 z131:=Tryz.sizeOf114
 v131:=Tryz.zeroValue114
 t182:=Tryz.underlying167
 a182:=Tryz.isAgg167
 z182:=Tryz.sizeOf167
 v182:=Tryz.zeroValue167
 t183:=Tryz.underlying168
 a183:=Tryz.isAgg168
 z183:=Tryz.sizeOf168
 v183:=Tryz.zeroValue168
 t218:=Tryz.underlying181
 a218:=Tryz.isAgg181
 z218:=Tryz.sizeOf181
 v218:=Tryz.zeroValue181
 t222:=Tryz.underlying185
 a222:=Tryz.isAgg185
 z222:=Tryz.sizeOf185
 v222:=Tryz.zeroValue185
 t228:=Tryz.underlying189
 a228:=Tryz.isAgg189
 z228:=Tryz.sizeOf189
 v228:=Tryz.zeroValue189
 t229:=Tryz.underlying190
 a229:=Tryz.isAgg190
 z229:=Tryz.sizeOf190
 v229:=Tryz.zeroValue190 }
def Tryz.cptI_ren:Go.Shelf.Ren:=⟨fun | 20=>76 | n=>n,fun | 0=>0 | 3=>3 | 4=>4 | 22=>25 | n=>n,fun | n=>n⟩
theorem Tryz.cptI:Go.Proofs.Lays2.n20 D Tryz.cptI_ren:={
 mixed:=by kernel_rfl
 i3:=by kernel_rfl
 f20:=Tryz.func76.trans (congrArg U (by kernel_rfl))
 t0:=aS
 a0:=bZ
 z0:=bI
 v0:=aW
 t3:=aT
 a3:=cu
 z3:=bJ
 v3:=aX
 t4:=aU
 a4:=cB
 z4:=bK
 v4:=aY
 t22:=aL
 a22:=bL
 z22:=aZ
 v22:=aV }
end Go.Proofs
namespace Go.Proofs.YtkcfgbddlpomgaaGreat.Ar
open Go.ChangeShapes Go.WideShapes Go.RowKit
def readable (P:Program) (ts:List TypeId):Bool:=ts.all fun t=>P.readableRec t && decide (t<P.types.size)
theorem carry {H:Type} {enc:TypeId×bO->H} {P:Program} (hl:laidOutB P=aQ) {W W':ah} (hb:au W.heap.size W W') :
  ∀ (ts:List TypeId) (vs:List bO) (ds:List (DataW H)) (ps:List MemPlace),readable P ts=aQ->DataW.TrodAll enc P W 0 (fun _=>aQ) aQ ts vs ds ps->(∀ x∈ps,x.block<W.heap.size) ->
   DataW.TrodAll enc P W' 0 (fun b=>decide (b<W.heap.size)) aQ ts vs ds ps
 | [],vs,ds,ps,_,h,_=>by
  obtain⟨rfl,rfl,rfl⟩:=trodAll_nil h;exact trodAll_mk0
 | t::ts,vs,ds,ps,hr,h,hlt=>by
  obtain⟨v,vs',d,ds',p,q,rfl,rfl,rfl,h1,h2⟩:=trodAll_cons h;simp only [readable,List.all_cons,Bool.and_eq_true,decide_eq_true_eq] at hr;exact trodAll_cons_mk (Below.trod hl hr.1.1 hr.1.2 h1 hb (fun x hx=>hlt x (List.mem_append_left _ hx)))
   (carry hl hb ts vs' ds' q hr.2 h2 (fun x hx=>hlt x (List.mem_append_right _ hx)))
end Go.Proofs.YtkcfgbddlpomgaaGreat.Ar
