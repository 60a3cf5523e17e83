/-
  The document's own H. Conditions as told.
-/
import Derived.Lib.Strings
import Derived.Laws.Cover3
import Derived.Test.YtkcfgbddlpomgaaGreatOQ007
import Derived.Test.YtkcfgbddlpomgaaGreatOQ009
set_option maxRecDepth 100000
set_option maxHeartbeats 64000000
open _root_.Bool renaming false->aT,true->aZ
open _root_.Go renaming World->aj,Value->aG,Calls->aS,bodyPost_ret->bA,TypeId->bL,Addr->bW
open Go.Builtin renaming append_->aV
open Go.Ending renaming returned->Z
open Go.IntKind renaming i64->aA
open Go.Lib renaming hid->O,toList_data->aX,size_eq->dx
open Go.Obj renaming cells->aH
open Go.Operand renaming tmp->aR
open Go.Proofs.Tryz renaming prog->J,ntmps131->aM,func131->aO,results109->bg,ntmps109->bI,ntmps67->bK,func109->bM,func67->bQ,ntmps96->cu,ntmps74->cB,ntmps84->cK,ntmps85->cO,ntmps86->cZ,ntmps87->dh,ntmps66->dn,func96->dB
open Go.Proofs.YtkcfgbddlpomgaaGreat.Rw renaming wpList_append_run->aP
open Go.Region renaming binds->aU
open Go.RowKit renaming Below->aF
open Go.RowKit.Below renaming refl->au,heap_setCell->aN
open Go.Value renaming slice->U,int->ay,pointer->aB,bool->aC,string->aD
open _root_.List renaming getElem?_toArray->aI,getElem?_cons_zero->aJ,getElem?_cons_succ->aK,getElem?_eq_getElem->aQ,set_cons_succ->aY,length_map->bf,getElem?_eq_some_iff->bF,take_add_one->bH,cons_append->bJ,nil_append->bN,length_set->bO,getElem?_map->bR,take_length->bS,length_take->bU
open _root_.Nat renaming le_refl->aL,zero_le->bV,not_lt_zero->bY,le_of_lt->dw
open _root_.Option renaming none->ah,some->ak
open _root_.Or renaming inr->aW,inl->bZ
namespace Go.Proofs.YtkcfgbddlpomgaaGreat
namespace Rl
open Go.RowKit Pu Rw Pr Va
theorem pQ (s p:ByteArray) (w:aj):aS J 96 #[aD s,aD p] w fun e w'=>e=Z (aC (pfx p s))/\w'=w:=by
 show aS J _ _ _ fun e w'=>e=Z (aC (Lib.hasPrefix s.data.toList p.data.toList))/\w'=w;rw [<- Lib.hasPrefix_of_take,<- dx,<- dx];by_cases h:p.size<=s.size
 ·have e1:(((s.size:Nat):Int) ≥ ((p.size:Nat):Int)):=by omega
  have H:=O h;go_enter dB,cu;go_wp2
  all_goals (go_ret; refine⟨?_,rfl⟩; show Z (aC ((s.extract 0 p.size).toList == p.toList))=_; rw [Lib.extract_toList,aX]; simp [h])
 ·have H:=O h;go_enter dB,cu;go_wp2
  all_goals (go_ret; refine⟨?_,rfl⟩; show Z (aC aT)=_; simp [H.out])
theorem rB (w:aj) (nm:ByteArray) (k lo hi:Int) (u:ByteArray) (t:Bool) (n:Int) (s:ByteArray):aF w.heap.size w ((w.alloc (aH #[aD nm,ay aA k,ay aA lo,ay aA hi,aD u] 106)).alloc (aH #[aC t,ay aA n,aD s] 93)) :=
 ((au w.heap.size w).alloc (aL _) _).alloc (by simp) _
theorem rC (w:aj) (nm:ByteArray) (k lo hi:Int) (u:ByteArray) (nm':ByteArray) (k' lo' hi':Int) (u':ByteArray):aF w.heap.size w ((w.alloc (aH #[aD nm,ay aA k,ay aA lo,ay aA hi,aD u] 106)).alloc (aH #[aD nm',ay aA k',ay aA lo',ay aA hi',aD u'] 106)) :=
 ((au w.heap.size w).alloc (aL _) _).alloc (by simp) _
theorem P8 (nm:ByteArray) (lo hi:Int) (t:Bool) (n:Int) (s:ByteArray) (w:aj):aS J 67 #[cv (r5 (nm,.rg lo hi)),vl t n s] w fun e w'=>e=Z (aC (eG (.rg lo hi) (t,n,s)))/\aF w.heap.size w w':=by
 simp only [r5,kN,jN,jO,kT];have R:=O (show eG (.rg lo hi) (t,n,s)=(!t && (decide (lo<=n) && decide (n<=hi))) from rfl);have B:=O (rB w nm 1 lo hi ⟨#[]⟩ t n s);generalize eG (.rg lo hi) (t,n,s)=r at *;by_cases h1:lo<=n <;> have H1:=O h1 <;> cases t <;> go_enter bQ,bK <;> go_wp2 <;> go_ret <;> exact⟨fu (by rw [R.out]; have h:=H1.out; simp [h] <;> omega),B.out⟩
theorem Qa (nm u:ByteArray) (t:Bool) (n:Int) (s:ByteArray) (w:aj):aS J 67 #[cv (r5 (nm,.tx u)),vl t n s] w fun e w'=>e=Z (aC (eG (.tx u) (t,n,s)))/\aF w.heap.size w w':=by
 simp only [r5,kN,jN,jO,kT];have R:=O (show eG (.tx u) (t,n,s)=(t && (s.data.toList == u.data.toList)) from rfl);have B:=O (rB w nm 2 0 0 u t n s);generalize eG (.tx u) (t,n,s)=r at *;cases t <;> go_enter bQ,bK <;> go_wp2 <;> go_ret <;> exact⟨fu (by rw [R.out]; simp [aX]),B.out⟩
theorem Qb (nm u:ByteArray) (t:Bool) (n:Int) (s:ByteArray) (w:aj):aS J 67 #[cv (r5 (nm,.pr u)),vl t n s] w fun e w'=>e=Z (aC (eG (.pr u) (t,n,s)))/\aF w.heap.size w w':=by
 simp only [r5,kN,jN,jO,kT];have R:=O (show eG (.pr u) (t,n,s)=(t && pfx u s) from rfl);have B:=O (rB w nm 3 0 0 u t n s);generalize eG (.pr u) (t,n,s)=r at *;cases t
 ·go_enter bQ,bK;go_wp2;go_ret;exact⟨fu (by rw [R.out]; simp),B.out⟩
 ·go_enter bQ,bK;go_wp2_with fail;refine (pQ s u _).mono ?_;rintro e w' ⟨rfl,rfl⟩;go_wp2;go_ret;exact⟨fu (by rw [R.out]; simp),B.out⟩
theorem vN (c:Cn) (t:Bool) (n:Int) (s:ByteArray) (w:aj):aS J 67 #[cv (r5 c),vl t n s] w fun e w'=>e=Z (aC (eG c.2 (t,n,s)))/\aF w.heap.size w w':=by
 obtain⟨nm,k⟩:=c;cases k with
 | rg lo hi=>exact P8 nm lo hi t n s w
 | tx u=>exact Qa nm u t n s w
 | pr u=>exact Qb nm u t n s w
theorem ac5 (n1 n2:ByteArray) (lo1 hi1:Int) (lo2 hi2:Int) (w:aj):aS J 131 #[cv (r5 (n1,(.rg lo1 hi1))),cv (r5 (n2,(.rg lo2 hi2)))] w fun e w'=>e=Z (aC (eX (.rg lo1 hi1) (.rg lo2 hi2)))/\aF w.heap.size w w':=by
 simp only [r5,kN,jN,jO,kT];have B:=O (rC w n1 1 lo1 hi1 ⟨#[]⟩ n2 1 lo2 hi2 ⟨#[]⟩);have R:=O (show eX (.rg lo1 hi1) (.rg lo2 hi2)=(decide (lo2<=lo1) && decide (hi1<=hi2)) from rfl);generalize eX (.rg lo1 hi1) (.rg lo2 hi2)=r at *;by_cases h1:lo2<=lo1 <;> have H1:=O h1 <;> go_enter aO,aM <;> go_wp2 <;> go_ret <;> exact⟨fu (by rw [R.out]; have h:=H1.out; simp [h] <;> omega),B.out⟩
theorem ac6 (n1 n2:ByteArray) (lo1 hi1:Int) (u2:ByteArray) (w:aj):aS J 131 #[cv (r5 (n1,(.rg lo1 hi1))),cv (r5 (n2,(.tx u2)))] w fun e w'=>e=Z (aC (eX (.rg lo1 hi1) (.tx u2)))/\aF w.heap.size w w':=by
 simp only [r5,kN,jN,jO,kT];have B:=O (rC w n1 1 lo1 hi1 ⟨#[]⟩ n2 2 0 0 u2);have R:=O (show eX (.rg lo1 hi1) (.tx u2)=(aT) from rfl);generalize eX (.rg lo1 hi1) (.tx u2)=r at *;go_enter aO,aM <;> go_wp2 <;> go_ret <;> exact⟨fu (by rw [R.out]),B.out⟩
theorem ac7 (n1 n2:ByteArray) (lo1 hi1:Int) (u2:ByteArray) (w:aj):aS J 131 #[cv (r5 (n1,(.rg lo1 hi1))),cv (r5 (n2,(.pr u2)))] w fun e w'=>e=Z (aC (eX (.rg lo1 hi1) (.pr u2)))/\aF w.heap.size w w':=by
 simp only [r5,kN,jN,jO,kT];have B:=O (rC w n1 1 lo1 hi1 ⟨#[]⟩ n2 3 0 0 u2);have R:=O (show eX (.rg lo1 hi1) (.pr u2)=(aT) from rfl);generalize eX (.rg lo1 hi1) (.pr u2)=r at *;go_enter aO,aM <;> go_wp2 <;> go_ret <;> exact⟨fu (by rw [R.out]),B.out⟩
theorem ac8 (n1 n2:ByteArray) (u1:ByteArray) (lo2 hi2:Int) (w:aj):aS J 131 #[cv (r5 (n1,(.tx u1))),cv (r5 (n2,(.rg lo2 hi2)))] w fun e w'=>e=Z (aC (eX (.tx u1) (.rg lo2 hi2)))/\aF w.heap.size w w':=by
 simp only [r5,kN,jN,jO,kT];have B:=O (rC w n1 2 0 0 u1 n2 1 lo2 hi2 ⟨#[]⟩);have R:=O (show eX (.tx u1) (.rg lo2 hi2)=(aT) from rfl);generalize eX (.tx u1) (.rg lo2 hi2)=r at *;go_enter aO,aM <;> go_wp2 <;> go_ret <;> exact⟨fu (by rw [R.out]),B.out⟩
theorem ac9 (n1 n2:ByteArray) (u1:ByteArray) (u2:ByteArray) (w:aj):aS J 131 #[cv (r5 (n1,(.tx u1))),cv (r5 (n2,(.tx u2)))] w fun e w'=>e=Z (aC (eX (.tx u1) (.tx u2)))/\aF w.heap.size w w':=by
 simp only [r5,kN,jN,jO,kT];have B:=O (rC w n1 2 0 0 u1 n2 2 0 0 u2);have R:=O (show eX (.tx u1) (.tx u2)=(u1.data.toList == u2.data.toList) from rfl);generalize eX (.tx u1) (.tx u2)=r at *;go_enter aO,aM <;> go_wp2 <;> go_ret <;> exact⟨fu (by rw [R.out]; simp [aX]),B.out⟩
theorem ada (n1 n2:ByteArray) (u1:ByteArray) (u2:ByteArray) (w:aj):aS J 131 #[cv (r5 (n1,(.tx u1))),cv (r5 (n2,(.pr u2)))] w fun e w'=>e=Z (aC (eX (.tx u1) (.pr u2)))/\aF w.heap.size w w':=by
 simp only [r5,kN,jN,jO,kT];have B:=O (rC w n1 2 0 0 u1 n2 3 0 0 u2);have R:=O (show eX (.tx u1) (.pr u2)=(pfx u2 u1) from rfl);generalize eX (.tx u1) (.pr u2)=r at *;go_enter aO,aM;go_wp2_with fail;refine (pQ u1 u2 _).mono ?_;rintro e w' ⟨rfl,rfl⟩;go_wp2;go_ret;exact⟨fu (by rw [R.out]),B.out⟩
theorem adb (n1 n2:ByteArray) (u1:ByteArray) (lo2 hi2:Int) (w:aj):aS J 131 #[cv (r5 (n1,(.pr u1))),cv (r5 (n2,(.rg lo2 hi2)))] w fun e w'=>e=Z (aC (eX (.pr u1) (.rg lo2 hi2)))/\aF w.heap.size w w':=by
 simp only [r5,kN,jN,jO,kT];have B:=O (rC w n1 3 0 0 u1 n2 1 lo2 hi2 ⟨#[]⟩);have R:=O (show eX (.pr u1) (.rg lo2 hi2)=(aT) from rfl);generalize eX (.pr u1) (.rg lo2 hi2)=r at *;go_enter aO,aM <;> go_wp2 <;> go_ret <;> exact⟨fu (by rw [R.out]),B.out⟩
theorem ade (n1 n2:ByteArray) (u1:ByteArray) (u2:ByteArray) (w:aj):aS J 131 #[cv (r5 (n1,(.pr u1))),cv (r5 (n2,(.tx u2)))] w fun e w'=>e=Z (aC (eX (.pr u1) (.tx u2)))/\aF w.heap.size w w':=by
 simp only [r5,kN,jN,jO,kT];have B:=O (rC w n1 3 0 0 u1 n2 2 0 0 u2);have R:=O (show eX (.pr u1) (.tx u2)=(aT) from rfl);generalize eX (.pr u1) (.tx u2)=r at *;go_enter aO,aM <;> go_wp2 <;> go_ret <;> exact⟨fu (by rw [R.out]),B.out⟩
theorem adf (n1 n2:ByteArray) (u1:ByteArray) (u2:ByteArray) (w:aj):aS J 131 #[cv (r5 (n1,(.pr u1))),cv (r5 (n2,(.pr u2)))] w fun e w'=>e=Z (aC (eX (.pr u1) (.pr u2)))/\aF w.heap.size w w':=by
 simp only [r5,kN,jN,jO,kT];have B:=O (rC w n1 3 0 0 u1 n2 3 0 0 u2);have R:=O (show eX (.pr u1) (.pr u2)=(pfx u2 u1) from rfl);generalize eX (.pr u1) (.pr u2)=r at *;go_enter aO,aM;go_wp2_with fail;refine (pQ u1 u2 _).mono ?_;rintro e w' ⟨rfl,rfl⟩;go_wp2;go_ret;exact⟨fu (by rw [R.out]),B.out⟩
theorem Ig (c d:Cn) (w:aj):aS J 131 #[cv (r5 c),cv (r5 d)] w fun e w'=>e=Z (aC (eX c.2 d.2))/\aF w.heap.size w w':=by
 obtain⟨n1,k1⟩:=c;obtain⟨n2,k2⟩:=d;cases k1 <;> cases k2
 ·exact ac5 _ _ _ _ _ _ _
 ·exact ac6 _ _ _ _ _ _
 ·exact ac7 _ _ _ _ _ _
 ·exact ac8 _ _ _ _ _ _
 ·exact ac9 _ _ _ _ _
 ·exact ada _ _ _ _ _
 ·exact adb _ _ _ _ _ _
 ·exact ade _ _ _ _ _
 ·exact adf _ _ _ _ _
def xY (x y:Cn):Bool:=decide (y.1=x.1) && eX y.2 x.2
theorem Tv {α:Type} (f:α->Bool) (l:List α) (k:Nat) (y:α) (h:l[k]?=ak y):(l.take (k+1)).any f=((l.take k).any f || f y):=by
 rw [bH,h,List.any_append];simp
theorem z8 {α:Type} (f:α->Bool) (l:List α) (k:Nat) (y:α) (h:l[k]?=ak y):(l.take (k+1)).all f=((l.take k).all f && f y):=by
 rw [bH,h,List.all_append];simp
theorem FJ {α:Type} (f:α->Bool) (l:List α) (k:Nat) (y:α) (h:l[k]?=ak y) (hf:f y=aT):l.all f=aT:=by
 rw [List.all_eq_false];exact⟨y,List.mem_of_getElem? h,by simp [hf]⟩
theorem str_eq (a b:ByteArray) (h:a=b):(a.toList == b.toList)=aZ:=by simp [h]
theorem adg (a b:ByteArray) (h:¬ a=b):(a.toList == b.toList)=aT:=by
 rw [beq_eq_false_iff_ne];intro e;rw [aX,aX] at e;exact h (tN e)
theorem Ih (Dq bv:aG) (a b:List Cn) (w:aj) (ha:gu w Dq (a.map r5)) (hb:gu w bv (b.map r5)) (hl:a.length<=100) (hm:b.length<=100) :
  aS J 110 #[Dq,bv] w fun e w'=>e=Z (aC (qw a b))/\aF w.heap.size w w':=by
 have HA:=O ha;have HB:=O hb;have CO:=O (show qw a b=a.all fun x=>b.any (xY x) from rfl);obtain⟨ao,ac,rfl⟩:=ha.len;obtain⟨bo,bc,rfl⟩:=hb.len;clear ha hb;rw [bf] at HA HB ⊢;rw [bf];generalize qw a b=r at *;generalize hn:a.length=n at *;generalize hm':b.length=m at *;have HN:=O hn;have HM:=O hm';clear hn hm';go_enter Tryz.func110,Tryz.ntmps110;go_wp2
 go_loopw [12] (fun i wr=>∃ k:Nat,k<=n/\i=ay aA k/\aF w.heap.size w wr/\(a.take k).all (fun x=>b.any (xY x))=aZ) (fun i _=>n-(intOf i).toNat)
 case atStart=>exact⟨0,bV _,rfl,au _ _,rfl⟩
 case round =>
  obtain⟨k,hk,rfl,hbe,hall⟩:=hrel;have BE:=O hbe;have AL:=O hall;clear hbe hall;by_cases hlt:k<n
  ·obtain⟨x,hx⟩:∃ x,a[k]?=ak x:=⟨_,aQ (by rw [HN.out]; exact hlt)⟩;obtain⟨p,ix,px⟩:=elC HA.out rfl (by rw [bf]; exact HN.out) (show (a.map r5)[k]?=ak (r5 x) by rw [bR,hx]; rfl);have p0:=(px _ BE.out).1;have p1:=(px _ BE.out).2.1;have p2:=(px _ BE.out).2.2.1;have p3:=(px _ BE.out).2.2.2.1;have p4:=(px _ BE.out).2.2.2.2;have HX:=O hx;have B1:=O (BE.out.alloc BE.out.size (aH #[aD (r5 x).1,ay aA (r5 x).2.1,ay aA (r5 x).2.2.1,ay aA (r5 x).2.2.2.1,aD (r5 x).2.2.2.2] 106));have Z1:=O (show wr.heap.size<(wr.alloc (aH #[aD (r5 x).1,ay aA (r5 x).2.1,ay aA (r5 x).2.2.1,ay aA (r5 x).2.2.2.1,aD (r5 x).2.2.2.2] 106)).heap.size by simp);have e0:(wr.alloc (aH #[aD (r5 x).1,ay aA (r5 x).2.1,ay aA (r5 x).2.2.1,ay aA (r5 x).2.2.2.1,aD (r5 x).2.2.2.2] 106)).cell? ⟨wr.heap.size,0,ah⟩=ak (aD (r5 x).1):=by simp [go_sem]
   have e1:(wr.alloc (aH #[aD (r5 x).1,ay aA (r5 x).2.1,ay aA (r5 x).2.2.1,ay aA (r5 x).2.2.2.1,aD (r5 x).2.2.2.2] 106)).cell? ⟨wr.heap.size,1,ah⟩=ak (ay aA (r5 x).2.1):=by simp [go_sem]
   have e2:(wr.alloc (aH #[aD (r5 x).1,ay aA (r5 x).2.1,ay aA (r5 x).2.2.1,ay aA (r5 x).2.2.2.1,aD (r5 x).2.2.2.2] 106)).cell? ⟨wr.heap.size,2,ah⟩=ak (ay aA (r5 x).2.2.1):=by simp [go_sem]
   have e3:(wr.alloc (aH #[aD (r5 x).1,ay aA (r5 x).2.1,ay aA (r5 x).2.2.1,ay aA (r5 x).2.2.2.1,aD (r5 x).2.2.2.2] 106)).cell? ⟨wr.heap.size,3,ah⟩=ak (ay aA (r5 x).2.2.2.1):=by simp [go_sem]
   have e4:(wr.alloc (aH #[aD (r5 x).1,ay aA (r5 x).2.1,ay aA (r5 x).2.2.1,ay aA (r5 x).2.2.2.1,aD (r5 x).2.2.2.2] 106)).cell? ⟨wr.heap.size,4,ah⟩=ak (aD (r5 x).2.2.2.2):=by simp [go_sem]
   clear px hx;go_wp2;generalize wr.alloc (aH #[aD (r5 x).1,ay aA (r5 x).2.1,ay aA (r5 x).2.2.1,ay aA (r5 x).2.2.2.1,aD (r5 x).2.2.2.2] 106)=W1 at *;generalize wr.heap.size=bx at *;have E0:=O e0;have E1:=O e1;have E2:=O e2;have E3:=O e3;have E4:=O e4;clear e0 e1 e2 e3 e4 ix p0 p1 p2 p3 p4
   go_loopw [7,18] (fun v i wi=>∃ j:Nat,j<=m/\i=ay aA j/\v=aC ((b.take j).any (xY x))/\aF W1.heap.size W1 wi) (fun _ i _=>m-(intOf i).toNat)
   case atStart=>exact⟨0,bV _,rfl,rfl,au _ _⟩
   case round =>
    obtain⟨j,hj,rfl,rfl,hbi⟩:=hrel;have BI:=O hbi;have TK:=O (B1.out.trans (hbi.mono B1.out.size));clear hbi;by_cases hjt:j<m
    ·obtain⟨y,hy⟩:∃ y,b[j]?=ak y:=⟨_,aQ (by rw [HM.out]; exact hjt)⟩;obtain⟨q,iy,py⟩:=elC HB.out rfl (by rw [bf]; exact HM.out) (show (b.map r5)[j]?=ak (r5 y) by rw [bR,hy]; rfl);have q0:=(py _ TK.out).1;have q1:=(py _ TK.out).2.1;have q2:=(py _ TK.out).2.2.1;have q3:=(py _ TK.out).2.2.2.1;have q4:=(py _ TK.out).2.2.2.2;have MO:=O (Tv (xY x) b j y hy);have Yy:=O (BI.out.alloc BI.out.size (aH #[aD (r5 y).1,ay aA (r5 y).2.1,ay aA (r5 y).2.2.1,ay aA (r5 y).2.2.2.1,aD (r5 y).2.2.2.2] 106));have f0:=(Yy.out.cell (p:=⟨bx,0,ah⟩) Z1.out).trans E0.out;have f1:=(Yy.out.cell (p:=⟨bx,1,ah⟩) Z1.out).trans E1.out;have f2:=(Yy.out.cell (p:=⟨bx,2,ah⟩) Z1.out).trans E2.out;have f3:=(Yy.out.cell (p:=⟨bx,3,ah⟩) Z1.out).trans E3.out;have f4:=(Yy.out.cell (p:=⟨bx,4,ah⟩) Z1.out).trans E4.out;clear py hy;cases hv:(b.take j).any (xY x)
     ·rw [hv] at MO;clear hv;by_cases hne:y.1=x.1
      ·have g0:=str_eq (r5 y).1 (r5 x).1 hne;have CV:=O (show xY x y=eX y.2 x.2 by simp [xY,hne]);go_wp2_with fail;refine (Ig y x _).mono ?_;rintro e w2 ⟨rfl,hc⟩;have BC:=O (Yy.out.trans (hc.mono Yy.out.size));clear hc;go_wp2
       go_roundw
       case rel=>exact⟨j+1,by omega,by go_num,by rw [MO.out,CV.out]; rfl,BC.out⟩
       case measure=>simp [intOf]; omega
      ·have g0:=adg (r5 y).1 (r5 x).1 hne;have CV:=O (show xY x y=aT by simp [xY,hne]);go_wp2
       go_roundw
       case rel=>exact⟨j+1,by omega,by go_num,by rw [MO.out,CV.out]; rfl,Yy.out⟩
       case measure=>simp [intOf]; omega
     ·rw [hv] at MO;clear hv;go_wp2
      go_roundw
      case rel=>exact⟨j+1,by omega,by go_num,by rw [MO.out]; rfl,Yy.out⟩
      case measure=>simp [intOf]; omega
    ·obtain rfl:j=m:=by omega
     have TA:=O (show (b.take j).any (xY x)=b.any (xY x) by rw [<- HM.out,bS]);have AM:=O (z8 (fun x=>b.any (xY x)) a k x HX.out);rw [TA.out];cases hv:b.any (xY x)
     ·have R:=O (show r=aT from CO.out.trans (FJ _ a k x HX.out hv));clear hv;go_wp2;go_ret;exact⟨fu R.out.symm,TK.out⟩
     ·have HV:=O hv;clear hv;go_wp2
      go_roundw
      case rel=>exact⟨k+1,by omega,by go_num,TK.out,by rw [AM.out,AL.out,HV.out]; rfl⟩
      case measure=>simp [intOf]; omega
  ·obtain rfl:k=n:=by omega
   have R:=O (show r=aZ by rw [CO.out,<- AL.out,<- HN.out,bS]);go_wp2;go_ret;exact⟨fu R.out.symm,BE.out⟩
end Rl
namespace Av
open Go.RowKit Rw YtkcfgbddlpomgaaGreat.Nm Pr Bk Rg
theorem Tw (a:Option bW) (n c:Nat) (w:aj):(binOp .eql 25 (U a n c) (U ah 0 0)).run J w=.ok (aC a.isNone) w:=by
 simp [go_sem,binOp,run_equal_slice_nil (P:=J) w 25 3 a n c Tryz.underlying25]
theorem Aa (v:Sl) (l:List Int) (w:aj) (hv:Row EI w (dU v) l) (hl:l.length<=900) :
  aS J 74 #[dU v] w fun e w'=>(∃ v':Sl,e=Z (dU v')/\Own EI w' w.heap.size (dU v') l)/\aF w.heap.size w w':=by
 obtain⟨vo,vn,vc⟩:=v;rcases hv with⟨rfl,hv⟩|⟨a,cap,hv,h1,h2,h3⟩
 ·obtain⟨rfl,rfl,rfl⟩:vo=ah/\vn=0/\vc=0:=by simpa using hv
  clear hv hl;have q:∀ w',(binOp .eql 25 (U ah 0 0) (U ah 0 0)).run J w'=.ok (aC aZ) w':=fun w'=>Tw ah 0 0 w';go_enter Tryz.func74,cB;go_wp2;go_ret;exact⟨⟨(ah,0,0),rfl,gB _ _⟩,au _ _⟩
 ·obtain⟨rfl,rfl,rfl⟩:vo=ak a/\vn=l.length/\vc=cap:=by simpa using hv
  have hx:Row EI w (U (ak a) l.length vc) l:=aW ⟨a,vc,rfl,h1,h2,h3⟩;have n0:=fI w (aH #[] 3);obtain⟨q0,w0,r0,o0,g0⟩:=gK Nm.Hl w.heap.size (dO w #[] 3) (aL _) (hx.on n0) (by omega) 25;obtain⟨v1,v3,hv1⟩:=(Row.dH o0).len;obtain⟨n,hn⟩:∃ n,n=l.length:=⟨_,rfl⟩;have Q:=O (show (∃ v':Sl,Z q0=Z (dU v')/\Own EI w0 w.heap.size (dU v') l)/\aF w.heap.size w w0 from ⟨⟨(v1,l.length,v3),by rw [hv1],by subst hv1; exact o0⟩,n0.trans (g0.mono n0.size)⟩);rw [<- hn] at r0 ⊢;clear hv h1 h2 h3 hx o0 g0 n0 hv1 hn hl;have q:∀ w',(binOp .eql 25 (U (ak a) n vc) (U ah 0 0)).run J w'=.ok (aC aT) w':=fun w'=>Tw (ak a) n vc w';have r0:(aV #[25,25] 25 #[U (ak ⟨w.heap.size,0,ah⟩) 0 0,U (ak a) n vc]).run J (w.alloc (aH #[] 3))=.ok q0 w0:=r0;go_enter Tryz.func74,cB;go_wp2_with (first | (at_builtin; refine aP rfl _ _ 25 rfl rfl rfl r0 ?_) | fail);go_ret;exact Q.out
theorem Tx (a:Option bW) (n c:Nat) (w:aj):(binOp .eql 29 (U a n c) (U ah 0 0)).run J w=.ok (aC a.isNone) w:=by
 simp [go_sem,binOp,run_equal_slice_nil (P:=J) w 29 38 a n c Tryz.underlying29]
theorem KG (v:Sl) (l:List eT) (w:aj) (hv:Row EJ w (dU v) l) (hl:l.length<=900) :
  aS J 84 #[dU v] w fun e w'=>(∃ v':Sl,e=Z (dU v')/\Own EJ w' w.heap.size (dU v') l)/\aF w.heap.size w w':=by
 obtain⟨vo,vn,vc⟩:=v;rcases hv with⟨rfl,hv⟩|⟨a,cap,hv,h1,h2,h3⟩
 ·obtain⟨rfl,rfl,rfl⟩:vo=ah/\vn=0/\vc=0:=by simpa using hv
  clear hv hl;have q:∀ w',(binOp .eql 29 (U ah 0 0) (U ah 0 0)).run J w'=.ok (aC aZ) w':=fun w'=>Tx ah 0 0 w';go_enter Tryz.func84,cK;go_wp2;go_ret;exact⟨⟨(ah,0,0),rfl,gB _ _⟩,au _ _⟩
 ·obtain⟨rfl,rfl,rfl⟩:vo=ak a/\vn=l.length/\vc=cap:=by simpa using hv
  have hx:Row EJ w (U (ak a) l.length vc) l:=aW ⟨a,vc,rfl,h1,h2,h3⟩;have n0:=fI w (aH #[] 38);obtain⟨q0,w0,r0,o0,g0⟩:=gK zP w.heap.size (dO w #[] 38) (aL _) (hx.on n0) (by omega) 29;obtain⟨v1,v3,hv1⟩:=(Row.dH o0).len;obtain⟨n,hn⟩:∃ n,n=l.length:=⟨_,rfl⟩;have Q:=O (show (∃ v':Sl,Z q0=Z (dU v')/\Own EJ w0 w.heap.size (dU v') l)/\aF w.heap.size w w0 from ⟨⟨(v1,l.length,v3),by rw [hv1],by subst hv1; exact o0⟩,n0.trans (g0.mono n0.size)⟩);rw [<- hn] at r0 ⊢;clear hv h1 h2 h3 hx o0 g0 n0 hv1 hn hl;have q:∀ w',(binOp .eql 29 (U (ak a) n vc) (U ah 0 0)).run J w'=.ok (aC aT) w':=fun w'=>Tx (ak a) n vc w';have r0:(aV #[29,29] 29 #[U (ak ⟨w.heap.size,0,ah⟩) 0 0,U (ak a) n vc]).run J (w.alloc (aH #[] 38))=.ok q0 w0:=r0;go_enter Tryz.func84,cK;go_wp2_with (first | (at_builtin; refine aP rfl _ _ 29 rfl rfl rfl r0 ?_) | fail);go_ret;exact Q.out
theorem Tz (a:Option bW) (n c:Nat) (w:aj):(binOp .eql 28 (U a n c) (U ah 0 0)).run J w=.ok (aC a.isNone) w:=by
 simp [go_sem,binOp,run_equal_slice_nil (P:=J) w 28 53 a n c Tryz.underlying28]
theorem KJ (v:Sl) (l:List kr) (w:aj) (hv:Row ED w (dU v) l) (hl:l.length<=900) :
  aS J 85 #[dU v] w fun e w'=>(∃ v':Sl,e=Z (dU v')/\Own ED w' w.heap.size (dU v') l)/\aF w.heap.size w w':=by
 obtain⟨vo,vn,vc⟩:=v;rcases hv with⟨rfl,hv⟩|⟨a,cap,hv,h1,h2,h3⟩
 ·obtain⟨rfl,rfl,rfl⟩:vo=ah/\vn=0/\vc=0:=by simpa using hv
  clear hv hl;have q:∀ w',(binOp .eql 28 (U ah 0 0) (U ah 0 0)).run J w'=.ok (aC aZ) w':=fun w'=>Tz ah 0 0 w';go_enter Tryz.func85,cO;go_wp2;go_ret;exact⟨⟨(ah,0,0),rfl,gB _ _⟩,au _ _⟩
 ·obtain⟨rfl,rfl,rfl⟩:vo=ak a/\vn=l.length/\vc=cap:=by simpa using hv
  have hx:Row ED w (U (ak a) l.length vc) l:=aW ⟨a,vc,rfl,h1,h2,h3⟩;have n0:=fI w (aH #[] 53);obtain⟨q0,w0,r0,o0,g0⟩:=gK okD w.heap.size (dO w #[] 53) (aL _) (hx.on n0) (by omega) 28;obtain⟨v1,v3,hv1⟩:=(Row.dH o0).len;obtain⟨n,hn⟩:∃ n,n=l.length:=⟨_,rfl⟩;have Q:=O (show (∃ v':Sl,Z q0=Z (dU v')/\Own ED w0 w.heap.size (dU v') l)/\aF w.heap.size w w0 from ⟨⟨(v1,l.length,v3),by rw [hv1],by subst hv1; exact o0⟩,n0.trans (g0.mono n0.size)⟩);rw [<- hn] at r0 ⊢;clear hv h1 h2 h3 hx o0 g0 n0 hv1 hn hl;have q:∀ w',(binOp .eql 28 (U (ak a) n vc) (U ah 0 0)).run J w'=.ok (aC aT) w':=fun w'=>Tz (ak a) n vc w';have r0:(aV #[28,28] 28 #[U (ak ⟨w.heap.size,0,ah⟩) 0 0,U (ak a) n vc]).run J (w.alloc (aH #[] 53))=.ok q0 w0:=r0;go_enter Tryz.func85,cO;go_wp2_with (first | (at_builtin; refine aP rfl _ _ 28 rfl rfl rfl r0 ?_) | fail);go_ret;exact Q.out
theorem TD (a:Option bW) (n c:Nat) (w:aj):(binOp .eql 30 (U a n c) (U ah 0 0)).run J w=.ok (aC a.isNone) w:=by
 simp [go_sem,binOp,run_equal_slice_nil (P:=J) w 30 68 a n c Tryz.underlying30]
theorem KP (v:Sl) (l:List iH) (w:aj) (hv:Row EN w (dU v) l) (hl:l.length<=900) :
  aS J 86 #[dU v] w fun e w'=>(∃ v':Sl,e=Z (dU v')/\Own EN w' w.heap.size (dU v') l)/\aF w.heap.size w w':=by
 obtain⟨vo,vn,vc⟩:=v;rcases hv with⟨rfl,hv⟩|⟨a,cap,hv,h1,h2,h3⟩
 ·obtain⟨rfl,rfl,rfl⟩:vo=ah/\vn=0/\vc=0:=by simpa using hv
  clear hv hl;have q:∀ w',(binOp .eql 30 (U ah 0 0) (U ah 0 0)).run J w'=.ok (aC aZ) w':=fun w'=>TD ah 0 0 w';go_enter Tryz.func86,cZ;go_wp2;go_ret;exact⟨⟨(ah,0,0),rfl,gB _ _⟩,au _ _⟩
 ·obtain⟨rfl,rfl,rfl⟩:vo=ak a/\vn=l.length/\vc=cap:=by simpa using hv
  have hx:Row EN w (U (ak a) l.length vc) l:=aW ⟨a,vc,rfl,h1,h2,h3⟩;have n0:=fI w (aH #[] 68);obtain⟨q0,w0,r0,o0,g0⟩:=gK lF w.heap.size (dO w #[] 68) (aL _) (hx.on n0) (by omega) 30;obtain⟨v1,v3,hv1⟩:=(Row.dH o0).len;obtain⟨n,hn⟩:∃ n,n=l.length:=⟨_,rfl⟩;have Q:=O (show (∃ v':Sl,Z q0=Z (dU v')/\Own EN w0 w.heap.size (dU v') l)/\aF w.heap.size w w0 from ⟨⟨(v1,l.length,v3),by rw [hv1],by subst hv1; exact o0⟩,n0.trans (g0.mono n0.size)⟩);rw [<- hn] at r0 ⊢;clear hv h1 h2 h3 hx o0 g0 n0 hv1 hn hl;have q:∀ w',(binOp .eql 30 (U (ak a) n vc) (U ah 0 0)).run J w'=.ok (aC aT) w':=fun w'=>TD (ak a) n vc w';have r0:(aV #[30,30] 30 #[U (ak ⟨w.heap.size,0,ah⟩) 0 0,U (ak a) n vc]).run J (w.alloc (aH #[] 68))=.ok q0 w0:=r0;go_enter Tryz.func86,cZ;go_wp2_with (first | (at_builtin; refine aP rfl _ _ 30 rfl rfl rfl r0 ?_) | fail);go_ret;exact Q.out
theorem TF (a:Option bW) (n c:Nat) (w:aj):(binOp .eql 31 (U a n c) (U ah 0 0)).run J w=.ok (aC a.isNone) w:=by
 simp [go_sem,binOp,run_equal_slice_nil (P:=J) w 31 61 a n c Tryz.underlying31]
theorem KR (v:Sl) (l:List pK) (w:aj) (hv:Row EW w (dU v) l) (hl:l.length<=900) :
  aS J 87 #[dU v] w fun e w'=>(∃ v':Sl,e=Z (dU v')/\Own EW w' w.heap.size (dU v') l)/\aF w.heap.size w w':=by
 obtain⟨vo,vn,vc⟩:=v;rcases hv with⟨rfl,hv⟩|⟨a,cap,hv,h1,h2,h3⟩
 ·obtain⟨rfl,rfl,rfl⟩:vo=ah/\vn=0/\vc=0:=by simpa using hv
  clear hv hl;have q:∀ w',(binOp .eql 31 (U ah 0 0) (U ah 0 0)).run J w'=.ok (aC aZ) w':=fun w'=>TF ah 0 0 w';go_enter Tryz.func87,dh;go_wp2;go_ret;exact⟨⟨(ah,0,0),rfl,gB _ _⟩,au _ _⟩
 ·obtain⟨rfl,rfl,rfl⟩:vo=ak a/\vn=l.length/\vc=cap:=by simpa using hv
  have hx:Row EW w (U (ak a) l.length vc) l:=aW ⟨a,vc,rfl,h1,h2,h3⟩;have n0:=fI w (aH #[] 61);obtain⟨q0,w0,r0,o0,g0⟩:=gK okW w.heap.size (dO w #[] 61) (aL _) (hx.on n0) (by omega) 31;obtain⟨v1,v3,hv1⟩:=(Row.dH o0).len;obtain⟨n,hn⟩:∃ n,n=l.length:=⟨_,rfl⟩;have Q:=O (show (∃ v':Sl,Z q0=Z (dU v')/\Own EW w0 w.heap.size (dU v') l)/\aF w.heap.size w w0 from ⟨⟨(v1,l.length,v3),by rw [hv1],by subst hv1; exact o0⟩,n0.trans (g0.mono n0.size)⟩);rw [<- hn] at r0 ⊢;clear hv h1 h2 h3 hx o0 g0 n0 hv1 hn hl;have q:∀ w',(binOp .eql 31 (U (ak a) n vc) (U ah 0 0)).run J w'=.ok (aC aT) w':=fun w'=>TF (ak a) n vc w';have r0:(aV #[31,31] 31 #[U (ak ⟨w.heap.size,0,ah⟩) 0 0,U (ak a) n vc]).run J (w.alloc (aH #[] 61))=.ok q0 w0:=r0;go_enter Tryz.func87,dh;go_wp2_with (first | (at_builtin; refine aP rfl _ _ 31 rfl rfl rfl r0 ?_) | fail);go_ret;exact Q.out
theorem KT (a:Option bW) (n c:Nat) (w:aj):(binOp .eql 41 (U a n c) (U ah 0 0)).run J w=.ok (aC a.isNone) w:=by
 simp [go_sem,binOp,run_equal_slice_nil (P:=J) w 41 106 a n c Tryz.underlying41]
theorem sJ (v:Sl) (l:List C5) (w:aj) (hv:Row EC w (dU v) l) (hl:l.length<=900) :
  aS J 66 #[dU v] w fun e w'=>(∃ v':Sl,e=Z (dU v')/\Own EC w' w.heap.size (dU v') l)/\aF w.heap.size w w':=by
 obtain⟨vo,vn,vc⟩:=v;rcases hv with⟨rfl,hv⟩|⟨a,cap,hv,h1,h2,h3⟩
 ·obtain⟨rfl,rfl,rfl⟩:vo=ah/\vn=0/\vc=0:=by simpa using hv
  clear hv hl;have q:∀ w',(binOp .eql 41 (U ah 0 0) (U ah 0 0)).run J w'=.ok (aC aZ) w':=fun w'=>KT ah 0 0 w';go_enter Tryz.func66,dn;go_wp2;go_ret;exact⟨⟨(ah,0,0),rfl,gB _ _⟩,au _ _⟩
 ·obtain⟨rfl,rfl,rfl⟩:vo=ak a/\vn=l.length/\vc=cap:=by simpa using hv
  have hx:Row EC w (U (ak a) l.length vc) l:=aW ⟨a,vc,rfl,h1,h2,h3⟩;have n0:=fI w (aH #[] 106);obtain⟨q0,w0,r0,o0,g0⟩:=gK Dk w.heap.size (dO w #[] 106) (aL _) (hx.on n0) (by omega) 41;obtain⟨v1,v3,hv1⟩:=(Row.dH o0).len;obtain⟨n,hn⟩:∃ n,n=l.length:=⟨_,rfl⟩;have Q:=O (show (∃ v':Sl,Z q0=Z (dU v')/\Own EC w0 w.heap.size (dU v') l)/\aF w.heap.size w w0 from ⟨⟨(v1,l.length,v3),by rw [hv1],by subst hv1; exact o0⟩,n0.trans (g0.mono n0.size)⟩);rw [<- hn] at r0 ⊢;clear hv h1 h2 h3 hx o0 g0 n0 hv1 hn hl;have q:∀ w',(binOp .eql 41 (U (ak a) n vc) (U ah 0 0)).run J w'=.ok (aC aT) w':=fun w'=>KT (ak a) n vc w';have r0:(aV #[41,41] 41 #[U (ak ⟨w.heap.size,0,ah⟩) 0 0,U (ak a) n vc]).run J (w.alloc (aH #[] 106))=.ok q0 w0:=r0;go_enter Tryz.func66,dn;go_wp2_with (first | (at_builtin; refine aP rfl _ _ 41 rfl rfl rfl r0 ?_) | fail);go_ret;exact Q.out
end Av
namespace Av
open Go.RowKit Go.Sort Rw YtkcfgbddlpomgaaGreat.Nm Pr Bk
abbrev TJ (W:aj) (b:Nat) (a0 a1 a2 a3:aG):aj:=(((W.setCell ⟨b,0,ah⟩ a0).setCell ⟨b,1,ah⟩ a1).setCell ⟨b,2,ah⟩ a2).setCell ⟨b,3,ah⟩ a3
theorem Ab {W:aj} {b:Nat} {t:bL} {z0 z1 z2 z3:aG} (h:dN W b #[z0,z1,z2,z3] t) (a0 a1 a2 a3:aG):dN (TJ W b a0 a1 a2 a3) b #[a0,a1,a2,a3] t:=by
 have h2:=dR (k:=3) (dR (k:=2) (dR (k:=1) (dR (k:=0) h a0) a1) a2) a3;simpa using h2
theorem vO {B:Nat} {W0 W:aj} {b:Nat} (h:Below B W0 W) (hb:B<=b) (a0 a1 a2 a3:aG):Below B W0 (TJ W b a0 a1 a2 a3) :=
 (((h.setCell (p:=⟨b,0,ah⟩) hb a0).setCell (p:=⟨b,1,ah⟩) hb a1).setCell (p:=⟨b,2,ah⟩) hb a2).setCell (p:=⟨b,3,ah⟩) hb a3
theorem Ii {α:Type} {E:Ek α} {W:aj} {B:Nat} {v:aG} {l:List α} (h:Own E W B v l) (b:Nat) (hb:b<B) (a0 a1 a2 a3:aG):Own E (TJ W b a0 a1 a2 a3) B v l :=
 dP (dP (dP (dP h b 0 a0 hb) b 1 a1 hb) b 2 a2 hb) b 3 a3 hb
theorem Ac (x:kr) (p:List C5) (w:aj) (hp:gu w (dU x.2.2.1) p) (hl:p.length<=900) :
  aS J 42 #[nR x] w fun e w'=>(∃ v':Sl,e=Z (nR (x.1,x.2.1,v',x.2.2.2))/\jP w' w.heap.size (dU v') p)/\Below w.heap.size w w':=by
 obtain⟨a,b,⟨s1,s2,s3⟩,q⟩:=x;obtain⟨h0,X,Y⟩:=iE w #[ay aA a,ay aA b,U s1 s2 s3,ay aA q] #[ay aA 0,ay aA 0,U ah 0 0,ay aA 0] 53 53;have C:=O (sJ (s1,s2,s3) p _ (hp.on h0) hl);have B:=O h0;have x2:=X.cell 2;simp only [aI,aJ,aK] at x2;have X:=O X;have Y:=O Y;clear h0 hp hl;go_enter Tryz.func42,Tryz.ntmps42;go_wp2_with fail;generalize (w.alloc (aH #[ay aA a,ay aA b,U s1 s2 s3,ay aA q] 53)).alloc (aH #[ay aA 0,ay aA 0,U ah 0 0,ay aA 0] 53)=W at *;refine C.out.mono ?_;rintro e w1 ⟨⟨⟨u1,u2,u3⟩,rfl,ho⟩,hb⟩;have X1:=X.out.on hb;have Y1:=Y.out.on hb;have hs:w.heap.size<W.heap.size:=X.out.lt;have O1:=O (dP ho w.heap.size 2 (U u1 u2 u3) hs);have XB:=O (show dN _ _ #[ay aA a,ay aA b,U u1 u2 u3,ay aA q] _ from by simpa using dR (k:=2) X1 (U u1 u2 u3));have YB:=O (show dN _ _ _ _ from (aN w1 ⟨w.heap.size,2,ah⟩ (U u1 u2 u3) _ (show w.heap.size+1≠w.heap.size by omega)).trans Y1);have B1:=O ((B.out.trans (hb.mono B.out.size)).setCell (p:=⟨w.heap.size,2,ah⟩) (aL _) (U u1 u2 u3));have y2:=X1.cell 2;have f2:=X1.fr 2;have z2:=X1.lt;simp only [aI,aJ,aK] at y2;clear X1 Y1 ho hb x2 C;go_upto_region 2 with fail;clear y2 f2 z2;generalize w1.setCell ⟨w.heap.size,2,ah⟩ (U u1 u2 u3)=w2 at *;obtain⟨x0,x1,x2,x3⟩:=XB.out.Ke;obtain⟨r0,r1,r2,r3⟩:=YB.out.Ke;obtain⟨t0,t1,t2,t3⟩:=YB.out.fs4;have zz:=YB.out.lt;have hs2:w.heap.size+1<W.heap.size:=Y.out.lt;have FB:=O (Ab YB.out (ay aA a) (ay aA b) (U u1 u2 u3) (ay aA q));have BL:=O (vO (b:=w.heap.size+1) B1.out (by omega) (ay aA a) (ay aA b) (U u1 u2 u3) (ay aA q));have FO:=O (Ii O1.out (w.heap.size+1) hs2 (ay aA a) (ay aA b) (U u1 u2 u3) (ay aA q));have HS:=O hs;clear hs hs2;go_wp2_with fail;obtain⟨v0,v1,v2,v3⟩:=FB.out.Ke;refine bA (v:=.agg #[ay aA a,ay aA b,U u1 u2 u3,ay aA q]) (by simp [results,Tryz.results42,go_sem,v0,v1,v2,v3]) rfl ?_;exact⟨⟨(u1,u2,u3),rfl,dJ FO.out (dw HS.out)⟩,BL.out⟩
theorem jG {α:Type} {E:Ek α} (K:E.Ok) {W:aj} {B g n cap k:Nat} {l:List α} {x:α} (h:Own E W B (U (ak ⟨g,0,ah⟩) n cap) l) (hk:l[k]?=ak x):∀ w,Below W.heap.size W w->∀ j u,(E.cells x)[j]?=ak u->w.cell? ((⟨g,k * E.n,ah⟩:bW).add j)=ak u:=by
 obtain⟨ao,c,hv⟩:=(Row.dH h).len;obtain⟨rfl,rfl,rfl⟩:ak ⟨g,0,ah⟩=ao/\n=l.length/\cap=c:=by simpa using hv
 obtain⟨p,h1,_,h2⟩:=nC K (Row.dH h) rfl rfl hk;have h3:=oW K g k l.length cap (bF.1 hk).1 W;rw [h1] at h3;injection h3 with h4 _
 injection h4 with h5
 injection h5 with h6
 subst h6;exact h2
theorem jf {α:Type} {E:Ek α} {W:aj} {B g n cap:Nat} {l:List α} (h:Own E W B (U (ak ⟨g,0,ah⟩) n cap) l):∃ cur,dN W g cur E.t:=by
 rcases gQ h with⟨h1,_⟩|⟨g',c',cur,h1,_,h2,_⟩
 ·cases h1
 ·obtain⟨rfl,_⟩:g=g'/\True:=by simp at h1; exact⟨h1.1,trivial⟩
  exact⟨cur,h2⟩
theorem qN {W:aj} {b g:Nat} {c d:Array aG} {s t:bL} (hb:dN W b c s) (hg:dN W g d t) (hne:(s == t)=aT):b≠g:=by
 rintro rfl;unfold dN at hb hg;rw [hb] at hg;injection hg with h
 injection h with _ h2
 rw [h2] at hne;simp at hne
def But (g:Nat) (W x:aj):Prop:=(∀ k,k<W.heap.size->k≠g->x.heap[k]?=W.heap[k]?)/\W.heap.size<=x.heap.size
theorem But.box {g b:Nat} {W x:aj} {cs:Array aG} {t:bL} (h:But g W x) (hb:dN W b cs t) (hne:b≠g):dN x b cs t:=(h.1 b hb.lt hne).trans hb
theorem But.own {α:Type} {E:Ek α} {g:Nat} {W x:aj} {B:Nat} {v:aG} {l:List α} {d:Array aG} {t:bL} (h:But g W x) (ho:Own E W B v l) (hg:dN W g d t) (hne:(E.t == t)=aT):Own E x B v l:=by
 refine⟨ho.1,?_⟩;rcases ho.2 with h2|⟨g',cap,cur,h1,h2,h3,h4⟩
 ·exact bZ h2
 ·exact aW ⟨g',cap,cur,h1,h2,by rw [h.1 g' (lt_of_heap h3) (qN (show dN W g' cur E.t from h3) hg hne)]; exact h3,h4⟩
theorem Dr:∀ (l:List kr) (k:Nat) (x:kr),k<l.length->flat ED (l.set k x)=((((flat ED l).set (k * 4) (ay aA x.1)).set (k * 4+1) (ay aA x.2.1)).set (k * 4+2) (dU x.2.2.1)).set (k * 4+3) (ay aA x.2.2.2)
 | [],k,x,h=>by simp at h
 | y::r,0,x,_=>rfl
 | y::r,k+1,x,h=>by
  have ih:=Dr r k x (by simpa using h);rw [show (k+1) * 4+3=(k * 4+3)+1+1+1+1 by omega,show (k+1) * 4+2=(k * 4+2)+1+1+1+1 by omega,show (k+1) * 4+1=(k * 4+1)+1+1+1+1 by omega,show (k+1) * 4=(k * 4)+1+1+1+1 by omega];simp only [aY,flat,ED,cellsD,bJ,bN] at ih ⊢;rw [ih]
theorem Dt:∀ (l:List iH) (k:Nat) (x:iH) (s:Sl),l[k]?=ak x->flat EN (l.set k (x.1,x.2.1,x.2.2.1,x.2.2.2.1,s,x.2.2.2.2.2.1,x.2.2.2.2.2.2))=(flat EN l).set (k * 7+4) (dU s)
 | [],k,x,s,h=>by simp at h
 | y::r,0,x,s,h=>by
  obtain rfl:y=x:=by simpa using h
  rfl
 | y::r,k+1,x,s,h=>by
  have ih:=Dt r k x s (by simpa using h);rw [show (k+1) * 7+4=(k * 7+4)+1+1+1+1+1+1+1 by omega];simp only [aY,flat,EN,iR,bJ,bN] at ih ⊢;rw [ih]
theorem Du:∀ (l:List pK) (k:Nat) (x:pK) (s:Sl),l[k]?=ak x->flat EW (l.set k (x.1,x.2.1,s))=(flat EW l).set (k * 3+2) (dU s)
 | [],k,x,s,h=>by simp at h
 | y::r,0,x,s,h=>by
  obtain rfl:y=x:=by simpa using h
  rfl
 | y::r,k+1,x,s,h=>by
  have ih:=Du r k x s (by simpa using h);rw [show (k+1) * 3+2=(k * 3+2)+1+1+1 by omega];simp only [aY,flat,EW,qK,bJ,bN] at ih ⊢;rw [ih]
def adh {α:Type} (E:Ek α) (B g:Nat) (v:aG) (l:List α) (w w':aj):Prop:=Own E w' B v l/\But g w w'/\(∀ B' W,B'<=g->Below B' W w->Below B' W w')
theorem dY (w:aj) (g j:Nat) (u:aG):But g w (w.setCell ⟨g,j,ah⟩ u):=⟨fun k _ hk=>aN w ⟨g,j,ah⟩ u k hk,by simp⟩
theorem But.trans {g:Nat} {a b c:aj} (h1:But g a b) (h2:But g b c):But g a c:=⟨fun k hk hne=>(h2.1 k (Nat.lt_of_lt_of_le hk h1.2) hne).trans (h1.1 k hk hne),Nat.le_trans h1.2 h2.2⟩
theorem But.of_below {g:Nat} {a b:aj} (h:Below a.heap.size a b):But g a b:=⟨fun k hk _=>h.block k hk,h.size⟩
theorem adi {w:aj} {B g n cap k:Nat} {l:List kr} (x:kr) (h:lD w B (U (ak ⟨g,0,ah⟩) n cap) l) (hk:k<l.length) :
  ∃ w',(Instr.storeAt 53 (aB (ak ⟨g,k * 4,ah⟩)) (nR x)).run J w=.ok () w'/\adh ED B g (U (ak ⟨g,0,ah⟩) n cap) (l.set k x) w w':=by
 obtain⟨y,hy⟩:∃ y,l[k]?=ak y:=⟨_,aQ hk⟩;have c:=jG okD h hy w (au _ _);have c0:=c 0 _ rfl;have c1:=c 1 _ rfl;have c2:=c 2 _ rfl;have c3:=c 3 _ rfl;simp [Addr.add,ED] at c0 c1 c2 c3;obtain⟨cur,hb⟩:=jf h;have f:=fun j=>hb.fr j;obtain⟨ao,c',hv⟩:=(Row.dH h).len;obtain⟨_,rfl,_⟩:ak ⟨g,0,ah⟩=ao/\n=l.length/\cap=c':=by simpa using hv
 have h:w.ownsRow B 53 4 (U (ak ⟨g,0,ah⟩) l.length cap) l.length (flat ED l):=h;have s1:=(h.stored (k * 4) (ay aA x.1)).1;have s2:=(s1.stored (k * 4+1) (ay aA x.2.1)).1;have s3:=(s2.stored (k * 4+2) (dU x.2.2.1)).1;have s4:=(s3.stored (k * 4+3) (ay aA x.2.2.2)).1;refine⟨(((w.setCell ⟨g,k * 4,ah⟩ (ay aA x.1)).setCell ⟨g,k * 4+1,ah⟩ (ay aA x.2.1)).setCell ⟨g,k * 4+2,ah⟩ (dU x.2.2.1)).setCell ⟨g,k * 4+3,ah⟩ (ay aA x.2.2.2),?_,?_,((dY _ g _ _).trans (dY _ g _ _)).trans ((dY _ g _ _).trans (dY _ g _ _)),fun B' W hB hb=>(((hb.setCell (p:=⟨g,_,ah⟩) hB _).setCell (p:=⟨g,_,ah⟩) hB _).setCell (p:=⟨g,_,ah⟩) hB _).setCell (p:=⟨g,_,ah⟩) hB _⟩
 ·simp [go_sem,c0,c1,c2,c3,f]
 ·have e:=Dr l k x hk;show World.ownsRow _ B 53 4 _ (l.set k x).length (flat ED (l.set k x));rw [e,bO];exact s4
theorem adj {w:aj} {B g n cap k:Nat} {l:List iH} {x:iH} (s1:Option bW) (s2 s3:Nat) (h:iU w B (U (ak ⟨g,0,ah⟩) n cap) l) (hk:l[k]?=ak x) :
  ∃ w',(Instr.storeAt 41 (aB (ak ⟨g,k * 7+4,ah⟩)) (U s1 s2 s3)).run J w=.ok () w'/\adh EN B g (U (ak ⟨g,0,ah⟩) n cap) (l.set k (x.1,x.2.1,x.2.2.1,x.2.2.2.1,(s1,s2,s3),x.2.2.2.2.2.1,x.2.2.2.2.2.2)) w w':=by
 have c:=jG lF h hk w (au _ _);have c4:=c 4 _ rfl;simp [Addr.add,EN] at c4;obtain⟨cur,hb⟩:=jf h;have f:=hb.fr (k * 7+4);obtain⟨ao,c',hv⟩:=(Row.dH h).len;obtain⟨_,rfl,_⟩:ak ⟨g,0,ah⟩=ao/\n=l.length/\cap=c':=by simpa using hv
 have h:w.ownsRow B 68 7 (U (ak ⟨g,0,ah⟩) l.length cap) l.length (flat EN l):=h;have t1:=(h.stored (k * 7+4) (U s1 s2 s3)).1;refine⟨w.setCell ⟨g,k * 7+4,ah⟩ (U s1 s2 s3),by simp [go_sem,c4,f],?_,dY _ g _ _,fun B' W hB hb=>hb.setCell (p:=⟨g,_,ah⟩) hB _⟩;have e:=Dt l k x (s1,s2,s3) hk;show World.ownsRow _ B 68 7 _ (List.length _) (flat EN _);rw [e,bO];exact t1
theorem adk {w:aj} {B g n cap k:Nat} {l:List pK} {x:pK} (s1:Option bW) (s2 s3:Nat) (h:og w B (U (ak ⟨g,0,ah⟩) n cap) l) (hk:l[k]?=ak x) :
  ∃ w',(Instr.storeAt 41 (aB (ak ⟨g,k * 3+2,ah⟩)) (U s1 s2 s3)).run J w=.ok () w'/\adh EW B g (U (ak ⟨g,0,ah⟩) n cap) (l.set k (x.1,x.2.1,(s1,s2,s3))) w w':=by
 have c:=jG okW h hk w (au _ _);have c2:=c 2 _ rfl;simp [Addr.add,EW] at c2;obtain⟨cur,hb⟩:=jf h;have f:=hb.fr (k * 3+2);obtain⟨ao,c',hv⟩:=(Row.dH h).len;obtain⟨_,rfl,_⟩:ak ⟨g,0,ah⟩=ao/\n=l.length/\cap=c':=by simpa using hv
 have h:w.ownsRow B 61 3 (U (ak ⟨g,0,ah⟩) l.length cap) l.length (flat EW l):=h;have t1:=(h.stored (k * 3+2) (U s1 s2 s3)).1;refine⟨w.setCell ⟨g,k * 3+2,ah⟩ (U s1 s2 s3),by simp [go_sem,c2,f],?_,dY _ g _ _,fun B' W hB hb=>hb.setCell (p:=⟨g,_,ah⟩) hB _⟩;have e:=Du l k x (s1,s2,s3) hk;show World.ownsRow _ B 61 3 _ (List.length _) (flat EW _);rw [e,bO];exact t1
theorem eH.set {α β:Type} {R:α->β->Prop}:∀ {l:List α} {m:List β} (k:Nat) (a:α) (b:β),eH R l m->m[k]?=ak b->R a b->eH R (l.set k a) m
 | _,_,_,_,_,.nil,h,_=>by simp at h
 | _,_,0,a,b,.cons x t,h,hr=>by
  simp at h;subst h;exact .cons hr t
 | _,_,k+1,a,b,.cons x t,h,hr=>.cons x (eH.set k a b t (by simpa using h) hr)
def PM (w0:aj) (B:Nat) (wr:aj) (v:aG) (p:List C5):Prop:=gu w0 v p\/jP wr B v p
def J9 (w0:aj) (B:Nat) (wr:aj) (x:kr) (a:Ad):Prop:=(x.1,x.2.1)=a.id/\x.2.2.2=a.par/\PM w0 B wr (dU x.2.2.1) a.p
def tq (w0:aj) (B:Nat) (wr:aj) (x:iH) (a:En):Prop:=(x.1,x.2.1)=a.tree/\(x.2.2.1,x.2.2.2.1)=a.sub/\x.2.2.2.2.2.1=a.from_/\x.2.2.2.2.2.2=a.up/\PM w0 B wr (dU x.2.2.2.2.1) a.p
def Nb (w0:aj) (B:Nat) (wr:aj) (x:pK) (a:Ow):Prop:=(x.1,x.2.1)=a.id/\PM w0 B wr (dU x.2.2) a.p
theorem PM.grow {w0 wr x:aj} {B:Nat} {v:aG} {p:List C5} (h:PM w0 B wr v p) (hb:Below wr.heap.size wr x):PM w0 B x v p:=h.imp id fun h=>Bk.dG h hb
theorem PM.but {w0 wr x:aj} {B:Nat} {v:aG} {p:List C5} {g:Nat} {d:Array aG} {t:bL} (h:PM w0 B wr v p) (hb:But g wr x) (hg:dN wr g d t) (hne:(106 == t)=aT):PM w0 B x v p:=h.imp id fun h=>hb.own h hg hne
theorem PM.row {w0 wr:aj} {B:Nat} {v:aG} {p:List C5} (h:PM w0 B wr v p) (hb:Below w0.heap.size w0 wr):gu wr v p:=h.elim (fun h=>h.on hb) Row.dH
theorem J9.grow {w0 wr x:aj} {B:Nat} {y:kr} {a:Ad} (h:J9 w0 B wr y a) (hb:Below wr.heap.size wr x):J9 w0 B x y a:=⟨h.1,h.2.1,h.2.2.grow hb⟩
theorem tq.grow {w0 wr x:aj} {B:Nat} {y:iH} {a:En} (h:tq w0 B wr y a) (hb:Below wr.heap.size wr x):tq w0 B x y a:=⟨h.1,h.2.1,h.2.2.1,h.2.2.2.1,h.2.2.2.2.grow hb⟩
theorem Nb.grow {w0 wr x:aj} {B:Nat} {y:pK} {a:Ow} (h:Nb w0 B wr y a) (hb:Below wr.heap.size wr x):Nb w0 B x y a:=⟨h.1,h.2.grow hb⟩
theorem J9.but {w0 wr x:aj} {B:Nat} {y:kr} {a:Ad} {g:Nat} {d:Array aG} {t:bL} (h:J9 w0 B wr y a) (hb:But g wr x) (hg:dN wr g d t) (hne:(106 == t)=aT):J9 w0 B x y a:=⟨h.1,h.2.1,h.2.2.but hb hg hne⟩
theorem tq.but {w0 wr x:aj} {B:Nat} {y:iH} {a:En} {g:Nat} {d:Array aG} {t:bL} (h:tq w0 B wr y a) (hb:But g wr x) (hg:dN wr g d t) (hne:(106 == t)=aT):tq w0 B x y a:=⟨h.1,h.2.1,h.2.2.1,h.2.2.2.1,h.2.2.2.2.but hb hg hne⟩
theorem Nb.but {w0 wr x:aj} {B:Nat} {y:pK} {a:Ow} {g:Nat} {d:Array aG} {t:bL} (h:Nb w0 B wr y a) (hb:But g wr x) (hg:dN wr g d t) (hne:(106 == t)=aT):Nb w0 B x y a:=⟨h.1,h.2.but hb hg hne⟩
def vw (w:aj):aj:={ w with heap:=#[] }
theorem Ae {w x:aj} {B:Nat} (h:Below B w x):Below (vw w).heap.size (vw w) x:=⟨h.os,h.tape,h.output,bV _,fun k hk=>absurd hk (bY k)⟩
theorem Yz (w:aj) (a:bW):(vw w).cell? a=ah:=by
 unfold World.cell? vw;simp
theorem KU {α:Type} {E:Ek α} {w x:aj} {v:aG} {l:List α} (h:Row E (vw w) v l):Row E x v l:=by
 rcases h with h|⟨a,cap,h1,h2,h3,h4⟩
 ·exact bZ h
 ·refine aW ⟨a,cap,h1,h2,h3,fun j u hj=>?_⟩;have h5:=h4 j u hj;rw [Yz] at h5;cases h5
theorem vk {α:Type}:∀ (l:List α) (k:Nat) (x:α),k<l.length->(l.set k x).take (k+1)=l.take k++[x]
 | [],k,x,h=>absurd h (bY k)
 | _::_,0,_,_=>rfl
 | a::l,k+1,x,h=>by
  rw [aY,List.take_succ_cons,vk l k x (by simpa using h)]
  rfl
theorem xZ {α β:Type} {R:α->β->Prop} {l:List α} {m:List β} {k:Nat} {x:α} {y:β} (h:eH R (l.take k) (m.take k)) (hk:k<l.length) (hy:m[k]?=ak y) (hx:R x y):eH R ((l.set k x).take (k+1)) (m.take (k+1)):=by
 rw [vk l k x hk,bH,hy];exact h.append (.cons hx .nil)
structure Cp (w0:aj) (B:Nat) (wr:aj) (b:Br) (nv av sv ev ov:Sl):Prop where
 near:kS wr B (dU nv) b.near
 seen:qY wr B (dU sv) b.seen
 dQ:∃ l,lD wr B (dU av) l/\eH (J9 w0 B wr) l b.dQ
 ent:∃ l,iU wr B (dU ev) l/\eH (tq w0 B wr) l b.ent
 own:∃ l,og wr B (dU ov) l/\eH (Nb w0 B wr) l b.own
theorem Cp.grow {w0 wr x:aj} {B:Nat} {b:Br} {nv av sv ev ov:Sl} (h:Cp w0 B wr b nv av sv ev ov) (hb:Below wr.heap.size wr x):Cp w0 B x b nv av sv ev ov where
 near:=Bk.dG h.near hb
 seen:=Bk.dG h.seen hb
 dQ:=by obtain⟨l,h1,h2⟩:=h.dQ; exact⟨l,Bk.dG h1 hb,h2.mono fun _ _ h=>h.grow hb⟩
 ent:=by obtain⟨l,h1,h2⟩:=h.ent; exact⟨l,Bk.dG h1 hb,h2.mono fun _ _ h=>h.grow hb⟩
 own:=by obtain⟨l,h1,h2⟩:=h.own; exact⟨l,Bk.dG h1 hb,h2.mono fun _ _ h=>h.grow hb⟩
theorem Cp.but {w0 wr x:aj} {B:Nat} {b:Br} {nv av sv ev ov:Sl} (h:Cp w0 B wr b nv av sv ev ov) {g:Nat} {d:Array aG} (hb:But g wr x) (hg:dN wr g d 33):Cp w0 B x b nv av sv ev ov where
 near:=hb.own h.near hg (by decide)
 seen:=hb.own h.seen hg (by decide)
 dQ:=by obtain⟨l,h1,h2⟩:=h.dQ; exact⟨l,hb.own h1 hg (by decide),h2.mono fun _ _ h=>h.but hb hg (by decide)⟩
 ent:=by obtain⟨l,h1,h2⟩:=h.ent; exact⟨l,hb.own h1 hg (by decide),h2.mono fun _ _ h=>h.but hb hg (by decide)⟩
 own:=by obtain⟨l,h1,h2⟩:=h.own; exact⟨l,hb.own h1 hg (by decide),h2.mono fun _ _ h=>h.but hb hg (by decide)⟩
structure Cs (w0 w wr:aj) (b:Br) (kd kn kw:Nat) (nv av sv ev ov:Sl):Prop where
 uZ:Below w.heap.size w wr
 bx:dN wr w.heap.size #[ay aA b.me,dU nv,dU av,dU sv,dU ev,dU ov] 33
 bz:dN wr (w.heap.size+1) #[ay aA 0,U ah 0 0,U ah 0 0,U ah 0 0,U ah 0 0,U ah 0 0] 33
 near:kS wr w.heap.size (dU nv) b.near
 seen:qY wr w.heap.size (dU sv) b.seen
 dQ:∃ l,lD wr w.heap.size (dU av) l/\eH (J9 w0 w.heap.size wr) l b.dQ/\eH (J9 (vw w0) w.heap.size wr) (l.take kd) (b.dQ.take kd)
 ent:∃ l,iU wr w.heap.size (dU ev) l/\eH (tq w0 w.heap.size wr) l b.ent/\eH (tq (vw w0) w.heap.size wr) (l.take kn) (b.ent.take kn)
 own:∃ l,og wr w.heap.size (dU ov) l/\eH (Nb w0 w.heap.size wr) l b.own/\eH (Nb (vw w0) w.heap.size wr) (l.take kw) (b.own.take kw)
theorem Cs.TJ {w0 w wr x:aj} {b:Br} {kd kn kw kd':Nat} {nv sv ev ov:Sl} {g n cap:Nat} {l l':List kr} (h:Cs w0 w wr b kd kn kw nv (ak ⟨g,0,ah⟩,n,cap) sv ev ov) (ho:lD wr w.heap.size (U (ak ⟨g,0,ah⟩) n cap) l) (hx:lD x w.heap.size (U (ak ⟨g,0,ah⟩) n cap) l') (hb:But g wr x) (hw:Below w.heap.size w x) (hA:eH (J9 w0 w.heap.size x) l' b.dQ) (hV:eH (J9 (vw w0) w.heap.size x) (l'.take kd') (b.dQ.take kd')):Cs w0 w x b kd' kn kw nv (ak ⟨g,0,ah⟩,n,cap) sv ev ov:=by
 obtain⟨cur,hg⟩:=jf ho;exact {
  uZ:=hw
  bx:=hb.box h.bx (qN h.bx hg (by decide))
  bz:=hb.box h.bz (qN h.bz hg (by decide))
  near:=hb.own h.near hg (by decide)
  seen:=hb.own h.seen hg (by decide)
  dQ:=⟨l',hx,hA,hV⟩
  ent:=by obtain⟨l,h1,h2,h3⟩:=h.ent; exact⟨l,hb.own h1 hg (by decide),h2.mono fun _ _ h=>h.but hb hg (by decide),h3.mono fun _ _ h=>h.but hb hg (by decide)⟩
  own:=by obtain⟨l,h1,h2,h3⟩:=h.own; exact⟨l,hb.own h1 hg (by decide),h2.mono fun _ _ h=>h.but hb hg (by decide),h3.mono fun _ _ h=>h.but hb hg (by decide)⟩ }
theorem Cs.ahZ {w0 w wr x:aj} {b:Br} {kd kn kw kn':Nat} {nv av sv ov:Sl} {g n cap:Nat} {l l':List iH} (h:Cs w0 w wr b kd kn kw nv av sv (ak ⟨g,0,ah⟩,n,cap) ov) (ho:iU wr w.heap.size (U (ak ⟨g,0,ah⟩) n cap) l) (hx:iU x w.heap.size (U (ak ⟨g,0,ah⟩) n cap) l') (hb:But g wr x) (hw:Below w.heap.size w x) (hA:eH (tq w0 w.heap.size x) l' b.ent) (hV:eH (tq (vw w0) w.heap.size x) (l'.take kn') (b.ent.take kn')):Cs w0 w x b kd kn' kw nv av sv (ak ⟨g,0,ah⟩,n,cap) ov:=by
 obtain⟨cur,hg⟩:=jf ho;exact {
  uZ:=hw
  bx:=hb.box h.bx (qN h.bx hg (by decide))
  bz:=hb.box h.bz (qN h.bz hg (by decide))
  near:=hb.own h.near hg (by decide)
  seen:=hb.own h.seen hg (by decide)
  dQ:=by obtain⟨l,h1,h2,h3⟩:=h.dQ; exact⟨l,hb.own h1 hg (by decide),h2.mono fun _ _ h=>h.but hb hg (by decide),h3.mono fun _ _ h=>h.but hb hg (by decide)⟩
  ent:=⟨l',hx,hA,hV⟩
  own:=by obtain⟨l,h1,h2,h3⟩:=h.own; exact⟨l,hb.own h1 hg (by decide),h2.mono fun _ _ h=>h.but hb hg (by decide),h3.mono fun _ _ h=>h.but hb hg (by decide)⟩ }
theorem Cs.setW {w0 w wr x:aj} {b:Br} {kd kn kw kw':Nat} {nv av sv ev:Sl} {g n cap:Nat} {l l':List pK} (h:Cs w0 w wr b kd kn kw nv av sv ev (ak ⟨g,0,ah⟩,n,cap)) (ho:og wr w.heap.size (U (ak ⟨g,0,ah⟩) n cap) l) (hx:og x w.heap.size (U (ak ⟨g,0,ah⟩) n cap) l') (hb:But g wr x) (hw:Below w.heap.size w x) (hA:eH (Nb w0 w.heap.size x) l' b.own) (hV:eH (Nb (vw w0) w.heap.size x) (l'.take kw') (b.own.take kw')):Cs w0 w x b kd kn kw' nv av sv ev (ak ⟨g,0,ah⟩,n,cap):=by
 obtain⟨cur,hg⟩:=jf ho;exact {
  uZ:=hw
  bx:=hb.box h.bx (qN h.bx hg (by decide))
  bz:=hb.box h.bz (qN h.bz hg (by decide))
  near:=hb.own h.near hg (by decide)
  seen:=hb.own h.seen hg (by decide)
  dQ:=by obtain⟨l,h1,h2,h3⟩:=h.dQ; exact⟨l,hb.own h1 hg (by decide),h2.mono fun _ _ h=>h.but hb hg (by decide),h3.mono fun _ _ h=>h.but hb hg (by decide)⟩
  ent:=by obtain⟨l,h1,h2,h3⟩:=h.ent; exact⟨l,hb.own h1 hg (by decide),h2.mono fun _ _ h=>h.but hb hg (by decide),h3.mono fun _ _ h=>h.but hb hg (by decide)⟩
  own:=⟨l',hx,hA,hV⟩ }
end Av
namespace Bk
open Go.RowKit Rw YtkcfgbddlpomgaaGreat.Nm Pr
def Nc (B b2 _:Nat) (so:Option bW) (sn sc at_:Nat) (lo hiv:aG) (lt ld:List iH) (i:Nat) (v:aG) (x:aj):Prop :=
 match i with
 | 0=>∃ g,v=U (ak ⟨g,0,ah⟩) 0 0/\B<=g/\dN x g #[] 68
 | 1=>v=aB (ak ⟨b2,4,ah⟩)
 | 2=>v=U so sn sc
 | 3=>v=ay aA (at_:Int)
 | 4=>v=lo
 | 5=>iU x B v lt
 | 6=>v=aB (ak ⟨b2,4,ah⟩)
 | 7=>v=U so sn sc
 | 8=>v=ay aA (at_:Int)
 | 9=>v=ay aA ((at_:Int)+1)
 | 10=>v=hiv
 | 11=>iU x B v (lt++ld)
 | 12=>v=aB (ak ⟨b2,4,ah⟩)
 | _=>True
noncomputable def aaj:Code:=((Tryz.f93.body.bind (eP 5)).getD .skip)
theorem TL (B b2 b3:Nat) (so:Option bW) (sn sc at_:Nat) (lo hiv:aG) (lt ld:List iH) (i:Nat) (v:aG) (x x':aj) (h:Nc B b2 b3 so sn sc at_ lo hiv lt ld i v x) (hb:aF x.heap.size x x'):Nc B b2 b3 so sn sc at_ lo hiv lt ld i v x':=by
 by_cases hi:i<13
 ·rcases (by omega:i=0\/i=1\/i=2\/i=3\/i=4\/i=5\/i=6\/i=7\/i=8\/i=9\/i=10\/i=11\/i=12) with rfl|rfl|rfl|rfl|rfl|rfl|rfl|rfl|rfl|rfl|rfl|rfl|rfl
  ·obtain⟨g,h1,h2,h3⟩:=h;exact⟨g,h1,h2,h3.on hb⟩
  ·exact h
  ·exact h
  ·exact h
  ·exact h
  ·exact dG h hb
  ·exact h
  ·exact h
  ·exact h
  ·exact h
  ·exact h
  ·exact dG h hb
  ·exact h
 ·unfold Nc
  split <;> first | omega | trivial
theorem ah2 (Q:Exit->Act->aj->Prop) (W:aj) (b2 b3:Nat) (me:Int) (y1 y2 y3 y5:aG) (so:Option bW) (sn sc at_:Nat) (l:List iH) (u0 u1 u2 u3 u6 u7 u8 u9 u10 u12 u13 u14 u15 u16 u17 u18 u19 u20 u21 u22 u23 u24 u25 u26 u27 u28 u29 u30 u31 u32 u33 u34 u35 u36 u37 u38 u39 u40 u41 u42 u43 u44 u45 u46 u47 u48 u49 u50 u51 u52 u53 u54 u55 u56 u57 u58 u59 u60 u61 u62 u63 u64 u65 u66 u67 u68 u69 u70 u71 u72 u73 u74 u75 u76 u77 u78 u79 u80 u81 u82 u83 u84 u85 u86 u87 u88 u89 u90 u91 u92 u93 u94 u95 u96 u97 u98 u99 u100 u101 u102 u103:aG)
  (h2:dN W b2 #[ay aA me,y1,y2,y3,U so sn sc,y5] 33) (hs:kM W (U so sn sc) l) (hat:at_+1<=l.length) (hlen:l.length<=900)
  (hQ:∀ (x:aj) (v39 v40 v41 v42 v43 v44 v45 v46 v47 v48 v49 v50 v51:aG),dN x b2 #[ay aA me,y1,y2,y3,v50,y5] 33->iU x W.heap.size v50 (l.take at_++l.drop (at_+1))->(∀ B,B<=b2->aF B W x)->(∀ c cs t,c≠b2->dN W c cs t->dN x c cs t)->(∀ k,k<W.heap.size->k≠b2->x.heap[k]?=W.heap[k]?)->Q .normal ⟨(u0::u1::u2::u3::aB (ak ⟨b2,0,ah⟩)::aB (ak ⟨b3,0,ah⟩)::u6::u7::u8::u9::u10::ay aA (at_:Int)::u12::u13::u14::u15::u16::u17::u18::u19::u20::u21::u22::u23::u24::u25::u26::u27::u28::u29::u30::u31::u32::u33::u34::u35::u36::u37::u38::v39::v40::v41::v42::v43::v44::v45::v46::v47::v48::v49::v50::v51::u52::u53::u54::u55::u56::u57::u58::u59::u60::u61::u62::u63::u64::u65::u66::u67::u68::u69::u70::u71::u72::u73::u74::u75::u76::u77::u78::u79::u80::u81::u82::u83::u84::u85::u86::u87::u88::u89::u90::u91::u92::u93::u94::u95::u96::u97::u98::u99::u100::u101::u102::u103::[]).toArray,[]⟩ x) :
  Code.wp J aaj Q ⟨(u0::u1::u2::u3::aB (ak ⟨b2,0,ah⟩)::aB (ak ⟨b3,0,ah⟩)::u6::u7::u8::u9::u10::ay aA (at_:Int)::u12::u13::u14::u15::u16::u17::u18::u19::u20::u21::u22::u23::u24::u25::u26::u27::u28::u29::u30::u31::u32::u33::u34::u35::u36::u37::u38::u39::u40::u41::u42::u43::u44::u45::u46::u47::u48::u49::u50::u51::u52::u53::u54::u55::u56::u57::u58::u59::u60::u61::u62::u63::u64::u65::u66::u67::u68::u69::u70::u71::u72::u73::u74::u75::u76::u77::u78::u79::u80::u81::u82::u83::u84::u85::u86::u87::u88::u89::u90::u91::u92::u93::u94::u95::u96::u97::u98::u99::u100::u101::u102::u103::[]).toArray,[]⟩ W:=by
 have HQ:=O hQ;have H2:=O h2;have AT1:=O (show at_<=900 by omega);obtain⟨lo,Cy,wm⟩:=vL lF hs at_ (by omega);obtain⟨hiv,Cz,xQ⟩:=qH lF hs (at_+1) hat;have LT:=O (show (l.take at_).length<=1000 by rw [bU]; omega);have SK:=O (show (l.take at_).length<=900 by rw [bU]; omega);have LD:=O (show (l.drop (at_+1)).length<=1000 by rw [List.length_drop]; omega);generalize l.take at_=lt at *;generalize l.drop (at_+1)=ld at *;have SL:=O Cy;have SH:=O (show ∀ w,(Instr.sliceAt 30 (U so sn sc) (ak (ay aA ((at_:Int)+1))) ah ah).run J w=.ok hiv w from Cz);have RL:=O wm;have RH:=O xQ;clear hQ h2 hs Cy Cz wm xQ hat hlen;have iN:=TL W.heap.size b2 b3 so sn sc at_ lo hiv lt ld;unfold aaj
 conv=>arg 2; whnf
 have nd:∀ j,(j<39\/52<=j)->∀ i,i<13->(fun i=>39+i) i≠j:=by
  intro j hj i hi h;simp only at h;omega
 refine Rg.fM 14 13 (fun i=>39+i) (fun i=>if i=0 then 5 else if i=5 then 11 else 13) (Nc W.heap.size b2 b3 so sn sc at_ lo hiv lt ld) (by kernel_rfl) (by kernel_rfl) rfl (by decide) (fun i j _ _ h=>by have h2:39+i=39+j:=h; omega) (fun i hi=>by show 39+i<104; omega) ?_ (fun _=>Rg.jq 1 (by kernel_rfl)) (fun kk o h1 h2=>by omega) ?_
 ·intro i o hi ho a x D hnd hc hD hb seen K hK;clear HQ;rcases (by omega:i=0\/i=1\/i=2\/i=3\/i=4\/i=5\/i=6\/i=7\/i=8\/i=9\/i=10\/i=11\/i=12) with rfl|rfl|rfl|rfl|rfl|rfl|rfl|rfl|rfl|rfl|rfl|rfl|rfl
  ·cases ho;exact Rg.dD rfl rfl (Rg.iQ a.eval _ 30 0 #[] rfl rfl (by simp [go_sem])) (hK (U (ak ⟨x.heap.size,0,ah⟩) 0 0) (x.alloc (aH #[] 68)) ⟨x.heap.size,rfl,hb.size,dO x #[] 68⟩ ((au _ _).alloc hb.size _) fun j u _ _ _ _ _ h=>iN j u _ _ h ((au _ _).alloc (aL _) _))
  ·cases ho;have e4:a.eval (aR 4)=aB (ak ⟨b2,0,ah⟩):=seen.kp 4 _ (nd 4 (by omega)) rfl;exact Rg.dD rfl rfl (Rg.dX a.eval _ 33 (aR 4) 4 rfl (by rw [e4]; simp [go_sem])) (hK _ _ rfl (au _ _) fun _ _ _ _ _ _ _ h=>h)
  ·cases ho;have e40:a.eval (aR 40)=aB (ak ⟨b2,4,ah⟩):=seen.at_ ⟨1,.data⟩ (by simp) rfl (aW (by decide));have y:=(H2.out.on hb).cell 4;simp only [aI,aJ,aK] at y;exact Rg.dD rfl rfl (Rg.dZ a.eval _ 30 (aR 40) rfl (by rw [e40]; simp [go_sem,y])) (hK _ _ rfl (au _ _) fun _ _ _ _ _ _ _ h=>h)
  ·cases ho;have e11:a.eval (aR 11)=ay aA (at_:Int):=seen.kp 11 _ (nd 11 (by omega)) rfl;exact Rg.dD rfl rfl (Rg.fQ a.eval _ (aR 11) rfl x) (hK _ _ e11 (au _ _) fun _ _ _ _ _ _ _ h=>h)
  ·cases ho;have e41:a.eval (aR 41)=U so sn sc:=seen.at_ ⟨2,.data⟩ (by simp) rfl (aW (by decide));have e42:a.eval (aR 42)=ay aA (at_:Int):=seen.at_ ⟨3,.data⟩ (by simp) rfl (aW (by decide));exact Rg.dD rfl rfl (Rg.kD a.eval _ 30 (aR 41) ah (ak (aR 42)) ah rfl (by show (Instr.sliceAt 30 (a.eval (aR 41)) ah (ak (a.eval (aR 42))) ah).run J x=.ok lo x; rw [e41,e42]; exact SL.out x)) (hK _ _ rfl (au _ _) fun _ _ _ _ _ _ _ h=>h)
  ·cases ho;obtain⟨g,q0,hBg,hbx⟩:=seen.at_ ⟨0,.data⟩ (by simp) rfl (bZ rfl);have q0:a.eval (aR 39)=U (ak ⟨g,0,ah⟩) 0 0:=q0;have e43:a.eval (aR 43)=lo:=seen.at_ ⟨4,.data⟩ (by simp) rfl (aW (by decide));obtain⟨v',x',r,o',gr⟩:=gK lF W.heap.size hbx hBg (RL.out.on hb) LT.out 30;exact Rg.dD rfl rfl (Rg.gq a.eval _ (aR 39) (aR 43) 30 rfl q0 e43 r) (hK v' x' o' (gr.mono hb.size) fun j u _ _ _ _ _ h=>iN j u _ _ h gr)
  ·cases ho;have e4:a.eval (aR 4)=aB (ak ⟨b2,0,ah⟩):=seen.kp 4 _ (nd 4 (by omega)) rfl;exact Rg.dD rfl rfl (Rg.dX a.eval _ 33 (aR 4) 4 rfl (by rw [e4]; simp [go_sem])) (hK _ _ rfl (au _ _) fun _ _ _ _ _ _ _ h=>h)
  ·cases ho;have e45:a.eval (aR 45)=aB (ak ⟨b2,4,ah⟩):=seen.at_ ⟨6,.data⟩ (by simp) rfl (aW (by decide));have y:=(H2.out.on hb).cell 4;simp only [aI,aJ,aK] at y;exact Rg.dD rfl rfl (Rg.dZ a.eval _ 30 (aR 45) rfl (by rw [e45]; simp [go_sem,y])) (hK _ _ rfl (au _ _) fun _ _ _ _ _ _ _ h=>h)
  ·cases ho;have e11:a.eval (aR 11)=ay aA (at_:Int):=seen.kp 11 _ (nd 11 (by omega)) rfl;exact Rg.dD rfl rfl (Rg.fQ a.eval _ (aR 11) rfl x) (hK _ _ e11 (au _ _) fun _ _ _ _ _ _ _ h=>h)
  ·cases ho;have e47:a.eval (aR 47)=ay aA (at_:Int):=seen.at_ ⟨8,.data⟩ (by simp) rfl (aW (by decide));exact Rg.dD rfl rfl (Rg.Sw a.eval _ .add 3 (aR 47) (.const (ay aA 1)) 3 rfl (by rw [e47]; exact add_one _ _ _ _ at_ AT1.out)) (hK _ _ rfl (au _ _) fun _ _ _ _ _ _ _ h=>h)
  ·cases ho;have e46:a.eval (aR 46)=U so sn sc:=seen.at_ ⟨7,.data⟩ (by simp) rfl (aW (by decide));have e48:a.eval (aR 48)=ay aA ((at_:Int)+1):=seen.at_ ⟨9,.data⟩ (by simp) rfl (aW (by decide));exact Rg.dD rfl rfl (Rg.kD a.eval _ 30 (aR 46) (ak (aR 48)) ah ah rfl (by show (Instr.sliceAt 30 (a.eval (aR 46)) (ak (a.eval (aR 48))) ah ah).run J x=.ok hiv x; rw [e46,e48]; exact SH.out x)) (hK _ _ rfl (au _ _) fun _ _ _ _ _ _ _ h=>h)
  ·cases ho;have o44:iU x W.heap.size (a.eval (aR 44)) (lt):=seen.at_ ⟨5,.data⟩ (by simp) rfl (bZ rfl);have e49:a.eval (aR 49)=hiv:=seen.at_ ⟨10,.data⟩ (by simp) rfl (aW (by decide));have ox:kM x (a.eval (aR 49)) ld:=by rw [e49]; exact RH.out.on hb
   obtain⟨v',x',r,o',gr⟩:=gG lF W.heap.size o44 ox (by have:=SK.out; omega) LD.out hb.size 30;exact Rg.dD rfl rfl (Rg.gq a.eval _ (aR 44) (aR 49) 30 rfl rfl rfl r) (hK v' x' o' ((au _ x).grown gr hb.size fun j hj=>(o44.lt j hj).1) fun j u hj dj nl nx ni h=>by
    rcases (by omega:j=0\/j=1\/j=2\/j=3\/j=4\/j=5\/j=6\/j=7\/j=8\/j=9\/j=10\/j=11\/j=12) with rfl|rfl|rfl|rfl|rfl|rfl|rfl|rfl|rfl|rfl|rfl|rfl|rfl
    ·exact absurd rfl (fun _:(0:Nat)=0=>nl (hD ⟨5,.data⟩ (by simp) rfl))
    ·exact h
    ·exact h
    ·exact h
    ·exact h
    ·exact absurd rfl (fun _:(0:Nat)=0=>nx rfl)
    ·exact h
    ·exact h
    ·exact h
    ·exact h
    ·exact h
    ·exact absurd rfl (fun _:(0:Nat)=0=>ni rfl)
    ·exact h)
  ·cases ho;have e4:a.eval (aR 4)=aB (ak ⟨b2,0,ah⟩):=seen.kp 4 _ (nd 4 (by omega)) rfl;exact Rg.dD rfl rfl (Rg.dX a.eval _ 33 (aR 4) 4 rfl (by rw [e4]; simp [go_sem])) (hK _ _ rfl (au _ _) fun _ _ _ _ _ _ _ h=>h)
 ·intro a w' df sz kp ⟨vs,hv⟩ hb;have gr:a.tmps[50]?=ak (vs 11):=(hv 11 (by omega)).1;have gp:a.tmps[51]?=ak (aB (ak ⟨b2,4,ah⟩)):=by
   have h:vs 12=aB (ak ⟨b2,4,ah⟩):=(hv 12 (by omega)).2 (by decide);rw [<- h];exact (hv 12 (by omega)).1
  have oR:iU w' W.heap.size (vs 11) (lt++ld):=(hv 11 (by omega)).2 (by decide);generalize vs 11=xR at *;obtain⟨ca,cp,eR⟩:=(Row.dH oR).len;have hbx:=H2.out.on hb;have hblt:=H2.out.lt;have c5:=hbx.cell 4;have f5:=hbx.fr 4;simp only [aI,aJ,aK] at c5;have hb1:=dR (k:=4) hbx xR;show Rg.fF _ _ _ 1 13 a w';simp only [Rg.fF];refine Rg.fP 30 (aR 51) (aR 50) rfl rfl rfl rfl (Rg.dK gp) (Rg.dK gr) (w':=w'.setCell ⟨b2,4,ah⟩ xR) (by rw [eR]; simp [go_sem,c5,f5]) ?_;have sI:∀ j,(j<39\/52<=j)->a.tmps[j]?=(u0::u1::u2::u3::aB (ak ⟨b2,0,ah⟩)::aB (ak ⟨b3,0,ah⟩)::u6::u7::u8::u9::u10::ay aA (at_:Int)::u12::u13::u14::u15::u16::u17::u18::u19::u20::u21::u22::u23::u24::u25::u26::u27::u28::u29::u30::u31::u32::u33::u34::u35::u36::u37::u38::u39::u40::u41::u42::u43::u44::u45::u46::u47::u48::u49::u50::u51::u52::u53::u54::u55::u56::u57::u58::u59::u60::u61::u62::u63::u64::u65::u66::u67::u68::u69::u70::u71::u72::u73::u74::u75::u76::u77::u78::u79::u80::u81::u82::u83::u84::u85::u86::u87::u88::u89::u90::u91::u92::u93::u94::u95::u96::u97::u98::u99::u100::u101::u102::u103::[])[j]?:=fun j hj=>(kp j (nd j hj)).trans aI;obtain⟨mid,hmid,rfl⟩:=Rg.gF 39 13 df sz (by simp) sI
  match mid,hmid with
  | [v39,v40,v41,v42,v43,v44,v45,v46,v47,v48,v49,v50,v51],_ =>
   have e1:ak v50=ak xR:=gr;obtain rfl:=Option.some.inj e1;refine HQ.out _ v39 v40 v41 v42 v43 v44 v45 v46 v47 v48 v49 v50 v51 ?_ ?_ ?_ ?_ ?_
   ·simpa using hb1
   ·exact dP oR b2 4 _ hblt
   ·exact fun B hB=>(hb.mono (dw (Nat.lt_of_le_of_lt hB hblt))).setCell hB _
   ·intro c cs t hc hbc;exact (aN _ _ _ _ hc).trans (hbc.on hb)
   ·intro k hk hne;exact (aN _ _ _ _ hne).trans (hb.block k hk)
end Bk
namespace Rl
open Go.RowKit Pu Rw Pr Va
def Nf (n:ByteArray) (r:Option Kd) (w:aj) (e:Ending) (w':aj):Prop:=(∃ c,e=Z (.tuple #[cv c,aC r.isSome])/\∀ k,r=ak k->c=r5 (n,k))/\aF w.heap.size w w'
theorem FM {n:ByteArray} {w w':aj} (c:C5) (h:aF w.heap.size w w'):Nf n ah w (Z (.tuple #[cv c,aC aT])) w':=⟨⟨c,rfl,fun _ h=>by cases h⟩,h⟩
theorem adl {n:ByteArray} {w w':aj} (b:Bool) (k:Kd) (h:aF w.heap.size w w'):Nf n (if b=aZ then ak k else ah) w (Z (.tuple #[cv (r5 (n,k)),aC b])) w':=by
 cases b
 ·exact⟨⟨_,rfl,fun _ h=>by cases h⟩,h⟩
 ·exact⟨⟨_,rfl,fun _ h=>by rw [<- Option.some.inj h]⟩,h⟩
theorem TM (n:ByteArray) (lo1 hi1:Int) (u2:ByteArray) (w:aj):aS J 109 #[cv (r5 (n,(.rg lo1 hi1))),cv (r5 (n,(.tx u2)))] w (Nf n (fE (.rg lo1 hi1) (.tx u2)) w):=by
 have R:=O (show fE (.rg lo1 hi1) (.tx u2)=ah from rfl);rw [R.out];clear R;simp only [r5,kN,jN,jO,kT];have B:=O (rC w n 1 lo1 hi1 ⟨#[]⟩ n 2 0 0 u2);go_enter bM,bI;go_wp2;exact bA (v:=.tuple #[cv (n,1,lo1,hi1,⟨#[]⟩),aC aT]) (by simp [results,bg,go_sem]) rfl (FM (n,1,lo1,hi1,⟨#[]⟩) (by first | exact B.out.alloc B.out.size _ | exact (((((B.out.alloc B.out.size _).setCell (by simp) _).setCell (by simp) _).setCell (by simp) _).setCell (by simp) _).setCell (by simp) _))
theorem TP (n:ByteArray) (lo1 hi1:Int) (u2:ByteArray) (w:aj):aS J 109 #[cv (r5 (n,(.rg lo1 hi1))),cv (r5 (n,(.pr u2)))] w (Nf n (fE (.rg lo1 hi1) (.pr u2)) w):=by
 have R:=O (show fE (.rg lo1 hi1) (.pr u2)=ah from rfl);rw [R.out];clear R;simp only [r5,kN,jN,jO,kT];have B:=O (rC w n 1 lo1 hi1 ⟨#[]⟩ n 3 0 0 u2);go_enter bM,bI;go_wp2;exact bA (v:=.tuple #[cv (n,1,lo1,hi1,⟨#[]⟩),aC aT]) (by simp [results,bg,go_sem]) rfl (FM (n,1,lo1,hi1,⟨#[]⟩) (by first | exact B.out.alloc B.out.size _ | exact (((((B.out.alloc B.out.size _).setCell (by simp) _).setCell (by simp) _).setCell (by simp) _).setCell (by simp) _).setCell (by simp) _))
theorem TQ (n:ByteArray) (u1:ByteArray) (lo2 hi2:Int) (w:aj):aS J 109 #[cv (r5 (n,(.tx u1))),cv (r5 (n,(.rg lo2 hi2)))] w (Nf n (fE (.tx u1) (.rg lo2 hi2)) w):=by
 have R:=O (show fE (.tx u1) (.rg lo2 hi2)=ah from rfl);rw [R.out];clear R;simp only [r5,kN,jN,jO,kT];have B:=O (rC w n 2 0 0 u1 n 1 lo2 hi2 ⟨#[]⟩);go_enter bM,bI;go_wp2;exact bA (v:=.tuple #[cv (n,2,0,0,u1),aC aT]) (by simp [results,bg,go_sem]) rfl (FM (n,2,0,0,u1) (by first | exact B.out.alloc B.out.size _ | exact (((((B.out.alloc B.out.size _).setCell (by simp) _).setCell (by simp) _).setCell (by simp) _).setCell (by simp) _).setCell (by simp) _))
theorem TR (n:ByteArray) (u1:ByteArray) (lo2 hi2:Int) (w:aj):aS J 109 #[cv (r5 (n,(.pr u1))),cv (r5 (n,(.rg lo2 hi2)))] w (Nf n (fE (.pr u1) (.rg lo2 hi2)) w):=by
 have R:=O (show fE (.pr u1) (.rg lo2 hi2)=ah from rfl);rw [R.out];clear R;simp only [r5,kN,jN,jO,kT];have B:=O (rC w n 3 0 0 u1 n 1 lo2 hi2 ⟨#[]⟩);go_enter bM,bI;go_wp2;exact bA (v:=.tuple #[cv (n,3,0,0,u1),aC aT]) (by simp [results,bg,go_sem]) rfl (FM (n,3,0,0,u1) (by first | exact B.out.alloc B.out.size _ | exact (((((B.out.alloc B.out.size _).setCell (by simp) _).setCell (by simp) _).setCell (by simp) _).setCell (by simp) _).setCell (by simp) _))
end Rl
namespace Rg
open Go.RowKit Rw
end Rg
namespace Rg
open Go.RowKit Rw
structure aak (i N A S:Nat) (d last:Nat->Nat) (V:Nat->aG->aj->Prop) (base:Act) (o:Oper) (a:Act) (x:aj):Prop where
 kp:∀ j u,(∀ i,i<N->d i≠j)->base.tmps[j]?=ak u->a.eval (aR j)=u
 at_:∀ e∈o.after,aU .any e=aZ->e.on≠A->e.on≠S->(last e.on=i\/N<=last e.on)->V e.on (a.eval (aR (d e.on))) x
structure InX (l:List Oper) (N A S C:Nat) (d last:Nat->Nat) (V:Nat->aG->aj->Prop) (t:bL) (zero:Array aG) (cof:aG->Array aG) (base:Act) (W:aj) (L:Array Bool) (a:Act) (x:aj):Prop where
 cl:∀ i o,done L i->l[i]?=ak o->∀ e∈o.after,aU .any e=aZ->done L e.on
 no:∀ i,N<=i->¬ done L i
 df:a.defers=base.defers
 sz:a.tmps.size=base.tmps.size
 kp:∀ j,(∀ i,i<N->d i≠j)->a.tmps[j]?=base.tmps[j]?
 uZ:aF W.heap.size W x
 val:∃ vs:Nat->aG,∀ i,i<N->i≠S->done L i->a.tmps[d i]?=ak (vs i)/\(i≠A->¬ done L (last i)->V i (vs i) x)
 box:done L A->¬ done L S->∃ bb,a.tmps[d A]?=ak (aB (ak ⟨bb,0,ah⟩))/\W.heap.size<=bb/\dN x bb zero t
 fin:done L S->∃ bb v,a.tmps[d A]?=ak (aB (ak ⟨bb,0,ah⟩))/\a.tmps[d C]?=ak v/\W.heap.size<=bb/\dN x bb (cof v) t/\V C v x
theorem uJ {P:Program} {Q:Exit->Act->aj->Prop} {id:Nat} {base:Act} {W:aj} {l:List Oper} (N A S C:Nat) (d last:Nat->Nat) (V:Nat->aG->aj->Prop) (t:bL) (zero:Array aG) (cof:aG->Array aG)
  (hm:P.follows .mixedOrders=aZ) (hf:Po l.toArray=aZ) (hN:l.length=N) (hA:A<N) (hS:S<N) (hC:C<N) (hAS:A≠S) (hCS:C≠S) (hAC:A≠C) (hlC:N<=last C)
  (hinj:∀ i j,i<N->j<N->i≠S->j≠S->d i=d j->i=j) (hs:∀ i,i<N->d i<base.tmps.size)
  (hV:∀ i v x x',i<N->V i v x->aF x.heap.size x x'->V i v x')
  (hw:∀ o,l[S]?=ak o->(∃ e∈o.after,aU .any e=aZ/\e.on=A)/\∃ e∈o.after,aU .any e=aZ/\e.on=C)
  (hop:∀ i o,i<N->i≠A->i≠S->l[i]?=ak o->∀ a x,aF W.heap.size W x->aak i N A S d last V base o a x->∀ K:Act->aj->Prop,(∀ v x',V i v x'->aF x.heap.size x x'->K (a.put (ak (d i)) v) x')->wpOp P l.toArray Q i K a x)
  (hoA:∀ o,l[A]?=ak o->∀ a x,∀ K:Act->aj->Prop,K (a.put (ak (d A)) (aB (ak ⟨x.heap.size,0,ah⟩))) (x.alloc (aH zero t))->wpOp P l.toArray Q A K a x)
  (hoS:∀ o,l[S]?=ak o->∀ a x bb v (D:Nat->Prop),(∀ j oj,D j->l[j]?=ak oj->∀ e∈oj.after,aU .any e=aZ->D e.on)->(∀ e∈o.after,aU .any e=aZ->D e.on)->aF W.heap.size W x->a.eval (aR (d A))=aB (ak ⟨bb,0,ah⟩)->a.eval (aR (d C))=v->V C v x->W.heap.size<=bb->dN x bb zero t->∀ K:Act->aj->Prop,(∀ x',aF W.heap.size W x'->dN x' bb (cof v) t->(∀ j u,j<N->j≠A->j≠S->D j->¬ D (last j)->last j≠S->V j u x->V j u x')->K a x')->wpOp P l.toArray Q S K a x)
  (hend:∀ a x bb v,a.defers=base.defers->a.tmps.size=base.tmps.size->(∀ j,(∀ i,i<N->d i≠j)->a.tmps[j]?=base.tmps[j]?)->a.tmps[d A]?=ak (aB (ak ⟨bb,0,ah⟩))->a.tmps[d C]?=ak v->W.heap.size<=bb->dN x bb (cof v) t->V C v x->aF W.heap.size W x->(∃ vs:Nat->aG,∀ i,i<N->i≠S->i≠A->a.tmps[d i]?=ak (vs i)/\(N<=last i->V i (vs i) x))->Q .normal a x):(Code.region id l.toArray aZ).wp P Q base W:=by
 refine sG (fun L a x=>InX l N A S C d last V t zero cof base W L a x) hm hf ?_ ?_ ?_
 ·exact⟨fun i o h=>absurd h (gP _ _),fun i _=>gP _ _,rfl,rfl,fun _ _=>rfl,(au _ _).drew,⟨fun _=>.bool aZ,fun i _ _ h=>absurd h (gP _ _)⟩,fun h=>absurd h (gP _ _),fun h=>absurd h (gP _ _)⟩
 ·intro L a x i o hsz I ho hnd pF;have hi:i<l.length:=(bF.1 ho).1;have hiN:i<N:=by omega
  have Cw:i<L.size:=by omega
  obtain⟨vs,hvs⟩:=I.val;have hon:∀ e∈o.after,aU .any e=aZ->e.on<i:=fun e he hb=>by
   have h7:=List.all_eq_true.1 hf i (List.mem_range.2 (by simpa using hi));have ho':(l.toArray)[i]?=ak o:=by simpa using ho
   rw [ho'] at h7;have h8:=Array.all_eq_true'.1 h7 e he;rw [hb] at h8;simpa using h8
  have dd:∀ {k},k≠i->done (L.setIfInBounds i aZ) k->done L k:=fun {k} h h5=>((iF Cw k).1 h5).resolve_left h;have du:∀ {k},done L k->done (L.setIfInBounds i aZ) k:=fun {k} h=>(iF Cw k).2 (aW h);have cl':∀ k q,done (L.setIfInBounds i aZ) k->l[k]?=ak q->∀ e∈q.after,aU .any e=aZ->done (L.setIfInBounds i aZ) e.on:=fun k q hk hq e he hb=>by
   by_cases e2:k=i
   ·subst e2;rw [hq] at ho;cases ho;exact du (pF e he hb)
   ·exact du (I.cl k q (dd e2 hk) hq e he hb)
  have no':∀ k,N<=k->¬ done (L.setIfInBounds i aZ) k:=fun k hk h=>I.no k hk (dd (by omega) h);have seen:aak i N A S d last V base o a x:=⟨fun j u hj hu=>dK (by rw [I.kp j hj]; exact hu),fun e he hb hA' hS' hl=>by
   obtain⟨h1,h2⟩:=hvs e.on (by have:=hon e he hb; omega) hS' (pF e he hb);rw [dK h1];refine h2 hA' ?_;rcases hl with hl|hl
   ·rw [hl]; exact hnd
   ·exact I.no _ hl⟩
  have ae0:i≠S->∀ v x',aF x.heap.size x x'->(i≠A->V i v x')->(i=A->∃ bb,v=aB (ak ⟨bb,0,ah⟩)/\W.heap.size<=bb/\dN x' bb zero t)->InX l N A S C d last V t zero cof base W (L.setIfInBounds i aZ) (a.put (ak (d i)) v) x':=by
   intro Qc v x' hb hpv hpa;have self:(a.put (ak (d i)) v).tmps[d i]?=ak v:=by
    have h5:d i<a.tmps.size:=by rw [I.sz]; exact hs i hiN
    simp [Act.put,h5]
   have keep:∀ k,k<N->k≠S->k≠i->(a.put (ak (d i)) v).tmps[d k]?=a.tmps[d k]?:=fun k hk YA hki=>get_put _ _ _ _ (fun e=>hki (hinj _ _ hk hiN YA Qc e));refine⟨cl',no',I.df,by rw [size_put]; exact I.sz,fun j hj=>?_,I.uZ.trans (hb.mono I.uZ.size),⟨fun k=>if k=i then v else vs k,fun k hk YA hdn=>?_⟩,fun h1 h2=>?_,fun h1=>?_⟩
   ·rw [get_put _ _ _ _ (fun e=>hj i hiN e.symm)];exact I.kp j hj
   ·by_cases e:k=i
    ·subst e;simp only [if_true];exact⟨self,fun h3 _=>hpv h3⟩
    ·simp only [if_neg e];obtain⟨h3,h4⟩:=hvs k hk YA (dd e hdn);exact⟨by rw [keep k hk YA e]; exact h3,fun h5 h6=>hV k _ _ _ hk (h4 h5 (fun h=>h6 (du h))) hb⟩
   ·by_cases e:A=i
    ·subst e;obtain⟨bb,rfl,h4,h5⟩:=hpa rfl;exact⟨bb,self,h4,h5⟩
    ·obtain⟨bb,h3,h4,h5⟩:=I.box (dd e h1) (fun h=>h2 (du h));exact⟨bb,by rw [keep A hA hAS e]; exact h3,h4,h5.on hb⟩
   ·have h2:=dd (Ne.symm Qc) h1;obtain⟨bb,u,h5,h6,h7,h8,h9⟩:=I.fin h2;obtain⟨oS,adn⟩:∃ oS,l[S]?=ak oS:=⟨_,aQ (by omega)⟩;obtain⟨⟨ea,k1,k2,k3⟩,ec,k4,k5,k6⟩:=hw oS adn;have dA:=I.cl S oS h2 adn ea k1 k2;have dC:=I.cl S oS h2 adn ec k4 k5;rw [k3] at dA;rw [k6] at dC;have eA:A≠i:=fun e=>hnd (e ▸ dA);have eC:C≠i:=fun e=>hnd (e ▸ dC);exact⟨bb,u,by rw [keep A hA hAS eA]; exact h5,by rw [keep C hC hCS eC]; exact h6,h7,h8.on hb,hV C _ _ _ hC h9 hb⟩
  by_cases Qc:i=S
  ·subst Qc;obtain⟨⟨ea,h1,h2,h3⟩,ec,h4,h5,h6⟩:=hw o ho;have dA:=pF ea h1 h2;have dC:=pF ec h4 h5;rw [h3] at dA;rw [h6] at dC;obtain⟨v1,v2⟩:=hvs C hC hCS dC;obtain⟨bb,b1,b2,b3⟩:=I.box dA hnd;have vC:=v2 (Ne.symm hAC) (I.no _ hlC);refine hoS o ho a x bb (vs C) (done L) I.cl pF I.uZ (dK b1) (dK v1) vC b2 b3 _ (fun x' q1 q2 q3=>⟨cl',no',I.df,I.sz,I.kp,q1,⟨vs,fun k hk YA hdn=>?_⟩,fun _ hn=>absurd ((iF Cw _).2 (bZ rfl)) hn,fun _=>⟨bb,vs C,b1,v1,b2,q2,?_⟩⟩)
   ·obtain⟨w1,w2⟩:=hvs k hk YA (dd YA hdn);refine⟨w1,fun hkA hnl=>?_⟩;have n1:last k≠i:=fun e=>hnl ((iF Cw _).2 (bZ e));have n2:¬ done L (last k):=fun e=>hnl (du e);exact q3 k _ hk hkA YA (dd YA hdn) n2 n1 (w2 hkA n2)
   ·exact q3 C _ hC (Ne.symm hAC) hCS dC (I.no _ hlC) (by omega) vC
  ·by_cases YC:i=A
   ·subst YC;refine hoA o ho a x _ (ae0 Qc _ _ ((au _ _).alloc (aL _) _) (fun h=>absurd rfl h) (fun _=>⟨x.heap.size,rfl,I.uZ.size,dO x zero t⟩))
   ·refine hop i o hiN YC Qc ho a x I.uZ seen _ (fun v x' q1 q2=>ae0 Qc v x' q2 (fun _=>q1) (fun e=>absurd e YC))
 ·intro L a x I hd;have dS:=hd S (by omega);obtain⟨bb,v,h1,h2,h3,h4,h5⟩:=I.fin dS;obtain⟨vs,hvs⟩:=I.val;exact hend a x bb v I.df I.sz I.kp h1 h2 h3 h4 h5 I.uZ ⟨vs,fun i hi Qc YC=>by
   obtain⟨k1,k2⟩:=hvs i hi Qc (hd i (by omega));exact⟨k1,fun hl=>k2 YC (I.no _ hl)⟩⟩
end Rg
end Go.Proofs.YtkcfgbddlpomgaaGreat
