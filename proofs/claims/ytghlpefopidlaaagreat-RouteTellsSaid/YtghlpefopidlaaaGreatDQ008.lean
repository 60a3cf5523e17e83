/-
  Name of package tupl. Conditions as told.
-/
import Derived.Test.YtghlpefopidlaaaGreatDQ005
import Derived.Deep.LoopGhost
set_option maxRecDepth 100000
set_option maxHeartbeats 64000000
open _root_.Bool renaming false->aO,eq_iff_iff->bf,true->bg
open _root_.Go renaming cell_regrown->aj,redrawn->aF,World->aM,below_regrown->aP,maxLen->aS,Value->aT,Calls->aW
open Go.Calls renaming regrown_of->aX
open Go.Ending renaming returned->aC
open Go.Instr renaming indexAt->aY
open Go.IntKind renaming i64->O
open Go.IntWalk renaming i64_in->aG
open Go.Obj renaming cells->bD
open Go.Operand renaming tmp->aL
open Go.Proofs.Tryz renaming prog->ak,ntmps130->au,func130->aA,ntmps82->bJ,func82->bL
open Go.Proofs.YtghlpefopidlaaaGreat.Rg renaming dI->aV,dY->bG,dW->bH,gK->bQ,fU->bR,dU->bS
open Go.RowKit.Below renaming refl->V
open Go.Sort renaming grow->aZ
open Go.Value renaming int->J,pointer->Z,slice->aK,string->aN,bool->aU,agg->bN
open _root_.List renaming getElem?_eq_getElem->U,getElem?_toArray->ay,getElem?_eq_some_iff->aD,getElem?_cons_zero->aH,getElem?_cons_succ->aI
open _root_.Nat renaming lt_or_ge->aR,le_refl->bF,zero_le->bK
open _root_.Option renaming some->ah,none->aJ
open Option.some renaming inj->aB
open _root_.Or renaming inr->aQ
open Go.Proofs.YtghlpefopidlaaaGreat renaming hq->f
namespace Go.Proofs.YtghlpefopidlaaaGreat
namespace Pr
open Go.RowKit Go.Sort Pu Rw Va
theorem Js (s:ByteArray) (w:aM) (T:s.size<=aS) :
  aW ak 166 #[aN s] w fun e w'=>e=aC (aU (lV s))/\w=w':=by
 unfold aS at T;go_enter Tryz.func166,Tryz.ntmps166;go_wp2
 go_loop [6] (fun i=>∃ k:Nat,k<=s.size/\i=J O k/\∀ (j:Nat) (r:j<s.size),j<k->DL s[j]=bg) (fun i=>s.size-(intOf i).toNat)
 case atStart=>exact⟨0,bK _,rfl,fun j r h=>by omega⟩
 case round =>
  obtain⟨k,a2,rfl,M⟩:=hrel;have H:=f M;clear M;by_cases N:k<s.size
  ·have a1:(s[k].toNat:Int)<256:=by have:=s[k].toNat_lt; omega
   by_cases q:97<=s[k].toNat
   ·by_cases u:s[k].toNat<=122
    ·have L:=f (show DL s[k]=bg by simp [DL,q,u]);have G:decide ((s[k].toNat:Int)<97)=aO:=by simp; omega
     have S:decide ((122:Int)<(s[k].toNat:Int))=aO:=by simp; omega
     clear q u;go_wp2
     go_round
     case rel=>exact⟨k+1,by omega,by go_num,fun j r h=>by
      rcases aR j k with I|I
      ·exact H.o j r I
      ·obtain rfl:j=k:=by omega
       exact L.o⟩
     case measure=>simp [intOf]; omega
    ·have R:=f (show lV s=aO from IK s k N (by simp [DL,u]));have G:decide ((s[k].toNat:Int)<97)=aO:=by simp; omega
     have S:decide ((122:Int)<(s[k].toNat:Int))=bg:=by simp; omega
     clear q u;go_wp2;go_ret;exact⟨eG R.o.symm,rfl⟩
   ·have R:=f (show lV s=aO from IK s k N (by simp [DL,q]));have G:decide ((s[k].toNat:Int)<97)=bg:=by simp; omega
    clear q;go_wp2;go_ret;exact⟨eG R.o.symm,rfl⟩
  ·obtain rfl:k=s.size:=by omega
   have R:=f (UM s (fun j r=>H.o j r r));by_cases q:1<=s.size
   ·have F:=f (show lV s=decide ((s.size:Int)<=12) by rw [R.o]; simp [q]; omega);go_wp2;go_ret;exact⟨eG F.o.symm,rfl⟩
   ·have F:=f (show lV s=aO by rw [R.o]; simp [q]);have G:decide ((1:Int)<=(s.size:Int))=aO:=by simp; omega
    go_wp2;go_ret;exact⟨eG F.o.symm,rfl⟩
theorem oB (w:aM) (nm:ByteArray) (k lo j:Int) (q:ByteArray):Below w.heap.size w (w.alloc (bD #[aN nm,J O k,J O lo,J O j,aN q] 91)) :=
 (V w.heap.size w).alloc (bF _) _
theorem adH (c:Cn) (w:aM) (H:c.1.size<=aS):aW ak 130 #[cv (r5 c)] w fun e w'=>e=aC (aU (xV c))/\Below w.heap.size w w':=by
 obtain⟨nm,k⟩:=c;have j:=f (Js nm (w.alloc (bD #[aN nm,J O (kN k),J O (kS k),J O (kU k),aN (kT k)] 91)) H);have B:=f (oB w nm (kN k) (kS k) (kU k) (kT k));have R:=f (show xV (nm,k)=(lV nm && jM k) from rfl);clear H;generalize xV (nm,k)=S at *;obtain⟨u,G⟩:∃ u,lV nm=u:=⟨_,rfl⟩;rw [G] at j R;clear G;cases k with
 | rg lo M =>
  simp only [r5,kN,kS,kU,kT] at *;cases u
  ·go_enter aA,au;go_wp2_with fail;refine j.o.mono ?_;rintro e w' ⟨rfl,rfl⟩;go_wp2;go_ret;exact⟨eG (by rw [R.o]; simp),B.o⟩
  ·by_cases q:lo<=M <;> have r:=f q
   all_goals
    go_enter aA,au;go_wp2_with fail;refine j.o.mono ?_;rintro e w' ⟨rfl,rfl⟩;go_wp2;go_ret;exact⟨eG (by rw [R.o]; have h:=r.o; simp [jM,h] <;> omega),B.o⟩
 | tx F =>
  simp only [r5,kN,kS,kU,kT] at *;cases u
  ·go_enter aA,au;go_wp2_with fail;refine j.o.mono ?_;rintro e w' ⟨rfl,rfl⟩;go_wp2;go_ret;exact⟨eG (by rw [R.o]; simp),B.o⟩
  ·go_enter aA,au;go_wp2_with fail;refine j.o.mono ?_;rintro e w' ⟨rfl,rfl⟩;go_wp2;go_ret;exact⟨eG (by rw [R.o]; simp [jM]; omega),B.o⟩
 | pr F =>
  simp only [r5,kN,kS,kU,kT] at *;cases u
  ·go_enter aA,au;go_wp2_with fail;refine j.o.mono ?_;rintro e w' ⟨rfl,rfl⟩;go_wp2;go_ret;exact⟨eG (by rw [R.o]; simp),B.o⟩
  ·by_cases q:F.size<12
   ·have I:decide ((12:Int)<=(F.size:Int))=aO:=by simp; omega
    have N:decide ((F.size:Int)<=12)=bg:=by simp; omega
    have r:=f q;clear q;go_enter aA,au;go_wp2_with fail;refine j.o.mono ?_;rintro e w' ⟨rfl,rfl⟩;go_wp2;go_ret;exact⟨eG (by rw [R.o]; have h:=r.o; simp [jM,h]),B.o⟩
   ·have I:decide ((12:Int)<=(F.size:Int))=bg:=by simp; omega
    have r:=f q;clear q;go_enter aA,au;go_wp2_with fail;refine j.o.mono ?_;rintro e w' ⟨rfl,rfl⟩;go_wp2;go_ret;exact⟨eG (by rw [R.o]; have h:=r.o; simp [jM]; omega),B.o⟩
end Pr
namespace Avp
open Go.RowKit Go.Sort Rw YtghlpefopidlaaaGreat.Nm At Pr Wr Va
theorem xC (w:aM) (o:Obj):Below w.heap.size w (w.alloc o):=(V _ _).alloc (bF _) _
theorem VD (t:ByteArray):t.toList.isEmpty=decide (t.size=0):=by
 rw [ByteArray.toList_eq];obtain⟨⟨l⟩⟩:=t;cases l <;> simp [ByteArray.size]
theorem Eh (s:ByteArray) (w:aM) (j:s.size<=aS) :
  aW ak 166 #[aN s] w fun e w'=>e=aC (aU (lV s))/\w=w':=Pr.Js s w j
theorem QU (s t:ByteArray) (lo j:Int) (w:aM) (I:s.size<=aS) :
  aW ak 130 #[cv (s,1,lo,j,t)] w fun e w'=>e=aC (aU (qB (s,1,lo,j,t)))/\Below w.heap.size w w':=by
 have B:=f (xC w (bD #[aN s,J O 1,J O lo,J O j,aN t] 91));have q:=f (fun w=>Eh s w I);have R:=f (show qB (s,1,lo,j,t)=(At.lV s && (decide (lo<=j) && t.toList.isEmpty)) by simp [qB,VD,Bool.and_comm]);generalize At.lV s=b at *;cases b
 ·go_enter aA,au;go_wp2_with fail;refine (q.o _).mono ?_;rintro e w' ⟨rfl,rfl⟩;go_wp2;go_ret;exact⟨by rw [R.o]; rfl,B.o⟩
 obtain⟨F,G⟩:∃ b,decide (lo<=j)=b:=⟨_,rfl⟩;rw [G] at R;cases F
 ·go_enter aA,au;go_wp2_with fail;refine (q.o _).mono ?_;rintro e w' ⟨rfl,rfl⟩;go_wp2;go_ret;exact⟨by rw [R.o]; rfl,B.o⟩
 by_cases u:t.toList=[]
 ·have r:=f (show qB (s,1,lo,j,t)=bg by rw [R.o,u]; rfl);go_enter aA,au;go_wp2_with fail;refine (q.o _).mono ?_;rintro e w' ⟨rfl,rfl⟩;go_wp2;go_ret;exact⟨by rw [r.o]; rfl,B.o⟩
 ·have H:t.toList.isEmpty=aO:=by simpa using u
  have r:=f (show qB (s,1,lo,j,t)=aO by rw [R.o,H]; rfl);go_enter aA,au;go_wp2_with fail;refine (q.o _).mono ?_;rintro e w' ⟨rfl,rfl⟩;go_wp2;go_ret;exact⟨by rw [r.o]; rfl,B.o⟩
theorem QV (s t:ByteArray) (lo j:Int):qB (s,2,lo,j,t)=(At.lV s && ((lo == 0) && ((j == 0) && decide ((t.size:Int)<=12)))):=by
 have e:∀ x:Int,decide (x=0)=(x == 0):=fun x=>by rw [bf]; simp
 have q:decide ((t.size:Int)<=12)=decide (t.size<=12):=by rw [bf]; simp; omega
 unfold qB;simp [e,q]
theorem QW (s t:ByteArray) (lo j:Int):qB (s,3,lo,j,t)=(At.lV s && (!decide ((12:Int)<=(t.size:Int)) && ((lo == 0) && (j == 0)))):=by
 have e:∀ x:Int,decide (x=0)=(x == 0):=fun x=>by rw [bf]; simp
 unfold qB;simp only [e];rw [bf];simp;omega
theorem VE (s t:ByteArray) (lo j:Int) (w:aM) (I:s.size<=aS) (_:t.size<=aS) :
  aW ak 130 #[cv (s,2,lo,j,t)] w fun e w'=>e=aC (aU (qB (s,2,lo,j,t)))/\Below w.heap.size w w':=by
 have B:=f (xC w (bD #[aN s,J O 2,J O lo,J O j,aN t] 91));have q:=f (fun w=>Eh s w I);have R:=f (QV s t lo j);generalize At.lV s=b at *;obtain⟨r,F⟩:∃ x,(lo == 0)=x:=⟨_,rfl⟩;obtain⟨u,G⟩:∃ x,(j == 0)=x:=⟨_,rfl⟩;obtain⟨b3,H⟩:∃ x,decide ((t.size:Int)<=12)=x:=⟨_,rfl⟩;rw [F,G,H] at R;cases b <;> cases r <;> cases u <;> cases b3 <;> (
  go_enter aA,au;go_wp2_with fail;refine (q.o _).mono ?_;rintro e w' ⟨rfl,rfl⟩;go_wp2;go_ret;exact⟨by rw [R.o]; rfl,B.o⟩)
theorem NJ (s t:ByteArray) (lo j:Int) (w:aM) (M:s.size<=aS) (_:t.size<=aS) :
  aW ak 130 #[cv (s,3,lo,j,t)] w fun e w'=>e=aC (aU (qB (s,3,lo,j,t)))/\Below w.heap.size w w':=by
 have B:=f (xC w (bD #[aN s,J O 3,J O lo,J O j,aN t] 91));have r:=f (fun w=>Eh s w M);have R:=f (QW s t lo j);have q:decide ((12:Int)<=(t.size:Int))=aO->decide ((t.size:Int)<=12)=bg:=by
  intro h;simp at h ⊢;omega
 generalize At.lV s=b at *;obtain⟨F,H⟩:∃ x,(lo == 0)=x:=⟨_,rfl⟩;obtain⟨G,I⟩:∃ x,(j == 0)=x:=⟨_,rfl⟩;obtain⟨b3,u⟩:∃ x,decide ((12:Int)<=(t.size:Int))=x:=⟨_,rfl⟩;rw [H,I,u] at R;cases b3
 ·have N:=q u;clear q;cases b <;> cases F <;> cases G <;> (
   go_enter aA,au;go_wp2_with fail;refine (r.o _).mono ?_;rintro e w' ⟨rfl,rfl⟩;go_wp2;go_ret;exact⟨by rw [R.o]; rfl,B.o⟩)
 ·clear q;cases b <;> (
   go_enter aA,au;go_wp2_with fail;refine (r.o _).mono ?_;rintro e w' ⟨rfl,rfl⟩;go_wp2;go_ret;exact⟨by rw [R.o]; rfl,B.o⟩)
theorem QY (s t:ByteArray) (k lo j:Int) (w:aM) (G:s.size<=aS) (q:k≠1) (r:k≠2) (u:k≠3) :
  aW ak 130 #[cv (s,k,lo,j,t)] w fun e w'=>e=aC (aU (qB (s,k,lo,j,t)))/\Below w.heap.size w w':=by
 have B:=f (xC w (bD #[aN s,J O k,J O lo,J O j,aN t] 91));have F:=f (fun w=>Eh s w G);have R:=f (show qB (s,k,lo,j,t)=aO by simp [qB,q,r,u]);have H:(k == 1)=aO:=by simpa using q
 have I:(k == 2)=aO:=by simpa using r
 have M:(k == 3)=aO:=by simpa using u
 clear q r u;generalize At.lV s=b at *;cases b <;> (
  go_enter aA,au;go_wp2_with fail;refine (F.o _).mono ?_;rintro e w' ⟨rfl,rfl⟩;go_wp2;go_ret;exact⟨by rw [R.o]; rfl,B.o⟩)
theorem Zf (c:C5) (w:aM) (q:c.1.size<=aS) (G:c.2.2.2.2.size<=aS) :
  aW ak 130 #[cv c] w fun e w'=>e=aC (aU (qB c))/\Below w.heap.size w w':=by
 obtain⟨s,k,lo,j,t⟩:=c;by_cases r:k=1
 ·subst r; exact QU s t lo j w q
 by_cases u:k=2
 ·subst u; exact VE s t lo j w q G
 by_cases F:k=3
 ·subst F; exact NJ s t lo j w q G
 exact QY s t k lo j w q r u F
theorem yP (bW:aT) (l:List C5) (w:aM) (aE:fO w bW l) (bT:∀ x∈l,x.1.size<=aS/\x.2.2.2.2.size<=aS) :
  aW ak 82 #[bW] w fun e w'=>e=aC (aU (fT l))/\Below w.heap.size w w':=by
 have bC:=f aE;have cF:=f bT;have cR:=f aE.most;obtain⟨cT,cS,rfl⟩:=aE.len;clear aE bT;by_cases cG:l.length<=5
 ·have bM:decide ((5:Int)<(l.length:Int))=aO:=by simp; omega
  go_enter bL,bJ;go_wp2
  go_loopw [10] (fun i wr=>∃ k:Nat,k<=l.length/\i=J O k/\Below w.heap.size w wr/\∀ j,j<k->uY l j=bg) (fun i _=>l.length-(intOf i).toNat)
  case atStart=>exact⟨0,bK _,rfl,V _ _,fun j h=>by omega⟩
  case round =>
   obtain⟨k,cV,rfl,bP,bO⟩:=hrel;have a7:=f bP;have b4:=f bO;clear bP bO bM;by_cases b8:k<l.length
   ·obtain⟨⟨H,a1,S,T,a2⟩,b1⟩:∃ x,l[k]?=ah x:=⟨_,U b8⟩;obtain⟨p,cL,cA⟩:=XG bC.o rfl rfl b1;obtain⟨bX,c6,c7,c8,c9⟩:=cA _ a7.o;have b9:=cF.o _ (List.mem_of_getElem? b1);have C:=f (Zf (H,a1,S,T,a2) (wr.alloc (bD #[aN H,J O a1,J O S,J O T,aN a2] 91)) b9.1 b9.2);have b5:=f (a7.o.alloc a7.o.size (bD #[aN H,J O a1,J O S,J O T,aN a2] 91));have bI:=f (dR wr #[aN H,J O a1,J O S,J O T,aN a2] 91);have a8:=f b1;obtain⟨cN,b6⟩:∃ r,qB (H,a1,S,T,a2)=r:=⟨_,rfl⟩;have a6:=f b6;rw [b6] at C;clear b1 cA b9 b6;simp only at bX c6 c7 c8 c9;go_wp2_with fail;refine C.o.mono ?_;rintro cU b2 ⟨rfl,b7⟩;have u:=f (b5.o.trans (b7.mono b5.o.size));have b0:=aj (show b2.cell? ⟨wr.heap.size,0,aJ⟩=ah (aN H) from (bI.o.on b7).cell 0);clear b7 C b5 cL bX c6 c7 c8 c9 bI;cases cN
    ·have R:=f (show fT l=aO from Ew l k b8 (by simp [uY,a8.o,a6.o]));go_wp2;go_ret;exact⟨eG R.o.symm,u.o⟩
    ·cases k with
     | zero =>
      have G:=f (show uY l 0=bg by simp [uY,a8.o,a6.o]);rw [show ((0:Nat):Int)=0 from rfl];go_wp2;refine ko ?_
      repeat (go_big_quiet_step (fail))
      refine kr fun M N=>?_;have I:=f (u.o.trans ((aP b2 M N).mono u.o.size));clear b0;go_wp2
      go_roundw
      case rel=>exact⟨0+1,by omega,by go_num,I.o,fun j cJ=>by
       rcases aR j (0) with F|F
       ·exact b4.o j F
       ·obtain rfl:j=0:=by omega
        exact G.o⟩
      case measure=>simp [intOf]; omega
     | succ m =>
      obtain⟨⟨cQ,d0,cW,cX,cY⟩,bA⟩:∃ y,l[m]?=ah y:=⟨_,U (by omega)⟩;obtain⟨q,cM,cC⟩:=XG bC.o rfl rfl bA;have cD:=aj (cC _ u.o).1;have bE:=f bA;obtain⟨cP,F⟩:∃ r,Op.bytesLess cQ.toList H.toList=r:=⟨_,rfl⟩;have bB:=f F;clear bA cC;simp only at cD;rw [show ((m+1:Nat):Int)=(m:Int)+1 from rfl];have cH:IntKind.i64.wrap ((m:Int)+1-1)=m:=by rw [show (m:Int)+1-1=m by omega]; exact aG _ (by omega)
      have cI:(m:Int)+1-1=m:=by omega
      cases cP
      ·have R:=f (show fT l=aO from Ew l (m+1) b8 (by simp [uY,a8.o,a6.o,bE.o,Yp,bB.o]));go_wp2;refine ko ?_
       repeat (go_big_quiet_step (fail))
       refine kr fun M N=>?_;have I:=f (u.o.trans ((aP b2 M N).mono u.o.size));go_wp2;go_ret;exact⟨eG R.o.symm,I.o⟩
      ·have G:=f (show uY l (m+1)=bg by simp [uY,a8.o,a6.o,bE.o,Yp,bB.o]);go_wp2;refine ko ?_
       repeat (go_big_quiet_step (fail))
       refine kr fun M N=>?_;have I:=f (u.o.trans ((aP b2 M N).mono u.o.size));clear cM cD cH cI F b0;go_wp2
       go_roundw
       case rel=>exact⟨m+1+1,by omega,by go_num,I.o,fun j cJ=>by
        rcases aR j (m+1) with F|F
        ·exact b4.o j F
        ·obtain rfl:j=m+1:=by omega
         exact G.o⟩
       case measure=>simp [intOf]; omega
   ·obtain rfl:k=l.length:=by omega
    have R:=f (show fT l=bg by rw [Ey l b4.o]; simp; omega);go_wp2;go_ret;exact⟨eG R.o.symm,a7.o⟩
 ·have bM:decide ((5:Int)<(l.length:Int))=bg:=by simp; omega
  have R:=f (show fT l=aO by simp [fT,cG]);go_enter bL,bJ;go_wp2;go_ret;exact⟨eG R.o.symm,V _ _⟩
end Avp
namespace Av
open Go.RowKit Go.Sort Rw YtghlpefopidlaaaGreat.Nm Pr Bk
def Tg (B:Nat) (j:Nat) (_:Int) (_ _ _ _:aT) (g n cap k:Nat) (_ _:Int) (u:OA) (r q:Nat) (p:List C5) (i:Nat) (v:aT) (x:aM):Prop :=
 match i with
 | 0=>v=Z (ah ⟨j,5,aJ⟩)
 | 1=>v=aK (ah ⟨g,0,aJ⟩) n cap
 | 2=>v=J O (k:Int)
 | 3=>v=Z (ah ⟨j,5,aJ⟩)
 | 4=>v=aK (ah ⟨g,0,aJ⟩) n cap
 | 5=>v=J O (k:Int)
 | 6=>v=Z (ah ⟨g,k * 3,aJ⟩)
 | 7=>v=Z (ah ⟨g,k * 3+2,aJ⟩)
 | 8=>v=aK u r q
 | 9=>∃ s:Sl,v=eu s/\iH x B v p
 | 10=>v=Z (ah ⟨g,k * 3,aJ⟩)
 | 11=>v=Z (ah ⟨g,k * 3+2,aJ⟩)
 | _=>True
noncomputable def aeU:Code:=((Tryz.f33.body.bind (eX 16)).getD .skip)
theorem Zg (B:Nat) (j:Nat) (me:Int) (I M z3 z4:aT) (g n cap k:Nat) (r u:Int) (H:OA) (G F:Nat) (p:List C5) (i:Nat) (v:aT) (x q:aM) (h:Tg B j me I M z3 z4 g n cap k r u H G F p i v x) (T:Below x.heap.size x q):Tg B j me I M z3 z4 g n cap k r u H G F p i v q:=by
 by_cases a1:i<12
 ·rcases (by omega:i=0\/i=1\/i=2\/i=3\/i=4\/i=5\/i=6\/i=7\/i=8\/i=9\/i=10\/i=11) with rfl|rfl|rfl|rfl|rfl|rfl|rfl|rfl|rfl|rfl|rfl|rfl
  ·exact h
  ·exact h
  ·exact h
  ·exact h
  ·exact h
  ·exact h
  ·exact h
  ·exact h
  ·exact h
  ·obtain⟨s,N,S⟩:=h; exact⟨s,N,Bk.dK S T⟩
  ·exact h
  ·exact h
 ·unfold Tg
  split <;> first | omega | trivial
theorem an9 (Q:Exit->Act->aM->Prop) (W:aM) (e4:Nat) (l:List mP) (G:Nat) (me:Int) (e2 e3 z3 z4:aT) (g n cap k:Nat) (a6 a7:Int) (N:OA) (M I:Nat) (p:List C5) {b2 u2 u3 cJ u6 u7 dZ u9 b4 u11 b5 u13 b6 b7 b8 b9 bA bB bC bE bI bM bO bP bT bW bX c6 c7 c8 c9 cA cC cD cF cG cH cI cL cM cN cP cQ cR cS cT cU cV cW cX cY d0 d1 d2 d3 d4 d5 d6 d7 d8 d9 dA dC dE dS dT eL eM eN eQ eR eS eV eW f0 f1 f2 f3 e0 e1:aT}
  (T:dN W G #[J O me,e2,e3,z3,z4,aK (ah ⟨g,0,aJ⟩) n cap] 30) (q:nO W e4 (aK (ah ⟨g,0,aJ⟩) n cap) l) (a2:l[k]?=ah (a6,a7,(N,M,I))) (eE:fO W (aK N M I) p) (eJ:p.length<=900)
  (eA:∀ (x:aM) {f4 f5 f6 f7 f8 f9 fL fN fR fS fV fW:aT} (s1:OA) (s2 s3:Nat),iH x W.heap.size (aK s1 s2 s3) p->nO x e4 (aK (ah ⟨g,0,aJ⟩) n cap) (l.set k (a6,a7,(s1,s2,s3)))->But g W x->(∀ S,S<=g->S<=W.heap.size->Below S W x)->Q .normal ⟨(b2::Z (ah ⟨G,0,aJ⟩)::u2::u3::cJ::J O (k:Int)::u6::u7::dZ::u9::b4::u11::b5::u13::b6::b7::b8::b9::bA::bB::bC::bE::bI::bM::bO::bP::bT::bW::bX::c6::c7::c8::c9::cA::cC::cD::cF::cG::cH::cI::cL::cM::cN::cP::cQ::cR::cS::cT::cU::cV::cW::cX::cY::d0::d1::d2::d3::d4::d5::d6::d7::d8::d9::dA::dC::dE::dS::dT::f4::f5::f6::f7::f8::f9::fL::fN::fR::fS::fV::fW::e0::e1::[]).toArray,[]⟩ x) :
  Code.wp ak aeU Q ⟨(b2::Z (ah ⟨G,0,aJ⟩)::u2::u3::cJ::J O (k:Int)::u6::u7::dZ::u9::b4::u11::b5::u13::b6::b7::b8::b9::bA::bB::bC::bE::bI::bM::bO::bP::bT::bW::bX::c6::c7::c8::c9::cA::cC::cD::cF::cG::cH::cI::cL::cM::cN::cP::cQ::cR::cS::cT::cU::cV::cW::cX::cY::d0::d1::d2::d3::d4::d5::d6::d7::d8::d9::dA::dC::dE::dS::dT::eL::eM::eN::eQ::eR::eS::eV::eW::f0::f1::f2::f3::e0::e1::[]).toArray,[]⟩ W:=by
 have e7:=f eA;have e5:=f T;have e6:=f q;have g0:=f a2;have fY:=f eE;have g1:=f eJ;have e8:=f (oI okW g k n cap (by obtain⟨_,_,H⟩:=(Row.dL q).len; have h:=(aD.1 a2).1; simp at H; omega));have fX:=f (kR okW q a2);clear eA T q a2 eE eJ;have h3:=Zg W.heap.size G me e2 e3 z3 z4 g n cap k a6 a7 N M I p;unfold aeU
 conv=>arg 2; whnf
 have nd:∀ j,(j<68\/80<=j)->∀ i,i<12->(fun i=>68+i) i≠j:=by
  intro j eC i eB h;simp only at h;omega
 refine Rg.gN 13 12 (fun i=>68+i) (fun _=>12) (Tg W.heap.size G me e2 e3 z3 z4 g n cap k a6 a7 N M I p) (by kernel_rfl) (by kernel_rfl) rfl (by decide) (fun i j _ _ h=>by have gO:68+i=68+j:=h; omega) (fun i eB=>by show 68+i<82; omega) ?_ (fun _=>Rg.kJ 14 (by kernel_rfl)) ?_ ?_
 ·intro i o eB q a x D hD b1 hC F seen K r;clear e7;rcases (by omega:i=0\/i=1\/i=2\/i=3\/i=4\/i=5\/i=6\/i=7\/i=8\/i=9\/i=10\/i=11) with rfl|rfl|rfl|rfl|rfl|rfl|rfl|rfl|rfl|rfl|rfl|rfl
  ·cases q;have a8:a.eval (aL 1)=Z (ah ⟨G,0,aJ⟩):=seen.kp 1 _ (nd 1 (by omega)) rfl;exact aV rfl rfl (bG a.eval _ 30 (aL 1) 5 rfl (by rw [a8]; simp [go_sem])) (r _ _ rfl (V _ _) fun _ _ _ _ _ _ _ h=>h)
  ·cases q;have g2:a.eval (aL 68)=Z (ah ⟨G,5,aJ⟩):=seen.at_ ⟨0,.data⟩ (by simp) rfl (aQ (by decide));have a1:=(e5.o.on F).cell 5;simp only [ay,aH,aI] at a1;exact aV rfl rfl (bH a.eval _ 28 (aL 68) rfl (by rw [g2]; simp [go_sem,a1])) (r _ _ rfl (V _ _) fun _ _ _ _ _ _ _ h=>h)
  ·cases q;have aE:a.eval (aL 5)=J O (k:Int):=seen.kp 5 _ (nd 5 (by omega)) rfl;exact aV rfl rfl (Rg.gF a.eval _ (aL 5) rfl x) (r _ _ aE (V _ _) fun _ _ _ _ _ _ _ h=>h)
  ·cases q;have a8:a.eval (aL 1)=Z (ah ⟨G,0,aJ⟩):=seen.kp 1 _ (nd 1 (by omega)) rfl;exact aV rfl rfl (bG a.eval _ 30 (aL 1) 5 rfl (by rw [a8]; simp [go_sem])) (r _ _ rfl (V _ _) fun _ _ _ _ _ _ _ h=>h)
  ·cases q;have g5:a.eval (aL 71)=Z (ah ⟨G,5,aJ⟩):=seen.at_ ⟨3,.data⟩ (by simp) rfl (aQ (by decide));have a1:=(e5.o.on F).cell 5;simp only [ay,aH,aI] at a1;exact aV rfl rfl (bH a.eval _ 28 (aL 71) rfl (by rw [g5]; simp [go_sem,a1])) (r _ _ rfl (V _ _) fun _ _ _ _ _ _ _ h=>h)
  ·cases q;have aE:a.eval (aL 5)=J O (k:Int):=seen.kp 5 _ (nd 5 (by omega)) rfl;exact aV rfl rfl (Rg.gF a.eval _ (aL 5) rfl x) (r _ _ aE (V _ _) fun _ _ _ _ _ _ _ h=>h)
  ·cases q;have g6:a.eval (aL 72)=aK (ah ⟨g,0,aJ⟩) n cap:=seen.at_ ⟨4,.data⟩ (by simp) rfl (aQ (by decide));have g7:a.eval (aL 73)=J O (k:Int):=seen.at_ ⟨5,.data⟩ (by simp) rfl (aQ (by decide));exact aV rfl rfl (Rg.qY a.eval _ 28 (aL 72) (aL 73) rfl (by rw [g6,g7]; exact e8.o x)) (r _ _ rfl (V _ _) fun _ _ _ _ _ _ _ h=>h)
  ·cases q;have g8:a.eval (aL 74)=Z (ah ⟨g,k * 3,aJ⟩):=seen.at_ ⟨6,.data⟩ (by simp) rfl (aQ (by decide));exact aV rfl rfl (bG a.eval _ 88 (aL 74) 1 rfl (by rw [g8]; simp [go_sem])) (r _ _ rfl (V _ _) fun _ _ _ _ _ _ _ h=>h)
  ·cases q;have g9:a.eval (aL 75)=Z (ah ⟨g,k * 3+2,aJ⟩):=seen.at_ ⟨7,.data⟩ (by simp) rfl (aQ (by decide));have y:=fX.o x F 2 _ rfl;simp [Addr.add,EW] at y;exact aV rfl rfl (bH a.eval _ 34 (aL 75) rfl (by rw [g9]; simp [go_sem,y])) (r _ _ rfl (V _ _) fun _ _ _ _ _ _ _ h=>h)
  ·cases q;have gA:a.eval (aL 76)=aK N M I:=seen.at_ ⟨8,.data⟩ (by simp) rfl (aQ (by decide));exact bQ rfl rfl (Rw.jq a.eval _ (aL 76) 34 44 rfl gA rfl _ (gB Tryz.func44 rfl rfl _ _)) (oJ (N,M,I) p x (fY.o.on F) g1.o) fun e w1 h=>by
    obtain⟨⟨s,rfl,T⟩,e9⟩:=h;exact⟨_,rfl,r _ _ ⟨s,rfl,dO T F.size⟩ (e9.mono F.size) fun j u eC _ _ _ hE h=>h3 j u _ _ h e9⟩
  ·cases q;have g3:a.eval (aL 69)=aK (ah ⟨g,0,aJ⟩) n cap:=seen.at_ ⟨1,.data⟩ (by simp) rfl (aQ (by decide));have g4:a.eval (aL 70)=J O (k:Int):=seen.at_ ⟨2,.data⟩ (by simp) rfl (aQ (by decide));exact aV rfl rfl (Rg.qY a.eval _ 28 (aL 69) (aL 70) rfl (by rw [g3,g4]; exact e8.o x)) (r _ _ rfl (V _ _) fun _ _ _ _ _ _ _ h=>h)
  ·cases q;have gC:a.eval (aL 78)=Z (ah ⟨g,k * 3,aJ⟩):=seen.at_ ⟨10,.data⟩ (by simp) rfl (aQ (by decide));exact aV rfl rfl (bG a.eval _ 88 (aL 78) 1 rfl (by rw [gC]; simp [go_sem])) (r _ _ rfl (V _ _) fun _ _ _ _ _ _ _ h=>h)
 ·intro hF o T gO q;omega
 ·intro a w' df sz kp ⟨h9,H⟩ F;have h8:a.tmps.size=82:=sz;have gI:a.tmps[79]?=ah (Z (ah ⟨g,k * 3+2,aJ⟩)):=by
   have h:h9 11=Z (ah ⟨g,k * 3+2,aJ⟩):=(H 11 (by omega)).2 (by decide);rw [<- h];exact (H 11 (by omega)).1
  obtain⟨⟨s1,s2,s3⟩,eI,b1⟩:=(H 9 (by omega)).2 (by decide);have gE:a.tmps[77]?=ah (aK s1 s2 s3):=((H 9 (by omega)).1).trans (congrArg ah eI);rw [eI] at b1;obtain⟨hA,h2,h6,eK,h7⟩:=aiF (k:=k) s1 s2 s3 (Bk.dK e6.o F) g0.o;obtain⟨cur,gS⟩:=jX (Bk.dK e6.o F);show bR _ _ _ 1 12 a w';simp only [bR];refine Rg.gq 34 (aL 79) (aL 77) rfl rfl rfl rfl (bS gI) (bS gE) (w':=hA) h2 ?_;have h5:∀ j,(j<68\/80<=j)->(a).tmps[j]?=(b2::Z (ah ⟨G,0,aJ⟩)::u2::u3::cJ::J O (k:Int)::u6::u7::dZ::u9::b4::u11::b5::u13::b6::b7::b8::b9::bA::bB::bC::bE::bI::bM::bO::bP::bT::bW::bX::c6::c7::c8::c9::cA::cC::cD::cF::cG::cH::cI::cL::cM::cN::cP::cQ::cR::cS::cT::cU::cV::cW::cX::cY::d0::d1::d2::d3::d4::d5::d6::d7::d8::d9::dA::dC::dE::dS::dT::eL::eM::eN::eQ::eR::eS::eV::eW::f0::f1::f2::f3::e0::e1::[])[j]?:=fun j eC=>(kp j (nd j (by omega))).trans ay;obtain⟨h4,h1,gR⟩:=Rg.gG (a:=a) 68 12 df (by simp [h8]) (by simp) h5;show Q .normal (a) _;rw [gR]
  match h4,h1 with
  | [f4,f5,f6,f7,f8,f9,fL,fN,fR,fS,fV,fW],_ =>
   exact e7.o _ s1 s2 s3 (eK.own b1 gS (by decide)) h6 ((But.of_below F).trans eK) fun S hB h0=>h7 S W hB (F.mono h0)
def Ti (_:Nat) (M N:Nat) (j q r u:Int) (_:OA) (_ _:Nat) (_:Int) (_:Bool) (F G H I:Int) (_:OA) (_ _:Nat) (_:Int) (_:Bool) (i:Nat) (v:aT) (x:aM):Prop :=
 match i with
 | 0=>v=Z (ah ⟨M,0,aJ⟩)
 | 1=>v=bN #[J O j,J O q]
 | 2=>v=Z (ah ⟨N,0,aJ⟩)
 | 3=>v=bN #[J O F,J O G]
 | 4=>v=J O (gU (j,q) (F,G))
 | 5=>v=Z (ah ⟨M,2,aJ⟩)
 | 6=>v=bN #[J O r,J O u]
 | 7=>v=Z (ah ⟨N,2,aJ⟩)
 | 8=>v=bN #[J O H,J O I]
 | 9=>v=J O (gU (r,u) (H,I))
 | 10=>∃ g,v=aK (ah ⟨g,0,aJ⟩) 2 2/\x.cell? ⟨g,0,aJ⟩=ah (J O (gU (j,q) (F,G)))/\x.cell? ⟨g,1,aJ⟩=ah (J O (gU (r,u) (H,I)))
 | 11=>v=J O (Ea (gU (j,q) (F,G)) (gU (r,u) (H,I)))
 | _=>True
noncomputable def aeV:Code:=((Tryz.f71.body.bind (eX 1)).getD .skip)
theorem Zh (B:Nat) (j q:Nat) (H I M N:Int) (a6:OA) (a2 a1:Nat) (S:Int) (T:Bool) (a7 a8 aE b1:Int) (b7:OA) (b6 b5:Nat) (b2:Int) (b4:Bool) (i:Nat) (v:aT) (x G:aM) (h:Ti B j q H I M N a6 a2 a1 S T a7 a8 aE b1 b7 b6 b5 b2 b4 i v x) (F:Below x.heap.size x G):Ti B j q H I M N a6 a2 a1 S T a7 a8 aE b1 b7 b6 b5 b2 b4 i v G:=by
 by_cases b9:i<12
 ·rcases (by omega:i=0\/i=1\/i=2\/i=3\/i=4\/i=5\/i=6\/i=7\/i=8\/i=9\/i=10\/i=11) with rfl|rfl|rfl|rfl|rfl|rfl|rfl|rfl|rfl|rfl|rfl|rfl
  ·exact h
  ·exact h
  ·exact h
  ·exact h
  ·exact h
  ·exact h
  ·exact h
  ·exact h
  ·exact h
  ·exact h
  ·obtain⟨g,b8,r,u⟩:=h; exact⟨g,b8,by rw [F.cell (World.block_lt_of_cell? x _ r)]; exact r,by rw [F.cell (World.block_lt_of_cell? x _ u)]; exact u⟩
  ·exact h
 ·unfold Ti
  split <;> first | omega | trivial
theorem aoa (Q:Exit->Act->aM->Prop) (W:aM) (a2 a6:Nat) (G H I M:Int) (bM:OA) (bI bE:Nat) (bB:Int) (bC:Bool) (q r F N:Int) (bX:OA) (bW bT:Nat) (bO:Int) (bP:Bool) {b9 bA cM cN u6 u7 cP u9 cG u11 cH u13 cI cJ cL:aT}
  (b7:dN W a2 #[J O G,J O H,J O I,J O M,aK bM bI bE,J O bB,aU bC] 67) (b2:dN W a6 #[J O q,J O r,J O F,J O N,aK bX bW bT,J O bO,aU bP] 67)
  (c7:∀ (x:aM) {v5 cX cY d0 v9 cQ cR cS cT cU cV cW:aT},Below W.heap.size W x->Q .normal ⟨(b9::bA::Z (ah ⟨a2,0,aJ⟩)::Z (ah ⟨a6,0,aJ⟩)::(J O (Ea (gU (G,H) (q,r)) (gU (I,M) (F,N))))::v5::cX::cY::d0::v9::cQ::cR::cS::cT::cU::cV::cW::[]).toArray,[]⟩ x) :
  Code.wp ak aeV Q ⟨(b9::bA::Z (ah ⟨a2,0,aJ⟩)::Z (ah ⟨a6,0,aJ⟩)::cM::cN::u6::u7::cP::u9::cG::u11::cH::u13::cI::cJ::cL::[]).toArray,[]⟩ W:=by
 have c6:=f c7;have aE:=f b7;have b1:=f b2;clear c7 b7 b2;have b8:=Zh W.heap.size a2 a6 G H I M bM bI bE bB bC q r F N bX bW bT bO bP;unfold aeV
 conv=>arg 2; whnf
 have nd:∀ j,(j<5\/17<=j)->∀ i,i<12->(fun i=>5+i) i≠j:=by
  intro j b4 i c9 h;simp only at h;omega
 refine Rg.gN 13 12 (fun i=>5+i) (fun _=>12) (Ti W.heap.size a2 a6 G H I M bM bI bE bB bC q r F N bX bW bT bO bP) (by kernel_rfl) (by kernel_rfl) rfl (by decide) (fun i j _ _ h=>by have b2:5+i=5+j:=h; omega) (fun i c9=>by show 5+i<17; omega) ?_ (fun _=>Rg.kJ 14 (by kernel_rfl)) ?_ ?_
 ·intro i o c9 T a x D e7 e6 e5 S seen K a1;clear c6;rcases (by omega:i=0\/i=1\/i=2\/i=3\/i=4\/i=5\/i=6\/i=7\/i=8\/i=9\/i=10\/i=11) with rfl|rfl|rfl|rfl|rfl|rfl|rfl|rfl|rfl|rfl|rfl|rfl
  ·cases T;have b5:a.eval (aL 2)=Z (ah ⟨a2,0,aJ⟩):=seen.kp 2 _ (nd 2 (by omega)) rfl;exact aV rfl rfl (bG a.eval _ 67 (aL 2) 0 rfl (by rw [b5]; simp [go_sem])) (a1 _ _ rfl (V _ _) fun _ _ _ _ _ _ _ h=>h)
  ·cases T;have d7:a.eval (aL 5)=Z (ah ⟨a2,0,aJ⟩):=seen.at_ ⟨0,.data⟩ (by simp) rfl (aQ (by decide));have q:=(aE.o.on S).cell 1;have a8:=(aE.o.on S).cell 0;simp only [ay,aH,aI] at a8 q;exact aV rfl rfl (bH a.eval _ 23 (aL 5) rfl (by rw [d7]; simp [go_sem,a8,q])) (a1 _ _ rfl (V _ _) fun _ _ _ _ _ _ _ h=>h)
  ·cases T;have b6:a.eval (aL 3)=Z (ah ⟨a6,0,aJ⟩):=seen.kp 3 _ (nd 3 (by omega)) rfl;exact aV rfl rfl (bG a.eval _ 67 (aL 3) 0 rfl (by rw [b6]; simp [go_sem])) (a1 _ _ rfl (V _ _) fun _ _ _ _ _ _ _ h=>h)
  ·cases T;have d9:a.eval (aL 7)=Z (ah ⟨a6,0,aJ⟩):=seen.at_ ⟨2,.data⟩ (by simp) rfl (aQ (by decide));have q:=(b1.o.on S).cell 1;have a8:=(b1.o.on S).cell 0;simp only [ay,aH,aI] at a8 q;exact aV rfl rfl (bH a.eval _ 23 (aL 7) rfl (by rw [d9]; simp [go_sem,a8,q])) (a1 _ _ rfl (V _ _) fun _ _ _ _ _ _ _ h=>h)
  ·cases T;have d8:a.eval (aL 6)=bN #[J O G,J O H]:=seen.at_ ⟨1,.data⟩ (by simp) rfl (aQ (by decide));have dA:a.eval (aL 8)=bN #[J O q,J O r]:=seen.at_ ⟨3,.data⟩ (by simp) rfl (aQ (by decide));exact bQ rfl rfl (Rw.nQ a.eval _ (aL 6) (aL 8) 23 23 38 rfl d8 dA rfl _ (I7 _ _)) (rA (G,H) (q,r) x) fun e w1 h=>by
    obtain⟨rfl,a7⟩:=h;exact⟨_,rfl,a1 _ _ rfl (a7.mono S.size) fun j u b4 _ _ _ cA h=>b8 j u _ _ h a7⟩
  ·cases T;have b5:a.eval (aL 2)=Z (ah ⟨a2,0,aJ⟩):=seen.kp 2 _ (nd 2 (by omega)) rfl;exact aV rfl rfl (bG a.eval _ 67 (aL 2) 1 rfl (by rw [b5]; simp [go_sem])) (a1 _ _ rfl (V _ _) fun _ _ _ _ _ _ _ h=>h)
  ·cases T;have d2:a.eval (aL 10)=Z (ah ⟨a2,2,aJ⟩):=seen.at_ ⟨5,.data⟩ (by simp) rfl (aQ (by decide));have r:=(aE.o.on S).cell 2;have F:=(aE.o.on S).cell 3;simp only [ay,aH,aI] at r F;exact aV rfl rfl (bH a.eval _ 23 (aL 10) rfl (by rw [d2]; simp [go_sem,r,F])) (a1 _ _ rfl (V _ _) fun _ _ _ _ _ _ _ h=>h)
  ·cases T;have b6:a.eval (aL 3)=Z (ah ⟨a6,0,aJ⟩):=seen.kp 3 _ (nd 3 (by omega)) rfl;exact aV rfl rfl (bG a.eval _ 67 (aL 3) 1 rfl (by rw [b6]; simp [go_sem])) (a1 _ _ rfl (V _ _) fun _ _ _ _ _ _ _ h=>h)
  ·cases T;have d4:a.eval (aL 12)=Z (ah ⟨a6,2,aJ⟩):=seen.at_ ⟨7,.data⟩ (by simp) rfl (aQ (by decide));have r:=(b1.o.on S).cell 2;have F:=(b1.o.on S).cell 3;simp only [ay,aH,aI] at r F;exact aV rfl rfl (bH a.eval _ 23 (aL 12) rfl (by rw [d4]; simp [go_sem,r,F])) (a1 _ _ rfl (V _ _) fun _ _ _ _ _ _ _ h=>h)
  ·cases T;have d3:a.eval (aL 11)=bN #[J O I,J O M]:=seen.at_ ⟨6,.data⟩ (by simp) rfl (aQ (by decide));have d5:a.eval (aL 13)=bN #[J O F,J O N]:=seen.at_ ⟨8,.data⟩ (by simp) rfl (aQ (by decide));exact bQ rfl rfl (Rw.nQ a.eval _ (aL 11) (aL 13) 23 23 38 rfl d3 d5 rfl _ (I7 _ _)) (rA (I,M) (F,N) x) fun e w1 h=>by
    obtain⟨rfl,a7⟩:=h;exact⟨_,rfl,a1 _ _ rfl (a7.mono S.size) fun j u b4 _ _ _ cA h=>b8 j u _ _ h a7⟩
  ·cases T;have dC:a.eval (aL 9)=J O (gU (G,H) (q,r)):=seen.at_ ⟨4,.data⟩ (by simp) rfl (aQ (by decide));have d6:a.eval (aL 14)=J O (gU (I,M) (F,N)):=seen.at_ ⟨9,.data⟩ (by simp) rfl (aQ (by decide));have c8:=dR x #[J O (gU (G,H) (q,r)),J O (gU (I,M) (F,N))] 3;exact aV rfl rfl (Rg.iX a.eval _ 24 2 #[(0,aL 9),(1,aL 14)] rfl (ps:=#[(0,J O (gU (G,H) (q,r))),(1,J O (gU (I,M) (F,N)))]) (by simp [dC,d6]) (by simp [go_sem])) (a1 (aK (ah ⟨x.heap.size,0,aJ⟩) 2 2) (x.alloc (bD #[J O (gU (G,H) (q,r)),J O (gU (I,M) (F,N))] 3)) ⟨x.heap.size,rfl,c8.cell 0,c8.cell 1⟩ ((V _ _).alloc S.size _) fun j u _ _ _ _ _ h=>b8 j u _ _ h ((V _ _).alloc (bF _) _))
  ·cases T;have d1:=seen.at_ ⟨10,.data⟩ (by simp) rfl (aQ (by decide));obtain⟨g,e0,e1,e2⟩:=d1;exact bQ rfl rfl (Rw.jq a.eval _ (aL 15) 24 107 rfl e0 rfl _ (SF _ _)) (Yc g 2 _ _ x e1 e2) fun e w1 h=>by
    obtain⟨rfl,rfl⟩:=h;exact⟨_,rfl,a1 _ _ rfl (V _ _) fun j u b4 _ _ _ cA h=>h⟩
 ·intro e8 o b7 b2 T;omega
 ·intro a w' df sz kp ⟨e4,cD⟩ S;have cF:a.tmps.size=17:=sz;have dE:a.tmps[16]?=ah (J O (Ea (gU (G,H) (q,r)) (gU (I,M) (F,N)))):=by
   have h:e4 11=J O (Ea (gU (G,H) (q,r)) (gU (I,M) (F,N))):=(cD 11 (by omega)).2 (by decide);rw [<- h];exact (cD 11 (by omega)).1
  show bR _ _ _ 1 12 a w';simp only [bR];refine aV rfl rfl (Rg.kG a.eval _ (aL 16) rfl _) ?_;rw [bS dE];have cC:(a.put (ah 4) (J O (Ea (gU (G,H) (q,r)) (gU (I,M) (F,N))))).tmps[4]?=ah (J O (Ea (gU (G,H) (q,r)) (gU (I,M) (F,N)))):=by simp [Act.put,cF]
  have e3:∀ j,(j<4\/17<=j)->(a.put (ah 4) (J O (Ea (gU (G,H) (q,r)) (gU (I,M) (F,N))))).tmps[j]?=(b9::bA::Z (ah ⟨a2,0,aJ⟩)::Z (ah ⟨a6,0,aJ⟩)::cM::cN::u6::u7::cP::u9::cG::u11::cH::u13::cI::cJ::cL::[])[j]?:=fun j b4=>(Rg.get_put _ 4 _ j (by omega)).trans ((kp j (nd j (by omega))).trans ay);obtain⟨dZ,dT,dS⟩:=Rg.gG (a:=a.put (ah 4) (J O (Ea (gU (G,H) (q,r)) (gU (I,M) (F,N))))) 4 13 df (by simp [Rg.size_put,cF]) (by simp) e3;show Q .normal (a.put (ah 4) (J O (Ea (gU (G,H) (q,r)) (gU (I,M) (F,N))))) _;rw [dS] at cC ⊢
  match dZ,dT with
  | [v4,v5,cX,cY,d0,v9,cQ,cR,cS,cT,cU,cV,cW],_ =>
   obtain rfl:v4=J O (Ea (gU (G,H) (q,r)) (gU (I,M) (F,N))):=aB cC;exact c6.o _ S
def Lf (x y:iY):Int:=Ea (gU (x.1,x.2.1) (y.1,y.2.1)) (gU (x.2.2.1,x.2.2.2.1) (y.2.2.1,y.2.2.2.1))
theorem VF (x y:iY) (w:aM):aW ak 71 #[qd x,qd y] w fun e w'=>e=aC (J O (Lf x y))/\Below w.heap.size w w':=by
 obtain⟨j,q,r,u,⟨a1,T,S⟩,M,N⟩:=x;obtain⟨F,G,H,I,⟨aE,a8,a7⟩,a2,a6⟩:=y;obtain⟨b1,X,Y⟩:=gX w #[J O j,J O q,J O r,J O u,aK a1 T S,J O M,aU N] #[J O F,J O G,J O H,J O I,aK aE a8 a7,J O a2,aU a6] 67 67;have B:=f b1;have b5:=f X;have b6:=f Y;have R:=f (show Lf (j,q,r,u,(a1,T,S),M,N) (F,G,H,I,(aE,a8,a7),a2,a6)=Ea (gU (j,q) (F,G)) (gU (r,u) (H,I)) from rfl);generalize Lf (j,q,r,u,(a1,T,S),M,N) (F,G,H,I,(aE,a8,a7),a2,a6)=b7 at *;clear b1 X Y;go_enter Tryz.func71,Tryz.ntmps71;go_upto_region 1 with fail;generalize (w.alloc (bD #[J O j,J O q,J O r,J O u,aK a1 T S,J O M,aU N] 67)).alloc (bD #[J O F,J O G,J O H,J O I,aK aE a8 a7,J O a2,aU a6] 67)=W at *;refine aoa _ W w.heap.size (w.heap.size+1) j q r u a1 T S M N F G H I aE a8 a7 a2 a6 b5.o b6.o ?_;intro x v5 bM bO bP v9 b8 b9 bA bB bC bE bI b2;have b4:=f b2;clear b2;go_wp2;go_ret;exact⟨by have h:=R.o; subst h; rfl,B.o.trans (b4.o.mono B.o.size)⟩
abbrev VN (x y:ku):Int:=gU (x.1,x.2.1) (y.1,y.2.1)
abbrev VP (x y:mP):Int:=gU (x.1,x.2.1) (y.1,y.2.1)
def gW {α:Type} (c:α->α->Int):List α->Bool
 | x::y::l=>decide (c x y<0) && gW c (y::l)
 | _=>bg
theorem qM {α:Type} {c:α->α->Int}:∀ {l:List α},(∀ (k:Nat) (x y:α),l[k]?=ah x->l[k+1]?=ah y->c x y<0)->gW c l=bg
 | [],_=>rfl
 | [_],_=>rfl
 | x::y::l,h=>by
  unfold gW;rw [decide_eq_true (h 0 x y rfl rfl),Bool.true_and];exact qM fun k a b j q=>h (k+1) a b (by simpa using j) (by simpa using q)
theorem qN {α:Type} {c:α->α->Int}:∀ {l:List α} {k:Nat} {x y:α},l[k]?=ah x->l[k+1]?=ah y->¬ c x y<0->gW c l=aO
 | [],k,x,y,h,_,_=>by simp at h
 | [_],0,x,y,_,h,_=>by simp at h
 | [_],k+1,x,y,h,_,_=>by simp at h
 | a::b::l,0,x,y,j,q,r=>by
  simp at j q;subst j q;unfold gW;rw [decide_eq_false r,Bool.false_and]
 | a::b::l,k+1,x,y,j,q,r=>by
  unfold gW;rw [qN (l:=b::l) (k:=k) (by simpa using j) (by simpa using q) r,Bool.and_false]
theorem akM {W j:aM} {v:aT} {l:List Int} {q:OA} {n c k:Nat} {x:Int} (h:Row EI W v l) (M:v=aK q n c) (I:l.length=n) (H:l[k]?=ah x) (G:Below W.heap.size W j) :
  ∃ p:Addr,(∀ w,(aY 24 (aK q n c) (J O k)).run ak w=.ok (Z (ah p)) w)/\(∀ d os,(aZ (aF j d) os).cell? p=ah (J O x)):=by
 obtain⟨p,r,u⟩:=elI h M I H;have F:=u.2 _ G;exact⟨p,r,aj F⟩
theorem aok (c d:Int) (j:Int) (q:mQ c d=j) (w:aM) (k:Nat) (os:Array Obj) :
  aW ak 67 #[J O c,J O d] (aZ (aF w k) os) fun e r=>e=aC (J O j)/\∃ p:Regrown,r=aZ (aF w p.d) p.os:=by
 subst q;exact (pG c d _).mono fun e w' h=>⟨h.1,⟨k,os⟩,h.2⟩
theorem VQ (v:aT) (l:List Int) (w:aM) (I:Row EI w v l) :
  aW ak 66 #[v,.func (.func 67) #[] #[]] w fun e w'=>e=aC (aU (gW mQ l))/\Below w.heap.size w w':=by
 have M:=f I;have bI:=I.most;unfold aS at bI;obtain⟨bT,bP,rfl⟩:=I.len;obtain⟨n,a1⟩:∃ n,n=l.length:=⟨_,rfl⟩;rw [<- a1] at M bI ⊢;have F:=f a1.symm;clear I a1;go_enter Tryz.func66,Tryz.ntmps66;go_wp2
 go_loopw [5] (fun i wr=>∃ k:Nat,(k+1<=n\/n=0/\k=0)/\i=J O ((k+1:Nat):Int)/\Below w.heap.size w wr/\∀ (j:Nat) (x y:Int),j<k->l[j]?=ah x->l[j+1]?=ah y->mQ x y<0) (fun i _=>n+1-(intOf i).toNat)
 case atStart=>exact⟨0,by omega,rfl,V _ _,fun j x y h=>by omega⟩
 case round =>
  obtain⟨k,bX,rfl,bB,bA⟩:=hrel;have u:=f bB;have b1:=f bA;clear bB bA;by_cases c6:k+1<n
  ·obtain⟨x,a6⟩:∃ x,l[k]?=ah x:=⟨_,U (by rw [F.o]; omega)⟩;obtain⟨y,a7⟩:∃ y,l[k+1]?=ah y:=⟨_,U (by rw [F.o]; omega)⟩;obtain⟨p,bE,bM⟩:=akM M.o rfl F.o a6 u.o;obtain⟨q,a8,bO⟩:=akM M.o rfl F.o a7 u.o;rw [show ((k+1:Nat):Int)=(k:Int)+1 by omega] at a8;obtain⟨r,a2⟩:∃ r,mQ x y=r:=⟨_,rfl⟩;have C:=aok x y r a2 wr;have b5:=f a6;have b6:=f a7;have b4:=f a2;have b2:=f (fun T aE=>u.o.trans ((aP wr T aE).mono u.o.size));have w1:IntKind.i64.wrap ((k:Int)+1-1)=k:=by rw [show (k:Int)+1-1=k by omega]; exact aG _ (by omega)
   have c7:IntKind.i64.wrap ((k:Int)+1+1)=(k:Int)+1+1:=aG _ (by omega);clear a6 a7 a2;by_cases bC:r<0
   ·have S:decide ((0:Int)<=r)=aO:=by simp; omega
    go_wp2;refine ko ?_
    repeat (go_big_quiet_step (first | (with_reducible exact C _ _) | exact aol _ _))
    refine kr fun T aE=>?_;clear bE a8 bM bO C w1 S;go_wp2
    go_roundw
    case rel=>exact⟨k+1,by omega,by go_num,b2.o _ _,fun j a b bW H G=>by
     rcases aR j k with b9|b9
     ·exact b1.o j a b b9 H G
     ·obtain rfl:j=k:=by omega
      have b7:=b5.o;have b8:=b6.o;rw [H] at b7;rw [G] at b8;rw [aB b7,aB b8,b4.o];exact bC⟩
    case measure=>simp [intOf]; omega
   ·have S:decide ((0:Int)<=r)=bg:=by simp; omega
    have N:=f (show gW mQ l=aO from qN b5.o b6.o (by rw [b4.o]; exact bC));go_wp2;refine ko ?_
    repeat (go_big_quiet_step (first | (with_reducible exact C _ _) | exact aol _ _))
    refine kr fun T aE=>?_;clear bE a8 bM bO C w1 S;go_wp2;go_ret;exact⟨by rw [N.o]; rfl,b2.o _ _⟩
  ·have N:=f (show gW mQ l=bg from qM fun j x y H G=>b1.o j x y (by have:=(aD.1 G).1; have:=F.o; omega) H G);go_wp2;go_ret;exact⟨by rw [N.o]; rfl,u.o⟩
theorem akN {W j:aM} {v:aT} {l:List fB} {q:OA} {n c k:Nat} {x:fB} (h:Row EJ W v l) (M:v=aK q n c) (I:l.length=n) (H:l[k]?=ah x) (G:Below W.heap.size W j) :
  ∃ p:Addr,(∀ w,(aY 26 (aK q n c) (J O k)).run ak w=.ok (Z (ah p)) w)/\(∀ d os,(aZ (aF j d) os).cell? p=ah (J O x.1))/\(∀ d os,(aZ (aF j d) os).cell? ⟨p.block,p.off+1,aJ⟩=ah (J O x.2)):=by
 obtain⟨p,u,F⟩:=elJ h M I H;have r:=F _ G;exact⟨p,u,aj r.1,aj r.2⟩
theorem aom (c d:fB) (j:Int) (q:gU c d=j) (w:aM) (k:Nat) (os:Array Obj) :
  aW ak 38 #[nP c,nP d] (aZ (aF w k) os) fun e r=>e=aC (J O j)/\∃ p:Regrown,r=aZ (aF w p.d) p.os:=by
 subst q;exact aX (rA c d _)
theorem VT (v:aT) (l:List fB) (w:aM) (I:Row EJ w v l) :
  aW ak 68 #[v,.func (.func 38) #[] #[]] w fun e w'=>e=aC (aU (gW gU l))/\Below w.heap.size w w':=by
 have M:=f I;have bT:=I.most;unfold aS at bT;obtain⟨bX,bW,rfl⟩:=I.len;obtain⟨n,a1⟩:∃ n,n=l.length:=⟨_,rfl⟩;rw [<- a1] at M bT ⊢;have F:=f a1.symm;clear I a1;go_enter Tryz.func68,Tryz.ntmps68;go_wp2
 go_loopw [5] (fun i wr=>∃ k:Nat,(k+1<=n\/n=0/\k=0)/\i=J O ((k+1:Nat):Int)/\Below w.heap.size w wr/\∀ (j:Nat) (x y:fB),j<k->l[j]?=ah x->l[j+1]?=ah y->gU x y<0) (fun i _=>n+1-(intOf i).toNat)
 case atStart=>exact⟨0,by omega,rfl,V _ _,fun j x y h=>by omega⟩
 case round =>
  obtain⟨k,c7,rfl,bM,bI⟩:=hrel;have u:=f bM;have b6:=f bI;clear bM bI;by_cases c8:k+1<n
  ·obtain⟨x,a6⟩:∃ x,l[k]?=ah x:=⟨_,U (by rw [F.o]; omega)⟩;obtain⟨y,a7⟩:∃ y,l[k+1]?=ah y:=⟨_,U (by rw [F.o]; omega)⟩;obtain⟨p,bP,b1,b2⟩:=akN M.o rfl F.o a6 u.o;obtain⟨q,a8,b4,b5⟩:=akN M.o rfl F.o a7 u.o;rw [show ((k+1:Nat):Int)=(k:Int)+1 by omega] at a8;obtain⟨r,a2⟩:∃ r,gU x y=r:=⟨_,rfl⟩;have C:=aom x y r a2 wr;have b9:=f a6;have bA:=f a7;have b8:=f a2;have b7:=f (fun T aE=>u.o.trans ((aP wr T aE).mono u.o.size));have w1:IntKind.i64.wrap ((k:Int)+1-1)=k:=by rw [show (k:Int)+1-1=k by omega]; exact aG _ (by omega)
   have c9:IntKind.i64.wrap ((k:Int)+1+1)=(k:Int)+1+1:=aG _ (by omega);clear a6 a7 a2;obtain⟨cA,cC⟩:=x;obtain⟨cD,cF⟩:=y;simp only at b1 b2 b4 b5 C;by_cases bO:r<0
   ·have S:decide ((0:Int)<=r)=aO:=by simp; omega
    go_wp2;refine ko ?_
    repeat (go_big_quiet_step (first | (with_reducible exact C _ _) | exact aon _ _))
    refine kr fun T aE=>?_;clear bP a8 b1 b2 b4 b5 C w1 S;go_wp2
    go_roundw
    case rel=>exact⟨k+1,by omega,by go_num,b7.o _ _,fun j a b c6 H G=>by
     rcases aR j k with bE|bE
     ·exact b6.o j a b bE H G
     ·obtain rfl:j=k:=by omega
      have bB:=b9.o;have bC:=bA.o;rw [H] at bB;rw [G] at bC;rw [aB bB,aB bC,b8.o];exact bO⟩
    case measure=>simp [intOf]; omega
   ·have S:decide ((0:Int)<=r)=bg:=by simp; omega
    have N:=f (show gW gU l=aO from qN b9.o bA.o (by rw [b8.o]; exact bO));go_wp2;refine ko ?_
    repeat (go_big_quiet_step (first | (with_reducible exact C _ _) | exact aon _ _))
    refine kr fun T aE=>?_;clear bP a8 b1 b2 b4 b5 C w1 S;go_wp2;go_ret;exact⟨by rw [N.o]; rfl,b7.o _ _⟩
  ·have N:=f (show gW gU l=bg from qM fun j x y H G=>b6.o j x y (by have:=(aD.1 G).1; have:=F.o; omega) H G);go_wp2;go_ret;exact⟨by rw [N.o]; rfl,u.o⟩
theorem akO {W j:aM} {v:aT} {l:List ku} {r:OA} {n c k:Nat} {x:ku} (h:Row ED W v l) (M:v=aK r n c) (I:l.length=n) (H:l[k]?=ah x) (G:Below W.heap.size W j) :
  ∃ p:Addr,(∀ w,(aY 25 (aK r n c) (J O k)).run ak w=.ok (Z (ah p)) w)/\(∀ d os,(aZ (aF j d) os).cell? p=ah (J O x.1))/\(∀ d os,(aZ (aF j d) os).cell? ⟨p.block,p.off+1,aJ⟩=ah (J O x.2.1))/\(∀ d os,(aZ (aF j d) os).cell? ⟨p.block,p.off+2,aJ⟩=ah (eu x.2.2.1))/\(∀ d os,(aZ (aF j d) os).cell? ⟨p.block,p.off+3,aJ⟩=ah (J O x.2.2.2)):=by
 obtain⟨p,u,F⟩:=Mv h M I H;have q:=F _ G;exact⟨p,u,aj q.1,aj q.2.1,aj q.2.2.1,aj q.2.2.2⟩
theorem aoo (c d:ku) (j:Int) (q:VN c d=j) (w:aM) (k:Nat) (os:Array Obj) :
  aW ak 36 #[nC c,nC d] (aZ (aF w k) os) fun e r=>e=aC (J O j)/\∃ p:Regrown,r=aZ (aF w p.d) p.os:=by
 subst q;exact aX (I9 c d _)
theorem VU (v:aT) (l:List ku) (w:aM) (I:Row ED w v l) :
  aW ak 69 #[v,.func (.func 36) #[] #[]] w fun e w'=>e=aC (aU (gW VN l))/\Below w.heap.size w w':=by
 have M:=f I;have c7:=I.most;unfold aS at c7;obtain⟨c9,c8,rfl⟩:=I.len;obtain⟨n,a1⟩:∃ n,n=l.length:=⟨_,rfl⟩;rw [<- a1] at M c7 ⊢;have F:=f a1.symm;clear I a1;go_enter Tryz.func69,Tryz.ntmps69;go_wp2
 go_loopw [5] (fun i wr=>∃ k:Nat,(k+1<=n\/n=0/\k=0)/\i=J O ((k+1:Nat):Int)/\Below w.heap.size w wr/\∀ (j:Nat) (x y:ku),j<k->l[j]?=ah x->l[j+1]?=ah y->VN x y<0) (fun i _=>n+1-(intOf i).toNat)
 case atStart=>exact⟨0,by omega,rfl,V _ _,fun j x y h=>by omega⟩
 case round =>
  obtain⟨k,cC,rfl,bW,bT⟩:=hrel;have u:=f bW;have bA:=f bT;clear bW bT;by_cases cD:k+1<n
  ·obtain⟨x,a6⟩:∃ x,l[k]?=ah x:=⟨_,U (by rw [F.o]; omega)⟩;obtain⟨y,a7⟩:∃ y,l[k+1]?=ah y:=⟨_,U (by rw [F.o]; omega)⟩;obtain⟨p,c6,b1,b2,b4,b5⟩:=akO M.o rfl F.o a6 u.o;obtain⟨q,a8,b6,b7,b8,b9⟩:=akO M.o rfl F.o a7 u.o;rw [show ((k+1:Nat):Int)=(k:Int)+1 by omega] at a8;obtain⟨r,a2⟩:∃ r,VN x y=r:=⟨_,rfl⟩;have C:=aoo x y r a2 wr;have bE:=f a6;have bI:=f a7;have bC:=f a2;have bB:=f (fun T aE=>u.o.trans ((aP wr T aE).mono u.o.size));have w1:IntKind.i64.wrap ((k:Int)+1-1)=k:=by rw [show (k:Int)+1-1=k by omega]; exact aG _ (by omega)
   have cF:IntKind.i64.wrap ((k:Int)+1+1)=(k:Int)+1+1:=aG _ (by omega);clear a6 a7 a2;obtain⟨cG,cH,⟨cM,cL,cJ⟩,cI⟩:=x;obtain⟨cN,cP,⟨cT,cS,cR⟩,cQ⟩:=y;simp only at b1 b2 b4 b5 b6 b7 b8 b9 C;by_cases bX:r<0
   ·have S:decide ((0:Int)<=r)=aO:=by simp; omega
    go_wp2;refine ko ?_
    repeat (go_big_quiet_step (first | (with_reducible exact C _ _) | exact aop _ _))
    refine kr fun T aE=>?_;clear c6 a8 b1 b2 b4 b5 b6 b7 b8 b9 C w1 S;go_wp2
    go_roundw
    case rel=>exact⟨k+1,by omega,by go_num,bB.o _ _,fun j a b cA H G=>by
     rcases aR j k with bP|bP
     ·exact bA.o j a b bP H G
     ·obtain rfl:j=k:=by omega
      have bM:=bE.o;have bO:=bI.o;rw [H] at bM;rw [G] at bO;rw [aB bM,aB bO,bC.o];exact bX⟩
    case measure=>simp [intOf]; omega
   ·have S:decide ((0:Int)<=r)=bg:=by simp; omega
    have N:=f (show gW VN l=aO from qN bE.o bI.o (by rw [bC.o]; exact bX));go_wp2;refine ko ?_
    repeat (go_big_quiet_step (first | (with_reducible exact C _ _) | exact aop _ _))
    refine kr fun T aE=>?_;clear c6 a8 b1 b2 b4 b5 b6 b7 b8 b9 C w1 S;go_wp2;go_ret;exact⟨by rw [N.o]; rfl,bB.o _ _⟩
  ·have N:=f (show gW VN l=bg from qM fun j x y H G=>bA.o j x y (by have:=(aD.1 G).1; have:=F.o; omega) H G);go_wp2;go_ret;exact⟨by rw [N.o]; rfl,u.o⟩
theorem akP {W j:aM} {v:aT} {l:List iY} {r:OA} {n c k:Nat} {x:iY} (h:Row EN W v l) (M:v=aK r n c) (I:l.length=n) (H:l[k]?=ah x) (G:Below W.heap.size W j) :
  ∃ p:Addr,(∀ w,(aY 27 (aK r n c) (J O k)).run ak w=.ok (Z (ah p)) w)/\(∀ d os,(aZ (aF j d) os).cell? p=ah (J O x.1))/\(∀ d os,(aZ (aF j d) os).cell? ⟨p.block,p.off+1,aJ⟩=ah (J O x.2.1))/\(∀ d os,(aZ (aF j d) os).cell? ⟨p.block,p.off+2,aJ⟩=ah (J O x.2.2.1))/\(∀ d os,(aZ (aF j d) os).cell? ⟨p.block,p.off+3,aJ⟩=ah (J O x.2.2.2.1))/\(∀ d os,(aZ (aF j d) os).cell? ⟨p.block,p.off+4,aJ⟩=ah (eu x.2.2.2.2.1))/\(∀ d os,(aZ (aF j d) os).cell? ⟨p.block,p.off+5,aJ⟩=ah (J O x.2.2.2.2.2.1))/\(∀ d os,(aZ (aF j d) os).cell? ⟨p.block,p.off+6,aJ⟩=ah (aU x.2.2.2.2.2.2)):=by
 obtain⟨p,u,F⟩:=Qj h M I H;have q:=F _ G;exact⟨p,u,aj q.1,aj q.2.1,aj q.2.2.1,aj q.2.2.2.1,aj q.2.2.2.2.1,aj q.2.2.2.2.2.1,aj q.2.2.2.2.2.2⟩
theorem aoq (c d:iY) (j:Int) (q:Lf c d=j) (w:aM) (k:Nat) (os:Array Obj) :
  aW ak 71 #[qd c,qd d] (aZ (aF w k) os) fun e r=>e=aC (J O j)/\∃ p:Regrown,r=aZ (aF w p.d) p.os:=by
 subst q;exact aX (VF c d _)
theorem VW (v:aT) (l:List iY) (w:aM) (I:Row EN w v l) :
  aW ak 70 #[v,.func (.func 71) #[] #[]] w fun e w'=>e=aC (aU (gW Lf l))/\Below w.heap.size w w':=by
 have M:=f I;have cF:=I.most;unfold aS at cF;obtain⟨cH,cG,rfl⟩:=I.len;obtain⟨n,a1⟩:∃ n,n=l.length:=⟨_,rfl⟩;rw [<- a1] at M cF ⊢;have F:=f a1.symm;clear I a1;go_enter Tryz.func70,Tryz.ntmps70;go_wp2
 go_loopw [5] (fun i wr=>∃ k:Nat,(k+1<=n\/n=0/\k=0)/\i=J O ((k+1:Nat):Int)/\Below w.heap.size w wr/\∀ (j:Nat) (x y:iY),j<k->l[j]?=ah x->l[j+1]?=ah y->Lf x y<0) (fun i _=>n+1-(intOf i).toNat)
 case atStart=>exact⟨0,by omega,rfl,V _ _,fun j x y h=>by omega⟩
 case round =>
  obtain⟨k,cJ,rfl,cA,c9⟩:=hrel;have u:=f cA;have bO:=f c9;clear cA c9;by_cases cL:k+1<n
  ·obtain⟨x,a6⟩:∃ x,l[k]?=ah x:=⟨_,U (by rw [F.o]; omega)⟩;obtain⟨y,a7⟩:∃ y,l[k+1]?=ah y:=⟨_,U (by rw [F.o]; omega)⟩;obtain⟨p,cD,b1,b2,b4,b5,b6,b7,b8⟩:=akP M.o rfl F.o a6 u.o;obtain⟨q,a8,b9,bA,bB,bC,bE,bI,bM⟩:=akP M.o rfl F.o a7 u.o;rw [show ((k+1:Nat):Int)=(k:Int)+1 by omega] at a8;obtain⟨r,a2⟩:∃ r,Lf x y=r:=⟨_,rfl⟩;have C:=aoq x y r a2 wr;have bW:=f a6;have bX:=f a7;have bT:=f a2;have bP:=f (fun T aE=>u.o.trans ((aP wr T aE).mono u.o.size));have w1:IntKind.i64.wrap ((k:Int)+1-1)=k:=by rw [show (k:Int)+1-1=k by omega]; exact aG _ (by omega)
   have cM:IntKind.i64.wrap ((k:Int)+1+1)=(k:Int)+1+1:=aG _ (by omega);clear a6 a7 a2;obtain⟨cN,cP,cQ,cR,⟨cW,cV,cU⟩,cS,cT⟩:=x;obtain⟨cX,cY,d0,d1,⟨d6,d5,d4⟩,d2,d3⟩:=y;simp only at b1 b2 b4 b5 b6 b7 b8 b9 bA bB bC bE bI bM C;by_cases cC:r<0
   ·have S:decide ((0:Int)<=r)=aO:=by simp; omega
    go_wp2;refine ko ?_
    repeat (go_big_quiet_step (first | (with_reducible exact C _ _) | exact aor _ _))
    refine kr fun T aE=>?_;clear cD a8 b1 b2 b4 b5 b6 b7 b8 b9 bA bB bC bE bI bM C w1 S;go_wp2
    go_roundw
    case rel=>exact⟨k+1,by omega,by go_num,bP.o _ _,fun j a b cI H G=>by
     rcases aR j k with c8|c8
     ·exact bO.o j a b c8 H G
     ·obtain rfl:j=k:=by omega
      have c6:=bW.o;have c7:=bX.o;rw [H] at c6;rw [G] at c7;rw [aB c6,aB c7,bT.o];exact cC⟩
    case measure=>simp [intOf]; omega
   ·have S:decide ((0:Int)<=r)=bg:=by simp; omega
    have N:=f (show gW Lf l=aO from qN bW.o bX.o (by rw [bT.o]; exact cC));go_wp2;refine ko ?_
    repeat (go_big_quiet_step (first | (with_reducible exact C _ _) | exact aor _ _))
    refine kr fun T aE=>?_;clear cD a8 b1 b2 b4 b5 b6 b7 b8 b9 bA bB bC bE bI bM C w1 S;go_wp2;go_ret;exact⟨by rw [N.o]; rfl,bP.o _ _⟩
  ·have N:=f (show gW Lf l=bg from qM fun j x y H G=>bO.o j x y (by have:=(aD.1 G).1; have:=F.o; omega) H G);go_wp2;go_ret;exact⟨by rw [N.o]; rfl,u.o⟩
theorem akQ {W j:aM} {v:aT} {l:List mP} {r:OA} {n c k:Nat} {x:mP} (h:Row EW W v l) (M:v=aK r n c) (I:l.length=n) (H:l[k]?=ah x) (G:Below W.heap.size W j) :
  ∃ p:Addr,(∀ w,(aY 28 (aK r n c) (J O k)).run ak w=.ok (Z (ah p)) w)/\(∀ d os,(aZ (aF j d) os).cell? p=ah (J O x.1))/\(∀ d os,(aZ (aF j d) os).cell? ⟨p.block,p.off+1,aJ⟩=ah (J O x.2.1))/\(∀ d os,(aZ (aF j d) os).cell? ⟨p.block,p.off+2,aJ⟩=ah (eu x.2.2)):=by
 obtain⟨p,u,F⟩:=elW h M I H;have q:=F _ G;exact⟨p,u,aj q.1,aj q.2.1,aj q.2.2⟩
theorem aos (c d:mP) (j:Int) (q:VP c d=j) (w:aM) (k:Nat) (os:Array Obj) :
  aW ak 73 #[zy c,zy d] (aZ (aF w k) os) fun e r=>e=aC (J O j)/\∃ p:Regrown,r=aZ (aF w p.d) p.os:=by
 subst q;exact aX (Vk c d _)
theorem VX (v:aT) (l:List mP) (w:aM) (I:Row EW w v l) :
  aW ak 72 #[v,.func (.func 73) #[] #[]] w fun e w'=>e=aC (aU (gW VP l))/\Below w.heap.size w w':=by
 have M:=f I;have bX:=I.most;unfold aS at bX;obtain⟨c7,c6,rfl⟩:=I.len;obtain⟨n,a1⟩:∃ n,n=l.length:=⟨_,rfl⟩;rw [<- a1] at M bX ⊢;have F:=f a1.symm;clear I a1;go_enter Tryz.func72,Tryz.ntmps72;go_wp2
 go_loopw [5] (fun i wr=>∃ k:Nat,(k+1<=n\/n=0/\k=0)/\i=J O ((k+1:Nat):Int)/\Below w.heap.size w wr/\∀ (j:Nat) (x y:mP),j<k->l[j]?=ah x->l[j+1]?=ah y->VP x y<0) (fun i _=>n+1-(intOf i).toNat)
 case atStart=>exact⟨0,by omega,rfl,V _ _,fun j x y h=>by omega⟩
 case round =>
  obtain⟨k,c9,rfl,bP,bO⟩:=hrel;have u:=f bP;have b8:=f bO;clear bP bO;by_cases cA:k+1<n
  ·obtain⟨x,a6⟩:∃ x,l[k]?=ah x:=⟨_,U (by rw [F.o]; omega)⟩;obtain⟨y,a7⟩:∃ y,l[k+1]?=ah y:=⟨_,U (by rw [F.o]; omega)⟩;obtain⟨p,bW,b1,b2,b4⟩:=akQ M.o rfl F.o a6 u.o;obtain⟨q,a8,b5,b6,b7⟩:=akQ M.o rfl F.o a7 u.o;rw [show ((k+1:Nat):Int)=(k:Int)+1 by omega] at a8;obtain⟨r,a2⟩:∃ r,VP x y=r:=⟨_,rfl⟩;have C:=aos x y r a2 wr;have bB:=f a6;have bC:=f a7;have bA:=f a2;have b9:=f (fun T aE=>u.o.trans ((aP wr T aE).mono u.o.size));have w1:IntKind.i64.wrap ((k:Int)+1-1)=k:=by rw [show (k:Int)+1-1=k by omega]; exact aG _ (by omega)
   have cC:IntKind.i64.wrap ((k:Int)+1+1)=(k:Int)+1+1:=aG _ (by omega);clear a6 a7 a2;obtain⟨cD,cF,⟨cI,cH,cG⟩⟩:=x;obtain⟨cJ,cL,⟨cP,cN,cM⟩⟩:=y;simp only at b1 b2 b4 b5 b6 b7 C;by_cases bT:r<0
   ·have S:decide ((0:Int)<=r)=aO:=by simp; omega
    go_wp2;refine ko ?_
    repeat (go_big_quiet_step (first | (with_reducible exact C _ _) | exact aot _ _))
    refine kr fun T aE=>?_;clear bW a8 b1 b2 b4 b5 b6 b7 C w1 S;go_wp2
    go_roundw
    case rel=>exact⟨k+1,by omega,by go_num,b9.o _ _,fun j a b c8 H G=>by
     rcases aR j k with bM|bM
     ·exact b8.o j a b bM H G
     ·obtain rfl:j=k:=by omega
      have bE:=bB.o;have bI:=bC.o;rw [H] at bE;rw [G] at bI;rw [aB bE,aB bI,bA.o];exact bT⟩
    case measure=>simp [intOf]; omega
   ·have S:decide ((0:Int)<=r)=bg:=by simp; omega
    have N:=f (show gW VP l=aO from qN bB.o bC.o (by rw [bA.o]; exact bT));go_wp2;refine ko ?_
    repeat (go_big_quiet_step (first | (with_reducible exact C _ _) | exact aot _ _))
    refine kr fun T aE=>?_;clear bW a8 b1 b2 b4 b5 b6 b7 C w1 S;go_wp2;go_ret;exact⟨by rw [N.o]; rfl,b9.o _ _⟩
  ·have N:=f (show gW VP l=bg from qM fun j x y H G=>b8.o j x y (by have:=(aD.1 G).1; have:=F.o; omega) H G);go_wp2;go_ret;exact⟨by rw [N.o]; rfl,u.o⟩
end Av
end Go.Proofs.YtghlpefopidlaaaGreat
