/-
  Lists that are the s. Conditions as told.
-/
import Derived.Test.YtkcfgbddlpomgaaGreatOQ007
import Derived.Test.YtkcfgbddlpomgaaGreatOQ008
import Derived.Deep.RegionWith
import Derived.Maps.AppendAt
import Derived.Test.YtkcfgbddlpomgaaGreatOQ009
set_option maxRecDepth 100000
set_option maxHeartbeats 64000000
open _root_.Bool renaming and_eq_true->aD,true->aR,false->aS
open _root_.Go renaming World->ak,Value->au,bodyPost_ret->aG,maxLen->aL,TypeId->aZ,Calls->bf,Addr->bF
open Go.BinOp renaming and->aM
open Go.IntKind renaming i64->X
open Go.Lib renaming hid->D
open Go.Obj renaming cells->aC
open Go.Op renaming bytesLess->aH
open Go.Proofs.Tryz renaming prog->Z,results52->aA,ntmps52->aF,func52->aJ,underlying39->aO,underlying72->aQ,ntmps33->aV,func33->aW
open Go.Proofs.YtkcfgbddlpomgaaGreat.Wi renaming within->J,iX->aU,gZ->bH
open Go.RowKit.Below renaming refl->aj
open Go.Value renaming string->Q,int->aN,slice->aX,bool->bg,agg->bA
open Go.World renaming cell?_alloc_at->O,cell?_alloc_lt->ah
open _root_.List renaming getElem?_eq_getElem->L,getD_eq_getElem?_getD->U,mem_append->aI,pairwise_append->aK
open _root_.Nat renaming le_refl->V,mod_lt->aY
open _root_.Option renaming some->Y,none->aB,map_some->aT
open Option.some renaming inj->ay,injEq->aP
namespace Go.Proofs.YtkcfgbddlpomgaaGreat
namespace Bk
open Go.RowKit Go.Sort Rw YtkcfgbddlpomgaaGreat.Nm Pr
def eqI (x y:Id):Bool:=x.1 == y.1 && x.2 == y.2
theorem zy (x y:Id):eqI x y=aR↔x=y:=by
 obtain⟨a,b⟩:=x;obtain⟨c,d⟩:=y;simp [eqI]
theorem M7 {α β:Type} {R:α->β->Prop}:∀ {l m} (_:eH R l m) (k:Nat) (a:α),l[k]?=Y a->∃ b,m[k]?=Y b/\R a b
 | _,_,.nil,k,b,h=>by simp at h
 | _,_,.cons x t,0,b,h=>by
  simp at h;subst h;exact⟨_,rfl,x⟩
 | _,_,.cons x t,k+1,b,h=>by
  obtain⟨a,h1,h2⟩:=M7 t k b (by simpa using h);exact⟨a,by simpa using h1,h2⟩
end Bk
namespace Pr
open Go.RowKit Pu Rw Va Kp
def lo9 (n:Int):Int:=J (n.tdiv 4) 0 9
def tx6 (n:Int):ByteArray:=qp (J (n.tdiv 4) 0 6)
def tQ (n:Int):Kd:=if J n 0 3=0\/J n 0 3=1 then .rg (lo9 n) (lo9 n+J (n.tdiv 40) 0 9) else if J n 0 3=2 then .tx (tx6 n) else .pr (tx6 n)
theorem PW (n:Int):jy (tQ n)=aR:=by
 unfold tQ;have hw:=aU (n.tdiv 40) 0 9 (by omega);have ht:(tx6 n).size<=3:=zM _
 split
 ·simp only [jy,decide_eq_true_eq]; omega
 ·split
  ·simp only [jy,decide_eq_true_eq]; omega
  ·simp only [jy,decide_eq_true_eq]; omega
theorem M8 (n k:Int) (hk:1<=k) (h1:-9223372036854775808<=n) (h2:n<=9223372036854775807):-9223372036854775808<=n.tdiv k/\n.tdiv k<=9223372036854775807:=by
 rcases Int.le_total 0 n with h|h
 ·rw [Int.tdiv_eq_ediv_of_nonneg h];have a:=Int.ediv_nonneg h (show 0<=k by omega);have b:=Int.ediv_le_self k h;omega
 ·have e:n.tdiv k=-((-n) / k):=by rw [<- Int.tdiv_eq_ediv_of_nonneg (by omega),Int.neg_tdiv,Int.neg_neg]
  have a:=Int.ediv_nonneg (show 0<=-n by omega) (show 0<=k by omega);have b:=Int.ediv_le_self k (show 0<=-n by omega);omega
theorem zY (nm_:ByteArray) (n:Int) (w:ak) (h1:-9223372036854775808<=n) (h2:n<=9223372036854775807) :
  bf Z 52 #[Q nm_,aN X n] w fun e w'=>e=.returned (cv (r5 (nm_,tQ n)))/\Below w.heap.size w w':=by
 have b4:=M8 n 4 (by decide) h1 h2;have b40:=M8 n 40 (by decide) h1 h2;have q4:IntKind.i64.wrap (n.tdiv 4)=n.tdiv 4:=IntWalk.i64_in _ b4;have q40:IntKind.i64.wrap (n.tdiv 40)=n.tdiv 40:=IntWalk.i64_in _ b40;have W3:=D (fun wx=>bH n 0 3 wx (by omega) (by omega) (by omega) h1 h2);have W9:=D (fun wx=>bH (n.tdiv 4) 0 9 wx (by omega) (by omega) (by omega) b4.1 b4.2);have W6:=D (fun wx=>bH (n.tdiv 4) 0 6 wx (by omega) (by omega) (by omega) b4.1 b4.2);have V9:=D (fun wx=>bH (n.tdiv 40) 0 9 wx (by omega) (by omega) (by omega) b40.1 b40.2);have d3:=aU n 0 3 (by omega);have d9:=aU (n.tdiv 4) 0 9 (by omega);have d6:=aU (n.tdiv 4) 0 6 (by omega);have e9:=aU (n.tdiv 40) 0 9 (by omega);have KD:tQ n=if J n 0 3=0\/J n 0 3=1 then .rg (J (n.tdiv 4) 0 9) (J (n.tdiv 4) 0 9+J (n.tdiv 40) 0 9) else if J n 0 3=2 then .tx (qp (J (n.tdiv 4) 0 6)) else .pr (qp (J (n.tdiv 4) 0 6)):=rfl
 have TX:=D (MJ (J (n.tdiv 4) 0 6) d6.1 d6.2);generalize J n 0 3=r at *;generalize J (n.tdiv 4) 0 9=p at *;generalize J (n.tdiv 4) 0 6=q at *;generalize J (n.tdiv 40) 0 9=s at *;have hs:IntKind.i64.wrap (p+s)=p+s:=IntWalk.i64_in _ (by omega);have hr:r=0\/r=1\/r=2\/r=3:=by omega
 have D6:=D d6;clear b4 b40 h1 h2 d3 d9 e9 d6;rcases hr with rfl|rfl|rfl|rfl
 ·have K:=D (show tQ n=.rg p (p+s) by rw [KD]; rfl);clear KD;go_enter aJ,aF;go_wp2_with fail;refine (W3.out _).mono ?_;rintro e1 w1 ⟨rfl,rfl⟩;go_wp2_with fail;refine (W9.out _).mono ?_;rintro e2 w2 ⟨rfl,rfl⟩;go_wp2_with fail
  go_region_with (go_at_call 9; refine (V9.out _).mono ?_; rintro e w' ⟨rfl,rfl⟩)
  all_goals go_wp2_with fail
  all_goals exact aG (v:=cv (r5 (nm_,.rg p (p+s)))) (by simp [results,aA,go_sem,r5,kN,jN,jO,kT]) rfl ⟨by rw [K.out],(((aj _ _).alloc (V _) _).alloc (by simp) _).drew⟩
 ·have K:=D (show tQ n=.rg p (p+s) by rw [KD]; rfl);clear KD;go_enter aJ,aF;go_wp2_with fail;refine (W3.out _).mono ?_;rintro e1 w1 ⟨rfl,rfl⟩;go_wp2_with fail;refine (W9.out _).mono ?_;rintro e2 w2 ⟨rfl,rfl⟩;go_wp2_with fail
  go_region_with (go_at_call 9; refine (V9.out _).mono ?_; rintro e w' ⟨rfl,rfl⟩)
  all_goals go_wp2_with fail
  all_goals exact aG (v:=cv (r5 (nm_,.rg p (p+s)))) (by simp [results,aA,go_sem,r5,kN,jN,jO,kT]) rfl ⟨by rw [K.out],(((aj _ _).alloc (V _) _).alloc (by simp) _).drew⟩
 ·have K:=D (show tQ n=.tx (qp q) by rw [KD]; rfl);have tx:=TX.out;have d6:=D6.out;have d61:=d6.1;have d62:q<7:=by omega
  clear KD d6;go_enter aJ,aF;go_wp2_with fail;refine (W3.out _).mono ?_;rintro e1 w1 ⟨rfl,rfl⟩;go_wp2_with fail
  go_region_with (first | (go_at_call 9; refine (W6.out _).mono ?_; rintro e w' ⟨rfl,rfl⟩) | (go_at_call 65; refine (xO _).mono ?_; rintro e w' ⟨rfl,rfl⟩))
  all_goals go_wp2_with fail
  all_goals exact aG (v:=cv (r5 (nm_,.tx (qp q)))) (by simp [results,aA,go_sem,r5,kN,jN,jO,kT]) rfl ⟨by rw [K.out],((((aj _ _).alloc (V _) _).alloc (by simp) _).alloc (by simp; omega) _).drew⟩
 ·have K:=D (show tQ n=.pr (qp q) by rw [KD]; rfl);have tx:=TX.out;have d6:=D6.out;have d61:=d6.1;have d62:q<7:=by omega
  clear KD d6;go_enter aJ,aF;go_wp2_with fail;refine (W3.out _).mono ?_;rintro e1 w1 ⟨rfl,rfl⟩;go_wp2_with fail
  go_region_with (first | (go_at_call 9; refine (W6.out _).mono ?_; rintro e w' ⟨rfl,rfl⟩) | (go_at_call 65; refine (xO _).mono ?_; rintro e w' ⟨rfl,rfl⟩))
  all_goals go_wp2_with fail
  all_goals exact aG (v:=cv (r5 (nm_,.pr (qp q)))) (by simp [results,aA,go_sem,r5,kN,jN,jO,kT]) rfl ⟨by rw [K.out],((((aj _ _).alloc (V _) _).alloc (by simp) _).alloc (by simp; omega) _).drew⟩
end Pr
namespace Pr
open Go.RowKit Pu Rw Va Kp In
def jJ (has vals:List Int):Nat->List Cn
 | 0=>[]
 | i+1=>if i<has.length/\odd (has.getD i 0)=aR/\(jJ has vals i).length<5 then jJ has vals i++[(nm i,tQ (kP vals i))] else jJ has vals i
theorem M9 (has vals:List Int):∀ k,(jJ has vals k).length<=k
 | 0=>V _
 | k+1=>by
  have h:=M9 has vals k;simp only [jJ]
  split
  ·simp; omega
  ·omega
theorem Ic (has vals:List Int):∀ k,(jJ has vals k).length<=5
 | 0=>by simp [jJ]
 | k+1=>by
  have h:=Ic has vals k;simp only [jJ]
  split
  ·rename_i hc; simp; omega
  ·exact h
theorem uI (has vals:List Int):∀ k,∀ x∈jJ has vals k,∃ i,i<k/\x.1=nm i
 | 0,x,h=>by simp [jJ] at h
 | k+1,x,h=>by
  simp only [jJ] at h
  split at h
  ·rcases aI.1 h with h|h
   ·obtain⟨i,h1,h2⟩:=uI has vals k x h;exact⟨i,by omega,h2⟩
   ·simp at h;exact⟨k,by omega,by rw [h]⟩
  ·obtain⟨i,h1,h2⟩:=uI has vals k x h;exact⟨i,by omega,h2⟩
theorem zZ (has vals:List Int):∀ k,∀ x∈jJ has vals k,jy x.2=aR
 | 0,x,h=>by simp [jJ] at h
 | k+1,x,h=>by
  simp only [jJ] at h
  split at h
  ·rcases aI.1 h with h|h
   ·exact zZ has vals k x h
   ·simp at h;rw [h]; exact PW _
  ·exact zZ has vals k x h
theorem Fw (i j:Nat) (h:i<j) (hj:j<7):aH (nm i).toList (nm j).toList=aR:=by
 rw [ByteArray.toList_eq,ByteArray.toList_eq];have:∀ j:Fin 7,∀ i:Fin 7,i.val<j.val->aH (nm i.val).data.toList (nm j.val).data.toList=aR:=by decide
 exact this ⟨j,hj⟩ ⟨i,by omega⟩ h
theorem Ie (has vals:List Int):∀ k,k<=7->oz (jJ has vals k)
 | 0,_=>by simp [jJ,oz]
 | k+1,hk=>by
  have h:=Ie has vals k (by omega);simp only [jJ]
  split
  ·refine aK.2 ⟨h,List.pairwise_singleton _ _,fun x hx y hy=>?_⟩;obtain⟨i,h1,h2⟩:=uI has vals k x hx;simp at hy;rw [hy,h2];exact Fw i k h1 (by omega)
  ·exact h
theorem wF (w:ak) (c:C5):gu (w.alloc (aC #[Q c.1,aN X c.2.1,aN X c.2.2.1,aN X c.2.2.2.1,Q c.2.2.2.2] 106)) (aX (Y ⟨w.heap.size,0,aB⟩) 1 1) [c] :=
 Row.dH (iD Dk w [c] 1 rfl (by simp) _ rfl)
theorem wG (hv vv:au) (has vals:List Int) (w:ak) (hh:iC w hv has) (hw:iC w vv vals) (lh:has.length<=aL) (lv:vals.length<=aL) :
  bf Z 23 #[bA #[hv,vv]] w fun e w'=>∃ v,e=.returned v/\jP w' w.heap.size v ((jJ has vals 7).map r5)/\Below w.heap.size w w':=by
 have HH:=D hh;have HW:=D hw;have LH:=D lh;have LV:=D lv;clear hh hw lh lv;go_enter Tryz.func23,Tryz.ntmps23;go_wp2_with fail;refine (xW _).mono ?_;rintro e1 w1 ⟨rfl,rfl⟩;go_wp2
 go_loopw [3,8] (fun lv i wr=>∃ k:Nat,k<=7/\i=aN X k/\jP wr (w.heap.size+2) lv ((jJ has vals k).map r5) /\
  Below (w.heap.size+2) ((w.alloc (aC #[hv,vv] 72)).alloc (aC oJ 9)) wr) (fun _ i _=>7-(intOf i).toNat)
 case atStart=>exact⟨0,by omega,rfl,gB _ _,aj _ _⟩
 case round =>
  obtain⟨k,hk,rfl,hown,hb⟩:=hrel;have HO:=D hown;have HB:=D hb;have T0:Below w.heap.size w ((w.alloc (aC #[hv,vv] 72)).alloc (aC oJ 9)):=((aj _ _).alloc (V _) _).alloc (by simp) _;have BW:=D (T0.trans (hb.mono (by omega)));have hsz:w.heap.size+2<=wr.heap.size:=by have:=hb.size; simp at this; omega
  clear T0;obtain⟨ro,ahX,hrl⟩:=(Row.dH hown).len;rw [List.length_map] at hrl;have hl5:=M9 has vals k;by_cases h7:k<7
  ·have n0:wr.cell? ⟨w.heap.size+1,k,aB⟩=Y (Q (nm k)):=by
    rw [hb.cell (p:=⟨w.heap.size+1,k,aB⟩) (by simp),O _ _ _ _ (by simp)]; exact Tf k h7
   have b0:wr.cell? ⟨w.heap.size,0,aB⟩=Y hv:=by
    rw [hb.cell (p:=⟨w.heap.size,0,aB⟩) (by simp),ah _ _ _ (by simp),O _ _ _ _ rfl]; rfl
   have b1:wr.cell? ⟨w.heap.size,1,aB⟩=Y vv:=by
    rw [hb.cell (p:=⟨w.heap.size,1,aB⟩) (by simp),ah _ _ _ (by simp),O _ _ _ _ rfl]; rfl
   have IH:=D (HH.out.on BW.out);obtain⟨ao,ahY,hsh⟩:=HH.out.shape;clear hb hown;subst hsh;subst hrl;have hkk:(k:Int)<7:=by omega
   by_cases h1:k<has.length
   ·obtain⟨y,hy⟩:∃ y,has[k]?=Y y:=⟨_,L h1⟩;have hg:has.getD k 0=y:=by rw [U,hy]; rfl
    obtain⟨_,p,_,hix,hpc⟩:=IH.out.at_ k y hy;cases ho:odd y
    ·have T:=D (show jJ has vals (k+1)=jJ has vals k by simp only [jJ]; rw [if_neg]; rintro⟨_,h2,_⟩; rw [hg,ho] at h2; cases h2);have hodd:(bits aM X y 1 == 1)=aS:=ho;clear ho hy hg;go_wp2
     go_roundw
     case rel=>exact⟨k+1,by omega,by go_num,by rw [T.out]; exact HO.out,HB.out⟩
     case measure=>simp [intOf]; omega
    ·have hodd:(bits aM X y 1 == 1)=aR:=ho;by_cases h5:(jJ has vals k).length<5
     ·have T:=D (show (jJ has vals (k+1)).map r5=(jJ has vals k).map r5++[r5 (nm k,tQ (kP vals k))] by simp only [jJ]; rw [if_pos ⟨h1,by rw [hg,ho],h5⟩,List.map_append]; rfl);have PK:=D (fun (W:ak) (hW:Below w.heap.size w W)=>zV vv vals k W (HW.out.on hW) LV.out (by omega));have bd:=zW HW.out k;have KV:=D (fun W=>zY (nm k) (kP vals k) W bd.1 bd.2);clear ho hy hg bd;go_wp2_with fail;refine (PK.out _ BW.out).mono ?_;rintro e1 w1 ⟨rfl,rfl⟩;go_wp2_with fail;refine (KV.out _).mono ?_;rintro e2 w2 ⟨rfl,hb2⟩;have B2:=D hb2;have O2:=D (dG HO.out hb2);have hs2:=hb2.size;clear hb2;generalize r5 (nm k,tQ (kP vals k))=c at T ⊢;have O3a:=D (O2.out.alloc (aC #[Q c.1,aN X c.2.1,aN X c.2.2.1,aN X c.2.2.2.1,Q c.2.2.2.2] 106));obtain⟨v3,w3,r3,o3,g3⟩:=gG Dk (w.heap.size+2) O3a.out (wF w2 c) (by simp; omega) (by simp) (by simp; omega) 41;have O3:=D o3;have hbel:Below (w.heap.size+2) wr w3:=((B2.out.mono hsz).alloc (by omega) _).grown g3 (by simp; omega) (fun j hj=>(O3a.out.lt j hj).1);have B3:=D (HB.out.trans hbel);clear o3 g3 hbel;go_wp2_with (first | (at_builtin; refine wpList_append_run rfl _ _ 41 rfl rfl rfl r3 ?_) | fail);clear r3;go_wp2
      go_roundw
      case rel=>exact⟨k+1,by omega,by go_num,by rw [T.out]; exact O3.out,B3.out⟩
      case measure=>simp [intOf]; omega
     ·have T:=D (show jJ has vals (k+1)=jJ has vals k by simp only [jJ]; rw [if_neg]; rintro⟨_,_,h2⟩; exact h5 h2);clear ho hy hg;go_wp2
      go_roundw
      case rel=>exact⟨k+1,by omega,by go_num,by rw [T.out]; exact HO.out,HB.out⟩
      case measure=>simp [intOf]; omega
   ·have T:=D (show jJ has vals (k+1)=jJ has vals k by simp only [jJ]; rw [if_neg]; rintro⟨h2,_⟩; exact h1 h2);go_wp2
    go_roundw
    case rel=>exact⟨k+1,by omega,by go_num,by rw [T.out]; exact HO.out,HB.out⟩
    case measure=>simp [intOf]; omega
  ·obtain rfl:k=7:=by omega
   clear hb hown;go_wp2;go_ret;exact⟨_,rfl,nP (by omega) HO.out,BW.out⟩
def KF (c:Cn):Prop:=c.1.size<=100/\(kT c.2).size<=100/\(-9223372036854775808<=jN c.2/\jN c.2<=9223372036854775807)/\(-9223372036854775808<=jO c.2/\jO c.2<=9223372036854775807)
structure NF (l:List Cn):Prop where
 rise:oz l
 five:l.length<=5
 good:∀ c∈l,Di c=aR
 small:∀ c∈l,KF c
theorem NF.jy {l:List Cn} (h:NF l):∀ c∈l,Pr.jy c.2=aR:=fun c hc=>by
 have:=h.good c hc;simp only [Di,aD] at this;exact this.2
theorem Tk (i:Nat) (h:i<7):Hw (nm i)=aR:=by
 match i,h with
 | 0,_=>decide
 | 1,_=>decide
 | 2,_=>decide
 | 3,_=>decide
 | 4,_=>decide
 | 5,_=>decide
 | 6,_=>decide
theorem Fx (i:Nat):(nm i).size=1:=rfl
theorem Tm (n:Int):(kT (tQ n)).size<=100/\(-9223372036854775808<=jN (tQ n)/\jN (tQ n)<=9223372036854775807)/\(-9223372036854775808<=jO (tQ n)/\jO (tQ n)<=9223372036854775807):=by
 have h1:=aU (n.tdiv 4) 0 9 (by omega);have h2:=aU (n.tdiv 40) 0 9 (by omega);have ht:(tx6 n).size<=3:=zM _;unfold tQ lo9
 split
 ·refine⟨by show (0:Nat)<=100; omega,?_,?_⟩ <;> simp only [jN,jO] <;> omega
 ·split
  ·refine⟨by show (tx6 n).size<=100; omega,?_,?_⟩ <;> simp only [jN,jO] <;> omega
  ·refine⟨by show (tx6 n).size<=100; omega,?_,?_⟩ <;> simp only [jN,jO] <;> omega
theorem xX (has vals:List Int):∀ k,∀ x∈jJ has vals k,KF x
 | 0,x,h=>by simp [jJ] at h
 | k+1,x,h=>by
  simp only [jJ] at h
  split at h
  ·rcases aI.1 h with h|h
   ·exact xX has vals k x h
   ·simp at h;rw [h];exact⟨by show (nm k).size<=100; rw [Fx]; omega,Tm _⟩
  ·exact xX has vals k x h
theorem Tn (has vals:List Int):NF (jJ has vals 7) :=
 ⟨Ie has vals 7 (V _),Ic has vals 7,fun c hc=>by
  obtain⟨i,h1,h2⟩:=uI has vals 7 c hc;simp only [Di,aD];exact⟨by rw [h2]; exact Tk i h1,zZ has vals 7 c hc⟩,xX has vals 7⟩
theorem acY {a b:Cn} (h:r5 a=r5 b):a=b:=by
 obtain⟨n,a⟩:=a;obtain⟨m,b⟩:=b;simp only [r5,Prod.mk.injEq] at h;obtain⟨rfl,h1,h2,h3,h4⟩:=h;cases a <;> cases b <;> simp [kN,jN,jO,kT] at h1 h2 h3 h4 <;> simp [*]
end Pr
namespace Rl
open Go.RowKit Pu Rw Pr
def EA:Ek An:=⟨97,39,4,48,bA #[Q ⟨#[]⟩,bg aS,aN X 0,Q ⟨#[]⟩],At.av,At.zX⟩
theorem acZ:(Tryz.prog.info? 97).map (fun i=>(i.zero,i.size,i.bytes))=Y (Y (bA #[Q ⟨#[]⟩,bg aS,aN X 0,Q ⟨#[]⟩]),4,48):=by kernel_rfl
theorem PY (w:ak) (p:bF) (c:An) (h:∀ j u,(At.zX c)[j]?=Y u->w.cell? (p.add j)=Y u):(Instr.loadAt 97 (.pointer (Y p))).run Z w=.ok (At.av c) w:=by
 have h0:=h 0 _ rfl;have h1:=h 1 _ rfl;have h2:=h 2 _ rfl;have h3:=h 3 _ rfl;simp [Addr.add] at h0 h1 h2 h3;simp [go_sem,h0,h1,h2,h3]
theorem okA:EA.Ok where
 hu:=aO
 info:=by
  have h:=acZ;cases hi:Tryz.prog.info? 97 with
  | none=>rw [hi] at h; cases h
  | some i =>
   rw [hi] at h;simp only [aT,aP,Prod.mk.injEq] at h;exact⟨i,hi,h.1,h.2.1,h.2.2⟩
 zs:=rfl
 len:=fun _=>rfl
 one:=fun x u hu=>by
  simp only [EA,At.zX,List.mem_cons,List.not_mem_nil,or_false] at hu;rcases hu with rfl|rfl|rfl|rfl <;> rfl
 pos:=by decide
 few:=by decide
 load:=fun w p x h=>PY w p x h
abbrev wH (W:ak) (v:au) (l:List An):Prop:=Row EA W v l
abbrev Fy (W:ak) (B:Nat) (v:au) (l:List An):Prop:=Own EA W B v l
theorem Fz:∀ l:List An,flat EA l=At.mM l
 | []=>rfl
 | x::r=>by
  rw [flat,Fz r]
  rfl
theorem ac0 {W:ak} {v:au} {l:List An}:At.zm W v l↔wH W v l:=by
 unfold At.zm wH Row;rw [Fz]
theorem ac1 {W:ak} {B:Nat} {v:au} {l:List An} (h:W.ownsRow B 97 4 v l.length (At.mM l)):Fy W B v l:=by
 show W.ownsRow B 97 4 v l.length (flat EA l);rw [Fz];exact h
structure NL (l:List An):Prop where
 rise:l.Pairwise fun x y=>aH x.1.toList y.1.toList=aR
 five:l.length<=5
 small:∀ x∈l,x.1.size<=100/\x.2.2.2.size<=100
theorem NL.nodup {l:List An} (h:NL l):(l.map (·.1)).Nodup:=by
 rw [List.Nodup,List.pairwise_map];exact h.rise.imp fun h=>Fj h
theorem PZ {p:List Cn} {l:List An} (h:(l.map (·.1)).Nodup):xS p l=p.all fun c=>match l.find? fun a=>decide (a.1=c.1) with
  | some a=>eG c.2 a.2
  | none=>aS:=by
 unfold xS
 congr 1
 funext c
 cases hf:l.find? fun a=>decide (a.1=c.1) with
 | none =>
  rw [List.any_eq_false];intro a ha;have:=List.find?_eq_none.1 hf a ha;simp only [decide_eq_true_eq] at this;simp [this]
 | some a =>
  have hm:=List.mem_of_find?_eq_some hf;have he:a.1=c.1:=by simpa using List.find?_some hf
  rw [Bool.eq_iff_iff,List.any_eq_true];constructor
  ·rintro⟨b,hb,h2⟩;simp only [aD,decide_eq_true_eq] at h2;rw [uniq h hm hb (he.trans h2.1.symm)];exact h2.2
  ·intro h2;exact⟨a,hm,by simp [he,h2]⟩
end Rl
namespace At
open Go.RowKit Va In
def nm (i:Nat):ByteArray:=⟨#[UInt8.ofNat (97+i)]⟩
def oJ:Array au:=#[Q ⟨#[97]⟩,Q ⟨#[98]⟩,Q ⟨#[99]⟩,Q ⟨#[100]⟩,Q ⟨#[101]⟩,Q ⟨#[102]⟩,Q ⟨#[103]⟩]
theorem Tf (i:Nat) (h:i<7):oJ[i]?=Y (Q (nm i)):=by
 match i,h with
 | 0,_=>rfl
 | 1,_=>rfl
 | 2,_=>rfl
 | 3,_=>rfl
 | 4,_=>rfl
 | 5,_=>rfl
 | 6,_=>rfl
theorem xW (w:ak):bf Z 31 #[] w fun e w'=>e=.returned (aX (Y ⟨w.heap.size,0,aB⟩) 7 7)/\w'=w.alloc (aC oJ 9):=by
 go_enter Tryz.func31,Tryz.ntmps31;go_wp2;go_ret;exact⟨rfl,rfl⟩
def kP (zs:List Int) (i:Nat):Int:=if zs=[] then 0 else zs.getD (i % zs.length) 0
theorem zV (nv:au) (zs:List Int) (i:Nat) (w:ak) (hz:iC w nv zs) (hl:zs.length<=aL) (hi:i<=100) :
  bf Z 33 #[nv,aN X i] w fun e w'=>e=.returned (aN X (kP zs i))/\w=w':=by
 obtain⟨ao,cap,rfl⟩:=hz.shape;unfold aL at hl;cases zs with
 | nil =>
  go_enter aW,aV;go_wp2;go_ret;exact⟨rfl,rfl⟩
 | cons z r =>
  have hm:i % (z::r).length<(z::r).length:=aY _ (by simp);obtain⟨y,hy⟩:∃ y,(z::r)[i % (z::r).length]?=Y y:=⟨_,L hm⟩;obtain⟨_,p,_,hix,hpc⟩:=hz.at_ _ y hy;have P:=D (show kP (z::r) i=y by unfold kP; rw [if_neg (by simp),U,hy]; rfl);have h0:((((z::r).length:Nat):Int) == 0)=aS:=by simp; omega
  have hne:(((z::r).length:Nat):Int)≠0:=by simp; omega
  have ht:(i:Int) % ((z::r).length:Nat)=((i % (z::r).length:Nat):Int):=rfl;have ht2:(i:Int).tmod ((z::r).length:Nat)=((i % (z::r).length:Nat):Int):=by
   rw [Int.tmod_eq_emod_of_nonneg (by omega)]; rfl
  have hn0:0<(((z::r).length:Nat):Int):=by simp
  generalize (z::r).length=n at *;generalize i % n=m at *;clear hz hy hm;go_enter aW,aV;go_wp2;go_ret;exact⟨Wi.zu P.out.symm,rfl⟩
def odd (z:Int):Bool:=bits aM X z 1 == 1
def valOf (n:Int):Bool×Int×ByteArray:=(!(evn n),Yg n,R7 n)
def tT (has vals:List Int):Nat->List A4
 | 0=>[]
 | i+1=>if i<has.length/\odd (has.getD i 0)=aR/\(tT has vals i).length<5 then tT has vals i++[(nm i,valOf (kP vals i))] else tT has vals i
theorem ac3:(Tryz.prog.info? 97).map (fun i=>(i.zero,i.size,i.bytes))=Y (Y (bA #[Q ⟨#[]⟩,bg aS,aN X 0,Q ⟨#[]⟩]),4,48):=by kernel_rfl
theorem aeZ:∃ i,Tryz.prog.info? 97=Y i/\i.zero=Y (bA #[Q ⟨#[]⟩,bg aS,aN X 0,Q ⟨#[]⟩])/\i.size=4/\i.bytes=48:=by
 have h:=ac3;cases hi:Tryz.prog.info? 97 with
 | none=>rw [hi] at h; cases h
 | some i =>
  rw [hi] at h;simp only [aT,aP,Prod.mk.injEq] at h;exact⟨i,rfl,h.1,h.2.1,h.2.2⟩
theorem zW {W:ak} {nv:au} {zs:List Int} (hz:iC W nv zs) (i:Nat):-9223372036854775808<=kP zs i/\kP zs i<=9223372036854775807:=by
 unfold kP
 split
 ·omega
 ·rename_i h
  have hm:i % zs.length<zs.length:=aY _ (List.length_pos_iff.2 h);have:=(hz.at_ _ _ (L hm)).1;rw [U,L hm];exact this
theorem Na (has vals:List Int):∀ k,(tT has vals k).length<=k
 | 0=>V _
 | k+1=>by
  have h:=Na has vals k;simp only [tT]
  split
  ·simp; omega
  ·omega
theorem dG {W W':ak} {B k:Nat} {e:aZ} {v:au} {n:Nat} {xs:List au} (h:W.ownsRow B e k v n xs) (hb:Below W.heap.size W W'):W'.ownsRow B e k v n xs:=by
 refine⟨h.1,?_⟩;rcases h.2 with h2|⟨g,cap,cur,h1,h2,h3,h4⟩
 ·exact Or.inl h2
 ·exact Or.inr ⟨g,cap,cur,h1,h2,by rw [hb.block _ (lt_of_heap h3)]; exact h3,h4⟩
theorem nP {W:ak} {B B' k:Nat} {e:aZ} {v:au} {n:Nat} {xs:List au} (hB:B'<=B) (h:W.ownsRow B e k v n xs):W.ownsRow B' e k v n xs:=by
 refine⟨h.1,?_⟩;rcases h.2 with h2|⟨g,cap,cur,h1,h2,h3⟩
 ·exact Or.inl h2
 ·exact Or.inr ⟨g,cap,cur,h1,Nat.le_trans hB h2,h3⟩
theorem P5 (w:ak) (x0 x1 x2 x3:au) (t:aZ):∀ j u,[x0,x1,x2,x3][j]?=Y u->(w.alloc (aC #[x0,x1,x2,x3] t)).cell? ((⟨w.heap.size,0,aB⟩:bF).add j)=Y u:=by
 intro j u hj;have e:(⟨w.heap.size,0,aB⟩:bF).add j=⟨w.heap.size,j,aB⟩:=by unfold Addr.add; split <;> simp_all
 rw [e,O _ _ _ _ rfl];simpa using hj
theorem P6 (hv vv:au) (has vals:List Int) (w:ak) (hh:iC w hv has) (hw:iC w vv vals) (lh:has.length<=aL) (lv:vals.length<=aL) :
  bf Z 10 #[bA #[hv,vv]] w fun e w'=>∃ v,e=.returned v/\w'.ownsRow w.heap.size 97 4 v (tT has vals 7).length (mM (tT has vals 7))/\Below w.heap.size w w':=by
 have HH:=D hh;have HW:=D hw;have LH:=D lh;have LV:=D lv;obtain⟨i0,hi,hz0,hz1,hz2⟩:=aeZ;clear hh hw lh lv;go_enter Tryz.func10,Tryz.ntmps10;go_wp2_with fail;refine (xW _).mono ?_;rintro e1 w1 ⟨rfl,rfl⟩;go_wp2
 go_loopw [3,8] (fun lv i wr=>∃ k:Nat,k<=7/\i=aN X k/\wr.ownsRow (w.heap.size+2) 97 4 lv (tT has vals k).length (mM (tT has vals k)) /\
  Below (w.heap.size+2) ((w.alloc (aC #[hv,vv] 27)).alloc (aC oJ 9)) wr) (fun _ i _=>7-(intOf i).toNat)
 case atStart=>exact⟨0,by omega,rfl,World.ownsRow_nil _ _ _ _,aj _ _⟩
 case round =>
  obtain⟨k,hk,rfl,hown,hb⟩:=hrel;have HO:=D hown;have HB:=D hb;have T0:Below w.heap.size w ((w.alloc (aC #[hv,vv] 27)).alloc (aC oJ 9)):=((aj _ _).alloc (V _) _).alloc (by simp) _;have BW:=D (T0.trans (hb.mono (by omega)));have hsz:w.heap.size+2<=wr.heap.size:=by have:=hb.size; simp at this; omega
  clear T0;obtain⟨ro,ahX,hrl⟩:=(zm.Yx hown).len;have hl5:=Na has vals k;by_cases h7:k<7
  ·have n0:wr.cell? ⟨w.heap.size+1,k,aB⟩=Y (Q (nm k)):=by
    rw [hb.cell (p:=⟨w.heap.size+1,k,aB⟩) (by simp),O _ _ _ _ (by simp)]; exact Tf k h7
   have b0:wr.cell? ⟨w.heap.size,0,aB⟩=Y hv:=by
    rw [hb.cell (p:=⟨w.heap.size,0,aB⟩) (by simp),ah _ _ _ (by simp),O _ _ _ _ rfl]; rfl
   have b1:wr.cell? ⟨w.heap.size,1,aB⟩=Y vv:=by
    rw [hb.cell (p:=⟨w.heap.size,1,aB⟩) (by simp),ah _ _ _ (by simp),O _ _ _ _ rfl]; rfl
   have IH:=D (HH.out.on BW.out);obtain⟨ao,ahY,hsh⟩:=HH.out.shape;clear hb hown;subst hsh;subst hrl;have hkk:(k:Int)<7:=by omega
   by_cases h1:k<has.length
   ·obtain⟨y,hy⟩:∃ y,has[k]?=Y y:=⟨_,L h1⟩;have hg:has.getD k 0=y:=by rw [U,hy]; rfl
    obtain⟨_,p,_,hix,hpc⟩:=IH.out.at_ k y hy;cases ho:odd y
    ·have T:=D (show tT has vals (k+1)=tT has vals k by simp only [tT]; rw [if_neg]; rintro⟨_,h2,_⟩; rw [hg,ho] at h2; cases h2);have hodd:(bits aM X y 1 == 1)=aS:=ho;clear ho hy hg;go_wp2
     go_roundw
     case rel=>exact⟨k+1,by omega,by go_num,by rw [T.out]; exact HO.out,HB.out⟩
     case measure=>simp [intOf]; omega
    ·have hodd:(bits aM X y 1 == 1)=aR:=ho;by_cases h5:(tT has vals k).length<5
     ·have T:=D (show tT has vals (k+1)=tT has vals k++[(nm k,valOf (kP vals k))] by simp only [tT]; rw [if_pos ⟨h1,by rw [hg,ho],h5⟩]);have PK:=D (fun (W:ak) (hW:Below w.heap.size w W)=>zV vv vals k W (HW.out.on hW) LV.out (by omega));have bd:=zW HW.out k;have KV:=D (fun W=>Kj (kP vals k) W bd.1 bd.2);clear ho hy hg bd;go_wp2_with fail;refine (PK.out _ BW.out).mono ?_;rintro e1 w1 ⟨rfl,rfl⟩;go_wp2_with fail;refine (KV.out _).mono ?_;rintro e2 w2 ⟨rfl,hb2⟩;have B2:=D hb2;have O2:=D (dG HO.out hb2);have hs2:=hb2.size;clear hb2;unfold valOf at T;generalize (!(evn (kP vals k)))=t at T ⊢;generalize Yg (kP vals k)=n at T ⊢;generalize R7 (kP vals k)=s at T ⊢;go_wp2_with (first | (at_builtin; refine wpList_append_own _ rfl _ _ 39 rfl (w.heap.size+2) 97 i0 _ 4 48 aO hi hz0 hz1 hz2 rfl (by decide) _ _ _ rfl (O2.out.alloc _) ⟨w2.heap.size,0,aB⟩ 1 1 (zX (nm k,t,n,s)) rfl rfl (P5 _ _ _ _ _ _) (Dm [(nm k,t,n,s)]) (by unfold aL; omega) (by omega) (by simp; omega) ?_) | fail);intro v1 w3 hown3 hgrow3 _;have O3:=D hown3;have hbel:Below (w.heap.size+2) wr w3:=((B2.out.mono hsz).alloc (by omega) _).grown hgrow3 (by simp; omega) (fun j hj=>(O2.out.lt j hj).1);have B3:=D (HB.out.trans hbel);clear hown3 hgrow3 hbel;go_wp2
      go_roundw
      case rel=>exact⟨k+1,by omega,by go_num,by
       rw [T.out,wE];simpa [mM,zX] using O3.out,B3.out⟩
      case measure=>simp [intOf]; omega
     ·have T:=D (show tT has vals (k+1)=tT has vals k by simp only [tT]; rw [if_neg]; rintro⟨_,_,h2⟩; exact h5 h2);clear ho hy hg;go_wp2
      go_roundw
      case rel=>exact⟨k+1,by omega,by go_num,by rw [T.out]; exact HO.out,HB.out⟩
      case measure=>simp [intOf]; omega
   ·have T:=D (show tT has vals (k+1)=tT has vals k by simp only [tT]; rw [if_neg]; rintro⟨h2,_⟩; exact h1 h2);go_wp2
    go_roundw
    case rel=>exact⟨k+1,by omega,by go_num,by rw [T.out]; exact HO.out,HB.out⟩
    case measure=>simp [intOf]; omega
  ·obtain rfl:k=7:=by omega
   clear hb hown;go_wp2;go_ret;exact⟨_,rfl,nP (by omega) HO.out,BW.out⟩
end At
namespace At
open Go.RowKit Go.Sort Va In
theorem P7 {W:ak} {lv:au} {l:List A4} {ao:Option bF} {n c k:Nat} {x:A4} (h:zm W lv l) (hv:lv=aX ao n c) (hn:l.length=n) (hk:l[k]?=Y x) :
  ∃ p:bF,(∀ w,(Instr.indexAt 39 (aX ao n c) (aN X k)).run Z w=.ok (.pointer (Y p)) w)/\∀ w,Below W.heap.size W w ->
   w.cell? p=Y (Q x.1)/\w.cell? ⟨p.block,p.off+1,aB⟩=Y (bg x.2.1)/\w.cell? ⟨p.block,p.off+2,aB⟩=Y (aN X x.2.2.1)/\w.cell? ⟨p.block,p.off+3,aB⟩=Y (Q x.2.2.2):=by
 have hlt:=(List.getElem?_eq_some_iff.1 hk).1;rcases h with⟨rfl,_⟩|⟨a,cap,h1,h2,h3,h4⟩
 ·simp at hk
 ·rw [hv] at h1;obtain⟨rfl,rfl,rfl⟩:ao=Y a/\n=l.length/\c=cap:=by simpa using h1
  refine⟨a.add (k * 4),fun w=>Ky a k _ _ hlt w,fun w hb=>?_⟩;have hf:=Ia l k x hk;have e1:∀ j,j≠0->(⟨(a.add (k * 4)).block,(a.add (k * 4)).off+j,aB⟩:bF)=a.add (k * 4+j):=fun j hj=>by
   have h5:∀ b:bF,b.add j=⟨b.block,b.off+j,aB⟩:=fun b=>by unfold Addr.add; rw [if_neg hj]
   rw [<- add_add,h5]
  have g:∀ j u,(mM l)[j]?=Y u->w.cell? (a.add j)=Y u:=fun j u hj=>by
   have hc:=h4 j u hj;rw [hb.cell (World.block_lt_of_cell? W _ hc)]; exact hc
  rw [e1 1 (by decide),e1 2 (by decide),e1 3 (by decide)];exact⟨g _ _ hf.1,g _ _ hf.2.1,g _ _ hf.2.2.1,g _ _ hf.2.2.2⟩
def acU (c:UInt8):Bool:=decide (97<=c.toNat) && decide (c.toNat<=122)
def Hw (s:ByteArray):Bool:=s.data.toList.all acU && (decide (1<=s.size) && decide (s.size<=12))
end At
namespace Rl
open Go.RowKit Pu Pr
def jK:List Cn->List Cn->Option (List Cn)
 | m,[]=>Y m
 | m,c::r=>match sH m c with
  | none=>aB
  | some n=>jK n r
theorem Dn:∀ (r m p:List Cn),oz m->jK m r=Y p->m.length<=p.length/\oz p
 | [],m,p,hm,h=>by
  obtain rfl:=ay h;exact⟨V _,hm⟩
 | c::r,m,p,hm,h=>by
  simp only [jK] at h;cases hi:sH m c with
  | none=>rw [hi] at h; cases h
  | some n =>
   rw [hi] at h;have e1:=zR m c n hm hi;obtain⟨e2,e3⟩:=Dn r n p (kL m c n hm hi).1 h;exact⟨by omega,e3⟩
theorem zA:∀ (r m p:List Cn) (at_:Nat),oz m->m.length<=5->(zO at_ m r=.ok p↔jK m r=Y p/\p.length<=5)
 | [],m,p,at_,_,h5=>by
  simp only [zO,jK];constructor
  ·intro h;injection h with h
   subst h;exact⟨rfl,h5⟩
  ·rintro⟨h,_⟩;rw [ay h]
 | c::r,m,p,at_,hm,h5=>by
  simp only [zO,jK];cases hi:sH m c with
  | none =>
   constructor
   ·intro h; cases h
   ·rintro⟨h,_⟩; cases h
  | some n =>
   simp only;have hn:=(kL m c n hm hi).1;by_cases h6:5<n.length
   ·rw [if_pos h6];constructor
    ·intro h; cases h
    ·rintro⟨h,h7⟩;have:=(Dn r n p hn h).1;omega
   ·rw [if_neg h6];exact zA r n p (at_+1) hn (by omega)
theorem wI:∀ (a b m m':List Cn),jK m a=Y m'->jK m (a++b)=jK m' b
 | [],b,m,m',h=>by
  obtain rfl:=ay h
  rfl
 | c::r,b,m,m',h=>by
  simp only [List.cons_append,jK] at h ⊢;cases hi:sH m c with
  | none=>rw [hi] at h; cases h
  | some n =>
   rw [hi] at h;exact wI r b n m' h
theorem Dp:∀ (p m:List Cn),oz (m++p)->jK m p=Y (m++p)
 | [],m,_=>by simp [jK]
 | c::r,m,h=>by
  have h1:∀ x∈m,aH x.1.toList c.1.toList=aR:=fun x hx=>(aK.1 h).2.2 x hx c (List.mem_cons_self ..);simp only [jK];rw [MN m c h1];simp only;rw [Dp r (m++[c]) (by simpa using h)];simp
theorem Tp {a b:List Cn} (ha:oz a):jK [] (a++b)=jK a b:=wI a b [] a (by simpa using Dp a [] (by simpa using ha))
theorem Tq {a b:List Cn} (ha:oz a) (h5:a.length<=5):zQ a b=match jK a b with
  | some p=>decide (p.length<=5)
  | none=>aS:=by
 unfold zQ;cases h:jK a b with
 | none =>
  cases h2:zO a.length a b with
  | ok p =>
   have:=(zA b a p a.length ha h5).1 h2;rw [h] at this;cases this.1
  | error e=>rfl
 | some p =>
  by_cases h6:p.length<=5
  ·rw [(zA b a p a.length ha h5).2 ⟨h,h6⟩];simp [h6]
  ·cases h2:zO a.length a b with
   | ok q =>
    have h3:=(zA b a q a.length ha h5).1 h2;rw [h] at h3;obtain rfl:=ay h3.1;exact absurd h3.2 h6
   | error e=>simp [h6]
end Rl
namespace Pr
open Go.RowKit Go.Sort Pu Rw
end Pr
namespace Pr
open Go.RowKit Go.ChangeShapes Go.WideShapes In
theorem Tt:Tryz.prog.cellsOf 72=2:=by kernel_rfl
theorem zB:Tryz.prog.cellsOf 25=1:=by kernel_rfl
theorem Pj {H:Type} {enc:aZ×au->H} {W:ak} {r:Reach} {b0:Nat} {sp:Nat->Bool} {held:Bool} {v:au} {d:DataW H} {ps:List MemPlace}
  (hval:Value.okWide Z W r b0 72 v) (hd:DataW.Trod enc Z W 0 sp held 72 v d ps) :
  ∃ (hv vv:au) (has vals:List Int),v=bA #[hv,vv]/\has.length<=aL/\vals.length<=aL/\iC W hv has/\iC W vv vals:=by
 obtain⟨cs,rfl,hsz⟩:=okWide_struct aQ hval;obtain⟨fuel,hf⟩:=hd;obtain⟨xs,n,_,_,_,hxl,hx⟩:=DataW.trod_struct aQ hf;rw [Tt] at hsz;obtain⟨l⟩:=cs
 match l,hsz with
 | [c0,c1],_ =>
  have f0:DataW.trod enc Z W 0 sp held n 25 (([c0,c1].drop 0).take (Tryz.prog.cellsOf 25))=xs[0]?:=hx 0 _ rfl;have f1:DataW.trod enc Z W 0 sp held n 25 (([c0,c1].drop 1).take (Tryz.prog.cellsOf 25))=xs[1]?:=hx 1 _ rfl;have ac4:xs.length=2:=hxl;simp only [zB,List.drop_zero,List.drop_succ_cons,List.take_succ_cons,List.take_zero] at f0 f1;rw [L (by omega)] at f0 f1;obtain⟨has,h1,h2⟩:=uH f0;obtain⟨vals,h3,h4⟩:=uH f1;exact⟨c0,c1,has,vals,rfl,h1,h3,h2,h4⟩
end Pr
end Go.Proofs.YtkcfgbddlpomgaaGreat
