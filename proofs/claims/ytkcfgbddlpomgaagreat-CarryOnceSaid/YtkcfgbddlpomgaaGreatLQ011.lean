/-
  Lists that are the s. Conditions as told.
-/
import Derived.Test.YtkcfgbddlpomgaaGreatLQ009
import Derived.Test.YtkcfgbddlpomgaaGreatLQ010
import Derived.Deep.RegionWith
set_option maxRecDepth 100000
set_option maxHeartbeats 64000000
open _root_.Go renaming bodyPost_ret->aD,World->aG,Value->aP,maxLen->aQ,Calls->aS
open Go.Builtin renaming copy_->aA,append_->aN
open Go.Ending renaming returned->aB
open Go.Instr renaming sliceAt->X
open Go.IntKind renaming i64->Z,wrap_i64->aM
open Go.Lib renaming hid->L
open Go.Obj renaming cells->aj
open Go.Proofs.Tryz renaming prog->J,results52->ay,ntmps52->aC,func52->aH,ntmps101->aJ,func101->aL
open Go.Proofs.YtkcfgbddlpomgaaGreat.Wi renaming within->V,iO->aO,gW->aT
open Go.RowKit.Below renaming refl->ah
open Go.Value renaming slice->D,int->ak,string->aK
open Go.World renaming cell?_alloc_at->au,cell?_alloc_lt->aI
open _root_.List renaming mem_append->aF
open _root_.Nat renaming le_refl->Y,lt_or_ge->aR
open _root_.Option renaming none->O,some->U
namespace Go.Proofs.YtkcfgbddlpomgaaGreat
namespace Bk
open Go.RowKit Go.Sort Rw YtkcfgbddlpomgaaGreat.Nm Pr
def eqI (x y:Id):Bool:=x.1 == y.1 && x.2 == y.2
theorem xS (x y:Id):eqI x y=true↔x=y:=by
 obtain⟨a,b⟩:=x;obtain⟨c,d⟩:=y;simp [eqI]
theorem xU {α β:Type} {R:α->β->Prop}:∀ {l m} (_:eu R l m) (k:Nat) (a:α),l[k]?=U a->∃ b,m[k]?=U b/\R a b
 | _,_,.nil,k,b,h=>by simp at h
 | _,_,.cons x t,0,b,h=>by
  simp at h;subst h;exact⟨_,rfl,x⟩
 | _,_,.cons x t,k+1,b,h=>by
  obtain⟨a,h1,h2⟩:=xU t k b (by simpa using h);exact⟨a,by simpa using h1,h2⟩
end Bk
namespace Pr
open Go.RowKit Pu Rw Va Kp
def lo9 (n:Int):Int:=V (n.tdiv 4) 0 9
def tx6 (n:Int):ByteArray:=oD (V (n.tdiv 4) 0 6)
def rG (n:Int):Kd:=if V n 0 3=0\/V n 0 3=1 then .rg (lo9 n) (lo9 n+V (n.tdiv 40) 0 9) else if V n 0 3=2 then .tx (tx6 n) else .pr (tx6 n)
theorem Nr (n:Int):iW (rG n)=true:=by
 unfold rG;have hw:=aO (n.tdiv 40) 0 9 (by omega);have ht:(tx6 n).size<=3:=yt _
 split
 ·simp only [iW,decide_eq_true_eq]; omega
 ·split
  ·simp only [iW,decide_eq_true_eq]; omega
  ·simp only [iW,decide_eq_true_eq]; omega
theorem Kl (n k:Int) (hk:1<=k) (h1:-9223372036854775808<=n) (h2:n<=9223372036854775807):-9223372036854775808<=n.tdiv k/\n.tdiv k<=9223372036854775807:=by
 rcases Int.le_total 0 n with h|h
 ·rw [Int.tdiv_eq_ediv_of_nonneg h];have a:=Int.ediv_nonneg h (show 0<=k by omega);have b:=Int.ediv_le_self k h;omega
 ·have e:n.tdiv k=-((-n) / k):=by rw [<- Int.tdiv_eq_ediv_of_nonneg (by omega),Int.neg_tdiv,Int.neg_neg]
  have a:=Int.ediv_nonneg (show 0<=-n by omega) (show 0<=k by omega);have b:=Int.ediv_le_self k (show 0<=-n by omega);omega
theorem yJ (nm_:ByteArray) (n:Int) (w:aG) (h1:-9223372036854775808<=n) (h2:n<=9223372036854775807) :
  aS J 52 #[aK nm_,ak Z n] w fun e w'=>e=aB (cv (r5 (nm_,rG n)))/\Below w.heap.size w w':=by
 have b4:=Kl n 4 (by decide) h1 h2;have b40:=Kl n 40 (by decide) h1 h2;have q4:IntKind.i64.wrap (n.tdiv 4)=n.tdiv 4:=IntWalk.i64_in _ b4;have q40:IntKind.i64.wrap (n.tdiv 40)=n.tdiv 40:=IntWalk.i64_in _ b40;have W3:=L (fun wx=>aT n 0 3 wx (by omega) (by omega) (by omega) h1 h2);have W9:=L (fun wx=>aT (n.tdiv 4) 0 9 wx (by omega) (by omega) (by omega) b4.1 b4.2);have W6:=L (fun wx=>aT (n.tdiv 4) 0 6 wx (by omega) (by omega) (by omega) b4.1 b4.2);have V9:=L (fun wx=>aT (n.tdiv 40) 0 9 wx (by omega) (by omega) (by omega) b40.1 b40.2);have d3:=aO n 0 3 (by omega);have d9:=aO (n.tdiv 4) 0 9 (by omega);have d6:=aO (n.tdiv 4) 0 6 (by omega);have e9:=aO (n.tdiv 40) 0 9 (by omega);have KD:rG n=if V n 0 3=0\/V n 0 3=1 then .rg (V (n.tdiv 4) 0 9) (V (n.tdiv 4) 0 9+V (n.tdiv 40) 0 9) else if V n 0 3=2 then .tx (oD (V (n.tdiv 4) 0 6)) else .pr (oD (V (n.tdiv 4) 0 6)):=rfl
 have TX:=L (J8 (V (n.tdiv 4) 0 6) d6.1 d6.2);generalize V n 0 3=r at *;generalize V (n.tdiv 4) 0 9=p at *;generalize V (n.tdiv 4) 0 6=q at *;generalize V (n.tdiv 40) 0 9=s at *;have hs:IntKind.i64.wrap (p+s)=p+s:=IntWalk.i64_in _ (by omega);have hr:r=0\/r=1\/r=2\/r=3:=by omega
 have D6:=L d6;clear b4 b40 h1 h2 d3 d9 e9 d6;rcases hr with rfl|rfl|rfl|rfl
 ·have K:=L (show rG n=.rg p (p+s) by rw [KD]; rfl);clear KD;go_enter aH,aC;go_wp2_with fail;refine (W3.out _).mono ?_;rintro e1 w1 ⟨rfl,rfl⟩;go_wp2_with fail;refine (W9.out _).mono ?_;rintro e2 w2 ⟨rfl,rfl⟩;go_wp2_with fail
  go_region_with (go_at_call 9; refine (V9.out _).mono ?_; rintro e w' ⟨rfl,rfl⟩)
  all_goals go_wp2_with fail
  all_goals exact aD (v:=cv (r5 (nm_,.rg p (p+s)))) (by simp [results,ay,go_sem,r5,kN,jh,ji,kT]) rfl ⟨by rw [K.out],(((ah _ _).alloc (Y _) _).alloc (by simp) _).drew⟩
 ·have K:=L (show rG n=.rg p (p+s) by rw [KD]; rfl);clear KD;go_enter aH,aC;go_wp2_with fail;refine (W3.out _).mono ?_;rintro e1 w1 ⟨rfl,rfl⟩;go_wp2_with fail;refine (W9.out _).mono ?_;rintro e2 w2 ⟨rfl,rfl⟩;go_wp2_with fail
  go_region_with (go_at_call 9; refine (V9.out _).mono ?_; rintro e w' ⟨rfl,rfl⟩)
  all_goals go_wp2_with fail
  all_goals exact aD (v:=cv (r5 (nm_,.rg p (p+s)))) (by simp [results,ay,go_sem,r5,kN,jh,ji,kT]) rfl ⟨by rw [K.out],(((ah _ _).alloc (Y _) _).alloc (by simp) _).drew⟩
 ·have K:=L (show rG n=.tx (oD q) by rw [KD]; rfl);have tx:=TX.out;have d6:=D6.out;have d61:=d6.1;have d62:q<7:=by omega
  clear KD d6;go_enter aH,aC;go_wp2_with fail;refine (W3.out _).mono ?_;rintro e1 w1 ⟨rfl,rfl⟩;go_wp2_with fail
  go_region_with (first | (go_at_call 9; refine (W6.out _).mono ?_; rintro e w' ⟨rfl,rfl⟩) | (go_at_call 65; refine (vL _).mono ?_; rintro e w' ⟨rfl,rfl⟩))
  all_goals go_wp2_with fail
  all_goals exact aD (v:=cv (r5 (nm_,.tx (oD q)))) (by simp [results,ay,go_sem,r5,kN,jh,ji,kT]) rfl ⟨by rw [K.out],((((ah _ _).alloc (Y _) _).alloc (by simp) _).alloc (by simp; omega) _).drew⟩
 ·have K:=L (show rG n=.pr (oD q) by rw [KD]; rfl);have tx:=TX.out;have d6:=D6.out;have d61:=d6.1;have d62:q<7:=by omega
  clear KD d6;go_enter aH,aC;go_wp2_with fail;refine (W3.out _).mono ?_;rintro e1 w1 ⟨rfl,rfl⟩;go_wp2_with fail
  go_region_with (first | (go_at_call 9; refine (W6.out _).mono ?_; rintro e w' ⟨rfl,rfl⟩) | (go_at_call 65; refine (vL _).mono ?_; rintro e w' ⟨rfl,rfl⟩))
  all_goals go_wp2_with fail
  all_goals exact aD (v:=cv (r5 (nm_,.pr (oD q)))) (by simp [results,ay,go_sem,r5,kN,jh,ji,kT]) rfl ⟨by rw [K.out],((((ah _ _).alloc (Y _) _).alloc (by simp) _).alloc (by simp; omega) _).drew⟩
end Pr
namespace Pr
open Go.RowKit Pu Rw Va Kp In
def pE (has vals:List Int):Nat->List Cn
 | 0=>[]
 | i+1=>if i<has.length/\odd (has.getD i 0)=true/\(pE has vals i).length<5 then pE has vals i++[(nm i,rG (jU vals i))] else pE has vals i
theorem Km (has vals:List Int):∀ k,(pE has vals k).length<=k
 | 0=>Y _
 | k+1=>by
  have h:=Km has vals k;simp only [pE]
  split
  ·simp; omega
  ·omega
theorem Fu (has vals:List Int):∀ k,(pE has vals k).length<=5
 | 0=>by simp [pE]
 | k+1=>by
  have h:=Fu has vals k;simp only [pE]
  split
  ·rename_i hc; simp; omega
  ·exact h
theorem sD (has vals:List Int):∀ k,∀ x∈pE has vals k,∃ i,i<k/\x.1=nm i
 | 0,x,h=>by simp [pE] at h
 | k+1,x,h=>by
  simp only [pE] at h
  split at h
  ·rcases aF.1 h with h|h
   ·obtain⟨i,h1,h2⟩:=sD has vals k x h;exact⟨i,by omega,h2⟩
   ·simp at h;exact⟨k,by omega,by rw [h]⟩
  ·obtain⟨i,h1,h2⟩:=sD has vals k x h;exact⟨i,by omega,h2⟩
theorem yK (has vals:List Int):∀ k,∀ x∈pE has vals k,iW x.2=true
 | 0,x,h=>by simp [pE] at h
 | k+1,x,h=>by
  simp only [pE] at h
  split at h
  ·rcases aF.1 h with h|h
   ·exact yK has vals k x h
   ·simp at h;rw [h]; exact Nr _
  ·exact yK has vals k x h
theorem Dy (i j:Nat) (h:i<j) (hj:j<7):Op.bytesLess (nm i).toList (nm j).toList=true:=by
 rw [ByteArray.toList_eq,ByteArray.toList_eq];have:∀ j:Fin 7,∀ i:Fin 7,i.val<j.val->Op.bytesLess (nm i.val).data.toList (nm j.val).data.toList=true:=by decide
 exact this ⟨j,hj⟩ ⟨i,by omega⟩ h
theorem Fv (has vals:List Int):∀ k,k<=7->mX (pE has vals k)
 | 0,_=>by simp [pE,mX]
 | k+1,hk=>by
  have h:=Fv has vals k (by omega);simp only [pE]
  split
  ·refine List.pairwise_append.2 ⟨h,List.pairwise_singleton _ _,fun x hx y hy=>?_⟩;obtain⟨i,h1,h2⟩:=sD has vals k x hx;simp at hy;rw [hy,h2];exact Dy i k h1 (by omega)
  ·exact h
theorem uG (w:aG) (c:C5):fK (w.alloc (aj #[aK c.1,ak Z c.2.1,ak Z c.2.2.1,ak Z c.2.2.2.1,aK c.2.2.2.2] 106)) (D (U ⟨w.heap.size,0,O⟩) 1 1) [c] :=
 Row.dw (gZ Ba w [c] 1 rfl (by simp) _ rfl)
theorem Qs (hv vv:aP) (has vals:List Int) (w:aG) (hh:jl w hv has) (hw:jl w vv vals) (lh:has.length<=aQ) (lv:vals.length<=aQ) :
  aS J 23 #[.agg #[hv,vv]] w fun e w'=>∃ v,e=aB v/\jO w' w.heap.size v ((pE has vals 7).map r5)/\Below w.heap.size w w':=by
 have HH:=L hh;have HW:=L hw;have LH:=L lh;have LV:=L lv;clear hh hw lh lv;go_enter Tryz.func23,Tryz.ntmps23;go_wp2_with fail;refine (vS _).mono ?_;rintro e1 w1 ⟨rfl,rfl⟩;go_wp2
 go_loopw [3,8] (fun lv i wr=>∃ k:Nat,k<=7/\i=ak Z k/\jO wr (w.heap.size+2) lv ((pE has vals k).map r5) /\
  Below (w.heap.size+2) ((w.alloc (aj #[hv,vv] 72)).alloc (aj nu 9)) wr) (fun _ i _=>7-(intOf i).toNat)
 case atStart=>exact⟨0,by omega,rfl,gy _ _,ah _ _⟩
 case round =>
  obtain⟨k,hk,rfl,hown,hb⟩:=hrel;have HO:=L hown;have HB:=L hb;have T0:Below w.heap.size w ((w.alloc (aj #[hv,vv] 72)).alloc (aj nu 9)):=((ah _ _).alloc (Y _) _).alloc (by simp) _;have BW:=L (T0.trans (hb.mono (by omega)));have hsz:w.heap.size+2<=wr.heap.size:=by have:=hb.size; simp at this; omega
  clear T0;obtain⟨ro,aeX,hrl⟩:=(Row.dw hown).len;rw [List.length_map] at hrl;have hl5:=Km has vals k;by_cases h7:k<7
  ·have n0:wr.cell? ⟨w.heap.size+1,k,O⟩=U (aK (nm k)):=by
    rw [hb.cell (p:=⟨w.heap.size+1,k,O⟩) (by simp),au _ _ _ _ (by simp)]; exact Qm k h7
   have b0:wr.cell? ⟨w.heap.size,0,O⟩=U hv:=by
    rw [hb.cell (p:=⟨w.heap.size,0,O⟩) (by simp),aI _ _ _ (by simp),au _ _ _ _ rfl]; rfl
   have b1:wr.cell? ⟨w.heap.size,1,O⟩=U vv:=by
    rw [hb.cell (p:=⟨w.heap.size,1,O⟩) (by simp),aI _ _ _ (by simp),au _ _ _ _ rfl]; rfl
   have IH:=L (HH.out.on BW.out);obtain⟨ao,aeY,hsh⟩:=HH.out.shape;clear hb hown;subst hsh;subst hrl;have hkk:(k:Int)<7:=by omega
   by_cases h1:k<has.length
   ·obtain⟨y,hy⟩:∃ y,has[k]?=U y:=⟨_,List.getElem?_eq_getElem h1⟩;have hg:has.getD k 0=y:=by rw [List.getD_eq_getElem?_getD,hy]; rfl
    obtain⟨_,p,_,hix,hpc⟩:=IH.out.at_ k y hy;cases ho:odd y
    ·have T:=L (show pE has vals (k+1)=pE has vals k by simp only [pE]; rw [if_neg]; rintro⟨_,h2,_⟩; rw [hg,ho] at h2; cases h2);have hodd:(bits BinOp.and Z y 1 == 1)=false:=ho;clear ho hy hg;go_wp2
     go_roundw
     case rel=>exact⟨k+1,by omega,by go_num,by rw [T.out]; exact HO.out,HB.out⟩
     case measure=>simp [intOf]; omega
    ·have hodd:(bits BinOp.and Z y 1 == 1)=true:=ho;by_cases h5:(pE has vals k).length<5
     ·have T:=L (show (pE has vals (k+1)).map r5=(pE has vals k).map r5++[r5 (nm k,rG (jU vals k))] by simp only [pE]; rw [if_pos ⟨h1,by rw [hg,ho],h5⟩,List.map_append]; rfl);have PK:=L (fun (W:aG) (hW:Below w.heap.size w W)=>yG vv vals k W (HW.out.on hW) LV.out (by omega));have bd:=yH HW.out k;have KV:=L (fun W=>yJ (nm k) (jU vals k) W bd.1 bd.2);clear ho hy hg bd;go_wp2_with fail;refine (PK.out _ BW.out).mono ?_;rintro e1 w1 ⟨rfl,rfl⟩;go_wp2_with fail;refine (KV.out _).mono ?_;rintro e2 w2 ⟨rfl,hb2⟩;have B2:=L hb2;have O2:=L (dx HO.out hb2);have hs2:=hb2.size;clear hb2;generalize r5 (nm k,rG (jU vals k))=c at T ⊢;have O3a:=L (O2.out.alloc (aj #[aK c.1,ak Z c.2.1,ak Z c.2.2.1,ak Z c.2.2.2.1,aK c.2.2.2.2] 106));obtain⟨v3,w3,r3,o3,g3⟩:=fT Ba (w.heap.size+2) O3a.out (uG w2 c) (by simp; omega) (by simp) (by simp; omega) 41;have O3:=L o3;have hbel:Below (w.heap.size+2) wr w3:=((B2.out.mono hsz).alloc (by omega) _).grown g3 (by simp; omega) (fun j hj=>(O3a.out.lt j hj).1);have B3:=L (HB.out.trans hbel);clear o3 g3 hbel;go_wp2_with (first | (at_builtin; refine wpList_append_run rfl _ _ 41 rfl rfl rfl r3 ?_) | fail);clear r3;go_wp2
      go_roundw
      case rel=>exact⟨k+1,by omega,by go_num,by rw [T.out]; exact O3.out,B3.out⟩
      case measure=>simp [intOf]; omega
     ·have T:=L (show pE has vals (k+1)=pE has vals k by simp only [pE]; rw [if_neg]; rintro⟨_,_,h2⟩; exact h5 h2);clear ho hy hg;go_wp2
      go_roundw
      case rel=>exact⟨k+1,by omega,by go_num,by rw [T.out]; exact HO.out,HB.out⟩
      case measure=>simp [intOf]; omega
   ·have T:=L (show pE has vals (k+1)=pE has vals k by simp only [pE]; rw [if_neg]; rintro⟨h2,_⟩; exact h1 h2);go_wp2
    go_roundw
    case rel=>exact⟨k+1,by omega,by go_num,by rw [T.out]; exact HO.out,HB.out⟩
    case measure=>simp [intOf]; omega
  ·obtain rfl:k=7:=by omega
   clear hb hown;go_wp2;go_ret;exact⟨_,rfl,mH (by omega) HO.out,BW.out⟩
def Jl (c:Cn):Prop:=c.1.size<=100/\(kT c.2).size<=100/\(-9223372036854775808<=jh c.2/\jh c.2<=9223372036854775807)/\(-9223372036854775808<=ji c.2/\ji c.2<=9223372036854775807)
structure NF (l:List Cn):Prop where
 rise:mX l
 five:l.length<=5
 good:∀ c∈l,A8 c=true
 small:∀ c∈l,Jl c
theorem NF.iW {l:List Cn} (h:NF l):∀ c∈l,Pr.iW c.2=true:=fun c hc=>by
 have:=h.good c hc;simp only [A8,Bool.and_eq_true] at this;exact this.2
theorem Qt (i:Nat) (h:i<7):Fb (nm i)=true:=by
 match i,h with
 | 0,_=>decide
 | 1,_=>decide
 | 2,_=>decide
 | 3,_=>decide
 | 4,_=>decide
 | 5,_=>decide
 | 6,_=>decide
theorem Dz (i:Nat):(nm i).size=1:=rfl
theorem Qu (n:Int):(kT (rG n)).size<=100/\(-9223372036854775808<=jh (rG n)/\jh (rG n)<=9223372036854775807)/\(-9223372036854775808<=ji (rG n)/\ji (rG n)<=9223372036854775807):=by
 have h1:=aO (n.tdiv 4) 0 9 (by omega);have h2:=aO (n.tdiv 40) 0 9 (by omega);have ht:(tx6 n).size<=3:=yt _;unfold rG lo9
 split
 ·refine⟨by show (0:Nat)<=100; omega,?_,?_⟩ <;> simp only [jh,ji] <;> omega
 ·split
  ·refine⟨by show (tx6 n).size<=100; omega,?_,?_⟩ <;> simp only [jh,ji] <;> omega
  ·refine⟨by show (tx6 n).size<=100; omega,?_,?_⟩ <;> simp only [jh,ji] <;> omega
theorem vT (has vals:List Int):∀ k,∀ x∈pE has vals k,Jl x
 | 0,x,h=>by simp [pE] at h
 | k+1,x,h=>by
  simp only [pE] at h
  split at h
  ·rcases aF.1 h with h|h
   ·exact vT has vals k x h
   ·simp at h;rw [h];exact⟨by show (nm k).size<=100; rw [Dz]; omega,Qu _⟩
  ·exact vT has vals k x h
theorem Qv (has vals:List Int):NF (pE has vals 7) :=
 ⟨Fv has vals 7 (Y _),Fu has vals 7,fun c hc=>by
  obtain⟨i,h1,h2⟩:=sD has vals 7 c hc;simp only [A8,Bool.and_eq_true];exact⟨by rw [h2]; exact Qt i h1,yK has vals 7 c hc⟩,vT has vals 7⟩
theorem aav {a b:Cn} (h:r5 a=r5 b):a=b:=by
 obtain⟨n,a⟩:=a;obtain⟨m,b⟩:=b;simp only [r5,Prod.mk.injEq] at h;obtain⟨rfl,h1,h2,h3,h4⟩:=h;cases a <;> cases b <;> simp [kN,jh,ji,kT] at h1 h2 h3 h4 <;> simp [*]
end Pr
namespace Av
open Go.RowKit Rw YtkcfgbddlpomgaaGreat.Nm Pr Bk
theorem Qw {W:aG} {b:Nat} {c:eG} (h:dI W b (jk c).toArray 38):vM W (D (U ⟨b,0,O⟩) 1 1) [c] :=
 Or.inr ⟨⟨b,0,O⟩,1,rfl,by simp,by decide,uz h (by simp [EJ])⟩
def yL (B:Nat) (l:List eG) (k:Nat) (c:eG) (vv:aP) (W:aG) (e:Ending) (w':aG):Prop:=∃ v',e=aB v'/\qY w' B v' (l.take k++c::l.drop k)/\Below B W w'/\(∀ j,j<W.heap.size->U j≠vv.ownBlock->w'.heap[j]?=W.heap[j]?)
theorem Fw (B:Nat) (v:aP) (l:List eG) (c:eG) (b:Nat) (W:aG) (ho:qY W B v l) (hx:dI W b (jk c).toArray 38) (hl:l.length<=900) (hB:B<=W.heap.size) :
  aS J 101 #[v,ak Z (l.length:Nat),D (U ⟨b,0,O⟩) 1 1] W (yL B l l.length c v W):=by
 obtain⟨v',w',hr,ho2,hg⟩:=fT Ah B ho (Qw hx) (by omega) (by simp) hB 29;have hr:(aN #[29,29] 29 #[v,D (U ⟨b,0,O⟩) 1 1]).run J W=.ok v' w':=hr;have Q:=L (show yL B l l.length c v W (aB v') w' from ⟨v',rfl,by rw [List.take_of_length_le (Y _),List.drop_of_length_le (Y _)]; exact ho2,(ah B W).grown hg hB (fun j hj=>(ho.lt j hj).1),fun j hj hne=>hg.block j hj hne⟩);obtain⟨sx,hs,_⟩:=oU Ah (Row.dw ho) l.length (Y _);have hs:∀ w,(X 29 v (U (ak Z l.length)) O O).run J w=.ok sx w:=hs;obtain⟨ao,ac,rfl⟩:=(Row.dw ho).len;clear ho ho2 hg;generalize hn:l.length=n at *;clear hn;go_enter aL,aJ;go_wp2_with (first | (at_builtin; refine wpList_append_run rfl _ _ 29 rfl rfl rfl hr ?_) | fail);go_ret;exact Q.out
theorem Qx (w:aG) (g b k la lb cb:Nat) (cur cs:Array aP) (hb:dI w b cs 38) (hg:dI w g cur 38) (hne:b≠g) (h0:0<cur.size):(callFunc 114 #[D (U ⟨b,0,O⟩) la 1,D (U ⟨g,k,O⟩) lb cb]).run J w=.ok (.value (.bool false)) w:=by
 rw [run_callFunc_extern Tryz.func114 (by kernel_rfl) (by kernel_rfl) (by kernel_rfl) (e:=Extern.SlicesOverlaps.overlaps #[29,29] #[4]) (by kernel_rfl),
  Lib.run_overlaps_apart w 29 4 38 Tryz.underlying29 2 Tryz.sizeOf38 ⟨b,0,O⟩ ⟨g,k,O⟩ la 1 lb cb hne 38 38 cs.size cur.size hb.shape hg.shape (by omega) (hb.fr 0) (hb.fr _)]
 rfl
theorem Ay (B g n cap:Nat) (cur:Array aP) (l:List eG) (k:Nat) (c:eG) (b:Nat) (W:aG) (hn:n=l.length) (hBg:B<=g) (hg:dI W g cur 38) (hcm:cap<=aQ) (hsz:cur.size=cap * 2) (ht:cur.toList.take (n * 2)=flat EJ l) (hx:dI W b (jk c).toArray 38) (hne:b≠g) (hk:k<n) (hroom:n+1<=cap) (hl:n<=900) :
  aS J 101 #[D (U ⟨g,0,O⟩) n cap,ak Z k,D (U ⟨b,0,O⟩) 1 1] W (yL B l k c (D (U ⟨g,0,O⟩) n cap) W):=by
 obtain⟨R1,R2,r1,r2,ow⟩:=vK (E:=EJ) (l:=l) (k:=k) (cap:=cap) (cur:=cur) (cs:=(jk c).toArray) (c:=c) Ah (by omega) (by omega) hsz (by rw [<- hn]; exact ht) g b hne;have hov:=fun lb cb=>Qx W g b ((k+1) * 2) 1 lb cb cur (jk c).toArray hx hg hne (by omega);have s0:=jd (E:=EJ) Ah g k n cap (by omega) (by omega);have s1:=nL (E:=EJ) Ah ⟨g,0,O⟩ (n+1) n cap (by omega);have s2:=jd (E:=EJ) Ah g (k+1) (n+1) cap (by omega) (by omega);have s3:=jd (E:=EJ) Ah g k (n+1) cap (by omega) (by omega);have q1:=r1 W.drew 3 (n+1-(k+1)) (cap-(k+1)) (n+1-k) (cap-k) hg (by omega);have q2:=r2 (W.drew.setRow g R1) 3 (n+1-k) (cap-k) (dI.set (show dI W.drew g cur 38 from hg) R1) (dI.other (show dI W.drew b _ 38 from hx) hne R1) rfl (by omega);have Q:=L (show yL B l k c (D (U ⟨g,0,O⟩) n cap) W (aB (D (U ⟨g,0,O⟩) (n+1) cap)) ((W.drew.setRow g R1).setRow g R2) from ⟨_,rfl,by rw [hn]; exact ow _ B hBg hcm (dI.set (dI.set (show dI W.drew g cur 38 from hg) R1) R2),below_setRow (below_setRow (ah B W).drew hBg _) hBg _,fun j hj hne=>(setRow_other _ g j _ (fun e=>hne (by rw [e]; rfl))).trans (setRow_other _ g j _ (fun e=>hne (by rw [e]; rfl)))⟩);clear r1 r2 ow hg ht hx hsz hBg hcm;change ∀ w,(X 29 (D (U ⟨g,0,O⟩) n cap) (U (ak Z k)) O O).run J w=.ok (D (U ⟨g,k * 2,O⟩) (n-k) (cap-k)) w at s0;change ∀ w,(X 29 (D (U ⟨g,0,O⟩) n cap) O (U (ak Z ((n:Int)+1))) O).run J w=.ok (D (U ⟨g,0,O⟩) (n+1) cap) w at s1;change ∀ w,(X 29 (D (U ⟨g,0,O⟩) (n+1) cap) (U (ak Z ((k:Int)+1))) O O).run J w=.ok (D (U ⟨g,(k+1) * 2,O⟩) (n+1-(k+1)) (cap-(k+1))) w at s2;change ∀ w,(X 29 (D (U ⟨g,0,O⟩) (n+1) cap) (U (ak Z k)) O O).run J w=.ok (D (U ⟨g,k * 2,O⟩) (n+1-k) (cap-k)) w at s3;have e1:((k:Int) == (n:Int))=false:=by rw [beq_eq_false_iff_ne]; omega
 have e2:decide ((cap:Int)<(n:Int)+1)=false:=by simp; omega
 change (aA #[29,29] 3 #[D (U ⟨g,(k+1) * 2,O⟩) (n+1-(k+1)) (cap-(k+1)),D (U ⟨g,k * 2,O⟩) (n+1-k) (cap-k)]).run J W.drew=.ok (ak Z ((l.length-k:Nat):Int)) (W.drew.setRow g R1) at q1;change (aA #[29,29] 3 #[D (U ⟨g,k * 2,O⟩) (n+1-k) (cap-k),D (U ⟨b,0,O⟩) 1 1]).run J (W.drew.setRow g R1)=.ok (ak Z 1) ((W.drew.setRow g R1).setRow g R2) at q2;clear hn;go_enter aL,aJ;go_wp2_with (first | (simp only [hov]) | fail);clear hov s0 s1 s2 s3;have hw1:IntKind.i64.wrap ((k:Int)+1)=(k:Int)+1:=by rw [aM]; omega
 have hb1:(0:Int)<=(k:Int)+1:=by omega
 have hb0:(k:Int)+1<=(n:Int)+1:=by omega
 have htn:((k:Int)+1).toNat=k+1:=by omega
 have hb2:¬ (cap=k+1):=by omega
 have hb3:(k:Int)<=(n:Int)+1:=by omega
 have hb4:¬ (cap=k):=by omega
 have h81:n+1-(k+1)=n-k:=by omega
 rw [h81] at q1;clear h81
 go_region_law (refine jM rfl (.tmp 73) (.tmp 76) 29 rfl (v:=D (U ⟨g,(k+1) * 2,O⟩) (n-k) (cap-(k+1))) (xv:=D (U ⟨g,k * 2,O⟩) (n+1-k) (cap-k)) (by simp [Act.eval,Act.put]) (by simp [Act.eval,Act.put]) q1 ?_)
 all_goals simp only [Exit.then]
 all_goals apply_assumption
 clear q1 hw1 hb1 hb0 htn hb2 hb3 hb4;have s3:=jd (E:=EJ) Ah g k (n+1) cap (by omega) (by omega);change ∀ w,(X 29 (D (U ⟨g,0,O⟩) (n+1) cap) (U (ak Z k)) O O).run J w=.ok (D (U ⟨g,k * 2,O⟩) (n+1-k) (cap-k)) w at s3;go_wp2_with (first | (at_builtin; refine wpList_copy_run rfl _ _ 29 rfl rfl rfl q2 ?_) | fail);go_ret;exact Q.out
theorem DC (B g n cap:Nat) (cur:Array aP) (l:List eG) (k:Nat) (c:eG) (b:Nat) (W:aG) (hn:n=l.length) (hg:dI W g cur 38) (hcm:cap<=aQ) (hnc:n<=cap) (ht:cur.toList.take (n * 2)=flat EJ l) (hx:dI W b (jk c).toArray 38) (hk:k<n) (hroom:cap<n+1) (hl:n<=900) (hB:B<=W.heap.size) :
  aS J 101 #[D (U ⟨g,0,O⟩) n cap,ak Z k,D (U ⟨b,0,O⟩) 1 1] W (yL B l k c (D (U ⟨g,0,O⟩) n cap) W):=by
 have hgw:=hg.lt;have hbw:=hx.lt;obtain⟨G,R1,R2,R3,hG1,hG2,r1,r2,r3,ow⟩:=yh (E:=EJ) (l:=l) (k:=k) (cap:=cap) (cur:=cur) (cs:=(jk c).toArray) (c:=c) Ah 3 Tryz.underlying3 (by omega) (by omega) (by omega) (by omega) (by rw [<- hn]; exact ht) W g b hg hbw;unfold aQ at hcm hG2;have s0:=jd (E:=EJ) Ah g k n cap (by omega) (by omega);have s1:=nL (E:=EJ) Ah ⟨g,0,O⟩ k n cap (by omega);have s2:=jd (E:=EJ) Ah W.heap.size k (n+1) G (by omega) (by omega);have s3:=jd (E:=EJ) Ah W.heap.size (k+1) (n+1) G (by omega) (by omega);have a1:=r1 29;have n1:=dK W.drew R1 38;have bl:W.drew.heap.size=W.heap.size:=rfl;rw [bl] at n1;have g1:dI (W.drew.alloc (aj R1 38)) g cur 38:=dI.more (show dI W.drew g cur 38 from hg) _;have x1:dI (W.drew.alloc (aj R1 38)) b (jk c).toArray 38:=dI.more (show dI W.drew b _ 38 from hx) _;have q2:=r2 (W.drew.alloc (aj R1 38)) 3 (n+1-k) (G-k) n1 x1 rfl (by omega);have q3:=r3 ((W.drew.alloc (aj R1 38)).setRow W.heap.size R2).drew 3 (n+1-(k+1)) (G-(k+1)) (n-k) (cap-k) (dI.set n1 R2) (dI.other g1 (by omega) R2) (by omega);have Q:=L (show yL B l k c (D (U ⟨g,0,O⟩) n cap) W (aB (D (U ⟨W.heap.size,0,O⟩) (n+1) G)) (((W.drew.alloc (aj R1 38)).setRow W.heap.size R2).drew.setRow W.heap.size R3) from ⟨_,rfl,by rw [hn]; exact ow _ B hB (dI.set (dI.set n1 R2) R3),below_setRow (below_setRow ((ah B W).drew.alloc hB _) hB _).drew hB _,fun j hj _=>(setRow_other _ W.heap.size j _ (by omega)).trans ((setRow_other _ W.heap.size j _ (by omega)).trans (Array.getElem?_push_lt hj |>.trans (Array.getElem?_eq_getElem hj).symm))⟩);have l1:l.length+1=n+1:=by rw [hn]
 rw [l1,<- hn] at a1;clear r1 r2 r3 ow hg ht hx g1 x1 n1 bl l1;change ∀ w,(X 29 (D (U ⟨g,0,O⟩) n cap) (U (ak Z k)) O O).run J w=.ok (D (U ⟨g,k * 2,O⟩) (n-k) (cap-k)) w at s0;change ∀ w,(X 29 (D (U ⟨g,0,O⟩) n cap) O (U (ak Z k)) O).run J w=.ok (D (U ⟨g,0,O⟩) k cap) w at s1;change ∀ w,(X 29 (D (U ⟨W.heap.size,0,O⟩) (n+1) G) (U (ak Z k)) O O).run J w=.ok (D (U ⟨W.heap.size,k * 2,O⟩) (n+1-k) (G-k)) w at s2;change ∀ w,(X 29 (D (U ⟨W.heap.size,0,O⟩) (n+1) G) (U (ak Z ((k:Int)+1))) O O).run J w=.ok (D (U ⟨W.heap.size,(k+1) * 2,O⟩) (n+1-(k+1)) (G-(k+1))) w at s3;change (aN #[29,3] 29 #[D (U ⟨g,0,O⟩) k cap,ak Z ((n:Int)+1-k)]).run J W=.ok (D (U ⟨W.heap.size,0,O⟩) (n+1) G) (W.drew.alloc (aj R1 38)) at a1;change (aA #[29,29] 3 #[D (U ⟨W.heap.size,k * 2,O⟩) (n+1-k) (G-k),D (U ⟨b,0,O⟩) 1 1]).run J (W.drew.alloc (aj R1 38))=.ok (ak Z 1) ((W.drew.alloc (aj R1 38)).setRow W.heap.size R2) at q2;change (aA #[29,29] 3 #[D (U ⟨W.heap.size,(k+1) * 2,O⟩) (n+1-(k+1)) (G-(k+1)),D (U ⟨g,k * 2,O⟩) (n-k) (cap-k)]).run J ((W.drew.alloc (aj R1 38)).setRow W.heap.size R2).drew=.ok (ak Z ((l.length-k:Nat):Int)) (((W.drew.alloc (aj R1 38)).setRow W.heap.size R2).drew.setRow W.heap.size R3) at q3;have e1:((k:Int) == (n:Int))=false:=by rw [beq_eq_false_iff_ne]; omega
 have e2:decide ((cap:Int)<(n:Int)+1)=true:=by simp; omega
 have hGn:n+1<=G:=by omega
 clear hn;generalize W.heap.size=N at *;generalize W.drew.alloc (aj R1 38)=W1 at *;generalize W1.setRow N R2=W2 at *;go_enter aL,aJ;go_wp2_with (first | (at_builtin; refine kL rfl _ _ 29 3 rfl rfl rfl a1 ?_) | (at_builtin; refine wpList_copy_run rfl _ _ 29 rfl rfl rfl q2 ?_) | fail);clear a1 q2 s0 s1 s2 s3;have hw1:IntKind.i64.wrap ((k:Int)+1)=(k:Int)+1:=by rw [aM]; omega
 have hb1:(0:Int)<=(k:Int)+1:=by omega
 have hb0:(k:Int)+1<=(n:Int)+1:=by omega
 have htn:((k:Int)+1).toNat=k+1:=by omega
 have hb2:¬ (G=k+1):=by omega
 have hb3:(k:Int)<=(n:Int):=by omega
 have hb4:¬ (cap=k):=by omega
 have h81:n+1-(k+1)=n-k:=by omega
 rw [h81] at q3;clear h81
 go_region_law (refine jM rfl (.tmp 50) (.tmp 53) 29 rfl (v:=D (U ⟨N,(k+1) * 2,O⟩) (n-k) (G-(k+1))) (xv:=D (U ⟨g,k * 2,O⟩) (n-k) (cap-k)) (by simp [Act.eval,Act.put]) (by simp [Act.eval,Act.put]) q3 ?_)
 all_goals simp only [Exit.then]
 all_goals apply_assumption
 go_wp2;go_ret;exact Q.out
theorem Fx (B:Nat) (v:aP) (l:List eG) (k:Nat) (c:eG) (b:Nat) (W:aG) (ho:qY W B v l) (hx:dI W b (jk c).toArray 38) (hne:v.ownBlock≠U b) (hk:k<=l.length) (hl:l.length<=900) (hB:B<=W.heap.size) :
  aS J 101 #[v,ak Z k,D (U ⟨b,0,O⟩) 1 1] W (yL B l k c v W):=by
 rcases aR k l.length with h|h
 ·rcases iR ho with⟨_,h2⟩|⟨g,cap,cur,rfl,h1,h2,h3,h4,h5,h6⟩
  ·rw [h2] at h; simp at h
  ·rcases aR cap (l.length+1) with h7|h7
   ·exact DC B g _ cap cur l k c b W rfl h2 h4 h3 h6 hx h h7 hl hB
   ·exact Ay B g _ cap cur l k c b W rfl h1 h2 h4 h5 h6 hx (fun e=>hne (by simp [Value.ownBlock,e])) h h7 hl
 ·obtain rfl:k=l.length:=by omega
  exact Fw B v l c b W ho hx hl hB
end Av
end Go.Proofs.YtkcfgbddlpomgaaGreat
