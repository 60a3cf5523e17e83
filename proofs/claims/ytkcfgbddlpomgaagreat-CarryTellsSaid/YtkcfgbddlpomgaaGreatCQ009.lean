/-
  Constraint of the st. Conditions as told.
-/
import Derived.Test.YtkcfgbddlpomgaaGreatCQ008
import Derived.Deep.RegionWith
set_option maxRecDepth 100000
set_option maxHeartbeats 64000000
open _root_.Go renaming bodyPost_ret->aB,cell_regrown->aC,World->aD,Value->aJ,below_regrown->aM,Calls->aT,redrawn->aU
open Go.Addr renaming add->au
open Go.IntKind renaming i64->D
open Go.IntWalk renaming i64_in->ak
open Go.Lib renaming hid->L
open Go.Obj renaming cells->aA
open Go.Proofs.Tryz renaming prog->Y,results52->aF,ntmps52->aH,func52->aK
open Go.Proofs.YtkcfgbddlpomgaaGreat.Wi renaming within->U,iL->aQ,gI->aV
open Go.RowKit.Below renaming refl->ah
open Go.Value renaming int->J,slice->O,pointer->aG,string->aN,agg->aR
open Go.World renaming cell?_alloc_at->ay,cell?_alloc_lt->aL
open _root_.List renaming getElem?_eq_getElem->Z,mem_append->aI,length_map->aO,map_append->aP
open _root_.Nat renaming le_refl->aj,zero_le->aS
open _root_.Option renaming none->V,some->X
namespace Go.Proofs.YtkcfgbddlpomgaaGreat
namespace Pr
open Go.RowKit Pu Rw Va Kp
def lo9 (n:Int):Int:=U (n.tdiv 4) 0 9
def tx6 (n:Int):ByteArray:=oz (U (n.tdiv 4) 0 6)
def rM (n:Int):Kd:=if U n 0 3=0\/U n 0 3=1 then .rg (lo9 n) (lo9 n+U (n.tdiv 40) 0 9) else if U n 0 3=2 then .tx (tx6 n) else .pr (tx6 n)
theorem MZ (n:Int):iV (rM n)=true:=by
 unfold rM;have hw:=aQ (n.tdiv 40) 0 9 (by omega);have ht:(tx6 n).size<=3:=yD _
 split
 ·simp only [iV,decide_eq_true_eq]; omega
 ·split
  ·simp only [iV,decide_eq_true_eq]; omega
  ·simp only [iV,decide_eq_true_eq]; omega
theorem Kg (n k:Int) (hk:1<=k) (h1:-9223372036854775808<=n) (h2:n<=9223372036854775807):-9223372036854775808<=n.tdiv k/\n.tdiv k<=9223372036854775807:=by
 rcases Int.le_total 0 n with h|h
 ·rw [Int.tdiv_eq_ediv_of_nonneg h];have a:=Int.ediv_nonneg h (show 0<=k by omega);have b:=Int.ediv_le_self k h;omega
 ·have e:n.tdiv k=-((-n) / k):=by rw [<- Int.tdiv_eq_ediv_of_nonneg (by omega),Int.neg_tdiv,Int.neg_neg]
  have a:=Int.ediv_nonneg (show 0<=-n by omega) (show 0<=k by omega);have b:=Int.ediv_le_self k (show 0<=-n by omega);omega
theorem yJ (nm_:ByteArray) (n:Int) (w:aD) (h1:-9223372036854775808<=n) (h2:n<=9223372036854775807) :
  aT Y 52 #[aN nm_,J D n] w fun e w'=>e=.returned (cv (r5 (nm_,rM n)))/\Below w.heap.size w w':=by
 have b4:=Kg n 4 (by decide) h1 h2;have b40:=Kg n 40 (by decide) h1 h2;have q4:IntKind.i64.wrap (n.tdiv 4)=n.tdiv 4:=ak _ b4;have q40:IntKind.i64.wrap (n.tdiv 40)=n.tdiv 40:=ak _ b40;have W3:=L (fun wx=>aV n 0 3 wx (by omega) (by omega) (by omega) h1 h2);have W9:=L (fun wx=>aV (n.tdiv 4) 0 9 wx (by omega) (by omega) (by omega) b4.1 b4.2);have W6:=L (fun wx=>aV (n.tdiv 4) 0 6 wx (by omega) (by omega) (by omega) b4.1 b4.2);have V9:=L (fun wx=>aV (n.tdiv 40) 0 9 wx (by omega) (by omega) (by omega) b40.1 b40.2);have d3:=aQ n 0 3 (by omega);have d9:=aQ (n.tdiv 4) 0 9 (by omega);have d6:=aQ (n.tdiv 4) 0 6 (by omega);have e9:=aQ (n.tdiv 40) 0 9 (by omega);have KD:rM n=if U n 0 3=0\/U n 0 3=1 then .rg (U (n.tdiv 4) 0 9) (U (n.tdiv 4) 0 9+U (n.tdiv 40) 0 9) else if U n 0 3=2 then .tx (oz (U (n.tdiv 4) 0 6)) else .pr (oz (U (n.tdiv 4) 0 6)):=rfl
 have TX:=L (J8 (U (n.tdiv 4) 0 6) d6.1 d6.2);generalize U n 0 3=r at *;generalize U (n.tdiv 4) 0 9=p at *;generalize U (n.tdiv 4) 0 6=q at *;generalize U (n.tdiv 40) 0 9=s at *;have hs:IntKind.i64.wrap (p+s)=p+s:=ak _ (by omega);have hr:r=0\/r=1\/r=2\/r=3:=by omega
 have D6:=L d6;clear b4 b40 h1 h2 d3 d9 e9 d6;rcases hr with rfl|rfl|rfl|rfl
 ·have K:=L (show rM n=.rg p (p+s) by rw [KD]; rfl);clear KD;go_enter aK,aH;go_wp2_with fail;refine (W3.out _).mono ?_;rintro e1 w1 ⟨rfl,rfl⟩;go_wp2_with fail;refine (W9.out _).mono ?_;rintro e2 w2 ⟨rfl,rfl⟩;go_wp2_with fail
  go_region_with (go_at_call 9; refine (V9.out _).mono ?_; rintro e w' ⟨rfl,rfl⟩)
  all_goals go_wp2_with fail
  all_goals exact aB (v:=cv (r5 (nm_,.rg p (p+s)))) (by simp [results,aF,go_sem,r5,kN,jg,jh,kT]) rfl ⟨by rw [K.out],(((ah _ _).alloc (aj _) _).alloc (by simp) _).drew⟩
 ·have K:=L (show rM n=.rg p (p+s) by rw [KD]; rfl);clear KD;go_enter aK,aH;go_wp2_with fail;refine (W3.out _).mono ?_;rintro e1 w1 ⟨rfl,rfl⟩;go_wp2_with fail;refine (W9.out _).mono ?_;rintro e2 w2 ⟨rfl,rfl⟩;go_wp2_with fail
  go_region_with (go_at_call 9; refine (V9.out _).mono ?_; rintro e w' ⟨rfl,rfl⟩)
  all_goals go_wp2_with fail
  all_goals exact aB (v:=cv (r5 (nm_,.rg p (p+s)))) (by simp [results,aF,go_sem,r5,kN,jg,jh,kT]) rfl ⟨by rw [K.out],(((ah _ _).alloc (aj _) _).alloc (by simp) _).drew⟩
 ·have K:=L (show rM n=.tx (oz q) by rw [KD]; rfl);have tx:=TX.out;have d6:=D6.out;have d61:=d6.1;have d62:q<7:=by omega
  clear KD d6;go_enter aK,aH;go_wp2_with fail;refine (W3.out _).mono ?_;rintro e1 w1 ⟨rfl,rfl⟩;go_wp2_with fail
  go_region_with (first | (go_at_call 9; refine (W6.out _).mono ?_; rintro e w' ⟨rfl,rfl⟩) | (go_at_call 65; refine (vO _).mono ?_; rintro e w' ⟨rfl,rfl⟩))
  all_goals go_wp2_with fail
  all_goals exact aB (v:=cv (r5 (nm_,.tx (oz q)))) (by simp [results,aF,go_sem,r5,kN,jg,jh,kT]) rfl ⟨by rw [K.out],((((ah _ _).alloc (aj _) _).alloc (by simp) _).alloc (by simp; omega) _).drew⟩
 ·have K:=L (show rM n=.pr (oz q) by rw [KD]; rfl);have tx:=TX.out;have d6:=D6.out;have d61:=d6.1;have d62:q<7:=by omega
  clear KD d6;go_enter aK,aH;go_wp2_with fail;refine (W3.out _).mono ?_;rintro e1 w1 ⟨rfl,rfl⟩;go_wp2_with fail
  go_region_with (first | (go_at_call 9; refine (W6.out _).mono ?_; rintro e w' ⟨rfl,rfl⟩) | (go_at_call 65; refine (vO _).mono ?_; rintro e w' ⟨rfl,rfl⟩))
  all_goals go_wp2_with fail
  all_goals exact aB (v:=cv (r5 (nm_,.pr (oz q)))) (by simp [results,aF,go_sem,r5,kN,jg,jh,kT]) rfl ⟨by rw [K.out],((((ah _ _).alloc (aj _) _).alloc (by simp) _).alloc (by simp; omega) _).drew⟩
end Pr
namespace Pr
open Go.RowKit Pu Rw Va Kp In
def o8 (has vals:List Int):Nat->List Cn
 | 0=>[]
 | i+1=>if i<has.length/\odd (has.getD i 0)=true/\(o8 has vals i).length<5 then o8 has vals i++[(nm i,rM (jR vals i))] else o8 has vals i
theorem Kh (has vals:List Int):∀ k,(o8 has vals k).length<=k
 | 0=>aj _
 | k+1=>by
  have h:=Kh has vals k;simp only [o8]
  split
  ·simp; omega
  ·omega
theorem Fz (has vals:List Int):∀ k,(o8 has vals k).length<=5
 | 0=>by simp [o8]
 | k+1=>by
  have h:=Fz has vals k;simp only [o8]
  split
  ·rename_i hc; simp; omega
  ·exact h
theorem sF (has vals:List Int):∀ k,∀ x∈o8 has vals k,∃ i,i<k/\x.1=nm i
 | 0,x,h=>by simp [o8] at h
 | k+1,x,h=>by
  simp only [o8] at h
  split at h
  ·rcases aI.1 h with h|h
   ·obtain⟨i,h1,h2⟩:=sF has vals k x h;exact⟨i,by omega,h2⟩
   ·simp at h;exact⟨k,by omega,by rw [h]⟩
  ·obtain⟨i,h1,h2⟩:=sF has vals k x h;exact⟨i,by omega,h2⟩
theorem yK (has vals:List Int):∀ k,∀ x∈o8 has vals k,iV x.2=true
 | 0,x,h=>by simp [o8] at h
 | k+1,x,h=>by
  simp only [o8] at h
  split at h
  ·rcases aI.1 h with h|h
   ·exact yK has vals k x h
   ·simp at h;rw [h]; exact MZ _
  ·exact yK has vals k x h
theorem DC (i j:Nat) (h:i<j) (hj:j<7):Op.bytesLess (nm i).toList (nm j).toList=true:=by
 rw [ByteArray.toList_eq,ByteArray.toList_eq];have:∀ j:Fin 7,∀ i:Fin 7,i.val<j.val->Op.bytesLess (nm i.val).data.toList (nm j.val).data.toList=true:=by decide
 exact this ⟨j,hj⟩ ⟨i,by omega⟩ h
theorem FJ (has vals:List Int):∀ k,k<=7->mU (o8 has vals k)
 | 0,_=>by simp [o8,mU]
 | k+1,hk=>by
  have h:=FJ has vals k (by omega);simp only [o8]
  split
  ·refine List.pairwise_append.2 ⟨h,List.pairwise_singleton _ _,fun x hx y hy=>?_⟩;obtain⟨i,h1,h2⟩:=sF has vals k x hx;simp at hy;rw [hy,h2];exact DC i k h1 (by omega)
  ·exact h
theorem uJ (w:aD) (c:C5):fG (w.alloc (aA #[aN c.1,J D c.2.1,J D c.2.2.1,J D c.2.2.2.1,aN c.2.2.2.2] 106)) (O (X ⟨w.heap.size,0,V⟩) 1 1) [c] :=
 Row.dn (gH Bh w [c] 1 rfl (by simp) _ rfl)
theorem Qd (hv vv:aJ) (has vals:List Int) (w:aD) (hh:iU w hv has) (hw:iU w vv vals) (lh:has.length<=maxLen) (lv:vals.length<=maxLen) :
  aT Y 23 #[aR #[hv,vv]] w fun e w'=>∃ v,e=.returned v/\jL w' w.heap.size v ((o8 has vals 7).map r5)/\Below w.heap.size w w':=by
 have HH:=L hh;have HW:=L hw;have LH:=L lh;have LV:=L lv;clear hh hw lh lv;go_enter Tryz.func23,Tryz.ntmps23;go_wp2_with fail;refine (vT _).mono ?_;rintro e1 w1 ⟨rfl,rfl⟩;go_wp2
 go_loopw [3,8] (fun lv i wr=>∃ k:Nat,k<=7/\i=J D k/\jL wr (w.heap.size+2) lv ((o8 has vals k).map r5) /\
  Below (w.heap.size+2) ((w.alloc (aA #[hv,vv] 72)).alloc (aA ng 9)) wr) (fun _ i _=>7-(intOf i).toNat)
 case atStart=>exact⟨0,by omega,rfl,fF _ _,ah _ _⟩
 case round =>
  obtain⟨k,hk,rfl,hown,hb⟩:=hrel;have HO:=L hown;have HB:=L hb;have T0:Below w.heap.size w ((w.alloc (aA #[hv,vv] 72)).alloc (aA ng 9)):=((ah _ _).alloc (aj _) _).alloc (by simp) _;have BW:=L (T0.trans (hb.mono (by omega)));have hsz:w.heap.size+2<=wr.heap.size:=by have:=hb.size; simp at this; omega
  clear T0;obtain⟨ro,aeb,hrl⟩:=(Row.dn hown).len;rw [aO] at hrl;have hl5:=Kh has vals k;by_cases h7:k<7
  ·have n0:wr.cell? ⟨w.heap.size+1,k,V⟩=X (aN (nm k)):=by
    rw [hb.cell (p:=⟨w.heap.size+1,k,V⟩) (by simp),ay _ _ _ _ (by simp)]; exact P5 k h7
   have b0:wr.cell? ⟨w.heap.size,0,V⟩=X hv:=by
    rw [hb.cell (p:=⟨w.heap.size,0,V⟩) (by simp),aL _ _ _ (by simp),ay _ _ _ _ rfl]; rfl
   have b1:wr.cell? ⟨w.heap.size,1,V⟩=X vv:=by
    rw [hb.cell (p:=⟨w.heap.size,1,V⟩) (by simp),aL _ _ _ (by simp),ay _ _ _ _ rfl]; rfl
   have IH:=L (HH.out.on BW.out);obtain⟨ao,aec,hsh⟩:=HH.out.shape;clear hb hown;subst hsh;subst hrl;have hkk:(k:Int)<7:=by omega
   by_cases h1:k<has.length
   ·obtain⟨y,hy⟩:∃ y,has[k]?=X y:=⟨_,Z h1⟩;have hg:has.getD k 0=y:=by rw [List.getD_eq_getElem?_getD,hy]; rfl
    obtain⟨_,p,_,hix,hpc⟩:=IH.out.at_ k y hy;cases ho:odd y
    ·have T:=L (show o8 has vals (k+1)=o8 has vals k by simp only [o8]; rw [if_neg]; rintro⟨_,h2,_⟩; rw [hg,ho] at h2; cases h2);have hodd:(bits BinOp.and D y 1 == 1)=false:=ho;clear ho hy hg;go_wp2
     go_roundw
     case rel=>exact⟨k+1,by omega,by go_num,by rw [T.out]; exact HO.out,HB.out⟩
     case measure=>simp [intOf]; omega
    ·have hodd:(bits BinOp.and D y 1 == 1)=true:=ho;by_cases h5:(o8 has vals k).length<5
     ·have T:=L (show (o8 has vals (k+1)).map r5=(o8 has vals k).map r5++[r5 (nm k,rM (jR vals k))] by simp only [o8]; rw [if_pos ⟨h1,by rw [hg,ho],h5⟩,aP]; rfl);have PK:=L (fun (W:aD) (hW:Below w.heap.size w W)=>yF vv vals k W (HW.out.on hW) LV.out (by omega));have bd:=yG HW.out k;have KV:=L (fun W=>yJ (nm k) (jR vals k) W bd.1 bd.2);clear ho hy hg bd;go_wp2_with fail;refine (PK.out _ BW.out).mono ?_;rintro e1 w1 ⟨rfl,rfl⟩;go_wp2_with fail;refine (KV.out _).mono ?_;rintro e2 w2 ⟨rfl,hb2⟩;have B2:=L hb2;have O2:=L (dh HO.out hb2);have hs2:=hb2.size;clear hb2;generalize r5 (nm k,rM (jR vals k))=c at T ⊢;have O3a:=L (O2.out.alloc (aA #[aN c.1,J D c.2.1,J D c.2.2.1,J D c.2.2.2.1,aN c.2.2.2.2] 106));obtain⟨v3,w3,r3,o3,g3⟩:=fO Bh (w.heap.size+2) O3a.out (uJ w2 c) (by simp; omega) (by simp) (by simp; omega) 41;have O3:=L o3;have hbel:Below (w.heap.size+2) wr w3:=((B2.out.mono hsz).alloc (by omega) _).grown g3 (by simp; omega) (fun j hj=>(O3a.out.lt j hj).1);have B3:=L (HB.out.trans hbel);clear o3 g3 hbel;go_wp2_with (first | (at_builtin; refine wpList_append_run rfl _ _ 41 rfl rfl rfl r3 ?_) | fail);clear r3;go_wp2
      go_roundw
      case rel=>exact⟨k+1,by omega,by go_num,by rw [T.out]; exact O3.out,B3.out⟩
      case measure=>simp [intOf]; omega
     ·have T:=L (show o8 has vals (k+1)=o8 has vals k by simp only [o8]; rw [if_neg]; rintro⟨_,_,h2⟩; exact h5 h2);clear ho hy hg;go_wp2
      go_roundw
      case rel=>exact⟨k+1,by omega,by go_num,by rw [T.out]; exact HO.out,HB.out⟩
      case measure=>simp [intOf]; omega
   ·have T:=L (show o8 has vals (k+1)=o8 has vals k by simp only [o8]; rw [if_neg]; rintro⟨h2,_⟩; exact h1 h2);go_wp2
    go_roundw
    case rel=>exact⟨k+1,by omega,by go_num,by rw [T.out]; exact HO.out,HB.out⟩
    case measure=>simp [intOf]; omega
  ·obtain rfl:k=7:=by omega
   clear hb hown;go_wp2;go_ret;exact⟨_,rfl,mo (by omega) HO.out,BW.out⟩
def Jb (c:Cn):Prop:=c.1.size<=100/\(kT c.2).size<=100/\(-9223372036854775808<=jg c.2/\jg c.2<=9223372036854775807)/\(-9223372036854775808<=jh c.2/\jh c.2<=9223372036854775807)
structure NF (l:List Cn):Prop where
 rise:mU l
 five:l.length<=5
 good:∀ c∈l,Bd c=true
 small:∀ c∈l,Jb c
theorem NF.iV {l:List Cn} (h:NF l):∀ c∈l,Pr.iV c.2=true:=fun c hc=>by
 have:=h.good c hc;simp only [Bd,Bool.and_eq_true] at this;exact this.2
theorem Qe (i:Nat) (h:i<7):Fb (nm i)=true:=by
 match i,h with
 | 0,_=>decide
 | 1,_=>decide
 | 2,_=>decide
 | 3,_=>decide
 | 4,_=>decide
 | 5,_=>decide
 | 6,_=>decide
theorem DF (i:Nat):(nm i).size=1:=rfl
theorem Qf (n:Int):(kT (rM n)).size<=100/\(-9223372036854775808<=jg (rM n)/\jg (rM n)<=9223372036854775807)/\(-9223372036854775808<=jh (rM n)/\jh (rM n)<=9223372036854775807):=by
 have h1:=aQ (n.tdiv 4) 0 9 (by omega);have h2:=aQ (n.tdiv 40) 0 9 (by omega);have ht:(tx6 n).size<=3:=yD _;unfold rM lo9
 split
 ·refine⟨by show (0:Nat)<=100; omega,?_,?_⟩ <;> simp only [jg,jh] <;> omega
 ·split
  ·refine⟨by show (tx6 n).size<=100; omega,?_,?_⟩ <;> simp only [jg,jh] <;> omega
  ·refine⟨by show (tx6 n).size<=100; omega,?_,?_⟩ <;> simp only [jg,jh] <;> omega
theorem vU (has vals:List Int):∀ k,∀ x∈o8 has vals k,Jb x
 | 0,x,h=>by simp [o8] at h
 | k+1,x,h=>by
  simp only [o8] at h
  split at h
  ·rcases aI.1 h with h|h
   ·exact vU has vals k x h
   ·simp at h;rw [h];exact⟨by show (nm k).size<=100; rw [DF]; omega,Qf _⟩
  ·exact vU has vals k x h
theorem Qg (has vals:List Int):NF (o8 has vals 7) :=
 ⟨FJ has vals 7 (aj _),Fz has vals 7,fun c hc=>by
  obtain⟨i,h1,h2⟩:=sF has vals 7 c hc;simp only [Bd,Bool.and_eq_true];exact⟨by rw [h2]; exact Qe i h1,yK has vals 7 c hc⟩,vU has vals 7⟩
theorem Zu {a b:Cn} (h:r5 a=r5 b):a=b:=by
 obtain⟨n,a⟩:=a;obtain⟨m,b⟩:=b;simp only [r5,Prod.mk.injEq] at h;obtain⟨rfl,h1,h2,h3,h4⟩:=h;cases a <;> cases b <;> simp [kN,jg,jh,kT] at h1 h2 h3 h4 <;> simp [*]
end Pr
namespace Bk
open Go.RowKit Go.Sort Rw YtkcfgbddlpomgaaGreat.Nm Pr
abbrev nH:=Int×Int×Int×Int×Int×Int×Sl×Sl
abbrev jM (x:nH):List aJ:=[J D x.1,J D x.2.1,J D x.2.2.1,J D x.2.2.2.1,J D x.2.2.2.2.1,J D x.2.2.2.2.2.1,dK x.2.2.2.2.2.2.1,dK x.2.2.2.2.2.2.2]
abbrev yL (x:nH):aJ:=aR #[J D x.1,J D x.2.1,J D x.2.2.1,J D x.2.2.2.1,J D x.2.2.2.2.1,J D x.2.2.2.2.2.1,dK x.2.2.2.2.2.2.1,dK x.2.2.2.2.2.2.2]
def EU:Ek nH:=⟨58,44,8,96,aR #[J D 0,J D 0,J D 0,J D 0,J D 0,J D 0,O V 0 0,O V 0 0],yL,jM⟩
theorem abK:(Tryz.prog.info? 58).map (fun i=>(i.zero,i.size,i.bytes))=X (X (aR #[J D 0,J D 0,J D 0,J D 0,J D 0,J D 0,O V 0 0,O V 0 0]),8,96):=by kernel_rfl
theorem abL (w:aD) (p:Addr) (x:nH) (h:∀ j u,(jM x)[j]?=X u->w.cell? (p.add j)=X u):(Instr.loadAt 58 (aG (X p))).run Y w=.ok (yL x) w:=by
 have h0:=h 0 _ rfl;have h1:=h 1 _ rfl;have h2:=h 2 _ rfl;have h3:=h 3 _ rfl;have h4:=h 4 _ rfl;have h5:=h 5 _ rfl;have h6:=h 6 _ rfl;have h7:=h 7 _ rfl;simp [au] at h0 h1 h2 h3 h4 h5 h6 h7;simp [go_sem,h0,h1,h2,h3,h4,h5,h6,h7]
theorem DI:EU.Ok where
 hu:=Tryz.underlying44
 info:=by
  have h:=abK;cases hi:Tryz.prog.info? 58 with
  | none=>rw [hi] at h; cases h
  | some i =>
   rw [hi] at h;simp only [Option.map_some,Option.some.injEq,Prod.mk.injEq] at h;exact⟨i,hi,h.1,h.2.1,h.2.2⟩
 zs:=rfl
 len:=fun _=>rfl
 one:=fun x u hu=>by
  simp only [EU,jM,List.mem_cons,List.not_mem_nil,or_false] at hu;rcases hu with rfl|rfl|rfl|rfl|rfl|rfl|rfl|rfl <;> rfl
 pos:=by decide
 few:=by decide
 load:=fun w p x h=>abL w p x h
abbrev FM (W:aD) (v:aJ) (l:List nH):Prop:=Row EU W v l
abbrev iQ (W:aD) (B:Nat) (v:aJ) (l:List nH):Prop:=Own EU W B v l
theorem elU {W:aD} {v:aJ} {l:List nH} {ao:Option Addr} {n c k:Nat} {x:nH} (h:FM W v l) (hv:v=O ao n c) (hn:l.length=n) (hk:l[k]?=X x) :
  ∃ p:Addr,(∀ w,(Instr.indexAt 44 (O ao n c) (J D k)).run Y w=.ok (aG (X p)) w)/\∀ w,Below W.heap.size W w->w.cell? p=X (J D x.1)/\w.cell? ⟨p.block,p.off+1,V⟩=X (J D x.2.1)/\w.cell? ⟨p.block,p.off+2,V⟩=X (J D x.2.2.1)/\w.cell? ⟨p.block,p.off+3,V⟩=X (J D x.2.2.2.1)/\w.cell? ⟨p.block,p.off+4,V⟩=X (J D x.2.2.2.2.1)/\w.cell? ⟨p.block,p.off+5,V⟩=X (J D x.2.2.2.2.2.1)/\w.cell? ⟨p.block,p.off+6,V⟩=X (dK x.2.2.2.2.2.2.1)/\w.cell? ⟨p.block,p.off+7,V⟩=X (dK x.2.2.2.2.2.2.2):=by
 obtain⟨p,h1,_,h2⟩:=kU DI h hv hn hk;exact⟨p,h1,fun w hw=>⟨by simpa [au] using h2 w hw 0 _ rfl,by simpa [au] using h2 w hw 1 _ rfl,by simpa [au] using h2 w hw 2 _ rfl,by simpa [au] using h2 w hw 3 _ rfl,by simpa [au] using h2 w hw 4 _ rfl,by simpa [au] using h2 w hw 5 _ rfl,by simpa [au] using h2 w hw 6 _ rfl,by simpa [au] using h2 w hw 7 _ rfl⟩⟩
def kW (near:List Int) (but:Int) (f:Int->nH):List nH:=(near.filter fun n=>n != but).map f
theorem yM (me but k tc ts ic is:Int) (nv:Sl) (av sv ev ov:aJ) (pv lv:Sl) (l:List Int) (w:aD) (hs:qW w (dK nv) l) (hlen:l.length<=900) :
  aT Y 61 #[aR #[J D me,dK nv,av,sv,ev,ov],J D but,aR #[J D k,J D tc,J D ts,J D ic,J D is,dK pv,dK lv]] w fun e w'=>(∃ v:Sl,e=.returned (dK v)/\iQ w' w.heap.size (dK v) (kW l but fun n=>(n,k,tc,ts,ic,is,pv,lv)))/\Below w.heap.size w w':=by
 obtain⟨no,nn,nc⟩:=nv;obtain⟨po,pn,pc⟩:=pv;obtain⟨xX,ln,lc⟩:=lv;obtain⟨q1,q2,hq⟩:=hs.len;obtain⟨rfl,hnn,rfl⟩:no=q1/\nn=l.length/\nc=q2:=by
  have h:O no nn nc=O q1 l.length q2:=hq;simpa using h
 clear hq;obtain⟨h0,h1,h2⟩:=gG w #[J D me,O no nn nc,av,sv,ev,ov] #[J D k,J D tc,J D ts,J D ic,J D is,O po pn pc,O xX ln lc] 33 43;have B0:=L h0;have X5:=L h2;have HS:=L (hs.on h0);have HN:=L hnn;have c1:=h1.cell 1;simp only [List.getElem?_toArray,List.getElem?_cons_zero,List.getElem?_cons_succ] at c1;have nb:nn<=900:=by omega
 have W2:=L h2.lt;clear h0 h1 h2 hs hlen hnn;go_enter Tryz.func61,Tryz.ntmps61;go_upto_region 1 with fail;generalize (w.alloc (aA #[J D me,O no nn nc,av,sv,ev,ov] 33)).alloc (aA #[J D k,J D tc,J D ts,J D ic,J D is,O po pn pc,O xX ln lc] 43)=W at *;go_wp2
 go_loopw [7,13] (fun v i wr=>∃ q:Nat,q<=nn/\i=J D q/\Below W.heap.size W wr/\iQ wr W.heap.size v (kW (l.take q) but fun n=>(n,k,tc,ts,ic,is,(po,pn,pc),(xX,ln,lc)))) (fun _ i _=>nn-(intOf i).toNat)
 case atStart=>exact⟨0,aS _,rfl,ah _ _,fF _ _⟩
 case round =>
  obtain⟨q,hq,rfl,hbe,hown⟩:=hrel;have BE:=L hbe;have OE:=L hown;clear hbe hown;by_cases hlt:q<nn
  ·obtain⟨y,hy⟩:∃ y,l[q]?=X y:=⟨_,Z (by rw [<- HN.out]; exact hlt)⟩;obtain⟨p,ix,_,px⟩:=kU Nm.I4 HS.out rfl HN.out.symm hy;have p0:wr.cell? p=X (J D y):=by simpa [au] using px wr BE.out 0 _ rfl
   have ix:∀ w,(Instr.indexAt 25 (O no nn nc) (J D q)).run Y w=.ok (aG (X p)) w:=ix;have FS:=L (show kW (l.take (q+1)) but (fun n=>((n,k,tc,ts,ic,is,(po,pn,pc),(xX,ln,lc)):nH))=kW (l.take q) but (fun n=>(n,k,tc,ts,ic,is,(po,pn,pc),(xX,ln,lc)))++(if (y != but)=true then [(y,k,tc,ts,ic,is,(po,pn,pc),(xX,ln,lc))] else []) by
    unfold kW;rw [rJ l q y _ hy,aP];cases y != but <;> rfl)
   have hw3:IntKind.i64.wrap ((q:Int)+1)=(q:Int)+1:=ak _ (by omega);obtain⟨r,hr⟩:∃ r,(y != but)=r:=⟨_,rfl⟩;rw [hr] at FS;clear px hy;cases r
   ·go_wp2
    go_roundw
    case rel=>exact⟨q+1,by omega,by go_num,BE.out,by
     rw [FS.out];simpa using OE.out⟩
    case measure=>simp [intOf]; omega
   ·have x_:=X5.out.on BE.out;obtain⟨x0,x1,x2,x3,x4,x5,x6⟩:=x_.mP;have NB:=L (fT wr (aA #[J D y,J D k,J D tc,J D ts,J D ic,J D is,O po pn pc,O xX ln lc] 58));have hlit:=gH DI wr [(y,k,tc,ts,ic,is,(po,pn,pc),(xX,ln,lc))] 1 rfl (by simp) #[J D y,J D k,J D tc,J D ts,J D ic,J D is,O po pn pc,O xX ln lc] rfl;have o2:=dh OE.out NB.out;have hB:W.heap.size<=(wr.alloc (aA #[J D y,J D k,J D tc,J D ts,J D ic,J D is,O po pn pc,O xX ln lc] 58)).heap.size:=by have h1:=BE.out.size; simp; omega
    obtain⟨v',w',r',o',gr⟩:=fO DI W.heap.size o2 (Row.dn hlit) (by
     unfold kW;rw [aO];have h1:=List.length_filter_le (fun n=>n != but) (l.take q);rw [List.length_take] at h1;omega) (by simp) hB 44
    have r':(Builtin.append_ #[44,44] 44 #[u7,O (X ⟨wr.heap.size,0,V⟩) 1 1]).run Y (wr.alloc (aA #[J D y,J D k,J D tc,J D ts,J D ic,J D is,O po pn pc,O xX ln lc] 58))=.ok v' w':=by
     simpa [EU] using r'
    have BG:=L ((BE.out.trans (NB.out.mono BE.out.size)).grown gr hB fun j hj=>(o2.lt j hj).1);have OG:=L o';clear hlit o2 hB o' gr OE x_;go_wp2_with (first | (at_builtin; refine wpList_append_run rfl _ _ 44 rfl rfl rfl r' ?_) | fail)
    go_roundw
    case rel=>exact⟨q+1,by omega,by go_num,BG.out,by
     rw [FS.out];simpa using OG.out⟩
    case measure=>simp [intOf]; omega
  ·obtain rfl:nn=q:=by omega
   have e:l.take nn=l:=List.take_of_length_le (by have:=HN.out; omega);rw [e] at OE;obtain⟨Ao,Ap,hv⟩:=(Row.dn OE.out).len;subst hv;clear e;go_wp2;go_ret;exact⟨⟨(Ao,_,Ap),rfl,dx OE.out (by have:=W2.out; omega)⟩,B0.out.trans (BE.out.mono B0.out.size)⟩
def eqI (x y:Id):Bool:=x.1 == y.1 && x.2 == y.2
theorem xY (x y:Id):eqI x y=true↔x=y:=by
 obtain⟨a,b⟩:=x;obtain⟨c,d⟩:=y;simp [eqI]
theorem oC {α β:Type} {R:α->β->Prop}:∀ {l m} (_:dX R l m) (k:Nat) (a:α),l[k]?=X a->∃ b,m[k]?=X b/\R a b
 | _,_,.nil,k,b,h=>by simp at h
 | _,_,.cons x t,0,b,h=>by
  simp at h;subst h;exact⟨_,rfl,x⟩
 | _,_,.cons x t,k+1,b,h=>by
  obtain⟨a,h1,h2⟩:=oC t k b (by simpa using h);exact⟨a,by simpa using h1,h2⟩
abbrev FN (W:aD) (b:Nat) (a0 a1 a2 a3 a4 a5 a6:aJ):aD:=((((((W.setCell ⟨b,0,V⟩ a0).setCell ⟨b,1,V⟩ a1).setCell ⟨b,2,V⟩ a2).setCell ⟨b,3,V⟩ a3).setCell ⟨b,4,V⟩ a4).setCell ⟨b,5,V⟩ a5).setCell ⟨b,6,V⟩ a6
theorem vV {W:aD} {b:Nat} {t:TypeId} {z0 z1 z2 z3 z4 z5 z6:aJ} (h:dG W b #[z0,z1,z2,z3,z4,z5,z6] t) (a0 a1 a2 a3 a4 a5 a6:aJ):dG (FN W b a0 a1 a2 a3 a4 a5 a6) b #[a0,a1,a2,a3,a4,a5,a6] t:=by
 have h2:=dO (k:=6) (dO (k:=5) (dO (k:=4) (dO (k:=3) (dO (k:=2) (dO (k:=1) (dO (k:=0) h a0) a1) a2) a3) a4) a5) a6;simp only [List.setIfInBounds_toArray,List.set_cons_zero,List.set_cons_succ] at h2;exact h2
theorem xZ (z:iB) (w:aD):aT Y 58 #[qX z] w fun e w'=>e=.returned (aR #[J D 3,J D z.1,J D z.2.1,J D z.2.2.1,J D z.2.2.2.1,dK z.2.2.2.2.1,O V 0 0])/\Below w.heap.size w w':=by
 obtain⟨c,d,g,h,⟨po,pn,pc⟩,fr,up⟩:=z;obtain⟨h0,h1,h2⟩:=gG w #[J D c,J D d,J D g,J D h,O po pn pc,J D fr,.bool up] #[J D 0,J D 0,J D 0,J D 0,J D 0,O V 0 0,O V 0 0] 68 43;obtain⟨x0,x1,x2,x3,x4,x5,x6⟩:=h1.mP;obtain⟨r0,r1,r2,r3,r4,r5,r6⟩:=h2.mP;obtain⟨t0,t1,t2,t3,t4,t5,t6⟩:=h2.Zn;have zz:=h2.lt;have FB:=L (vV h2 (J D 3) (J D c) (J D d) (J D g) (J D h) (O po pn pc) (O V 0 0));have BL:=L ((((((((h0.setCell (p:=⟨w.heap.size+1,0,V⟩) (by show w.heap.size<=w.heap.size+1; omega) (J D 3)).setCell (p:=⟨w.heap.size+1,1,V⟩) (by show w.heap.size<=w.heap.size+1; omega) (J D c)).setCell (p:=⟨w.heap.size+1,2,V⟩) (by show w.heap.size<=w.heap.size+1; omega) (J D d)).setCell (p:=⟨w.heap.size+1,3,V⟩) (by show w.heap.size<=w.heap.size+1; omega) (J D g)).setCell (p:=⟨w.heap.size+1,4,V⟩) (by show w.heap.size<=w.heap.size+1; omega) (J D h)).setCell (p:=⟨w.heap.size+1,5,V⟩) (by show w.heap.size<=w.heap.size+1; omega) (O po pn pc)).setCell (p:=⟨w.heap.size+1,6,V⟩) (by show w.heap.size<=w.heap.size+1; omega) (O V 0 0)));clear h0 h1 h2;show aT Y 58 #[aR #[J D c,J D d,J D g,J D h,O po pn pc,J D fr,.bool up]] w _;go_enter Tryz.func58,Tryz.ntmps58;go_upto_region 1 with fail;generalize (w.alloc (aA #[J D c,J D d,J D g,J D h,O po pn pc,J D fr,.bool up] 68)).alloc (aA #[J D 0,J D 0,J D 0,J D 0,J D 0,O V 0 0,O V 0 0] 43)=W at *;go_wp2_with fail;obtain⟨v0,v1,v2,v3,v4,v5,v6⟩:=FB.out.mP;refine aB (v:=aR #[J D 3,J D c,J D d,J D g,J D h,O po pn pc,O V 0 0]) (by simp [results,Tryz.results58,go_sem,v0,v1,v2,v3,v4,v5,v6]) rfl ?_;exact⟨rfl,BL.out⟩
noncomputable def Zv:Code:=((Tryz.f27.body.bind (gV 0)).getD .skip)
theorem Vp (Q:Exit->Act->aD->Prop) (W:aD) (b2 b3:Nat) (me c d:Int) (y1 y2 y3 y4:aJ) (so:Option Addr) (n sc:Nat) (l:List qy) (u0 u1 u2 u5 u6 u7 u9 u10 u11 u12 u13 u14 u15 u16 u17 u18 u19 u20 u21 u22 u23 u24 u25 u26 u27 u28 u29 u30 u31 u32 u33 u34 u35 u36 u37 u38 u39 u40 u41 u42 u43 u44 u45 u46 u47 u48 u49 u50 u51 u52 u53 u54 u55 u56 u57 u58 u59 u60 u61 u62 u63 u64 u65 u66 u67 u68 u69 u70 u71 u72 u73 u74 u75 u76 u77 u78 u79 u80 u81 u82 u83 u84 u85 u86 u87 u88 u89 u90 u91 u92 u93 u94 u95 u96 u97 u98:aJ)
  (h2:dG W b2 #[J D me,y1,y2,y3,y4,O so n sc] 33) (h3:dG W b3 #[J D c,J D d] 38) (hs:Fx W (O so n sc) l) (hn:n=l.length) (hm:n<=1000000)
  (hQ:∀ (wr:aD) (v14 v15 v16 v17 v18 v19 v20 v21 v22 v23 v24 v25 v26 v27 v28 v29 v30:aJ),Below W.heap.size W wr->Q .normal ⟨(u0::u1::u2::aG (X ⟨b2,0,V⟩)::aG (X ⟨b3,0,V⟩)::u5::u6::u7::J D (fD (l.map fun y=>(y.1,y.2.1)) (c,d):Nat)::u9::u10::u11::u12::u13::v14::v15::v16::v17::v18::v19::v20::v21::v22::v23::v24::v25::v26::v27::v28::v29::v30::u31::u32::u33::u34::u35::u36::u37::u38::u39::u40::u41::u42::u43::u44::u45::u46::u47::u48::u49::u50::u51::u52::u53::u54::u55::u56::u57::u58::u59::u60::u61::u62::u63::u64::u65::u66::u67::u68::u69::u70::u71::u72::u73::u74::u75::u76::u77::u78::u79::u80::u81::u82::u83::u84::u85::u86::u87::u88::u89::u90::u91::u92::u93::u94::u95::u96::u97::u98::[]).toArray,[]⟩ wr) :
  Code.wp Y Zv Q ⟨(u0::u1::u2::aG (X ⟨b2,0,V⟩)::aG (X ⟨b3,0,V⟩)::u5::u6::u7::J D 0::u9::u10::u11::u12::u13::u14::u15::u16::u17::u18::u19::u20::u21::u22::u23::u24::u25::u26::u27::u28::u29::u30::u31::u32::u33::u34::u35::u36::u37::u38::u39::u40::u41::u42::u43::u44::u45::u46::u47::u48::u49::u50::u51::u52::u53::u54::u55::u56::u57::u58::u59::u60::u61::u62::u63::u64::u65::u66::u67::u68::u69::u70::u71::u72::u73::u74::u75::u76::u77::u78::u79::u80::u81::u82::u83::u84::u85::u86::u87::u88::u89::u90::u91::u92::u93::u94::u95::u96::u97::u98::[]).toArray,[]⟩ W:=by
 have HQ:=L hQ;have H2:=L h2;have H3:=L h3;have HS:=L hs;have HN:=L hn;clear hQ h2 h3 hs hn
 conv=>arg 2; whnf
 go_wp2
 go_loopw [8] (fun i wr=>∃ k:Nat,k<=n/\i=J D k/\Below W.heap.size W wr/\∀ (j:Nat) (y:Id),j<k->(l.map fun y=>(y.1,y.2.1))[j]?=X y->dY y (c,d)=true) (fun i _=>n-(intOf i).toNat)
 case atStart=>exact⟨0,aS _,rfl,ah _ _,fun j y h=>by omega⟩
 case round =>
  obtain⟨k,hk,rfl,hbe,hall⟩:=hrel;have BE:=L hbe;have AL:=L hall;clear hbe hall;have q0:=aC (show wr.cell? ⟨b2,5,V⟩=X (O so n sc) from (H2.out.on BE.out).cell 5);have r0:=aC (show wr.cell? ⟨b3,0,V⟩=X (J D c) from (H3.out.on BE.out).cell 0);have r1:=aC (show wr.cell? ⟨b3,1,V⟩=X (J D d) from (H3.out.on BE.out).cell 1);have hw3:IntKind.i64.wrap ((k:Int)+1)=(k:Int)+1:=ak _ (by omega);by_cases hlt:k<n
  ·obtain⟨y,hy⟩:∃ y,l[k]?=X y:=⟨_,Z (by rw [<- HN.out]; exact hlt)⟩;obtain⟨p,ix,px⟩:=elW HS.out rfl HN.out.symm hy;have xI:=px wr BE.out;obtain⟨y1,y2,⟨yo,yn,yc⟩⟩:=y;simp only at xI;have p0:=aC xI.1;have p1:=aC xI.2.1;have wW:decide ((k:Int)<(n:Int))=true:=decide_eq_true (by omega);have AO:decide (k<n)=true:=decide_eq_true hlt;obtain⟨r,hr⟩:∃ r,dY (y1,y2) (c,d)=r:=⟨_,rfl⟩;have LS:=L (fun d' os=>Calls.regrown_of (d:=d') (os:=os) ((rH (y1,y2) (c,d) (grow (aU wr d') os)).mono fun _ _ h=>⟨by rw [h.1,hr],h.2⟩));have HY:=L (show (l.map fun y=>(y.1,y.2.1))[k]?=X (y1,y2) by rw [List.getElem?_map,hy]; rfl);have HR:=L hr;clear px xI hy hr;cases r
   ·go_wp2_with fail;refine wp_region_quiet_below (by kernel_rfl) (by kernel_rfl) ?_
    repeat (go_big_quiet_step (first | (with_reducible exact LS.out _ _)))
    refine wpQuiet_nil ?_;intro _ hw';obtain⟨⟨dq,osq⟩,hw''⟩:=hw';subst hw'';have Z6:=aM wr dq osq;have HF:=L (fun v14 v15 v16 v17 v18 v19 v20 v21 v22 v23 v24 v25 v26 v27 v28 v29 v30=>HQ.out (grow (aU wr dq) osq) v14 v15 v16 v17 v18 v19 v20 v21 v22 v23 v24 v25 v26 v27 v28 v29 v30 (BE.out.trans (Z6.mono BE.out.size)));rw [nT (l.map fun y=>(y.1,y.2.1)) (c,d) k AL.out (Or.inr ⟨_,HY.out,HR.out⟩)] at HF;clear ix HQ q0 r0 r1 LS wW AO p0 p1;go_wp2;exact HF.out _ _ _ _ _ _ _ _ _ _ _ _ _ _ _ _ _
   ·go_wp2_with fail;refine wp_region_quiet_below (by kernel_rfl) (by kernel_rfl) ?_
    repeat (go_big_quiet_step (first | (with_reducible exact LS.out _ _)))
    refine wpQuiet_nil ?_;intro _ hw';obtain⟨⟨dq,osq⟩,hw''⟩:=hw';subst hw'';have Z6:=L (aM wr dq osq);clear ix q0 r0 r1 LS wW AO p0 p1;go_wp2
    go_roundw
    case rel=>exact⟨k+1,by omega,by go_num,BE.out.trans (Z6.out.mono BE.out.size),fun j y' hj h1=>by
     rcases Nat.lt_or_ge j k with h3|h3
     ·exact AL.out j y' h3 h1
     ·obtain rfl:j=k:=by omega
      have e1:=HY.out;rw [h1] at e1;rw [Option.some.inj e1];exact HR.out⟩
    case measure=>simp [intOf]; omega
  ·obtain rfl:k=n:=by omega
   have wW:decide ((k:Int)<(k:Int))=false:=by simp
   have AO:decide (k<k)=false:=by simp
   go_wp2_with fail;refine wp_region_quiet_below (by kernel_rfl) (by kernel_rfl) ?_
   repeat (go_big_quiet_step (fail))
   refine wpQuiet_nil ?_;intro _ hw';obtain⟨⟨dq,osq⟩,hw''⟩:=hw';subst hw'';have Z6:=aM wr dq osq;have HF:=L (fun v14 v15 v16 v17 v18 v19 v20 v21 v22 v23 v24 v25 v26 v27 v28 v29 v30=>HQ.out (grow (aU wr dq) osq) v14 v15 v16 v17 v18 v19 v20 v21 v22 v23 v24 v25 v26 v27 v28 v29 v30 (BE.out.trans (Z6.mono BE.out.size)));rw [nT (l.map fun y=>(y.1,y.2.1)) (c,d) k AL.out (Or.inl (by simpa using HN.out))] at HF;clear HQ q0 r0 r1 wW AO;go_wp2;exact HF.out _ _ _ _ _ _ _ _ _ _ _ _ _ _ _ _ _
end Bk
namespace Rg
open Go.RowKit
end Rg
end Go.Proofs.YtkcfgbddlpomgaaGreat
