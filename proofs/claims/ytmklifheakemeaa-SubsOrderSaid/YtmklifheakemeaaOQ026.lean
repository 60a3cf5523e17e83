/-
  Constraint of the st. Conditions as told.
-/
import Derived.Test.YtmklifheakemeaaOQ002
import Derived.Test.YtmklifheakemeaaOQ007
import Derived.Deep.RegionWith
set_option maxRecDepth 100000
set_option maxHeartbeats 64000000
open Go.IntWalk renaming i64_in->X
open Go.Lib renaming hid->D
open Go.Proofs.Try renaming results33->V,ntmps33->Y,func33->ah,prog->ay
open Go.Proofs.Ytmklifheakemeaa.Wi renaming within->J,iG->au,jl->aA
open Go.RowKit.Below renaming refl->U
open Go.World renaming cell?_alloc_at->O,cell?_alloc_lt->Z
open _root_.Int renaming tdiv_eq_ediv_of_nonneg->Q,ediv_le_self->aj,ediv_nonneg->ak
open _root_.Nat renaming le_refl->L
namespace Go.Proofs.Ytmklifheakemeaa
namespace Pr
open Go.RowKit Pu Rw Va Kp
def Oh (n:Int):Int:=J (n.tdiv 4) 0 9
def J9 (n:Int):ByteArray:=lV (J (n.tdiv 4) 0 6)
def kM (n:Int):Kd:=if J n 0 3=0\/J n 0 3=1 then .rg (Oh n) (Oh n+J (n.tdiv 40) 0 9) else if J n 0 3=2 then .tx (J9 n) else .pr (J9 n)
theorem zh (n:Int):fU (kM n)=true:=by
 unfold kM;have hw:=au (n.tdiv 40) 0 9 (by omega);have ht:(J9 n).size<=3:=uo _
 split
 ·simp only [fU,decide_eq_true_eq]; omega
 ·split
  ·simp only [fU,decide_eq_true_eq]; omega
  ·simp only [fU,decide_eq_true_eq]; omega
theorem xR (n k:Int) (hk:1<=k) (h1:-9223372036854775808<=n) (h2:n<=9223372036854775807):-9223372036854775808<=n.tdiv k/\n.tdiv k<=9223372036854775807:=by
 rcases Int.le_total 0 n with h|h
 ·rw [Q h];have a:=ak h (show 0<=k by omega);have b:=aj k h;omega
 ·have e:n.tdiv k=-((-n) / k):=by rw [<- Q (by omega),Int.neg_tdiv,Int.neg_neg]
  have a:=ak (show 0<=-n by omega) (show 0<=k by omega);have b:=aj k (show 0<=-n by omega);omega
theorem pR (Ka:ByteArray) (n:Int) (w:World) (h1:-9223372036854775808<=n) (h2:n<=9223372036854775807) :
  Calls ay 33 #[.string Ka,.int .i64 n] w fun e w'=>e=.returned (cv (r5 (Ka,kM n)))/\Below w.heap.size w w':=by
 have b4:=xR n 4 (by decide) h1 h2;have b40:=xR n 40 (by decide) h1 h2;have q4:IntKind.i64.wrap (n.tdiv 4)=n.tdiv 4:=X _ b4;have q40:IntKind.i64.wrap (n.tdiv 40)=n.tdiv 40:=X _ b40;have W3:=D (fun wx=>aA n 0 3 wx (by omega) (by omega) (by omega) h1 h2);have W9:=D (fun wx=>aA (n.tdiv 4) 0 9 wx (by omega) (by omega) (by omega) b4.1 b4.2);have W6:=D (fun wx=>aA (n.tdiv 4) 0 6 wx (by omega) (by omega) (by omega) b4.1 b4.2);have V9:=D (fun wx=>aA (n.tdiv 40) 0 9 wx (by omega) (by omega) (by omega) b40.1 b40.2);have d3:=au n 0 3 (by omega);have d9:=au (n.tdiv 4) 0 9 (by omega);have d6:=au (n.tdiv 4) 0 6 (by omega);have e9:=au (n.tdiv 40) 0 9 (by omega);have KD:kM n=if J n 0 3=0\/J n 0 3=1 then .rg (J (n.tdiv 4) 0 9) (J (n.tdiv 4) 0 9+J (n.tdiv 40) 0 9) else if J n 0 3=2 then .tx (lV (J (n.tdiv 4) 0 6)) else .pr (lV (J (n.tdiv 4) 0 6)):=rfl
 have TX:=D (EZ (J (n.tdiv 4) 0 6) d6.1 d6.2);generalize J n 0 3=r at *;generalize J (n.tdiv 4) 0 9=p at *;generalize J (n.tdiv 4) 0 6=q at *;generalize J (n.tdiv 40) 0 9=s at *;have hs:IntKind.i64.wrap (p+s)=p+s:=X _ (by omega);have hr:r=0\/r=1\/r=2\/r=3:=by omega
 have D6:=D d6;clear b4 b40 h1 h2 d3 d9 e9 d6;rcases hr with rfl|rfl|rfl|rfl
 ·have K:=D (show kM n=.rg p (p+s) by rw [KD]; rfl);clear KD;go_enter ah,Y;go_wp2_with fail;refine (W3.out _).mono ?_;rintro e1 w1 ⟨rfl,rfl⟩;go_wp2_with fail;refine (W9.out _).mono ?_;rintro e2 w2 ⟨rfl,rfl⟩;go_wp2_with fail
  go_region_with (go_at_call 10; refine (V9.out _).mono ?_; rintro e w' ⟨rfl,rfl⟩)
  all_goals go_wp2_with fail
  all_goals exact bodyPost_ret (v:=cv (r5 (Ka,.rg p (p+s)))) (by simp [results,V,go_sem,r5,kN,ko,kr,kT]) rfl ⟨by rw [K.out],(((U _ _).alloc (L _) _).alloc (by simp) _).drew⟩
 ·have K:=D (show kM n=.rg p (p+s) by rw [KD]; rfl);clear KD;go_enter ah,Y;go_wp2_with fail;refine (W3.out _).mono ?_;rintro e1 w1 ⟨rfl,rfl⟩;go_wp2_with fail;refine (W9.out _).mono ?_;rintro e2 w2 ⟨rfl,rfl⟩;go_wp2_with fail
  go_region_with (go_at_call 10; refine (V9.out _).mono ?_; rintro e w' ⟨rfl,rfl⟩)
  all_goals go_wp2_with fail
  all_goals exact bodyPost_ret (v:=cv (r5 (Ka,.rg p (p+s)))) (by simp [results,V,go_sem,r5,kN,ko,kr,kT]) rfl ⟨by rw [K.out],(((U _ _).alloc (L _) _).alloc (by simp) _).drew⟩
 ·have K:=D (show kM n=.tx (lV q) by rw [KD]; rfl);have tx:=TX.out;have d6:=D6.out;have d61:=d6.1;have d62:q<7:=by omega
  clear KD d6;go_enter ah,Y;go_wp2_with fail;refine (W3.out _).mono ?_;rintro e1 w1 ⟨rfl,rfl⟩;go_wp2_with fail
  go_region_with (first | (go_at_call 10; refine (W6.out _).mono ?_; rintro e w' ⟨rfl,rfl⟩) | (go_at_call 62; refine (qM _).mono ?_; rintro e w' ⟨rfl,rfl⟩))
  all_goals go_wp2_with fail
  all_goals exact bodyPost_ret (v:=cv (r5 (Ka,.tx (lV q)))) (by simp [results,V,go_sem,r5,kN,ko,kr,kT]) rfl ⟨by rw [K.out],((((U _ _).alloc (L _) _).alloc (by simp) _).alloc (by simp; omega) _).drew⟩
 ·have K:=D (show kM n=.pr (lV q) by rw [KD]; rfl);have tx:=TX.out;have d6:=D6.out;have d61:=d6.1;have d62:q<7:=by omega
  clear KD d6;go_enter ah,Y;go_wp2_with fail;refine (W3.out _).mono ?_;rintro e1 w1 ⟨rfl,rfl⟩;go_wp2_with fail
  go_region_with (first | (go_at_call 10; refine (W6.out _).mono ?_; rintro e w' ⟨rfl,rfl⟩) | (go_at_call 62; refine (qM _).mono ?_; rintro e w' ⟨rfl,rfl⟩))
  all_goals go_wp2_with fail
  all_goals exact bodyPost_ret (v:=cv (r5 (Ka,.pr (lV q)))) (by simp [results,V,go_sem,r5,kN,ko,kr,kT]) rfl ⟨by rw [K.out],((((U _ _).alloc (L _) _).alloc (by simp) _).alloc (by simp; omega) _).drew⟩
end Pr
namespace Pr
open Go.RowKit Pu Rw Va Kp In
def jB (has vals:List Int):Nat->List Cn
 | 0=>[]
 | i+1=>if i<has.length/\odd (has.getD i 0)=true/\(jB has vals i).length<5 then jB has vals i++[(nm i,kM (kG vals i))] else jB has vals i
theorem xS (has vals:List Int):∀ k,(jB has vals k).length<=k
 | 0=>L _
 | k+1=>by
  have h:=xS has vals k;simp only [jB]
  split
  ·simp; omega
  ·omega
theorem uO (has vals:List Int):∀ k,(jB has vals k).length<=5
 | 0=>by simp [jB]
 | k+1=>by
  have h:=uO has vals k;simp only [jB]
  split
  ·rename_i hc; simp; omega
  ·exact h
theorem lF (has vals:List Int):∀ k,∀ x∈jB has vals k,∃ i,i<k/\x.1=nm i
 | 0,x,h=>by simp [jB] at h
 | k+1,x,h=>by
  simp only [jB] at h
  split at h
  ·rcases List.mem_append.1 h with h|h
   ·obtain⟨i,h1,h2⟩:=lF has vals k x h;exact⟨i,by omega,h2⟩
   ·simp at h;exact⟨k,by omega,by rw [h]⟩
  ·obtain⟨i,h1,h2⟩:=lF has vals k x h;exact⟨i,by omega,h2⟩
theorem pU (has vals:List Int):∀ k,∀ x∈jB has vals k,fU x.2=true
 | 0,x,h=>by simp [jB] at h
 | k+1,x,h=>by
  simp only [jB] at h
  split at h
  ·rcases List.mem_append.1 h with h|h
   ·exact pU has vals k x h
   ·simp at h;rw [h]; exact zh _
  ·exact pU has vals k x h
theorem Fz (i j:Nat) (h:i<j) (hj:j<7):Op.bytesLess (nm i).toList (nm j).toList=true:=by
 rw [ByteArray.toList_eq,ByteArray.toList_eq];have:∀ j:Fin 7,∀ i:Fin 7,i.val<j.val->Op.bytesLess (nm i.val).data.toList (nm j.val).data.toList=true:=by decide
 exact this ⟨j,hj⟩ ⟨i,by omega⟩ h
theorem uP (has vals:List Int):∀ k,k<=7->qL (jB has vals k)
 | 0,_=>by simp [jB,qL]
 | k+1,hk=>by
  have h:=uP has vals k (by omega);simp only [jB]
  split
  ·refine List.pairwise_append.2 ⟨h,List.pairwise_singleton _ _,fun x hx y hy=>?_⟩;obtain⟨i,h1,h2⟩:=lF has vals k x hx;simp at hy;rw [hy,h2];exact Fz i k h1 (by omega)
  ·exact h
theorem BJ (w:World) (c:C5):ig (w.alloc (.cells #[.string c.1,.int .i64 c.2.1,.int .i64 c.2.2.1,.int .i64 c.2.2.2.1,.string c.2.2.2.2] 56)) (.slice (some ⟨w.heap.size,0,none⟩) 1 1) [c] :=
 Row.dG (jw Gs w [c] 1 rfl (by simp) _ rfl)
theorem BK (hv vv:Value) (has vals:List Int) (w:World) (hh:gL w hv has) (hw:gL w vv vals) (lh:has.length<=maxLen) (lv:vals.length<=maxLen) :
  Calls ay 8 #[.agg #[hv,vv]] w fun e w'=>∃ v,e=.returned v/\kE w' w.heap.size v ((jB has vals 7).map r5)/\Below w.heap.size w w':=by
 have HH:=D hh;have HW:=D hw;have LH:=D lh;have LV:=D lv;clear hh hw lh lv;go_enter Try.func8,Try.ntmps8;go_wp2_with fail;refine (yJ _).mono ?_;rintro e1 w1 ⟨rfl,rfl⟩;go_wp2
 go_loopw [3,8] (fun lv i wr=>∃ k:Nat,k<=7/\i=.int .i64 k/\kE wr (w.heap.size+2) lv ((jB has vals k).map r5) /\
  Below (w.heap.size+2) ((w.alloc (.cells #[hv,vv] 40)).alloc (.cells mR 9)) wr) (fun _ i _=>7-(intOf i).toNat)
 case atStart=>exact⟨0,by omega,rfl,gX _ _,U _ _⟩
 case round =>
  obtain⟨k,hk,rfl,hown,hb⟩:=hrel;have HO:=D hown;have HB:=D hb;have T0:Below w.heap.size w ((w.alloc (.cells #[hv,vv] 40)).alloc (.cells mR 9)):=((U _ _).alloc (L _) _).alloc (by simp) _;have BW:=D (T0.trans (hb.mono (by omega)));have hsz:w.heap.size+2<=wr.heap.size:=by have:=hb.size; simp at this; omega
  clear T0;obtain⟨ro,Rq,hrl⟩:=(Row.dG hown).len;rw [List.length_map] at hrl;have hl5:=xS has vals k;by_cases h7:k<7
  ·have n0:wr.cell? ⟨w.heap.size+1,k,none⟩=some (.string (nm k)):=by
    rw [hb.cell (p:=⟨w.heap.size+1,k,none⟩) (by simp),O _ _ _ _ (by simp)]; exact KG k h7
   have b0:wr.cell? ⟨w.heap.size,0,none⟩=some hv:=by
    rw [hb.cell (p:=⟨w.heap.size,0,none⟩) (by simp),Z _ _ _ (by simp),O _ _ _ _ rfl]; rfl
   have b1:wr.cell? ⟨w.heap.size,1,none⟩=some vv:=by
    rw [hb.cell (p:=⟨w.heap.size,1,none⟩) (by simp),Z _ _ _ (by simp),O _ _ _ _ rfl]; rfl
   have IH:=D (HH.out.on BW.out);obtain⟨ao,Rs,hsh⟩:=HH.out.shape;clear hb hown;subst hsh;subst hrl;have hkk:(k:Int)<7:=by omega
   by_cases h1:k<has.length
   ·obtain⟨y,hy⟩:∃ y,has[k]?=some y:=⟨_,List.getElem?_eq_getElem h1⟩;have hg:has.getD k 0=y:=by rw [List.getD_eq_getElem?_getD,hy]; rfl
    obtain⟨_,p,_,hix,hpc⟩:=IH.out.at_ k y hy;cases ho:odd y
    ·have T:=D (show jB has vals (k+1)=jB has vals k by simp only [jB]; rw [if_neg]; rintro⟨_,h2,_⟩; rw [hg,ho] at h2; cases h2);have hodd:(bits BinOp.and IntKind.i64 y 1 == 1)=false:=ho;clear ho hy hg;go_wp2
     go_roundw
     case rel=>exact⟨k+1,by omega,by go_num,by rw [T.out]; exact HO.out,HB.out⟩
     case measure=>simp [intOf]; omega
    ·have hodd:(bits BinOp.and IntKind.i64 y 1 == 1)=true:=ho;by_cases h5:(jB has vals k).length<5
     ·have T:=D (show (jB has vals (k+1)).map r5=(jB has vals k).map r5++[r5 (nm k,kM (kG vals k))] by simp only [jB]; rw [if_pos ⟨h1,by rw [hg,ho],h5⟩,List.map_append]; rfl);have PK:=D (fun (W:World) (hW:Below w.heap.size w W)=>Ao vv vals k W (HW.out.on hW) LV.out (by omega));have bd:=Ap HW.out k;have KV:=D (fun W=>pR (nm k) (kG vals k) W bd.1 bd.2);clear ho hy hg bd;go_wp2_with fail;refine (PK.out _ BW.out).mono ?_;rintro e1 w1 ⟨rfl,rfl⟩;go_wp2_with fail;refine (KV.out _).mono ?_;rintro e2 w2 ⟨rfl,hb2⟩;have B2:=D hb2;have O2:=D (dB HO.out hb2);have hs2:=hb2.size;clear hb2;generalize r5 (nm k,kM (kG vals k))=c at T ⊢;have Qe:=D (O2.out.alloc (.cells #[.string c.1,.int .i64 c.2.1,.int .i64 c.2.2.1,.int .i64 c.2.2.2.1,.string c.2.2.2.2] 56));obtain⟨v3,w3,r3,o3,g3⟩:=jg Gs (w.heap.size+2) Qe.out (BJ w2 c) (by simp; omega) (by simp) (by simp; omega) 35;have O3:=D o3;have hbel:Below (w.heap.size+2) wr w3:=((B2.out.mono hsz).alloc (by omega) _).grown g3 (by simp; omega) (fun j hj=>(Qe.out.lt j hj).1);have B3:=D (HB.out.trans hbel);clear o3 g3 hbel;go_wp2_with (first | (at_builtin; refine wpList_append_run rfl _ _ 35 rfl rfl rfl r3 ?_) | fail);clear r3;go_wp2
      go_roundw
      case rel=>exact⟨k+1,by omega,by go_num,by rw [T.out]; exact O3.out,B3.out⟩
      case measure=>simp [intOf]; omega
     ·have T:=D (show jB has vals (k+1)=jB has vals k by simp only [jB]; rw [if_neg]; rintro⟨_,_,h2⟩; exact h5 h2);clear ho hy hg;go_wp2
      go_roundw
      case rel=>exact⟨k+1,by omega,by go_num,by rw [T.out]; exact HO.out,HB.out⟩
      case measure=>simp [intOf]; omega
   ·have T:=D (show jB has vals (k+1)=jB has vals k by simp only [jB]; rw [if_neg]; rintro⟨h2,_⟩; exact h1 h2);go_wp2
    go_roundw
    case rel=>exact⟨k+1,by omega,by go_num,by rw [T.out]; exact HO.out,HB.out⟩
    case measure=>simp [intOf]; omega
  ·obtain rfl:k=7:=by omega
   clear hb hown;go_wp2;go_ret;exact⟨_,rfl,Aj (by omega) HO.out,BW.out⟩
end Pr
end Go.Proofs.Ytmklifheakemeaa
