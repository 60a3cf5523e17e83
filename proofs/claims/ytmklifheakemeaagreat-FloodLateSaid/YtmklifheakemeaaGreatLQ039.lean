/-
  Match and Covers of . Conditions as told.
-/
import Derived.Test.YtmklifheakemeaaGreatLQ028
import Derived.Test.YtmklifheakemeaaGreatLQ029
import Derived.Test.YtmklifheakemeaaGreatLQ032
set_option maxRecDepth 100000
set_option maxHeartbeats 64000000
open Go.IntKind renaming i64->L
open Go.Lib renaming hid->D
open Go.Value renaming string->J,int->K
namespace Go.Proofs.YtmklifheakemeaaGreat
namespace Rl
open Go.RowKit Go.Sort Pu Rw Pr Va
theorem Rk {α:Type} (f:α->Bool) (l:List α) (m:Nat) (h:l.length=m):(l.take m).all f=l.all f:=by rw [<- h,List.take_length]
theorem Fa (pv qv:Value) (p b:List Cn) (w:World) (hp:eY w pv (p.map r5)) (hl:eY w qv (b.map r5)) (np:NF p) (nb:NF b) :
  Calls Tryz.prog 156 #[pv,qv] w fun e w'=>e=.returned (.bool (lV p b))/\Below w.heap.size w w':=by
 have CO:=D (Jz (a:=p) nb.rise);have HP:=D hp;have HL:=D hl;have h5:b.length<=100:=by have:=nb.five; omega
 have GP:=D np.gQ;have GB:=D nb.gQ;have m5:p.length<=5:=np.five;obtain⟨ao,ac,rfl⟩:=hp.len;rw [List.length_map] at HP ⊢;generalize hm:p.length=m at *;have HM:=D hm;generalize lV p b=r at *;clear hp hl hm np nb;go_enter Tryz.func156,Tryz.ntmps156;go_wp2
 go_loopw [11] (fun i wr=>∃ k:Nat,k<=m/\i=K L k/\Below w.heap.size w wr/\(p.take k).all (Et b)=true) (fun i _=>m-(intOf i).toNat)
 case atStart=>exact⟨0,Nat.zero_le _,rfl,Below.refl _ _,rfl⟩
 case round =>
  obtain⟨k,hk,rfl,hb,hall⟩:=hrel;have HB:=D hb;have AL:=D hall;clear hb hall;by_cases hlt:k<m
  ·obtain⟨⟨xn,xk⟩,hx⟩:∃ x,p[k]?=some x:=⟨_,List.getElem?_eq_getElem (by rw [HM.out]; exact hlt)⟩;obtain⟨q,ix,px⟩:=Qi (x:=r5 (xn,xk)) HP.out rfl (by rw [List.length_map]; exact HM.out) (by rw [List.getElem?_map,hx]; rfl);obtain⟨p0,p1,p2,p3,p4⟩:=px _ HB.out;have MO:=D (AZ (Et b) p k (xn,xk) hx);have NO:=D (fun h=>Gn (Et b) p k (xn,xk) hx h);have GX:=D (GP.out _ (List.mem_of_getElem? hx));have BX:=D (show dI (wr.alloc (.cells #[J xn,K L (kN xk),K L (iJ xk),K L (iK xk),J (kT xk)] 70)) wr.heap.size (cells5 (xn,kN xk,iJ xk,iK xk,kT xk)).toArray 70 from dL wr _ _);have B1:=D (HB.out.alloc HB.out.size (.cells #[J xn,K L (kN xk),K L (iJ xk),K L (iK xk),J (kT xk)] 70));have G:=D (vU qv b xn (wr.alloc (.cells #[J xn,K L (kN xk),K L (iJ xk),K L (iK xk),J (kT xk)] 70)) (HL.out.on B1.out) h5);have GC:=D (show Et b (xn,xk)=match Qj b xn with
    | some y=>eF y.2 xk
    | none=>false from rfl)
   obtain⟨gg,hgg⟩:∃ g,Et b (xn,xk)=g:=⟨_,rfl⟩;rw [hgg] at GC MO NO;simp only [r5] at p0 p1 p2 p3 p4;clear hx px hgg;go_wp2_with fail;refine G.out.mono ?_;rintro e2 w2 ⟨he2,hb2⟩;have B2:=D (B1.out.trans (hb2.mono B1.out.size));obtain⟨x0,x1,x2,x3,x4⟩:=eH (BX.out.on hb2);simp only at x0 x1 x2 x3 x4;have hwl:wr.heap.size<w2.heap.size:=by have:=hb2.size; simp at this; omega
   rcases hg:Qj b xn with _|⟨yn,yk⟩
   ·rw [hg] at he2 GC;subst he2;have R:=D (show r=false by rw [CO.out]; exact NO.out GC.out);clear hb2 G B1 BX ix p0 p1 p2 p3 p4 hg;unfold Vq;go_wp2;go_ret;exact⟨dP R.out.symm,B2.out.alloc B2.out.size _⟩
   ·obtain⟨hm1,hm2⟩:=LG hg;obtain rfl:yn=xn:=hm2;rw [hg] at he2 GC;subst he2;have WC:=D (fun W=>JQ yn xk yk W GX.out (GB.out _ hm1));simp only [r5] at WC;clear hb2 G B1 BX ix p0 p1 p2 p3 p4 hg hm1;unfold Vq;simp only [r5];go_wp2_with fail;refine (WC.out _).mono ?_;rintro e3 w3 ⟨rfl,hb3⟩;have B3:=D ((B2.out.alloc B2.out.size (.cells #[J yn,K L (kN yk),K L (iJ yk),K L (iK yk),J (kT yk)] 70)).trans (hb3.mono (B2.out.alloc B2.out.size (.cells #[J yn,K L (kN yk),K L (iJ yk),K L (iK yk),J (kT yk)] 70)).size));rw [<- GC.out];clear hb3 B2 x0 x1 x2 x3 x4 hwl WC;cases gg
    ·have R:=D (show r=false by rw [CO.out]; exact NO.out rfl);go_wp2;go_ret;exact⟨dP R.out.symm,B3.out⟩
    ·go_wp2
     go_roundw
     case rel=>exact⟨k+1,by omega,by go_num,B3.out,by rw [MO.out,AL.out]; rfl⟩
     case measure=>simp [intOf]; omega
  ·obtain rfl:k=m:=by omega
   have R:=D (show r=true by rw [CO.out,<- Rk _ p _ HM.out]; exact AL.out);go_wp2;go_ret;exact⟨dP R.out.symm,HB.out⟩
end Rl
namespace Av
open Go.RowKit Go.Sort Rw YtmklifheakemeaaGreat.Nm Pr Bk
end Av
namespace Bk
open Go.RowKit Go.Sort Rw YtmklifheakemeaaGreat.Nm Pr
end Bk
namespace Av
open Go.RowKit Go.Sort Rw YtmklifheakemeaaGreat.Nm Pr Bk
end Av
end Go.Proofs.YtmklifheakemeaaGreat
