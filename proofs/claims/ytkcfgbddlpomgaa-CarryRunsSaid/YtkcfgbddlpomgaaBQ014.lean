/-
  The region of Add th. Conditions as told.
-/
import Derived.Test.YtkcfgbddlpomgaaBQ006
import Derived.Maps.OwnSet
import Derived.DeepKeys4
import Derived.KernelRfl
import Derived.Lib.Bytealg
import Derived.Test.YtkcfgbddlpomgaaBQ011
import Derived.Deep.LoopGhost
set_option maxRecDepth 100000
set_option maxHeartbeats 64000000
open Go.IntKind renaming i64->K
open Go.Lib renaming hid->D
open Go.Value renaming int->J,slice->L
namespace Go.Proofs.Ytkcfgbddlpomgaa
namespace Bk
open Go.RowKit Rw Ytkcfgbddlpomgaa.Nm Pr
end Bk
namespace Av
open Go.RowKit Rw Ytkcfgbddlpomgaa.Nm Pr Bk
theorem ru (l:List dI) (x:dI) (h:∀ (j:Nat) (y:dI),l[j]?=some y->y≠x):d9 l x=-1:=by
 induction l with
 | nil=>rfl
 | cons a l ih =>
  rw [d9,if_neg (h 0 a rfl),ih fun j y hj=>h (j+1) y (by simpa using hj),if_pos rfl]
theorem xB (l:List dI) (k:Nat) (x:dI) (h:l[k]?=some x) (hall:∀ (j:Nat) (z:dI),j<k->l[j]?=some z->z≠x):d9 l x=k:=by
 induction l generalizing k with
 | nil=>simp at h
 | cons a l ih =>
  cases k with
  | zero =>
   obtain rfl:a=x:=by simpa using h
   rw [d9,if_pos rfl]
   rfl
  | succ k =>
   have h2:=ih k (by simpa using h) fun j z hj hz=>hall (j+1) z (by omega) (by simpa using hz);rw [d9,if_neg (hall 0 a (by omega) rfl),h2,if_neg (by omega)];omega
theorem pV (l:List dI) (x:dI):decide ((0:Int)<=d9 l x)=decide (x∈l):=by
 induction l with
 | nil=>simp [d9]
 | cons a l ih =>
  have hb:=jR l x;rw [d9];by_cases h:a=x
  ·rw [if_pos h]; simp [h]
  ·rw [if_neg h];have h':¬ x=a:=fun e=>h e.symm;simp only [List.mem_cons,h',false_or];rw [<- ih];by_cases h2:d9 l x=-1
   ·rw [if_pos h2,h2]
   ·rw [if_neg h2];have h3:0<=d9 l x:=by omega
    have h4:0<=d9 l x+1:=by omega
    simp [h3,h4]
theorem uP (sv:Sl) (l:List dI) (x:dI) (w:World) (hs:oq w (dz sv) l) :
  Calls Try.prog 51 #[dz sv,lq x] w fun e w'=>e=.returned (J K (d9 l x))/\Below w.heap.size w w':=by
 obtain⟨c,d⟩:=x;obtain⟨so,sn,sc⟩:=sv;obtain⟨ao,ac,hv⟩:=hs.len;have hv:L so sn sc=L ao l.length ac:=hv;obtain⟨rfl,rfl,rfl⟩:so=ao/\sn=l.length/\sc=ac:=by simpa using hv
 have h0:=fK w (.cells #[J K c,J K d] 23);have h2:=dB w #[J K c,J K d] 23;have B:=D h0;have HS:=D (hs.on h0);have X3:=D h2;have lm:=hs.most;unfold maxLen at lm;obtain⟨n,hn⟩:∃ n,n=l.length:=⟨_,rfl⟩;rw [<- hn] at HS lm ⊢;have HN:=D hn.symm;clear h0 h2 hs hv hn;go_enter Try.func51,Try.ntmps51;go_upto_region 1 with fail;generalize w.alloc (.cells #[J K c,J K d] 23)=W at *;go_wp2
 go_loopw [8] (fun i wr=>∃ k:Nat,k<=n/\i=J K k/\Below W.heap.size W wr/\∀ (j:Nat) (y:dI),j<k->l[j]?=some y->y≠(c,d)) (fun i _=>n-(intOf i).toNat)
 case atStart=>exact⟨0,Nat.zero_le _,rfl,Below.refl _ _,fun j y h=>by omega⟩
 case round =>
  obtain⟨k,hk,rfl,hbe,hall⟩:=hrel;have BE:=D hbe;have AL:=D hall;clear hbe hall;by_cases hlt:k<n
  ·obtain⟨y,hy⟩:∃ y,l[k]?=some y:=⟨_,List.getElem?_eq_getElem (by rw [HN.out]; exact hlt)⟩;obtain⟨p,ix,px⟩:=Ie HS.out rfl HN.out hy;have DD:Below W.heap.size W wr.drew:=BE.out.drew;obtain⟨p0,p1⟩:=px wr BE.out;obtain⟨y1,y2⟩:=y;simp only at p0 p1;obtain⟨x0,x1⟩:=(X3.out.on BE.out).cs2;have hw3:IntKind.i64.wrap ((k:Int)+1)=(k:Int)+1:=IntWalk.i64_in _ (by omega);obtain⟨r,hr⟩:∃ r,(c == y1 && d == y2)=r:=⟨_,rfl⟩;have he:=uy c d y1 y2 r hr;have DB:=D DD;have HY:=D hy;have HR:=D hr;clear px hy hr DD;cases r
   ·go_wp2_with fail
    go_quiet (fail)
    go_wp2
    go_roundw
    case rel=>exact⟨k+1,by omega,by go_num,⟨BE.out.os,BE.out.tape,BE.out.output,BE.out.size,BE.out.block⟩,fun j y' hj h1=>by
     rcases Nat.lt_or_ge j k with h3|h3
     ·exact AL.out j y' h3 h1
     ·obtain rfl:j=k:=by omega
      have e1:=HY.out;rw [h1] at e1;rw [Option.some.inj e1];intro e;obtain⟨rfl,rfl⟩:y1=c/\y2=d:=by simpa using e
      have:=HR.out;simp at this⟩
    case measure=>simp [intOf]; omega
   ·go_wp2_with fail
    go_quiet (fail)
    go_wp2;go_ret;have h8:=HR.out;obtain⟨rfl,rfl⟩:c=y1/\d=y2:=by simpa using h8
    exact⟨by rw [xB l k (c,d) HY.out AL.out]; rfl,B.out.trans (Below.mono ⟨BE.out.os,BE.out.tape,BE.out.output,BE.out.size,BE.out.block⟩ B.out.size)⟩
  ·obtain rfl:k=n:=by omega
   go_wp2;go_ret;have hd:d9 l (c,d)=-1:=ru l (c,d) fun j y hj=>AL.out j y (by rw [<- HN.out]; exact (List.getElem?_eq_some_iff.1 hj).1) hj;exact⟨by rw [hd]; rfl,B.out.trans (BE.out.mono B.out.size)⟩
theorem oH (sv:Sl) (l:List dI) (x:dI) (w:World) (hs:oq w (dz sv) l) :
  Calls Try.prog 27 #[dz sv,lq x] w fun e w'=>e=.returned (.bool (decide (x∈l)))/\Below w.heap.size w w':=by
 have h0:=fK w (.cells #[J K x.1,J K x.2] 23);have h2:=dB w #[J K x.1,J K x.2] 23;have C:=uP sv l x _ (hs.on h0);have R:=D (pV l x);obtain⟨c,d⟩:=x;obtain⟨so,sn,sc⟩:=sv;have B:=D h0;obtain⟨x0,x1⟩:=h2.cs2;generalize d9 l (c,d)=r at *;generalize decide ((c,d)∈l)=s at *;clear h0 h2 hs;go_enter Try.func27,Try.ntmps27;go_wp2_with fail;refine C.mono ?_;rintro e w1 ⟨rfl,hb⟩;go_wp2;go_ret;exact⟨by have h:=R.out; subst h; rfl,B.out.trans (hb.mono B.out.size)⟩
theorem uQ (me:Int) (nv av ev ov:Value) (sv:Sl) (l:List dI) (x:dI) (w:World) (hs:oq w (dz sv) l) :
  Calls Try.prog 8 #[.agg #[J K me,nv,av,dz sv,ev,ov],lq x] w fun e w'=>e=.returned (.bool (decide (x∈l)))/\Below w.heap.size w w':=by
 obtain⟨h0,h1,h2⟩:=eX w #[J K me,nv,av,dz sv,ev,ov] #[J K x.1,J K x.2] 30 23;have C:=oH sv l x _ (hs.on h0);obtain⟨c,d⟩:=x;obtain⟨so,sn,sc⟩:=sv;have B:=D h0;have b3:=h1.cell 3;obtain⟨x0,x1⟩:=h2.cs2;simp only [List.getElem?_toArray,List.getElem?_cons_zero,List.getElem?_cons_succ] at b3;generalize decide ((c,d)∈l)=s at *;clear h0 h1 h2 hs;go_enter Try.func8,Try.ntmps8;go_wp2_with fail;refine C.mono ?_;rintro e w1 ⟨rfl,hb⟩;go_wp2;go_ret;exact⟨rfl,B.out.trans (hb.mono B.out.size)⟩
end Av
namespace Av
open Go.RowKit Rw Bk Go.Maps Go.ChangeMaps
end Av
namespace Pr
open Go.RowKit Pu
end Pr
namespace Pr
open Go.RowKit Go.Sort Pu Rw Va
end Pr
end Go.Proofs.Ytkcfgbddlpomgaa
