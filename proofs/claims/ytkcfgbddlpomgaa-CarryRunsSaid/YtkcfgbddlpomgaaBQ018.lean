/-
  The document's own M. Conditions as told.
-/
import Derived.Test.YtkcfgbddlpomgaaBQ016
import Derived.Test.YtkcfgbddlpomgaaBQ015
set_option maxRecDepth 100000
set_option maxHeartbeats 64000000
open Go.IntKind renaming i64->L
open Go.Lib renaming hid->J
open Go.Obj renaming cells->O
open Go.Value renaming string->D,int->K,bool->U
open _root_.Nat renaming le_refl->Q
namespace Go.Proofs.Ytkcfgbddlpomgaa
namespace Rl
open Go.RowKit Pu Rw Pr Va
end Rl
namespace Rl
open Go.RowKit Go.Sort Pu Rw Pr Va
end Rl
namespace Pr
open Go.RowKit Go.Sort Pu Rw Va
theorem nO {W:World} {b:Nat} {z:C5} (h:dh W b (cells5 z).toArray 38) (x:C5):dh (((((W.setCell ⟨b,0,none⟩ (D x.1)).setCell ⟨b,1,none⟩ (K L x.2.1)).setCell ⟨b,2,none⟩ (K L x.2.2.1)).setCell ⟨b,3,none⟩ (K L x.2.2.2.1)).setCell ⟨b,4,none⟩ (D x.2.2.2.2)) b (cells5 x).toArray 38:=by
 have h1:=heap_setCell_same W b 0 _ 38 (D x.1) h;have h2:=heap_setCell_same _ b 1 _ 38 (K L x.2.1) h1;have h3:=heap_setCell_same _ b 2 _ 38 (K L x.2.2.1) h2;have h4:=heap_setCell_same _ b 3 _ 38 (K L x.2.2.2.1) h3;have h5:=heap_setCell_same _ b 4 _ 38 (D x.2.2.2.2) h4;unfold dh;rw [h5];simp [cells5]
end Pr
namespace Rl
open Go.RowKit Go.Sort Pu Rw Pr Va
end Rl
namespace At
open Go.RowKit Va
abbrev V3:=Bool×Int×ByteArray
theorem iX {a b:ByteArray} (h:a.toList=b.toList):a=b:=by
 rw [ByteArray.toList_eq,ByteArray.toList_eq] at h;exact WideShapes.bytes_inj h
def kF:List A4->ByteArray->Option V3
 | [],_=>none
 | x::r,n=>if x.1=n then some x.2 else kF r n
theorem get_none:∀ (l:List A4) (n:ByteArray),(∀ x∈l,x.1≠n)->kF l n=none
 | [],_,_=>rfl
 | x::r,n,h=>by
  simp only [kF];rw [if_neg (h x (List.mem_cons_self ..)),get_none r n (fun y hy=>h y (List.mem_cons_of_mem _ hy))]
/-! ### the publications that numbers make -/
end At
namespace At
open Go.RowKit Go.Sort Va In
def rE:Option V3->Value
 | some v=>.tuple #[vl v.1 v.2.1 v.2.2,U true]
 | none=>.tuple #[vl false 0 ⟨#[]⟩,U false]
def Ea:Prop:=∀ (lv:Value) (l:List A4) (n:ByteArray) (w:World),oF w lv l->l.length<=100->n.size<=maxLen ->
 Calls Try.prog 72 #[lv,D n] w fun e w'=>e=.returned (rE (kF l n))/\Below w.heap.size w w'
end At
namespace Rl
open Go.RowKit Go.Sort Pu Rw Pr Va
abbrev z5:C5:=(⟨#[]⟩,0,0,0,⟨#[]⟩)
def BO:Option Cn->Value
 | some y=>.tuple #[cv (r5 y),U true]
 | none=>.tuple #[cv z5,U false]
theorem rF (pv:Value) (p:List Cn) (n:ByteArray) (w:World) (hp:gL w pv (p.map r5)) (_h100:p.length<=100) :
  Calls Try.prog 81 #[pv,D n] w fun e w'=>e=.returned (BO (zC p n))/\Below w.heap.size w w':=by
 have HP:=J hp;obtain⟨ao,ac,rfl⟩:=hp.len;rw [List.length_map] at HP ⊢;generalize hm:p.length=m at *;have HM:=J hm;clear hp hm;have B0:=J (show Below w.heap.size w (w.alloc (O #[D ⟨#[]⟩,K L 0,K L 0,K L 0,D ⟨#[]⟩] 38)) from (Below.refl _ _).alloc (Q _) _);have Z0:=J (show dh (w.alloc (O #[D ⟨#[]⟩,K L 0,K L 0,K L 0,D ⟨#[]⟩] 38)) w.heap.size (cells5 z5).toArray 38 from dB w _ _);go_enter Try.func81,Try.ntmps81;go_wp2;generalize w.alloc (O #[D ⟨#[]⟩,K L 0,K L 0,K L 0,D ⟨#[]⟩] 38)=w1 at B0 Z0 ⊢
 go_loopw [10] (fun i wr=>∃ k:Nat,k<=m/\i=K L k/\Below w.heap.size w wr/\dh wr w.heap.size (cells5 z5).toArray 38/\∀ (j:Nat) (y:Cn),j<k->p[j]?=some y->y.1≠n) (fun i _=>m-(intOf i).toNat)
 case atStart=>exact⟨0,Nat.zero_le _,rfl,B0.out,Z0.out,fun j y h=>by omega⟩
 case round =>
  obtain⟨k,hk,rfl,hb,ht,hall⟩:=hrel;have HB:=J hb;have HT:=J ht;have AL:=J hall;clear hb hall ht;by_cases hlt:k<m
  ·obtain⟨⟨xn,xk⟩,hx⟩:∃ x,p[k]?=some x:=⟨_,List.getElem?_eq_getElem (by rw [HM.out]; exact hlt)⟩;obtain⟨q,ix,px⟩:=Gf (x:=r5 (xn,xk)) HP.out rfl (by rw [List.length_map]; exact HM.out) (by rw [List.getElem?_map,hx]; rfl);obtain⟨p0,p1,p2,p3,p4⟩:=px _ HB.out;have HX:=J hx;have B4:=J (HB.out.alloc HB.out.size (O #[D xn,K L (kN xk),K L (jO xk),K L (jP xk),D (kT xk)] 38));have T4:=J (HT.out.more (O #[D xn,K L (kN xk),K L (jO xk),K L (jP xk),D (kT xk)] 38));clear hx px;simp only [r5] at p0 p1 p2 p3 p4;by_cases he:xn=n
   ·have hn:(xn.toList == n.toList)=true:=by rw [he]; exact beq_self_eq_true _
    have R:=J (D5 HX.out he AL.out);clear he;obtain⟨c0,c1,c2,c3,c4⟩:=dZ HT.out;have f0:=HT.out.fr 0;have f1:=HT.out.fr 1;have f2:=HT.out.fr 2;have f3:=HT.out.fr 3;have f4:=HT.out.fr 4;have BP:=HT.out.lt;simp only at c0 c1 c2 c3 c4;go_wp2;have T5:=(nO HT.out (xn,kN xk,jO xk,jP xk,kT xk)).more (O #[D xn,K L (kN xk),K L (jO xk),K L (jP xk),D (kT xk)] 38);have B5:=(fV HB.out w.heap.size (Q _) (D xn) (K L (kN xk)) (K L (jO xk)) (K L (jP xk)) (D (kT xk))).alloc (fV HB.out w.heap.size (Q _) (D xn) (K L (kN xk)) (K L (jO xk)) (K L (jP xk)) (D (kT xk))).size (O #[D xn,K L (kN xk),K L (jO xk),K L (jP xk),D (kT xk)] 38);generalize World.alloc _ (O #[D xn,K L (kN xk),K L (jO xk),K L (jP xk),D (kT xk)] 38)=w6 at T5 B5 ⊢;obtain⟨d0,d1,d2,d3,d4⟩:=dZ T5;simp only at d0 d1 d2 d3 d4;refine bodyPost_ret (v:=BO (some (xn,xk))) (by simp [results,Try.results81,go_sem,d0,d1,d2,d3,d4,BO,r5]) rfl ⟨by rw [R.out],B5⟩
   ·have hn:(xn.toList == n.toList)=false:=by rw [beq_eq_false_iff_ne]; exact fun h=>he (iX h)
    have HE:=J he;clear he;go_wp2
    go_roundw
    case rel=>exact⟨k+1,by omega,by go_num,B4.out,T4.out,fun j y hj hy=>by
     rcases Nat.lt_or_ge j k with h3|h3
     ·exact AL.out j y h3 hy
     ·obtain rfl:j=k:=by omega
      have e:=HX.out;rw [hy] at e;rw [Option.some.inj e];exact HE.out⟩
    case measure=>simp [intOf]; omega
  ·obtain rfl:k=m:=by omega
   have R:=J (zN (p:=p) (n:=n) (fun j y hj hy=>AL.out j y (by rw [<- HM.out]; exact hj) hy));obtain⟨c0,c1,c2,c3,c4⟩:=dZ HT.out;have f0:=HT.out.fr 0;have f1:=HT.out.fr 1;have f2:=HT.out.fr 2;have f3:=HT.out.fr 3;have f4:=HT.out.fr 4;have BP:=HT.out.lt;simp only at c0 c1 c2 c3 c4;go_wp2;have T5:=nO HT.out z5;have B5:=fV HB.out w.heap.size (Q _) (D ⟨#[]⟩) (K L 0) (K L 0) (K L 0) (D ⟨#[]⟩);simp only at T5;generalize World.setCell _ _ (D ⟨#[]⟩)=w6 at T5 B5 ⊢;obtain⟨d0,d1,d2,d3,d4⟩:=dZ T5;simp only at d0 d1 d2 d3 d4;refine bodyPost_ret (v:=BO none) (by simp [results,Try.results81,go_sem,d0,d1,d2,d3,d4,BO]) rfl ⟨by rw [R.out],B5⟩
theorem uU (n:ByteArray) (c d:Kd) (w:World) (hc:fJ c=true) (hd:fJ d=true) :
  Calls Try.prog 82 #[cv (r5 (n,c)),cv (r5 (n,d))] w fun e w'=>e=.returned (U (fF d c))/\Below w.heap.size w w':=by
 obtain⟨ba,bb,hb⟩:=xq w (r5 (n,c)) (r5 (n,d));have BB:=J bb;have B:=J hb;have CB:=J (xw (n,c) (n,d) ((w.alloc (O (cells5 (r5 (n,c))).toArray 38)).alloc (O (cells5 (r5 (n,d))).toArray 38)) rfl);have WS:=J (fun k (h:eu c d=some k)=>rC (n:=n) hc hd h);have WN:=J (fun (h:eu c d=none)=>rD hd h);simp only at CB;generalize eu c d=r at *;generalize fF d c=i at *;clear ba bb hb hc hd;simp only [r5] at CB ⊢;go_enter Try.func82,Try.ntmps82;go_wp2_with fail;refine CB.out.mono ?_;rintro e w2 ⟨⟨y,rfl,hy⟩,hb2⟩;have B2:=J (B.out.trans (hb2.mono B.out.size));obtain⟨b0,b1,b2,b3,b4⟩:=dZ (BB.out.on hb2);simp only [r5] at b0 b1 b2 b3 b4;have B3:=J (B2.out.alloc B2.out.size (O #[D y.1,K L y.2.1,K L y.2.2.1,K L y.2.2.2.1,D y.2.2.2.2] 38));have HY:=J hy;have hw2:w.heap.size+1<w2.heap.size:=by have:=hb2.size; simp at this; omega
 clear hb2 CB BB B hy;rcases r with _|k
 ·have E:=J (WN.out rfl);clear WN WS;go_wp2;go_ret;exact⟨dN E.out.symm,B3.out⟩
 ·have E:=J (show wO y (r5 (n,d))=i by rw [HY.out k rfl]; exact WS.out k rfl);obtain⟨y0,y1,y2,y3,y4⟩:=y;clear WN WS HY B3;go_wp2
  all_goals go_ret
  all_goals exact⟨dN (by rw [<- E.out]; simp [wO,r5, *]),B2.out.alloc B2.out.size _⟩
end Rl
end Go.Proofs.Ytkcfgbddlpomgaa
