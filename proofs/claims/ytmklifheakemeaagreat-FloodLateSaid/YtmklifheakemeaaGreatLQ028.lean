/-
  The last region of O. Conditions as told.
-/
import Derived.Test.YtmklifheakemeaaGreatLQ027
import Derived.Test.YtmklifheakemeaaGreatLQ025
set_option maxRecDepth 100000
set_option maxHeartbeats 64000000
open Go.IntKind renaming i64->O
open Go.Lib renaming hid->J
open Go.Obj renaming cells->Q
open Go.Value renaming string->D,int->L,bool->V
open _root_.Nat renaming le_refl->U
namespace Go.Proofs.YtmklifheakemeaaGreat
namespace Bk
open Go.RowKit Go.Sort Rw YtmklifheakemeaaGreat.Nm Pr
theorem jX {W W':World} {k:Nat} {me:Int} {s1 s2 s3 s4 s5:Sl} {s:Sl} {m:List Ou} (h:iZ W s m) (hb:dI W k (jl me s1 s2 s3 s4 s5) 28) (hk:∀ j,j<W.heap.size->j≠k->W'.heap[j]?=W.heap[j]?):iZ W' s m:=by
 obtain⟨xs,h1,h2⟩:=h;exact⟨xs,iH QF h1 hk (kQ hb (fun c=>⟨_,_,rfl,rfl⟩) (lW me s1 s2 s3 s4 s5)),h2.mono fun x a hx=>⟨hx.1,hx.2.1,hx.2.2.1,hx.2.2.2.1,iH p9 hx.2.2.2.2.1 hk (oV hb (oW me s1 s2 s3 s4 s5)),hx.2.2.2.2.2⟩⟩
theorem MI {α:Type} {E:Ek α} (K:E.Ok) {w:World} (B:Nat) {v x:Value} {l m:List α} (hown:Own E w B v l) (hx:Row E w x m) (hn:l.length<=1000000) (hm:m.length<=1000000) (hB:B<=w.heap.size) (ty:TypeId) :
  ∃ v' w',(Builtin.append_ #[E.ts,E.ts] ty #[v,x]).run Tryz.prog w=.ok v' w'/\Own E w' B v' (l++m)/\w.grownBy w' v.ownBlock:=by
 obtain⟨i,i1,i2,i3,i4⟩:=K.info;rcases hx with⟨rfl,rfl⟩|⟨ad,c,rfl,h2,h3,h4⟩
 ·exact⟨v,w,run_append_owned_none (P:=Tryz.prog) (w:=w) B E.ts ty E.t i E.n K.hu i1 v _ _ hown,by simpa using hown,nD _ _⟩
 ·have hf:=K.few;obtain⟨v',w',r1,r2,r3,_⟩:=run_append_own (P:=Tryz.prog) w B E.ts ty E.t i E.z E.n E.bytes K.hu i1 i2 i3 i4 K.zs K.pos v _ _ hown ad m.length c (flat E m) (dQ K m) h4 (mD K m) (by unfold maxLen; omega)
   (Nat.le_trans (Nat.mul_le_mul (show l.length+m.length<=2000000 by omega) hf) (by decide)) hB
  exact⟨v',w',r1,by rw [Own,List.length_append,gD]; exact r2,r3⟩
theorem MJ {W W':World} {k:Nat} {me:Int} {s1 s2 s3 s4 s5:Sl} {l:List mg} {m:List Ou} (h:eZ (sP W) l m) (hb:dI W k (jl me s1 s2 s3 s4 s5) 28) (hk:∀ j,j<W.heap.size->j≠k->W'.heap[j]?=W.heap[j]?):eZ (sP W') l m :=
 h.mono fun _ _ hx=>⟨hx.1,hx.2.1,hx.2.2.1,hx.2.2.2.1,iH p9 hx.2.2.2.2.1 hk (oV hb (oW me s1 s2 s3 s4 s5)),hx.2.2.2.2.2⟩
end Bk
namespace Rl
open Go.RowKit Go.Sort Pu Rw Pr Va
abbrev z5:C5:=(⟨#[]⟩,0,0,0,⟨#[]⟩)
def Vq:Option Cn->Value
 | some y=>.tuple #[cv (r5 y),V true]
 | none=>.tuple #[cv z5,V false]
theorem vU (pv:Value) (p:List Cn) (n:ByteArray) (w:World) (hp:eY w pv (p.map r5)) (_h100:p.length<=100) :
  Calls Tryz.prog 176 #[pv,D n] w fun e w'=>e=.returned (Vq (Qj p n))/\Below w.heap.size w w':=by
 have HP:=J hp;obtain⟨ao,ac,rfl⟩:=hp.len;rw [List.length_map] at HP ⊢;generalize hm:p.length=m at *;have HM:=J hm;clear hp hm;have B0:=J (show Below w.heap.size w (w.alloc (Q #[D ⟨#[]⟩,L O 0,L O 0,L O 0,D ⟨#[]⟩] 70)) from (Below.refl _ _).alloc (U _) _);have Z0:=J (show dI (w.alloc (Q #[D ⟨#[]⟩,L O 0,L O 0,L O 0,D ⟨#[]⟩] 70)) w.heap.size (cells5 z5).toArray 70 from dL w _ _);go_enter Tryz.func176,Tryz.ntmps176;go_wp2;generalize w.alloc (Q #[D ⟨#[]⟩,L O 0,L O 0,L O 0,D ⟨#[]⟩] 70)=w1 at B0 Z0 ⊢
 go_loopw [10] (fun i wr=>∃ k:Nat,k<=m/\i=L O k/\Below w.heap.size w wr/\dI wr w.heap.size (cells5 z5).toArray 70/\∀ (j:Nat) (y:Cn),j<k->p[j]?=some y->y.1≠n) (fun i _=>m-(intOf i).toNat)
 case atStart=>exact⟨0,Nat.zero_le _,rfl,B0.out,Z0.out,fun j y h=>by omega⟩
 case round =>
  obtain⟨k,hk,rfl,hb,ht,hall⟩:=hrel;have HB:=J hb;have HT:=J ht;have AL:=J hall;clear hb hall ht;by_cases hlt:k<m
  ·obtain⟨⟨xn,xk⟩,hx⟩:∃ x,p[k]?=some x:=⟨_,List.getElem?_eq_getElem (by rw [HM.out]; exact hlt)⟩;obtain⟨q,ix,px⟩:=Qi (x:=r5 (xn,xk)) HP.out rfl (by rw [List.length_map]; exact HM.out) (by rw [List.getElem?_map,hx]; rfl);obtain⟨p0,p1,p2,p3,p4⟩:=px _ HB.out;have HX:=J hx;have B4:=J (HB.out.alloc HB.out.size (Q #[D xn,L O (kN xk),L O (iJ xk),L O (iK xk),D (kT xk)] 70));have T4:=J (HT.out.more (Q #[D xn,L O (kN xk),L O (iJ xk),L O (iK xk),D (kT xk)] 70));clear hx px;simp only [r5] at p0 p1 p2 p3 p4;by_cases he:xn=n
   ·have hn:(xn.toList == n.toList)=true:=by rw [he]; exact beq_self_eq_true _
    have R:=J (XM HX.out he AL.out);clear he;obtain⟨c0,c1,c2,c3,c4⟩:=eH HT.out;have f0:=HT.out.fr 0;have f1:=HT.out.fr 1;have f2:=HT.out.fr 2;have f3:=HT.out.fr 3;have f4:=HT.out.fr 4;have abl:=HT.out.lt;simp only at c0 c1 c2 c3 c4;go_wp2;have T5:=(o9 HT.out (xn,kN xk,iJ xk,iK xk,kT xk)).more (Q #[D xn,L O (kN xk),L O (iJ xk),L O (iK xk),D (kT xk)] 70);have B5:=(gL HB.out w.heap.size (U _) (D xn) (L O (kN xk)) (L O (iJ xk)) (L O (iK xk)) (D (kT xk))).alloc (gL HB.out w.heap.size (U _) (D xn) (L O (kN xk)) (L O (iJ xk)) (L O (iK xk)) (D (kT xk))).size (Q #[D xn,L O (kN xk),L O (iJ xk),L O (iK xk),D (kT xk)] 70);generalize World.alloc _ (Q #[D xn,L O (kN xk),L O (iJ xk),L O (iK xk),D (kT xk)] 70)=w6 at T5 B5 ⊢;obtain⟨d0,d1,d2,d3,d4⟩:=eH T5;simp only at d0 d1 d2 d3 d4;refine bodyPost_ret (v:=Vq (some (xn,xk))) (by simp [results,Tryz.results176,go_sem,d0,d1,d2,d3,d4,Vq,r5]) rfl ⟨by rw [R.out],B5⟩
   ·have hn:(xn.toList == n.toList)=false:=by rw [beq_eq_false_iff_ne]; exact fun h=>he (nX h)
    have HE:=J he;clear he;go_wp2
    go_roundw
    case rel=>exact⟨k+1,by omega,by go_num,B4.out,T4.out,fun j y hj hy=>by
     rcases Nat.lt_or_ge j k with h3|h3
     ·exact AL.out j y h3 hy
     ·obtain rfl:j=k:=by omega
      have e:=HX.out;rw [hy] at e;rw [Option.some.inj e];exact HE.out⟩
    case measure=>simp [intOf]; omega
  ·obtain rfl:k=m:=by omega
   have R:=J (QN (p:=p) (n:=n) (fun j y hj hy=>AL.out j y (by rw [<- HM.out]; exact hj) hy));obtain⟨c0,c1,c2,c3,c4⟩:=eH HT.out;have f0:=HT.out.fr 0;have f1:=HT.out.fr 1;have f2:=HT.out.fr 2;have f3:=HT.out.fr 3;have f4:=HT.out.fr 4;have abl:=HT.out.lt;simp only at c0 c1 c2 c3 c4;go_wp2;have T5:=o9 HT.out z5;have B5:=gL HB.out w.heap.size (U _) (D ⟨#[]⟩) (L O 0) (L O 0) (L O 0) (D ⟨#[]⟩);simp only at T5;generalize World.setCell _ _ (D ⟨#[]⟩)=w6 at T5 B5 ⊢;obtain⟨d0,d1,d2,d3,d4⟩:=eH T5;simp only at d0 d1 d2 d3 d4;refine bodyPost_ret (v:=Vq none) (by simp [results,Tryz.results176,go_sem,d0,d1,d2,d3,d4,Vq]) rfl ⟨by rw [R.out],B5⟩
theorem JQ (n:ByteArray) (c d:Kd) (w:World) (hc:gQ c=true) (hd:gQ d=true) :
  Calls Tryz.prog 177 #[cv (r5 (n,c)),cv (r5 (n,d))] w fun e w'=>e=.returned (V (eF d c))/\Below w.heap.size w w':=by
 obtain⟨ba,bb,hb⟩:=KX w (r5 (n,c)) (r5 (n,d));have BB:=J bb;have B:=J hb;have CB:=J (Bg (n,c) (n,d) ((w.alloc (Q (cells5 (r5 (n,c))).toArray 70)).alloc (Q (cells5 (r5 (n,d))).toArray 70)) rfl);have WS:=J (fun k (h:eX c d=some k)=>Eu (n:=n) hc hd h);have WN:=J (fun (h:eX c d=none)=>Ev hd h);simp only at CB;generalize eX c d=r at *;generalize eF d c=i at *;clear ba bb hb hc hd;simp only [r5] at CB ⊢;go_enter Tryz.func177,Tryz.ntmps177;go_wp2_with fail;refine CB.out.mono ?_;rintro e w2 ⟨⟨y,rfl,hy⟩,hb2⟩;have B2:=J (B.out.trans (hb2.mono B.out.size));obtain⟨b0,b1,b2,b3,b4⟩:=eH (BB.out.on hb2);simp only [r5] at b0 b1 b2 b3 b4;have B3:=J (B2.out.alloc B2.out.size (Q #[D y.1,L O y.2.1,L O y.2.2.1,L O y.2.2.2.1,D y.2.2.2.2] 70));have HY:=J hy;have hw2:w.heap.size+1<w2.heap.size:=by have:=hb2.size; simp at this; omega
 clear hb2 CB BB B hy;rcases r with _|k
 ·have E:=J (WN.out rfl);clear WN WS;go_wp2;go_ret;exact⟨dP E.out.symm,B3.out⟩
 ·have E:=J (show uE y (r5 (n,d))=i by rw [HY.out k rfl]; exact WS.out k rfl);obtain⟨y0,y1,y2,y3,y4⟩:=y;clear WN WS HY B3;go_wp2
  all_goals go_ret
  all_goals exact⟨dP (by rw [<- E.out]; simp [uE,r5, *]),B2.out.alloc B2.out.size _⟩
end Rl
end Go.Proofs.YtmklifheakemeaaGreat
