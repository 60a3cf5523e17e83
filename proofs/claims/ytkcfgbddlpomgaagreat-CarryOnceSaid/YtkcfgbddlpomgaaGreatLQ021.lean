/-
  inEntries of package. Conditions as told.
-/
import Derived.Test.YtkcfgbddlpomgaaGreatLQ018
import Derived.Test.YtkcfgbddlpomgaaGreatLQ016
import Derived.Test.YtkcfgbddlpomgaaGreatLQ020
set_option maxRecDepth 100000
set_option maxHeartbeats 64000000
open Go.IntKind renaming i64->K
open Go.Lib renaming hid->D
open Go.Obj renaming cells->Q
open Go.Value renaming int->J,string->L,slice->O,bool->Z
open _root_.Nat renaming le_refl->U
open _root_.Option renaming none->V
namespace Go.Proofs.YtkcfgbddlpomgaaGreat
namespace Av
open Go.RowKit Go.Sort Rw YtkcfgbddlpomgaaGreat.Nm Pr Bk
def qW {α:Type} (c:α->α->Int):List α->Bool
 | x::y::l=>decide (c x y<0) && qW c (y::l)
 | _=>true
end Av
namespace Rl
open Go.RowKit Go.Sort Pu Rw Pr Va
abbrev z5:C5:=(⟨#[]⟩,0,0,0,⟨#[]⟩)
def ofV:Option Cn->Value
 | some y=>.tuple #[cv (r5 y),Z true]
 | none=>.tuple #[cv z5,Z false]
theorem D5 (pv:Value) (p:List Cn) (n:ByteArray) (w:World) (hp:fK w pv (p.map r5)) (_h100:p.length<=100) :
  Calls Tryz.prog 128 #[pv,L n] w fun e w'=>e=.returned (ofV (Vx p n))/\Below w.heap.size w w':=by
 have HP:=D hp;obtain⟨ao,ac,rfl⟩:=hp.len;rw [List.length_map] at HP ⊢;generalize hm:p.length=m at *;have HM:=D hm;clear hp hm;have B0:=D (show Below w.heap.size w (w.alloc (Q #[L ⟨#[]⟩,J K 0,J K 0,J K 0,L ⟨#[]⟩] 106)) from (Below.refl _ _).alloc (U _) _);have Z0:=D (show dI (w.alloc (Q #[L ⟨#[]⟩,J K 0,J K 0,J K 0,L ⟨#[]⟩] 106)) w.heap.size (cells5 z5).toArray 106 from dK w _ _);go_enter Tryz.func128,Tryz.ntmps128;go_wp2;generalize w.alloc (Q #[L ⟨#[]⟩,J K 0,J K 0,J K 0,L ⟨#[]⟩] 106)=w1 at B0 Z0 ⊢
 go_loopw [10] (fun i wr=>∃ k:Nat,k<=m/\i=J K k/\Below w.heap.size w wr/\dI wr w.heap.size (cells5 z5).toArray 106/\∀ (j:Nat) (y:Cn),j<k->p[j]?=some y->y.1≠n) (fun i _=>m-(intOf i).toNat)
 case atStart=>exact⟨0,Nat.zero_le _,rfl,B0.out,Z0.out,fun j y h=>by omega⟩
 case round =>
  obtain⟨k,hk,rfl,hb,ht,hall⟩:=hrel;have HB:=D hb;have HT:=D ht;have AL:=D hall;clear hb hall ht;by_cases hlt:k<m
  ·obtain⟨⟨xn,xk⟩,hx⟩:∃ x,p[k]?=some x:=⟨_,List.getElem?_eq_getElem (by rw [HM.out]; exact hlt)⟩;obtain⟨q,ix,px⟩:=elC (x:=r5 (xn,xk)) HP.out rfl (by rw [List.length_map]; exact HM.out) (by rw [List.getElem?_map,hx]; rfl);obtain⟨p0,p1,p2,p3,p4⟩:=px _ HB.out;have HX:=D hx;have B4:=D (HB.out.alloc HB.out.size (Q #[L xn,J K (kN xk),J K (jh xk),J K (ji xk),L (kT xk)] 106));have T4:=D (HT.out.more (Q #[L xn,J K (kN xk),J K (jh xk),J K (ji xk),L (kT xk)] 106));clear hx px;simp only [r5] at p0 p1 p2 p3 p4;by_cases he:xn=n
   ·have hn:(xn.toList == n.toList)=true:=by rw [he]; exact beq_self_eq_true _
    have R:=D (acB HX.out he AL.out);clear he;obtain⟨c0,c1,c2,c3,c4⟩:=eO HT.out;have f0:=HT.out.fr 0;have f1:=HT.out.fr 1;have f2:=HT.out.fr 2;have f3:=HT.out.fr 3;have f4:=HT.out.fr 4;have aaW:=HT.out.lt;simp only at c0 c1 c2 c3 c4;go_wp2;have T5:=(wE HT.out (xn,kN xk,jh xk,ji xk,kT xk)).more (Q #[L xn,J K (kN xk),J K (jh xk),J K (ji xk),L (kT xk)] 106);have B5:=(gX HB.out w.heap.size (U _) (L xn) (J K (kN xk)) (J K (jh xk)) (J K (ji xk)) (L (kT xk))).alloc (gX HB.out w.heap.size (U _) (L xn) (J K (kN xk)) (J K (jh xk)) (J K (ji xk)) (L (kT xk))).size (Q #[L xn,J K (kN xk),J K (jh xk),J K (ji xk),L (kT xk)] 106);generalize World.alloc _ (Q #[L xn,J K (kN xk),J K (jh xk),J K (ji xk),L (kT xk)] 106)=w6 at T5 B5 ⊢;obtain⟨d0,d1,d2,d3,d4⟩:=eO T5;simp only at d0 d1 d2 d3 d4;refine bodyPost_ret (v:=ofV (some (xn,xk))) (by simp [results,Tryz.results128,go_sem,d0,d1,d2,d3,d4,ofV,r5]) rfl ⟨by rw [R.out],B5⟩
   ·have hn:(xn.toList == n.toList)=false:=by rw [beq_eq_false_iff_ne]; exact fun h=>he (nO h)
    have HE:=D he;clear he;go_wp2
    go_roundw
    case rel=>exact⟨k+1,by omega,by go_num,B4.out,T4.out,fun j y hj hy=>by
     rcases Nat.lt_or_ge j k with h3|h3
     ·exact AL.out j y h3 hy
     ·obtain rfl:j=k:=by omega
      have e:=HX.out;rw [hy] at e;rw [Option.some.inj e];exact HE.out⟩
    case measure=>simp [intOf]; omega
  ·obtain rfl:k=m:=by omega
   have R:=D (Wh (p:=p) (n:=n) (fun j y hj hy=>AL.out j y (by rw [<- HM.out]; exact hj) hy));obtain⟨c0,c1,c2,c3,c4⟩:=eO HT.out;have f0:=HT.out.fr 0;have f1:=HT.out.fr 1;have f2:=HT.out.fr 2;have f3:=HT.out.fr 3;have f4:=HT.out.fr 4;have aaW:=HT.out.lt;simp only at c0 c1 c2 c3 c4;go_wp2;have T5:=wE HT.out z5;have B5:=gX HB.out w.heap.size (U _) (L ⟨#[]⟩) (J K 0) (J K 0) (J K 0) (L ⟨#[]⟩);simp only at T5;generalize World.setCell _ _ (L ⟨#[]⟩)=w6 at T5 B5 ⊢;obtain⟨d0,d1,d2,d3,d4⟩:=eO T5;simp only at d0 d1 d2 d3 d4;refine bodyPost_ret (v:=ofV V) (by simp [results,Tryz.results128,go_sem,d0,d1,d2,d3,d4,ofV]) rfl ⟨by rw [R.out],B5⟩
theorem NW (n:ByteArray) (c d:Kd) (w:World) (hc:iW c=true) (hd:iW d=true) :
  Calls Tryz.prog 129 #[cv (r5 (n,c)),cv (r5 (n,d))] w fun e w'=>e=.returned (Z (eB d c))/\Below w.heap.size w w':=by
 obtain⟨ba,bb,hb⟩:=QC w (r5 (n,c)) (r5 (n,d));have BB:=D bb;have B:=D hb;have CB:=D (Rs (n,c) (n,d) ((w.alloc (Q (cells5 (r5 (n,c))).toArray 106)).alloc (Q (cells5 (r5 (n,d))).toArray 106)) rfl);have WS:=D (fun k (h:eY c d=some k)=>Jt (n:=n) hc hd h);have WN:=D (fun (h:eY c d=V)=>Ju hd h);simp only at CB;generalize eY c d=r at *;generalize eB d c=i at *;clear ba bb hb hc hd;simp only [r5] at CB ⊢;go_enter Tryz.func129,Tryz.ntmps129;go_wp2_with fail;refine CB.out.mono ?_;rintro e w2 ⟨⟨y,rfl,hy⟩,hb2⟩;have B2:=D (B.out.trans (hb2.mono B.out.size));obtain⟨b0,b1,b2,b3,b4⟩:=eO (BB.out.on hb2);simp only [r5] at b0 b1 b2 b3 b4;have B3:=D (B2.out.alloc B2.out.size (Q #[L y.1,J K y.2.1,J K y.2.2.1,J K y.2.2.2.1,L y.2.2.2.2] 106));have HY:=D hy;have hw2:w.heap.size+1<w2.heap.size:=by have:=hb2.size; simp at this; omega
 clear hb2 CB BB B hy;rcases r with _|k
 ·have E:=D (WN.out rfl);clear WN WS;go_wp2;go_ret;exact⟨eP E.out.symm,B3.out⟩
 ·have E:=D (show PY y (r5 (n,d))=i by rw [HY.out k rfl]; exact WS.out k rfl);obtain⟨y0,y1,y2,y3,y4⟩:=y;clear WN WS HY B3;go_wp2
  all_goals go_ret
  all_goals exact⟨eP (by rw [<- E.out]; simp [PY,r5, *]),B2.out.alloc B2.out.size _⟩
end Rl
namespace Sb
open Go.RowKit Go.Sort Rw YtkcfgbddlpomgaaGreat.Nm Pr Bk Av
abbrev Gl (W:World) (b:Nat) (a0 a1 a2 a3 a4 a5 a6:Value):World:=((((((W.setCell ⟨b,0,V⟩ a0).setCell ⟨b,1,V⟩ a1).setCell ⟨b,2,V⟩ a2).setCell ⟨b,3,V⟩ a3).setCell ⟨b,4,V⟩ a4).setCell ⟨b,5,V⟩ a5).setCell ⟨b,6,V⟩ a6
theorem za {W:World} {b:Nat} {t:TypeId} {z0 z1 z2 z3 z4 z5 z6:Value} (h:dI W b #[z0,z1,z2,z3,z4,z5,z6] t) (a0 a1 a2 a3 a4 a5 a6:Value):dI (Gl W b a0 a1 a2 a3 a4 a5 a6) b #[a0,a1,a2,a3,a4,a5,a6] t:=by
 have h2:=dO (k:=6) (dO (k:=5) (dO (k:=4) (dO (k:=3) (dO (k:=2) (dO (k:=1) (dO (k:=0) h a0) a1) a2) a3) a4) a5) a6;simpa using h2
theorem uj {B:Nat} {W0 W:World} {b:Nat} (h:Below B W0 W) (hb:B<=b) (a0 a1 a2 a3 a4 a5 a6:Value):Below B W0 (Gl W b a0 a1 a2 a3 a4 a5 a6):=(((((((h).setCell (p:=⟨b,0,V⟩) hb a0).setCell (p:=⟨b,1,V⟩) hb a1).setCell (p:=⟨b,2,V⟩) hb a2).setCell (p:=⟨b,3,V⟩) hb a3).setCell (p:=⟨b,4,V⟩) hb a4).setCell (p:=⟨b,5,V⟩) hb a5).setCell (p:=⟨b,6,V⟩) hb a6
theorem Rt {α:Type} {E:Ek α} {W:World} {B:Nat} {v:Value} {l:List α} (h:Own E W B v l) (b:Nat) (hb:b<B) (a0 a1 a2 a3 a4 a5 a6:Value):Own E (Gl W b a0 a1 a2 a3 a4 a5 a6) B v l :=
 dY (dY (dY (dY (dY (dY (dY (h) b 0 a0 hb) b 1 a1 hb) b 2 a2 hb) b 3 a3 hb) b 4 a4 hb) b 5 a5 hb) b 6 a6 hb
theorem Gm (w:World) (b:Nat) (a0 a1 a2 a3 a4 a5 a6:Value):But b w (Gl w b a0 a1 a2 a3 a4 a5 a6) :=
 ((((((dR _ b _ _).trans (dR _ b _ _)).trans (dR _ b _ _)).trans (dR _ b _ _)).trans (dR _ b _ _)).trans (dR _ b _ _)).trans (dR _ b _ _)
theorem D7 (x:iF) (p:List C5) (w:World) (hp:fK w (dP x.2.2.2.2.1) p) (hl:p.length<=900) :
  Calls Tryz.prog 47 #[qZ x] w fun e w'=>(∃ v':Sl,e=.returned (qZ (x.1,x.2.1,x.2.2.1,x.2.2.2.1,v',x.2.2.2.2.2.1,x.2.2.2.2.2.2))/\jO w' w.heap.size (dP v') p)/\Below w.heap.size w w':=by
 obtain⟨y1,y2,y3,y4,⟨s1,s2,s3⟩,y6,y7⟩:=x;obtain⟨h0,X,Y⟩:=gQ w #[J K y1,J K y2,J K y3,J K y4,O s1 s2 s3,J K y6,Z y7] #[J K 0,J K 0,J K 0,J K 0,O V 0 0,J K 0,Z false] 68 68;have C:=D (qL (s1,s2,s3) p _ (hp.on h0) hl);have B:=D h0;have x4:=X.cell 4;simp only [List.getElem?_toArray,List.getElem?_cons_zero,List.getElem?_cons_succ] at x4;have X:=D X;have Y:=D Y;clear h0 hp hl;go_enter Tryz.func47,Tryz.ntmps47;go_wp2_with fail;generalize (w.alloc (Q #[J K y1,J K y2,J K y3,J K y4,O s1 s2 s3,J K y6,Z y7] 68)).alloc (Q #[J K 0,J K 0,J K 0,J K 0,O V 0 0,J K 0,Z false] 68)=W at *;refine C.out.mono ?_;rintro e w1 ⟨⟨⟨u1,u2,u3⟩,rfl,ho⟩,hb⟩;have X1:=X.out.on hb;have Y1:=Y.out.on hb;have hs:w.heap.size<W.heap.size:=X.out.lt;have O1:=D (dY ho w.heap.size 4 (O u1 u2 u3) hs);have XB:=D (show dI _ _ #[J K y1,J K y2,J K y3,J K y4,O u1 u2 u3,J K y6,Z y7] _ from by simpa using dO (k:=4) X1 (O u1 u2 u3));have YB:=D (show dI _ _ _ _ from (RowKit.Below.heap_setCell w1 ⟨w.heap.size,4,V⟩ (O u1 u2 u3) _ (show w.heap.size+1≠w.heap.size by omega)).trans Y1);have B1:=D ((B.out.trans (hb.mono B.out.size)).setCell (p:=⟨w.heap.size,4,V⟩) (U _) (O u1 u2 u3));have y4':=X1.cell 4;have f4:=X1.fr 4;have z4:=X1.lt;simp only [List.getElem?_toArray,List.getElem?_cons_zero,List.getElem?_cons_succ] at y4';clear X1 Y1 ho hb x4 C;go_upto_region 2 with fail;clear y4' f4 z4;generalize w1.setCell ⟨w.heap.size,4,V⟩ (O u1 u2 u3)=w2 at *;obtain⟨x0,x1,x2,x3,x4,x5,x6⟩:=XB.out.oq;obtain⟨r0,r1,r2,r3,r4,r5,r6⟩:=YB.out.oq;obtain⟨t0,t1,t2,t3,t4,t5,t6⟩:=YB.out.fs7;have zz:=YB.out.lt;have hs2:w.heap.size+1<W.heap.size:=Y.out.lt;have FB:=D (za YB.out (J K y1) (J K y2) (J K y3) (J K y4) (O u1 u2 u3) (J K y6) (Z y7));have BL:=D (uj (b:=w.heap.size+1) B1.out (by omega) (J K y1) (J K y2) (J K y3) (J K y4) (O u1 u2 u3) (J K y6) (Z y7));have FO:=D (Rt O1.out (w.heap.size+1) hs2 (J K y1) (J K y2) (J K y3) (J K y4) (O u1 u2 u3) (J K y6) (Z y7));have HS:=D hs;clear hs hs2;go_wp2_with fail;obtain⟨v0,v1,v2,v3,v4,v5,v6⟩:=FB.out.oq;refine bodyPost_ret (v:=.agg #[J K y1,J K y2,J K y3,J K y4,O u1 u2 u3,J K y6,Z y7]) (by simp [results,Tryz.results47,go_sem,v0,v1,v2,v3,v4,v5,v6]) rfl ?_;exact⟨⟨(u1,u2,u3),rfl,dG FO.out (Nat.le_of_lt HS.out)⟩,BL.out⟩
end Sb
end Go.Proofs.YtkcfgbddlpomgaaGreat
