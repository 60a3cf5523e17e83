/-
  of, wider, one of pa. Conditions as told.
-/
import Derived.Test.YtmklifheakemeaaGreatCQ033
import Derived.Test.YtmklifheakemeaaGreatCQ027
import Derived.Test.YtmklifheakemeaaGreatCQ029
set_option maxRecDepth 100000
set_option maxHeartbeats 64000000
open _root_.Go renaming Value->aF,World->aG,Calls->aN
open Go.Ending renaming returned->Z
open Go.IntKind renaming i64->U
open Go.Lib renaming hid->J
open Go.Obj renaming cells->Y
open Go.Operand renaming tmp->aH
open Go.Proofs.Tryz renaming prog->aA,results176->aL
open Go.RowKit.Below renaming refl->ah
open Go.Value renaming string->L,int->O,pointer->X,slice->aD,bool->aJ,agg->aO
open _root_.List renaming length_map->V,getElem?_eq_getElem->aj,getElem?_map->ay,mem_of_getElem?->aC,getElem?_toArray->aI,mem_append->aM
open _root_.Nat renaming le_refl->aB,zero_le->aK
open _root_.Option renaming some->ak,none->au
namespace Go.Proofs.YtmklifheakemeaaGreat
namespace Rl
open Go.RowKit Go.Sort Pu Rw Pr Va
abbrev z5:C5:=(⟨#[]⟩,0,0,0,⟨#[]⟩)
def ofV:Option Cn->aF
 | some y=>.tuple #[cv (r5 y),aJ true]
 | none=>.tuple #[cv z5,aJ false]
theorem agB (pv:aF) (p:List Cn) (n:ByteArray) (w:aG) (hp:fK w pv (p.map r5)) (_h100:p.length<=100) :
  aN aA 176 #[pv,L n] w fun e w'=>e=Z (ofV (ZR p n))/\Below w.heap.size w w':=by
 have HP:=J hp;obtain⟨ao,ac,rfl⟩:=hp.len;rw [V] at HP ⊢;generalize hm:p.length=m at *;have HM:=J hm;clear hp hm;have B0:=J (show Below w.heap.size w (w.alloc (Y #[L ⟨#[]⟩,O U 0,O U 0,O U 0,L ⟨#[]⟩] 70)) from (ah _ _).alloc (aB _) _);have Z0:=J (show dJ (w.alloc (Y #[L ⟨#[]⟩,O U 0,O U 0,O U 0,L ⟨#[]⟩] 70)) w.heap.size (cells5 z5).toArray 70 from dO w _ _);go_enter Tryz.func176,Tryz.ntmps176;go_wp2;generalize w.alloc (Y #[L ⟨#[]⟩,O U 0,O U 0,O U 0,L ⟨#[]⟩] 70)=w1 at B0 Z0 ⊢
 go_loopw [10] (fun i wr=>∃ k:Nat,k<=m/\i=O U k/\Below w.heap.size w wr/\dJ wr w.heap.size (cells5 z5).toArray 70/\∀ (j:Nat) (y:Cn),j<k->p[j]?=ak y->y.1≠n) (fun i _=>m-(intOf i).toNat)
 case atStart=>exact⟨0,aK _,rfl,B0.out,Z0.out,fun j y h=>by omega⟩
 case round =>
  obtain⟨k,hk,rfl,hb,ht,hall⟩:=hrel;have HB:=J hb;have HT:=J ht;have AL:=J hall;clear hb hall ht;by_cases hlt:k<m
  ·obtain⟨⟨xn,xk⟩,hx⟩:∃ x,p[k]?=ak x:=⟨_,aj (by rw [HM.out]; exact hlt)⟩;obtain⟨q,ix,px⟩:=Tm (x:=r5 (xn,xk)) HP.out rfl (by rw [V]; exact HM.out) (by rw [ay,hx]; rfl);obtain⟨p0,p1,p2,p3,p4⟩:=px _ HB.out;have HX:=J hx;have B4:=J (HB.out.alloc HB.out.size (Y #[L xn,O U (kN xk),O U (jQ xk),O U (jR xk),L (kT xk)] 70));have T4:=J (HT.out.more (Y #[L xn,O U (kN xk),O U (jQ xk),O U (jR xk),L (kT xk)] 70));clear hx px;simp only [r5] at p0 p1 p2 p3 p4;by_cases he:xn=n
   ·have hn:(xn.toList == n.toList)=true:=by rw [he]; exact beq_self_eq_true _
    have R:=J (ahK HX.out he AL.out);clear he;obtain⟨c0,c1,c2,c3,c4⟩:=fA HT.out;have f0:=HT.out.fr 0;have f1:=HT.out.fr 1;have f2:=HT.out.fr 2;have f3:=HT.out.fr 3;have f4:=HT.out.fr 4;have alT:=HT.out.lt;simp only at c0 c1 c2 c3 c4;go_wp2;have T5:=(vF HT.out (xn,kN xk,jQ xk,jR xk,kT xk)).more (Y #[L xn,O U (kN xk),O U (jQ xk),O U (jR xk),L (kT xk)] 70);have B5:=(iF HB.out w.heap.size (aB _) (L xn) (O U (kN xk)) (O U (jQ xk)) (O U (jR xk)) (L (kT xk))).alloc (iF HB.out w.heap.size (aB _) (L xn) (O U (kN xk)) (O U (jQ xk)) (O U (jR xk)) (L (kT xk))).size (Y #[L xn,O U (kN xk),O U (jQ xk),O U (jR xk),L (kT xk)] 70);generalize World.alloc _ (Y #[L xn,O U (kN xk),O U (jQ xk),O U (jR xk),L (kT xk)] 70)=w6 at T5 B5 ⊢;obtain⟨d0,d1,d2,d3,d4⟩:=fA T5;simp only at d0 d1 d2 d3 d4;refine bodyPost_ret (v:=ofV (ak (xn,xk))) (by simp [results,aL,go_sem,d0,d1,d2,d3,d4,ofV,r5]) rfl ⟨by rw [R.out],B5⟩
   ·have hn:(xn.toList == n.toList)=false:=by rw [beq_eq_false_iff_ne]; exact fun h=>he (tL h)
    have HE:=J he;clear he;go_wp2
    go_roundw
    case rel=>exact⟨k+1,by omega,by go_num,B4.out,T4.out,fun j y hj hy=>by
     rcases Nat.lt_or_ge j k with h3|h3
     ·exact AL.out j y h3 hy
     ·obtain rfl:j=k:=by omega
      have e:=HX.out;rw [hy] at e;rw [Option.some.inj e];exact HE.out⟩
    case measure=>simp [intOf]; omega
  ·obtain rfl:k=m:=by omega
   have R:=J (aax (p:=p) (n:=n) (fun j y hj hy=>AL.out j y (by rw [<- HM.out]; exact hj) hy));obtain⟨c0,c1,c2,c3,c4⟩:=fA HT.out;have f0:=HT.out.fr 0;have f1:=HT.out.fr 1;have f2:=HT.out.fr 2;have f3:=HT.out.fr 3;have f4:=HT.out.fr 4;have alT:=HT.out.lt;simp only at c0 c1 c2 c3 c4;go_wp2;have T5:=vF HT.out z5;have B5:=iF HB.out w.heap.size (aB _) (L ⟨#[]⟩) (O U 0) (O U 0) (O U 0) (L ⟨#[]⟩);simp only at T5;generalize World.setCell _ _ (L ⟨#[]⟩)=w6 at T5 B5 ⊢;obtain⟨d0,d1,d2,d3,d4⟩:=fA T5;simp only at d0 d1 d2 d3 d4;refine bodyPost_ret (v:=ofV au) (by simp [results,aL,go_sem,d0,d1,d2,d3,d4,ofV]) rfl ⟨by rw [R.out],B5⟩
theorem SI (n:ByteArray) (c d:Kd) (w:aG) (hc:iY c=true) (hd:iY d=true) :
  aN aA 177 #[cv (r5 (n,c)),cv (r5 (n,d))] w fun e w'=>e=Z (aJ (eZ d c))/\Below w.heap.size w w':=by
 obtain⟨ba,bb,hb⟩:=TP w (r5 (n,c)) (r5 (n,d));have BB:=J bb;have B:=J hb;have CB:=J (Ki (n,c) (n,d) ((w.alloc (Y (cells5 (r5 (n,c))).toArray 70)).alloc (Y (cells5 (r5 (n,d))).toArray 70)) rfl);have WS:=J (fun k (h:fG c d=ak k)=>M0 (n:=n) hc hd h);have WN:=J (fun (h:fG c d=au)=>M6 hd h);simp only at CB;generalize fG c d=r at *;generalize eZ d c=i at *;clear ba bb hb hc hd;simp only [r5] at CB ⊢;go_enter Tryz.func177,Tryz.ntmps177;go_wp2_with fail;refine CB.out.mono ?_;rintro e w2 ⟨⟨y,rfl,hy⟩,hb2⟩;have B2:=J (B.out.trans (hb2.mono B.out.size));obtain⟨b0,b1,b2,b3,b4⟩:=fA (BB.out.on hb2);simp only [r5] at b0 b1 b2 b3 b4;have B3:=J (B2.out.alloc B2.out.size (Y #[L y.1,O U y.2.1,O U y.2.2.1,O U y.2.2.2.1,L y.2.2.2.2] 70));have HY:=J hy;have hw2:w.heap.size+1<w2.heap.size:=by have:=hb2.size; simp at this; omega
 clear hb2 CB BB B hy;rcases r with _|k
 ·have E:=J (WN.out rfl);clear WN WS;go_wp2;go_ret;exact⟨eu E.out.symm,B3.out⟩
 ·have E:=J (show z8 y (r5 (n,d))=i by rw [HY.out k rfl]; exact WS.out k rfl);obtain⟨y0,y1,y2,y3,y4⟩:=y;clear WN WS HY B3;go_wp2
  all_goals go_ret
  all_goals exact⟨eu (by rw [<- E.out]; simp [z8,r5, *]),B2.out.alloc B2.out.size _⟩
theorem abb {α:Type} (f:α->Bool) (l:List α) (m:Nat) (h:l.length=m):(l.take m).all f=l.all f:=by rw [<- h,List.take_length]
theorem NH (pv qv:aF) (p b:List Cn) (w:aG) (hp:fK w pv (p.map r5)) (hl:fK w qv (b.map r5)) (np:NF p) (nb:NF b) :
  aN aA 156 #[pv,qv] w fun e w'=>e=Z (aJ (qd p b))/\Below w.heap.size w w':=by
 have CO:=J (Rf (a:=p) nb.rise);have HP:=J hp;have HL:=J hl;have h5:b.length<=100:=by have:=nb.five; omega
 have GP:=J np.iY;have GB:=J nb.iY;have m5:p.length<=5:=np.five;obtain⟨ao,ac,rfl⟩:=hp.len;rw [V] at HP ⊢;generalize hm:p.length=m at *;have HM:=J hm;generalize qd p b=r at *;clear hp hl hm np nb;go_enter Tryz.func156,Tryz.ntmps156;go_wp2
 go_loopw [11] (fun i wr=>∃ k:Nat,k<=m/\i=O U k/\Below w.heap.size w wr/\(p.take k).all (MW b)=true) (fun i _=>m-(intOf i).toNat)
 case atStart=>exact⟨0,aK _,rfl,ah _ _,rfl⟩
 case round =>
  obtain⟨k,hk,rfl,hb,hall⟩:=hrel;have HB:=J hb;have AL:=J hall;clear hb hall;by_cases hlt:k<m
  ·obtain⟨⟨xn,xk⟩,hx⟩:∃ x,p[k]?=ak x:=⟨_,aj (by rw [HM.out]; exact hlt)⟩;obtain⟨q,ix,px⟩:=Tm (x:=r5 (xn,xk)) HP.out rfl (by rw [V]; exact HM.out) (by rw [ay,hx]; rfl);obtain⟨p0,p1,p2,p3,p4⟩:=px _ HB.out;have MO:=J (JD (MW b) p k (xn,xk) hx);have NO:=J (fun h=>OY (MW b) p k (xn,xk) hx h);have GX:=J (GP.out _ (aC hx));have BX:=J (show dJ (wr.alloc (Y #[L xn,O U (kN xk),O U (jQ xk),O U (jR xk),L (kT xk)] 70)) wr.heap.size (cells5 (xn,kN xk,jQ xk,jR xk,kT xk)).toArray 70 from dO wr _ _);have B1:=J (HB.out.alloc HB.out.size (Y #[L xn,O U (kN xk),O U (jQ xk),O U (jR xk),L (kT xk)] 70));have G:=J (agB qv b xn (wr.alloc (Y #[L xn,O U (kN xk),O U (jQ xk),O U (jR xk),L (kT xk)] 70)) (HL.out.on B1.out) h5);have GC:=J (show MW b (xn,xk)=match ZR b xn with
    | some y=>eZ y.2 xk
    | none=>false from rfl)
   obtain⟨gg,hgg⟩:∃ g,MW b (xn,xk)=g:=⟨_,rfl⟩;rw [hgg] at GC MO NO;simp only [r5] at p0 p1 p2 p3 p4;clear hx px hgg;go_wp2_with fail;refine G.out.mono ?_;rintro e2 w2 ⟨he2,hb2⟩;have B2:=J (B1.out.trans (hb2.mono B1.out.size));obtain⟨x0,x1,x2,x3,x4⟩:=fA (BX.out.on hb2);simp only at x0 x1 x2 x3 x4;have hwl:wr.heap.size<w2.heap.size:=by have:=hb2.size; simp at this; omega
   rcases hg:ZR b xn with _|⟨yn,yk⟩
   ·rw [hg] at he2 GC;subst he2;have R:=J (show r=false by rw [CO.out]; exact NO.out GC.out);clear hb2 G B1 BX ix p0 p1 p2 p3 p4 hg;unfold ofV;go_wp2;go_ret;exact⟨eu R.out.symm,B2.out.alloc B2.out.size _⟩
   ·obtain⟨hm1,hm2⟩:=Uy hg;obtain rfl:yn=xn:=hm2;rw [hg] at he2 GC;subst he2;have WC:=J (fun W=>SI yn xk yk W GX.out (GB.out _ hm1));simp only [r5] at WC;clear hb2 G B1 BX ix p0 p1 p2 p3 p4 hg hm1;unfold ofV;simp only [r5];go_wp2_with fail;refine (WC.out _).mono ?_;rintro e3 w3 ⟨rfl,hb3⟩;have B3:=J ((B2.out.alloc B2.out.size (Y #[L yn,O U (kN yk),O U (jQ yk),O U (jR yk),L (kT yk)] 70)).trans (hb3.mono (B2.out.alloc B2.out.size (Y #[L yn,O U (kN yk),O U (jQ yk),O U (jR yk),L (kT yk)] 70)).size));rw [<- GC.out];clear hb3 B2 x0 x1 x2 x3 x4 hwl WC;cases gg
    ·have R:=J (show r=false by rw [CO.out]; exact NO.out rfl);go_wp2;go_ret;exact⟨eu R.out.symm,B3.out⟩
    ·go_wp2
     go_roundw
     case rel=>exact⟨k+1,by omega,by go_num,B3.out,by rw [MO.out,AL.out]; rfl⟩
     case measure=>simp [intOf]; omega
  ·obtain rfl:k=m:=by omega
   have R:=J (show r=true by rw [CO.out,<- abb _ p _ HM.out]; exact AL.out);go_wp2;go_ret;exact⟨eu R.out.symm,HB.out⟩
end Rl
namespace Av
open Go.RowKit Go.Sort Rw YtmklifheakemeaaGreat.Nm Pr Bk
end Av
namespace Bk
open Go.RowKit Go.Sort Rw YtmklifheakemeaaGreat.Nm Pr
def AJ (B:Nat) (b11 _ _:Nat) (_ _ iM c d c2 d2 fr:Int) (up:Bool) (_ po:Option Addr) (_ _ pn pc:Nat) (rv:aF) (_:List mE) (i:Nat) (v:aF) (x:aG):Prop :=
 match i with
 | 0=>v=rv
 | 1=>v=X (ak ⟨b11,3,au⟩)
 | 2=>v=O U iM
 | 3=>v=aO #[O U c,O U d,O U c2,O U d2,aD po pn pc,O U fr,aJ up]
 | 4=>v=aO #[O U 3,O U c,O U d,O U c2,O U d2,aD po pn pc,aD au 0 0]
 | 5=>v=xA (iM,3,c,d,c2,d2,(po,pn,pc),(au,0,0))
 | 6=>jT x B v [(iM,3,c,d,c2,d2,(po,pn,pc),(au,0,0))]
 | _=>True
noncomputable def Qe:Code:=((Tryz.f23.body.bind (eO 16)).getD .skip)
theorem NJ (B:Nat) (b11 b12 F0:Nat) (z1 z2 iM c d c2 d2 fr:Int) (up:Bool) (z3 po:Option Addr) (z4 z5 pn pc:Nat) (rv:aF) (lo:List mE) (i:Nat) (v:aF) (x x':aG) (h:AJ B b11 b12 F0 z1 z2 iM c d c2 d2 fr up z3 po z4 z5 pn pc rv lo i v x) (hb:Below x.heap.size x x'):AJ B b11 b12 F0 z1 z2 iM c d c2 d2 fr up z3 po z4 z5 pn pc rv lo i v x':=by
 by_cases hi:i<7
 ·rcases (by omega:i=0\/i=1\/i=2\/i=3\/i=4\/i=5\/i=6) with rfl|rfl|rfl|rfl|rfl|rfl|rfl
  ·exact h
  ·exact h
  ·exact h
  ·exact h
  ·exact h
  ·exact h
  ·exact dI h hb
 ·unfold AJ
  split <;> first | omega | trivial
theorem Xp (Q:Exit->Act->aG->Prop) (W:aG) (b11 b12 F0:Nat) (z1 z2 iM c d c2 d2 fr:Int) (up:Bool) (z3 po:Option Addr) (z4 z5 pn pc:Nat) (rv:aF) (lo:List mE) (u0 u1 u2 u3 u4 u5 u6 u7 u8 u10 u13 u14 u15 u16 u17 u18 u19 u20 u21 u22 u23 u24 u25 u26 u27 u28 u29 u30 u31 u32 u33 u34 u35 u36 u37 u38 u39 u40 u41 u42 u43 u44 u45 u46 u47 u48 u49 u50 u51 u52 u53 u54 u55 u56 u57 u58 u59 u60 u61 u62 u63 u64 u65 u66 u67 u68 u69 u70 u71 u72 u73 u74 u75 u76 u77 u78 u79 u80 u81 u82 u83 u84 u85 u86 u87 u88 u89 u90 u91 u92 u93 u94 u95 u96 u97 u98:aF)
  (h11:dJ W b11 #[O U z1,O U z2,aD z3 z4 z5,O U iM] 74) (h12:dJ W b12 #[O U c,O U d,O U c2,O U d2,aD po pn pc,O U fr,aJ up] 66) (fw:F0<=W.heap.size) (ho:jT W F0 rv lo) (hl:lo.length<=1000000)
  (hQ:∀ (x0 x:aG) (w9:aF) (v88 v89 v90 v91 v92 v93 v94 v95:aF),Below W.heap.size W x0->x0.grownBy x rv.ownBlock->jT x F0 w9 (lo++[(iM,3,c,d,c2,d2,(po,pn,pc),(au,0,0))])->Q .normal ⟨(u0::u1::u2::u3::u4::u5::u6::u7::u8::w9::u10::X (ak ⟨b11,0,au⟩)::X (ak ⟨b12,0,au⟩)::u13::u14::u15::u16::u17::u18::u19::u20::u21::u22::u23::u24::u25::u26::u27::u28::u29::u30::u31::u32::u33::u34::u35::u36::u37::u38::u39::u40::u41::u42::u43::u44::u45::u46::u47::u48::u49::u50::u51::u52::u53::u54::u55::u56::u57::u58::u59::u60::u61::u62::u63::u64::u65::u66::u67::u68::u69::u70::u71::u72::u73::u74::u75::u76::u77::u78::u79::u80::u81::u82::u83::u84::u85::u86::u87::v88::v89::v90::v91::v92::v93::v94::v95::u96::u97::u98::[]).toArray,[]⟩ x) :
  Code.wp aA Qe Q ⟨(u0::u1::u2::u3::u4::u5::u6::u7::u8::rv::u10::X (ak ⟨b11,0,au⟩)::X (ak ⟨b12,0,au⟩)::u13::u14::u15::u16::u17::u18::u19::u20::u21::u22::u23::u24::u25::u26::u27::u28::u29::u30::u31::u32::u33::u34::u35::u36::u37::u38::u39::u40::u41::u42::u43::u44::u45::u46::u47::u48::u49::u50::u51::u52::u53::u54::u55::u56::u57::u58::u59::u60::u61::u62::u63::u64::u65::u66::u67::u68::u69::u70::u71::u72::u73::u74::u75::u76::u77::u78::u79::u80::u81::u82::u83::u84::u85::u86::u87::u88::u89::u90::u91::u92::u93::u94::u95::u96::u97::u98::[]).toArray,[]⟩ W:=by
 have HQ:=J hQ;have H11:=J h11;have H12:=J h12;have FW:=J fw;have HO:=J ho;have HL:=J hl;clear hQ h11 h12 fw ho hl;have iO:=NJ W.heap.size b11 b12 F0 z1 z2 iM c d c2 d2 fr up z3 po z4 z5 pn pc rv lo;unfold Qe
 conv=>arg 2; whnf
 have nd:∀ j,(∀ i,i<7->[88,89,90,91,92,93,94].getD i 0≠j)->∀ i,i<7->(fun i=>[88,89,90,91,92,93,94].getD i 0) i≠j:=fun j h=>h;refine Rg.fQ 9 7 (fun i=>[88,89,90,91,92,93,94].getD i 0) (fun _=>7) (AJ W.heap.size b11 b12 F0 z1 z2 iM c d c2 d2 fr up z3 po z4 z5 pn pc rv lo) (by kernel_rfl) (by kernel_rfl) rfl (by decide) (fun i j hi hj h=>(by decide:∀ i,i<7->∀ j,j<7->[88,89,90,91,92,93,94].getD i 0=[88,89,90,91,92,93,94].getD j 0->i=j) i hi j hj h) (fun i hi=>(by decide:∀ i,i<7->[88,89,90,91,92,93,94].getD i 0<99) i hi) ?_ (fun _=>Rg.jq 14 (by kernel_rfl)) ?_ ?_
 ·intro i o hi ho a x D hnd hc hD hb seen K hK;clear HQ;rcases (by omega:i=0\/i=1\/i=2\/i=3\/i=4\/i=5\/i=6) with rfl|rfl|rfl|rfl|rfl|rfl|rfl
  ·cases ho;have e9:a.eval (aH 9)=rv:=seen.kp 9 _ (nd 9 (by decide)) rfl;exact Rg.dD rfl rfl (Rg.fV a.eval _ (aH 9) rfl x) (hK _ _ e9 (ah _ _) fun _ _ _ _ _ _ _ h=>h)
  ·cases ho;have e11:a.eval (aH 11)=X (ak ⟨b11,0,au⟩):=seen.kp 11 _ (nd 11 (by decide)) rfl;exact Rg.dD rfl rfl (Rg.dW a.eval _ 74 (aH 11) 2 rfl (by rw [e11]; simp [go_sem])) (hK _ _ rfl (ah _ _) fun _ _ _ _ _ _ _ h=>h)
  ·cases ho;have e89:a.eval (aH 89)=X (ak ⟨b11,3,au⟩):=seen.at_ ⟨1,.data⟩ (by simp) rfl (Or.inr (by decide));have y3:=(H11.out.on hb).cell 3;simp only [aI,List.getElem?_cons_zero,List.getElem?_cons_succ] at y3;exact Rg.dD rfl rfl (Rg.dR a.eval _ 3 (aH 89) rfl (by rw [e89]; simp [go_sem,y3])) (hK _ _ rfl (ah _ _) fun _ _ _ _ _ _ _ h=>h)
  ·cases ho;have e12:a.eval (aH 12)=X (ak ⟨b12,0,au⟩):=seen.kp 12 _ (nd 12 (by decide)) rfl;obtain⟨y0,y1,y2,y3,y4,y5,y6⟩:=(H12.out.on hb).nJ;exact Rg.dD rfl rfl (Rg.dR a.eval _ 66 (aH 12) rfl (by rw [e12]; simp [go_sem,y0,y1,y2,y3,y4,y5,y6])) (hK _ _ rfl (ah _ _) fun _ _ _ _ _ _ _ h=>h)
  ·cases ho;have e91:a.eval (aH 91)=aO #[O U c,O U d,O U c2,O U d2,aD po pn pc,O U fr,aJ up]:=seen.at_ ⟨3,.data⟩ (by simp) rfl (Or.inr (by decide));exact Rg.gL rfl rfl (iB a.eval _ (aH 91) 66 48 rfl e91 rfl _ (gD Tryz.func48 rfl rfl _ _)) (Au (c,d,c2,d2,(po,pn,pc),fr,up) x) fun e w1 h=>by
    obtain⟨rfl,h3⟩:=h;exact⟨_,rfl,hK _ _ rfl (h3.mono hb.size) fun j u _ _ _ _ _ h=>iO j u _ _ h h3⟩
  ·cases ho;have e90:a.eval (aH 90)=O U iM:=seen.at_ ⟨2,.data⟩ (by simp) rfl (Or.inr (by decide));have e92:a.eval (aH 92)=aO #[O U 3,O U c,O U d,O U c2,O U d2,aD po pn pc,aD au 0 0]:=seen.at_ ⟨4,.data⟩ (by simp) rfl (Or.inr (by decide));exact Rg.dD rfl rfl (Rg.jZ a.eval _ 43 #[(0,aH 90),(1,aH 92)] rfl (ps:=#[(0,O U iM),(1,aO #[O U 3,O U c,O U d,O U c2,O U d2,aD po pn pc,aD au 0 0])]) (by simp only [List.map_toArray,List.map_cons,List.map_nil,e90,e92]) (by simp [go_sem])) (hK _ _ rfl (ah _ _) fun _ _ _ _ _ _ _ h=>h)
  ·cases ho;have e93:a.eval (aH 93)=xA (iM,3,c,d,c2,d2,(po,pn,pc),(au,0,0)):=seen.at_ ⟨5,.data⟩ (by simp) rfl (Or.inr (by decide));have hl:=jm EK x [((iM,3,c,d,c2,d2,(po,pn,pc),(au,0,0)):mE)] 1 rfl (by simp) (lH (iM,3,c,d,c2,d2,(po,pn,pc),(au,0,0))).toArray (by simp [flat,EU]);have nb:=fF x (Y (lH (iM,3,c,d,c2,d2,(po,pn,pc),(au,0,0))).toArray 43);exact Rg.dD rfl rfl (Rg.jg a.eval _ 35 1 #[(0,aH 93)] rfl (ps:=#[(0,xA (iM,3,c,d,c2,d2,(po,pn,pc),(au,0,0)))]) (by simp [e93]) (by simp [go_sem])) (hK (aD (ak ⟨x.heap.size,0,au⟩) 1 1) (x.alloc (Y (lH (iM,3,c,d,c2,d2,(po,pn,pc),(au,0,0))).toArray 43)) (dM hl hb.size) (nb.mono hb.size) fun j u _ _ _ _ _ h=>iO j u _ _ h nb)
 ·intro kk o h1 h2 ho;rcases (by omega:kk=8) with rfl
  ·cases ho;exact⟨⟨7,.data⟩,by simp,rfl,rfl⟩
 ·intro a w' df sz kp ⟨vs,hv⟩ hb;have sz':a.tmps.size=99:=sz;have g88:a.tmps[88]?=ak (rv):=by
   have h:vs 0=rv:=(hv 0 (by omega)).2 (by decide);rw [<- h];exact (hv 0 (by omega)).1
  have g94:a.tmps[94]?=ak (vs 6):=(hv 6 (by omega)).1;have G94:=(hv 6 (by omega)).2 (by decide);have o94:jT w' W.heap.size (vs 6) [(iM,3,c,d,c2,d2,(po,pn,pc),(au,0,0))]:=G94;generalize vs 6=v6 at *;obtain⟨v',x',r,o',gr⟩:=xW EK F0 (dI HO.out hb) (Row.dH o94) HL.out (by simp) (Nat.le_trans FW.out hb.size) 35;show Rg.fH _ _ _ 2 7 a w';simp only [Rg.fH];refine Rg.dD rfl rfl (Rg.gI a.eval _ (aH 88) (aH 94) 35 rfl (Rg.dL g88) (Rg.dL g94) r) ?_;have e95:(a.put (ak 95) v').eval (aH 95)=v':=Rg.dL (by simp [Act.put,sz']);refine Rg.dD rfl rfl (Rg.jJ _ _ (aH 95) rfl x') ?_;show Q .normal ((a.put (ak 95) v').put (ak 9) ((a.put (ak 95) v').eval (aH 95))) x';rw [e95];show Q .normal ((a.put (ak 95) v').put (ak 9) v') x';have ka:∀ j,j≠95->j≠9->((a.put (ak 95) v').put (ak 9) v').tmps[j]?=a.tmps[j]?:=fun j h1 h2=>by rw [Rg.get_put _ _ _ _ (by omega),Rg.get_put _ _ _ _ (by omega)]
  have kt:((a.put (ak 95) v').put (ak 9) v').tmps[9]?=ak (v'):=by simp [Act.put,sz']
  have qI:∀ j,(j<88\/96<=j)->((a.put (ak 95) v').put (ak 9) v').tmps[j]?=(u0::u1::u2::u3::u4::u5::u6::u7::u8::v'::u10::X (ak ⟨b11,0,au⟩)::X (ak ⟨b12,0,au⟩)::u13::u14::u15::u16::u17::u18::u19::u20::u21::u22::u23::u24::u25::u26::u27::u28::u29::u30::u31::u32::u33::u34::u35::u36::u37::u38::u39::u40::u41::u42::u43::u44::u45::u46::u47::u48::u49::u50::u51::u52::u53::u54::u55::u56::u57::u58::u59::u60::u61::u62::u63::u64::u65::u66::u67::u68::u69::u70::u71::u72::u73::u74::u75::u76::u77::u78::u79::u80::u81::u82::u83::u84::u85::u86::u87::u88::u89::u90::u91::u92::u93::u94::u95::u96::u97::u98::[])[j]?:=fun j hj=>by
   by_cases hj2:j=9
   ·subst hj2;exact kt
   ·have hs:(u0::u1::u2::u3::u4::u5::u6::u7::u8::v'::u10::X (ak ⟨b11,0,au⟩)::X (ak ⟨b12,0,au⟩)::u13::u14::u15::u16::u17::u18::u19::u20::u21::u22::u23::u24::u25::u26::u27::u28::u29::u30::u31::u32::u33::u34::u35::u36::u37::u38::u39::u40::u41::u42::u43::u44::u45::u46::u47::u48::u49::u50::u51::u52::u53::u54::u55::u56::u57::u58::u59::u60::u61::u62::u63::u64::u65::u66::u67::u68::u69::u70::u71::u72::u73::u74::u75::u76::u77::u78::u79::u80::u81::u82::u83::u84::u85::u86::u87::u88::u89::u90::u91::u92::u93::u94::u95::u96::u97::u98::[]:List aF)=(u0::u1::u2::u3::u4::u5::u6::u7::u8::rv::u10::X (ak ⟨b11,0,au⟩)::X (ak ⟨b12,0,au⟩)::u13::u14::u15::u16::u17::u18::u19::u20::u21::u22::u23::u24::u25::u26::u27::u28::u29::u30::u31::u32::u33::u34::u35::u36::u37::u38::u39::u40::u41::u42::u43::u44::u45::u46::u47::u48::u49::u50::u51::u52::u53::u54::u55::u56::u57::u58::u59::u60::u61::u62::u63::u64::u65::u66::u67::u68::u69::u70::u71::u72::u73::u74::u75::u76::u77::u78::u79::u80::u81::u82::u83::u84::u85::u86::u87::u88::u89::u90::u91::u92::u93::u94::u95::u96::u97::u98::[]).set 9 (v'):=rfl;rw [hs,List.getElem?_set_ne (Ne.symm hj2)];exact (ka j (by omega) hj2).trans ((kp j (nd j fun i hi h=>by have:=(by decide:∀ i,i<7->88<=[88,89,90,91,92,93,94].getD i 0/\[88,89,90,91,92,93,94].getD i 0<96) i hi; omega)).trans aI)
  obtain⟨mid,hmid,hfr⟩:=Rg.gJ (a:=(a.put (ak 95) v').put (ak 9) v') 88 8 (by simp [Act.put,df]) (by simp [Act.put,sz']) (by simp) qI;rw [hfr]
  match mid,hmid with
  | [v88,v89,v90,v91,v92,v93,v94,v95],_ =>
   exact HQ.out w' x' _ _ _ _ _ _ _ _ _ hb gr o'
end Bk
namespace Pr
open Go.RowKit Go.Sort Pu Rw Va
def abd:ByteArray:=⟨#[112,114,101,100]⟩
def Qf (w:aG) (l:List Cn) (e:Ending) (w':aG):Prop:=Below w.heap.size w w'/\(match AY l with
 | .ok m=>∃ pv,e=Z (.tuple #[pv,.nilIface])/\fK w' pv (m.map r5)
 | .error _=>∃ b,e=Z (.tuple #[aD au 0 0,.iface 223 (X (ak ⟨b,0,au⟩))]))
theorem abe (op:ByteArray) (at_:Int) (tx:Nat) (x:aF) (w:aG) :
  aN aA 157 #[L op,O U at_,.iface tx x] w fun e w'=>e=Z (.iface 223 (X (ak ⟨w.heap.size,0,au⟩)))/\w'=w.alloc (Y #[L op,O U at_,.iface tx x] 225):=by
 go_enter Tryz.func157,Tryz.ntmps157;go_wp2;go_ret;exact⟨rfl,rfl⟩
theorem NK (at_:Nat) (m r:List Cn) (c:Cn):kD at_ m (c::r)=match nP m c with
  | .ok m'=>kD (at_+1) m' r
  | .error k=>.error (k,at_):=by
 simp only [kD,nP];cases o8 m c with
 | none=>rfl
 | some m'=>simp only; split <;> rfl
theorem SK {m:List Cn} {c:Cn} {m':List Cn} (h:jW m) (hs:nP m c=.ok m'):jW m'/\m'.length<=5:=by
 unfold nP at hs;cases hi:o8 m c with
 | none=>rw [hi] at hs; cases hs
 | some n =>
  rw [hi] at hs;simp only at hs
  split at hs
  ·cases hs
  ·rename_i h5
   injection hs with hs
   subst hs;exact⟨(kR m c n h hi).1,by omega⟩
theorem Xq (lv:aF) (l:List Cn) (w:aG) (hl:fK w lv (l.map r5)) (hs:Ut l) (hgd:∀ c∈l,vM c=true):aN aA 121 #[lv] w (Qf w l):=by
 have HL:=J hl;have LN:=J (show (l.map r5).length=l.length from V ..);have h100:=hs.1;have SM:=J hs.2;have GD:=J hgd;obtain⟨ao,ac,rfl⟩:=hl.len;rw [V] at HL ⊢;obtain⟨n,hn⟩:∃ n,n=l.length:=⟨_,rfl⟩;rw [<- hn] at HL h100 ⊢;have HN:=J hn;obtain⟨res,hres⟩:∃ r,r=AY l:=⟨_,rfl⟩;have MQ:=J (show ∀ e w',(Below w.heap.size w w'/\(match res with
 | .ok m=>∃ pv,e=Z (.tuple #[pv,.nilIface])/\fK w' pv (m.map r5)
 | .error _=>∃ b,e=Z (.tuple #[aD au 0 0,.iface 223 (X (ak ⟨b,0,au⟩))])))->Qf w l e w' from fun e w' h=>by unfold Qf; rw [<- hres]; exact h)
 have HR:=J hres;clear hl hs hgd hn hres;generalize hq:Qf w l=q at *;clear hq;go_enter Tryz.func121,Tryz.ntmps121;go_wp2
 go_loopw [13] (fun i wr=>∃ k:Nat,k<=n/\i=O U k/\Below w.heap.size w wr) (fun i _=>n-(intOf i).toNat)
 case atStart=>exact⟨0,aK _,rfl,ah _ _⟩
 case round =>
  obtain⟨k,hk,rfl,hb⟩:=hrel;have HB:=J hb;clear hb;by_cases hlt:k<n
  ·obtain⟨⟨xn,xk⟩,hx⟩:∃ x,l[k]?=ak x:=⟨_,aj (by have:=HN.out; omega)⟩;obtain⟨p,ix,px⟩:=Tm (x:=r5 (xn,xk)) HL.out rfl (LN.out.trans HN.out.symm) (by rw [ay,hx]; rfl);obtain⟨p0,p1,p2,p3,p4⟩:=px _ HB.out;have C:=J (aay (xn,xk) (wr.alloc (Y (cells5 (r5 (xn,xk))).toArray 70)) (by have:=(SM.out _ (aC hx)).1; unfold maxLen; omega));rw [GD.out _ (aC hx)] at C;have B4:=J (HB.out.alloc HB.out.size (Y (cells5 (r5 (xn,xk))).toArray 70));simp only [r5] at p0 p1 p2 p3 p4 C;clear hx px;go_wp2_with fail;refine C.out.mono ?_;rintro e5 w5 ⟨rfl,hb5⟩;have B5:=J (B4.out.trans (hb5.mono B4.out.size));clear hb5 C B4 ix p0 p1 p2 p3 p4;go_wp2
   go_roundw
   case rel=>exact⟨k+1,by omega,by go_num,B5.out⟩
   case measure=>simp [intOf]; omega
  ·obtain rfl:k=n:=by omega
   go_wp2
   go_loopw [6,27] (fun mv i wr=>∃ (j:Nat) (m:List Cn),j<=k/\i=O U j/\iq wr w.heap.size mv (m.map r5)/\jW m/\m.length<=5/\res=kD j m (l.drop j)/\Below w.heap.size w wr) (fun _ i _=>k-(intOf i).toNat)
   case atStart=>exact⟨0,[],aK _,rfl,jl _ _,List.Pairwise.nil,by simp,by rw [HR.out]; rfl,HB.out⟩
   case round =>
    obtain⟨j,m,hj,rfl,hown,hrise,hm5,Kk,hb⟩:=hrel;have BW:=J hb;have OW:=J hown;have RM:=J hrise;have FO:=J Kk;clear hb hown hrise Kk;by_cases hjl:j<k
    ·obtain⟨⟨xn,xk⟩,hx⟩:∃ x,l[j]?=ak x:=⟨_,aj (by have:=HN.out; omega)⟩;obtain⟨p,ix,px⟩:=Tm (x:=r5 (xn,xk)) HL.out rfl (LN.out.trans HN.out.symm) (by rw [ay,hx]; rfl);obtain⟨p0,p1,p2,p3,p4⟩:=px _ BW.out;have B4:=J (BW.out.alloc BW.out.size (Y (cells5 (r5 (xn,xk))).toArray 70));have C:=J (Cw w.heap.size _ m (xn,xk) (wr.alloc (Y (cells5 (r5 (xn,xk))).toArray 70)) (dI OW.out ((ah _ _).alloc (aB _) _)) RM.out hm5 B4.out.size);have DR:l.drop j=(xn,xk)::l.drop (j+1):=by
      have h:=List.drop_eq_getElem_cons (l:=l) (i:=j) (by have:=HN.out; omega);rw [h]
      congr 1
      exact (List.getElem?_eq_some_iff.1 hx).2
     have F2:=FO.out;rw [DR,NK] at F2;have F3:=J F2;simp only [r5] at p0 p1 p2 p3 p4 C;clear hx px F2 DR FO;cases hst:nP m (xn,xk) with
     | ok m' =>
      have RR:=J (SK RM.out hst);have F4:=J (show res=kD (j+1) m' (l.drop (j+1)) by rw [F3.out,hst]);rw [hst] at C;clear hst F3;go_wp2_with fail;refine C.out.mono ?_;rintro e5 w5 ⟨hb5,v',rfl,ho5⟩;have B5:=J (B4.out.trans hb5);have O5:=J ho5;clear hb5 ho5 C B4 ix p0 p1 p2 p3 p4 OW BW RM;go_wp2
      go_roundw
      case rel=>exact⟨j+1,m',by omega,by go_num,O5.out,RR.out.1,RR.out.2,F4.out,B5.out⟩
      case measure=>simp [intOf]; omega
     | error er =>
      have F4:=J (show res=.error (er,j) by rw [F3.out,hst]);rw [hst] at C;clear hst F3;go_wp2_with fail;refine C.out.mono ?_;rintro e5 w5 ⟨hb5,rfl⟩;have B5:=J (B4.out.trans hb5);clear hb5 C B4 ix p0 p1 p2 p3 p4 OW BW RM;go_wp2_with fail;refine (abe abd j 205 (O U er) w5).mono ?_;rintro e6 w6 ⟨rfl,rfl⟩;go_wp2;refine MQ.out _ _ ⟨B5.out.alloc B5.out.size _,?_⟩;rw [F4.out];exact⟨w5.heap.size,rfl⟩
    ·obtain rfl:j=k:=by omega
     have F2:=J (show res=.ok m by rw [FO.out,List.drop_of_length_le (by have:=HN.out; omega)]; rfl);go_wp2;refine MQ.out _ _ ⟨BW.out,?_⟩;rw [F2.out];exact⟨_,rfl,Row.dH OW.out⟩
end Pr
namespace Rl
open Go.RowKit Go.Sort Pu Rw Pr Va
def Xt (a b:List Cn) (w:aG) (e:Ending) (w':aG):Prop:=Below w.heap.size w w'/\(match kD a.length a b with
 | .ok p=>∃ pv,e=Z (.tuple #[pv,aJ true])/\fK w' pv (p.map r5)
 | .error _=>∃ pv,e=Z (.tuple #[pv,aJ false]))
theorem KF {a b:List Cn} (na:NF a) (nb:NF b):Ut (a++b):=⟨by have:=na.five; have:=nb.five; simp; omega,fun c hc=>by
 rcases aM.1 hc with h|h
 ·exact na.small c h
 ·exact nb.small c h⟩
theorem abf (nU bv:aF) (a b:List Cn) (w:aG) (ha:fK w nU (a.map r5)) (hb:fK w bv (b.map r5)) (na:NF a) (nb:NF b):aN aA 75 #[nU,bv] w (Xt a b w):=by
 have B0:=J (show Below w.heap.size w (w.alloc (Y #[nU,bv] 32)) from (ah _ _).alloc (aB _) _);have CT:=J (Ng w.heap.size nU bv (a.map r5) (b.map r5) (w.alloc (Y #[nU,bv] 32)) (by simp [go_sem]) (by simp [go_sem]) (ha.on B0.out) (hb.on B0.out) (by rw [V]; have:=na.five; omega) (by rw [V]; have:=nb.five; omega));have SP:=J (KF na nb);have GD:=J (show ∀ c∈a++b,vM c=true from fun c hc=>by
  rcases aM.1 hc with h|h
  ·exact na.good c h
  ·exact nb.good c h)
 have MB:=J (Q0 (b:=b) na.rise na.five);obtain⟨ao,ac,rfl⟩:=ha.len;obtain⟨bo,bc,rfl⟩:=hb.len;clear ha hb na nb;simp only [V] at CT B0 ⊢;obtain⟨res,hres⟩:∃ r,r=kD a.length a b:=⟨_,rfl⟩;have MQ:=J (show ∀ e w',(Below w.heap.size w w'/\(match res with
  | .ok p=>∃ pv,e=Z (.tuple #[pv,aJ true])/\fK w' pv (p.map r5)
  | .error _=>∃ pv,e=Z (.tuple #[pv,aJ false])))->Xt a b w e w' from fun e w' h=>by unfold Xt; rw [<- hres]; exact h)
 rw [<- hres] at MB;generalize hq:Xt a b w=q at *;clear hq hres;go_enter Tryz.func75,Tryz.ntmps75;go_wp2_with fail;refine CT.out.mono ?_;rintro e1 w1 ⟨v1,rfl,ho,hb1⟩;have B1:=J (B0.out.trans (hb1.mono B0.out.size));have MK:=J (Xq v1 (a++b) w1 (by rw [List.map_append]; exact Row.dH ho) SP.out GD.out);clear ho hb1 CT SP GD B0;go_wp2_with fail;refine MK.out.mono ?_;rintro e2 w2 ⟨hb2,h2⟩;have B2:=J (B1.out.trans (hb2.mono B1.out.size));rw [MB.out] at h2;clear hb2 MK B1 MB;rcases res with _|p
 ·obtain⟨bb,rfl⟩:=h2;go_wp2
  go_region
  all_goals simp only [Exit.then]
  all_goals apply_assumption
  all_goals go_wp2
  all_goals exact MQ.out _ _ ⟨B2.out.drew,_,rfl⟩
 ·obtain⟨pv,rfl,hp⟩:=h2;have HP:=J hp;clear hp;go_wp2
  go_region
  all_goals simp only [Exit.then]
  all_goals apply_assumption
  all_goals go_wp2
  all_goals exact MQ.out _ _ ⟨B2.out.drew,_,rfl,HP.out.on (ah _ _).drew⟩
theorem NP (nU bv:aF) (a b:List Cn) (w:aG) (ha:fK w nU (a.map r5)) (hb:fK w bv (b.map r5)) (na:NF a) (nb:NF b):aN aA 24 #[nU,bv] w fun e w'=>e=Z (aJ (tQ a b))/\Below w.heap.size w w':=by
 have T:=J (abf nU bv a b w ha hb na nb);have MM:=J (show tQ a b=match kD a.length a b with
  | .ok _=>true
  | .error _=>false from rfl)
 unfold Xt at T;generalize tQ a b=r at *;generalize kD a.length a b=res at *;clear ha hb na nb;go_enter Tryz.func24,Tryz.ntmps24;go_wp2_with fail;refine T.out.mono ?_;rintro e1 w1 ⟨hb1,h1⟩;have B1:=J hb1;clear hb1 T;rcases res with _|p
 ·obtain⟨pv,rfl⟩:=h1;have M:=J (show r=false from MM.out);clear MM;go_wp2;go_ret;exact⟨eu M.out.symm,B1.out⟩
 ·obtain⟨pv,rfl,hp⟩:=h1;have M:=J (show r=true from MM.out);clear MM hp;go_wp2;go_ret;exact⟨eu M.out.symm,B1.out⟩
end Rl
end Go.Proofs.YtmklifheakemeaaGreat
