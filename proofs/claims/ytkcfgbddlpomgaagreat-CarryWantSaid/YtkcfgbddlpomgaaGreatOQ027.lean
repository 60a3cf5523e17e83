/-
  inEntries of package. Conditions as told.
-/
import Derived.Test.YtkcfgbddlpomgaaGreatOQ017
import Derived.Test.YtkcfgbddlpomgaaGreatOQ015
import Derived.Test.YtkcfgbddlpomgaaGreatOQ013
import Derived.Test.YtkcfgbddlpomgaaGreatOQ019
set_option maxRecDepth 100000
set_option maxHeartbeats 64000000
open _root_.Bool renaming false->ay,true->aT
open _root_.Go renaming World->ah,cell_regrown->ak,bodyPost_ret->aG,Value->aI,below_regrown->aJ,Calls->aZ,redrawn->bg
open Go.Ending renaming returned->aK
open Go.IntKind renaming i64->L
open Go.Lib renaming hid->D
open Go.Obj renaming cells->U
open Go.Proofs.Tryz renaming prog->aH,results128->aU,results44->aW,ntmps26->aY,func26->bf
open Go.RowKit.Below renaming refl->aB,heap_setCell->aX
open Go.Value renaming string->J,int->K,bool->Z,slice->aA,pointer->aV
open _root_.List renaming getElem?_eq_getElem->O,length_map->aj,getElem?_map->aC,getElem?_cons_zero->aL,getElem?_cons_succ->aM,take_of_length_le->aN,getElem?_toArray->aP,mem_of_getElem?->aQ,take_add_one->aR
open _root_.Nat renaming le_refl->V,zero_le->aF,lt_or_ge->aS
open _root_.Option renaming none->au,some->aD
open Option.some renaming inj->aO
namespace Go.Proofs.YtkcfgbddlpomgaaGreat
namespace Av
open Go.RowKit Go.Sort Rw YtkcfgbddlpomgaaGreat.Nm Pr Bk
def tC {α:Type} (c:α->α->Int):List α->Bool
 | x::y::l=>decide (c x y<0) && tC c (y::l)
 | _=>aT
end Av
namespace Bk
open Go.RowKit Go.Sort Rw YtkcfgbddlpomgaaGreat.Nm
theorem Zb {α:Type} {a b:List α} {k:Nat} {x y:α} (h:a.take k=b.take k) (hx:a[k]?=aD x) (hy:b[k]?=aD y) (e:x=y):a.take (k+1)=b.take (k+1):=by
 rw [aR,aR,hx,hy,h,e]
theorem AJ (av bv:aI) (a b:List Int) (w:ah) (ha:qI w av a) (hb:qI w bv b) :
  aZ aH 26 #[av,bv] w fun e w'=>e=aK (Z (decide (a=b)))/\Below w.heap.size w w':=by
 have HA:=D ha;have HB:=D hb;have ma:=ha.most;have mb:=hb.most;unfold maxLen at ma mb;obtain⟨ao,ac,rfl⟩:=ha.len;obtain⟨bo,bc,rfl⟩:=hb.len;clear ha hb;by_cases hl:a.length=b.length
 ·obtain⟨n,hn⟩:∃ n,n=a.length:=⟨_,rfl⟩;have NA:=D hn.symm;have NB:=D (hl.symm.trans hn.symm);rw [<- hl,<- hn] at HB;rw [<- hn] at HA ma;rw [<- hl,<- hn];clear hl hn mb;go_enter bf,aY;go_wp2
  go_loopw [5] (fun i wr=>∃ k:Nat,k<=n/\i=K L k/\a.take k=b.take k/\Below w.heap.size w wr) (fun i _=>n-(intOf i).toNat)
  case atStart=>exact⟨0,aF _,rfl,rfl,aB _ _⟩
  case round =>
   obtain⟨k,hk,rfl,htk,hbe⟩:=hrel;have TK:=D htk;have BE:=D hbe;clear hbe htk;by_cases hlt:k<n
   ·obtain⟨x,hx⟩:∃ x,a[k]?=aD x:=⟨_,O (by rw [NA.out]; exact hlt)⟩;obtain⟨y,hy⟩:∃ y,b[k]?=aD y:=⟨_,O (by rw [NB.out]; exact hlt)⟩;obtain⟨p,ix,_,px⟩:=elI HA.out rfl NA.out hx;obtain⟨q,iy,_,py⟩:=elI HB.out rfl NB.out hy;have p0:=ak (px _ BE.out);have q0:=ak (py _ BE.out);obtain⟨r,hr⟩:∃ r,((x:Int) == (y:Int))=r:=⟨_,rfl⟩;have HX:=D hx;have HY:=D hy;have HR:=D hr;clear px py hx hy;go_wp2;have hr2:((x:Int) != (y:Int))=!r:=by unfold bne; rw [hr]
    cases r
    all_goals
     simp only [Bool.not_true,Bool.not_false] at hr2;refine wp_region_quiet_below (by kernel_rfl) (by kernel_rfl) ?_
     repeat (go_big_quiet_step (fail))
     refine wpQuiet_nil ?_;intro _ hw';obtain⟨⟨dq,osq⟩,hw''⟩:=hw';subst hw'';have BN:=D (BE.out.trans ((aJ wr dq osq).mono BE.out.size));clear p0 q0 ix iy hr
    ·go_wp2;go_ret;refine⟨?_,BN.out⟩;have hne:a≠b:=fun e=>by
      have h1:=HX.out;rw [e,HY.out] at h1;cases h1;have h2:=HR.out;simp at h2
     rw [decide_eq_false hne]
     rfl
    ·have TN:=D (Zb TK.out HX.out HY.out (by have h:=HR.out; rw [beq_iff_eq] at h; exact h));go_wp2
     go_roundw
     case rel=>exact⟨k+1,by omega,by go_num,TN.out,BN.out⟩
     case measure=>simp [intOf]; omega
   ·obtain rfl:k=n:=by omega
    have EQ:=D (show a=b by have h:=TK.out; rwa [aN (by rw [NA.out]; exact V _),aN (by rw [NB.out]; exact V _)] at h);go_wp2;go_ret;exact⟨by rw [decide_eq_true EQ.out]; rfl,BE.out⟩
 ·have hd:((a.length:Int) == (b.length:Int))=ay:=by simp; omega
  have hd2:(a.length == b.length)=ay:=by simp; exact hl
  have E:=D (decide_eq_false (show ¬ a=b from fun e=>hl (by rw [e])));have HD:=D hl;clear hl;go_enter bf,aY;go_wp2;go_ret;exact⟨by rw [E.out]; rfl,aB _ _⟩
end Bk
namespace Bk
open Go.RowKit Go.Sort Rw YtkcfgbddlpomgaaGreat.Nm Pr
noncomputable def adF:Code:=((Tryz.f27.body.bind (jr 0)).getD .skip)
theorem Zc (Q:Exit->Act->ah->Prop) (W:ah) (b2 b3:Nat) (me c d:Int) (y1 y2 y3 y4:aI) (so:Option Addr) (n sc:Nat) (l:List pK) (u0 u1 u2 u5 u6 u7 u9 u10 u11 u12 u13 u14 u15 u16 u17 u18 u19 u20 u21 u22 u23 u24 u25 u26 u27 u28 u29 u30 u31 u32 u33 u34 u35 u36 u37 u38 u39 u40 u41 u42 u43 u44 u45 u46 u47 u48 u49 u50 u51 u52 u53 u54 u55 u56 u57 u58 u59 u60 u61 u62 u63 u64 u65 u66 u67 u68 u69 u70 u71 u72 u73 u74 u75 u76 u77 u78 u79 u80 u81 u82 u83 u84 u85 u86 u87 u88 u89 u90 u91 u92 u93 u94 u95 u96 u97 u98:aI)
  (h2:dN W b2 #[K L me,y1,y2,y3,y4,aA so n sc] 33) (h3:dN W b3 #[K L c,K L d] 38) (hs:Ko W (aA so n sc) l) (hn:n=l.length) (hm:n<=1000000)
  (hQ:∀ (wr:ah) (v14 v15 v16 v17 v18 v19 v20 v21 v22 v23 v24 v25 v26 v27 v28 v29 v30:aI),Below W.heap.size W wr->Q .normal ⟨(u0::u1::u2::aV (aD ⟨b2,0,au⟩)::aV (aD ⟨b3,0,au⟩)::u5::u6::u7::K L (fO (l.map fun y=>(y.1,y.2.1)) (c,d):Nat)::u9::u10::u11::u12::u13::v14::v15::v16::v17::v18::v19::v20::v21::v22::v23::v24::v25::v26::v27::v28::v29::v30::u31::u32::u33::u34::u35::u36::u37::u38::u39::u40::u41::u42::u43::u44::u45::u46::u47::u48::u49::u50::u51::u52::u53::u54::u55::u56::u57::u58::u59::u60::u61::u62::u63::u64::u65::u66::u67::u68::u69::u70::u71::u72::u73::u74::u75::u76::u77::u78::u79::u80::u81::u82::u83::u84::u85::u86::u87::u88::u89::u90::u91::u92::u93::u94::u95::u96::u97::u98::[]).toArray,[]⟩ wr) :
  Code.wp aH adF Q ⟨(u0::u1::u2::aV (aD ⟨b2,0,au⟩)::aV (aD ⟨b3,0,au⟩)::u5::u6::u7::K L 0::u9::u10::u11::u12::u13::u14::u15::u16::u17::u18::u19::u20::u21::u22::u23::u24::u25::u26::u27::u28::u29::u30::u31::u32::u33::u34::u35::u36::u37::u38::u39::u40::u41::u42::u43::u44::u45::u46::u47::u48::u49::u50::u51::u52::u53::u54::u55::u56::u57::u58::u59::u60::u61::u62::u63::u64::u65::u66::u67::u68::u69::u70::u71::u72::u73::u74::u75::u76::u77::u78::u79::u80::u81::u82::u83::u84::u85::u86::u87::u88::u89::u90::u91::u92::u93::u94::u95::u96::u97::u98::[]).toArray,[]⟩ W:=by
 have HQ:=D hQ;have H2:=D h2;have H3:=D h3;have HS:=D hs;have HN:=D hn;clear hQ h2 h3 hs hn
 conv=>arg 2; whnf
 go_wp2
 go_loopw [8] (fun i wr=>∃ k:Nat,k<=n/\i=K L k/\Below W.heap.size W wr/\∀ (j:Nat) (y:Id),j<k->(l.map fun y=>(y.1,y.2.1))[j]?=aD y->eO y (c,d)=aT) (fun i _=>n-(intOf i).toNat)
 case atStart=>exact⟨0,aF _,rfl,aB _ _,fun j y h=>by omega⟩
 case round =>
  obtain⟨k,hk,rfl,hbe,hall⟩:=hrel;have BE:=D hbe;have AL:=D hall;clear hbe hall;have q0:=ak (show wr.cell? ⟨b2,5,au⟩=aD (aA so n sc) from (H2.out.on BE.out).cell 5);have r0:=ak (show wr.cell? ⟨b3,0,au⟩=aD (K L c) from (H3.out.on BE.out).cell 0);have r1:=ak (show wr.cell? ⟨b3,1,au⟩=aD (K L d) from (H3.out.on BE.out).cell 1);have hw3:IntKind.i64.wrap ((k:Int)+1)=(k:Int)+1:=IntWalk.i64_in _ (by omega);by_cases hlt:k<n
  ·obtain⟨y,hy⟩:∃ y,l[k]?=aD y:=⟨_,O (by rw [<- HN.out]; exact hlt)⟩;obtain⟨p,ix,px⟩:=elW HS.out rfl HN.out.symm hy;have zk:=px wr BE.out;obtain⟨y1,y2,⟨yo,yn,yc⟩⟩:=y;simp only at zk;have p0:=ak zk.1;have p1:=ak zk.2.1;have yT:decide ((k:Int)<(n:Int))=aT:=decide_eq_true (by omega);have CG:decide (k<n)=aT:=decide_eq_true hlt;obtain⟨r,hr⟩:∃ r,eO (y1,y2) (c,d)=r:=⟨_,rfl⟩;have LS:=D (fun d' os=>Calls.regrown_of (d:=d') (os:=os) ((tO (y1,y2) (c,d) (grow (bg wr d') os)).mono fun _ _ h=>⟨by rw [h.1,hr],h.2⟩));have HY:=D (show (l.map fun y=>(y.1,y.2.1))[k]?=aD (y1,y2) by rw [aC,hy]; rfl);have HR:=D hr;clear px zk hy hr;cases r
   ·go_wp2_with fail;refine wp_region_quiet_below (by kernel_rfl) (by kernel_rfl) ?_
    repeat (go_big_quiet_step (first | (with_reducible exact LS.out _ _)))
    refine wpQuiet_nil ?_;intro _ hw';obtain⟨⟨dq,osq⟩,hw''⟩:=hw';subst hw'';have Z6:=aJ wr dq osq;have HF:=D (fun v14 v15 v16 v17 v18 v19 v20 v21 v22 v23 v24 v25 v26 v27 v28 v29 v30=>HQ.out (grow (bg wr dq) osq) v14 v15 v16 v17 v18 v19 v20 v21 v22 v23 v24 v25 v26 v27 v28 v29 v30 (BE.out.trans (Z6.mono BE.out.size)));rw [pO (l.map fun y=>(y.1,y.2.1)) (c,d) k AL.out (Or.inr ⟨_,HY.out,HR.out⟩)] at HF;clear ix HQ q0 r0 r1 LS yT CG p0 p1;go_wp2;exact HF.out _ _ _ _ _ _ _ _ _ _ _ _ _ _ _ _ _
   ·go_wp2_with fail;refine wp_region_quiet_below (by kernel_rfl) (by kernel_rfl) ?_
    repeat (go_big_quiet_step (first | (with_reducible exact LS.out _ _)))
    refine wpQuiet_nil ?_;intro _ hw';obtain⟨⟨dq,osq⟩,hw''⟩:=hw';subst hw'';have Z6:=D (aJ wr dq osq);clear ix q0 r0 r1 LS yT CG p0 p1;go_wp2
    go_roundw
    case rel=>exact⟨k+1,by omega,by go_num,BE.out.trans (Z6.out.mono BE.out.size),fun j y' hj h1=>by
     rcases aS j k with h3|h3
     ·exact AL.out j y' h3 h1
     ·obtain rfl:j=k:=by omega
      have e1:=HY.out;rw [h1] at e1;rw [aO e1];exact HR.out⟩
    case measure=>simp [intOf]; omega
  ·obtain rfl:k=n:=by omega
   have yT:decide ((k:Int)<(k:Int))=ay:=by simp
   have CG:decide (k<k)=ay:=by simp
   go_wp2_with fail;refine wp_region_quiet_below (by kernel_rfl) (by kernel_rfl) ?_
   repeat (go_big_quiet_step (fail))
   refine wpQuiet_nil ?_;intro _ hw';obtain⟨⟨dq,osq⟩,hw''⟩:=hw';subst hw'';have Z6:=aJ wr dq osq;have HF:=D (fun v14 v15 v16 v17 v18 v19 v20 v21 v22 v23 v24 v25 v26 v27 v28 v29 v30=>HQ.out (grow (bg wr dq) osq) v14 v15 v16 v17 v18 v19 v20 v21 v22 v23 v24 v25 v26 v27 v28 v29 v30 (BE.out.trans (Z6.mono BE.out.size)));rw [pO (l.map fun y=>(y.1,y.2.1)) (c,d) k AL.out (Or.inl (by simpa using HN.out))] at HF;clear HQ q0 r0 r1 yT CG;go_wp2;exact HF.out _ _ _ _ _ _ _ _ _ _ _ _ _ _ _ _ _
end Bk
namespace Va
open Go.RowKit
end Va
namespace At
open Go.RowKit Go.Sort Va In
end At
namespace Rl
open Go.RowKit Go.Sort Pu Rw Pr Va
abbrev z5:C5:=(⟨#[]⟩,0,0,0,⟨#[]⟩)
def ofV:Option Cn->aI
 | some y=>.tuple #[cv (r5 y),Z aT]
 | none=>.tuple #[cv z5,Z ay]
theorem Lr (pv:aI) (p:List Cn) (n:ByteArray) (w:ah) (hp:gu w pv (p.map r5)) (_h100:p.length<=100) :
  aZ aH 128 #[pv,J n] w fun e w'=>e=aK (ofV (Yi p n))/\Below w.heap.size w w':=by
 have HP:=D hp;obtain⟨ao,ac,rfl⟩:=hp.len;rw [aj] at HP ⊢;generalize hm:p.length=m at *;have HM:=D hm;clear hp hm;have B0:=D (show Below w.heap.size w (w.alloc (U #[J ⟨#[]⟩,K L 0,K L 0,K L 0,J ⟨#[]⟩] 106)) from (aB _ _).alloc (V _) _);have Z0:=D (show dN (w.alloc (U #[J ⟨#[]⟩,K L 0,K L 0,K L 0,J ⟨#[]⟩] 106)) w.heap.size (cells5 z5).toArray 106 from dO w _ _);go_enter Tryz.func128,Tryz.ntmps128;go_wp2;generalize w.alloc (U #[J ⟨#[]⟩,K L 0,K L 0,K L 0,J ⟨#[]⟩] 106)=w1 at B0 Z0 ⊢
 go_loopw [10] (fun i wr=>∃ k:Nat,k<=m/\i=K L k/\Below w.heap.size w wr/\dN wr w.heap.size (cells5 z5).toArray 106/\∀ (j:Nat) (y:Cn),j<k->p[j]?=aD y->y.1≠n) (fun i _=>m-(intOf i).toNat)
 case atStart=>exact⟨0,aF _,rfl,B0.out,Z0.out,fun j y h=>by omega⟩
 case round =>
  obtain⟨k,hk,rfl,hb,ht,hall⟩:=hrel;have HB:=D hb;have HT:=D ht;have AL:=D hall;clear hb hall ht;by_cases hlt:k<m
  ·obtain⟨⟨xn,xk⟩,hx⟩:∃ x,p[k]?=aD x:=⟨_,O (by rw [HM.out]; exact hlt)⟩;obtain⟨q,ix,px⟩:=elC (x:=r5 (xn,xk)) HP.out rfl (by rw [aj]; exact HM.out) (by rw [aC,hx]; rfl);obtain⟨p0,p1,p2,p3,p4⟩:=px _ HB.out;have HX:=D hx;have B4:=D (HB.out.alloc HB.out.size (U #[J xn,K L (kN xk),K L (jN xk),K L (jO xk),J (kT xk)] 106));have T4:=D (HT.out.more (U #[J xn,K L (kN xk),K L (jN xk),K L (jO xk),J (kT xk)] 106));clear hx px;simp only [r5] at p0 p1 p2 p3 p4;by_cases he:xn=n
   ·have hn:(xn.toList == n.toList)=aT:=by rw [he]; exact beq_self_eq_true _
    have R:=D (afg HX.out he AL.out);clear he;obtain⟨c0,c1,c2,c3,c4⟩:=eZ HT.out;have f0:=HT.out.fr 0;have f1:=HT.out.fr 1;have f2:=HT.out.fr 2;have f3:=HT.out.fr 3;have f4:=HT.out.fr 4;have adH:=HT.out.lt;simp only at c0 c1 c2 c3 c4;go_wp2;have T5:=(yH HT.out (xn,kN xk,jN xk,jO xk,kT xk)).more (U #[J xn,K L (kN xk),K L (jN xk),K L (jO xk),J (kT xk)] 106);have B5:=(iO HB.out w.heap.size (V _) (J xn) (K L (kN xk)) (K L (jN xk)) (K L (jO xk)) (J (kT xk))).alloc (iO HB.out w.heap.size (V _) (J xn) (K L (kN xk)) (K L (jN xk)) (K L (jO xk)) (J (kT xk))).size (U #[J xn,K L (kN xk),K L (jN xk),K L (jO xk),J (kT xk)] 106);generalize World.alloc _ (U #[J xn,K L (kN xk),K L (jN xk),K L (jO xk),J (kT xk)] 106)=w6 at T5 B5 ⊢;obtain⟨d0,d1,d2,d3,d4⟩:=eZ T5;simp only at d0 d1 d2 d3 d4;refine aG (v:=ofV (aD (xn,xk))) (by simp [results,aU,go_sem,d0,d1,d2,d3,d4,ofV,r5]) rfl ⟨by rw [R.out],B5⟩
   ·have hn:(xn.toList == n.toList)=ay:=by rw [beq_eq_false_iff_ne]; exact fun h=>he (pG h)
    have HE:=D he;clear he;go_wp2
    go_roundw
    case rel=>exact⟨k+1,by omega,by go_num,B4.out,T4.out,fun j y hj hy=>by
     rcases aS j k with h3|h3
     ·exact AL.out j y h3 hy
     ·obtain rfl:j=k:=by omega
      have e:=HX.out;rw [hy] at e;rw [aO e];exact HE.out⟩
    case measure=>simp [intOf]; omega
  ·obtain rfl:k=m:=by omega
   have R:=D (YO (p:=p) (n:=n) (fun j y hj hy=>AL.out j y (by rw [<- HM.out]; exact hj) hy));obtain⟨c0,c1,c2,c3,c4⟩:=eZ HT.out;have f0:=HT.out.fr 0;have f1:=HT.out.fr 1;have f2:=HT.out.fr 2;have f3:=HT.out.fr 3;have f4:=HT.out.fr 4;have adH:=HT.out.lt;simp only at c0 c1 c2 c3 c4;go_wp2;have T5:=yH HT.out z5;have B5:=iO HB.out w.heap.size (V _) (J ⟨#[]⟩) (K L 0) (K L 0) (K L 0) (J ⟨#[]⟩);simp only at T5;generalize World.setCell _ _ (J ⟨#[]⟩)=w6 at T5 B5 ⊢;obtain⟨d0,d1,d2,d3,d4⟩:=eZ T5;simp only at d0 d1 d2 d3 d4;refine aG (v:=ofV au) (by simp [results,aU,go_sem,d0,d1,d2,d3,d4,ofV]) rfl ⟨by rw [R.out],B5⟩
theorem Qz (n:ByteArray) (c d:Kd) (w:ah) (hc:jy c=aT) (hd:jy d=aT) :
  aZ aH 129 #[cv (r5 (n,c)),cv (r5 (n,d))] w fun e w'=>e=aK (Z (eX d c))/\Below w.heap.size w w':=by
 obtain⟨ba,bb,hb⟩:=Ua w (r5 (n,c)) (r5 (n,d));have BB:=D bb;have B:=D hb;have CB:=D (UY (n,c) (n,d) ((w.alloc (U (cells5 (r5 (n,c))).toArray 106)).alloc (U (cells5 (r5 (n,d))).toArray 106)) rfl);have WS:=D (fun k (h:fE c d=aD k)=>La (n:=n) hc hd h);have WN:=D (fun (h:fE c d=au)=>Lb hd h);simp only at CB;generalize fE c d=r at *;generalize eX d c=i at *;clear ba bb hb hc hd;simp only [r5] at CB ⊢;go_enter Tryz.func129,Tryz.ntmps129;go_wp2_with fail;refine CB.out.mono ?_;rintro e w2 ⟨⟨y,rfl,hy⟩,hb2⟩;have B2:=D (B.out.trans (hb2.mono B.out.size));obtain⟨b0,b1,b2,b3,b4⟩:=eZ (BB.out.on hb2);simp only [r5] at b0 b1 b2 b3 b4;have B3:=D (B2.out.alloc B2.out.size (U #[J y.1,K L y.2.1,K L y.2.2.1,K L y.2.2.2.1,J y.2.2.2.2] 106));have HY:=D hy;have hw2:w.heap.size+1<w2.heap.size:=by have:=hb2.size; simp at this; omega
 clear hb2 CB BB B hy;rcases r with _|k
 ·have E:=D (WN.out rfl);clear WN WS;go_wp2;go_ret;exact⟨fu E.out.symm,B3.out⟩
 ·have E:=D (show SA y (r5 (n,d))=i by rw [HY.out k rfl]; exact WS.out k rfl);obtain⟨y0,y1,y2,y3,y4⟩:=y;clear WN WS HY B3;go_wp2
  all_goals go_ret
  all_goals exact⟨fu (by rw [<- E.out]; simp [SA,r5, *]),B2.out.alloc B2.out.size _⟩
end Rl
namespace At
open Go.RowKit Go.Sort Va In
def qm (W:ah) (b:Nat) (t:Bool) (i:Int) (s:ByteArray):Prop:=W.heap[b]?=aD (U #[Z t,K L i,J s] 93)
theorem qm.cell {W:ah} {b:Nat} {t:Bool} {i:Int} {s:ByteArray} (h:qm W b t i s) (k:Nat):W.cell? ⟨b,k,au⟩=#[Z t,K L i,J s][k]?:=by
 unfold qm at h;simp [World.cell?,h]
theorem qm.fr {W:ah} {b:Nat} {t:Bool} {i:Int} {s:ByteArray} (h:qm W b t i s) (k:Nat):W.frozen? ⟨b,k,au⟩=ay:=by
 unfold qm at h;simp [World.frozen?,h]
theorem qm.lt {W:ah} {b:Nat} {t:Bool} {i:Int} {s:ByteArray} (h:qm W b t i s):b<W.heap.size:=lt_of_heap h
theorem qm.on {W W':ah} {b:Nat} {t:Bool} {i:Int} {s:ByteArray} (h:qm W b t i s) (hb:Below W.heap.size W W'):qm W' b t i s:=by
 have hl:=h.lt;unfold qm at *;rw [hb.block _ hl]; exact h
theorem qm.more {W:ah} {b:Nat} {t:Bool} {i:Int} {s:ByteArray} (h:qm W b t i s) (o:Obj):qm (W.alloc o) b t i s:=h.on ((aB _ _).alloc (V _) _)
theorem dO (W:ah) (t:Bool) (i:Int) (s:ByteArray):qm (W.alloc (U #[Z t,K L i,J s] 93)) W.heap.size t i s:=by
 unfold qm;show (W.heap.push _)[W.heap.size]?=_;simp
def U9 (W:ah) (b:Nat) (t:Bool) (i:Int) (s:ByteArray):ah:=((W.setCell ⟨b,0,au⟩ (Z t)).setCell ⟨b,1,au⟩ (K L i)).setCell ⟨b,2,au⟩ (J s)
theorem qm.afz {W:ah} {b:Nat} {t:Bool} {i:Int} {s:ByteArray} (h:qm W b t i s) (t':Bool) (i':Int) (s':ByteArray):qm (U9 W b t' i' s') b t' i' s':=by
 unfold qm U9 at *;simp [World.setCell,Array.getElem?_modify,h]
theorem vW {B b:Nat} {W W':ah} (hb:Below B W W') (hB:B<=b) (t:Bool) (i:Int) (s:ByteArray):Below B W (U9 W' b t i s):=((hb.setCell hB _).setCell hB _).setCell hB _
theorem Ef:∀ (l:List A4) (n:ByteArray) (k:Nat) (x:A4),l[k]?=aD x->x.1=n->(∀ (j:Nat) (y:A4),j<k->l[j]?=aD y->y.1≠n)->yw l n=aD x.2
 | [],n,k,x,h,_,_=>by simp at h
 | y::r,n,0,x,h,e,_=>by simp at h; subst h; simp [yw,e]
 | y::r,n,k+1,x,h,e,hn=>by
  simp only [yw];rw [if_neg (hn 0 y (by omega) rfl),Ef r n k x (by simpa using h) e (fun j z hj hz=>hn (j+1) z (by omega) (by simpa using hz))]
theorem QB (l:List A4) (n:ByteArray) (h:∀ (j:Nat) (y:A4),j<l.length->l[j]?=aD y->y.1≠n):yw l n=au :=
 get_none l n fun x hx=>by
  obtain⟨j,hj,e⟩:=List.getElem_of_mem hx;exact h j x hj (by rw [O hj,e])
theorem afA:afi:=by
 intro lv l n w hl h5 hn;have HL:=D hl;obtain⟨lo,lc,rfl⟩:=hl.len;have B0:=D (show Below w.heap.size w (w.alloc (U #[Z ay,K L 0,J ⟨#[]⟩] 93)) from (aB _ _).alloc (V _) _);have HT0:=D (dO w ay 0 ⟨#[]⟩);clear hl;go_enter Tryz.func44,Tryz.ntmps44;go_wp2;generalize w.alloc (U #[Z ay,K L 0,J ⟨#[]⟩] 93)=w1 at B0 HT0 ⊢
 go_loopw [10] (fun i wr=>∃ k:Nat,k<=l.length/\i=K L k/\Below w.heap.size w wr/\qm wr w.heap.size ay 0 ⟨#[]⟩/\∀ (j:Nat) (y:A4),j<k->l[j]?=aD y->y.1≠n) (fun i _=>l.length-(intOf i).toNat)
 case atStart=>exact⟨0,aF _,rfl,B0.out,HT0.out,fun j y h=>by omega⟩
 case round =>
  obtain⟨k,hk,rfl,hb,ht,hall⟩:=hrel;have HB:=D hb;have HT:=D ht;have AL:=D hall;clear hb hall ht;by_cases hlt:k<l.length
  ·obtain⟨⟨xn,xt,xi,xs⟩,hx⟩:∃ x,l[k]?=aD x:=⟨_,O hlt⟩;obtain⟨p,ix,px⟩:=P7 HL.out rfl rfl hx;obtain⟨p0,p1,p2,p3⟩:=px _ HB.out;have HX:=D hx;have B4:=D (HB.out.alloc HB.out.size (U #[J xn,Z xt,K L xi,J xs] 97));have T4:=D (HT.out.more (U #[J xn,Z xt,K L xi,J xs] 97));clear hx px;simp only at p0 p1 p2 p3;by_cases he:xn=n
   ·have hn:(xn.toList == n.toList)=aT:=by rw [he]; exact beq_self_eq_true _
    have R:=D (Ef l n k _ HX.out he AL.out);have HE:=D he;clear he;have c0:=HT.out.cell 0;have c1:=HT.out.cell 1;have c2:=HT.out.cell 2;simp at c0 c1 c2;have f0:=HT.out.fr 0;have f1:=HT.out.fr 1;have f2:=HT.out.fr 2;have adH:=HT.out.lt;go_wp2;have T5:=(HT.out.afz xt xi xs).more (U #[J xn,Z xt,K L xi,J xs] 97);have B5:=(vW HB.out (V _) xt xi xs).alloc (vW HB.out (V _) xt xi xs).size (U #[J xn,Z xt,K L xi,J xs] 97);unfold U9 at T5 B5;generalize World.alloc _ (U #[J xn,Z xt,K L xi,J xs] 97)=w6 at T5 B5 ⊢;have d0:=T5.cell 0;have d1:=T5.cell 1;have d2:=T5.cell 2;simp at d0 d1 d2;refine aG (v:=Lc (aD (xt,xi,xs))) (by simp [results,aW,go_sem,d0,d1,d2,Lc]) rfl ⟨by rw [R.out],B5⟩
   ·have hn:(xn.toList == n.toList)=ay:=by rw [beq_eq_false_iff_ne]; exact fun h=>he (pG h)
    have HE:=D he;clear he;go_wp2
    go_roundw
    case rel=>exact⟨k+1,by omega,by go_num,B4.out,T4.out,fun j y hj hy=>by
     rcases aS j k with h3|h3
     ·exact AL.out j y h3 hy
     ·obtain rfl:j=k:=by omega
      have e:=HX.out;rw [hy] at e;rw [aO e];exact HE.out⟩
    case measure=>simp [intOf]; omega
  ·obtain rfl:k=l.length:=by omega
   have R:=D (QB l n (fun j y hj hy=>AL.out j y hj hy));have c0:=HT.out.cell 0;have c1:=HT.out.cell 1;have c2:=HT.out.cell 2;simp at c0 c1 c2;have f0:=HT.out.fr 0;have f1:=HT.out.fr 1;have f2:=HT.out.fr 2;have adH:=HT.out.lt;go_wp2;have T5:=HT.out.afz ay 0 ⟨#[]⟩;have B5:=vW HB.out (V _) ay 0 ⟨#[]⟩;unfold U9 at T5 B5;generalize World.setCell _ _ (J ⟨#[]⟩)=w6 at T5 B5 ⊢;have d0:=T5.cell 0;have d1:=T5.cell 1;have d2:=T5.cell 2;simp at d0 d1 d2;refine aG (v:=Lc au) (by simp [results,aW,go_sem,d0,d1,d2,Lc]) rfl ⟨by rw [R.out],B5⟩
end At
namespace Rl
open Go.RowKit Go.Sort Pu Rw Pr Va
def Ls (l:List An) (c:Cn):Bool:=match At.yw l c.1 with
 | some v=>eG c.2 v
 | none=>ay
theorem I6:∀ (l:List An) (n:ByteArray),At.yw l n=(l.find? fun a=>decide (a.1=n)).map (·.2)
 | [],n=>rfl
 | x::r,n=>by
  simp only [At.yw,List.find?_cons];by_cases h:x.1=n
  ·simp [h]
  ·simp [h,I6 r n]
theorem QC {p:List Cn} {l:List An} (h:NL l):xS p l=p.all (Ls l):=by
 rw [PZ h.nodup]
 congr 1
 funext c
 unfold Ls;rw [I6];cases l.find? fun a=>decide (a.1=c.1) <;> rfl
theorem NK {α:Type} (f:α->Bool) (l:List α) (m:Nat) (h:l.length=m):(l.take m).all f=l.all f:=by rw [<- h,List.take_length]
theorem Eh (pv lv:aI) (p:List Cn) (l:List An) (w:ah) (hp:gu w pv (p.map r5)) (hl:wH w lv l) (np:NF p) (nl:NL l) :
  aZ aH 18 #[pv,lv] w fun e w'=>e=aK (Z (xS p l))/\Below w.heap.size w w':=by
 have CO:=D (QC (p:=p) nl);have HP:=D hp;have HL:=D (ac0.2 hl);have h5:l.length<=100:=by have:=nl.five; omega
 have SM:=D np.small;have m5:p.length<=5:=np.five;obtain⟨ao,ac,rfl⟩:=hp.len;rw [aj] at HP ⊢;generalize hm:p.length=m at *;have HM:=D hm;generalize xS p l=r at *;clear hp hl hm np nl;go_enter Tryz.func18,Tryz.ntmps18;go_wp2
 go_loopw [11] (fun i wr=>∃ k:Nat,k<=m/\i=K L k/\Below w.heap.size w wr/\(p.take k).all (Ls l)=aT) (fun i _=>m-(intOf i).toNat)
 case atStart=>exact⟨0,aF _,rfl,aB _ _,rfl⟩
 case round =>
  obtain⟨k,hk,rfl,hb,hall⟩:=hrel;have HB:=D hb;have AL:=D hall;clear hb hall;by_cases hlt:k<m
  ·obtain⟨⟨xn,xk⟩,hx⟩:∃ x,p[k]?=aD x:=⟨_,O (by rw [HM.out]; exact hlt)⟩;obtain⟨q,ix,px⟩:=elC (x:=r5 (xn,xk)) HP.out rfl (by rw [aj]; exact HM.out) (by rw [aC,hx]; rfl);obtain⟨p0,p1,p2,p3,p4⟩:=px _ HB.out;have MO:=D (z8 (Ls l) p k (xn,xk) hx);have NO:=D (fun h=>FJ (Ls l) p k (xn,xk) hx h);have SX:=D (SM.out _ (aQ hx));have BX:=D (show dN (wr.alloc (U #[J xn,K L (kN xk),K L (jN xk),K L (jO xk),J (kT xk)] 106)) wr.heap.size (cells5 (xn,kN xk,jN xk,jO xk,kT xk)).toArray 106 from dO wr _ _);have B1:=D (HB.out.alloc HB.out.size (U #[J xn,K L (kN xk),K L (jN xk),K L (jO xk),J (kT xk)] 106));have G:=D (At.afA lv l xn (wr.alloc (U #[J xn,K L (kN xk),K L (jN xk),K L (jO xk),J (kT xk)] 106)) (HL.out.on B1.out) h5 (by have:xn.size<=100:=SX.out.1; unfold maxLen; omega));have GC:=D (show Ls l (xn,xk)=match At.yw l xn with
    | some v=>eG xk v
    | none=>ay from rfl)
   have HO:=D (fun t n s W=>Dv (xn,xk) t n s W);obtain⟨gg,hgg⟩:∃ g,Ls l (xn,xk)=g:=⟨_,rfl⟩;rw [hgg] at GC MO NO;simp only [r5] at p0 p1 p2 p3 p4 HO;clear hx px hgg;go_wp2_with fail;refine G.out.mono ?_;rintro e2 w2 ⟨he2,hb2⟩;have B2:=D (B1.out.trans (hb2.mono B1.out.size));obtain⟨x0,x1,x2,x3,x4⟩:=eZ (BX.out.on hb2);simp only at x0 x1 x2 x3 x4;have hwl:wr.heap.size<w2.heap.size:=by have:=hb2.size; simp at this; omega
   rcases hg:At.yw l xn with _|⟨t,n,s⟩
   ·rw [hg] at he2 GC;subst he2;have R:=D (show r=ay by rw [CO.out]; exact NO.out GC.out);clear hb2 G B1 BX ix p0 p1 p2 p3 p4 hg;unfold At.Lc;go_wp2;go_ret;exact⟨fu R.out.symm,B2.out.alloc B2.out.size _⟩
   ·rw [hg] at he2 GC;subst he2;clear hb2 G B1 BX ix p0 p1 p2 p3 p4 hg;unfold At.Lc;go_wp2_with fail;refine (HO.out _ _ _ _).mono ?_;rintro e3 w3 ⟨rfl,hb3⟩;have B3:=D ((B2.out.alloc B2.out.size (U #[Z t,K L n,J s] 93)).trans (hb3.mono (B2.out.alloc B2.out.size (U #[Z t,K L n,J s] 93)).size));rw [<- GC.out];clear hb3 B2 x0 x1 x2 x3 x4 hwl;cases gg
    ·have R:=D (show r=ay by rw [CO.out]; exact NO.out rfl);go_wp2;go_ret;exact⟨fu R.out.symm,B3.out⟩
    ·go_wp2
     go_roundw
     case rel=>exact⟨k+1,by omega,by go_num,B3.out,by rw [MO.out,AL.out]; rfl⟩
     case measure=>simp [intOf]; omega
  ·obtain rfl:k=m:=by omega
   have R:=D (show r=aT by rw [CO.out,<- NK _ p _ HM.out]; exact AL.out);go_wp2;go_ret;exact⟨fu R.out.symm,HB.out⟩
theorem Lu (pv qv:aI) (p b:List Cn) (w:ah) (hp:gu w pv (p.map r5)) (hl:gu w qv (b.map r5)) (np:NF p) (nb:NF b) :
  aZ aH 107 #[pv,qv] w fun e w'=>e=aK (Z (qw p b))/\Below w.heap.size w w':=by
 have CO:=D (Qk (a:=p) nb.rise);have HP:=D hp;have HL:=D hl;have h5:b.length<=100:=by have:=nb.five; omega
 have GP:=D np.jy;have GB:=D nb.jy;have m5:p.length<=5:=np.five;obtain⟨ao,ac,rfl⟩:=hp.len;rw [aj] at HP ⊢;generalize hm:p.length=m at *;have HM:=D hm;generalize qw p b=r at *;clear hp hl hm np nb;go_enter Tryz.func107,Tryz.ntmps107;go_wp2
 go_loopw [11] (fun i wr=>∃ k:Nat,k<=m/\i=K L k/\Below w.heap.size w wr/\(p.take k).all (K7 b)=aT) (fun i _=>m-(intOf i).toNat)
 case atStart=>exact⟨0,aF _,rfl,aB _ _,rfl⟩
 case round =>
  obtain⟨k,hk,rfl,hb,hall⟩:=hrel;have HB:=D hb;have AL:=D hall;clear hb hall;by_cases hlt:k<m
  ·obtain⟨⟨xn,xk⟩,hx⟩:∃ x,p[k]?=aD x:=⟨_,O (by rw [HM.out]; exact hlt)⟩;obtain⟨q,ix,px⟩:=elC (x:=r5 (xn,xk)) HP.out rfl (by rw [aj]; exact HM.out) (by rw [aC,hx]; rfl);obtain⟨p0,p1,p2,p3,p4⟩:=px _ HB.out;have MO:=D (z8 (K7 b) p k (xn,xk) hx);have NO:=D (fun h=>FJ (K7 b) p k (xn,xk) hx h);have GX:=D (GP.out _ (aQ hx));have BX:=D (show dN (wr.alloc (U #[J xn,K L (kN xk),K L (jN xk),K L (jO xk),J (kT xk)] 106)) wr.heap.size (cells5 (xn,kN xk,jN xk,jO xk,kT xk)).toArray 106 from dO wr _ _);have B1:=D (HB.out.alloc HB.out.size (U #[J xn,K L (kN xk),K L (jN xk),K L (jO xk),J (kT xk)] 106));have G:=D (Lr qv b xn (wr.alloc (U #[J xn,K L (kN xk),K L (jN xk),K L (jO xk),J (kT xk)] 106)) (HL.out.on B1.out) h5);have GC:=D (show K7 b (xn,xk)=match Yi b xn with
    | some y=>eX y.2 xk
    | none=>ay from rfl)
   obtain⟨gg,hgg⟩:∃ g,K7 b (xn,xk)=g:=⟨_,rfl⟩;rw [hgg] at GC MO NO;simp only [r5] at p0 p1 p2 p3 p4;clear hx px hgg;go_wp2_with fail;refine G.out.mono ?_;rintro e2 w2 ⟨he2,hb2⟩;have B2:=D (B1.out.trans (hb2.mono B1.out.size));obtain⟨x0,x1,x2,x3,x4⟩:=eZ (BX.out.on hb2);simp only at x0 x1 x2 x3 x4;have hwl:wr.heap.size<w2.heap.size:=by have:=hb2.size; simp at this; omega
   rcases hg:Yi b xn with _|⟨yn,yk⟩
   ·rw [hg] at he2 GC;subst he2;have R:=D (show r=ay by rw [CO.out]; exact NO.out GC.out);clear hb2 G B1 BX ix p0 p1 p2 p3 p4 hg;unfold ofV;go_wp2;go_ret;exact⟨fu R.out.symm,B2.out.alloc B2.out.size _⟩
   ·obtain⟨hm1,hm2⟩:=Uq hg;obtain rfl:yn=xn:=hm2;rw [hg] at he2 GC;subst he2;have WC:=D (fun W=>Qz yn xk yk W GX.out (GB.out _ hm1));simp only [r5] at WC;clear hb2 G B1 BX ix p0 p1 p2 p3 p4 hg hm1;unfold ofV;simp only [r5];go_wp2_with fail;refine (WC.out _).mono ?_;rintro e3 w3 ⟨rfl,hb3⟩;have B3:=D ((B2.out.alloc B2.out.size (U #[J yn,K L (kN yk),K L (jN yk),K L (jO yk),J (kT yk)] 106)).trans (hb3.mono (B2.out.alloc B2.out.size (U #[J yn,K L (kN yk),K L (jN yk),K L (jO yk),J (kT yk)] 106)).size));rw [<- GC.out];clear hb3 B2 x0 x1 x2 x3 x4 hwl WC;cases gg
    ·have R:=D (show r=ay by rw [CO.out]; exact NO.out rfl);go_wp2;go_ret;exact⟨fu R.out.symm,B3.out⟩
    ·go_wp2
     go_roundw
     case rel=>exact⟨k+1,by omega,by go_num,B3.out,by rw [MO.out,AL.out]; rfl⟩
     case measure=>simp [intOf]; omega
  ·obtain rfl:k=m:=by omega
   have R:=D (show r=aT by rw [CO.out,<- NK _ p _ HM.out]; exact AL.out);go_wp2;go_ret;exact⟨fu R.out.symm,HB.out⟩
end Rl
namespace Sb
open Go.RowKit Go.Sort Rw YtkcfgbddlpomgaaGreat.Nm Pr Bk Av
abbrev I7 (W:ah) (b:Nat) (a0 a1 a2 a3 a4 a5 a6:aI):ah:=((((((W.setCell ⟨b,0,au⟩ a0).setCell ⟨b,1,au⟩ a1).setCell ⟨b,2,au⟩ a2).setCell ⟨b,3,au⟩ a3).setCell ⟨b,4,au⟩ a4).setCell ⟨b,5,au⟩ a5).setCell ⟨b,6,au⟩ a6
theorem uh {W:ah} {b:Nat} {t:TypeId} {z0 z1 z2 z3 z4 z5 z6:aI} (h:dN W b #[z0,z1,z2,z3,z4,z5,z6] t) (a0 a1 a2 a3 a4 a5 a6:aI):dN (I7 W b a0 a1 a2 a3 a4 a5 a6) b #[a0,a1,a2,a3,a4,a5,a6] t:=by
 have h2:=dR (k:=6) (dR (k:=5) (dR (k:=4) (dR (k:=3) (dR (k:=2) (dR (k:=1) (dR (k:=0) h a0) a1) a2) a3) a4) a5) a6;simpa using h2
theorem pU {B:Nat} {W0 W:ah} {b:Nat} (h:Below B W0 W) (hb:B<=b) (a0 a1 a2 a3 a4 a5 a6:aI):Below B W0 (I7 W b a0 a1 a2 a3 a4 a5 a6):=(((((((h).setCell (p:=⟨b,0,au⟩) hb a0).setCell (p:=⟨b,1,au⟩) hb a1).setCell (p:=⟨b,2,au⟩) hb a2).setCell (p:=⟨b,3,au⟩) hb a3).setCell (p:=⟨b,4,au⟩) hb a4).setCell (p:=⟨b,5,au⟩) hb a5).setCell (p:=⟨b,6,au⟩) hb a6
theorem I8 {α:Type} {E:Ek α} {W:ah} {B:Nat} {v:aI} {l:List α} (h:Own E W B v l) (b:Nat) (hb:b<B) (a0 a1 a2 a3 a4 a5 a6:aI):Own E (I7 W b a0 a1 a2 a3 a4 a5 a6) B v l :=
 dP (dP (dP (dP (dP (dP (dP (h) b 0 a0 hb) b 1 a1 hb) b 2 a2 hb) b 3 a3 hb) b 4 a4 hb) b 5 a5 hb) b 6 a6 hb
theorem I9 (w:ah) (b:Nat) (a0 a1 a2 a3 a4 a5 a6:aI):But b w (I7 w b a0 a1 a2 a3 a4 a5 a6) :=
 ((((((dY _ b _ _).trans (dY _ b _ _)).trans (dY _ b _ _)).trans (dY _ b _ _)).trans (dY _ b _ _)).trans (dY _ b _ _)).trans (dY _ b _ _)
theorem wX (x:iH) (p:List C5) (w:ah) (hp:gu w (dU x.2.2.2.2.1) p) (hl:p.length<=900) :
  aZ aH 47 #[qg x] w fun e w'=>(∃ v':Sl,e=aK (qg (x.1,x.2.1,x.2.2.1,x.2.2.2.1,v',x.2.2.2.2.2.1,x.2.2.2.2.2.2))/\jP w' w.heap.size (dU v') p)/\Below w.heap.size w w':=by
 obtain⟨y1,y2,y3,y4,⟨s1,s2,s3⟩,y6,y7⟩:=x;obtain⟨h0,X,Y⟩:=iE w #[K L y1,K L y2,K L y3,K L y4,aA s1 s2 s3,K L y6,Z y7] #[K L 0,K L 0,K L 0,K L 0,aA au 0 0,K L 0,Z ay] 68 68;have C:=D (sJ (s1,s2,s3) p _ (hp.on h0) hl);have B:=D h0;have x4:=X.cell 4;simp only [aP,aL,aM] at x4;have X:=D X;have Y:=D Y;clear h0 hp hl;go_enter Tryz.func47,Tryz.ntmps47;go_wp2_with fail;generalize (w.alloc (U #[K L y1,K L y2,K L y3,K L y4,aA s1 s2 s3,K L y6,Z y7] 68)).alloc (U #[K L 0,K L 0,K L 0,K L 0,aA au 0 0,K L 0,Z ay] 68)=W at *;refine C.out.mono ?_;rintro e w1 ⟨⟨⟨u1,u2,u3⟩,rfl,ho⟩,hb⟩;have X1:=X.out.on hb;have Y1:=Y.out.on hb;have hs:w.heap.size<W.heap.size:=X.out.lt;have O1:=D (dP ho w.heap.size 4 (aA u1 u2 u3) hs);have XB:=D (show dN _ _ #[K L y1,K L y2,K L y3,K L y4,aA u1 u2 u3,K L y6,Z y7] _ from by simpa using dR (k:=4) X1 (aA u1 u2 u3));have YB:=D (show dN _ _ _ _ from (aX w1 ⟨w.heap.size,4,au⟩ (aA u1 u2 u3) _ (show w.heap.size+1≠w.heap.size by omega)).trans Y1);have B1:=D ((B.out.trans (hb.mono B.out.size)).setCell (p:=⟨w.heap.size,4,au⟩) (V _) (aA u1 u2 u3));have y4':=X1.cell 4;have f4:=X1.fr 4;have z4:=X1.lt;simp only [aP,aL,aM] at y4';clear X1 Y1 ho hb x4 C;go_upto_region 2 with fail;clear y4' f4 z4;generalize w1.setCell ⟨w.heap.size,4,au⟩ (aA u1 u2 u3)=w2 at *;obtain⟨x0,x1,x2,x3,x4,x5,x6⟩:=XB.out.oI;obtain⟨r0,r1,r2,r3,r4,r5,r6⟩:=YB.out.oI;obtain⟨t0,t1,t2,t3,t4,t5,t6⟩:=YB.out.Z9;have zz:=YB.out.lt;have hs2:w.heap.size+1<W.heap.size:=Y.out.lt;have FB:=D (uh YB.out (K L y1) (K L y2) (K L y3) (K L y4) (aA u1 u2 u3) (K L y6) (Z y7));have BL:=D (pU (b:=w.heap.size+1) B1.out (by omega) (K L y1) (K L y2) (K L y3) (K L y4) (aA u1 u2 u3) (K L y6) (Z y7));have FO:=D (I8 O1.out (w.heap.size+1) hs2 (K L y1) (K L y2) (K L y3) (K L y4) (aA u1 u2 u3) (K L y6) (Z y7));have HS:=D hs;clear hs hs2;go_wp2_with fail;obtain⟨v0,v1,v2,v3,v4,v5,v6⟩:=FB.out.oI;refine aG (v:=.agg #[K L y1,K L y2,K L y3,K L y4,aA u1 u2 u3,K L y6,Z y7]) (by simp [results,Tryz.results47,go_sem,v0,v1,v2,v3,v4,v5,v6]) rfl ?_;exact⟨⟨(u1,u2,u3),rfl,dJ FO.out (Nat.le_of_lt HS.out)⟩,BL.out⟩
end Sb
end Go.Proofs.YtkcfgbddlpomgaaGreat
