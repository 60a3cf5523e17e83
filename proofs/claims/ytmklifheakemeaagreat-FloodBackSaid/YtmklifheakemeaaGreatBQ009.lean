/-
  The two loops of Lea. Conditions as told.
-/
import Derived.Test.YtmklifheakemeaaGreatBQ006
import Derived.Lib.QuietBelow
import Derived.BigQuiet
set_option maxRecDepth 100000
set_option maxHeartbeats 64000000
open _root_.Go renaming Value->aF,World->aH
open Go.IntKind renaming i64->aj
open Go.Lib renaming hid->J
open Go.Operand renaming tmp->Y
open Go.Proofs.Tryz renaming prog->aD
open Go.RowKit.Below renaming refl->O,heap_setCell->aB
open Go.Value renaming pointer->L,int->ah,slice->ak
open _root_.List renaming getElem?_toArray->Z,getElem?_cons_zero->au,getElem?_cons_succ->ay,getElem?_eq_getElem->aC,takeWhile_cons->aG,length_take->aI
open _root_.Option renaming some->U,none->X
open Option.some renaming inj->V
open _root_.Or renaming inr->aA,inl->aJ
namespace Go.Proofs.YtmklifheakemeaaGreat
namespace Bk
open Go.RowKit Go.Sort Rw YtmklifheakemeaaGreat.Nm Pr
theorem oq (l:List Id) (x:Id) (k:Nat) (hall:∀ (j:Nat) (y:Id),j<k->l[j]?=U y->eP y x=true) (hend:k=l.length\/∃ y,l[k]?=U y/\eP y x=false):fM l x=k:=by
 unfold fM
 induction l generalizing k with
 | nil =>
  rcases hend with h|⟨y,h,_⟩
  ·rw [h]; rfl
  ·simp at h
 | cons a l ih =>
  cases k with
  | zero =>
   rcases hend with h|⟨y,h,h2⟩
   ·simp at h
   ·obtain rfl:a=y:=by simpa using h
    rw [aG,h2]
    rfl
  | succ k =>
   have h0:=hall 0 a (by omega) rfl;rw [aG,h0];simp only [if_true,List.length_cons];rw [ih k (fun j y hj hy=>hall (j+1) y (by omega) (by simpa using hy)) (by
    rcases hend with h|⟨y,h,h2⟩
    ·exact aJ (by simpa using h)
    ·exact aA ⟨y,by simpa using h,h2⟩)]
noncomputable def XP:Code:=((Tryz.f45.body.bind (jM 0)).getD .skip)
theorem RX (Q:Exit->Act->aH->Prop) (W:aH) (b2 b3:Nat) (me c d:Int) (y1 y2 y4 y5 p3 q3:aF) (so:Option Addr) (n sc:Nat) (l:List fD) (u0 u1 u4 u5 u7 u8 u9 u10 u11 u12 u13 u14 u15 u16 u17 u18 u19 u20 u21 u22 u23 u24 u25 u26 u27 u28 u29 u30 u31 u32 u33 u34 u35 u36 u37 u38 u39 u40 u41 u42 u43 u44 u45 u46 u47 u48 u49 u50 u51 u52 u53 u54 u55 u56 u57 u58 u59 u60 u61 u62 u63 u64 u65 u66 u67 u68 u69 u70 u71 u72 u73 u74 u75 u76 u77 u78:aF)
  (h2:dJ W b2 #[ah aj me,y1,y2,ak so n sc,y4,y5] 28) (h3:dJ W b3 #[ah aj c,ah aj d,p3,q3] 74) (hs:uY W (ak so n sc) l) (hn:n=l.length) (hm:n<=1000000)
  (hQ:∀ (wr:aH) (v12 v13 v14 v15 v16 v17 v18 v19 v20 v21 v22 v23 v24 v25 v26 v27 v28:aF),Below W.heap.size W wr->Q .normal ⟨(u0::u1::L (U ⟨b2,0,X⟩)::L (U ⟨b3,0,X⟩)::u4::u5::ah aj (fM l (c,d):Nat)::u7::u8::u9::u10::u11::v12::v13::v14::v15::v16::v17::v18::v19::v20::v21::v22::v23::v24::v25::v26::v27::v28::u29::u30::u31::u32::u33::u34::u35::u36::u37::u38::u39::u40::u41::u42::u43::u44::u45::u46::u47::u48::u49::u50::u51::u52::u53::u54::u55::u56::u57::u58::u59::u60::u61::u62::u63::u64::u65::u66::u67::u68::u69::u70::u71::u72::u73::u74::u75::u76::u77::u78::[]).toArray,[]⟩ wr) :
  Code.wp aD XP Q ⟨(u0::u1::L (U ⟨b2,0,X⟩)::L (U ⟨b3,0,X⟩)::u4::u5::ah aj 0::u7::u8::u9::u10::u11::u12::u13::u14::u15::u16::u17::u18::u19::u20::u21::u22::u23::u24::u25::u26::u27::u28::u29::u30::u31::u32::u33::u34::u35::u36::u37::u38::u39::u40::u41::u42::u43::u44::u45::u46::u47::u48::u49::u50::u51::u52::u53::u54::u55::u56::u57::u58::u59::u60::u61::u62::u63::u64::u65::u66::u67::u68::u69::u70::u71::u72::u73::u74::u75::u76::u77::u78::[]).toArray,[]⟩ W:=by
 have HQ:=J hQ;have H2:=J h2;have H3:=J h3;have HS:=J hs;have HN:=J hn;clear hQ h2 h3 hs hn
 conv=>arg 2; whnf
 go_wp2
 go_loopw [6] (fun i wr=>∃ k:Nat,k<=n/\i=ah aj k/\Below W.heap.size W wr/\∀ (j:Nat) (y:Id),j<k->l[j]?=U y->eP y (c,d)=true) (fun i _=>n-(intOf i).toNat)
 case atStart=>exact⟨0,Nat.zero_le _,rfl,O _ _,fun j y h=>by omega⟩
 case round =>
  obtain⟨k,hk,rfl,hbe,hall⟩:=hrel;have BE:=J hbe;have AL:=J hall;clear hbe hall;have q0:=cell_regrown (show wr.cell? ⟨b2,3,X⟩=U (ak so n sc) from (H2.out.on BE.out).cell 3);have r0:=cell_regrown (show wr.cell? ⟨b3,0,X⟩=U (ah aj c) from (H3.out.on BE.out).cell 0);have r1:=cell_regrown (show wr.cell? ⟨b3,1,X⟩=U (ah aj d) from (H3.out.on BE.out).cell 1);have hw3:IntKind.i64.wrap ((k:Int)+1)=(k:Int)+1:=IntWalk.i64_in _ (by omega);by_cases hlt:k<n
  ·obtain⟨y,hy⟩:∃ y,l[k]?=U y:=⟨_,aC (by rw [<- HN.out]; exact hlt)⟩;obtain⟨p,ix,px⟩:=elJ HS.out rfl HN.out.symm hy;have yO:=px wr BE.out;obtain⟨y1,y2⟩:=y;simp only at yO;have p0:=cell_regrown yO.1;have p1:=cell_regrown yO.2;have yu:decide ((k:Int)<(n:Int))=true:=decide_eq_true (by omega);have Cm:decide (k<n)=true:=decide_eq_true hlt;obtain⟨r,hr⟩:∃ r,eP (y1,y2) (c,d)=r:=⟨_,rfl⟩;have LS:=J (fun d' os=>Calls.regrown_of (d:=d') (os:=os) ((sF (y1,y2) (c,d) (grow (redrawn wr d') os)).mono fun _ _ h=>⟨by rw [h.1,hr],h.2⟩));have HY:=J (show l[k]?=U (y1,y2) by exact hy);have HR:=J hr;clear px yO hy hr;cases r
   ·go_wp2_with fail;refine wp_region_quiet_below (by kernel_rfl) (by kernel_rfl) ?_
    repeat (go_big_quiet_step (first | (with_reducible exact LS.out _ _)))
    refine wpQuiet_nil ?_;intro _ hw';obtain⟨⟨dq,osq⟩,hw''⟩:=hw';subst hw'';have Z6:=below_regrown wr dq osq;have HF:=J (fun v12 v13 v14 v15 v16 v17 v18 v19 v20 v21 v22 v23 v24 v25 v26 v27 v28=>HQ.out (grow (redrawn wr dq) osq) v12 v13 v14 v15 v16 v17 v18 v19 v20 v21 v22 v23 v24 v25 v26 v27 v28 (BE.out.trans (Z6.mono BE.out.size)));rw [oq l (c,d) k AL.out (aA ⟨_,HY.out,HR.out⟩)] at HF;clear ix HQ q0 r0 r1 LS yu Cm p0 p1;go_wp2;exact HF.out _ _ _ _ _ _ _ _ _ _ _ _ _ _ _ _ _
   ·go_wp2_with fail;refine wp_region_quiet_below (by kernel_rfl) (by kernel_rfl) ?_
    repeat (go_big_quiet_step (first | (with_reducible exact LS.out _ _)))
    refine wpQuiet_nil ?_;intro _ hw';obtain⟨⟨dq,osq⟩,hw''⟩:=hw';subst hw'';have Z6:=J (below_regrown wr dq osq);clear ix q0 r0 r1 LS yu Cm p0 p1;go_wp2
    go_roundw
    case rel=>exact⟨k+1,by omega,by go_num,BE.out.trans (Z6.out.mono BE.out.size),fun j y' hj h1=>by
     rcases Nat.lt_or_ge j k with h3|h3
     ·exact AL.out j y' h3 h1
     ·obtain rfl:j=k:=by omega
      have e1:=HY.out;rw [h1] at e1;rw [V e1];exact HR.out⟩
    case measure=>simp [intOf]; omega
  ·obtain rfl:k=n:=by omega
   have yu:decide ((k:Int)<(k:Int))=false:=by simp
   have Cm:decide (k<k)=false:=by simp
   go_wp2_with fail;refine wp_region_quiet_below (by kernel_rfl) (by kernel_rfl) ?_
   repeat (go_big_quiet_step (fail))
   refine wpQuiet_nil ?_;intro _ hw';obtain⟨⟨dq,osq⟩,hw''⟩:=hw';subst hw'';have Z6:=below_regrown wr dq osq;have HF:=J (fun v12 v13 v14 v15 v16 v17 v18 v19 v20 v21 v22 v23 v24 v25 v26 v27 v28=>HQ.out (grow (redrawn wr dq) osq) v12 v13 v14 v15 v16 v17 v18 v19 v20 v21 v22 v23 v24 v25 v26 v27 v28 (BE.out.trans (Z6.mono BE.out.size)));rw [oq l (c,d) k AL.out (aJ (by simpa using HN.out))] at HF;clear HQ q0 r0 r1 yu Cm;go_wp2;exact HF.out _ _ _ _ _ _ _ _ _ _ _ _ _ _ _ _ _
noncomputable def XQ:Code:=((Tryz.f45.body.bind (jM 2)).getD .skip)
theorem RY (Q:Exit->Act->aH->Prop) (W:aH) (b2 b3:Nat) (me c d:Int) (y1 y3 y4 y5 p3 q3:aF) (so:Option Addr) (n sc:Nat) (l:List jI) (u0 u1 u4 u5 u7 u8 u9 u10 u11 u12 u13 u14 u15 u16 u17 u18 u19 u20 u21 u22 u23 u24 u25 u26 u27 u28 u29 u30 u31 u32 u33 u34 u35 u36 u37 u38 u39 u40 u41 u42 u43 u44 u45 u46 u47 u48 u49 u50 u51 u52 u53 u54 u55 u56 u57 u58 u59 u60 u61 u62 u63 u64 u65 u66 u67 u68 u69 u70 u71 u72 u73 u74 u75 u76 u77 u78:aF)
  (h2:dJ W b2 #[ah aj me,y1,ak so n sc,y3,y4,y5] 28) (h3:dJ W b3 #[ah aj c,ah aj d,p3,q3] 74) (hs:vT W (ak so n sc) l) (hn:n=l.length) (hm:n<=1000000)
  (hQ:∀ (wr:aH) (v45 v46 v47 v48 v49 v50 v51 v52 v53 v54 v55 v56 v57 v58 v59 v60 v61 v62:aF),Below W.heap.size W wr->Q .normal ⟨(u0::u1::L (U ⟨b2,0,X⟩)::L (U ⟨b3,0,X⟩)::u4::u5::ah aj (fM (l.map fun y=>(y.1,y.2.1)) (c,d):Nat)::u7::u8::u9::u10::u11::u12::u13::u14::u15::u16::u17::u18::u19::u20::u21::u22::u23::u24::u25::u26::u27::u28::u29::u30::u31::u32::u33::u34::u35::u36::u37::u38::u39::u40::u41::u42::u43::u44::v45::v46::v47::v48::v49::v50::v51::v52::v53::v54::v55::v56::v57::v58::v59::v60::v61::v62::u63::u64::u65::u66::u67::u68::u69::u70::u71::u72::u73::u74::u75::u76::u77::u78::[]).toArray,[]⟩ wr) :
  Code.wp aD XQ Q ⟨(u0::u1::L (U ⟨b2,0,X⟩)::L (U ⟨b3,0,X⟩)::u4::u5::ah aj 0::u7::u8::u9::u10::u11::u12::u13::u14::u15::u16::u17::u18::u19::u20::u21::u22::u23::u24::u25::u26::u27::u28::u29::u30::u31::u32::u33::u34::u35::u36::u37::u38::u39::u40::u41::u42::u43::u44::u45::u46::u47::u48::u49::u50::u51::u52::u53::u54::u55::u56::u57::u58::u59::u60::u61::u62::u63::u64::u65::u66::u67::u68::u69::u70::u71::u72::u73::u74::u75::u76::u77::u78::[]).toArray,[]⟩ W:=by
 have HQ:=J hQ;have H2:=J h2;have H3:=J h3;have HS:=J hs;have HN:=J hn;clear hQ h2 h3 hs hn
 conv=>arg 2; whnf
 go_wp2
 go_loopw [6] (fun i wr=>∃ k:Nat,k<=n/\i=ah aj k/\Below W.heap.size W wr/\∀ (j:Nat) (y:Id),j<k->(l.map fun y=>(y.1,y.2.1))[j]?=U y->eP y (c,d)=true) (fun i _=>n-(intOf i).toNat)
 case atStart=>exact⟨0,Nat.zero_le _,rfl,O _ _,fun j y h=>by omega⟩
 case round =>
  obtain⟨k,hk,rfl,hbe,hall⟩:=hrel;have BE:=J hbe;have AL:=J hall;clear hbe hall;have q0:=cell_regrown (show wr.cell? ⟨b2,2,X⟩=U (ak so n sc) from (H2.out.on BE.out).cell 2);have r0:=cell_regrown (show wr.cell? ⟨b3,0,X⟩=U (ah aj c) from (H3.out.on BE.out).cell 0);have r1:=cell_regrown (show wr.cell? ⟨b3,1,X⟩=U (ah aj d) from (H3.out.on BE.out).cell 1);have hw3:IntKind.i64.wrap ((k:Int)+1)=(k:Int)+1:=IntWalk.i64_in _ (by omega);by_cases hlt:k<n
  ·obtain⟨y,hy⟩:∃ y,l[k]?=U y:=⟨_,aC (by rw [<- HN.out]; exact hlt)⟩;obtain⟨p,ix,px⟩:=Mf HS.out rfl HN.out.symm hy;have yO:=px wr BE.out;obtain⟨y1,y2,⟨y3o,y3n,y3c⟩,y4⟩:=y;simp only at yO;have p0:=cell_regrown yO.1;have p1:=cell_regrown yO.2.1;have yu:decide ((k:Int)<(n:Int))=true:=decide_eq_true (by omega);have Cm:decide (k<n)=true:=decide_eq_true hlt;obtain⟨r,hr⟩:∃ r,eP (y1,y2) (c,d)=r:=⟨_,rfl⟩;have LS:=J (fun d' os=>Calls.regrown_of (d:=d') (os:=os) ((sF (y1,y2) (c,d) (grow (redrawn wr d') os)).mono fun _ _ h=>⟨by rw [h.1,hr],h.2⟩));have HY:=J (show (l.map fun y=>(y.1,y.2.1))[k]?=U (y1,y2) by rw [List.getElem?_map,hy]; rfl);have HR:=J hr;clear px yO hy hr;cases r
   ·go_wp2_with fail;refine wp_region_quiet_below (by kernel_rfl) (by kernel_rfl) ?_
    repeat (go_big_quiet_step (first | (with_reducible exact LS.out _ _)))
    refine wpQuiet_nil ?_;intro _ hw';obtain⟨⟨dq,osq⟩,hw''⟩:=hw';subst hw'';have Z6:=below_regrown wr dq osq;have HF:=J (fun v45 v46 v47 v48 v49 v50 v51 v52 v53 v54 v55 v56 v57 v58 v59 v60 v61 v62=>HQ.out (grow (redrawn wr dq) osq) v45 v46 v47 v48 v49 v50 v51 v52 v53 v54 v55 v56 v57 v58 v59 v60 v61 v62 (BE.out.trans (Z6.mono BE.out.size)));rw [oq (l.map fun y=>(y.1,y.2.1)) (c,d) k AL.out (aA ⟨_,HY.out,HR.out⟩)] at HF;clear ix HQ q0 r0 r1 LS yu Cm p0 p1;go_wp2;exact HF.out _ _ _ _ _ _ _ _ _ _ _ _ _ _ _ _ _ _
   ·go_wp2_with fail;refine wp_region_quiet_below (by kernel_rfl) (by kernel_rfl) ?_
    repeat (go_big_quiet_step (first | (with_reducible exact LS.out _ _)))
    refine wpQuiet_nil ?_;intro _ hw';obtain⟨⟨dq,osq⟩,hw''⟩:=hw';subst hw'';have Z6:=J (below_regrown wr dq osq);clear ix q0 r0 r1 LS yu Cm p0 p1;go_wp2
    go_roundw
    case rel=>exact⟨k+1,by omega,by go_num,BE.out.trans (Z6.out.mono BE.out.size),fun j y' hj h1=>by
     rcases Nat.lt_or_ge j k with h3|h3
     ·exact AL.out j y' h3 h1
     ·obtain rfl:j=k:=by omega
      have e1:=HY.out;rw [h1] at e1;rw [V e1];exact HR.out⟩
    case measure=>simp [intOf]; omega
  ·obtain rfl:k=n:=by omega
   have yu:decide ((k:Int)<(k:Int))=false:=by simp
   have Cm:decide (k<k)=false:=by simp
   go_wp2_with fail;refine wp_region_quiet_below (by kernel_rfl) (by kernel_rfl) ?_
   repeat (go_big_quiet_step (fail))
   refine wpQuiet_nil ?_;intro _ hw';obtain⟨⟨dq,osq⟩,hw''⟩:=hw';subst hw'';have Z6:=below_regrown wr dq osq;have HF:=J (fun v45 v46 v47 v48 v49 v50 v51 v52 v53 v54 v55 v56 v57 v58 v59 v60 v61 v62=>HQ.out (grow (redrawn wr dq) osq) v45 v46 v47 v48 v49 v50 v51 v52 v53 v54 v55 v56 v57 v58 v59 v60 v61 v62 (BE.out.trans (Z6.mono BE.out.size)));rw [oq (l.map fun y=>(y.1,y.2.1)) (c,d) k AL.out (aJ (by simpa using HN.out))] at HF;clear HQ q0 r0 r1 yu Cm;go_wp2;exact HF.out _ _ _ _ _ _ _ _ _ _ _ _ _ _ _ _ _ _
def Mk (B b2 _b3:Nat) (so:Option Addr) (sn sc at_:Nat) (lo hiv:aF) (lt ld:List jI) (i:Nat) (v:aF) (x:aH):Prop :=
 match i with
 | 0=>∃ g,v=ak (U ⟨g,0,X⟩) 0 0/\B<=g/\dJ x g #[] 74
 | 1=>v=L (U ⟨b2,2,X⟩)
 | 2=>v=ak so sn sc
 | 3=>v=ah aj (at_:Int)
 | 4=>v=lo
 | 5=>lN x B v lt
 | 6=>v=L (U ⟨b2,2,X⟩)
 | 7=>v=ak so sn sc
 | 8=>v=ah aj (at_:Int)
 | 9=>v=ah aj ((at_:Int)+1)
 | 10=>v=hiv
 | 11=>lN x B v (lt++ld)
 | 12=>v=L (U ⟨b2,2,X⟩)
 | _=>True
noncomputable def Zj:Code:=((Tryz.f40.body.bind (eT 4)).getD .skip)
theorem RZ (B b2 b3:Nat) (so:Option Addr) (sn sc at_:Nat) (lo hiv:aF) (lt ld:List jI) (i:Nat) (v:aF) (x x':aH) (h:Mk B b2 b3 so sn sc at_ lo hiv lt ld i v x) (hb:Below x.heap.size x x'):Mk B b2 b3 so sn sc at_ lo hiv lt ld i v x':=by
 by_cases hi:i<13
 ·rcases (by omega:i=0\/i=1\/i=2\/i=3\/i=4\/i=5\/i=6\/i=7\/i=8\/i=9\/i=10\/i=11\/i=12) with rfl|rfl|rfl|rfl|rfl|rfl|rfl|rfl|rfl|rfl|rfl|rfl|rfl
  ·obtain⟨g,h1,h2,h3⟩:=h;exact⟨g,h1,h2,h3.on hb⟩
  ·exact h
  ·exact h
  ·exact h
  ·exact h
  ·exact dI h hb
  ·exact h
  ·exact h
  ·exact h
  ·exact h
  ·exact h
  ·exact dI h hb
  ·exact h
 ·unfold Mk
  split <;> first | omega | trivial
theorem agT (Q:Exit->Act->aH->Prop) (W:aH) (b2 b3:Nat) (me:Int) (y1 y3 y4 y5:aF) (so:Option Addr) (sn sc at_:Nat) (l:List jI) (u0 u1 u2 u5 u6 u7 u9 u10 u11 u12 u13 u14 u15 u16 u17 u18 u19 u20 u21 u22 u23 u24 u25 u26 u27 u28 u29 u30 u31 u32 u33 u34 u35 u36 u37 u38 u39 u40 u41 u42 u43 u44 u45 u46 u47 u48 u49 u50 u51 u52 u53 u54 u55 u56 u57 u58 u59:aF)
  (h2:dJ W b2 #[ah aj me,y1,ak so sn sc,y3,y4,y5] 28) (hs:vT W (ak so sn sc) l) (hat:at_+1<=l.length) (hlen:l.length<=900)
  (hQ:∀ (x:aH) (v28 v29 v30 v31 v32 v33 v34 v35 v36 v37 v38 v39 v40:aF),dJ x b2 #[ah aj me,y1,v39,y3,y4,y5] 28->lN x W.heap.size v39 (l.take at_++l.drop (at_+1))->(∀ B,B<=b2->Below B W x)->(∀ c cs t,c≠b2->dJ W c cs t->dJ x c cs t)->(∀ k,k<W.heap.size->k≠b2->x.heap[k]?=W.heap[k]?)->Q .normal ⟨(u0::u1::u2::L (U ⟨b2,0,X⟩)::L (U ⟨b3,0,X⟩)::u5::u6::u7::ah aj (at_:Int)::u9::u10::u11::u12::u13::u14::u15::u16::u17::u18::u19::u20::u21::u22::u23::u24::u25::u26::u27::v28::v29::v30::v31::v32::v33::v34::v35::v36::v37::v38::v39::v40::u41::u42::u43::u44::u45::u46::u47::u48::u49::u50::u51::u52::u53::u54::u55::u56::u57::u58::u59::[]).toArray,[]⟩ x) :
  Code.wp aD Zj Q ⟨(u0::u1::u2::L (U ⟨b2,0,X⟩)::L (U ⟨b3,0,X⟩)::u5::u6::u7::ah aj (at_:Int)::u9::u10::u11::u12::u13::u14::u15::u16::u17::u18::u19::u20::u21::u22::u23::u24::u25::u26::u27::u28::u29::u30::u31::u32::u33::u34::u35::u36::u37::u38::u39::u40::u41::u42::u43::u44::u45::u46::u47::u48::u49::u50::u51::u52::u53::u54::u55::u56::u57::u58::u59::[]).toArray,[]⟩ W:=by
 have HQ:=J hQ;have H2:=J h2;have AT1:=J (show at_<=900 by omega);obtain⟨lo,Cj,vN⟩:=uX okD hs at_ (by omega);obtain⟨hiv,Ck,xg⟩:=p9 okD hs (at_+1) hat;have LT:=J (show (l.take at_).length<=1000 by rw [aI]; omega);have RS:=J (show (l.take at_).length<=900 by rw [aI]; omega);have LD:=J (show (l.drop (at_+1)).length<=1000 by rw [List.length_drop]; omega);generalize l.take at_=lt at *;generalize l.drop (at_+1)=ld at *;have SL:=J Cj;have SH:=J (show ∀ w,(Instr.sliceAt 23 (ak so sn sc) (U (ah aj ((at_:Int)+1))) X X).run aD w=.ok hiv w from Ck);have RL:=J vN;have RH:=J xg;clear hQ h2 hs Cj Ck vN xg hat hlen;have iT:=RZ W.heap.size b2 b3 so sn sc at_ lo hiv lt ld;unfold Zj
 conv=>arg 2; whnf
 have nd:∀ j,(j<28\/41<=j)->∀ i,i<13->(fun i=>28+i) i≠j:=by
  intro j hj i hi h;simp only at h;omega
 refine Rg.fT 14 13 (fun i=>28+i) (fun i=>if i=0 then 5 else if i=5 then 11 else 13) (Mk W.heap.size b2 b3 so sn sc at_ lo hiv lt ld) (by kernel_rfl) (by kernel_rfl) rfl (by decide) (fun i j _ _ h=>by have h2:28+i=28+j:=h; omega) (fun i hi=>by show 28+i<60; omega) ?_ (fun _=>Rg.jk 1 (by kernel_rfl)) (fun kk o h1 h2=>by omega) ?_
 ·intro i o hi ho a x D hnd hc hD hb seen K hK;clear HQ;rcases (by omega:i=0\/i=1\/i=2\/i=3\/i=4\/i=5\/i=6\/i=7\/i=8\/i=9\/i=10\/i=11\/i=12) with rfl|rfl|rfl|rfl|rfl|rfl|rfl|rfl|rfl|rfl|rfl|rfl|rfl
  ·cases ho;exact Rg.dD rfl rfl (Rg.jd a.eval _ 23 0 #[] rfl rfl (by simp [go_sem])) (hK (ak (U ⟨x.heap.size,0,X⟩) 0 0) (x.alloc (.cells #[] 74)) ⟨x.heap.size,rfl,hb.size,dO x #[] 74⟩ ((O _ _).alloc hb.size _) fun j u _ _ _ _ _ h=>iT j u _ _ h ((O _ _).alloc (Nat.le_refl _) _))
  ·cases ho;have e3:a.eval (Y 3)=L (U ⟨b2,0,X⟩):=seen.kp 3 _ (nd 3 (by omega)) rfl;exact Rg.dD rfl rfl (Rg.dU a.eval _ 28 (Y 3) 2 rfl (by rw [e3]; simp [go_sem])) (hK _ _ rfl (O _ _) fun _ _ _ _ _ _ _ h=>h)
  ·cases ho;have e29:a.eval (Y 29)=L (U ⟨b2,2,X⟩):=seen.at_ ⟨1,.data⟩ (by simp) rfl (aA (by decide));have y:=(H2.out.on hb).cell 2;simp only [Z,au,ay] at y;exact Rg.dD rfl rfl (Rg.dW a.eval _ 23 (Y 29) rfl (by rw [e29]; simp [go_sem,y])) (hK _ _ rfl (O _ _) fun _ _ _ _ _ _ _ h=>h)
  ·cases ho;have e8:a.eval (Y 8)=ah aj (at_:Int):=seen.kp 8 _ (nd 8 (by omega)) rfl;exact Rg.dD rfl rfl (Rg.gq a.eval _ (Y 8) rfl x) (hK _ _ e8 (O _ _) fun _ _ _ _ _ _ _ h=>h)
  ·cases ho;have e30:a.eval (Y 30)=ak so sn sc:=seen.at_ ⟨2,.data⟩ (by simp) rfl (aA (by decide));have e31:a.eval (Y 31)=ah aj (at_:Int):=seen.at_ ⟨3,.data⟩ (by simp) rfl (aA (by decide));exact Rg.dD rfl rfl (Rg.kG a.eval _ 23 (Y 30) X (U (Y 31)) X rfl (by show (Instr.sliceAt 23 (a.eval (Y 30)) X (U (a.eval (Y 31))) X).run aD x=.ok lo x; rw [e30,e31]; exact SL.out x)) (hK _ _ rfl (O _ _) fun _ _ _ _ _ _ _ h=>h)
  ·cases ho;obtain⟨g,q0,hBg,hbx⟩:=seen.at_ ⟨0,.data⟩ (by simp) rfl (aJ rfl);have q0:a.eval (Y 28)=ak (U ⟨g,0,X⟩) 0 0:=q0;have e32:a.eval (Y 32)=lo:=seen.at_ ⟨4,.data⟩ (by simp) rfl (aA (by decide));obtain⟨v',x',r,o',gr⟩:=jc okD W.heap.size hbx hBg (RL.out.on hb) LT.out 23;exact Rg.dD rfl rfl (Rg.fZ a.eval _ (Y 28) (Y 32) 23 rfl q0 e32 r) (hK v' x' o' (gr.mono hb.size) fun j u _ _ _ _ _ h=>iT j u _ _ h gr)
  ·cases ho;have e3:a.eval (Y 3)=L (U ⟨b2,0,X⟩):=seen.kp 3 _ (nd 3 (by omega)) rfl;exact Rg.dD rfl rfl (Rg.dU a.eval _ 28 (Y 3) 2 rfl (by rw [e3]; simp [go_sem])) (hK _ _ rfl (O _ _) fun _ _ _ _ _ _ _ h=>h)
  ·cases ho;have e34:a.eval (Y 34)=L (U ⟨b2,2,X⟩):=seen.at_ ⟨6,.data⟩ (by simp) rfl (aA (by decide));have y:=(H2.out.on hb).cell 2;simp only [Z,au,ay] at y;exact Rg.dD rfl rfl (Rg.dW a.eval _ 23 (Y 34) rfl (by rw [e34]; simp [go_sem,y])) (hK _ _ rfl (O _ _) fun _ _ _ _ _ _ _ h=>h)
  ·cases ho;have e8:a.eval (Y 8)=ah aj (at_:Int):=seen.kp 8 _ (nd 8 (by omega)) rfl;exact Rg.dD rfl rfl (Rg.gq a.eval _ (Y 8) rfl x) (hK _ _ e8 (O _ _) fun _ _ _ _ _ _ _ h=>h)
  ·cases ho;have e36:a.eval (Y 36)=ah aj (at_:Int):=seen.at_ ⟨8,.data⟩ (by simp) rfl (aA (by decide));exact Rg.dD rfl rfl (Rg.Rj a.eval _ .add 3 (Y 36) (.const (ah aj 1)) 3 rfl (by rw [e36]; exact add_one _ _ _ _ at_ AT1.out)) (hK _ _ rfl (O _ _) fun _ _ _ _ _ _ _ h=>h)
  ·cases ho;have e35:a.eval (Y 35)=ak so sn sc:=seen.at_ ⟨7,.data⟩ (by simp) rfl (aA (by decide));have e37:a.eval (Y 37)=ah aj ((at_:Int)+1):=seen.at_ ⟨9,.data⟩ (by simp) rfl (aA (by decide));exact Rg.dD rfl rfl (Rg.kG a.eval _ 23 (Y 35) (U (Y 37)) X X rfl (by show (Instr.sliceAt 23 (a.eval (Y 35)) (U (a.eval (Y 37))) X X).run aD x=.ok hiv x; rw [e35,e37]; exact SH.out x)) (hK _ _ rfl (O _ _) fun _ _ _ _ _ _ _ h=>h)
  ·cases ho;have o33:lN x W.heap.size (a.eval (Y 33)) (lt):=seen.at_ ⟨5,.data⟩ (by simp) rfl (aJ rfl);have e38:a.eval (Y 38)=hiv:=seen.at_ ⟨10,.data⟩ (by simp) rfl (aA (by decide));have ox:vT x (a.eval (Y 38)) ld:=by rw [e38]; exact RH.out.on hb
   obtain⟨v',x',r,o',gr⟩:=gI okD W.heap.size o33 ox (by have:=RS.out; omega) LD.out hb.size 23;exact Rg.dD rfl rfl (Rg.fZ a.eval _ (Y 33) (Y 38) 23 rfl rfl rfl r) (hK v' x' o' ((O _ x).grown gr hb.size fun j hj=>(o33.lt j hj).1) fun j u hj dj nl nx ni h=>by
    rcases (by omega:j=0\/j=1\/j=2\/j=3\/j=4\/j=5\/j=6\/j=7\/j=8\/j=9\/j=10\/j=11\/j=12) with rfl|rfl|rfl|rfl|rfl|rfl|rfl|rfl|rfl|rfl|rfl|rfl|rfl
    ·exact absurd rfl (fun _:(0:Nat)=0=>nl (hD ⟨5,.data⟩ (by simp) rfl))
    ·exact h
    ·exact h
    ·exact h
    ·exact h
    ·exact absurd rfl (fun _:(0:Nat)=0=>nx rfl)
    ·exact h
    ·exact h
    ·exact h
    ·exact h
    ·exact h
    ·exact absurd rfl (fun _:(0:Nat)=0=>ni rfl)
    ·exact h)
  ·cases ho;have e3:a.eval (Y 3)=L (U ⟨b2,0,X⟩):=seen.kp 3 _ (nd 3 (by omega)) rfl;exact Rg.dD rfl rfl (Rg.dU a.eval _ 28 (Y 3) 2 rfl (by rw [e3]; simp [go_sem])) (hK _ _ rfl (O _ _) fun _ _ _ _ _ _ _ h=>h)
 ·intro a w' df sz kp ⟨vs,hv⟩ hb;have gr:a.tmps[39]?=U (vs 11):=(hv 11 (by omega)).1;have gp:a.tmps[40]?=U (L (U ⟨b2,2,X⟩)):=by
   have h:vs 12=L (U ⟨b2,2,X⟩):=(hv 12 (by omega)).2 (by decide);rw [<- h];exact (hv 12 (by omega)).1
  have oR:lN w' W.heap.size (vs 11) (lt++ld):=(hv 11 (by omega)).2 (by decide);generalize vs 11=xR at *;obtain⟨ca,cp,eR⟩:=(Row.dH oR).len;have hbx:=H2.out.on hb;have hblt:=H2.out.lt;have c5:=hbx.cell 2;have f5:=hbx.fr 2;simp only [Z,au,ay] at c5;have hb1:=dR (k:=2) hbx xR;show Rg.fG _ _ _ 1 13 a w';simp only [Rg.fG];refine Rg.fQ 23 (Y 40) (Y 39) rfl rfl rfl rfl (Rg.dM gp) (Rg.dM gr) (w':=w'.setCell ⟨b2,2,X⟩ xR) (by rw [eR]; simp [go_sem,c5,f5]) ?_;have rA:∀ j,(j<28\/41<=j)->a.tmps[j]?=(u0::u1::u2::L (U ⟨b2,0,X⟩)::L (U ⟨b3,0,X⟩)::u5::u6::u7::ah aj (at_:Int)::u9::u10::u11::u12::u13::u14::u15::u16::u17::u18::u19::u20::u21::u22::u23::u24::u25::u26::u27::u28::u29::u30::u31::u32::u33::u34::u35::u36::u37::u38::u39::u40::u41::u42::u43::u44::u45::u46::u47::u48::u49::u50::u51::u52::u53::u54::u55::u56::u57::u58::u59::[])[j]?:=fun j hj=>(kp j (nd j hj)).trans Z;obtain⟨mid,hmid,rfl⟩:=Rg.gG 28 13 df sz (by simp) rA
  match mid,hmid with
  | [v28,v29,v30,v31,v32,v33,v34,v35,v36,v37,v38,v39,v40],_ =>
   have e1:U v39=U xR:=gr;obtain rfl:=V e1;refine HQ.out _ v28 v29 v30 v31 v32 v33 v34 v35 v36 v37 v38 v39 v40 ?_ ?_ ?_ ?_ ?_
   ·simpa using hb1
   ·exact eO oR b2 2 _ hblt
   ·exact fun B hB=>(hb.mono (Nat.le_of_lt (Nat.lt_of_le_of_lt hB hblt))).setCell hB _
   ·intro c cs t hc hbc;exact (aB _ _ _ _ hc).trans (hbc.on hb)
   ·intro k hk hne;exact (aB _ _ _ _ hne).trans (hb.block k hk)
end Bk
namespace Rl
open Go.RowKit Pu Pr
theorem PG {a b:List Cn} (ha:jN a) (h5:a.length<=5):zu (a++b)=jW a.length a b:=by
 have e:=Pb a ha h5;rw [zu] at e;rw [zu,yt a b [] a 0 e,Nat.zero_add]
def jJ:List Cn->List Cn->Option (List Cn)
 | m,[]=>U m
 | m,c::r=>match nZ m c with
  | none=>X
  | some n=>jJ n r
theorem C8:∀ (r m p:List Cn),jN m->jJ m r=U p->m.length<=p.length/\jN p
 | [],m,p,hm,h=>by
  obtain rfl:=V h;exact⟨Nat.le_refl _,hm⟩
 | c::r,m,p,hm,h=>by
  simp only [jJ] at h;cases hi:nZ m c with
  | none=>rw [hi] at h; cases h
  | some n =>
   rw [hi] at h;have e1:=zB m c n hm hi;obtain⟨e2,e3⟩:=C8 r n p (kF m c n hm hi).1 h;exact⟨by omega,e3⟩
theorem yZ:∀ (r m p:List Cn) (at_:Nat),jN m->m.length<=5->(jW at_ m r=.ok p↔jJ m r=U p/\p.length<=5)
 | [],m,p,at_,_,h5=>by
  simp only [jW,jJ];constructor
  ·intro h;injection h with h
   subst h;exact⟨rfl,h5⟩
  ·rintro⟨h,_⟩;rw [V h]
 | c::r,m,p,at_,hm,h5=>by
  simp only [jW,jJ];cases hi:nZ m c with
  | none =>
   constructor
   ·intro h; cases h
   ·rintro⟨h,_⟩; cases h
  | some n =>
   simp only;have hn:=(kF m c n hm hi).1;by_cases h6:5<n.length
   ·rw [if_pos h6];constructor
    ·intro h; cases h
    ·rintro⟨h,h7⟩;have:=(C8 r n p hn h).1;omega
   ·rw [if_neg h6];exact yZ r n p (at_+1) hn (by omega)
theorem vU:∀ (a b m m':List Cn),jJ m a=U m'->jJ m (a++b)=jJ m' b
 | [],b,m,m',h=>by
  obtain rfl:=V h
  rfl
 | c::r,b,m,m',h=>by
  simp only [List.cons_append,jJ] at h ⊢;cases hi:nZ m c with
  | none=>rw [hi] at h; cases h
  | some n =>
   rw [hi] at h;exact vU r b n m' h
theorem C9:∀ (p m:List Cn),jN (m++p)->jJ m p=U (m++p)
 | [],m,_=>by simp [jJ]
 | c::r,m,h=>by
  have h1:∀ x∈m,Op.bytesLess x.1.toList c.1.toList=true:=fun x hx=>(List.pairwise_append.1 h).2.2 x hx c (List.mem_cons_self ..);simp only [jJ];rw [Er m c h1];simp only;rw [C9 r (m++[c]) (by simpa using h)];simp
theorem R6 {a b:List Cn} (ha:jN a):jJ [] (a++b)=jJ a b:=vU a b [] a (by simpa using C9 a [] (by simpa using ha))
theorem R7 {a b:List Cn} (ha:jN a) (h5:a.length<=5):sD a b=match jJ a b with
  | some p=>decide (p.length<=5)
  | none=>false:=by
 unfold sD;cases h:jJ a b with
 | none =>
  cases h2:jW a.length a b with
  | ok p =>
   have:=(yZ b a p a.length ha h5).1 h2;rw [h] at this;cases this.1
  | error e=>rfl
 | some p =>
  by_cases h6:p.length<=5
  ·rw [(yZ b a p a.length ha h5).2 ⟨h,h6⟩];simp [h6]
  ·cases h2:jW a.length a b with
   | ok q =>
    have h3:=(yZ b a q a.length ha h5).1 h2;rw [h] at h3;obtain rfl:=V h3.1;exact absurd h3.2 h6
   | error e=>simp [h6]
end Rl
namespace Rl
open Go.RowKit Pu Rw Pr
def EA:Ek An:=⟨156,39,4,48,.agg #[.string ⟨#[]⟩,.bool false,ah aj 0,.string ⟨#[]⟩],At.av,At.abR⟩
structure NL (l:List An):Prop where
 rise:l.Pairwise fun x y=>Op.bytesLess x.1.toList y.1.toList=true
 five:l.length<=5
 small:∀ x∈l,x.1.size<=100/\x.2.2.2.size<=100
end Rl
namespace Rg
open Go.RowKit
end Rg
end Go.Proofs.YtmklifheakemeaaGreat
