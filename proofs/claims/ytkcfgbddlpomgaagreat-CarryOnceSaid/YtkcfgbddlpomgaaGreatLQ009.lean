/-
  The two loops of Lea. Conditions as told.
-/
import Derived.Test.YtkcfgbddlpomgaaGreatLQ008
import Derived.Lib.Bytealg
set_option maxRecDepth 100000
set_option maxHeartbeats 64000000
open _root_.Bool renaming false->aL,true->bf
open _root_.Go renaming cell_regrown->aA,World->aD,Value->aG,below_regrown->aI,bodyPost_ret->aN,redrawn->bn,Addr->bF,Calls->bH
open Go.IntKind renaming i64->U
open Go.IntWalk renaming i64_in->aO
open Go.Lib renaming hid->L
open Go.Obj renaming cells->aj
open Go.Operand renaming tmp->aC
open Go.Proofs.Tryz renaming prog->aF,results95->aX,results60->bD
open Go.RowKit.Below renaming refl->V,heap_setCell->aB
open Go.Value renaming slice->J,int->O,pointer->Z,bool->aM,agg->bG
open _root_.List renaming getElem?_cons_succ->ah,getElem?_toArray->ak,getElem?_cons_zero->au,getElem?_eq_getElem->ay,setIfInBounds_toArray->aP,set_cons_succ->aQ,getElem?_eq_some_iff->aR,filter_cons_of_neg->aS,filter_cons_of_pos->aT,length_take->aU,takeWhile_cons->aY,map_cons->aZ,set_cons_zero->bg
open _root_.Nat renaming le_refl->aH,zero_le->aW,lt_or_ge->bC
open _root_.Option renaming none->X,some->Y
open Option.some renaming inj->aJ
open _root_.Or renaming inr->aK,inl->aV
namespace Go.Proofs.YtkcfgbddlpomgaaGreat
namespace Bk
open Go.RowKit Go.Sort Rw YtkcfgbddlpomgaaGreat.Nm Pr
theorem nU (l:List Id) (x:Id) (k:Nat) (hall:∀ (j:Nat) (y:Id),j<k->l[j]?=Y y->dZ y x=bf) (hend:k=l.length\/∃ y,l[k]?=Y y/\dZ y x=aL):fF l x=k:=by
 unfold fF
 induction l generalizing k with
 | nil =>
  rcases hend with h|⟨y,h,_⟩
  ·rw [h]; rfl
  ·simp at h
 | cons a l ih =>
  cases k with
  | zero =>
   rcases hend with h|⟨y,h,h2⟩
   ·simp at h
   ·obtain rfl:a=y:=by simpa using h
    rw [aY,h2]
    rfl
  | succ k =>
   have h0:=hall 0 a (by omega) rfl;rw [aY,h0];simp only [if_true,List.length_cons];rw [ih k (fun j y hj hy=>hall (j+1) y (by omega) (by simpa using hy)) (by
    rcases hend with h|⟨y,h,h2⟩
    ·exact aV (by simpa using h)
    ·exact aK ⟨y,by simpa using h,h2⟩)]
noncomputable def VH:Code:=((Tryz.f60.body.bind (gL 0)).getD .skip)
theorem Qd (Q:Exit->Act->aD->Prop) (W:aD) (b2 b3:Nat) (me c d:Int) (y1 y2 y4 y5 p3 q3:aG) (so:Option bF) (n sc:Nat) (l:List eG) (u0 u1 u4 u5 u7 u8 u9 u10 u11 u12 u13 u14 u15 u16 u17 u18 u19 u20 u21 u22 u23 u24 u25 u26 u27 u28 u29 u30 u31 u32 u33 u34 u35 u36 u37 u38 u39 u40 u41 u42 u43 u44 u45 u46 u47 u48 u49 u50 u51 u52 u53 u54 u55 u56 u57 u58 u59 u60 u61 u62 u63 u64 u65 u66 u67 u68 u69 u70 u71 u72 u73 u74 u75 u76 u77 u78:aG)
  (h2:dI W b2 #[O U me,y1,y2,J so n sc,y4,y5] 33) (h3:dI W b3 #[O U c,O U d,p3,q3] 53) (hs:vM W (J so n sc) l) (hn:n=l.length) (hm:n<=1000000)
  (hQ:∀ (wr:aD) (v12 v13 v14 v15 v16 v17 v18 v19 v20 v21 v22 v23 v24 v25 v26 v27 v28:aG),Below W.heap.size W wr->Q .normal ⟨(u0::u1::Z (Y ⟨b2,0,X⟩)::Z (Y ⟨b3,0,X⟩)::u4::u5::O U (fF l (c,d):Nat)::u7::u8::u9::u10::u11::v12::v13::v14::v15::v16::v17::v18::v19::v20::v21::v22::v23::v24::v25::v26::v27::v28::u29::u30::u31::u32::u33::u34::u35::u36::u37::u38::u39::u40::u41::u42::u43::u44::u45::u46::u47::u48::u49::u50::u51::u52::u53::u54::u55::u56::u57::u58::u59::u60::u61::u62::u63::u64::u65::u66::u67::u68::u69::u70::u71::u72::u73::u74::u75::u76::u77::u78::[]).toArray,[]⟩ wr) :
  Code.wp aF VH Q ⟨(u0::u1::Z (Y ⟨b2,0,X⟩)::Z (Y ⟨b3,0,X⟩)::u4::u5::O U 0::u7::u8::u9::u10::u11::u12::u13::u14::u15::u16::u17::u18::u19::u20::u21::u22::u23::u24::u25::u26::u27::u28::u29::u30::u31::u32::u33::u34::u35::u36::u37::u38::u39::u40::u41::u42::u43::u44::u45::u46::u47::u48::u49::u50::u51::u52::u53::u54::u55::u56::u57::u58::u59::u60::u61::u62::u63::u64::u65::u66::u67::u68::u69::u70::u71::u72::u73::u74::u75::u76::u77::u78::[]).toArray,[]⟩ W:=by
 have HQ:=L hQ;have H2:=L h2;have H3:=L h3;have HS:=L hs;have HN:=L hn;clear hQ h2 h3 hs hn
 conv=>arg 2; whnf
 go_wp2
 go_loopw [6] (fun i wr=>∃ k:Nat,k<=n/\i=O U k/\Below W.heap.size W wr/\∀ (j:Nat) (y:Id),j<k->l[j]?=Y y->dZ y (c,d)=bf) (fun i _=>n-(intOf i).toNat)
 case atStart=>exact⟨0,aW _,rfl,V _ _,fun j y h=>by omega⟩
 case round =>
  obtain⟨k,hk,rfl,hbe,hall⟩:=hrel;have BE:=L hbe;have AL:=L hall;clear hbe hall;have q0:=aA (show wr.cell? ⟨b2,3,X⟩=Y (J so n sc) from (H2.out.on BE.out).cell 3);have r0:=aA (show wr.cell? ⟨b3,0,X⟩=Y (O U c) from (H3.out.on BE.out).cell 0);have r1:=aA (show wr.cell? ⟨b3,1,X⟩=Y (O U d) from (H3.out.on BE.out).cell 1);have hw3:IntKind.i64.wrap ((k:Int)+1)=(k:Int)+1:=aO _ (by omega);by_cases hlt:k<n
  ·obtain⟨y,hy⟩:∃ y,l[k]?=Y y:=⟨_,ay (by rw [<- HN.out]; exact hlt)⟩;obtain⟨p,ix,px⟩:=elJ HS.out rfl HN.out.symm hy;have xu:=px wr BE.out;obtain⟨y1,y2⟩:=y;simp only at xu;have p0:=aA xu.1;have p1:=aA xu.2;have wP:decide ((k:Int)<(n:Int))=bf:=decide_eq_true (by omega);have Au:decide (k<n)=bf:=decide_eq_true hlt;obtain⟨r,hr⟩:∃ r,dZ (y1,y2) (c,d)=r:=⟨_,rfl⟩;have LS:=L (fun d' os=>Calls.regrown_of (d:=d') (os:=os) ((rF (y1,y2) (c,d) (grow (bn wr d') os)).mono fun _ _ h=>⟨by rw [h.1,hr],h.2⟩));have HY:=L (show l[k]?=Y (y1,y2) by exact hy);have HR:=L hr;clear px xu hy hr;cases r
   ·go_wp2_with fail;refine wp_region_quiet_below (by kernel_rfl) (by kernel_rfl) ?_
    repeat (go_big_quiet_step (first | (with_reducible exact LS.out _ _)))
    refine wpQuiet_nil ?_;intro _ hw';obtain⟨⟨dq,osq⟩,hw''⟩:=hw';subst hw'';have Z6:=aI wr dq osq;have HF:=L (fun v12 v13 v14 v15 v16 v17 v18 v19 v20 v21 v22 v23 v24 v25 v26 v27 v28=>HQ.out (grow (bn wr dq) osq) v12 v13 v14 v15 v16 v17 v18 v19 v20 v21 v22 v23 v24 v25 v26 v27 v28 (BE.out.trans (Z6.mono BE.out.size)));rw [nU l (c,d) k AL.out (aK ⟨_,HY.out,HR.out⟩)] at HF;clear ix HQ q0 r0 r1 LS wP Au p0 p1;go_wp2;exact HF.out _ _ _ _ _ _ _ _ _ _ _ _ _ _ _ _ _
   ·go_wp2_with fail;refine wp_region_quiet_below (by kernel_rfl) (by kernel_rfl) ?_
    repeat (go_big_quiet_step (first | (with_reducible exact LS.out _ _)))
    refine wpQuiet_nil ?_;intro _ hw';obtain⟨⟨dq,osq⟩,hw''⟩:=hw';subst hw'';have Z6:=L (aI wr dq osq);clear ix q0 r0 r1 LS wP Au p0 p1;go_wp2
    go_roundw
    case rel=>exact⟨k+1,by omega,by go_num,BE.out.trans (Z6.out.mono BE.out.size),fun j y' hj h1=>by
     rcases bC j k with h3|h3
     ·exact AL.out j y' h3 h1
     ·obtain rfl:j=k:=by omega
      have e1:=HY.out;rw [h1] at e1;rw [aJ e1];exact HR.out⟩
    case measure=>simp [intOf]; omega
  ·obtain rfl:k=n:=by omega
   have wP:decide ((k:Int)<(k:Int))=aL:=by simp
   have Au:decide (k<k)=aL:=by simp
   go_wp2_with fail;refine wp_region_quiet_below (by kernel_rfl) (by kernel_rfl) ?_
   repeat (go_big_quiet_step (fail))
   refine wpQuiet_nil ?_;intro _ hw';obtain⟨⟨dq,osq⟩,hw''⟩:=hw';subst hw'';have Z6:=aI wr dq osq;have HF:=L (fun v12 v13 v14 v15 v16 v17 v18 v19 v20 v21 v22 v23 v24 v25 v26 v27 v28=>HQ.out (grow (bn wr dq) osq) v12 v13 v14 v15 v16 v17 v18 v19 v20 v21 v22 v23 v24 v25 v26 v27 v28 (BE.out.trans (Z6.mono BE.out.size)));rw [nU l (c,d) k AL.out (aV (by simpa using HN.out))] at HF;clear HQ q0 r0 r1 wP Au;go_wp2;exact HF.out _ _ _ _ _ _ _ _ _ _ _ _ _ _ _ _ _
noncomputable def VI:Code:=((Tryz.f60.body.bind (gL 2)).getD .skip)
theorem Qe (Q:Exit->Act->aD->Prop) (W:aD) (b2 b3:Nat) (me c d:Int) (y1 y3 y4 y5 p3 q3:aG) (so:Option bF) (n sc:Nat) (l:List jC) (u0 u1 u4 u5 u7 u8 u9 u10 u11 u12 u13 u14 u15 u16 u17 u18 u19 u20 u21 u22 u23 u24 u25 u26 u27 u28 u29 u30 u31 u32 u33 u34 u35 u36 u37 u38 u39 u40 u41 u42 u43 u44 u45 u46 u47 u48 u49 u50 u51 u52 u53 u54 u55 u56 u57 u58 u59 u60 u61 u62 u63 u64 u65 u66 u67 u68 u69 u70 u71 u72 u73 u74 u75 u76 u77 u78:aG)
  (h2:dI W b2 #[O U me,y1,J so n sc,y3,y4,y5] 33) (h3:dI W b3 #[O U c,O U d,p3,q3] 53) (hs:uE W (J so n sc) l) (hn:n=l.length) (hm:n<=1000000)
  (hQ:∀ (wr:aD) (v45 v46 v47 v48 v49 v50 v51 v52 v53 v54 v55 v56 v57 v58 v59 v60 v61 v62:aG),Below W.heap.size W wr->Q .normal ⟨(u0::u1::Z (Y ⟨b2,0,X⟩)::Z (Y ⟨b3,0,X⟩)::u4::u5::O U (fF (l.map fun y=>(y.1,y.2.1)) (c,d):Nat)::u7::u8::u9::u10::u11::u12::u13::u14::u15::u16::u17::u18::u19::u20::u21::u22::u23::u24::u25::u26::u27::u28::u29::u30::u31::u32::u33::u34::u35::u36::u37::u38::u39::u40::u41::u42::u43::u44::v45::v46::v47::v48::v49::v50::v51::v52::v53::v54::v55::v56::v57::v58::v59::v60::v61::v62::u63::u64::u65::u66::u67::u68::u69::u70::u71::u72::u73::u74::u75::u76::u77::u78::[]).toArray,[]⟩ wr) :
  Code.wp aF VI Q ⟨(u0::u1::Z (Y ⟨b2,0,X⟩)::Z (Y ⟨b3,0,X⟩)::u4::u5::O U 0::u7::u8::u9::u10::u11::u12::u13::u14::u15::u16::u17::u18::u19::u20::u21::u22::u23::u24::u25::u26::u27::u28::u29::u30::u31::u32::u33::u34::u35::u36::u37::u38::u39::u40::u41::u42::u43::u44::u45::u46::u47::u48::u49::u50::u51::u52::u53::u54::u55::u56::u57::u58::u59::u60::u61::u62::u63::u64::u65::u66::u67::u68::u69::u70::u71::u72::u73::u74::u75::u76::u77::u78::[]).toArray,[]⟩ W:=by
 have HQ:=L hQ;have H2:=L h2;have H3:=L h3;have HS:=L hs;have HN:=L hn;clear hQ h2 h3 hs hn
 conv=>arg 2; whnf
 go_wp2
 go_loopw [6] (fun i wr=>∃ k:Nat,k<=n/\i=O U k/\Below W.heap.size W wr/\∀ (j:Nat) (y:Id),j<k->(l.map fun y=>(y.1,y.2.1))[j]?=Y y->dZ y (c,d)=bf) (fun i _=>n-(intOf i).toNat)
 case atStart=>exact⟨0,aW _,rfl,V _ _,fun j y h=>by omega⟩
 case round =>
  obtain⟨k,hk,rfl,hbe,hall⟩:=hrel;have BE:=L hbe;have AL:=L hall;clear hbe hall;have q0:=aA (show wr.cell? ⟨b2,2,X⟩=Y (J so n sc) from (H2.out.on BE.out).cell 2);have r0:=aA (show wr.cell? ⟨b3,0,X⟩=Y (O U c) from (H3.out.on BE.out).cell 0);have r1:=aA (show wr.cell? ⟨b3,1,X⟩=Y (O U d) from (H3.out.on BE.out).cell 1);have hw3:IntKind.i64.wrap ((k:Int)+1)=(k:Int)+1:=aO _ (by omega);by_cases hlt:k<n
  ·obtain⟨y,hy⟩:∃ y,l[k]?=Y y:=⟨_,ay (by rw [<- HN.out]; exact hlt)⟩;obtain⟨p,ix,px⟩:=Vu HS.out rfl HN.out.symm hy;have xu:=px wr BE.out;obtain⟨y1,y2,⟨y3o,y3n,y3c⟩,y4⟩:=y;simp only at xu;have p0:=aA xu.1;have p1:=aA xu.2.1;have wP:decide ((k:Int)<(n:Int))=bf:=decide_eq_true (by omega);have Au:decide (k<n)=bf:=decide_eq_true hlt;obtain⟨r,hr⟩:∃ r,dZ (y1,y2) (c,d)=r:=⟨_,rfl⟩;have LS:=L (fun d' os=>Calls.regrown_of (d:=d') (os:=os) ((rF (y1,y2) (c,d) (grow (bn wr d') os)).mono fun _ _ h=>⟨by rw [h.1,hr],h.2⟩));have HY:=L (show (l.map fun y=>(y.1,y.2.1))[k]?=Y (y1,y2) by rw [List.getElem?_map,hy]; rfl);have HR:=L hr;clear px xu hy hr;cases r
   ·go_wp2_with fail;refine wp_region_quiet_below (by kernel_rfl) (by kernel_rfl) ?_
    repeat (go_big_quiet_step (first | (with_reducible exact LS.out _ _)))
    refine wpQuiet_nil ?_;intro _ hw';obtain⟨⟨dq,osq⟩,hw''⟩:=hw';subst hw'';have Z6:=aI wr dq osq;have HF:=L (fun v45 v46 v47 v48 v49 v50 v51 v52 v53 v54 v55 v56 v57 v58 v59 v60 v61 v62=>HQ.out (grow (bn wr dq) osq) v45 v46 v47 v48 v49 v50 v51 v52 v53 v54 v55 v56 v57 v58 v59 v60 v61 v62 (BE.out.trans (Z6.mono BE.out.size)));rw [nU (l.map fun y=>(y.1,y.2.1)) (c,d) k AL.out (aK ⟨_,HY.out,HR.out⟩)] at HF;clear ix HQ q0 r0 r1 LS wP Au p0 p1;go_wp2;exact HF.out _ _ _ _ _ _ _ _ _ _ _ _ _ _ _ _ _ _
   ·go_wp2_with fail;refine wp_region_quiet_below (by kernel_rfl) (by kernel_rfl) ?_
    repeat (go_big_quiet_step (first | (with_reducible exact LS.out _ _)))
    refine wpQuiet_nil ?_;intro _ hw';obtain⟨⟨dq,osq⟩,hw''⟩:=hw';subst hw'';have Z6:=L (aI wr dq osq);clear ix q0 r0 r1 LS wP Au p0 p1;go_wp2
    go_roundw
    case rel=>exact⟨k+1,by omega,by go_num,BE.out.trans (Z6.out.mono BE.out.size),fun j y' hj h1=>by
     rcases bC j k with h3|h3
     ·exact AL.out j y' h3 h1
     ·obtain rfl:j=k:=by omega
      have e1:=HY.out;rw [h1] at e1;rw [aJ e1];exact HR.out⟩
    case measure=>simp [intOf]; omega
  ·obtain rfl:k=n:=by omega
   have wP:decide ((k:Int)<(k:Int))=aL:=by simp
   have Au:decide (k<k)=aL:=by simp
   go_wp2_with fail;refine wp_region_quiet_below (by kernel_rfl) (by kernel_rfl) ?_
   repeat (go_big_quiet_step (fail))
   refine wpQuiet_nil ?_;intro _ hw';obtain⟨⟨dq,osq⟩,hw''⟩:=hw';subst hw'';have Z6:=aI wr dq osq;have HF:=L (fun v45 v46 v47 v48 v49 v50 v51 v52 v53 v54 v55 v56 v57 v58 v59 v60 v61 v62=>HQ.out (grow (bn wr dq) osq) v45 v46 v47 v48 v49 v50 v51 v52 v53 v54 v55 v56 v57 v58 v59 v60 v61 v62 (BE.out.trans (Z6.mono BE.out.size)));rw [nU (l.map fun y=>(y.1,y.2.1)) (c,d) k AL.out (aV (by simpa using HN.out))] at HF;clear HQ q0 r0 r1 wP Au;go_wp2;exact HF.out _ _ _ _ _ _ _ _ _ _ _ _ _ _ _ _ _ _
def fM {α:Type} (l:List α) (k:Nat) (x:α):List α:=l.take k++[x]++l.drop k
def fC (b:Br) (a:Ad):Br×Bool:=if a.id∈b.seen then (b,aL) else ({ b with seen:=fM b.seen (fF b.seen a.id) a.id,dM:=fM b.dM (fF (b.dM.map Ad.id) a.id) a },bf)
abbrev gN (W:aD) (b:Nat) (a0 a1 a2 a3 a4 a5:aG):aD:=(((((W.setCell ⟨b,0,X⟩ a0).setCell ⟨b,1,X⟩ a1).setCell ⟨b,2,X⟩ a2).setCell ⟨b,3,X⟩ a3).setCell ⟨b,4,X⟩ a4).setCell ⟨b,5,X⟩ a5
theorem dJ {W:aD} {b:Nat} {t:TypeId} {z0 z1 z2 z3 z4 z5:aG} (h:dI W b #[z0,z1,z2,z3,z4,z5] t) (a0 a1 a2 a3 a4 a5:aG):dI (gN W b a0 a1 a2 a3 a4 a5) b #[a0,a1,a2,a3,a4,a5] t:=by
 have h2:=dO (k:=5) (dO (k:=4) (dO (k:=3) (dO (k:=2) (dO (k:=1) (dO (k:=0) h a0) a1) a2) a3) a4) a5;simp only [aP,bg,aQ] at h2;exact h2
theorem dB {w W:aD} {B b:Nat} (h:Below B w W) (hb:B<=b) (a0 a1 a2 a3 a4 a5:aG):Below B w (gN W b a0 a1 a2 a3 a4 a5) :=
 (((((h.setCell hb _).setCell hb _).setCell hb _).setCell hb _).setCell hb _).setCell hb _
theorem dD (W:aD) (b:Nat) (a0 a1 a2 a3 a4 a5:aG) (j:Nat) (hj:j≠b):(gN W b a0 a1 a2 a3 a4 a5).heap[j]?=W.heap[j]?:=by
 have h:∀ (W:aD) (k:Nat) (x:aG),(W.setCell ⟨b,k,X⟩ x).heap[j]?=W.heap[j]?:=fun W k x=>aB W _ x _ hj;unfold gN;rw [h,h,h,h,h,h]
theorem fE {α:Type} {E:Ek α} {W:aD} {B:Nat} {v:aG} {l:List α} (h:Own E W B v l) (b:Nat) (hb:b<B) (a0 a1 a2 a3 a4 a5:aG):Own E (gN W b a0 a1 a2 a3 a4 a5) B v l :=
 dY (dY (dY (dY (dY (dY h b 0 a0 hb) b 1 a1 hb) b 2 a2 hb) b 3 a3 hb) b 4 a4 hb) b 5 a5 hb
theorem gM (w:aD) (c d e:Array aG) (r s t:TypeId):Below w.heap.size w (((w.alloc (aj c r)).alloc (aj d s)).alloc (aj e t))/\dI (((w.alloc (aj c r)).alloc (aj d s)).alloc (aj e t)) w.heap.size c r/\dI (((w.alloc (aj c r)).alloc (aj d s)).alloc (aj e t)) (w.heap.size+1) d s/\dI (((w.alloc (aj c r)).alloc (aj d s)).alloc (aj e t)) (w.heap.size+1+1) e t:=by
 refine⟨(((V _ _).alloc (aH _) _).alloc (by simp) _).alloc (by simp; omega) _,((dK w c r).more _).more _,?_,?_⟩
 ·have h:=(dK (w.alloc (aj c r)) d s).more (aj e t);simpa using h
 ·have h:=dK ((w.alloc (aj c r)).alloc (aj d s)) e t;simpa using h
theorem Qf {W:aD} {b:Nat} {c d:Int} {p q:aG} (h:dI W b #[O U c,O U d,p,q] 53):∀ x,Below W.heap.size W x->∀ j u,(jk (c,d))[j]?=Y u->x.cell? ((⟨b,0,X⟩:bF).add j)=Y u:=by
 intro x hb j u hj;rw [nk,(h.on hb).cell]
 match j with
 | 0=>exact hj
 | 1=>exact hj
 | j+2=>simp at hj
theorem Ng {W:aD} {b:Nat} {c d q:Int} {p:Sl} (h:dI W b #[O U c,O U d,dP p,O U q] 53):∀ x,Below W.heap.size W x->∀ j u,(cellsD (c,d,p,q))[j]?=Y u->x.cell? ((⟨b,0,X⟩:bF).add j)=Y u:=by
 intro x hb j u hj;rw [nk,(h.on hb).cell]
 match j with
 | 0=>exact hj
 | 1=>exact hj
 | 2=>exact hj
 | 3=>exact hj
 | j+4=>simp at hj
theorem yC {W:aD} {l:List jC} {m:List Ad} (h:eu (vN W) l m):(l.map fun y=>(y.1,y.2.1))=m.map Ad.id:=by
 induction h with
 | nil=>rfl
 | cons x t ih=>rw [aZ,aZ,ih,x.1]
theorem kY (l:List Id) (x:Id):fF l x<=l.length:=by
 unfold fF;exact (List.takeWhile_sublist _).length_le
theorem Qg {α:Type} {E:Ek α} {W:aD} {B:Nat} {v:aG} {l:List α} {b:Nat} (h:Own E W B v l) (hb:b<B):v.ownBlock=X\/v.ownBlock≠Y b:=by
 cases hv:v.ownBlock with
 | none=>exact aV rfl
 | some j =>
  refine aK fun e=>?_;injection e with e
  have:=(h.lt j hv).1;omega
theorem Jd (b:Br) (nv av sv ev ov:Sl) (z:jC) (a:Ad) (w:aD) (h:iA w b nv av sv ev ov) (hz:vN w z a) (l1:b.seen.length<=900) (l2:b.dM.length<=900) :
  bH aF 60 #[nT b.me nv av sv ev ov,lU z] w fun e w'=>(∃ Aw Je:Sl,e=.returned (.tuple #[nT b.me nv Aw Je ev ov,aM (fC b a).2])/\iA w' (fC b a).1 nv Aw Je ev ov)/\Below w.heap.size w w':=by
 obtain⟨no,nn,nc⟩:=nv;obtain⟨ao,an,ac⟩:=av;obtain⟨so,sn,sc⟩:=sv;obtain⟨eo,en,ec⟩:=ev;obtain⟨oo,dL,oc⟩:=ov;obtain⟨c,d,⟨po,pn,pc⟩,par⟩:=z;obtain⟨xs,hx1,hx2⟩:=h.dM;have HZ:=L hz;have IDS:=L (yC hx2);have XL:=L (show xs.length<=900 by rw [hx2.len]; exact l2);have hs:=h.seen;have HA2:=L hx2;obtain⟨q1,q2,hq⟩:=hs.len;obtain⟨rfl,rfl,rfl⟩:so=q1/\sn=b.seen.length/\sc=q2:=by
  have:J so sn sc=J q1 b.seen.length q2:=hq;simpa using this
 obtain⟨q1,q2,hq⟩:=hx1.len;obtain⟨rfl,rfl,rfl⟩:ao=q1/\an=xs.length/\ac=q2:=by
  have:J ao an ac=J q1 xs.length q2:=hq;simpa using this
 have SN:=Na b.me (J no nn nc) (J ao xs.length ac) (J eo en ec) (J oo dL oc) (so,b.seen.length,sc) b.seen (c,d);have HH:=L h;obtain⟨h0,h1,h2,h3⟩:=gM w #[O U b.me,J no nn nc,J ao xs.length ac,J so b.seen.length sc,J eo en ec,J oo dL oc] #[O U c,O U d,J po pn pc,O U par] #[O U 0,J X 0 0,J X 0 0,J X 0 0,J X 0 0,J X 0 0] 33 53 33;obtain⟨n1,hn1⟩:∃ n,n=b.seen.length:=⟨_,rfl⟩;obtain⟨n2,hn2⟩:∃ n,n=xs.length:=⟨_,rfl⟩;have HD:=hx1;simp only [<- hn1,<- hn2] at h0 h1 h2 h3 hs HD HH SN ⊢;have B0:=L h0;have X2:=L h1;have X3:=L h2;have X4:=L h3;have HS:=L hs;have HD:=L HD;have N1:=L hn1;have N2:=L hn2;have L1:=L l1;have AI:=L hz.1;have hme:∃ me,me=b.me:=⟨_,rfl⟩;obtain⟨me,hme⟩:=hme;simp only [<- hme] at X2 B0 X3 X4 SN ⊢;clear h0 h1 h2 h3 hs hx1 hx2 h hz hq hn1 hn2 l1 l2 hme;go_enter Tryz.func60,Tryz.ntmps60;go_upto_region 1 with fail;generalize (((w.alloc (aj #[O U me,J no nn nc,J ao n2 ac,J so n1 sc,J eo en ec,J oo dL oc] 33)).alloc (aj #[O U c,O U d,J po pn pc,O U par] 53)).alloc (aj #[O U 0,J X 0 0,J X 0 0,J X 0 0,J X 0 0,J X 0 0] 33))=W at *;have SW:=L (SN W (HS.out.on B0.out));clear SN;obtain⟨x0,x1,x2,x3,x4,x5⟩:=X2.out.eZ;obtain⟨y0,y1,y2,y3⟩:=X3.out.IK;cases hsn:decide ((c,d)∈b.seen) with
 | true =>
  have LB:=L (show fC b a=(b,aL) from if_pos (by rw [<- AI.out]; exact of_decide_eq_true hsn));rw [hsn] at SW;clear hsn;go_wp2_with fail;refine SW.out.mono ?_;rintro e1 w1 ⟨rfl,hb⟩;have B1:=L (B0.out.trans (hb.mono B0.out.size));have xQ:=X2.out.on hb;have VJ:=X4.out.on hb;clear SW x0 x1 x2 x3 x4 x5 y0 y1 y2 y3;obtain⟨x0,x1,x2,x3,x4,x5⟩:=xQ.eZ;obtain⟨r0,r1,r2,r3,r4,r5⟩:=VJ.eZ;obtain⟨t0,t1,t2,t3,t4,t5⟩:=VJ.ku;have zz:=VJ.lt;have FB:=L (dJ VJ (O U me) (J no nn nc) (J ao n2 ac) (J so n1 sc) (J eo en ec) (J oo dL oc));have BL:=L (dB (b:=w.heap.size+1+1) B1.out (by omega) (O U me) (J no nn nc) (J ao n2 ac) (J so n1 sc) (J eo en ec) (J oo dL oc));clear hb X2 X3 X4 xQ VJ HS HD;go_wp2_with fail;obtain⟨v0,v1,v2,v3,v4,v5⟩:=FB.out.eZ;refine aN (v:=.tuple #[bG #[O U me,J no nn nc,J ao n2 ac,J so n1 sc,J eo en ec,J oo dL oc],aM aL]) (by simp [results,bD,go_sem,v0,v1,v2,v3,v4,v5]) rfl ?_;rw [LB.out];exact⟨⟨(ao,n2,ac),(so,n1,sc),rfl,HH.out.on BL.out⟩,BL.out⟩
 | false =>
  have LB:=L (show fC b a=({ b with seen:=fM b.seen (fF b.seen a.id) a.id,dM:=fM b.dM (fF (b.dM.map Ad.id) a.id) a },bf) from if_neg (by rw [<- AI.out]; exact of_decide_eq_false hsn));rw [hsn] at SW;clear hsn;go_wp2_with fail;refine SW.out.mono ?_;rintro e1 w1 ⟨rfl,hb⟩;have B1:=L (B0.out.trans (hb.mono B0.out.size));have Y2:=L (X2.out.on hb);have Y3:=L (X3.out.on hb);have Y4:=L (X4.out.on hb);have S1:=L (HS.out.on B1.out);clear SW hb X2 X3 X4 HS x0 x1 x2 x3 x4 x5 y0 y1 y2 y3
  go_upto_block 0 with (fail)
  refine Qd _ w1 w.heap.size (w.heap.size+1) me c d _ _ _ _ _ _ so n1 sc b.seen _ _ _ _ _ _ _ _ _ _ _ _ _ _ _ _ _ _ _ _ _ _ _ _ _ _ _ _ _ _ _ _ _ _ _ _ _ _ _ _ _ _ _ _ _ _ _ _ _ _ _ _ _ _ _ _ _ _ _ _ _ _ _ _ _ _ _ _ _ _ _ _ _ _ _ _ Y2.out Y3.out S1.out N1.out (by have:=L1.out; have:=N1.out; omega) ?_;intro wr v12 v13 v14 v15 v16 v17 v18 v19 v20 v21 v22 v23 v24 v25 v26 v27 v28 hb;have B2:=L (B1.out.trans (hb.mono B1.out.size));have Z2:=L (Y2.out.on hb);have Z3:=L (Y3.out.on hb);have Z4:=L (Y4.out.on hb);have S2:=L (S1.out.on hb);clear hb B1 Y2 Y3 Y4 S1;go_upto_region 6 with fail;refine aeR _ wr w.heap.size (w.heap.size+1) me _ _ _ _ so n1 sc (fF b.seen (c,d)) b.seen (c,d) _ _ _ _ _ _ _ _ _ _ _ _ _ _ _ _ _ _ _ _ _ _ _ _ _ _ _ _ _ _ _ _ _ _ _ _ _ _ _ _ _ _ _ _ _ _ _ _ _ _ _ _ _ _ _ _ _ _ _ _ _ _ _ _ _ _ _ _ _ _ _ _ _ _ _ _ Z2.out (Qf Z3.out) S2.out (kY _ _) L1.out ?_;intro xw1 v29 v30 v31 v32 v33 v34 v35 v36 v37 v38 v39 v40 v41 v42 v43 v44 hbx ho hbl hoth hblk;obtain⟨sd1,sd2,hsv⟩:=(Row.dw ho).len;obtain⟨sl,hsl⟩:∃ n,n=(b.seen.take (fF b.seen (c,d))++[(c,d)]++b.seen.drop (fF b.seen (c,d))).length:=⟨_,rfl⟩;rw [<- hsl] at hsv;subst hsv;have B3:=L (B2.out.trans (hbl _ (aH _)));have A2:=L hbx;have A3:=L (hoth _ _ _ (by omega) Z3.out);have A4:=L (hoth _ _ _ (by omega) Z4.out);have OS:=L (dG ho (show w.heap.size+3<=wr.heap.size by have:=Z4.out.lt; omega));have D3:=L (HD.out.on B3.out);clear hbx ho hbl hoth hblk hsl B2 Z2 Z3 Z4 S2 HD
  go_upto_block 2 with (fail)
  refine Qe _ xw1 w.heap.size (w.heap.size+1) me c d _ _ _ _ _ _ ao n2 ac xs _ _ _ _ _ _ _ _ _ _ _ _ _ _ _ _ _ _ _ _ _ _ _ _ _ _ _ _ _ _ _ _ _ _ _ _ _ _ _ _ _ _ _ _ _ _ _ _ _ _ _ _ _ _ _ _ _ _ _ _ _ _ _ _ _ _ _ _ _ _ _ _ _ _ _ _ A2.out A3.out D3.out N2.out (by have:=XL.out; have:=N2.out; omega) ?_;intro ws v45 v46 v47 v48 v49 v50 v51 v52 v53 v54 v55 v56 v57 v58 v59 v60 v61 v62 hb;have B4:=L (B3.out.trans (hb.mono B3.out.size));have C2:=L (A2.out.on hb);have C3:=L (A3.out.on hb);have C4:=L (A4.out.on hb);have O4:=L (dx OS.out hb);have D4:=L (D3.out.on hb);clear hb B3 A2 A3 A4 OS D3;go_upto_region 10 with fail;refine aco _ ws w.heap.size (w.heap.size+1) me _ _ _ _ ao n2 ac (fF (xs.map fun y=>(y.1,y.2.1)) (c,d)) xs (c,d,(po,pn,pc),par) _ _ _ _ _ _ _ _ _ _ _ _ _ _ _ _ _ _ _ _ _ _ _ _ _ _ _ _ _ _ _ _ _ _ _ _ _ _ _ _ _ _ _ _ _ _ _ _ _ _ _ _ _ _ _ _ _ _ _ _ _ _ _ _ _ _ _ _ _ _ _ _ _ _ _ _ C2.out (Ng (p:=(po,pn,pc)) C3.out) D4.out (by have:=kY (xs.map fun y=>(y.1,y.2.1)) (c,d); rw [List.length_map] at this; exact this) XL.out ?_;intro xw2 v63 v64 v65 v66 v67 v68 v69 v70 v71 v72 v73 v74 v75 v76 v77 hbx ho hbl hoth hblk;obtain⟨lW,lX,yD⟩:=(Row.dw ho).len;obtain⟨tl,htl⟩:∃ n,n=(xs.take (fF (xs.map fun y=>(y.1,y.2.1)) (c,d))++[(c,d,(po,pn,pc),par)]++xs.drop (fF (xs.map fun y=>(y.1,y.2.1)) (c,d))).length:=⟨_,rfl⟩;rw [<- htl] at yD;subst yD;have hb5:=hbl _ (aH w.heap.size);have B5:=L (B4.out.trans hb5);have E2:=hbx;have E4:=hoth _ _ _ (by omega) C4.out;have OD:=L (dG ho (show w.heap.size+3<=ws.heap.size by have:=C4.out.lt; omega));have OS:=L (O4.out.kept (w':=xw2) (row:=Y w.heap.size) ⟨hb5.os,hb5.tape,hb5.output,hb5.size,fun k hk hne=>hblk k hk (fun e=>hne (by rw [e]))⟩ (Qg O4.out (by omega)));clear ho hbl hoth hblk htl hb5 hbx B4 C2 C3 C4 O4 D4;obtain⟨x0,x1,x2,x3,x4,x5⟩:=E2.eZ;obtain⟨r0,r1,r2,r3,r4,r5⟩:=E4.eZ;obtain⟨t0,t1,t2,t3,t4,t5⟩:=E4.ku;have zz:=E4.lt;have FB:=L (dJ E4 (O U me) (J no nn nc) (J lW tl lX) (J sd1 sl sd2) (J eo en ec) (J oo dL oc));have BL:=L (dB (b:=w.heap.size+1+1) B5.out (by omega) (O U me) (J no nn nc) (J lW tl lX) (J sd1 sl sd2) (J eo en ec) (J oo dL oc));have FD:=L (fE OD.out (w.heap.size+1+1) (by omega) (O U me) (J no nn nc) (J lW tl lX) (J sd1 sl sd2) (J eo en ec) (J oo dL oc));have FS:=L (fE OS.out (w.heap.size+1+1) (by omega) (O U me) (J no nn nc) (J lW tl lX) (J sd1 sl sd2) (J eo en ec) (J oo dL oc));clear OD OS E2 E4;go_wp2_with fail;obtain⟨v0,v1,v2,v3,v4,v5⟩:=FB.out.eZ;refine aN (v:=.tuple #[bG #[O U me,J no nn nc,J lW tl lX,J sd1 sl sd2,J eo en ec,J oo dL oc],aM bf]) (by simp [results,bD,go_sem,v0,v1,v2,v3,v4,v5]) rfl ?_;rw [LB.out];refine⟨⟨(lW,tl,lX),(sd1,sl,sd2),rfl,?_⟩,BL.out⟩;have hI:=HH.out.on BL.out;refine⟨hI.near,⟨_,Row.dw FD.out,?_⟩,?_,hI.ent,hI.own⟩
  ·have hA:=HA2.out.mono fun _ _ h=>h.on BL.out;rw [<- AI.out,<- IDS.out];exact ((hA.take _).append (.cons (HZ.out.on BL.out) .nil)).append (hA.drop _)
  ·rw [<- AI.out];exact Row.dw FS.out
def cutAt {α:Type} (l:List α) (k:Nat):List α:=l.take k++l.drop (k+1)
def gJ (b:Br) (x:Id) (f:Int):Br×Bool:=match b.dM[(fD (b.dM.map Ad.id) x).toNat]? with
 | none=>(b,aL)
 | some a=>if fD (b.dM.map Ad.id) x=-1 then (b,aL) else if a.par=f then ({ b with dM:=cutAt b.dM (fD (b.dM.map Ad.id) x).toNat,ent:=b.ent.filter fun e=>decide (e.tree≠x) },bf) else (b,aL)
theorem Kh (l:List jC) (x:Id):fD (l.map fun y=>(y.1,y.2.1)) x=-1\/∃ (k:Nat) (y:jC),fD (l.map fun y=>(y.1,y.2.1)) x=k/\l[k]?=Y y:=by
 induction l with
 | nil=>exact aV rfl
 | cons a l ih =>
  rw [aZ,fD];by_cases h:(a.1,a.2.1)=x
  ·rw [if_pos h];exact aK ⟨0,a,rfl,rfl⟩
  ·rw [if_neg h];rcases ih with h2|⟨k,y,h2,h3⟩
   ·rw [if_pos h2];exact aV rfl
   ·rw [if_neg (by omega),h2];exact aK ⟨k+1,y,by omega,by simpa using h3⟩
theorem eu.fil {α β:Type} {R:α->β->Prop} (p:α->Bool) (q:β->Bool) (hpq:∀ a b,R a b->p a=q b):∀ {l m},eu R l m->eu R (l.filter p) (m.filter q)
 | _,_,.nil=>.nil
 | _,_,.cons (a:=a) (b:=b) x t=>by
  have h:=hpq a b x;cases hb:q b
  ·rw [aS (by rw [h,hb]; simp),aS (by rw [hb]; simp)];exact t.fil p q hpq
  ·rw [aT (by rw [h,hb]),aT (by rw [hb])];exact .cons x (t.fil p q hpq)
theorem VL (a b c d:Int) (r:Bool) (h:(!(a == c && b == d))=r) (w:aD):(binOp .neq 38 (bG #[O U a,O U b]) (bG #[O U c,O U d])).run aF w=.ok (aM r) w:=by
 have st:=Ka;subst h;by_cases h1:a=c <;> by_cases h2:b=d <;> simp [go_sem,Tryz.underlying38,Tryz.underlying3,st,h1,h2]
def wQ (x:Id) (e:iF):Bool:=decide ((e.1,e.2.1)≠x)
theorem yE {α:Type} (l:List α) (k:Nat) (y:α) (p:α->Bool) (h:l[k]?=Y y):(l.take (k+1)).filter p=(l.take k).filter p++(if p y then [y] else []):=by
 rw [List.take_add_one,h,List.filter_append];cases hp:p y <;> simp [hp]
theorem Fh (b:Br) (nv av sv ev ov:Sl) (x:Id) (f:Int) (w:aD) (h:iA w b nv av sv ev ov) (l2:b.dM.length<=900) (l3:b.ent.length<=900) :
  bH aF 95 #[nT b.me nv av sv ev ov,lV x,O U f] w fun e w'=>(∃ Aw ev':Sl,e=.returned (.tuple #[nT b.me nv Aw sv ev' ov,aM (gJ b x f).2])/\iA w' (gJ b x f).1 nv Aw sv ev' ov)/\Below w.heap.size w w':=by
 obtain⟨no,nn,nc⟩:=nv;obtain⟨ao,an,ac⟩:=av;obtain⟨so,sn,sc⟩:=sv;obtain⟨eo,en,ec⟩:=ev;obtain⟨oo,dL,oc⟩:=ov;obtain⟨c,d⟩:=x;obtain⟨xs,hx1,hx2⟩:=h.dM;obtain⟨es,he1,he2⟩:=h.ent;have IDS:=L (yC hx2);have XL:=L (show xs.length<=900 by rw [hx2.len]; exact l2);have EL:=L (show es.length<=900 by rw [he2.len]; exact l3);have HA2:=L hx2;have HE2:=L he2;obtain⟨q1,q2,hq⟩:=hx1.len;obtain⟨rfl,rfl,rfl⟩:ao=q1/\an=xs.length/\ac=q2:=by
  have:J ao an ac=J q1 xs.length q2:=hq;simpa using this
 obtain⟨q1,q2,hq⟩:=he1.len;obtain⟨rfl,rfl,rfl⟩:eo=q1/\en=es.length/\ec=q2:=by
  have:J eo en ec=J q1 es.length q2:=hq;simpa using this
 have FD:=su b.me (J no nn nc) (J eo es.length ec) (J so sn sc) (J oo dL oc) (ao,xs.length,ac) xs (c,d);have HH:=L h;obtain⟨h0,h1,h2,h3⟩:=gM w #[O U b.me,J no nn nc,J ao xs.length ac,J so sn sc,J eo es.length ec,J oo dL oc] #[O U c,O U d] #[O U 0,J X 0 0,J X 0 0,J X 0 0,J X 0 0,J X 0 0] 33 38 33;obtain⟨n2,hn2⟩:∃ n,n=xs.length:=⟨_,rfl⟩;obtain⟨n3,Qh⟩:∃ n,n=es.length:=⟨_,rfl⟩;simp only [<- hn2,<- Qh] at h0 h1 h2 h3 hx1 he1 HH FD ⊢;have B0:=L h0;have X2:=L h1;have X3:=L h2;have X5:=L h3;have HS:=L hx1;have HE:=L he1;have N2:=L hn2;have N3:=L Qh;obtain⟨me,hme⟩:∃ me,me=b.me:=⟨_,rfl⟩;simp only [<- hme] at X2 B0 X3 X5 FD ⊢;clear h0 h1 h2 h3 hx1 he1 hx2 he2 h hq hn2 Qh l2 l3 hme;go_enter Tryz.func95,Tryz.ntmps95;go_upto_region 1 with fail;generalize (((w.alloc (aj #[O U me,J no nn nc,J ao n2 ac,J so sn sc,J eo n3 ec,J oo dL oc] 33)).alloc (aj #[O U c,O U d] 38)).alloc (aj #[O U 0,J X 0 0,J X 0 0,J X 0 0,J X 0 0,J X 0 0] 33))=W at *;have SW:=L (FD W (HS.out.on B0.out));clear FD;obtain⟨x0,x1,x2,x3,x4,x5⟩:=X2.out.eZ;obtain⟨y0,y1⟩:=X3.out.cs2;rcases Kh xs (c,d) with hf|⟨k,y,hf,hy⟩
 ·have LB:=L (show gJ b (c,d) f=(b,aL) by
   have hf':=hf;rw [IDS.out] at hf';unfold gJ;rw [hf']
   split
   ·rfl
   ·rw [if_pos rfl])
  rw [hf] at SW;clear hf;go_wp2_with fail;refine SW.out.mono ?_;rintro e1 w1 ⟨rfl,hb⟩;have B1:=L (B0.out.trans (hb.mono B0.out.size));have xQ:=X2.out.on hb;have q9:=X5.out.on hb;clear SW hb x0 x1 x2 x3 x4 x5 y0 y1;obtain⟨x0,x1,x2,x3,x4,x5⟩:=xQ.eZ;obtain⟨r0,r1,r2,r3,r4,r5⟩:=q9.eZ;obtain⟨t0,t1,t2,t3,t4,t5⟩:=q9.ku;have zz:=q9.lt;have FB:=L (dJ q9 (O U me) (J no nn nc) (J ao n2 ac) (J so sn sc) (J eo n3 ec) (J oo dL oc));have BL:=L (dB (b:=w.heap.size+1+1) B1.out (by omega) (O U me) (J no nn nc) (J ao n2 ac) (J so sn sc) (J eo n3 ec) (J oo dL oc));clear X2 X3 X5 xQ q9 HS HE;go_wp2_with fail;obtain⟨v0,v1,v2,v3,v4,v5⟩:=FB.out.eZ;refine aN (v:=.tuple #[bG #[O U me,J no nn nc,J ao n2 ac,J so sn sc,J eo n3 ec,J oo dL oc],aM aL]) (by simp [results,aX,go_sem,v0,v1,v2,v3,v4,v5]) rfl ?_;rw [LB.out];exact⟨⟨(ao,n2,ac),(eo,n3,ec),rfl,HH.out.on BL.out⟩,BL.out⟩
 ·rw [hf] at SW;have hk:=(aR.1 hy).1;have XL2:=XL.out;have hkn:k<n2:=by rw [N2.out]; exact hk
  have HF:=L hf;have HY:=L hy;obtain⟨p,ix,px⟩:=Vu HS.out rfl N2.out.symm hy;have LB:=L (show ∀ a,b.dM[k]?=Y a->gJ b (c,d) f=if a.par=f then ({ b with dM:=cutAt b.dM k,ent:=b.ent.filter fun e=>decide (e.tree≠(c,d)) },bf) else (b,aL) from fun a ha=>by
   have hf':=HF.out;rw [IDS.out] at hf';unfold gJ;rw [hf',Int.toNat_natCast,ha];simp only;rw [if_neg (by omega)])
  obtain⟨z1,z2,⟨zo,zn,zc⟩,par⟩:=y;obtain⟨a,hak⟩:∃ a,b.dM[k]?=Y a:=⟨_,ay (by rw [<- HA2.out.len]; exact hk)⟩;have hap:a.par=par:=by
   obtain⟨z,hz1,hz2⟩:=HA2.out.at k a hak;rw [HY.out] at hz1;obtain rfl:=aJ hz1;exact hz2.2.1.symm
  have LC:=LB.out a hak;rw [hap] at LC;have hik:decide ((k:Int)<0)=aL:=decide_eq_false (by omega);go_wp2_with fail;refine SW.out.mono ?_;rintro e1 w1 ⟨rfl,hb⟩;have B1:=L (B0.out.trans (hb.mono B0.out.size));have xQ:=X2.out.on hb;have X3a:=X3.out.on hb;have q9:=X5.out.on hb;have xu:=px w1 B1.out;obtain⟨p0,p1,p2,p3⟩:=xu;clear SW hb px HF LB hf hy hap hak x0 x1 x2 x3 x4 x5 y0 y1;by_cases hpf:par=f
  ·rw [if_pos hpf] at LC;have LB:=L LC;have hne:(par != f)=aL:=by simp [hpf]
   have HPF:=L hpf;have Z2:=L xQ;have Z3:=L X3a;have Z5:=L q9;obtain⟨x0,x1,x2,x3,x4,x5⟩:=xQ.eZ;obtain⟨r0,r1,r2,r3,r4,r5⟩:=q9.eZ;obtain⟨t0,t1,t2,t3,t4,t5⟩:=q9.ku;have zz:=q9.lt;clear LC hpf X2 X3 X5 xQ X3a q9;have S1:=L (HS.out.on B1.out);go_upto_region 4 with fail;refine aeS _ w1 w.heap.size (w.heap.size+1) me _ _ _ _ ao n2 ac k xs _ _ _ _ _ _ _ _ _ _ _ _ _ _ _ _ _ _ _ _ _ _ _ _ _ _ _ _ _ _ _ _ _ _ _ _ _ _ _ _ _ _ _ _ _ _ _ _ _ _ _ _ _ _ _ _ _ Z2.out S1.out (by omega) XL.out ?_;intro xw v28 v29 v30 v31 v32 v33 v34 v35 v36 v37 v38 v39 v40 hbx ho hbl hoth hblk;obtain⟨lW,lX,yD⟩:=(Row.dw ho).len;obtain⟨tl,htl⟩:∃ n,n=(xs.take k++xs.drop (k+1)).length:=⟨_,rfl⟩;rw [<- htl] at yD;subst yD;have B2:=L (B1.out.trans (hbl _ (aH _)));have A2:=L hbx;have A3:=L (hoth _ _ _ (by omega) Z3.out);have A5:=L (hoth _ _ _ (by omega) Z5.out);have OD:=L (dG ho (show w.heap.size+3<=w1.heap.size by have:=Z5.out.lt; omega));have E3:=L (HE.out.on B2.out);have a4:=hbx.cell 4;simp only [ak,au,ah] at a4;have W3:=L A5.out.lt;have nb:=EL.out;rw [<- N3.out] at nb;clear hbx ho hbl hoth hblk htl B1 Z2 Z3 Z5 S1 HS HE x0 x1 x2 x3 x4 x5 r0 r1 r2 r3 r4 r5 t0 t1 t2 t3 t4 t5 zz ix p0 p1 p2 p3 hne hik;go_wp2
   go_loopw [9,44] (fun v i wr=>∃ q:Nat,q<=n3/\i=O U q/\Below xw.heap.size xw wr/\jA wr xw.heap.size v ((es.take q).filter (wQ (c,d)))) (fun _ i _=>n3-(intOf i).toNat)
   case atStart=>exact⟨0,aW _,rfl,V _ _,gy _ _⟩
   case round =>
    obtain⟨q,hq,rfl,hbe,hown⟩:=hrel;have BE:=L hbe;have OE:=L hown;clear hbe hown;by_cases hlt:q<n3
    ·obtain⟨e,hy⟩:∃ e,es[q]?=Y e:=⟨_,ay (by rw [<- N3.out]; exact hlt)⟩;obtain⟨p,ix,px⟩:=Px E3.out rfl N3.out.symm hy;obtain⟨p0,p1,p2,p3,p4,p5,p6⟩:=px wr BE.out;have FS:=L (yE es q e (wQ (c,d)) hy);obtain⟨y1,y2,y3,y4,⟨yo,yn,yc⟩,y6,y7⟩:=e;simp only at p0 p1 p2 p3 p4 p5 p6;have NB:=L (fO wr (aj #[O U y1,O U y2,O U y3,O U y4,J yo yn yc,O U y6,aM y7] 68));obtain⟨x0,x1⟩:=((A3.out.on BE.out).on NB.out).cs2;have hw3:IntKind.i64.wrap ((q:Int)+1)=(q:Int)+1:=aO _ (by omega);obtain⟨r,hr⟩:∃ r,(!(y1 == c && y2 == d))=r:=⟨_,rfl⟩;have he:=VL y1 y2 c d r hr;have KN:=L (show wQ (c,d) (y1,y2,y3,y4,(yo,yn,yc),y6,y7)=r by
      rw [<- hr];unfold wQ;by_cases h1:y1=c <;> by_cases h2:y2=d <;> simp [h1,h2])
     clear px hy hr;cases r
     ·go_wp2
      go_roundw
      case rel=>exact⟨q+1,by omega,by go_num,BE.out.trans (NB.out.mono BE.out.size),by
       rw [FS.out,KN.out];simpa using dx OE.out NB.out⟩
      case measure=>simp [intOf]; omega
     ·have NB2:=L (fO (wr.alloc (aj #[O U y1,O U y2,O U y3,O U y4,J yo yn yc,O U y6,aM y7] 68)) (aj #[O U y1,O U y2,O U y3,O U y4,J yo yn yc,O U y6,aM y7] 68));have hlit:=gZ nR (wr.alloc (aj #[O U y1,O U y2,O U y3,O U y4,J yo yn yc,O U y6,aM y7] 68)) [(y1,y2,y3,y4,(yo,yn,yc),y6,y7)] 1 rfl (by simp) #[O U y1,O U y2,O U y3,O U y4,J yo yn yc,O U y6,aM y7] rfl;have o2:=dx (dx OE.out NB.out) NB2.out;have hB:xw.heap.size<=((wr.alloc (aj #[O U y1,O U y2,O U y3,O U y4,J yo yn yc,O U y6,aM y7] 68)).alloc (aj #[O U y1,O U y2,O U y3,O U y4,J yo yn yc,O U y6,aM y7] 68)).heap.size:=by have h1:=BE.out.size; simp; omega
      obtain⟨v',w',r',o',gr⟩:=fT nR xw.heap.size o2 (Row.dw hlit) (by have h1:=List.length_filter_le (wQ (c,d)) (es.take q); rw [aU] at h1; omega) (by simp) hB 30;have r':(Builtin.append_ #[30,30] 30 #[u9,J (Y ⟨wr.heap.size+1,0,X⟩) 1 1]).run aF ((wr.alloc (aj #[O U y1,O U y2,O U y3,O U y4,J yo yn yc,O U y6,aM y7] 68)).alloc (aj #[O U y1,O U y2,O U y3,O U y4,J yo yn yc,O U y6,aM y7] 68))=.ok v' w':=by
       simpa [EN] using r'
      have BG:=L ((BE.out.trans ((NB.out.trans (NB2.out.mono NB.out.size)).mono BE.out.size)).grown gr hB fun j hj=>(o2.lt j hj).1);have OG:=L o';clear hlit o2 hB o' gr OE;go_wp2_with (first | (at_builtin; refine wpList_append_run rfl _ _ 30 rfl rfl rfl r' ?_) | fail)
      go_roundw
      case rel=>exact⟨q+1,by omega,by go_num,BG.out,by
       rw [FS.out,KN.out];simpa using OG.out⟩
      case measure=>simp [intOf]; omega
    ·obtain rfl:q=n3:=by omega
     have e:es.take q=es:=List.take_of_length_le (by have:=N3.out; omega);rw [e] at OE;obtain⟨Ai,Aj,hv⟩:=(Row.dw OE.out).len;obtain⟨vl,hvl⟩:∃ n,n=(es.filter (wQ (c,d))).length:=⟨_,rfl⟩;rw [<- hvl] at hv;subst hv;have G2:=A2.out.on BE.out;have c4:=G2.cell 4;have g4:=G2.fr 4;have gl:=G2.lt;simp only [ak,au,ah] at c4;clear hvl e a4 hlt hq nb;go_upto_region 13 with fail;have xQ:=dO (k:=4) G2 (J Ai vl Aj);simp only [aP,bg,aQ] at xQ;have q9:dI _ _ _ _:=(aB wr ⟨w.heap.size,4,X⟩ (J Ai vl Aj) _ (show w.heap.size+1+1≠w.heap.size by omega)).trans (A5.out.on BE.out);have OD2:=L (dY (dx OD.out BE.out) w.heap.size 4 (J Ai vl Aj) (by omega));have Nh:=L (dY OE.out w.heap.size 4 (J Ai vl Aj) (by have:=W3.out; omega));have BQ:=L ((B2.out.trans (BE.out.mono B2.out.size)).setCell (p:=⟨w.heap.size,4,X⟩) (aH _) (J Ai vl Aj));clear G2 c4 g4 gl OD OE B2 A2 A3 A5 E3;generalize wr.setCell ⟨w.heap.size,4,X⟩ (J Ai vl Aj)=wq at *;obtain⟨x0,x1,x2,x3,x4,x5⟩:=xQ.eZ;obtain⟨r0,r1,r2,r3,r4,r5⟩:=q9.eZ;obtain⟨t0,t1,t2,t3,t4,t5⟩:=q9.ku;have zz:=q9.lt;have FB:=L (dJ q9 (O U me) (J no nn nc) (J lW tl lX) (J so sn sc) (J Ai vl Aj) (J oo dL oc));have BL:=L (dB (b:=w.heap.size+1+1) BQ.out (by omega) (O U me) (J no nn nc) (J lW tl lX) (J so sn sc) (J Ai vl Aj) (J oo dL oc));have FD:=L (fE OD2.out (w.heap.size+1+1) (by omega) (O U me) (J no nn nc) (J lW tl lX) (J so sn sc) (J Ai vl Aj) (J oo dL oc));have FE:=L (fE Nh.out (w.heap.size+1+1) (by have:=W3.out; omega) (O U me) (J no nn nc) (J lW tl lX) (J so sn sc) (J Ai vl Aj) (J oo dL oc));clear OD2 Nh BQ xQ q9;go_wp2_with fail;obtain⟨v0,v1,v2,v3,v4,v5⟩:=FB.out.eZ;refine aN (v:=.tuple #[bG #[O U me,J no nn nc,J lW tl lX,J so sn sc,J Ai vl Aj,J oo dL oc],aM bf]) (by simp [results,aX,go_sem,v0,v1,v2,v3,v4,v5]) rfl ?_;rw [LB.out];refine⟨⟨(lW,tl,lX),(Ai,vl,Aj),rfl,?_⟩,BL.out⟩;have hI:=HH.out.on BL.out;refine⟨hI.near,⟨_,Row.dw FD.out,?_⟩,hI.seen,⟨_,Row.dw FE.out,?_⟩,hI.own⟩
     ·have hA:=HA2.out.mono fun _ _ h=>h.on BL.out;exact (hA.take _).append (hA.drop _)
     ·have hE:=HE2.out.mono fun _ _ h=>h.on BL.out;exact hE.fil _ _ fun a b h=>by unfold wQ; rw [h.1]
  ·rw [if_neg hpf] at LC;have LB:=L LC;have hne:(par != f)=bf:=by simp [hpf]
   clear LC hpf;obtain⟨x0,x1,x2,x3,x4,x5⟩:=xQ.eZ;obtain⟨r0,r1,r2,r3,r4,r5⟩:=q9.eZ;obtain⟨t0,t1,t2,t3,t4,t5⟩:=q9.ku;have zz:=q9.lt;clear X3a;have FB:=L (dJ q9 (O U me) (J no nn nc) (J ao n2 ac) (J so sn sc) (J eo n3 ec) (J oo dL oc));have BL:=L (dB (b:=w.heap.size+1+1) B1.out (by omega) (O U me) (J no nn nc) (J ao n2 ac) (J so sn sc) (J eo n3 ec) (J oo dL oc));clear X2 X3 X5 xQ q9 HS HE;go_wp2_with fail;obtain⟨v0,v1,v2,v3,v4,v5⟩:=FB.out.eZ;refine aN (v:=.tuple #[bG #[O U me,J no nn nc,J ao n2 ac,J so sn sc,J eo n3 ec,J oo dL oc],aM aL]) (by simp [results,aX,go_sem,v0,v1,v2,v3,v4,v5]) rfl ?_;rw [LB.out];exact⟨⟨(ao,n2,ac),(eo,n3,ec),rfl,HH.out.on BL.out⟩,BL.out⟩
structure Py (b:Br):Prop where
 near:b.near.length<=900
 dM:b.dM.length<=900
 seen:b.seen.length<=900
 ent:b.ent.length<=900
 own:b.own.length<=900
def Ki (B b2 _:Nat) (so:Option bF) (sn sc at_:Nat) (lo hiv:aG) (z:iF) (lt ld:List iF) (i:Nat) (v:aG) (x:aD):Prop :=
 match i with
 | 0=>∃ g,v=J (Y ⟨g,0,X⟩) 0 0/\B<=g/\dI x g #[] 68
 | 1=>v=Z (Y ⟨b2,4,X⟩)
 | 2=>v=J so sn sc
 | 3=>v=O U (at_:Int)
 | 4=>v=lo
 | 5=>jA x B v lt
 | 6=>v=qZ z
 | 7=>jA x B v [z]
 | 8=>jA x B v (lt++[z])
 | 9=>v=Z (Y ⟨b2,4,X⟩)
 | 10=>v=J so sn sc
 | 11=>v=O U (at_:Int)
 | 12=>v=hiv
 | 13=>jA x B v (lt++[z]++ld)
 | 14=>v=Z (Y ⟨b2,4,X⟩)
 | _=>True
noncomputable def XG:Code:=((Tryz.f57.body.bind (eD 8)).getD .skip)
theorem Qi (B b2 b3:Nat) (so:Option bF) (sn sc at_:Nat) (lo hiv:aG) (z:iF) (lt ld:List iF) (i:Nat) (v:aG) (x x':aD) (h:Ki B b2 b3 so sn sc at_ lo hiv z lt ld i v x) (hb:Below x.heap.size x x'):Ki B b2 b3 so sn sc at_ lo hiv z lt ld i v x':=by
 by_cases hi:i<15
 ·rcases (by omega:i=0\/i=1\/i=2\/i=3\/i=4\/i=5\/i=6\/i=7\/i=8\/i=9\/i=10\/i=11\/i=12\/i=13\/i=14) with rfl|rfl|rfl|rfl|rfl|rfl|rfl|rfl|rfl|rfl|rfl|rfl|rfl|rfl|rfl
  ·obtain⟨g,h1,h2,h3⟩:=h;exact⟨g,h1,h2,h3.on hb⟩
  ·exact h
  ·exact h
  ·exact h
  ·exact h
  ·exact dx h hb
  ·exact h
  ·exact dx h hb
  ·exact dx h hb
  ·exact h
  ·exact h
  ·exact h
  ·exact h
  ·exact dx h hb
  ·exact h
 ·unfold Ki
  split <;> first | omega | trivial
theorem Ni (Q:Exit->Act->aD->Prop) (W:aD) (b2 b3:Nat) (me:Int) (y1 y2 y3 y5:aG) (so:Option bF) (sn sc at_:Nat) (l:List iF) (z:iF) (u0 u1 u4 u5 u6 u8 u9 u10 u11 u12 u13 u14 u15 u16 u17 u18 u19 u20 u21 u22 u23 u24 u25 u26 u27 u28 u29 u30 u31 u32 u33 u34 u35 u36 u37 u38 u39 u40 u41 u42 u43 u44 u45 u46 u47 u48 u49 u50 u51 u52 u53 u54 u55 u56 u57 u58 u59 u60 u61 u62 u63 u64 u65 u66 u67 u68 u69 u70 u71 u72 u73 u74 u75 u76 u77 u78 u79 u80 u81 u82 u83 u84 u85 u86 u87 u88 u89 u90 u91 u92 u93 u94 u95 u96 u97 u98 u99 u100 u101 u102 u103 u104 u105 u106 u107 u108 u109 u110 u111 u112 u113 u114:aG)
  (h2:dI W b2 #[O U me,y1,y2,y3,J so sn sc,y5] 33) (hx:∀ x,Below W.heap.size W x->∀ j u,(iG z)[j]?=Y u->x.cell? ((⟨b3,0,X⟩:bF).add j)=Y u) (hs:kC W (J so sn sc) l) (hat:at_<=l.length) (hlen:l.length<=900)
  (hQ:∀ (x:aD) (v97 v98 v99 v100 v101 v102 v103 v104 v105 v106 v107 v108 v109 v110 v111:aG),dI x b2 #[O U me,y1,y2,y3,v110,y5] 33->jA x W.heap.size v110 (l.take at_++[z]++l.drop at_)->(∀ B,B<=b2->Below B W x)->(∀ c cs t,c≠b2->dI W c cs t->dI x c cs t)->(∀ k,k<W.heap.size->k≠b2->x.heap[k]?=W.heap[k]?)->Q .normal ⟨(u0::u1::Z (Y ⟨b2,0,X⟩)::Z (Y ⟨b3,0,X⟩)::u4::u5::u6::O U (at_:Int)::u8::u9::u10::u11::u12::u13::u14::u15::u16::u17::u18::u19::u20::u21::u22::u23::u24::u25::u26::u27::u28::u29::u30::u31::u32::u33::u34::u35::u36::u37::u38::u39::u40::u41::u42::u43::u44::u45::u46::u47::u48::u49::u50::u51::u52::u53::u54::u55::u56::u57::u58::u59::u60::u61::u62::u63::u64::u65::u66::u67::u68::u69::u70::u71::u72::u73::u74::u75::u76::u77::u78::u79::u80::u81::u82::u83::u84::u85::u86::u87::u88::u89::u90::u91::u92::u93::u94::u95::u96::v97::v98::v99::v100::v101::v102::v103::v104::v105::v106::v107::v108::v109::v110::v111::u112::u113::u114::[]).toArray,[]⟩ x) :
  Code.wp aF XG Q ⟨(u0::u1::Z (Y ⟨b2,0,X⟩)::Z (Y ⟨b3,0,X⟩)::u4::u5::u6::O U (at_:Int)::u8::u9::u10::u11::u12::u13::u14::u15::u16::u17::u18::u19::u20::u21::u22::u23::u24::u25::u26::u27::u28::u29::u30::u31::u32::u33::u34::u35::u36::u37::u38::u39::u40::u41::u42::u43::u44::u45::u46::u47::u48::u49::u50::u51::u52::u53::u54::u55::u56::u57::u58::u59::u60::u61::u62::u63::u64::u65::u66::u67::u68::u69::u70::u71::u72::u73::u74::u75::u76::u77::u78::u79::u80::u81::u82::u83::u84::u85::u86::u87::u88::u89::u90::u91::u92::u93::u94::u95::u96::u97::u98::u99::u100::u101::u102::u103::u104::u105::u106::u107::u108::u109::u110::u111::u112::u113::u114::[]).toArray,[]⟩ W:=by
 have HQ:=L hQ;have H2:=L h2;have LX:=L hx;obtain⟨lo,Ao,uw⟩:=tQ nR hs at_ (by omega);obtain⟨hiv,Ap,vO⟩:=oU nR hs (at_) hat;have LT:=L (show (l.take at_).length<=1000 by rw [aU]; omega);have Qa:=L (show (l.take at_).length<=900 by rw [aU]; omega);have LD:=L (show (l.drop (at_)).length<=1000 by rw [List.length_drop]; omega);generalize l.take at_=lt at *;generalize l.drop (at_)=ld at *;have SL:=L Ao;have SH:=L Ap;have RL:=L uw;have RH:=L vO;clear hQ h2 hx hs Ao Ap uw vO hat hlen;have iM:=Qi W.heap.size b2 b3 so sn sc at_ lo hiv z lt ld;unfold XG
 conv=>arg 2; whnf
 have nd:∀ j,(j<97\/112<=j)->∀ i,i<15->(fun i=>97+i) i≠j:=by
  intro j hj i hi h;simp only at h;omega
 refine Rg.fH 16 15 (fun i=>97+i) (fun i=>if i=0 then 5 else if i=5 then 8 else if i=7 then 8 else if i=8 then 13 else 15) (Ki W.heap.size b2 b3 so sn sc at_ lo hiv z lt ld) (by kernel_rfl) (by kernel_rfl) rfl (by decide) (fun i j _ _ h=>by have h2:97+i=97+j:=h; omega) (fun i hi=>by show 97+i<115; omega) ?_ (fun _=>Rg.iY 1 (by kernel_rfl)) (fun kk o h1 h2=>by omega) ?_
 ·intro i o hi ho a x D hnd hc hD hb seen K hK;clear HQ;rcases (by omega:i=0\/i=1\/i=2\/i=3\/i=4\/i=5\/i=6\/i=7\/i=8\/i=9\/i=10\/i=11\/i=12\/i=13\/i=14) with rfl|rfl|rfl|rfl|rfl|rfl|rfl|rfl|rfl|rfl|rfl|rfl|rfl|rfl|rfl
  ·cases ho;exact Rg.dn rfl rfl (Rg.iI a.eval _ 30 0 #[] rfl rfl (by simp [go_sem])) (hK (J (Y ⟨x.heap.size,0,X⟩) 0 0) (x.alloc (aj #[] 68)) ⟨x.heap.size,rfl,hb.size,dK x #[] 68⟩ ((V _ _).alloc hb.size _) fun j u _ _ _ _ _ h=>iM j u _ _ h ((V _ _).alloc (aH _) _))
  ·cases ho;have e2:a.eval (aC 2)=Z (Y ⟨b2,0,X⟩):=seen.kp 2 _ (nd 2 (by omega)) rfl;exact Rg.dn rfl rfl (Rg.dN a.eval _ 33 (aC 2) 4 rfl (by rw [e2]; simp [go_sem])) (hK _ _ rfl (V _ _) fun _ _ _ _ _ _ _ h=>h)
  ·cases ho;have e98:a.eval (aC 98)=Z (Y ⟨b2,4,X⟩):=seen.at_ ⟨1,.data⟩ (by simp) rfl (aK (by decide));have y:=(H2.out.on hb).cell 4;simp only [ak,au,ah] at y;exact Rg.dn rfl rfl (Rg.dW a.eval _ 30 (aC 98) rfl (by rw [e98]; simp [go_sem,y])) (hK _ _ rfl (V _ _) fun _ _ _ _ _ _ _ h=>h)
  ·cases ho;have e7:a.eval (aC 7)=O U (at_:Int):=seen.kp 7 _ (nd 7 (by omega)) rfl;exact Rg.dn rfl rfl (Rg.fQ a.eval _ (aC 7) rfl x) (hK _ _ e7 (V _ _) fun _ _ _ _ _ _ _ h=>h)
  ·cases ho;have e99:a.eval (aC 99)=J so sn sc:=seen.at_ ⟨2,.data⟩ (by simp) rfl (aK (by decide));have e100:a.eval (aC 100)=O U (at_:Int):=seen.at_ ⟨3,.data⟩ (by simp) rfl (aK (by decide));exact Rg.dn rfl rfl (Rg.jK a.eval _ 30 (aC 99) X (Y (aC 100)) X rfl (by show (Instr.sliceAt 30 (a.eval (aC 99)) X (Y (a.eval (aC 100))) X).run aF x=.ok lo x; rw [e99,e100]; exact SL.out x)) (hK _ _ rfl (V _ _) fun _ _ _ _ _ _ _ h=>h)
  ·cases ho;obtain⟨g,q0,hBg,hbx⟩:=seen.at_ ⟨0,.data⟩ (by simp) rfl (aV rfl);have q0:a.eval (aC 97)=J (Y ⟨g,0,X⟩) 0 0:=q0;have e101:a.eval (aC 101)=lo:=seen.at_ ⟨4,.data⟩ (by simp) rfl (aK (by decide));obtain⟨v',x',r,o',gr⟩:=iC nR W.heap.size hbx hBg (RL.out.on hb) LT.out 30;exact Rg.dn rfl rfl (Rg.fJ a.eval _ (aC 97) (aC 101) 30 rfl q0 e101 r) (hK v' x' o' (gr.mono hb.size) fun j u _ _ _ _ _ h=>iM j u _ _ h gr)
  ·cases ho;have e3:a.eval (aC 3)=Z (Y ⟨b3,0,X⟩):=seen.kp 3 _ (nd 3 (by omega)) rfl;exact Rg.dn rfl rfl (Rg.dW a.eval _ 68 (aC 3) rfl (by rw [e3]; exact XC x _ z (LX.out x hb))) (hK _ _ rfl (V _ _) fun _ _ _ _ _ _ _ h=>h)
  ·cases ho;have e103:a.eval (aC 103)=qZ z:=seen.at_ ⟨6,.data⟩ (by simp) rfl (aK (by decide));have hl:=gZ nR x [z] 1 rfl (by simp) (iG z).toArray (by simp [flat,EN]);have hl:jA (x.alloc (aj (iG z).toArray 68)) x.heap.size (J (Y ⟨x.heap.size,0,X⟩) 1 1) [z]:=hl;exact Rg.dn rfl rfl (Rg.iI a.eval _ 30 1 #[(0,aC 103)] rfl (ps:=#[(0,qZ z)]) (by simp [e103]) (by simp [go_sem])) (hK (J (Y ⟨x.heap.size,0,X⟩) 1 1) (x.alloc (aj (iG z).toArray 68)) (dG hl hb.size) ((V _ _).alloc hb.size _) fun j u _ _ _ _ _ h=>iM j u _ _ h ((V _ _).alloc (aH _) _))
  ·cases ho;have o102:jA x W.heap.size (a.eval (aC 102)) (lt):=seen.at_ ⟨5,.data⟩ (by simp) rfl (aV rfl);have o104:jA x W.heap.size (a.eval (aC 104)) ([z]):=seen.at_ ⟨7,.data⟩ (by simp) rfl (aV rfl);have ox:=Row.dw o104;obtain⟨v',x',r,o',gr⟩:=fT nR W.heap.size o102 ox (by have:=LT.out; omega) (by simp) hb.size 30;exact Rg.dn rfl rfl (Rg.fJ a.eval _ (aC 102) (aC 104) 30 rfl rfl rfl r) (hK v' x' o' ((V _ x).grown gr hb.size fun j hj=>(o102.lt j hj).1) fun j u hj dj nl nx ni h=>by
    rcases (by omega:j=0\/j=1\/j=2\/j=3\/j=4\/j=5\/j=6\/j=7\/j=8\/j=9\/j=10\/j=11\/j=12\/j=13\/j=14) with rfl|rfl|rfl|rfl|rfl|rfl|rfl|rfl|rfl|rfl|rfl|rfl|rfl|rfl|rfl
    ·exact absurd rfl (fun _:(0:Nat)=0=>nl (hc 5 _ (hD ⟨5,.data⟩ (by simp) rfl) rfl ⟨0,.data⟩ (by simp) rfl |> fun _=>hD ⟨5,.data⟩ (by simp) rfl))
    ·exact h
    ·exact h
    ·exact h
    ·exact h
    ·exact absurd rfl (fun _:(0:Nat)=0=>nx rfl)
    ·exact h
    ·exact absurd rfl (fun _:(0:Nat)=0=>nx rfl)
    ·exact absurd rfl (fun _:(0:Nat)=0=>ni rfl)
    ·exact h
    ·exact h
    ·exact h
    ·exact h
    ·exact absurd rfl (fun _:(0:Nat)=0=>hnd (hc 13 _ dj rfl ⟨8,.data⟩ (by simp) rfl))
    ·exact h)
  ·cases ho;have e2:a.eval (aC 2)=Z (Y ⟨b2,0,X⟩):=seen.kp 2 _ (nd 2 (by omega)) rfl;exact Rg.dn rfl rfl (Rg.dN a.eval _ 33 (aC 2) 4 rfl (by rw [e2]; simp [go_sem])) (hK _ _ rfl (V _ _) fun _ _ _ _ _ _ _ h=>h)
  ·cases ho;have e106:a.eval (aC 106)=Z (Y ⟨b2,4,X⟩):=seen.at_ ⟨9,.data⟩ (by simp) rfl (aK (by decide));have y:=(H2.out.on hb).cell 4;simp only [ak,au,ah] at y;exact Rg.dn rfl rfl (Rg.dW a.eval _ 30 (aC 106) rfl (by rw [e106]; simp [go_sem,y])) (hK _ _ rfl (V _ _) fun _ _ _ _ _ _ _ h=>h)
  ·cases ho;have e7:a.eval (aC 7)=O U (at_:Int):=seen.kp 7 _ (nd 7 (by omega)) rfl;exact Rg.dn rfl rfl (Rg.fQ a.eval _ (aC 7) rfl x) (hK _ _ e7 (V _ _) fun _ _ _ _ _ _ _ h=>h)
  ·cases ho;have e107:a.eval (aC 107)=J so sn sc:=seen.at_ ⟨10,.data⟩ (by simp) rfl (aK (by decide));have e108:a.eval (aC 108)=O U (at_:Int):=seen.at_ ⟨11,.data⟩ (by simp) rfl (aK (by decide));exact Rg.dn rfl rfl (Rg.jK a.eval _ 30 (aC 107) (Y (aC 108)) X X rfl (by show (Instr.sliceAt 30 (a.eval (aC 107)) (Y (a.eval (aC 108))) X X).run aF x=.ok hiv x; rw [e107,e108]; exact SH.out x)) (hK _ _ rfl (V _ _) fun _ _ _ _ _ _ _ h=>h)
  ·cases ho;have o105:jA x W.heap.size (a.eval (aC 105)) ((lt++[z])):=seen.at_ ⟨8,.data⟩ (by simp) rfl (aV rfl);have e109:a.eval (aC 109)=hiv:=seen.at_ ⟨12,.data⟩ (by simp) rfl (aK (by decide));have ox:kC x (a.eval (aC 109)) ld:=by rw [e109]; exact RH.out.on hb
   obtain⟨v',x',r,o',gr⟩:=fT nR W.heap.size o105 ox (by have:=Qa.out; rw [List.length_append,List.length_singleton]; omega) LD.out hb.size 30;exact Rg.dn rfl rfl (Rg.fJ a.eval _ (aC 105) (aC 109) 30 rfl rfl rfl r) (hK v' x' o' ((V _ x).grown gr hb.size fun j hj=>(o105.lt j hj).1) fun j u hj dj nl nx ni h=>by
    rcases (by omega:j=0\/j=1\/j=2\/j=3\/j=4\/j=5\/j=6\/j=7\/j=8\/j=9\/j=10\/j=11\/j=12\/j=13\/j=14) with rfl|rfl|rfl|rfl|rfl|rfl|rfl|rfl|rfl|rfl|rfl|rfl|rfl|rfl|rfl
    ·exact absurd rfl (fun _:(0:Nat)=0=>nl (hc 8 _ (hD ⟨8,.data⟩ (by simp) rfl) rfl ⟨5,.data⟩ (by simp) rfl))
    ·exact h
    ·exact h
    ·exact h
    ·exact h
    ·exact absurd rfl (fun _:(0:Nat)=0=>nl (hD ⟨8,.data⟩ (by simp) rfl))
    ·exact h
    ·exact absurd rfl (fun _:(0:Nat)=0=>nl (hD ⟨8,.data⟩ (by simp) rfl))
    ·exact absurd rfl (fun _:(0:Nat)=0=>nx rfl)
    ·exact h
    ·exact h
    ·exact h
    ·exact h
    ·exact absurd rfl (fun _:(0:Nat)=0=>ni rfl)
    ·exact h)
  ·cases ho;have e2:a.eval (aC 2)=Z (Y ⟨b2,0,X⟩):=seen.kp 2 _ (nd 2 (by omega)) rfl;exact Rg.dn rfl rfl (Rg.dN a.eval _ 33 (aC 2) 4 rfl (by rw [e2]; simp [go_sem])) (hK _ _ rfl (V _ _) fun _ _ _ _ _ _ _ h=>h)
 ·intro a w' df sz kp ⟨vs,hv⟩ hb;have gr:a.tmps[110]?=Y (vs 13):=(hv 13 (by omega)).1;have gp:a.tmps[111]?=Y (Z (Y ⟨b2,4,X⟩)):=by
   have h:vs 14=Z (Y ⟨b2,4,X⟩):=(hv 14 (by omega)).2 (by decide);rw [<- h];exact (hv 14 (by omega)).1
  have oR:jA w' W.heap.size (vs 13) (lt++[z]++ld):=(hv 13 (by omega)).2 (by decide);generalize vs 13=xR at *;obtain⟨ca,cp,eR⟩:=(Row.dw oR).len;have hbx:=H2.out.on hb;have hblt:=H2.out.lt;have c5:=hbx.cell 4;have f5:=hbx.fr 4;simp only [ak,au,ah] at c5;have hb1:=dO (k:=4) hbx xR;show Rg.fA _ _ _ 1 15 a w';simp only [Rg.fA];refine Rg.fI 30 (aC 111) (aC 110) rfl rfl rfl rfl (Rg.dH gp) (Rg.dH gr) (w':=w'.setCell ⟨b2,4,X⟩ xR) (by rw [eR]; simp [go_sem,c5,f5]) ?_;have q8:∀ j,(j<97\/112<=j)->a.tmps[j]?=(u0::u1::Z (Y ⟨b2,0,X⟩)::Z (Y ⟨b3,0,X⟩)::u4::u5::u6::O U (at_:Int)::u8::u9::u10::u11::u12::u13::u14::u15::u16::u17::u18::u19::u20::u21::u22::u23::u24::u25::u26::u27::u28::u29::u30::u31::u32::u33::u34::u35::u36::u37::u38::u39::u40::u41::u42::u43::u44::u45::u46::u47::u48::u49::u50::u51::u52::u53::u54::u55::u56::u57::u58::u59::u60::u61::u62::u63::u64::u65::u66::u67::u68::u69::u70::u71::u72::u73::u74::u75::u76::u77::u78::u79::u80::u81::u82::u83::u84::u85::u86::u87::u88::u89::u90::u91::u92::u93::u94::u95::u96::u97::u98::u99::u100::u101::u102::u103::u104::u105::u106::u107::u108::u109::u110::u111::u112::u113::u114::[])[j]?:=fun j hj=>(kp j (nd j hj)).trans ak;obtain⟨mid,hmid,rfl⟩:=Rg.fU 97 15 df sz (by simp) q8
  match mid,hmid with
  | [v97,v98,v99,v100,v101,v102,v103,v104,v105,v106,v107,v108,v109,v110,v111],_ =>
   have e1:Y v110=Y xR:=gr;obtain rfl:=aJ e1;refine HQ.out _ v97 v98 v99 v100 v101 v102 v103 v104 v105 v106 v107 v108 v109 v110 v111 ?_ ?_ ?_ ?_ ?_
   ·simpa using hb1
   ·exact dY oR b2 4 _ hblt
   ·exact fun B hB=>(hb.mono (Nat.le_of_lt (Nat.lt_of_le_of_lt hB hblt))).setCell hB _
   ·intro c cs t hc hbc;exact (aB _ _ _ _ hc).trans (hbc.on hb)
   ·intro k hk hne;exact (aB _ _ _ _ hne).trans (hb.block k hk)
end Bk
namespace Av
open Go.RowKit Rw YtkcfgbddlpomgaaGreat.Nm Pr Bk
theorem Jf (l:List eG) (x:eG) (h:∀ (j:Nat) (y:eG),l[j]?=Y y->y≠x):fD l x=-1:=by
 induction l with
 | nil=>rfl
 | cons a l ih =>
  rw [fD,if_neg (h 0 a rfl),ih fun j y hj=>h (j+1) y (by simpa using hj),if_pos rfl]
theorem Qj (l:List eG) (k:Nat) (x:eG) (h:l[k]?=Y x) (hall:∀ (j:Nat) (z:eG),j<k->l[j]?=Y z->z≠x):fD l x=k:=by
 induction l generalizing k with
 | nil=>simp at h
 | cons a l ih =>
  cases k with
  | zero =>
   obtain rfl:a=x:=by simpa using h
   rw [fD,if_pos rfl]
   rfl
  | succ k =>
   have h2:=ih k (by simpa using h) fun j z hj hz=>hall (j+1) z (by omega) (by simpa using hz);rw [fD,if_neg (hall 0 a (by omega) rfl),h2,if_neg (by omega)];omega
theorem Fj (l:List eG) (x:eG):decide ((0:Int)<=fD l x)=decide (x∈l):=by
 induction l with
 | nil=>simp [fD]
 | cons a l ih =>
  have hb:=pJ l x;rw [fD];by_cases h:a=x
  ·rw [if_pos h]; simp [h]
  ·rw [if_neg h];have h':¬ x=a:=fun e=>h e.symm;simp only [List.mem_cons,h',false_or];rw [<- ih];by_cases h2:fD l x=-1
   ·rw [if_pos h2,h2]
   ·rw [if_neg h2];have h3:0<=fD l x:=by omega
    have h4:0<=fD l x+1:=by omega
    simp [h3,h4]
theorem Nj (sv:Sl) (l:List eG) (x:eG) (w:aD) (hs:vM w (dP sv) l) :
  bH aF 111 #[dP sv,lV x] w fun e w'=>e=.returned (O U (fD l x))/\Below w.heap.size w w':=by
 obtain⟨c,d⟩:=x;obtain⟨so,sn,sc⟩:=sv;obtain⟨ao,ac,hv⟩:=hs.len;have hv:J so sn sc=J ao l.length ac:=hv;obtain⟨rfl,rfl,rfl⟩:so=ao/\sn=l.length/\sc=ac:=by simpa using hv
 have h0:=fO w (aj #[O U c,O U d] 38);have h2:=dK w #[O U c,O U d] 38;have B:=L h0;have HS:=L (hs.on h0);have X3:=L h2;have lm:=hs.most;unfold maxLen at lm;obtain⟨n,hn⟩:∃ n,n=l.length:=⟨_,rfl⟩;rw [<- hn] at HS lm ⊢;have HN:=L hn.symm;clear h0 h2 hs hv hn;go_enter Tryz.func111,Tryz.ntmps111;go_upto_region 1 with fail;generalize w.alloc (aj #[O U c,O U d] 38)=W at *;go_wp2
 go_loopw [8] (fun i wr=>∃ k:Nat,k<=n/\i=O U k/\Below W.heap.size W wr/\∀ (j:Nat) (y:eG),j<k->l[j]?=Y y->y≠(c,d)) (fun i _=>n-(intOf i).toNat)
 case atStart=>exact⟨0,aW _,rfl,V _ _,fun j y h=>by omega⟩
 case round =>
  obtain⟨k,hk,rfl,hbe,hall⟩:=hrel;have BE:=L hbe;have AL:=L hall;clear hbe hall;by_cases hlt:k<n
  ·obtain⟨y,hy⟩:∃ y,l[k]?=Y y:=⟨_,ay (by rw [HN.out]; exact hlt)⟩;obtain⟨p,ix,px⟩:=elJ HS.out rfl HN.out hy;have DD:Below W.heap.size W wr.drew:=BE.out.drew;obtain⟨p0,p1⟩:=px wr BE.out;obtain⟨y1,y2⟩:=y;simp only at p0 p1;obtain⟨x0,x1⟩:=(X3.out.on BE.out).cs2;have hw3:IntKind.i64.wrap ((k:Int)+1)=(k:Int)+1:=aO _ (by omega);obtain⟨r,hr⟩:∃ r,(c == y1 && d == y2)=r:=⟨_,rfl⟩;have he:=uF c d y1 y2 r hr;have DB:=L DD;have HY:=L hy;have HR:=L hr;clear px hy hr DD;cases r
   ·go_wp2_with fail
    go_quiet (fail)
    go_wp2
    go_roundw
    case rel=>exact⟨k+1,by omega,by go_num,⟨BE.out.os,BE.out.tape,BE.out.output,BE.out.size,BE.out.block⟩,fun j y' hj h1=>by
     rcases bC j k with h3|h3
     ·exact AL.out j y' h3 h1
     ·obtain rfl:j=k:=by omega
      have e1:=HY.out;rw [h1] at e1;rw [aJ e1];intro e;obtain⟨rfl,rfl⟩:y1=c/\y2=d:=by simpa using e
      have:=HR.out;simp at this⟩
    case measure=>simp [intOf]; omega
   ·go_wp2_with fail
    go_quiet (fail)
    go_wp2;go_ret;have h8:=HR.out;obtain⟨rfl,rfl⟩:c=y1/\d=y2:=by simpa using h8
    exact⟨by rw [Qj l k (c,d) HY.out AL.out]; rfl,B.out.trans (Below.mono ⟨BE.out.os,BE.out.tape,BE.out.output,BE.out.size,BE.out.block⟩ B.out.size)⟩
  ·obtain rfl:k=n:=by omega
   go_wp2;go_ret;have hd:fD l (c,d)=-1:=Jf l (c,d) fun j y hj=>AL.out j y (by rw [<- HN.out]; exact (aR.1 hj).1) hj;exact⟨by rw [hd]; rfl,B.out.trans (BE.out.mono B.out.size)⟩
theorem Dv (sv:Sl) (l:List eG) (x:eG) (w:aD) (hs:vM w (dP sv) l) :
  bH aF 97 #[dP sv,lV x] w fun e w'=>e=.returned (aM (decide (x∈l)))/\Below w.heap.size w w':=by
 have h0:=fO w (aj #[O U x.1,O U x.2] 38);have h2:=dK w #[O U x.1,O U x.2] 38;have C:=Nj sv l x _ (hs.on h0);have R:=L (Fj l x);obtain⟨c,d⟩:=x;obtain⟨so,sn,sc⟩:=sv;have B:=L h0;obtain⟨x0,x1⟩:=h2.cs2;generalize fD l (c,d)=r at *;generalize decide ((c,d)∈l)=s at *;clear h0 h2 hs;go_enter Tryz.func97,Tryz.ntmps97;go_wp2_with fail;refine C.mono ?_;rintro e w1 ⟨rfl,hb⟩;go_wp2;go_ret;exact⟨by have h:=R.out; subst h; rfl,B.out.trans (hb.mono B.out.size)⟩
theorem Nk (me:Int) (nv av ev ov:aG) (sv:Sl) (l:List eG) (x:eG) (w:aD) (hs:vM w (dP sv) l) :
  bH aF 69 #[bG #[O U me,nv,av,dP sv,ev,ov],lV x] w fun e w'=>e=.returned (aM (decide (x∈l)))/\Below w.heap.size w w':=by
 obtain⟨h0,h1,h2⟩:=gQ w #[O U me,nv,av,dP sv,ev,ov] #[O U x.1,O U x.2] 33 38;have C:=Dv sv l x _ (hs.on h0);obtain⟨c,d⟩:=x;obtain⟨so,sn,sc⟩:=sv;have B:=L h0;have b3:=h1.cell 3;obtain⟨x0,x1⟩:=h2.cs2;simp only [ak,au,ah] at b3;generalize decide ((c,d)∈l)=s at *;clear h0 h1 h2 hs;go_enter Tryz.func69,Tryz.ntmps69;go_wp2_with fail;refine C.mono ?_;rintro e w1 ⟨rfl,hb⟩;go_wp2;go_ret;exact⟨rfl,B.out.trans (hb.mono B.out.size)⟩
end Av
namespace Rl
open Go.RowKit Pu Pr
end Rl
namespace Pr
open Go.RowKit Pu
def lM:List Cn->ByteArray->Nat
 | [],_=>0
 | x::r,n=>if Op.bytesLess x.1.toList n.toList=bf then lM r n+1 else 0
theorem Kj:∀ l n,lM l n<=l.length
 | [],n=>aH _
 | x::r,n=>by
  have:=Kj r n;simp only [lM]
  split <;> simp; omega
def oZ (l:List Cn) (n:ByteArray):Bool:=match l[lM l n]? with
 | some x=>decide (x.1=n)
 | none=>aL
def Qk (m:List Cn) (c:Cn):Option (List Cn):=match m[lM m c.1]? with
 | some x=>if x.1=c.1 then (eY x.2 c.2).map fun k=>m.set (lM m c.1) (x.1,k) else Y (m.take (lM m c.1)++c::m.drop (lM m c.1))
 | none=>Y (m.take (lM m c.1)++c::m.drop (lM m c.1))
theorem Dw:∀ (m:List Cn) (c:Cn),qJ m c=Qk m c
 | [],c=>rfl
 | x::r,c=>by
  unfold Qk;simp only [qJ,lM]
  split
  ·rw [Dw r c,Qk];simp only [ah,List.take_succ_cons,List.drop_succ_cons,aQ];cases h:r[lM r c.1]? with
   | none=>simp
   | some y =>
    simp only
    split
    ·simp [Option.map_map,Function.comp_def]
    ·simp
  ·simp
theorem Nl {m:List Cn} {c:Cn} (h:oZ m c.1=bf):∃ x,m[lM m c.1]?=Y x/\x.1=c.1/\qJ m c=(eY x.2 c.2).map fun k=>m.set (lM m c.1) (x.1,k):=by
 rw [Dw];unfold oZ at h;unfold Qk;cases hx:m[lM m c.1]? with
 | none=>rw [hx] at h; cases h
 | some x =>
  rw [hx] at h;have e:x.1=c.1:=by simpa using h
  exact⟨x,rfl,e,by simp only; rw [if_pos e]⟩
theorem Kk {m:List Cn} {c:Cn} (h:oZ m c.1=aL):qJ m c=Y (m.take (lM m c.1)++c::m.drop (lM m c.1)):=by
 rw [Dw];unfold oZ at h;unfold Qk;cases hx:m[lM m c.1]? with
 | none=>rfl
 | some x =>
  rw [hx] at h;have e:¬ x.1=c.1:=by simpa using h
  simp only;rw [if_neg e]
end Pr
namespace Rg
open Go.RowKit
end Rg
namespace Pr
open Go.RowKit Pu Rw
end Pr
end Go.Proofs.YtkcfgbddlpomgaaGreat
