/-
  The two loops of Lea. Conditions as told.
-/
import Derived.Test.YtkcfgbddlpomgaaGreatOQ006
set_option maxRecDepth 100000
set_option maxHeartbeats 64000000
open _root_.Bool renaming false->aj,true->aR
open _root_.Go renaming cell_regrown->U,below_regrown->Z,World->ah,Value->ak,bodyPost_ret->ay,redrawn->aQ
open Go.IntKind renaming i64->L
open Go.Lib renaming hid->J
open Go.Obj renaming cells->O
open Go.Proofs.Tryz renaming prog->aD,results95->aL,results60->aT
open Go.Value renaming slice->D,int->K,bool->au,pointer->aA,agg->aV
open _root_.List renaming getElem?_eq_getElem->X,setIfInBounds_toArray->aB,filter_cons_of_neg->aF,filter_cons_of_pos->aG,getElem?_cons_zero->aH,getElem?_cons_succ->aI,getElem?_toArray->aK,takeWhile_cons->aM,map_cons->aN,set_cons_zero->aO,set_cons_succ->aP
open _root_.Nat renaming le_refl->aC,zero_le->aS,lt_or_ge->aU
open _root_.Option renaming none->V,some->Y
open Option.some renaming inj->aJ
namespace Go.Proofs.YtkcfgbddlpomgaaGreat
namespace Bk
open Go.RowKit Go.Sort Rw YtkcfgbddlpomgaaGreat.Nm Pr
theorem pO (l:List Id) (x:Id) (k:Nat) (hall:∀ (j:Nat) (y:Id),j<k->l[j]?=Y y->eO y x=aR) (hend:k=l.length\/∃ y,l[k]?=Y y/\eO y x=aj):fO l x=k:=by
 unfold fO
 induction l generalizing k with
 | nil =>
  rcases hend with h|⟨y,h,_⟩
  ·rw [h]; rfl
  ·simp at h
 | cons a l ih =>
  cases k with
  | zero =>
   rcases hend with h|⟨y,h,h2⟩
   ·simp at h
   ·obtain rfl:a=y:=by simpa using h
    rw [aM,h2]
    rfl
  | succ k =>
   have h0:=hall 0 a (by omega) rfl;rw [aM,h0];simp only [if_true,List.length_cons];rw [ih k (fun j y hj hy=>hall (j+1) y (by omega) (by simpa using hy)) (by
    rcases hend with h|⟨y,h,h2⟩
    ·exact Or.inl (by simpa using h)
    ·exact Or.inr ⟨y,by simpa using h,h2⟩)]
noncomputable def Yt:Code:=((Tryz.f60.body.bind (jr 0)).getD .skip)
theorem S9 (Q:Exit->Act->ah->Prop) (W:ah) (b2 b3:Nat) (me c d:Int) (y1 y2 y4 y5 p3 q3:ak) (so:Option Addr) (n sc:Nat) (l:List eT) (u0 u1 u4 u5 u7 u8 u9 u10 u11 u12 u13 u14 u15 u16 u17 u18 u19 u20 u21 u22 u23 u24 u25 u26 u27 u28 u29 u30 u31 u32 u33 u34 u35 u36 u37 u38 u39 u40 u41 u42 u43 u44 u45 u46 u47 u48 u49 u50 u51 u52 u53 u54 u55 u56 u57 u58 u59 u60 u61 u62 u63 u64 u65 u66 u67 u68 u69 u70 u71 u72 u73 u74 u75 u76 u77 u78:ak)
  (h2:dN W b2 #[K L me,y1,y2,D so n sc,y4,y5] 33) (h3:dN W b3 #[K L c,K L d,p3,q3] 53) (hs:xP W (D so n sc) l) (hn:n=l.length) (hm:n<=1000000)
  (hQ:∀ (wr:ah) (v12 v13 v14 v15 v16 v17 v18 v19 v20 v21 v22 v23 v24 v25 v26 v27 v28:ak),Below W.heap.size W wr->Q .normal ⟨(u0::u1::aA (Y ⟨b2,0,V⟩)::aA (Y ⟨b3,0,V⟩)::u4::u5::K L (fO l (c,d):Nat)::u7::u8::u9::u10::u11::v12::v13::v14::v15::v16::v17::v18::v19::v20::v21::v22::v23::v24::v25::v26::v27::v28::u29::u30::u31::u32::u33::u34::u35::u36::u37::u38::u39::u40::u41::u42::u43::u44::u45::u46::u47::u48::u49::u50::u51::u52::u53::u54::u55::u56::u57::u58::u59::u60::u61::u62::u63::u64::u65::u66::u67::u68::u69::u70::u71::u72::u73::u74::u75::u76::u77::u78::[]).toArray,[]⟩ wr) :
  Code.wp aD Yt Q ⟨(u0::u1::aA (Y ⟨b2,0,V⟩)::aA (Y ⟨b3,0,V⟩)::u4::u5::K L 0::u7::u8::u9::u10::u11::u12::u13::u14::u15::u16::u17::u18::u19::u20::u21::u22::u23::u24::u25::u26::u27::u28::u29::u30::u31::u32::u33::u34::u35::u36::u37::u38::u39::u40::u41::u42::u43::u44::u45::u46::u47::u48::u49::u50::u51::u52::u53::u54::u55::u56::u57::u58::u59::u60::u61::u62::u63::u64::u65::u66::u67::u68::u69::u70::u71::u72::u73::u74::u75::u76::u77::u78::[]).toArray,[]⟩ W:=by
 have HQ:=J hQ;have H2:=J h2;have H3:=J h3;have HS:=J hs;have HN:=J hn;clear hQ h2 h3 hs hn
 conv=>arg 2; whnf
 go_wp2
 go_loopw [6] (fun i wr=>∃ k:Nat,k<=n/\i=K L k/\Below W.heap.size W wr/\∀ (j:Nat) (y:Id),j<k->l[j]?=Y y->eO y (c,d)=aR) (fun i _=>n-(intOf i).toNat)
 case atStart=>exact⟨0,aS _,rfl,Below.refl _ _,fun j y h=>by omega⟩
 case round =>
  obtain⟨k,hk,rfl,hbe,hall⟩:=hrel;have BE:=J hbe;have AL:=J hall;clear hbe hall;have q0:=U (show wr.cell? ⟨b2,3,V⟩=Y (D so n sc) from (H2.out.on BE.out).cell 3);have r0:=U (show wr.cell? ⟨b3,0,V⟩=Y (K L c) from (H3.out.on BE.out).cell 0);have r1:=U (show wr.cell? ⟨b3,1,V⟩=Y (K L d) from (H3.out.on BE.out).cell 1);have hw3:IntKind.i64.wrap ((k:Int)+1)=(k:Int)+1:=IntWalk.i64_in _ (by omega);by_cases hlt:k<n
  ·obtain⟨y,hy⟩:∃ y,l[k]?=Y y:=⟨_,X (by rw [<- HN.out]; exact hlt)⟩;obtain⟨p,ix,px⟩:=elJ HS.out rfl HN.out.symm hy;have zk:=px wr BE.out;obtain⟨y1,y2⟩:=y;simp only at zk;have p0:=U zk.1;have p1:=U zk.2;have yT:decide ((k:Int)<(n:Int))=aR:=decide_eq_true (by omega);have CG:decide (k<n)=aR:=decide_eq_true hlt;obtain⟨r,hr⟩:∃ r,eO (y1,y2) (c,d)=r:=⟨_,rfl⟩;have LS:=J (fun d' os=>Calls.regrown_of (d:=d') (os:=os) ((tO (y1,y2) (c,d) (grow (aQ wr d') os)).mono fun _ _ h=>⟨by rw [h.1,hr],h.2⟩));have HY:=J (show l[k]?=Y (y1,y2) by exact hy);have HR:=J hr;clear px zk hy hr;cases r
   ·go_wp2_with fail;refine wp_region_quiet_below (by kernel_rfl) (by kernel_rfl) ?_
    repeat (go_big_quiet_step (first | (with_reducible exact LS.out _ _)))
    refine wpQuiet_nil ?_;intro _ hw';obtain⟨⟨dq,osq⟩,hw''⟩:=hw';subst hw'';have Z6:=Z wr dq osq;have HF:=J (fun v12 v13 v14 v15 v16 v17 v18 v19 v20 v21 v22 v23 v24 v25 v26 v27 v28=>HQ.out (grow (aQ wr dq) osq) v12 v13 v14 v15 v16 v17 v18 v19 v20 v21 v22 v23 v24 v25 v26 v27 v28 (BE.out.trans (Z6.mono BE.out.size)));rw [pO l (c,d) k AL.out (Or.inr ⟨_,HY.out,HR.out⟩)] at HF;clear ix HQ q0 r0 r1 LS yT CG p0 p1;go_wp2;exact HF.out _ _ _ _ _ _ _ _ _ _ _ _ _ _ _ _ _
   ·go_wp2_with fail;refine wp_region_quiet_below (by kernel_rfl) (by kernel_rfl) ?_
    repeat (go_big_quiet_step (first | (with_reducible exact LS.out _ _)))
    refine wpQuiet_nil ?_;intro _ hw';obtain⟨⟨dq,osq⟩,hw''⟩:=hw';subst hw'';have Z6:=J (Z wr dq osq);clear ix q0 r0 r1 LS yT CG p0 p1;go_wp2
    go_roundw
    case rel=>exact⟨k+1,by omega,by go_num,BE.out.trans (Z6.out.mono BE.out.size),fun j y' hj h1=>by
     rcases aU j k with h3|h3
     ·exact AL.out j y' h3 h1
     ·obtain rfl:j=k:=by omega
      have e1:=HY.out;rw [h1] at e1;rw [aJ e1];exact HR.out⟩
    case measure=>simp [intOf]; omega
  ·obtain rfl:k=n:=by omega
   have yT:decide ((k:Int)<(k:Int))=aj:=by simp
   have CG:decide (k<k)=aj:=by simp
   go_wp2_with fail;refine wp_region_quiet_below (by kernel_rfl) (by kernel_rfl) ?_
   repeat (go_big_quiet_step (fail))
   refine wpQuiet_nil ?_;intro _ hw';obtain⟨⟨dq,osq⟩,hw''⟩:=hw';subst hw'';have Z6:=Z wr dq osq;have HF:=J (fun v12 v13 v14 v15 v16 v17 v18 v19 v20 v21 v22 v23 v24 v25 v26 v27 v28=>HQ.out (grow (aQ wr dq) osq) v12 v13 v14 v15 v16 v17 v18 v19 v20 v21 v22 v23 v24 v25 v26 v27 v28 (BE.out.trans (Z6.mono BE.out.size)));rw [pO l (c,d) k AL.out (Or.inl (by simpa using HN.out))] at HF;clear HQ q0 r0 r1 yT CG;go_wp2;exact HF.out _ _ _ _ _ _ _ _ _ _ _ _ _ _ _ _ _
noncomputable def Yu:Code:=((Tryz.f60.body.bind (jr 2)).getD .skip)
theorem Ta (Q:Exit->Act->ah->Prop) (W:ah) (b2 b3:Nat) (me c d:Int) (y1 y3 y4 y5 p3 q3:ak) (so:Option Addr) (n sc:Nat) (l:List kr) (u0 u1 u4 u5 u7 u8 u9 u10 u11 u12 u13 u14 u15 u16 u17 u18 u19 u20 u21 u22 u23 u24 u25 u26 u27 u28 u29 u30 u31 u32 u33 u34 u35 u36 u37 u38 u39 u40 u41 u42 u43 u44 u45 u46 u47 u48 u49 u50 u51 u52 u53 u54 u55 u56 u57 u58 u59 u60 u61 u62 u63 u64 u65 u66 u67 u68 u69 u70 u71 u72 u73 u74 u75 u76 u77 u78:ak)
  (h2:dN W b2 #[K L me,y1,D so n sc,y3,y4,y5] 33) (h3:dN W b3 #[K L c,K L d,p3,q3] 53) (hs:wB W (D so n sc) l) (hn:n=l.length) (hm:n<=1000000)
  (hQ:∀ (wr:ah) (v45 v46 v47 v48 v49 v50 v51 v52 v53 v54 v55 v56 v57 v58 v59 v60 v61 v62:ak),Below W.heap.size W wr->Q .normal ⟨(u0::u1::aA (Y ⟨b2,0,V⟩)::aA (Y ⟨b3,0,V⟩)::u4::u5::K L (fO (l.map fun y=>(y.1,y.2.1)) (c,d):Nat)::u7::u8::u9::u10::u11::u12::u13::u14::u15::u16::u17::u18::u19::u20::u21::u22::u23::u24::u25::u26::u27::u28::u29::u30::u31::u32::u33::u34::u35::u36::u37::u38::u39::u40::u41::u42::u43::u44::v45::v46::v47::v48::v49::v50::v51::v52::v53::v54::v55::v56::v57::v58::v59::v60::v61::v62::u63::u64::u65::u66::u67::u68::u69::u70::u71::u72::u73::u74::u75::u76::u77::u78::[]).toArray,[]⟩ wr) :
  Code.wp aD Yu Q ⟨(u0::u1::aA (Y ⟨b2,0,V⟩)::aA (Y ⟨b3,0,V⟩)::u4::u5::K L 0::u7::u8::u9::u10::u11::u12::u13::u14::u15::u16::u17::u18::u19::u20::u21::u22::u23::u24::u25::u26::u27::u28::u29::u30::u31::u32::u33::u34::u35::u36::u37::u38::u39::u40::u41::u42::u43::u44::u45::u46::u47::u48::u49::u50::u51::u52::u53::u54::u55::u56::u57::u58::u59::u60::u61::u62::u63::u64::u65::u66::u67::u68::u69::u70::u71::u72::u73::u74::u75::u76::u77::u78::[]).toArray,[]⟩ W:=by
 have HQ:=J hQ;have H2:=J h2;have H3:=J h3;have HS:=J hs;have HN:=J hn;clear hQ h2 h3 hs hn
 conv=>arg 2; whnf
 go_wp2
 go_loopw [6] (fun i wr=>∃ k:Nat,k<=n/\i=K L k/\Below W.heap.size W wr/\∀ (j:Nat) (y:Id),j<k->(l.map fun y=>(y.1,y.2.1))[j]?=Y y->eO y (c,d)=aR) (fun i _=>n-(intOf i).toNat)
 case atStart=>exact⟨0,aS _,rfl,Below.refl _ _,fun j y h=>by omega⟩
 case round =>
  obtain⟨k,hk,rfl,hbe,hall⟩:=hrel;have BE:=J hbe;have AL:=J hall;clear hbe hall;have q0:=U (show wr.cell? ⟨b2,2,V⟩=Y (D so n sc) from (H2.out.on BE.out).cell 2);have r0:=U (show wr.cell? ⟨b3,0,V⟩=Y (K L c) from (H3.out.on BE.out).cell 0);have r1:=U (show wr.cell? ⟨b3,1,V⟩=Y (K L d) from (H3.out.on BE.out).cell 1);have hw3:IntKind.i64.wrap ((k:Int)+1)=(k:Int)+1:=IntWalk.i64_in _ (by omega);by_cases hlt:k<n
  ·obtain⟨y,hy⟩:∃ y,l[k]?=Y y:=⟨_,X (by rw [<- HN.out]; exact hlt)⟩;obtain⟨p,ix,px⟩:=Yh HS.out rfl HN.out.symm hy;have zk:=px wr BE.out;obtain⟨y1,y2,⟨y3o,y3n,y3c⟩,y4⟩:=y;simp only at zk;have p0:=U zk.1;have p1:=U zk.2.1;have yT:decide ((k:Int)<(n:Int))=aR:=decide_eq_true (by omega);have CG:decide (k<n)=aR:=decide_eq_true hlt;obtain⟨r,hr⟩:∃ r,eO (y1,y2) (c,d)=r:=⟨_,rfl⟩;have LS:=J (fun d' os=>Calls.regrown_of (d:=d') (os:=os) ((tO (y1,y2) (c,d) (grow (aQ wr d') os)).mono fun _ _ h=>⟨by rw [h.1,hr],h.2⟩));have HY:=J (show (l.map fun y=>(y.1,y.2.1))[k]?=Y (y1,y2) by rw [List.getElem?_map,hy]; rfl);have HR:=J hr;clear px zk hy hr;cases r
   ·go_wp2_with fail;refine wp_region_quiet_below (by kernel_rfl) (by kernel_rfl) ?_
    repeat (go_big_quiet_step (first | (with_reducible exact LS.out _ _)))
    refine wpQuiet_nil ?_;intro _ hw';obtain⟨⟨dq,osq⟩,hw''⟩:=hw';subst hw'';have Z6:=Z wr dq osq;have HF:=J (fun v45 v46 v47 v48 v49 v50 v51 v52 v53 v54 v55 v56 v57 v58 v59 v60 v61 v62=>HQ.out (grow (aQ wr dq) osq) v45 v46 v47 v48 v49 v50 v51 v52 v53 v54 v55 v56 v57 v58 v59 v60 v61 v62 (BE.out.trans (Z6.mono BE.out.size)));rw [pO (l.map fun y=>(y.1,y.2.1)) (c,d) k AL.out (Or.inr ⟨_,HY.out,HR.out⟩)] at HF;clear ix HQ q0 r0 r1 LS yT CG p0 p1;go_wp2;exact HF.out _ _ _ _ _ _ _ _ _ _ _ _ _ _ _ _ _ _
   ·go_wp2_with fail;refine wp_region_quiet_below (by kernel_rfl) (by kernel_rfl) ?_
    repeat (go_big_quiet_step (first | (with_reducible exact LS.out _ _)))
    refine wpQuiet_nil ?_;intro _ hw';obtain⟨⟨dq,osq⟩,hw''⟩:=hw';subst hw'';have Z6:=J (Z wr dq osq);clear ix q0 r0 r1 LS yT CG p0 p1;go_wp2
    go_roundw
    case rel=>exact⟨k+1,by omega,by go_num,BE.out.trans (Z6.out.mono BE.out.size),fun j y' hj h1=>by
     rcases aU j k with h3|h3
     ·exact AL.out j y' h3 h1
     ·obtain rfl:j=k:=by omega
      have e1:=HY.out;rw [h1] at e1;rw [aJ e1];exact HR.out⟩
    case measure=>simp [intOf]; omega
  ·obtain rfl:k=n:=by omega
   have yT:decide ((k:Int)<(k:Int))=aj:=by simp
   have CG:decide (k<k)=aj:=by simp
   go_wp2_with fail;refine wp_region_quiet_below (by kernel_rfl) (by kernel_rfl) ?_
   repeat (go_big_quiet_step (fail))
   refine wpQuiet_nil ?_;intro _ hw';obtain⟨⟨dq,osq⟩,hw''⟩:=hw';subst hw'';have Z6:=Z wr dq osq;have HF:=J (fun v45 v46 v47 v48 v49 v50 v51 v52 v53 v54 v55 v56 v57 v58 v59 v60 v61 v62=>HQ.out (grow (aQ wr dq) osq) v45 v46 v47 v48 v49 v50 v51 v52 v53 v54 v55 v56 v57 v58 v59 v60 v61 v62 (BE.out.trans (Z6.mono BE.out.size)));rw [pO (l.map fun y=>(y.1,y.2.1)) (c,d) k AL.out (Or.inl (by simpa using HN.out))] at HF;clear HQ q0 r0 r1 yT CG;go_wp2;exact HF.out _ _ _ _ _ _ _ _ _ _ _ _ _ _ _ _ _ _
def fV {α:Type} (l:List α) (k:Nat) (x:α):List α:=l.take k++[x]++l.drop k
def fJ (b:Br) (a:Ad):Br×Bool:=if a.id∈b.seen then (b,aj) else ({ b with seen:=fV b.seen (fO b.seen a.id) a.id,dQ:=fV b.dQ (fO (b.dQ.map Ad.id) a.id) a },aR)
abbrev gY (W:ah) (b:Nat) (a0 a1 a2 a3 a4 a5:ak):ah:=(((((W.setCell ⟨b,0,V⟩ a0).setCell ⟨b,1,V⟩ a1).setCell ⟨b,2,V⟩ a2).setCell ⟨b,3,V⟩ a3).setCell ⟨b,4,V⟩ a4).setCell ⟨b,5,V⟩ a5
theorem dM {W:ah} {b:Nat} {t:TypeId} {z0 z1 z2 z3 z4 z5:ak} (h:dN W b #[z0,z1,z2,z3,z4,z5] t) (a0 a1 a2 a3 a4 a5:ak):dN (gY W b a0 a1 a2 a3 a4 a5) b #[a0,a1,a2,a3,a4,a5] t:=by
 have h2:=dR (k:=5) (dR (k:=4) (dR (k:=3) (dR (k:=2) (dR (k:=1) (dR (k:=0) h a0) a1) a2) a3) a4) a5;simp only [aB,aO,aP] at h2;exact h2
theorem dI {w W:ah} {B b:Nat} (h:Below B w W) (hb:B<=b) (a0 a1 a2 a3 a4 a5:ak):Below B w (gY W b a0 a1 a2 a3 a4 a5) :=
 (((((h.setCell hb _).setCell hb _).setCell hb _).setCell hb _).setCell hb _).setCell hb _
theorem dL (W:ah) (b:Nat) (a0 a1 a2 a3 a4 a5:ak) (j:Nat) (hj:j≠b):(gY W b a0 a1 a2 a3 a4 a5).heap[j]?=W.heap[j]?:=by
 have h:∀ (W:ah) (k:Nat) (x:ak),(W.setCell ⟨b,k,V⟩ x).heap[j]?=W.heap[j]?:=fun W k x=>RowKit.Below.heap_setCell W _ x _ hj;unfold gY;rw [h,h,h,h,h,h]
theorem fC {α:Type} {E:Ek α} {W:ah} {B:Nat} {v:ak} {l:List α} (h:Own E W B v l) (b:Nat) (hb:b<B) (a0 a1 a2 a3 a4 a5:ak):Own E (gY W b a0 a1 a2 a3 a4 a5) B v l :=
 dP (dP (dP (dP (dP (dP h b 0 a0 hb) b 1 a1 hb) b 2 a2 hb) b 3 a3 hb) b 4 a4 hb) b 5 a5 hb
theorem gX (w:ah) (c d e:Array ak) (r s t:TypeId):Below w.heap.size w (((w.alloc (O c r)).alloc (O d s)).alloc (O e t))/\dN (((w.alloc (O c r)).alloc (O d s)).alloc (O e t)) w.heap.size c r/\dN (((w.alloc (O c r)).alloc (O d s)).alloc (O e t)) (w.heap.size+1) d s/\dN (((w.alloc (O c r)).alloc (O d s)).alloc (O e t)) (w.heap.size+1+1) e t:=by
 refine⟨(((Below.refl _ _).alloc (aC _) _).alloc (by simp) _).alloc (by simp; omega) _,((dO w c r).more _).more _,?_,?_⟩
 ·have h:=(dO (w.alloc (O c r)) d s).more (O e t);simpa using h
 ·have h:=dO ((w.alloc (O c r)).alloc (O d s)) e t;simpa using h
theorem Tc {W:ah} {b:Nat} {c d:Int} {p q:ak} (h:dN W b #[K L c,K L d,p,q] 53):∀ x,Below W.heap.size W x->∀ j u,(jQ (c,d))[j]?=Y u->x.cell? ((⟨b,0,V⟩:Addr).add j)=Y u:=by
 intro x hb j u hj;rw [lS,(h.on hb).cell]
 match j with
 | 0=>exact hj
 | 1=>exact hj
 | j+2=>simp at hj
theorem PD {W:ah} {b:Nat} {c d q:Int} {p:Sl} (h:dN W b #[K L c,K L d,dU p,K L q] 53):∀ x,Below W.heap.size W x->∀ j u,(cellsD (c,d,p,q))[j]?=Y u->x.cell? ((⟨b,0,V⟩:Addr).add j)=Y u:=by
 intro x hb j u hj;rw [lS,(h.on hb).cell]
 match j with
 | 0=>exact hj
 | 1=>exact hj
 | 2=>exact hj
 | 3=>exact hj
 | j+4=>simp at hj
theorem zS {W:ah} {l:List kr} {m:List Ad} (h:eH (vM W) l m):(l.map fun y=>(y.1,y.2.1))=m.map Ad.id:=by
 induction h with
 | nil=>rfl
 | cons x t ih=>rw [aN,aN,ih,x.1]
theorem mK (l:List Id) (x:Id):fO l x<=l.length:=by
 unfold fO;exact (List.takeWhile_sublist _).length_le
theorem Td {α:Type} {E:Ek α} {W:ah} {B:Nat} {v:ak} {l:List α} {b:Nat} (h:Own E W B v l) (hb:b<B):v.ownBlock=V\/v.ownBlock≠Y b:=by
 cases hv:v.ownBlock with
 | none=>exact Or.inl rfl
 | some j =>
  refine Or.inr fun e=>?_;injection e with e
  have:=(h.lt j hv).1;omega
theorem Ku (b:Br) (nv av sv ev ov:Sl) (z:kr) (a:Ad) (w:ah) (h:iI w b nv av sv ev ov) (hz:vM w z a) (l1:b.seen.length<=900) (l2:b.dQ.length<=900) :
  Calls aD 60 #[mJ b.me nv av sv ev ov,nR z] w fun e w'=>(∃ zx He:Sl,e=.returned (.tuple #[mJ b.me nv zx He ev ov,au (fJ b a).2])/\iI w' (fJ b a).1 nv zx He ev ov)/\Below w.heap.size w w':=by
 obtain⟨no,nn,nc⟩:=nv;obtain⟨ao,an,ac⟩:=av;obtain⟨so,sn,sc⟩:=sv;obtain⟨eo,en,ec⟩:=ev;obtain⟨oo,eB,oc⟩:=ov;obtain⟨c,d,⟨po,pn,pc⟩,par⟩:=z;obtain⟨xs,hx1,hx2⟩:=h.dQ;have HZ:=J hz;have IDS:=J (zS hx2);have XL:=J (show xs.length<=900 by rw [hx2.len]; exact l2);have hs:=h.seen;have HA2:=J hx2;obtain⟨q1,q2,hq⟩:=hs.len;obtain⟨rfl,rfl,rfl⟩:so=q1/\sn=b.seen.length/\sc=q2:=by
  have:D so sn sc=D q1 b.seen.length q2:=hq;simpa using this
 obtain⟨q1,q2,hq⟩:=hx1.len;obtain⟨rfl,rfl,rfl⟩:ao=q1/\an=xs.length/\ac=q2:=by
  have:D ao an ac=D q1 xs.length q2:=hq;simpa using this
 have SN:=Pw b.me (D no nn nc) (D ao xs.length ac) (D eo en ec) (D oo eB oc) (so,b.seen.length,sc) b.seen (c,d);have HH:=J h;obtain⟨h0,h1,h2,h3⟩:=gX w #[K L b.me,D no nn nc,D ao xs.length ac,D so b.seen.length sc,D eo en ec,D oo eB oc] #[K L c,K L d,D po pn pc,K L par] #[K L 0,D V 0 0,D V 0 0,D V 0 0,D V 0 0,D V 0 0] 33 53 33;obtain⟨n1,hn1⟩:∃ n,n=b.seen.length:=⟨_,rfl⟩;obtain⟨n2,hn2⟩:∃ n,n=xs.length:=⟨_,rfl⟩;have HD:=hx1;simp only [<- hn1,<- hn2] at h0 h1 h2 h3 hs HD HH SN ⊢;have B0:=J h0;have X2:=J h1;have X3:=J h2;have X4:=J h3;have HS:=J hs;have HD:=J HD;have N1:=J hn1;have N2:=J hn2;have L1:=J l1;have AI:=J hz.1;have hme:∃ me,me=b.me:=⟨_,rfl⟩;obtain⟨me,hme⟩:=hme;simp only [<- hme] at X2 B0 X3 X4 SN ⊢;clear h0 h1 h2 h3 hs hx1 hx2 h hz hq hn1 hn2 l1 l2 hme;go_enter Tryz.func60,Tryz.ntmps60;go_upto_region 1 with fail;generalize (((w.alloc (O #[K L me,D no nn nc,D ao n2 ac,D so n1 sc,D eo en ec,D oo eB oc] 33)).alloc (O #[K L c,K L d,D po pn pc,K L par] 53)).alloc (O #[K L 0,D V 0 0,D V 0 0,D V 0 0,D V 0 0,D V 0 0] 33))=W at *;have SW:=J (SN W (HS.out.on B0.out));clear SN;obtain⟨x0,x1,x2,x3,x4,x5⟩:=X2.out.fB;obtain⟨y0,y1,y2,y3⟩:=X3.out.Ke;cases hsn:decide ((c,d)∈b.seen) with
 | true =>
  have LB:=J (show fJ b a=(b,aj) from if_pos (by rw [<- AI.out]; exact of_decide_eq_true hsn));rw [hsn] at SW;clear hsn;go_wp2_with fail;refine SW.out.mono ?_;rintro e1 w1 ⟨rfl,hb⟩;have B1:=J (B0.out.trans (hb.mono B0.out.size));have uW:=X2.out.on hb;have Kv:=X4.out.on hb;clear SW x0 x1 x2 x3 x4 x5 y0 y1 y2 y3;obtain⟨x0,x1,x2,x3,x4,x5⟩:=uW.fB;obtain⟨r0,r1,r2,r3,r4,r5⟩:=Kv.fB;obtain⟨t0,t1,t2,t3,t4,t5⟩:=Kv.kJ;have zz:=Kv.lt;have FB:=J (dM Kv (K L me) (D no nn nc) (D ao n2 ac) (D so n1 sc) (D eo en ec) (D oo eB oc));have BL:=J (dI (b:=w.heap.size+1+1) B1.out (by omega) (K L me) (D no nn nc) (D ao n2 ac) (D so n1 sc) (D eo en ec) (D oo eB oc));clear hb X2 X3 X4 uW Kv HS HD;go_wp2_with fail;obtain⟨v0,v1,v2,v3,v4,v5⟩:=FB.out.fB;refine ay (v:=.tuple #[aV #[K L me,D no nn nc,D ao n2 ac,D so n1 sc,D eo en ec,D oo eB oc],au aj]) (by simp [results,aT,go_sem,v0,v1,v2,v3,v4,v5]) rfl ?_;rw [LB.out];exact⟨⟨(ao,n2,ac),(so,n1,sc),rfl,HH.out.on BL.out⟩,BL.out⟩
 | false =>
  have LB:=J (show fJ b a=({ b with seen:=fV b.seen (fO b.seen a.id) a.id,dQ:=fV b.dQ (fO (b.dQ.map Ad.id) a.id) a },aR) from if_neg (by rw [<- AI.out]; exact of_decide_eq_false hsn));rw [hsn] at SW;clear hsn;go_wp2_with fail;refine SW.out.mono ?_;rintro e1 w1 ⟨rfl,hb⟩;have B1:=J (B0.out.trans (hb.mono B0.out.size));have Y2:=J (X2.out.on hb);have Y3:=J (X3.out.on hb);have Y4:=J (X4.out.on hb);have S1:=J (HS.out.on B1.out);clear SW hb X2 X3 X4 HS x0 x1 x2 x3 x4 x5 y0 y1 y2 y3
  go_upto_block 0 with (fail)
  refine S9 _ w1 w.heap.size (w.heap.size+1) me c d _ _ _ _ _ _ so n1 sc b.seen _ _ _ _ _ _ _ _ _ _ _ _ _ _ _ _ _ _ _ _ _ _ _ _ _ _ _ _ _ _ _ _ _ _ _ _ _ _ _ _ _ _ _ _ _ _ _ _ _ _ _ _ _ _ _ _ _ _ _ _ _ _ _ _ _ _ _ _ _ _ _ _ _ _ _ _ Y2.out Y3.out S1.out N1.out (by have:=L1.out; have:=N1.out; omega) ?_;intro wr v12 v13 v14 v15 v16 v17 v18 v19 v20 v21 v22 v23 v24 v25 v26 v27 v28 hb;have B2:=J (B1.out.trans (hb.mono B1.out.size));have Z2:=J (Y2.out.on hb);have Z3:=J (Y3.out.on hb);have Z4:=J (Y4.out.on hb);have S2:=J (S1.out.on hb);clear hb B1 Y2 Y3 Y4 S1;go_upto_region 6 with fail;refine ahS _ wr w.heap.size (w.heap.size+1) me _ _ _ _ so n1 sc (fO b.seen (c,d)) b.seen (c,d) _ _ _ _ _ _ _ _ _ _ _ _ _ _ _ _ _ _ _ _ _ _ _ _ _ _ _ _ _ _ _ _ _ _ _ _ _ _ _ _ _ _ _ _ _ _ _ _ _ _ _ _ _ _ _ _ _ _ _ _ _ _ _ _ _ _ _ _ _ _ _ _ _ _ _ _ Z2.out (Tc Z3.out) S2.out (mK _ _) L1.out ?_;intro xw1 v29 v30 v31 v32 v33 v34 v35 v36 v37 v38 v39 v40 v41 v42 v43 v44 hbx ho hbl hoth hblk;obtain⟨sd1,sd2,hsv⟩:=(Row.dH ho).len;obtain⟨sl,hsl⟩:∃ n,n=(b.seen.take (fO b.seen (c,d))++[(c,d)]++b.seen.drop (fO b.seen (c,d))).length:=⟨_,rfl⟩;rw [<- hsl] at hsv;subst hsv;have B3:=J (B2.out.trans (hbl _ (aC _)));have A2:=J hbx;have A3:=J (hoth _ _ _ (by omega) Z3.out);have A4:=J (hoth _ _ _ (by omega) Z4.out);have OS:=J (dJ ho (show w.heap.size+3<=wr.heap.size by have:=Z4.out.lt; omega));have D3:=J (HD.out.on B3.out);clear hbx ho hbl hoth hblk hsl B2 Z2 Z3 Z4 S2 HD
  go_upto_block 2 with (fail)
  refine Ta _ xw1 w.heap.size (w.heap.size+1) me c d _ _ _ _ _ _ ao n2 ac xs _ _ _ _ _ _ _ _ _ _ _ _ _ _ _ _ _ _ _ _ _ _ _ _ _ _ _ _ _ _ _ _ _ _ _ _ _ _ _ _ _ _ _ _ _ _ _ _ _ _ _ _ _ _ _ _ _ _ _ _ _ _ _ _ _ _ _ _ _ _ _ _ _ _ _ _ A2.out A3.out D3.out N2.out (by have:=XL.out; have:=N2.out; omega) ?_;intro ws v45 v46 v47 v48 v49 v50 v51 v52 v53 v54 v55 v56 v57 v58 v59 v60 v61 v62 hb;have B4:=J (B3.out.trans (hb.mono B3.out.size));have C2:=J (A2.out.on hb);have C3:=J (A3.out.on hb);have C4:=J (A4.out.on hb);have O4:=J (dG OS.out hb);have D4:=J (D3.out.on hb);clear hb B3 A2 A3 A4 OS D3;go_upto_region 10 with fail;refine aeX _ ws w.heap.size (w.heap.size+1) me _ _ _ _ ao n2 ac (fO (xs.map fun y=>(y.1,y.2.1)) (c,d)) xs (c,d,(po,pn,pc),par) _ _ _ _ _ _ _ _ _ _ _ _ _ _ _ _ _ _ _ _ _ _ _ _ _ _ _ _ _ _ _ _ _ _ _ _ _ _ _ _ _ _ _ _ _ _ _ _ _ _ _ _ _ _ _ _ _ _ _ _ _ _ _ _ _ _ _ _ _ _ _ _ _ _ _ _ C2.out (PD (p:=(po,pn,pc)) C3.out) D4.out (by have:=mK (xs.map fun y=>(y.1,y.2.1)) (c,d); rw [List.length_map] at this; exact this) XL.out ?_;intro xw2 v63 v64 v65 v66 v67 v68 v69 v70 v71 v72 v73 v74 v75 v76 v77 hbx ho hbl hoth hblk;obtain⟨nD,nG,zT⟩:=(Row.dH ho).len;obtain⟨tl,htl⟩:∃ n,n=(xs.take (fO (xs.map fun y=>(y.1,y.2.1)) (c,d))++[(c,d,(po,pn,pc),par)]++xs.drop (fO (xs.map fun y=>(y.1,y.2.1)) (c,d))).length:=⟨_,rfl⟩;rw [<- htl] at zT;subst zT;have hb5:=hbl _ (aC w.heap.size);have B5:=J (B4.out.trans hb5);have E2:=hbx;have E4:=hoth _ _ _ (by omega) C4.out;have OD:=J (dJ ho (show w.heap.size+3<=ws.heap.size by have:=C4.out.lt; omega));have OS:=J (O4.out.kept (w':=xw2) (row:=Y w.heap.size) ⟨hb5.os,hb5.tape,hb5.output,hb5.size,fun k hk hne=>hblk k hk (fun e=>hne (by rw [e]))⟩ (Td O4.out (by omega)));clear ho hbl hoth hblk htl hb5 hbx B4 C2 C3 C4 O4 D4;obtain⟨x0,x1,x2,x3,x4,x5⟩:=E2.fB;obtain⟨r0,r1,r2,r3,r4,r5⟩:=E4.fB;obtain⟨t0,t1,t2,t3,t4,t5⟩:=E4.kJ;have zz:=E4.lt;have FB:=J (dM E4 (K L me) (D no nn nc) (D nD tl nG) (D sd1 sl sd2) (D eo en ec) (D oo eB oc));have BL:=J (dI (b:=w.heap.size+1+1) B5.out (by omega) (K L me) (D no nn nc) (D nD tl nG) (D sd1 sl sd2) (D eo en ec) (D oo eB oc));have FD:=J (fC OD.out (w.heap.size+1+1) (by omega) (K L me) (D no nn nc) (D nD tl nG) (D sd1 sl sd2) (D eo en ec) (D oo eB oc));have FS:=J (fC OS.out (w.heap.size+1+1) (by omega) (K L me) (D no nn nc) (D nD tl nG) (D sd1 sl sd2) (D eo en ec) (D oo eB oc));clear OD OS E2 E4;go_wp2_with fail;obtain⟨v0,v1,v2,v3,v4,v5⟩:=FB.out.fB;refine ay (v:=.tuple #[aV #[K L me,D no nn nc,D nD tl nG,D sd1 sl sd2,D eo en ec,D oo eB oc],au aR]) (by simp [results,aT,go_sem,v0,v1,v2,v3,v4,v5]) rfl ?_;rw [LB.out];refine⟨⟨(nD,tl,nG),(sd1,sl,sd2),rfl,?_⟩,BL.out⟩;have hI:=HH.out.on BL.out;refine⟨hI.near,⟨_,Row.dH FD.out,?_⟩,?_,hI.ent,hI.own⟩
  ·have hA:=HA2.out.mono fun _ _ h=>h.on BL.out;rw [<- AI.out,<- IDS.out];exact ((hA.take _).append (.cons (HZ.out.on BL.out) .nil)).append (hA.drop _)
  ·rw [<- AI.out];exact Row.dH FS.out
def cutAt {α:Type} (l:List α) (k:Nat):List α:=l.take k++l.drop (k+1)
def ig (b:Br) (x:Id) (f:Int):Br×Bool:=match b.dQ[(fK (b.dQ.map Ad.id) x).toNat]? with
 | none=>(b,aj)
 | some a=>if fK (b.dQ.map Ad.id) x=-1 then (b,aj) else if a.par=f then ({ b with dQ:=cutAt b.dQ (fK (b.dQ.map Ad.id) x).toNat,ent:=b.ent.filter fun e=>decide (e.tree≠x) },aR) else (b,aj)
theorem MW (l:List kr) (x:Id):fK (l.map fun y=>(y.1,y.2.1)) x=-1\/∃ (k:Nat) (y:kr),fK (l.map fun y=>(y.1,y.2.1)) x=k/\l[k]?=Y y:=by
 induction l with
 | nil=>exact Or.inl rfl
 | cons a l ih =>
  rw [aN,fK];by_cases h:(a.1,a.2.1)=x
  ·rw [if_pos h];exact Or.inr ⟨0,a,rfl,rfl⟩
  ·rw [if_neg h];rcases ih with h2|⟨k,y,h2,h3⟩
   ·rw [if_pos h2];exact Or.inl rfl
   ·rw [if_neg (by omega),h2];exact Or.inr ⟨k+1,y,by omega,by simpa using h3⟩
theorem eH.fil {α β:Type} {R:α->β->Prop} (p:α->Bool) (q:β->Bool) (hpq:∀ a b,R a b->p a=q b):∀ {l m},eH R l m->eH R (l.filter p) (m.filter q)
 | _,_,.nil=>.nil
 | _,_,.cons (a:=a) (b:=b) x t=>by
  have h:=hpq a b x;cases hb:q b
  ·rw [aF (by rw [h,hb]; simp),aF (by rw [hb]; simp)];exact t.fil p q hpq
  ·rw [aG (by rw [h,hb]),aG (by rw [hb])];exact .cons x (t.fil p q hpq)
theorem Yv (a b c d:Int) (r:Bool) (h:(!(a == c && b == d))=r) (w:ah):(binOp .neq 38 (aV #[K L a,K L b]) (aV #[K L c,K L d])).run aD w=.ok (au r) w:=by
 have st:=MQ;subst h;by_cases h1:a=c <;> by_cases h2:b=d <;> simp [go_sem,Tryz.underlying38,Tryz.underlying3,st,h1,h2]
def yU (x:Id) (e:iH):Bool:=decide ((e.1,e.2.1)≠x)
theorem zU {α:Type} (l:List α) (k:Nat) (y:α) (p:α->Bool) (h:l[k]?=Y y):(l.take (k+1)).filter p=(l.take k).filter p++(if p y then [y] else []):=by
 rw [List.take_add_one,h,List.filter_append];cases hp:p y <;> simp [hp]
theorem H9 (b:Br) (nv av sv ev ov:Sl) (x:Id) (f:Int) (w:ah) (h:iI w b nv av sv ev ov) (l2:b.dQ.length<=900) (l3:b.ent.length<=900) :
  Calls aD 95 #[mJ b.me nv av sv ev ov,mY x,K L f] w fun e w'=>(∃ zx ev':Sl,e=.returned (.tuple #[mJ b.me nv zx sv ev' ov,au (ig b x f).2])/\iI w' (ig b x f).1 nv zx sv ev' ov)/\Below w.heap.size w w':=by
 obtain⟨no,nn,nc⟩:=nv;obtain⟨ao,an,ac⟩:=av;obtain⟨so,sn,sc⟩:=sv;obtain⟨eo,en,ec⟩:=ev;obtain⟨oo,eB,oc⟩:=ov;obtain⟨c,d⟩:=x;obtain⟨xs,hx1,hx2⟩:=h.dQ;obtain⟨es,he1,he2⟩:=h.ent;have IDS:=J (zS hx2);have XL:=J (show xs.length<=900 by rw [hx2.len]; exact l2);have EL:=J (show es.length<=900 by rw [he2.len]; exact l3);have HA2:=J hx2;have HE2:=J he2;obtain⟨q1,q2,hq⟩:=hx1.len;obtain⟨rfl,rfl,rfl⟩:ao=q1/\an=xs.length/\ac=q2:=by
  have:D ao an ac=D q1 xs.length q2:=hq;simpa using this
 obtain⟨q1,q2,hq⟩:=he1.len;obtain⟨rfl,rfl,rfl⟩:eo=q1/\en=es.length/\ec=q2:=by
  have:D eo en ec=D q1 es.length q2:=hq;simpa using this
 have FD:=uF b.me (D no nn nc) (D eo es.length ec) (D so sn sc) (D oo eB oc) (ao,xs.length,ac) xs (c,d);have HH:=J h;obtain⟨h0,h1,h2,h3⟩:=gX w #[K L b.me,D no nn nc,D ao xs.length ac,D so sn sc,D eo es.length ec,D oo eB oc] #[K L c,K L d] #[K L 0,D V 0 0,D V 0 0,D V 0 0,D V 0 0,D V 0 0] 33 38 33;obtain⟨n2,hn2⟩:∃ n,n=xs.length:=⟨_,rfl⟩;obtain⟨n3,Te⟩:∃ n,n=es.length:=⟨_,rfl⟩;simp only [<- hn2,<- Te] at h0 h1 h2 h3 hx1 he1 HH FD ⊢;have B0:=J h0;have X2:=J h1;have X3:=J h2;have X5:=J h3;have HS:=J hx1;have HE:=J he1;have N2:=J hn2;have N3:=J Te;obtain⟨me,hme⟩:∃ me,me=b.me:=⟨_,rfl⟩;simp only [<- hme] at X2 B0 X3 X5 FD ⊢;clear h0 h1 h2 h3 hx1 he1 hx2 he2 h hq hn2 Te l2 l3 hme;go_enter Tryz.func95,Tryz.ntmps95;go_upto_region 1 with fail;generalize (((w.alloc (O #[K L me,D no nn nc,D ao n2 ac,D so sn sc,D eo n3 ec,D oo eB oc] 33)).alloc (O #[K L c,K L d] 38)).alloc (O #[K L 0,D V 0 0,D V 0 0,D V 0 0,D V 0 0,D V 0 0] 33))=W at *;have SW:=J (FD W (HS.out.on B0.out));clear FD;obtain⟨x0,x1,x2,x3,x4,x5⟩:=X2.out.fB;obtain⟨y0,y1⟩:=X3.out.cs2;rcases MW xs (c,d) with hf|⟨k,y,hf,hy⟩
 ·have LB:=J (show ig b (c,d) f=(b,aj) by
   have hf':=hf;rw [IDS.out] at hf';unfold ig;rw [hf']
   split
   ·rfl
   ·rw [if_pos rfl])
  rw [hf] at SW;clear hf;go_wp2_with fail;refine SW.out.mono ?_;rintro e1 w1 ⟨rfl,hb⟩;have B1:=J (B0.out.trans (hb.mono B0.out.size));have uW:=X2.out.on hb;have qL:=X5.out.on hb;clear SW hb x0 x1 x2 x3 x4 x5 y0 y1;obtain⟨x0,x1,x2,x3,x4,x5⟩:=uW.fB;obtain⟨r0,r1,r2,r3,r4,r5⟩:=qL.fB;obtain⟨t0,t1,t2,t3,t4,t5⟩:=qL.kJ;have zz:=qL.lt;have FB:=J (dM qL (K L me) (D no nn nc) (D ao n2 ac) (D so sn sc) (D eo n3 ec) (D oo eB oc));have BL:=J (dI (b:=w.heap.size+1+1) B1.out (by omega) (K L me) (D no nn nc) (D ao n2 ac) (D so sn sc) (D eo n3 ec) (D oo eB oc));clear X2 X3 X5 uW qL HS HE;go_wp2_with fail;obtain⟨v0,v1,v2,v3,v4,v5⟩:=FB.out.fB;refine ay (v:=.tuple #[aV #[K L me,D no nn nc,D ao n2 ac,D so sn sc,D eo n3 ec,D oo eB oc],au aj]) (by simp [results,aL,go_sem,v0,v1,v2,v3,v4,v5]) rfl ?_;rw [LB.out];exact⟨⟨(ao,n2,ac),(eo,n3,ec),rfl,HH.out.on BL.out⟩,BL.out⟩
 ·rw [hf] at SW;have hk:=(List.getElem?_eq_some_iff.1 hy).1;have XL2:=XL.out;have hkn:k<n2:=by rw [N2.out]; exact hk
  have HF:=J hf;have HY:=J hy;obtain⟨p,ix,px⟩:=Yh HS.out rfl N2.out.symm hy;have LB:=J (show ∀ a,b.dQ[k]?=Y a->ig b (c,d) f=if a.par=f then ({ b with dQ:=cutAt b.dQ k,ent:=b.ent.filter fun e=>decide (e.tree≠(c,d)) },aR) else (b,aj) from fun a ha=>by
   have hf':=HF.out;rw [IDS.out] at hf';unfold ig;rw [hf',Int.toNat_natCast,ha];simp only;rw [if_neg (by omega)])
  obtain⟨z1,z2,⟨zo,zn,zc⟩,par⟩:=y;obtain⟨a,hak⟩:∃ a,b.dQ[k]?=Y a:=⟨_,X (by rw [<- HA2.out.len]; exact hk)⟩;have hap:a.par=par:=by
   obtain⟨z,hz1,hz2⟩:=HA2.out.at k a hak;rw [HY.out] at hz1;obtain rfl:=aJ hz1;exact hz2.2.1.symm
  have LC:=LB.out a hak;rw [hap] at LC;have hik:decide ((k:Int)<0)=aj:=decide_eq_false (by omega);go_wp2_with fail;refine SW.out.mono ?_;rintro e1 w1 ⟨rfl,hb⟩;have B1:=J (B0.out.trans (hb.mono B0.out.size));have uW:=X2.out.on hb;have Yw:=X3.out.on hb;have qL:=X5.out.on hb;have zk:=px w1 B1.out;obtain⟨p0,p1,p2,p3⟩:=zk;clear SW hb px HF LB hf hy hap hak x0 x1 x2 x3 x4 x5 y0 y1;by_cases hpf:par=f
  ·rw [if_pos hpf] at LC;have LB:=J LC;have hne:(par != f)=aj:=by simp [hpf]
   have HPF:=J hpf;have Z2:=J uW;have Z3:=J Yw;have Z5:=J qL;obtain⟨x0,x1,x2,x3,x4,x5⟩:=uW.fB;obtain⟨r0,r1,r2,r3,r4,r5⟩:=qL.fB;obtain⟨t0,t1,t2,t3,t4,t5⟩:=qL.kJ;have zz:=qL.lt;clear LC hpf X2 X3 X5 uW Yw qL;have S1:=J (HS.out.on B1.out);go_upto_region 4 with fail;refine ahT _ w1 w.heap.size (w.heap.size+1) me _ _ _ _ ao n2 ac k xs _ _ _ _ _ _ _ _ _ _ _ _ _ _ _ _ _ _ _ _ _ _ _ _ _ _ _ _ _ _ _ _ _ _ _ _ _ _ _ _ _ _ _ _ _ _ _ _ _ _ _ _ _ _ _ _ _ Z2.out S1.out (by omega) XL.out ?_;intro xw v28 v29 v30 v31 v32 v33 v34 v35 v36 v37 v38 v39 v40 hbx ho hbl hoth hblk;obtain⟨nD,nG,zT⟩:=(Row.dH ho).len;obtain⟨tl,htl⟩:∃ n,n=(xs.take k++xs.drop (k+1)).length:=⟨_,rfl⟩;rw [<- htl] at zT;subst zT;have B2:=J (B1.out.trans (hbl _ (aC _)));have A2:=J hbx;have A3:=J (hoth _ _ _ (by omega) Z3.out);have A5:=J (hoth _ _ _ (by omega) Z5.out);have OD:=J (dJ ho (show w.heap.size+3<=w1.heap.size by have:=Z5.out.lt; omega));have E3:=J (HE.out.on B2.out);have a4:=hbx.cell 4;simp only [aK,aH,aI] at a4;have W3:=J A5.out.lt;have nb:=EL.out;rw [<- N3.out] at nb;clear hbx ho hbl hoth hblk htl B1 Z2 Z3 Z5 S1 HS HE x0 x1 x2 x3 x4 x5 r0 r1 r2 r3 r4 r5 t0 t1 t2 t3 t4 t5 zz ix p0 p1 p2 p3 hne hik;go_wp2
   go_loopw [9,44] (fun v i wr=>∃ q:Nat,q<=n3/\i=K L q/\Below xw.heap.size xw wr/\iU wr xw.heap.size v ((es.take q).filter (yU (c,d)))) (fun _ i _=>n3-(intOf i).toNat)
   case atStart=>exact⟨0,aS _,rfl,Below.refl _ _,gB _ _⟩
   case round =>
    obtain⟨q,hq,rfl,hbe,hown⟩:=hrel;have BE:=J hbe;have OE:=J hown;clear hbe hown;by_cases hlt:q<n3
    ·obtain⟨e,hy⟩:∃ e,es[q]?=Y e:=⟨_,X (by rw [<- N3.out]; exact hlt)⟩;obtain⟨p,ix,px⟩:=Pv E3.out rfl N3.out.symm hy;obtain⟨p0,p1,p2,p3,p4,p5,p6⟩:=px wr BE.out;have FS:=J (zU es q e (yU (c,d)) hy);obtain⟨y1,y2,y3,y4,⟨yo,yn,yc⟩,y6,y7⟩:=e;simp only at p0 p1 p2 p3 p4 p5 p6;have NB:=J (fI wr (O #[K L y1,K L y2,K L y3,K L y4,D yo yn yc,K L y6,au y7] 68));obtain⟨x0,x1⟩:=((A3.out.on BE.out).on NB.out).cs2;have hw3:IntKind.i64.wrap ((q:Int)+1)=(q:Int)+1:=IntWalk.i64_in _ (by omega);obtain⟨r,hr⟩:∃ r,(!(y1 == c && y2 == d))=r:=⟨_,rfl⟩;have he:=Yv y1 y2 c d r hr;have KN:=J (show yU (c,d) (y1,y2,y3,y4,(yo,yn,yc),y6,y7)=r by
      rw [<- hr];unfold yU;by_cases h1:y1=c <;> by_cases h2:y2=d <;> simp [h1,h2])
     clear px hy hr;cases r
     ·go_wp2
      go_roundw
      case rel=>exact⟨q+1,by omega,by go_num,BE.out.trans (NB.out.mono BE.out.size),by
       rw [FS.out,KN.out];simpa using dG OE.out NB.out⟩
      case measure=>simp [intOf]; omega
     ·have NB2:=J (fI (wr.alloc (O #[K L y1,K L y2,K L y3,K L y4,D yo yn yc,K L y6,au y7] 68)) (O #[K L y1,K L y2,K L y3,K L y4,D yo yn yc,K L y6,au y7] 68));have hlit:=iD lF (wr.alloc (O #[K L y1,K L y2,K L y3,K L y4,D yo yn yc,K L y6,au y7] 68)) [(y1,y2,y3,y4,(yo,yn,yc),y6,y7)] 1 rfl (by simp) #[K L y1,K L y2,K L y3,K L y4,D yo yn yc,K L y6,au y7] rfl;have o2:=dG (dG OE.out NB.out) NB2.out;have hB:xw.heap.size<=((wr.alloc (O #[K L y1,K L y2,K L y3,K L y4,D yo yn yc,K L y6,au y7] 68)).alloc (O #[K L y1,K L y2,K L y3,K L y4,D yo yn yc,K L y6,au y7] 68)).heap.size:=by have h1:=BE.out.size; simp; omega
      obtain⟨v',w',r',o',gr⟩:=gG lF xw.heap.size o2 (Row.dH hlit) (by have h1:=List.length_filter_le (yU (c,d)) (es.take q); rw [List.length_take] at h1; omega) (by simp) hB 30;have r':(Builtin.append_ #[30,30] 30 #[u9,D (Y ⟨wr.heap.size+1,0,V⟩) 1 1]).run aD ((wr.alloc (O #[K L y1,K L y2,K L y3,K L y4,D yo yn yc,K L y6,au y7] 68)).alloc (O #[K L y1,K L y2,K L y3,K L y4,D yo yn yc,K L y6,au y7] 68))=.ok v' w':=by
       simpa [EN] using r'
      have BG:=J ((BE.out.trans ((NB.out.trans (NB2.out.mono NB.out.size)).mono BE.out.size)).grown gr hB fun j hj=>(o2.lt j hj).1);have OG:=J o';clear hlit o2 hB o' gr OE;go_wp2_with (first | (at_builtin; refine wpList_append_run rfl _ _ 30 rfl rfl rfl r' ?_) | fail)
      go_roundw
      case rel=>exact⟨q+1,by omega,by go_num,BG.out,by
       rw [FS.out,KN.out];simpa using OG.out⟩
      case measure=>simp [intOf]; omega
    ·obtain rfl:q=n3:=by omega
     have e:es.take q=es:=List.take_of_length_le (by have:=N3.out; omega);rw [e] at OE;obtain⟨xU,xV,hv⟩:=(Row.dH OE.out).len;obtain⟨vl,hvl⟩:∃ n,n=(es.filter (yU (c,d))).length:=⟨_,rfl⟩;rw [<- hvl] at hv;subst hv;have G2:=A2.out.on BE.out;have c4:=G2.cell 4;have g4:=G2.fr 4;have gl:=G2.lt;simp only [aK,aH,aI] at c4;clear hvl e a4 hlt hq nb;go_upto_region 13 with fail;have uW:=dR (k:=4) G2 (D xU vl xV);simp only [aB,aO,aP] at uW;have qL:dN _ _ _ _:=(RowKit.Below.heap_setCell wr ⟨w.heap.size,4,V⟩ (D xU vl xV) _ (show w.heap.size+1+1≠w.heap.size by omega)).trans (A5.out.on BE.out);have OD2:=J (dP (dG OD.out BE.out) w.heap.size 4 (D xU vl xV) (by omega));have PG:=J (dP OE.out w.heap.size 4 (D xU vl xV) (by have:=W3.out; omega));have BQ:=J ((B2.out.trans (BE.out.mono B2.out.size)).setCell (p:=⟨w.heap.size,4,V⟩) (aC _) (D xU vl xV));clear G2 c4 g4 gl OD OE B2 A2 A3 A5 E3;generalize wr.setCell ⟨w.heap.size,4,V⟩ (D xU vl xV)=wq at *;obtain⟨x0,x1,x2,x3,x4,x5⟩:=uW.fB;obtain⟨r0,r1,r2,r3,r4,r5⟩:=qL.fB;obtain⟨t0,t1,t2,t3,t4,t5⟩:=qL.kJ;have zz:=qL.lt;have FB:=J (dM qL (K L me) (D no nn nc) (D nD tl nG) (D so sn sc) (D xU vl xV) (D oo eB oc));have BL:=J (dI (b:=w.heap.size+1+1) BQ.out (by omega) (K L me) (D no nn nc) (D nD tl nG) (D so sn sc) (D xU vl xV) (D oo eB oc));have FD:=J (fC OD2.out (w.heap.size+1+1) (by omega) (K L me) (D no nn nc) (D nD tl nG) (D so sn sc) (D xU vl xV) (D oo eB oc));have FE:=J (fC PG.out (w.heap.size+1+1) (by have:=W3.out; omega) (K L me) (D no nn nc) (D nD tl nG) (D so sn sc) (D xU vl xV) (D oo eB oc));clear OD2 PG BQ uW qL;go_wp2_with fail;obtain⟨v0,v1,v2,v3,v4,v5⟩:=FB.out.fB;refine ay (v:=.tuple #[aV #[K L me,D no nn nc,D nD tl nG,D so sn sc,D xU vl xV,D oo eB oc],au aR]) (by simp [results,aL,go_sem,v0,v1,v2,v3,v4,v5]) rfl ?_;rw [LB.out];refine⟨⟨(nD,tl,nG),(xU,vl,xV),rfl,?_⟩,BL.out⟩;have hI:=HH.out.on BL.out;refine⟨hI.near,⟨_,Row.dH FD.out,?_⟩,hI.seen,⟨_,Row.dH FE.out,?_⟩,hI.own⟩
     ·have hA:=HA2.out.mono fun _ _ h=>h.on BL.out;exact (hA.take _).append (hA.drop _)
     ·have hE:=HE2.out.mono fun _ _ h=>h.on BL.out;exact hE.fil _ _ fun a b h=>by unfold yU; rw [h.1]
  ·rw [if_neg hpf] at LC;have LB:=J LC;have hne:(par != f)=aR:=by simp [hpf]
   clear LC hpf;obtain⟨x0,x1,x2,x3,x4,x5⟩:=uW.fB;obtain⟨r0,r1,r2,r3,r4,r5⟩:=qL.fB;obtain⟨t0,t1,t2,t3,t4,t5⟩:=qL.kJ;have zz:=qL.lt;clear Yw;have FB:=J (dM qL (K L me) (D no nn nc) (D ao n2 ac) (D so sn sc) (D eo n3 ec) (D oo eB oc));have BL:=J (dI (b:=w.heap.size+1+1) B1.out (by omega) (K L me) (D no nn nc) (D ao n2 ac) (D so sn sc) (D eo n3 ec) (D oo eB oc));clear X2 X3 X5 uW qL HS HE;go_wp2_with fail;obtain⟨v0,v1,v2,v3,v4,v5⟩:=FB.out.fB;refine ay (v:=.tuple #[aV #[K L me,D no nn nc,D ao n2 ac,D so sn sc,D eo n3 ec,D oo eB oc],au aj]) (by simp [results,aL,go_sem,v0,v1,v2,v3,v4,v5]) rfl ?_;rw [LB.out];exact⟨⟨(ao,n2,ac),(eo,n3,ec),rfl,HH.out.on BL.out⟩,BL.out⟩
structure Kw (b:Br):Prop where
 near:b.near.length<=900
 dQ:b.dQ.length<=900
 seen:b.seen.length<=900
 ent:b.ent.length<=900
 own:b.own.length<=900
end Bk
namespace Pr
open Go.RowKit Pu Rw
end Pr
end Go.Proofs.YtkcfgbddlpomgaaGreat
