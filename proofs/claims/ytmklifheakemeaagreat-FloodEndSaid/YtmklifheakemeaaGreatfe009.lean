/-
  The two loops of Lea. Conditions as told.
-/
import Derived.Test.YtmklifheakemeaaGreatfe004
import Derived.Lib.QuietBelow
import Derived.BigQuiet
set_option maxRecDepth 100000
set_option maxHeartbeats 64000000
open _root_.Go renaming World->ak,Value->ay,Calls->aI
open Go.Builtin renaming copy_->ah,append_->aG
open Go.Instr renaming sliceAt->U
open Go.IntKind renaming i64->X,wrap_i64->aD
open Go.Lib renaming hid->O
open Go.Obj renaming cells->aj
open Go.Proofs.Tryz renaming prog->L,ntmps145->aB,func145->aC
open Go.Value renaming slice->D,int->V,pointer->Y
open _root_.List renaming getElem?_eq_getElem->Z,takeWhile_cons->aA
open _root_.Nat renaming lt_or_ge->au,le_refl->aF,zero_le->aH
open _root_.Option renaming none->J,some->K
namespace Go.Proofs.YtmklifheakemeaaGreat
namespace Bk
open Go.RowKit Go.Sort Rw YtmklifheakemeaaGreat.Nm Pr
theorem oP (l:List Id) (x:Id) (k:Nat) (hall:∀ (j:Nat) (y:Id),j<k->l[j]?=K y->eH y x=true) (hend:k=l.length\/∃ y,l[k]?=K y/\eH y x=false):fT l x=k:=by
 unfold fT
 induction l generalizing k with
 | nil =>
  rcases hend with h|⟨y,h,_⟩
  ·rw [h]; rfl
  ·simp at h
 | cons a l ih =>
  cases k with
  | zero =>
   rcases hend with h|⟨y,h,h2⟩
   ·simp at h
   ·obtain rfl:a=y:=by simpa using h
    rw [aA,h2]
    rfl
  | succ k =>
   have h0:=hall 0 a (by omega) rfl;rw [aA,h0];simp only [if_true,List.length_cons];rw [ih k (fun j y hj hy=>hall (j+1) y (by omega) (by simpa using hy)) (by
    rcases hend with h|⟨y,h,h2⟩
    ·exact Or.inl (by simpa using h)
    ·exact Or.inr ⟨y,by simpa using h,h2⟩)]
noncomputable def Yj:Code:=((Tryz.f45.body.bind (jL 0)).getD .skip)
theorem Sk (Q:Exit->Act->ak->Prop) (W:ak) (b2 b3:Nat) (me c d:Int) (y1 y2 y4 y5 p3 q3:ay) (so:Option Addr) (n sc:Nat) (l:List fC) (u0 u1 u4 u5 u7 u8 u9 u10 u11 u12 u13 u14 u15 u16 u17 u18 u19 u20 u21 u22 u23 u24 u25 u26 u27 u28 u29 u30 u31 u32 u33 u34 u35 u36 u37 u38 u39 u40 u41 u42 u43 u44 u45 u46 u47 u48 u49 u50 u51 u52 u53 u54 u55 u56 u57 u58 u59 u60 u61 u62 u63 u64 u65 u66 u67 u68 u69 u70 u71 u72 u73 u74 u75 u76 u77 u78:ay)
  (h2:dK W b2 #[V X me,y1,y2,D so n sc,y4,y5] 28) (h3:dK W b3 #[V X c,V X d,p3,q3] 74) (hs:vT W (D so n sc) l) (hn:n=l.length) (hm:n<=1000000)
  (hQ:∀ (wr:ak) (v12 v13 v14 v15 v16 v17 v18 v19 v20 v21 v22 v23 v24 v25 v26 v27 v28:ay),Below W.heap.size W wr->Q .normal ⟨(u0::u1::Y (K ⟨b2,0,J⟩)::Y (K ⟨b3,0,J⟩)::u4::u5::V X (fT l (c,d):Nat)::u7::u8::u9::u10::u11::v12::v13::v14::v15::v16::v17::v18::v19::v20::v21::v22::v23::v24::v25::v26::v27::v28::u29::u30::u31::u32::u33::u34::u35::u36::u37::u38::u39::u40::u41::u42::u43::u44::u45::u46::u47::u48::u49::u50::u51::u52::u53::u54::u55::u56::u57::u58::u59::u60::u61::u62::u63::u64::u65::u66::u67::u68::u69::u70::u71::u72::u73::u74::u75::u76::u77::u78::[]).toArray,[]⟩ wr) :
  Code.wp L Yj Q ⟨(u0::u1::Y (K ⟨b2,0,J⟩)::Y (K ⟨b3,0,J⟩)::u4::u5::V X 0::u7::u8::u9::u10::u11::u12::u13::u14::u15::u16::u17::u18::u19::u20::u21::u22::u23::u24::u25::u26::u27::u28::u29::u30::u31::u32::u33::u34::u35::u36::u37::u38::u39::u40::u41::u42::u43::u44::u45::u46::u47::u48::u49::u50::u51::u52::u53::u54::u55::u56::u57::u58::u59::u60::u61::u62::u63::u64::u65::u66::u67::u68::u69::u70::u71::u72::u73::u74::u75::u76::u77::u78::[]).toArray,[]⟩ W:=by
 have HQ:=O hQ;have H2:=O h2;have H3:=O h3;have HS:=O hs;have HN:=O hn;clear hQ h2 h3 hs hn
 conv=>arg 2; whnf
 go_wp2
 go_loopw [6] (fun i wr=>∃ k:Nat,k<=n/\i=V X k/\Below W.heap.size W wr/\∀ (j:Nat) (y:Id),j<k->l[j]?=K y->eH y (c,d)=true) (fun i _=>n-(intOf i).toNat)
 case atStart=>exact⟨0,aH _,rfl,Below.refl _ _,fun j y h=>by omega⟩
 case round =>
  obtain⟨k,hk,rfl,hbe,hall⟩:=hrel;have BE:=O hbe;have AL:=O hall;clear hbe hall;have q0:=cell_regrown (show wr.cell? ⟨b2,3,J⟩=K (D so n sc) from (H2.out.on BE.out).cell 3);have r0:=cell_regrown (show wr.cell? ⟨b3,0,J⟩=K (V X c) from (H3.out.on BE.out).cell 0);have r1:=cell_regrown (show wr.cell? ⟨b3,1,J⟩=K (V X d) from (H3.out.on BE.out).cell 1);have hw3:IntKind.i64.wrap ((k:Int)+1)=(k:Int)+1:=IntWalk.i64_in _ (by omega);by_cases hlt:k<n
  ·obtain⟨y,hy⟩:∃ y,l[k]?=K y:=⟨_,Z (by rw [<- HN.out]; exact hlt)⟩;obtain⟨p,ix,px⟩:=elJ HS.out rfl HN.out.symm hy;have zM:=px wr BE.out;obtain⟨y1,y2⟩:=y;simp only at zM;have p0:=cell_regrown zM.1;have p1:=cell_regrown zM.2;have yY:decide ((k:Int)<(n:Int))=true:=decide_eq_true (by omega);have Dh:decide (k<n)=true:=decide_eq_true hlt;obtain⟨r,hr⟩:∃ r,eH (y1,y2) (c,d)=r:=⟨_,rfl⟩;have LS:=O (fun d' os=>Calls.regrown_of (d:=d') (os:=os) ((sO (y1,y2) (c,d) (grow (redrawn wr d') os)).mono fun _ _ h=>⟨by rw [h.1,hr],h.2⟩));have HY:=O (show l[k]?=K (y1,y2) by exact hy);have HR:=O hr;clear px zM hy hr;cases r
   ·go_wp2_with fail;refine wp_region_quiet_below (by kernel_rfl) (by kernel_rfl) ?_
    repeat (go_big_quiet_step (first | (with_reducible exact LS.out _ _)))
    refine wpQuiet_nil ?_;intro _ hw';obtain⟨⟨dq,osq⟩,hw''⟩:=hw';subst hw'';have Z6:=below_regrown wr dq osq;have HF:=O (fun v12 v13 v14 v15 v16 v17 v18 v19 v20 v21 v22 v23 v24 v25 v26 v27 v28=>HQ.out (grow (redrawn wr dq) osq) v12 v13 v14 v15 v16 v17 v18 v19 v20 v21 v22 v23 v24 v25 v26 v27 v28 (BE.out.trans (Z6.mono BE.out.size)));rw [oP l (c,d) k AL.out (Or.inr ⟨_,HY.out,HR.out⟩)] at HF;clear ix HQ q0 r0 r1 LS yY Dh p0 p1;go_wp2;exact HF.out _ _ _ _ _ _ _ _ _ _ _ _ _ _ _ _ _
   ·go_wp2_with fail;refine wp_region_quiet_below (by kernel_rfl) (by kernel_rfl) ?_
    repeat (go_big_quiet_step (first | (with_reducible exact LS.out _ _)))
    refine wpQuiet_nil ?_;intro _ hw';obtain⟨⟨dq,osq⟩,hw''⟩:=hw';subst hw'';have Z6:=O (below_regrown wr dq osq);clear ix q0 r0 r1 LS yY Dh p0 p1;go_wp2
    go_roundw
    case rel=>exact⟨k+1,by omega,by go_num,BE.out.trans (Z6.out.mono BE.out.size),fun j y' hj h1=>by
     rcases au j k with h3|h3
     ·exact AL.out j y' h3 h1
     ·obtain rfl:j=k:=by omega
      have e1:=HY.out;rw [h1] at e1;rw [Option.some.inj e1];exact HR.out⟩
    case measure=>simp [intOf]; omega
  ·obtain rfl:k=n:=by omega
   have yY:decide ((k:Int)<(k:Int))=false:=by simp
   have Dh:decide (k<k)=false:=by simp
   go_wp2_with fail;refine wp_region_quiet_below (by kernel_rfl) (by kernel_rfl) ?_
   repeat (go_big_quiet_step (fail))
   refine wpQuiet_nil ?_;intro _ hw';obtain⟨⟨dq,osq⟩,hw''⟩:=hw';subst hw'';have Z6:=below_regrown wr dq osq;have HF:=O (fun v12 v13 v14 v15 v16 v17 v18 v19 v20 v21 v22 v23 v24 v25 v26 v27 v28=>HQ.out (grow (redrawn wr dq) osq) v12 v13 v14 v15 v16 v17 v18 v19 v20 v21 v22 v23 v24 v25 v26 v27 v28 (BE.out.trans (Z6.mono BE.out.size)));rw [oP l (c,d) k AL.out (Or.inl (by simpa using HN.out))] at HF;clear HQ q0 r0 r1 yY Dh;go_wp2;exact HF.out _ _ _ _ _ _ _ _ _ _ _ _ _ _ _ _ _
noncomputable def Yk:Code:=((Tryz.f45.body.bind (jL 2)).getD .skip)
theorem Sm (Q:Exit->Act->ak->Prop) (W:ak) (b2 b3:Nat) (me c d:Int) (y1 y3 y4 y5 p3 q3:ay) (so:Option Addr) (n sc:Nat) (l:List jD) (u0 u1 u4 u5 u7 u8 u9 u10 u11 u12 u13 u14 u15 u16 u17 u18 u19 u20 u21 u22 u23 u24 u25 u26 u27 u28 u29 u30 u31 u32 u33 u34 u35 u36 u37 u38 u39 u40 u41 u42 u43 u44 u45 u46 u47 u48 u49 u50 u51 u52 u53 u54 u55 u56 u57 u58 u59 u60 u61 u62 u63 u64 u65 u66 u67 u68 u69 u70 u71 u72 u73 u74 u75 u76 u77 u78:ay)
  (h2:dK W b2 #[V X me,y1,D so n sc,y3,y4,y5] 28) (h3:dK W b3 #[V X c,V X d,p3,q3] 74) (hs:wG W (D so n sc) l) (hn:n=l.length) (hm:n<=1000000)
  (hQ:∀ (wr:ak) (v45 v46 v47 v48 v49 v50 v51 v52 v53 v54 v55 v56 v57 v58 v59 v60 v61 v62:ay),Below W.heap.size W wr->Q .normal ⟨(u0::u1::Y (K ⟨b2,0,J⟩)::Y (K ⟨b3,0,J⟩)::u4::u5::V X (fT (l.map fun y=>(y.1,y.2.1)) (c,d):Nat)::u7::u8::u9::u10::u11::u12::u13::u14::u15::u16::u17::u18::u19::u20::u21::u22::u23::u24::u25::u26::u27::u28::u29::u30::u31::u32::u33::u34::u35::u36::u37::u38::u39::u40::u41::u42::u43::u44::v45::v46::v47::v48::v49::v50::v51::v52::v53::v54::v55::v56::v57::v58::v59::v60::v61::v62::u63::u64::u65::u66::u67::u68::u69::u70::u71::u72::u73::u74::u75::u76::u77::u78::[]).toArray,[]⟩ wr) :
  Code.wp L Yk Q ⟨(u0::u1::Y (K ⟨b2,0,J⟩)::Y (K ⟨b3,0,J⟩)::u4::u5::V X 0::u7::u8::u9::u10::u11::u12::u13::u14::u15::u16::u17::u18::u19::u20::u21::u22::u23::u24::u25::u26::u27::u28::u29::u30::u31::u32::u33::u34::u35::u36::u37::u38::u39::u40::u41::u42::u43::u44::u45::u46::u47::u48::u49::u50::u51::u52::u53::u54::u55::u56::u57::u58::u59::u60::u61::u62::u63::u64::u65::u66::u67::u68::u69::u70::u71::u72::u73::u74::u75::u76::u77::u78::[]).toArray,[]⟩ W:=by
 have HQ:=O hQ;have H2:=O h2;have H3:=O h3;have HS:=O hs;have HN:=O hn;clear hQ h2 h3 hs hn
 conv=>arg 2; whnf
 go_wp2
 go_loopw [6] (fun i wr=>∃ k:Nat,k<=n/\i=V X k/\Below W.heap.size W wr/\∀ (j:Nat) (y:Id),j<k->(l.map fun y=>(y.1,y.2.1))[j]?=K y->eH y (c,d)=true) (fun i _=>n-(intOf i).toNat)
 case atStart=>exact⟨0,aH _,rfl,Below.refl _ _,fun j y h=>by omega⟩
 case round =>
  obtain⟨k,hk,rfl,hbe,hall⟩:=hrel;have BE:=O hbe;have AL:=O hall;clear hbe hall;have q0:=cell_regrown (show wr.cell? ⟨b2,2,J⟩=K (D so n sc) from (H2.out.on BE.out).cell 2);have r0:=cell_regrown (show wr.cell? ⟨b3,0,J⟩=K (V X c) from (H3.out.on BE.out).cell 0);have r1:=cell_regrown (show wr.cell? ⟨b3,1,J⟩=K (V X d) from (H3.out.on BE.out).cell 1);have hw3:IntKind.i64.wrap ((k:Int)+1)=(k:Int)+1:=IntWalk.i64_in _ (by omega);by_cases hlt:k<n
  ·obtain⟨y,hy⟩:∃ y,l[k]?=K y:=⟨_,Z (by rw [<- HN.out]; exact hlt)⟩;obtain⟨p,ix,px⟩:=M7 HS.out rfl HN.out.symm hy;have zM:=px wr BE.out;obtain⟨y1,y2,⟨y3o,y3n,y3c⟩,y4⟩:=y;simp only at zM;have p0:=cell_regrown zM.1;have p1:=cell_regrown zM.2.1;have yY:decide ((k:Int)<(n:Int))=true:=decide_eq_true (by omega);have Dh:decide (k<n)=true:=decide_eq_true hlt;obtain⟨r,hr⟩:∃ r,eH (y1,y2) (c,d)=r:=⟨_,rfl⟩;have LS:=O (fun d' os=>Calls.regrown_of (d:=d') (os:=os) ((sO (y1,y2) (c,d) (grow (redrawn wr d') os)).mono fun _ _ h=>⟨by rw [h.1,hr],h.2⟩));have HY:=O (show (l.map fun y=>(y.1,y.2.1))[k]?=K (y1,y2) by rw [List.getElem?_map,hy]; rfl);have HR:=O hr;clear px zM hy hr;cases r
   ·go_wp2_with fail;refine wp_region_quiet_below (by kernel_rfl) (by kernel_rfl) ?_
    repeat (go_big_quiet_step (first | (with_reducible exact LS.out _ _)))
    refine wpQuiet_nil ?_;intro _ hw';obtain⟨⟨dq,osq⟩,hw''⟩:=hw';subst hw'';have Z6:=below_regrown wr dq osq;have HF:=O (fun v45 v46 v47 v48 v49 v50 v51 v52 v53 v54 v55 v56 v57 v58 v59 v60 v61 v62=>HQ.out (grow (redrawn wr dq) osq) v45 v46 v47 v48 v49 v50 v51 v52 v53 v54 v55 v56 v57 v58 v59 v60 v61 v62 (BE.out.trans (Z6.mono BE.out.size)));rw [oP (l.map fun y=>(y.1,y.2.1)) (c,d) k AL.out (Or.inr ⟨_,HY.out,HR.out⟩)] at HF;clear ix HQ q0 r0 r1 LS yY Dh p0 p1;go_wp2;exact HF.out _ _ _ _ _ _ _ _ _ _ _ _ _ _ _ _ _ _
   ·go_wp2_with fail;refine wp_region_quiet_below (by kernel_rfl) (by kernel_rfl) ?_
    repeat (go_big_quiet_step (first | (with_reducible exact LS.out _ _)))
    refine wpQuiet_nil ?_;intro _ hw';obtain⟨⟨dq,osq⟩,hw''⟩:=hw';subst hw'';have Z6:=O (below_regrown wr dq osq);clear ix q0 r0 r1 LS yY Dh p0 p1;go_wp2
    go_roundw
    case rel=>exact⟨k+1,by omega,by go_num,BE.out.trans (Z6.out.mono BE.out.size),fun j y' hj h1=>by
     rcases au j k with h3|h3
     ·exact AL.out j y' h3 h1
     ·obtain rfl:j=k:=by omega
      have e1:=HY.out;rw [h1] at e1;rw [Option.some.inj e1];exact HR.out⟩
    case measure=>simp [intOf]; omega
  ·obtain rfl:k=n:=by omega
   have yY:decide ((k:Int)<(k:Int))=false:=by simp
   have Dh:decide (k<k)=false:=by simp
   go_wp2_with fail;refine wp_region_quiet_below (by kernel_rfl) (by kernel_rfl) ?_
   repeat (go_big_quiet_step (fail))
   refine wpQuiet_nil ?_;intro _ hw';obtain⟨⟨dq,osq⟩,hw''⟩:=hw';subst hw'';have Z6:=below_regrown wr dq osq;have HF:=O (fun v45 v46 v47 v48 v49 v50 v51 v52 v53 v54 v55 v56 v57 v58 v59 v60 v61 v62=>HQ.out (grow (redrawn wr dq) osq) v45 v46 v47 v48 v49 v50 v51 v52 v53 v54 v55 v56 v57 v58 v59 v60 v61 v62 (BE.out.trans (Z6.mono BE.out.size)));rw [oP (l.map fun y=>(y.1,y.2.1)) (c,d) k AL.out (Or.inl (by simpa using HN.out))] at HF;clear HQ q0 r0 r1 yY Dh;go_wp2;exact HF.out _ _ _ _ _ _ _ _ _ _ _ _ _ _ _ _ _ _
end Bk
namespace Av
open Go.RowKit Rw YtmklifheakemeaaGreat.Nm Pr Bk
theorem Sn {W:ak} {b:Nat} {c:fC} (h:dK W b (jO c).toArray 31):vT W (D (K ⟨b,0,J⟩) 1 1) [c] :=
 Or.inr ⟨⟨b,0,J⟩,1,rfl,by simp,by decide,uD h (by simp [EJ])⟩
def Aq (B:Nat) (l:List fC) (k:Nat) (c:fC) (vv:ay) (W:ak) (e:Ending) (w':ak):Prop:=∃ v',e=.returned v'/\sG w' B v' (l.take k++c::l.drop k)/\Below B W w'/\(∀ j,j<W.heap.size->K j≠vv.ownBlock->w'.heap[j]?=W.heap[j]?)
theorem Ia (B:Nat) (v:ay) (l:List fC) (c:fC) (b:Nat) (W:ak) (ho:sG W B v l) (hx:dK W b (jO c).toArray 31) (hl:l.length<=900) (hB:B<=W.heap.size) :
  aI L 145 #[v,V X (l.length:Nat),D (K ⟨b,0,J⟩) 1 1] W (Aq B l l.length c v W):=by
 obtain⟨v',w',hr,ho2,hg⟩:=gJ CY B ho (Sn hx) (by omega) (by simp) hB 24;have hr:(aG #[24,24] 24 #[v,D (K ⟨b,0,J⟩) 1 1]).run L W=.ok v' w':=hr;have Q:=O (show Aq B l l.length c v W (.returned v') w' from ⟨v',rfl,by rw [List.take_of_length_le (aF _),List.drop_of_length_le (aF _)]; exact ho2,(Below.refl B W).grown hg hB (fun j hj=>(ho.lt j hj).1),fun j hj hne=>hg.block j hj hne⟩);obtain⟨sx,hs,_⟩:=qp CY (Row.dH ho) l.length (aF _);have hs:∀ w,(U 24 v (K (V X l.length)) J J).run L w=.ok sx w:=hs;obtain⟨ao,ac,rfl⟩:=(Row.dH ho).len;clear ho ho2 hg;generalize hn:l.length=n at *;clear hn;go_enter aC,aB;go_wp2_with (first | (at_builtin; refine wpList_append_run rfl _ _ 24 rfl rfl rfl hr ?_) | fail);go_ret;exact Q.out
theorem Sq (w:ak) (g b k la lb cb:Nat) (cur cs:Array ay) (hb:dK w b cs 31) (hg:dK w g cur 31) (hne:b≠g) (h0:0<cur.size):(callFunc 168 #[D (K ⟨b,0,J⟩) la 1,D (K ⟨g,k,J⟩) lb cb]).run L w=.ok (.value (.bool false)) w:=by
 rw [run_callFunc_extern Tryz.func168 (by kernel_rfl) (by kernel_rfl) (by kernel_rfl) (e:=Extern.SlicesOverlaps.overlaps #[24,24] #[4]) (by kernel_rfl),
  Lib.run_overlaps_apart w 24 4 31 Tryz.underlying24 2 Tryz.sizeOf31 ⟨b,0,J⟩ ⟨g,k,J⟩ la 1 lb cb hne 31 31 cs.size cur.size hb.shape hg.shape (by omega) (hb.fr 0) (hb.fr _)]
 rfl
theorem Di (B g n cap:Nat) (cur:Array ay) (l:List fC) (k:Nat) (c:fC) (b:Nat) (W:ak) (hn:n=l.length) (hBg:B<=g) (hg:dK W g cur 31) (hcm:cap<=maxLen) (hsz:cur.size=cap * 2) (ht:cur.toList.take (n * 2)=flat EJ l) (hx:dK W b (jO c).toArray 31) (hne:b≠g) (hk:k<n) (hroom:n+1<=cap) (hl:n<=900) :
  aI L 145 #[D (K ⟨g,0,J⟩) n cap,V X k,D (K ⟨b,0,J⟩) 1 1] W (Aq B l k c (D (K ⟨g,0,J⟩) n cap) W):=by
 obtain⟨R1,R2,r1,r2,ow⟩:=uE (E:=EJ) (l:=l) (k:=k) (cap:=cap) (cur:=cur) (cs:=(jO c).toArray) (c:=c) CY (by omega) (by omega) hsz (by rw [<- hn]; exact ht) g b hne;have hov:=fun lb cb=>Sq W g b ((k+1) * 2) 1 lb cb cur (jO c).toArray hx hg hne (by omega);have s0:=gX (E:=EJ) CY g k n cap (by omega) (by omega);have s1:=kE (E:=EJ) CY ⟨g,0,J⟩ (n+1) n cap (by omega);have s2:=gX (E:=EJ) CY g (k+1) (n+1) cap (by omega) (by omega);have s3:=gX (E:=EJ) CY g k (n+1) cap (by omega) (by omega);have q1:=r1 W.drew 3 (n+1-(k+1)) (cap-(k+1)) (n+1-k) (cap-k) hg (by omega);have q2:=r2 (W.drew.setRow g R1) 3 (n+1-k) (cap-k) (dK.set (show dK W.drew g cur 31 from hg) R1) (dK.other (show dK W.drew b _ 31 from hx) hne R1) rfl (by omega);have Q:=O (show Aq B l k c (D (K ⟨g,0,J⟩) n cap) W (.returned (D (K ⟨g,0,J⟩) (n+1) cap)) ((W.drew.setRow g R1).setRow g R2) from ⟨_,rfl,by rw [hn]; exact ow _ B hBg hcm (dK.set (dK.set (show dK W.drew g cur 31 from hg) R1) R2),below_setRow (below_setRow (Below.refl B W).drew hBg _) hBg _,fun j hj hne=>(setRow_other _ g j _ (fun e=>hne (by rw [e]; rfl))).trans (setRow_other _ g j _ (fun e=>hne (by rw [e]; rfl)))⟩);clear r1 r2 ow hg ht hx hsz hBg hcm;change ∀ w,(U 24 (D (K ⟨g,0,J⟩) n cap) (K (V X k)) J J).run L w=.ok (D (K ⟨g,k * 2,J⟩) (n-k) (cap-k)) w at s0;change ∀ w,(U 24 (D (K ⟨g,0,J⟩) n cap) J (K (V X ((n:Int)+1))) J).run L w=.ok (D (K ⟨g,0,J⟩) (n+1) cap) w at s1;change ∀ w,(U 24 (D (K ⟨g,0,J⟩) (n+1) cap) (K (V X ((k:Int)+1))) J J).run L w=.ok (D (K ⟨g,(k+1) * 2,J⟩) (n+1-(k+1)) (cap-(k+1))) w at s2;change ∀ w,(U 24 (D (K ⟨g,0,J⟩) (n+1) cap) (K (V X k)) J J).run L w=.ok (D (K ⟨g,k * 2,J⟩) (n+1-k) (cap-k)) w at s3;have e1:((k:Int) == (n:Int))=false:=by rw [beq_eq_false_iff_ne]; omega
 have e2:decide ((cap:Int)<(n:Int)+1)=false:=by simp; omega
 change (ah #[24,24] 3 #[D (K ⟨g,(k+1) * 2,J⟩) (n+1-(k+1)) (cap-(k+1)),D (K ⟨g,k * 2,J⟩) (n+1-k) (cap-k)]).run L W.drew=.ok (V X ((l.length-k:Nat):Int)) (W.drew.setRow g R1) at q1;change (ah #[24,24] 3 #[D (K ⟨g,k * 2,J⟩) (n+1-k) (cap-k),D (K ⟨b,0,J⟩) 1 1]).run L (W.drew.setRow g R1)=.ok (V X 1) ((W.drew.setRow g R1).setRow g R2) at q2;clear hn;go_enter aC,aB;go_wp2_with (first | (simp only [hov]) | fail);clear hov s0 s1 s2 s3;have hw1:IntKind.i64.wrap ((k:Int)+1)=(k:Int)+1:=by rw [aD]; omega
 have hb1:(0:Int)<=(k:Int)+1:=by omega
 have hb0:(k:Int)+1<=(n:Int)+1:=by omega
 have htn:((k:Int)+1).toNat=k+1:=by omega
 have hb2:¬ (cap=k+1):=by omega
 have hb3:(k:Int)<=(n:Int)+1:=by omega
 have hb4:¬ (cap=k):=by omega
 have h81:n+1-(k+1)=n-k:=by omega
 rw [h81] at q1;clear h81
 go_region_law (refine iW rfl (.tmp 73) (.tmp 76) 24 rfl (v:=D (K ⟨g,(k+1) * 2,J⟩) (n-k) (cap-(k+1))) (xv:=D (K ⟨g,k * 2,J⟩) (n+1-k) (cap-k)) (by simp [Act.eval,Act.put]) (by simp [Act.eval,Act.put]) q1 ?_)
 all_goals simp only [Exit.then]
 all_goals apply_assumption
 clear q1 hw1 hb1 hb0 htn hb2 hb3 hb4;have s3:=gX (E:=EJ) CY g k (n+1) cap (by omega) (by omega);change ∀ w,(U 24 (D (K ⟨g,0,J⟩) (n+1) cap) (K (V X k)) J J).run L w=.ok (D (K ⟨g,k * 2,J⟩) (n+1-k) (cap-k)) w at s3;go_wp2_with (first | (at_builtin; refine wpList_copy_run rfl _ _ 24 rfl rfl rfl q2 ?_) | fail);go_ret;exact Q.out
theorem FX (B g n cap:Nat) (cur:Array ay) (l:List fC) (k:Nat) (c:fC) (b:Nat) (W:ak) (hn:n=l.length) (hg:dK W g cur 31) (hcm:cap<=maxLen) (hnc:n<=cap) (ht:cur.toList.take (n * 2)=flat EJ l) (hx:dK W b (jO c).toArray 31) (hk:k<n) (hroom:cap<n+1) (hl:n<=900) (hB:B<=W.heap.size) :
  aI L 145 #[D (K ⟨g,0,J⟩) n cap,V X k,D (K ⟨b,0,J⟩) 1 1] W (Aq B l k c (D (K ⟨g,0,J⟩) n cap) W):=by
 have hgw:=hg.lt;have hbw:=hx.lt;obtain⟨G,R1,R2,R3,hG1,hG2,r1,r2,r3,ow⟩:=wF (E:=EJ) (l:=l) (k:=k) (cap:=cap) (cur:=cur) (cs:=(jO c).toArray) (c:=c) CY 3 Tryz.underlying3 (by omega) (by omega) (by omega) (by omega) (by rw [<- hn]; exact ht) W g b hg hbw;unfold maxLen at hcm hG2;have s0:=gX (E:=EJ) CY g k n cap (by omega) (by omega);have s1:=kE (E:=EJ) CY ⟨g,0,J⟩ k n cap (by omega);have s2:=gX (E:=EJ) CY W.heap.size k (n+1) G (by omega) (by omega);have s3:=gX (E:=EJ) CY W.heap.size (k+1) (n+1) G (by omega) (by omega);have a1:=r1 24;have n1:=dJ W.drew R1 31;have bl:W.drew.heap.size=W.heap.size:=rfl;rw [bl] at n1;have g1:dK (W.drew.alloc (aj R1 31)) g cur 31:=dK.more (show dK W.drew g cur 31 from hg) _;have x1:dK (W.drew.alloc (aj R1 31)) b (jO c).toArray 31:=dK.more (show dK W.drew b _ 31 from hx) _;have q2:=r2 (W.drew.alloc (aj R1 31)) 3 (n+1-k) (G-k) n1 x1 rfl (by omega);have q3:=r3 ((W.drew.alloc (aj R1 31)).setRow W.heap.size R2).drew 3 (n+1-(k+1)) (G-(k+1)) (n-k) (cap-k) (dK.set n1 R2) (dK.other g1 (by omega) R2) (by omega);have Q:=O (show Aq B l k c (D (K ⟨g,0,J⟩) n cap) W (.returned (D (K ⟨W.heap.size,0,J⟩) (n+1) G)) (((W.drew.alloc (aj R1 31)).setRow W.heap.size R2).drew.setRow W.heap.size R3) from ⟨_,rfl,by rw [hn]; exact ow _ B hB (dK.set (dK.set n1 R2) R3),below_setRow (below_setRow ((Below.refl B W).drew.alloc hB _) hB _).drew hB _,fun j hj _=>(setRow_other _ W.heap.size j _ (by omega)).trans ((setRow_other _ W.heap.size j _ (by omega)).trans (Array.getElem?_push_lt hj |>.trans (Array.getElem?_eq_getElem hj).symm))⟩);have l1:l.length+1=n+1:=by rw [hn]
 rw [l1,<- hn] at a1;clear r1 r2 r3 ow hg ht hx g1 x1 n1 bl l1;change ∀ w,(U 24 (D (K ⟨g,0,J⟩) n cap) (K (V X k)) J J).run L w=.ok (D (K ⟨g,k * 2,J⟩) (n-k) (cap-k)) w at s0;change ∀ w,(U 24 (D (K ⟨g,0,J⟩) n cap) J (K (V X k)) J).run L w=.ok (D (K ⟨g,0,J⟩) k cap) w at s1;change ∀ w,(U 24 (D (K ⟨W.heap.size,0,J⟩) (n+1) G) (K (V X k)) J J).run L w=.ok (D (K ⟨W.heap.size,k * 2,J⟩) (n+1-k) (G-k)) w at s2;change ∀ w,(U 24 (D (K ⟨W.heap.size,0,J⟩) (n+1) G) (K (V X ((k:Int)+1))) J J).run L w=.ok (D (K ⟨W.heap.size,(k+1) * 2,J⟩) (n+1-(k+1)) (G-(k+1))) w at s3;change (aG #[24,3] 24 #[D (K ⟨g,0,J⟩) k cap,V X ((n:Int)+1-k)]).run L W=.ok (D (K ⟨W.heap.size,0,J⟩) (n+1) G) (W.drew.alloc (aj R1 31)) at a1;change (ah #[24,24] 3 #[D (K ⟨W.heap.size,k * 2,J⟩) (n+1-k) (G-k),D (K ⟨b,0,J⟩) 1 1]).run L (W.drew.alloc (aj R1 31))=.ok (V X 1) ((W.drew.alloc (aj R1 31)).setRow W.heap.size R2) at q2;change (ah #[24,24] 3 #[D (K ⟨W.heap.size,(k+1) * 2,J⟩) (n+1-(k+1)) (G-(k+1)),D (K ⟨g,k * 2,J⟩) (n-k) (cap-k)]).run L ((W.drew.alloc (aj R1 31)).setRow W.heap.size R2).drew=.ok (V X ((l.length-k:Nat):Int)) (((W.drew.alloc (aj R1 31)).setRow W.heap.size R2).drew.setRow W.heap.size R3) at q3;have e1:((k:Int) == (n:Int))=false:=by rw [beq_eq_false_iff_ne]; omega
 have e2:decide ((cap:Int)<(n:Int)+1)=true:=by simp; omega
 have hGn:n+1<=G:=by omega
 clear hn;generalize W.heap.size=N at *;generalize W.drew.alloc (aj R1 31)=W1 at *;generalize W1.setRow N R2=W2 at *;go_enter aC,aB;go_wp2_with (first | (at_builtin; refine je rfl _ _ 24 3 rfl rfl rfl a1 ?_) | (at_builtin; refine wpList_copy_run rfl _ _ 24 rfl rfl rfl q2 ?_) | fail);clear a1 q2 s0 s1 s2 s3;have hw1:IntKind.i64.wrap ((k:Int)+1)=(k:Int)+1:=by rw [aD]; omega
 have hb1:(0:Int)<=(k:Int)+1:=by omega
 have hb0:(k:Int)+1<=(n:Int)+1:=by omega
 have htn:((k:Int)+1).toNat=k+1:=by omega
 have hb2:¬ (G=k+1):=by omega
 have hb3:(k:Int)<=(n:Int):=by omega
 have hb4:¬ (cap=k):=by omega
 have h81:n+1-(k+1)=n-k:=by omega
 rw [h81] at q3;clear h81
 go_region_law (refine iW rfl (.tmp 50) (.tmp 53) 24 rfl (v:=D (K ⟨N,(k+1) * 2,J⟩) (n-k) (G-(k+1))) (xv:=D (K ⟨g,k * 2,J⟩) (n-k) (cap-k)) (by simp [Act.eval,Act.put]) (by simp [Act.eval,Act.put]) q3 ?_)
 all_goals simp only [Exit.then]
 all_goals apply_assumption
 go_wp2;go_ret;exact Q.out
theorem Ib (B:Nat) (v:ay) (l:List fC) (k:Nat) (c:fC) (b:Nat) (W:ak) (ho:sG W B v l) (hx:dK W b (jO c).toArray 31) (hne:v.ownBlock≠K b) (hk:k<=l.length) (hl:l.length<=900) (hB:B<=W.heap.size) :
  aI L 145 #[v,V X k,D (K ⟨b,0,J⟩) 1 1] W (Aq B l k c v W):=by
 rcases au k l.length with h|h
 ·rcases gM ho with⟨_,h2⟩|⟨g,cap,cur,rfl,h1,h2,h3,h4,h5,h6⟩
  ·rw [h2] at h; simp at h
  ·rcases au cap (l.length+1) with h7|h7
   ·exact FX B g _ cap cur l k c b W rfl h2 h4 h3 h6 hx h h7 hl hB
   ·exact Di B g _ cap cur l k c b W rfl h1 h2 h4 h5 h6 hx (fun e=>hne (by simp [Value.ownBlock,e])) h h7 hl
 ·obtain rfl:k=l.length:=by omega
  exact Ia B v l c b W ho hx hl hB
end Av
end Go.Proofs.YtmklifheakemeaaGreat
