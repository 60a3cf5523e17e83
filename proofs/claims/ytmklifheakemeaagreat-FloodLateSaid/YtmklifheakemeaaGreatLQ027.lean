/-
  Covered of broadside. Conditions as told.
-/
import Derived.Test.YtmklifheakemeaaGreatLQ026
import Derived.Test.YtmklifheakemeaaGreatLQ021
set_option maxRecDepth 100000
set_option maxHeartbeats 64000000
open _root_.Bool renaming false->U,true->aA
open _root_.Go renaming World->aD,Value->aN,Calls->aQ
open Go.Calls renaming regrown_of->aF
open Go.IntKind renaming i64->O
open Go.Lib renaming hid->D
open Go.Obj renaming cells->X
open Go.Proofs.Tryz renaming results47->Z,prog->aI
open Go.RowKit.Below renaming heap_setCell->K,refl->ay
open Go.Value renaming slice->J,int->L,bool->V,agg->aK,pointer->aL
open _root_.List renaming getElem?_eq_getElem->ah,length_map->ak,mem_of_getElem?->aG,takeWhile_cons->aJ,map_cons->aM
open _root_.Nat renaming le_refl->aB,lt_or_ge->aC,zero_le->aP
open _root_.Option renaming none->Y,some->au
open Option.some renaming inj->aj
open _root_.Or renaming inr->aH,inl->aO
namespace Go.Proofs.YtmklifheakemeaaGreat
namespace Bk
open Go.RowKit Rw YtmklifheakemeaaGreat.Nm Pr Rl
def Sc (c:C5):Cn:=(c.1,if c.2.1=1 then .rg c.2.2.1 c.2.2.2.1 else if c.2.1=2 then .tx c.2.2.2.2 else .pr c.2.2.2.2)
theorem Vn (c:Cn):Sc (r5 c)=c:=by
 obtain⟨n,k⟩:=c;cases k <;> simp [Sc,r5,kN,iJ,iK,kT]
theorem lZ (a:List Cn):(a.map r5).map Sc=a:=by
 rw [List.map_map];have h:Sc∘r5=id:=funext Vn;rw [h,List.map_id]
def dW (p:List C5):Prop:=∃ a:List Cn,NF a/\p=a.map r5
def kM (p q:List C5):Bool:=lV (p.map Sc) (q.map Sc)
theorem Ms (nA bv:aN) (p q:List C5) (w:aD) (ha:eY w nA p) (hb:eY w bv q) (hp:dW p) (hq:dW q) :
  aQ aI 153 #[nA,bv] w fun e w'=>e=.returned (V (kM p q))/\Below w.heap.size w w':=by
 obtain⟨a,na,rfl⟩:=hp;obtain⟨b,nb,rfl⟩:=hq;unfold kM;rw [lZ,lZ];exact A8 nA bv a b w ha hb (by have:=na.five; omega) (by have:=nb.five; omega)
def Mt (t:Id) (p:List C5) (e:En):Bool:=decide (e.tree=t) && (e.up && kM e.p p)
def fH (m:List En) (t:Id) (p:List C5):Bool:=m.any (Mt t p)
theorem zR (me:Int) (nv av sv ov:aN) (ev:Sl) (l:List gW) (m:List En) (x:Id) (pv:aN) (p':List C5) (w:aD) (hs:kr w (dO ev) l) (hu:eZ (jQ w) l m) (hp:eY w pv p') (hok:∀ e∈m,dW e.p) (hop:dW p') :
  aQ aI 109 #[aK #[L O me,nv,av,sv,dO ev,ov],nU x,pv] w fun e w'=>e=.returned (V (fH m x p'))/\Below w.heap.size w w':=by
 have HU:=D hu;have HP:=D hp;have OK:=D hok;have OP:=D hop;obtain⟨pa,pc,rfl⟩:=hp.len;obtain⟨pn,hpn⟩:∃ n,n=p'.length:=⟨_,rfl⟩;rw [<- hpn] at HP ⊢;clear hu hp hok hop hpn;obtain⟨c,d⟩:=x;obtain⟨so,sn,sc⟩:=ev;obtain⟨ao,ac,hv⟩:=hs.len;have hv:J so sn sc=J ao l.length ac:=hv;obtain⟨rfl,rfl,rfl⟩:so=ao/\sn=l.length/\sc=ac:=by simpa using hv
 obtain⟨h0,h1,h2⟩:=gT w #[L O me,nv,av,sv,J so l.length sc,ov] #[L O c,L O d] 28 31;have B:=D h0;have HS:=D (hs.on h0);have X2:=D h1;have X3:=D h2;have lm:=hs.most;unfold maxLen at lm;obtain⟨n,hn⟩:∃ n,n=l.length:=⟨_,rfl⟩;have q3:=h1.cell 4;simp only [List.getElem?_toArray,List.getElem?_cons_zero,List.getElem?_cons_succ] at q3;rw [<- hn] at HS X2 lm q3 B X3 ⊢;have HN:=D hn.symm;clear h0 h1 h2 hs hv hn;go_enter Tryz.func109,Tryz.ntmps109;go_upto_region 1 with fail;generalize (w.alloc (X #[L O me,nv,av,sv,J so n sc,ov] 28)).alloc (X #[L O c,L O d] 31)=W at *;go_wp2
 go_loopw [12] (fun i wr=>∃ k:Nat,k<=n/\i=L O k/\Below W.heap.size W wr/\∀ (j:Nat) (y:En),j<k->m[j]?=au y->Mt (c,d) p' y=U) (fun i _=>n-(intOf i).toNat)
 case atStart=>exact⟨0,aP _,rfl,ay _ _,fun j y h=>by omega⟩
 case round =>
  obtain⟨k,hk,rfl,hbe,hall⟩:=hrel;have BE:=D hbe;have AL:=D hall;clear hbe hall;by_cases hlt:k<n
  ·obtain⟨y,hy⟩:∃ y,l[k]?=au y:=⟨_,ah (by rw [HN.out]; exact hlt)⟩;obtain⟨p,ix,px⟩:=KA HS.out rfl HN.out hy;obtain⟨p0,p1,p2,p3,p4,p5,p6⟩:=px wr BE.out;obtain⟨y1,y2,y3,y4,⟨yo,yn,yc⟩,y6,y7⟩:=y;simp only at p0 p1 p2 p3 p4 p5 p6;have NB:=D (gM wr (X #[L O y1,L O y2,L O y3,L O y4,J yo yn yc,L O y6,V y7] 66));obtain⟨x0,x1⟩:=((X3.out.on BE.out).on NB.out).cs2;have hw3:IntKind.i64.wrap ((k:Int)+1)=(k:Int)+1:=IntWalk.i64_in _ (by omega);obtain⟨me_,hm,hin⟩:=GH HU.out k _ hy;obtain⟨r,hr⟩:∃ r,(y1 == c && y2 == d)=r:=⟨_,rfl⟩;obtain⟨t,ht⟩:∃ r,kM me_.p p'=r:=⟨_,rfl⟩;have he:=qJ y1 y2 c d r hr;have HV:=D (show Mt (c,d) p' me_=(r && (y7 && t)) by
    rw [<- hr,<- ht];unfold Mt;rw [<- hin.1,<- hin.2.2.2.1];by_cases g1:y1=c <;> by_cases g2:y2=d <;> simp [g1,g2])
   have HM:=D hm;have CV:=D (fun W' (hb':Below w.heap.size w W')=>(Ms (J yo yn yc) (J pa pn pc) me_.p p' W' (hin.2.2.2.2.on hb') (HP.out.on hb') (OK.out _ (aG hm)) OP.out));rw [ht] at CV;clear px hy hr ht hm hin;cases r
   ·go_wp2
    go_roundw
    case rel=>exact⟨k+1,by omega,by go_num,BE.out.trans (NB.out.mono BE.out.size),fun j y' hj h1=>by
     rcases aC j k with h3|h3
     ·exact AL.out j y' h3 h1
     ·obtain rfl:j=k:=by omega
      have e1:=HM.out;rw [h1] at e1;rw [aj e1];exact HV.out.trans (by simp)⟩
    case measure=>simp [intOf]; omega
   ·cases y7
    ·go_wp2
     go_roundw
     case rel=>exact⟨k+1,by omega,by go_num,BE.out.trans (NB.out.mono BE.out.size),fun j y' hj h1=>by
     rcases aC j k with h3|h3
     ·exact AL.out j y' h3 h1
     ·obtain rfl:j=k:=by omega
      have e1:=HM.out;rw [h1] at e1;rw [aj e1];exact HV.out.trans (by simp)⟩
     case measure=>simp [intOf]; omega
    ·have BF:=D (BE.out.trans (NB.out.mono BE.out.size));have CW:=D (CV.out _ (B.out.trans (BF.out.mono B.out.size)));clear CV;go_wp2_with fail;refine CW.out.mono ?_;rintro e3 w3 ⟨rfl,hb⟩;have BG:=D (BF.out.trans (hb.mono BF.out.size));clear CW hb x0 x1 p0 p1 p2 p3 p4 p5 p6 ix he;cases t
     ·go_wp2
      go_roundw
      case rel=>exact⟨k+1,by omega,by go_num,BG.out,fun j y' hj h1=>by
     rcases aC j k with h3|h3
     ·exact AL.out j y' h3 h1
     ·obtain rfl:j=k:=by omega
      have e1:=HM.out;rw [h1] at e1;rw [aj e1];exact HV.out.trans (by simp)⟩
      case measure=>simp [intOf]; omega
     ·go_wp2;go_ret;have hd:fH m (c,d) p'=aA:=by
       unfold fH;rw [List.any_eq_true];exact⟨me_,aG HM.out,HV.out.trans (by simp)⟩
      exact⟨by rw [hd]; rfl,B.out.trans (BG.out.mono B.out.size)⟩
  ·obtain rfl:k=n:=by omega
   go_wp2;go_ret;have hd:fH m (c,d) p'=U:=by
    unfold fH;rw [List.any_eq_false];intro e he;obtain⟨j,hj,Yk⟩:=List.getElem_of_mem he;have h9:=AL.out j e (by rw [<- HN.out,HU.out.len]; exact hj) (by rw [ah hj,Yk]);simpa using h9
   exact⟨by rw [hd]; rfl,B.out.trans (BE.out.mono B.out.size)⟩
end Bk
namespace Bk
open Go.RowKit Go.Sort Rw YtmklifheakemeaaGreat.Nm Pr
theorem sM {κ:Type} (f:κ->Bool) (l:List κ) (k:Nat) (hall:∀ (j:Nat) (y:κ),j<k->l[j]?=au y->f y=aA) (hend:k=l.length\/∃ y,l[k]?=au y/\f y=U):(l.takeWhile f).length=k:=by
 induction l generalizing k with
 | nil =>
  rcases hend with h|⟨y,h,_⟩
  ·rw [h]; rfl
  ·simp at h
 | cons a l ih =>
  cases k with
  | zero =>
   rcases hend with h|⟨y,h,h2⟩
   ·simp at h
   ·obtain rfl:a=y:=by simpa using h
    rw [aJ,h2]
    rfl
  | succ k =>
   have h0:=hall 0 a (by omega) rfl;rw [aJ,h0];simp only [if_true,List.length_cons];rw [ih k (fun j y hj hy=>hall (j+1) y (by omega) (by simpa using hy)) (by
    rcases hend with h|⟨y,h,h2⟩
    ·exact aO (by simpa using h)
    ·exact aH ⟨y,by simpa using h,h2⟩)]
def iM (a b:Id×Id):Bool:=dY a.1 b.1 || (eqI a.1 b.1 && dY a.2 b.2)
def dX (l:List (Id×Id)) (x:Id×Id):Nat:=(l.takeWhile fun a=>iM a x).length
noncomputable def Yl:Code:=((Tryz.f47.body.bind (jA 0)).getD .skip)
theorem sN (Q:Exit->Act->aD->Prop) (W:aD) (b2 b3:Nat) (me c d g h:Int) (y1_ y2_ y3_ y5_ p3' p4' p5':aN) (so:Option Addr) (n sc:Nat) (l:List gW) (u0 u1 u4 u5 u6 u8 u9 u10 u11 u12 u13 u14 u15 u16 u17 u18 u19 u20 u21 u22 u23 u24 u25 u26 u27 u28 u29 u30 u31 u32 u33 u34 u35 u36 u37 u38 u39 u40 u41 u42 u43 u44 u45 u46 u47 u48 u49 u50 u51 u52 u53 u54 u55 u56 u57 u58 u59 u60 u61 u62 u63 u64 u65 u66 u67 u68 u69 u70 u71 u72 u73 u74 u75 u76 u77 u78 u79 u80 u81 u82 u83 u84 u85 u86 u87 u88 u89 u90 u91 u92 u93 u94 u95 u96 u97 u98 u99 u100 u101 u102 u103 u104 u105 u106 u107 u108 u109 u110 u111 u112 u113 u114:aN)
  (h2:dI W b2 #[L O me,y1_,y2_,y3_,J so n sc,y5_] 28) (h3:dI W b3 #[L O c,L O d,L O g,L O h,p3',p4',p5'] 66) (hs:kr W (J so n sc) l) (hn:n=l.length) (hm:n<=1000000)
  (hQ:∀ (wr:aD) (v57 v58 v59 v60 v61 v62 v63 v64 v65 v66 v67 v68 v69 v70 v71 v72 v73 v74 v75 v76 v77 v78 v79 v80 v81 v82 v83 v84 v85 v86 v87 v88 v89 v90 v91 v92 v93 v94 v95 v96:aN),Below W.heap.size W wr->Q .normal ⟨(u0::u1::aL (au ⟨b2,0,Y⟩)::aL (au ⟨b3,0,Y⟩)::u4::u5::u6::L O (dX (l.map gV) ((c,d),(g,h)):Nat)::u8::u9::u10::u11::u12::u13::u14::u15::u16::u17::u18::u19::u20::u21::u22::u23::u24::u25::u26::u27::u28::u29::u30::u31::u32::u33::u34::u35::u36::u37::u38::u39::u40::u41::u42::u43::u44::u45::u46::u47::u48::u49::u50::u51::u52::u53::u54::u55::u56::v57::v58::v59::v60::v61::v62::v63::v64::v65::v66::v67::v68::v69::v70::v71::v72::v73::v74::v75::v76::v77::v78::v79::v80::v81::v82::v83::v84::v85::v86::v87::v88::v89::v90::v91::v92::v93::v94::v95::v96::u97::u98::u99::u100::u101::u102::u103::u104::u105::u106::u107::u108::u109::u110::u111::u112::u113::u114::[]).toArray,[]⟩ wr) :
  Code.wp aI Yl Q ⟨(u0::u1::aL (au ⟨b2,0,Y⟩)::aL (au ⟨b3,0,Y⟩)::u4::u5::u6::L O 0::u8::u9::u10::u11::u12::u13::u14::u15::u16::u17::u18::u19::u20::u21::u22::u23::u24::u25::u26::u27::u28::u29::u30::u31::u32::u33::u34::u35::u36::u37::u38::u39::u40::u41::u42::u43::u44::u45::u46::u47::u48::u49::u50::u51::u52::u53::u54::u55::u56::u57::u58::u59::u60::u61::u62::u63::u64::u65::u66::u67::u68::u69::u70::u71::u72::u73::u74::u75::u76::u77::u78::u79::u80::u81::u82::u83::u84::u85::u86::u87::u88::u89::u90::u91::u92::u93::u94::u95::u96::u97::u98::u99::u100::u101::u102::u103::u104::u105::u106::u107::u108::u109::u110::u111::u112::u113::u114::[]).toArray,[]⟩ W:=by
 have HQ:=D hQ;have H2:=D h2;have H3:=D h3;have HS:=D hs;have HN:=D hn;clear hQ h2 h3 hs hn
 conv=>arg 2; whnf
 go_wp2
 go_loopw [7] (fun i wr=>∃ k:Nat,k<=n/\i=L O k/\Below W.heap.size W wr/\∀ (j:Nat) (y:Id×Id),j<k->(l.map gV)[j]?=au y->iM y ((c,d),(g,h))=aA) (fun i _=>n-(intOf i).toNat)
 case atStart=>exact⟨0,aP _,rfl,ay _ _,fun j y h=>by omega⟩
 case round =>
  obtain⟨k,hk,rfl,hbe,hall⟩:=hrel;have BE:=D hbe;have AL:=D hall;clear hbe hall;have q0:=cell_regrown (show wr.cell? ⟨b2,4,Y⟩=au (J so n sc) from (H2.out.on BE.out).cell 4);have r0:=cell_regrown (show wr.cell? ⟨b3,0,Y⟩=au (L O c) from (H3.out.on BE.out).cell 0);have r1:=cell_regrown (show wr.cell? ⟨b3,1,Y⟩=au (L O d) from (H3.out.on BE.out).cell 1);have r2:=cell_regrown (show wr.cell? ⟨b3,2,Y⟩=au (L O g) from (H3.out.on BE.out).cell 2);have r3:=cell_regrown (show wr.cell? ⟨b3,3,Y⟩=au (L O h) from (H3.out.on BE.out).cell 3);have hw3:IntKind.i64.wrap ((k:Int)+1)=(k:Int)+1:=IntWalk.i64_in _ (by omega);by_cases hlt:k<n
  ·obtain⟨y,hy⟩:∃ y,l[k]?=au y:=⟨_,ah (by rw [<- HN.out]; exact hlt)⟩;obtain⟨p,ix,px⟩:=KA HS.out rfl HN.out.symm hy;have Ml:=px wr BE.out;obtain⟨y1,y2,y3,y4,⟨yo,yn,yc⟩,y6,y7⟩:=y;simp only at Ml;have p0:=cell_regrown Ml.1;have p1:=cell_regrown Ml.2.1;have p2:=cell_regrown Ml.2.2.1;have p3:=cell_regrown Ml.2.2.2.1;have DK:decide ((k:Int)<(n:Int))=aA:=decide_eq_true (by omega);have Mq:decide (k<n)=aA:=decide_eq_true hlt;obtain⟨r,hr⟩:∃ r,dY (y1,y2) (c,d)=r:=⟨_,rfl⟩;obtain⟨t,ht⟩:∃ r,(y1 == c && y2 == d)=r:=⟨_,rfl⟩;obtain⟨s,hs⟩:∃ r,dY (y3,y4) (g,h)=r:=⟨_,rfl⟩;have he:=qJ y1 y2 c d t ht;have LS:=D (fun d' os=>aF (d:=d') (os:=os) ((uZ (y1,y2) (c,d) (grow (redrawn wr d') os)).mono fun _ _ h=>⟨by rw [h.1,hr],h.2⟩));have LT:=D (fun d' os=>aF (d:=d') (os:=os) ((uZ (y3,y4) (g,h) (grow (redrawn wr d') os)).mono fun _ _ h=>⟨by rw [h.1,hs],h.2⟩));have HY:=D (show (l.map gV)[k]?=au ((y1,y2),(y3,y4)) by rw [List.getElem?_map,hy]; rfl);have HV:=D (show iM ((y1,y2),(y3,y4)) ((c,d),(g,h))=(r || (t && s)) by rw [<- hr,<- ht,<- hs]; rfl);clear px Ml hy hr ht hs;cases r
   ·cases t
    ·have HR:=D (HV.out.trans (show _=U by simp));go_wp2_with fail;refine wp_region_quiet_below (by kernel_rfl) (by kernel_rfl) ?_
     repeat (go_big_quiet_step (first | (with_reducible exact LS.out _ _) | (with_reducible exact LT.out _ _)))
     refine wpQuiet_nil ?_;intro _ hw';obtain⟨⟨dq,osq⟩,hw''⟩:=hw';subst hw'';have Z6:=below_regrown wr dq osq;have HF:=D (fun v57 v58 v59 v60 v61 v62 v63 v64 v65 v66 v67 v68 v69 v70 v71 v72 v73 v74 v75 v76 v77 v78 v79 v80 v81 v82 v83 v84 v85 v86 v87 v88 v89 v90 v91 v92 v93 v94 v95 v96=>HQ.out (grow (redrawn wr dq) osq) v57 v58 v59 v60 v61 v62 v63 v64 v65 v66 v67 v68 v69 v70 v71 v72 v73 v74 v75 v76 v77 v78 v79 v80 v81 v82 v83 v84 v85 v86 v87 v88 v89 v90 v91 v92 v93 v94 v95 v96 (BE.out.trans (Z6.mono BE.out.size)));rw [show dX (l.map gV) ((c,d),(g,h))=k from sM _ _ k AL.out (aH ⟨_,HY.out,HR.out⟩)] at HF;clear ix HQ q0 r0 r1 r2 r3 LS LT DK Mq p0 p1 p2 p3 he;go_wp2;exact HF.out _ _ _ _ _ _ _ _ _ _ _ _ _ _ _ _ _ _ _ _ _ _ _ _ _ _ _ _ _ _ _ _ _ _ _ _ _ _ _ _
    ·cases s
     ·have HR:=D (HV.out.trans (show _=U by simp));go_wp2_with fail;refine wp_region_quiet_below (by kernel_rfl) (by kernel_rfl) ?_
      repeat (go_big_quiet_step (first | (with_reducible exact LS.out _ _) | (with_reducible exact LT.out _ _)))
      refine wpQuiet_nil ?_;intro _ hw';obtain⟨⟨dq,osq⟩,hw''⟩:=hw';subst hw'';have Z6:=below_regrown wr dq osq;have HF:=D (fun v57 v58 v59 v60 v61 v62 v63 v64 v65 v66 v67 v68 v69 v70 v71 v72 v73 v74 v75 v76 v77 v78 v79 v80 v81 v82 v83 v84 v85 v86 v87 v88 v89 v90 v91 v92 v93 v94 v95 v96=>HQ.out (grow (redrawn wr dq) osq) v57 v58 v59 v60 v61 v62 v63 v64 v65 v66 v67 v68 v69 v70 v71 v72 v73 v74 v75 v76 v77 v78 v79 v80 v81 v82 v83 v84 v85 v86 v87 v88 v89 v90 v91 v92 v93 v94 v95 v96 (BE.out.trans (Z6.mono BE.out.size)));rw [show dX (l.map gV) ((c,d),(g,h))=k from sM _ _ k AL.out (aH ⟨_,HY.out,HR.out⟩)] at HF;clear ix HQ q0 r0 r1 r2 r3 LS LT DK Mq p0 p1 p2 p3 he;go_wp2;exact HF.out _ _ _ _ _ _ _ _ _ _ _ _ _ _ _ _ _ _ _ _ _ _ _ _ _ _ _ _ _ _ _ _ _ _ _ _ _ _ _ _
     ·have HR:=D (HV.out.trans (show _=aA by simp));go_wp2_with fail;refine wp_region_quiet_below (by kernel_rfl) (by kernel_rfl) ?_
      repeat (go_big_quiet_step (first | (with_reducible exact LS.out _ _) | (with_reducible exact LT.out _ _)))
      refine wpQuiet_nil ?_;intro _ hw';obtain⟨⟨dq,osq⟩,hw''⟩:=hw';subst hw'';have Z6:=D (below_regrown wr dq osq);clear ix q0 r0 r1 r2 r3 LS LT DK Mq p0 p1 p2 p3 he;go_wp2
      go_roundw
      case rel=>exact⟨k+1,by omega,by go_num,BE.out.trans (Z6.out.mono BE.out.size),fun j y' hj h1=>by
       rcases aC j k with h3|h3
       ·exact AL.out j y' h3 h1
       ·obtain rfl:j=k:=by omega
        have e1:=HY.out;rw [h1] at e1;rw [aj e1];exact HR.out⟩
      case measure=>simp [intOf]; omega
   ·have HR:=D (HV.out.trans (show _=aA by simp));go_wp2_with fail;refine wp_region_quiet_below (by kernel_rfl) (by kernel_rfl) ?_
    repeat (go_big_quiet_step (first | (with_reducible exact LS.out _ _) | (with_reducible exact LT.out _ _)))
    refine wpQuiet_nil ?_;intro _ hw';obtain⟨⟨dq,osq⟩,hw''⟩:=hw';subst hw'';have Z6:=D (below_regrown wr dq osq);clear ix q0 r0 r1 r2 r3 LS LT DK Mq p0 p1 p2 p3 he;go_wp2
    go_roundw
    case rel=>exact⟨k+1,by omega,by go_num,BE.out.trans (Z6.out.mono BE.out.size),fun j y' hj h1=>by
     rcases aC j k with h3|h3
     ·exact AL.out j y' h3 h1
     ·obtain rfl:j=k:=by omega
      have e1:=HY.out;rw [h1] at e1;rw [aj e1];exact HR.out⟩
    case measure=>simp [intOf]; omega
  ·obtain rfl:n=k:=by omega
   have DK:decide ((n:Int)<(n:Int))=U:=by simp
   have Mq:decide (n<n)=U:=by simp
   go_wp2_with fail;refine wp_region_quiet_below (by kernel_rfl) (by kernel_rfl) ?_
   repeat (go_big_quiet_step (fail))
   refine wpQuiet_nil ?_;intro _ hw';obtain⟨⟨dq,osq⟩,hw''⟩:=hw';subst hw'';have Z6:=below_regrown wr dq osq;have HF:=D (fun v57 v58 v59 v60 v61 v62 v63 v64 v65 v66 v67 v68 v69 v70 v71 v72 v73 v74 v75 v76 v77 v78 v79 v80 v81 v82 v83 v84 v85 v86 v87 v88 v89 v90 v91 v92 v93 v94 v95 v96=>HQ.out (grow (redrawn wr dq) osq) v57 v58 v59 v60 v61 v62 v63 v64 v65 v66 v67 v68 v69 v70 v71 v72 v73 v74 v75 v76 v77 v78 v79 v80 v81 v82 v83 v84 v85 v86 v87 v88 v89 v90 v91 v92 v93 v94 v95 v96 (BE.out.trans (Z6.mono BE.out.size)));rw [show dX (l.map gV) ((c,d),(g,h))=n from sM _ _ n AL.out (aO (by simpa using HN.out))] at HF;clear HQ q0 r0 r1 r2 r3 DK Mq;go_wp2;exact HF.out _ _ _ _ _ _ _ _ _ _ _ _ _ _ _ _ _ _ _ _ _ _ _ _ _ _ _ _ _ _ _ _ _ _ _ _ _ _ _ _
abbrev fA (e:En):Id×Id:=(e.tree,e.sub)
theorem keys_eq {W:aD} {l:List gW} {m:List En} (h:eZ (jQ W) l m):l.map gV=m.map fA:=by
 induction h with
 | nil=>rfl
 | cons x t ih=>rw [aM,aM,ih,show gV _=fA _ from Prod.ext x.1 x.2.1]
def iB (b:Br) (e:En):Br×Bool:=match b.dV[(fE (b.dV.map Ad.id) e.tree).toNat]? with
 | none=>(b,U)
 | some a=>if fE (b.dV.map Ad.id) e.tree=-1 then (b,U) else if jo (b.ent.map fA) (fA e)≠-1 then (b,U) else if e.from_≠-1/\e.from_=a.par then (b,U) else
  ({ b with ent:=fC b.ent (dX (b.ent.map fA) (fA e)) { e with up:=decide (a.par≠-1) && !fH b.ent e.tree e.p } },decide (a.par≠-1) && !fH b.ent e.tree e.p)
theorem kY (l:List (Id×Id)) (x:Id×Id):dX l x<=l.length:=by
 unfold dX;exact (List.takeWhile_sublist _).length_le
theorem kG {W:aD} {b:Nat} {c d g h f:Int} {p:Sl} {u:Bool} (hb:dI W b #[L O c,L O d,L O g,L O h,dO p,L O f,V u] 66):∀ x,Below W.heap.size W x->∀ j v,(gX (c,d,g,h,p,f,u))[j]?=au v->x.cell? ((⟨b,0,Y⟩:Addr).add j)=au v:=by
 intro x hx j v hj;rw [nC,(hb.on hx).cell]
 match j with
 | 0=>exact hj
 | 1=>exact hj
 | 2=>exact hj
 | 3=>exact hj
 | 4=>exact hj
 | 5=>exact hj
 | 6=>exact hj
 | j+7=>simp at hj
theorem yT (b:Br) (nv av sv ev ov:Sl) (z:gW) (e:En) (w:aD) (es:List gW) (R:gW->En->Prop) (h_:lS w b nv av sv ev ov) (he1:kr w (dO ev) es) (he2:eZ (jQ w) es b.ent) (hr2:eZ R es b.ent) (hrz:∀ u,R (z.1,z.2.1,z.2.2.1,z.2.2.2.1,z.2.2.2.2.1,z.2.2.2.2.2.1,u) { e with up:=u }) (hz:jQ w z e) (l2:b.dV.length<=900) (l3:b.ent.length<=900) (hok:∀ e∈b.ent,dW e.p) (hop:dW e.p) :
  aQ aI 47 #[lN b.me nv av sv ev ov,nY z] w fun e' w'=>(∃ (ev':Sl) (xs:List gW),e'=.returned (.tuple #[lN b.me nv av sv ev' ov,V (iB b e).2])/\((ev'=ev/\xs=es/\(iB b e).1=b)\/jZ w' w.heap.size (dO ev') xs)/\eZ R xs (iB b e).1.ent)/\Below w.heap.size w w':=by
 obtain⟨no,nn,nc⟩:=nv;obtain⟨ao,an,ac⟩:=av;obtain⟨so,sn,sc⟩:=sv;obtain⟨eo,en,ec⟩:=ev;obtain⟨oo,gI,oc⟩:=ov;obtain⟨c,d,g,h,⟨po,pn,pc⟩,fr,Sd⟩:=z;obtain⟨⟨tc,td⟩,⟨sg,sh⟩,p',fr',up'⟩:=e;obtain⟨hz1,hz2,hz3,Vo,hz5⟩:=hz;obtain⟨rfl,rfl⟩:c=tc/\d=td:=by simpa using hz1
 obtain⟨rfl,rfl⟩:g=sg/\h=sh:=by simpa using hz2
 obtain rfl:fr=fr':=hz3;obtain rfl:Sd=up':=Vo;have HP:=D hz5;have HR2:=D hr2;have WU:=D hrz;clear hr2 hrz;obtain⟨xs,hx1,hx2⟩:=h_.dV;have IDS:=D (U7 hx2);have Vp:=D (keys_eq he2);have XL:=D (show xs.length<=900 by rw [hx2.len]; exact l2);have EL:=D (show es.length<=900 by rw [he2.len]; exact l3);have HA2:=D hx2;have HE2:=D he2;have OK:=D hok;have OP:=D hop;obtain⟨q1,q2,hq⟩:=hx1.len;obtain⟨rfl,rfl,rfl⟩:ao=q1/\an=xs.length/\ac=q2:=by
  have:J ao an ac=J q1 xs.length q2:=hq;simpa using this
 clear hq;obtain⟨q1,q2,hq⟩:=he1.len;obtain⟨rfl,rfl,rfl⟩:eo=q1/\en=es.length/\ec=q2:=by
  have:J eo en ec=J q1 es.length q2:=hq;simpa using this
 clear hq;have FD:=Jb b.me (J no nn nc) (J eo es.length ec) (J so sn sc) (J oo gI oc) (ao,xs.length,ac) xs (c,d);have EN:=Er b.me (J no nn nc) (J ao xs.length ac) (J so sn sc) (J oo gI oc) (eo,es.length,ec) es (c,d) (g,h);have CV:=fun W hb'=>zR b.me (J no nn nc) (J ao xs.length ac) (J so sn sc) (J oo gI oc) (eo,es.length,ec) es b.ent (c,d) (J po pn pc) p' W (he1.on (show Below w.heap.size w W from hb')) (he2.mono fun _ _ h=>h.on hb') (hz5.on hb') hok hop;have HH:=D h_;obtain⟨h0,h1,h2,h3⟩:=je w #[L O b.me,J no nn nc,J ao xs.length ac,J so sn sc,J eo es.length ec,J oo gI oc] #[L O c,L O d,L O g,L O h,J po pn pc,L O fr,V Sd] #[L O 0,J Y 0 0,J Y 0 0,J Y 0 0,J Y 0 0,J Y 0 0] 28 66 28;obtain⟨n2,hn2⟩:∃ n,n=xs.length:=⟨_,rfl⟩;obtain⟨n3,hn3⟩:∃ n,n=es.length:=⟨_,rfl⟩;simp only [<- hn2,<- hn3] at h0 h1 h2 h3 hx1 he1 HH FD EN CV ⊢;have B0:=D h0;have X2:=D h1;have X3:=D h2;have X5:=D h3;have HS:=D hx1;have HE:=D he1;have N2:=D hn2;have N3:=D hn3;obtain⟨me,hme⟩:∃ me,me=b.me:=⟨_,rfl⟩;simp only [<- hme] at X2 B0 X3 X5 FD EN CV ⊢;have EN:=D EN;have CV:=D CV;clear h0 h1 h2 h3 hx1 he1 hx2 he2 h_ hn2 hn3 l2 l3 hme hz1 hz2 hz5 hok hop;show aQ aI 47 #[aK #[L O me,J no nn nc,J ao n2 ac,J so sn sc,J eo n3 ec,J oo gI oc],aK #[L O c,L O d,L O g,L O h,J po pn pc,L O fr,V Sd]] w _;go_enter Tryz.func47,Tryz.ntmps47;go_upto_region 1 with fail;generalize (((w.alloc (X #[L O me,J no nn nc,J ao n2 ac,J so sn sc,J eo n3 ec,J oo gI oc] 28)).alloc (X #[L O c,L O d,L O g,L O h,J po pn pc,L O fr,V Sd] 66)).alloc (X #[L O 0,J Y 0 0,J Y 0 0,J Y 0 0,J Y 0 0,J Y 0 0] 28))=W at *;have SW:=D (FD W (HS.out.on B0.out));clear FD;have x_:=X2.out;have y_:=X3.out;obtain⟨x0,x1,x2,x3,x4,x5⟩:=x_.gP;obtain⟨y0,y1,y2,y3,y4,y5,y6⟩:=y_.mE;clear x_ y_;go_wp2_with fail;refine SW.out.mono ?_;rintro e1 w1 ⟨rfl,hb⟩;have B1:=D (B0.out.trans (hb.mono B0.out.size));have Y2:=D (X2.out.on hb);have Y3:=D (X3.out.on hb);have Y5:=D (X5.out.on hb);clear SW hb X2 X3 X5 x0 x1 x2 x3 x4 x5 y0 y1 y2 y3 y4 y5 y6;have a0:=cell_regrown (show w1.cell? ⟨w.heap.size,0,Y⟩=au (L O me) from Y2.out.cell 0);have a1:=cell_regrown (show w1.cell? ⟨w.heap.size,1,Y⟩=au (J no nn nc) from Y2.out.cell 1);have a2:=cell_regrown (show w1.cell? ⟨w.heap.size,2,Y⟩=au (J ao n2 ac) from Y2.out.cell 2);have a3:=cell_regrown (show w1.cell? ⟨w.heap.size,3,Y⟩=au (J so sn sc) from Y2.out.cell 3);have a4:=cell_regrown (show w1.cell? ⟨w.heap.size,4,Y⟩=au (J eo n3 ec) from Y2.out.cell 4);have a5:=cell_regrown (show w1.cell? ⟨w.heap.size,5,Y⟩=au (J oo gI oc) from Y2.out.cell 5);have b0:=cell_regrown (show w1.cell? ⟨w.heap.size+1,0,Y⟩=au (L O c) from Y3.out.cell 0);have b1:=cell_regrown (show w1.cell? ⟨w.heap.size+1,1,Y⟩=au (L O d) from Y3.out.cell 1);have b2:=cell_regrown (show w1.cell? ⟨w.heap.size+1,2,Y⟩=au (L O g) from Y3.out.cell 2);have b3:=cell_regrown (show w1.cell? ⟨w.heap.size+1,3,Y⟩=au (L O h) from Y3.out.cell 3);have b4:=cell_regrown (show w1.cell? ⟨w.heap.size+1,4,Y⟩=au (J po pn pc) from Y3.out.cell 4);have b5:=cell_regrown (show w1.cell? ⟨w.heap.size+1,5,Y⟩=au (L O fr) from Y3.out.cell 5);have b6:=cell_regrown (show w1.cell? ⟨w.heap.size+1,6,Y⟩=au (V Sd) from Y3.out.cell 6);have CE:=D (fun d os=>aF (d:=d) (os:=os) (EN.out _ ((HE.out.on B1.out).on (below_regrown w1 d os))));clear EN;rcases Qw xs (c,d) with hf|⟨k,y,hf,hy⟩
 ·have LB:=D (show iB b ⟨(c,d),(g,h),p',fr,Sd⟩=(b,U) by
   have hf':=hf;rw [IDS.out] at hf';unfold iB;simp only;rw [hf']
   split
   ·rfl
   ·rw [if_pos rfl])
  rw [hf];clear hf;go_upto_region 2 with fail;refine wp_region_quiet_below (by kernel_rfl) (by kernel_rfl) ?_
  repeat (go_big_quiet_step (fail))
  refine wpQuiet_nil ?_;intro _ hw';obtain⟨⟨dq,osq⟩,hw''⟩:=hw';subst hw'';have Z6:=below_regrown w1 dq osq;have B2:=D (B1.out.trans (Z6.mono B1.out.size));have Z2:=D (Y2.out.on Z6);have Z3:=D (Y3.out.on Z6);have Z5:=D (Y5.out.on Z6);clear Z6 B1 Y2 Y3 Y5 a0 a1 a2 a3 a4 a5 b0 b1 b2 b3 b4 b5 b6;generalize grow (redrawn w1 dq) osq=w2 at *;have FB:=D (dZ Z5.out (L O me) (J no nn nc) (J ao n2 ac) (J so sn sc) (J eo n3 ec) (J oo gI oc));have BL:=D (dN (b:=w.heap.size+1+1) B2.out (by omega) (L O me) (J no nn nc) (J ao n2 ac) (J so sn sc) (J eo n3 ec) (J oo gI oc));have Sg:=Z2.out;have GI:=Z5.out;obtain⟨x0,x1,x2,x3,x4,x5⟩:=Sg.gP;obtain⟨r0,r1,r2,r3,r4,r5⟩:=GI.gP;obtain⟨t0,t1,t2,t3,t4,t5⟩:=GI.pO;have zz:=GI.lt;clear Sg GI;go_wp2_with fail;obtain⟨v0,v1,v2,v3,v4,v5⟩:=FB.out.gP;refine bodyPost_ret (v:=.tuple #[aK #[L O me,J no nn nc,J ao n2 ac,J so sn sc,J eo n3 ec,J oo gI oc],V U]) (by simp [results,Z,go_sem,v0,v1,v2,v3,v4,v5]) rfl ?_;rw [LB.out];exact⟨⟨(eo,n3,ec),es,rfl,aO ⟨rfl,rfl,rfl⟩,HR2.out⟩,BL.out⟩
 ·have HF:=D hf;have HY:=D hy;have hk:=(List.getElem?_eq_some_iff.1 hy).1;have XL2:=XL.out;have hkn:k<n2:=by rw [N2.out]; exact hk
  obtain⟨p,ix,px⟩:=Qq HS.out rfl N2.out.symm hy;obtain⟨z1,z2,⟨zo,zn,zc⟩,par⟩:=y;have PX:=D px;have pr:=cell_regrown (show w1.cell? ⟨p.block,p.off+3,Y⟩=au (L O par) from (px w1 B1.out).2.2.2);obtain⟨a,hak⟩:∃ a,b.dV[k]?=au a:=⟨_,ah (by rw [<- HA2.out.len]; exact hk)⟩;have hap:a.par=par:=by
   obtain⟨z,hz1,hz2⟩:=HA2.out.at k a hak;rw [HY.out] at hz1;obtain rfl:=aj hz1;exact hz2.2.1.symm
  have LA:=D (show ∀ i,jo (es.map gV) ((c,d),(g,h))=i->iB b ⟨(c,d),(g,h),p',fr,Sd⟩=if i≠-1 then (b,U) else if fr≠-1/\fr=par then (b,U) else ({ b with ent:=fC b.ent (dX (b.ent.map fA) ((c,d),(g,h))) ⟨(c,d),(g,h),p',fr,decide (par≠-1) && !fH b.ent (c,d) p'⟩ },decide (par≠-1) && !fH b.ent (c,d) p') from fun i hi=>by
   have hf':=HF.out;rw [IDS.out] at hf';rw [Vp.out] at hi;unfold iB;simp only;rw [hf',Int.toNat_natCast,hak];simp only;rw [if_neg (by omega),hap,hi])
  have hik:decide ((k:Int)<0)=U:=decide_eq_false (by omega);rw [hf];clear hf hy px hak hap HF HY;rcases mK (es.map gV) ((c,d),(g,h)) with he|⟨j,he,_⟩
  ·have LC:=LA.out _ he;rw [if_neg (by simp)] at LC;rw [he] at CE;clear LA he;obtain⟨f1,hf1⟩:∃ r,(fr != -1)=r:=⟨_,rfl⟩;obtain⟨f2,hf2⟩:∃ r,(fr == par)=r:=⟨_,rfl⟩;have F1:=D hf1;have F2_:=D hf2;cases f1
   ·have LD:=LC;rw [if_neg (by exact fun q=>q.1 (by simpa using hf1))] at LD;clear LC;go_upto_region 2 with fail;refine wp_region_quiet_below (by kernel_rfl) (by kernel_rfl) ?_
    repeat (go_big_quiet_step (first | (with_reducible exact CE.out _ _)))
    refine wpQuiet_nil ?_;intro _ hw';obtain⟨⟨dq,osq⟩,hw''⟩:=hw';subst hw'';have Z6:=below_regrown w1 dq osq;have B2:=D (B1.out.trans (Z6.mono B1.out.size));have Z2:=D (Y2.out.on Z6);have Z3:=D (Y3.out.on Z6);have Z5:=D (Y5.out.on Z6);clear Z6 B1 Y2 Y3 Y5 a0 a1 a2 a3 a4 a5 b0 b1 b2 b3 b4 b5 b6;generalize grow (redrawn w1 dq) osq=w2 at *;have p3b:=(PX.out w2 B2.out).2.2.2;have x_:=Z2.out;have y_:=Z3.out;obtain⟨x0,x1,x2,x3,x4,x5⟩:=x_.gP;obtain⟨y0,y1,y2,y3,y4,y5,y6⟩:=y_.mE;clear x_ y_;obtain⟨g1,hg1⟩:∃ r,(par != -1)=r:=⟨_,rfl⟩;have GP:=D (show decide (par≠-1)=g1 by rw [<- hg1]; by_cases q:par=-1 <;> simp [q]);rw [GP.out] at LD;cases g1
    ·have LB:=D LD;clear LD CV;have B3:=D B2.out;have F2:=D Z2.out;have F3:=D Z3.out;have F5:=D Z5.out;clear B2 Z2 Z3 Z5;have f3:=F3.out;obtain⟨k0,k1,k2,k3,k4,k5,k6⟩:=f3.mE;have f36:=f3.fr 6;have Mv:=f3.lt;clear f3;go_upto_region 5 with fail;clear k0 k1 k2 k3 k4 k5 k6 f36 Mv;have G3:=D (show dI _ _ #[L O c,L O d,L O g,L O h,J po pn pc,L O fr,V U] _ from by simpa using eD (k:=6) F3.out (V U));have G2:=D (show dI _ _ _ _ from (K w2 ⟨w.heap.size+1,6,Y⟩ (V U) _ (show w.heap.size≠w.heap.size+1 by omega)).trans F2.out);have G5:=D (show dI _ _ _ _ from (K w2 ⟨w.heap.size+1,6,Y⟩ (V U) _ (show w.heap.size+1+1≠w.heap.size+1 by omega)).trans F5.out);have B4:=D (B3.out.setCell (p:=⟨w.heap.size+1,6,Y⟩) (by show w.heap.size<=w.heap.size+1; omega) (V U));clear B3 F2 F3 F5;generalize w2.setCell ⟨w.heap.size+1,6,Y⟩ (V U)=w4 at *;have R4:=D (HE.out.on B4.out)
     go_upto_block 0 with (fail)
     refine sN _ w4 w.heap.size (w.heap.size+1) me c d g h _ _ _ _ _ _ _ eo n3 ec es _ _ _ _ _ _ _ _ _ _ _ _ _ _ _ _ _ _ _ _ _ _ _ _ _ _ _ _ _ _ _ _ _ _ _ _ _ _ _ _ _ _ _ _ _ _ _ _ _ _ _ _ _ _ _ _ _ _ _ _ _ _ _ _ _ _ _ _ _ _ _ _ _ _ _ _ _ _ _ _ _ _ _ _ _ _ _ _ _ _ _ _ _ _ _ _ _ _ _ _ _ _ _ _ _ _ _ _ _ _ _ _ G2.out G3.out R4.out N3.out (by have:=EL.out; have:=N3.out; omega) ?_;intro wr v57 v58 v59 v60 v61 v62 v63 v64 v65 v66 v67 v68 v69 v70 v71 v72 v73 v74 v75 v76 v77 v78 v79 v80 v81 v82 v83 v84 v85 v86 v87 v88 v89 v90 v91 v92 v93 v94 v95 v96 hb;have B5:=D (B4.out.trans (hb.mono B4.out.size));have K2:=D (G2.out.on hb);have K3:=D (G3.out.on hb);have K5:=D (G5.out.on hb);have R5:=D (R4.out.on hb);clear hb B4 G2 G3 G5 R4;go_upto_region 8 with fail;refine Jr _ wr w.heap.size (w.heap.size+1) me _ _ _ _ eo n3 ec (dX (es.map gV) ((c,d),(g,h))) es (c,d,g,h,(po,pn,pc),fr,U) _ _ _ _ _ _ _ _ _ _ _ _ _ _ _ _ _ _ _ _ _ _ _ _ _ _ _ _ _ _ _ _ _ _ _ _ _ _ _ _ _ _ _ _ _ _ _ _ _ _ _ _ _ _ _ _ _ _ _ _ _ _ _ _ _ _ _ _ _ _ _ _ _ _ _ _ _ _ _ _ _ _ _ _ _ _ _ _ _ _ _ _ _ _ _ _ _ _ _ _ _ _ _ _ _ _ _ _ _ _ _ _ K2.out (kG (p:=(po,pn,pc)) K3.out) R5.out (by have:=kY (es.map gV) ((c,d),(g,h)); rw [ak] at this; exact this) EL.out ?_;intro xw v97 v98 v99 v100 v101 v102 v103 v104 v105 v106 v107 v108 v109 v110 v111 hbx ho hbl hoth hblk;obtain⟨mR,mU,BO⟩:=(Row.dG ho).len;obtain⟨tl,htl⟩:∃ n,n=(es.take (dX (es.map gV) ((c,d),(g,h)))++[(c,d,g,h,(po,pn,pc),fr,U)]++es.drop (dX (es.map gV) ((c,d),(g,h)))).length:=⟨_,rfl⟩;rw [<- htl] at BO;subst BO;have B6:=D (B5.out.trans (hbl _ (aB _)));have M2:=hbx;have M3:=hoth _ _ _ (by omega) K3.out;have M5:=hoth _ _ _ (by omega) K5.out;have OE:=D (dK ho (show w.heap.size+3<=wr.heap.size by have:=K5.out.lt; omega));clear ho hbl hoth hblk htl hbx B5 K2 K3 K5 R5;go_upto_region 9 with fail;refine sw _ xw w.heap.size (w.heap.size+1) (w.heap.size+1+1) me no ao so mR oo nn nc n2 ac sn sc tl mU gI oc _ _ _ _ _ _ _ _ _ _ _ _ U _ _ _ _ _ _ _ _ _ _ _ _ _ _ _ _ _ _ _ _ _ _ _ _ _ _ _ _ _ _ _ _ _ _ _ _ _ _ _ _ _ _ _ _ _ _ _ _ _ _ _ _ _ _ _ _ _ _ _ _ _ _ _ _ _ _ _ _ _ _ _ _ _ _ _ _ _ _ _ _ _ _ _ _ _ _ _ _ _ _ _ _ _ _ _ _ _ _ _ _ _ _ _ _ _ _ _ _ _ _ _ _ M2 M3 M5 (by omega) ?_;intro a9 x9 Mw h49 h59 Mx;subst Mx;have FB:=D (dZ M5.drew (L O me) (J no nn nc) (J ao n2 ac) (J so sn sc) (J mR tl mU) (J oo gI oc));have BL:=D (dN (b:=w.heap.size+1+1) B6.out.drew (by omega) (L O me) (J no nn nc) (J ao n2 ac) (J so sn sc) (J mR tl mU) (J oo gI oc));have FE:=D (iQ (dJ OE.out ((ay xw.heap.size xw).drew)) (w.heap.size+1+1) (by omega) (L O me) (J no nn nc) (J ao n2 ac) (J so sn sc) (J mR tl mU) (J oo gI oc));clear OE M2 M3 M5 B6;simp only [Exit.then]
     apply_assumption
     go_wp2_with fail;obtain⟨v0,v1,v2,v3,v4,v5⟩:=FB.out.gP;refine bodyPost_ret (v:=.tuple #[aK #[L O me,J no nn nc,J ao n2 ac,J so sn sc,J mR tl mU,J oo gI oc],V U]) (by simp [results,Z,go_sem,h49,h59,v0,v1,v2,v3,v4,v5]) Mw ?_;rw [LB.out];refine⟨⟨(mR,tl,mU),_,rfl,aH (dK FE.out (show w.heap.size<=w.heap.size+3 by omega)),?_⟩,BL.out⟩;rw [<- Vp.out];exact ((HR2.out.take _).append (.cons (WU.out _) .nil)).append (HR2.out.drop _)
    ·have CW:=D (CV.out w2 B2.out);obtain⟨cv,hcv⟩:∃ r,fH b.ent (c,d) p'=r:=⟨_,rfl⟩;rw [hcv] at CW LD;clear CV hcv;go_wp2_with fail;refine CW.out.mono ?_;rintro e3 w3 ⟨rfl,hb⟩;have B3:=D (B2.out.trans (hb.mono B2.out.size));have F2:=D (Z2.out.on hb);have F3:=D (Z3.out.on hb);have F5:=D (Z5.out.on hb);clear hb CW B2 Z2 Z3 Z5 x0 x1 x2 x3 x4 x5 y0 y1 y2 y3 y4 y5 y6 p3b;cases cv
     ·have LB:=D LD;clear LD;have f3:=F3.out;obtain⟨k0,k1,k2,k3,k4,k5,k6⟩:=f3.mE;have f36:=f3.fr 6;have Mv:=f3.lt;clear f3;go_upto_region 5 with fail;clear k0 k1 k2 k3 k4 k5 k6 f36 Mv;have G3:=D (show dI _ _ #[L O c,L O d,L O g,L O h,J po pn pc,L O fr,V aA] _ from by simpa using eD (k:=6) F3.out (V aA));have G2:=D (show dI _ _ _ _ from (K w3 ⟨w.heap.size+1,6,Y⟩ (V aA) _ (show w.heap.size≠w.heap.size+1 by omega)).trans F2.out);have G5:=D (show dI _ _ _ _ from (K w3 ⟨w.heap.size+1,6,Y⟩ (V aA) _ (show w.heap.size+1+1≠w.heap.size+1 by omega)).trans F5.out);have B4:=D (B3.out.setCell (p:=⟨w.heap.size+1,6,Y⟩) (by show w.heap.size<=w.heap.size+1; omega) (V aA));clear B3 F2 F3 F5;generalize w3.setCell ⟨w.heap.size+1,6,Y⟩ (V aA)=w4 at *;have R4:=D (HE.out.on B4.out)
      go_upto_block 0 with (fail)
      refine sN _ w4 w.heap.size (w.heap.size+1) me c d g h _ _ _ _ _ _ _ eo n3 ec es _ _ _ _ _ _ _ _ _ _ _ _ _ _ _ _ _ _ _ _ _ _ _ _ _ _ _ _ _ _ _ _ _ _ _ _ _ _ _ _ _ _ _ _ _ _ _ _ _ _ _ _ _ _ _ _ _ _ _ _ _ _ _ _ _ _ _ _ _ _ _ _ _ _ _ _ _ _ _ _ _ _ _ _ _ _ _ _ _ _ _ _ _ _ _ _ _ _ _ _ _ _ _ _ _ _ _ _ _ _ _ _ G2.out G3.out R4.out N3.out (by have:=EL.out; have:=N3.out; omega) ?_;intro wr v57 v58 v59 v60 v61 v62 v63 v64 v65 v66 v67 v68 v69 v70 v71 v72 v73 v74 v75 v76 v77 v78 v79 v80 v81 v82 v83 v84 v85 v86 v87 v88 v89 v90 v91 v92 v93 v94 v95 v96 hb;have B5:=D (B4.out.trans (hb.mono B4.out.size));have K2:=D (G2.out.on hb);have K3:=D (G3.out.on hb);have K5:=D (G5.out.on hb);have R5:=D (R4.out.on hb);clear hb B4 G2 G3 G5 R4;go_upto_region 8 with fail;refine Jr _ wr w.heap.size (w.heap.size+1) me _ _ _ _ eo n3 ec (dX (es.map gV) ((c,d),(g,h))) es (c,d,g,h,(po,pn,pc),fr,aA) _ _ _ _ _ _ _ _ _ _ _ _ _ _ _ _ _ _ _ _ _ _ _ _ _ _ _ _ _ _ _ _ _ _ _ _ _ _ _ _ _ _ _ _ _ _ _ _ _ _ _ _ _ _ _ _ _ _ _ _ _ _ _ _ _ _ _ _ _ _ _ _ _ _ _ _ _ _ _ _ _ _ _ _ _ _ _ _ _ _ _ _ _ _ _ _ _ _ _ _ _ _ _ _ _ _ _ _ _ _ _ _ K2.out (kG (p:=(po,pn,pc)) K3.out) R5.out (by have:=kY (es.map gV) ((c,d),(g,h)); rw [ak] at this; exact this) EL.out ?_;intro xw v97 v98 v99 v100 v101 v102 v103 v104 v105 v106 v107 v108 v109 v110 v111 hbx ho hbl hoth hblk;obtain⟨mR,mU,BO⟩:=(Row.dG ho).len;obtain⟨tl,htl⟩:∃ n,n=(es.take (dX (es.map gV) ((c,d),(g,h)))++[(c,d,g,h,(po,pn,pc),fr,aA)]++es.drop (dX (es.map gV) ((c,d),(g,h)))).length:=⟨_,rfl⟩;rw [<- htl] at BO;subst BO;have B6:=D (B5.out.trans (hbl _ (aB _)));have M2:=hbx;have M3:=hoth _ _ _ (by omega) K3.out;have M5:=hoth _ _ _ (by omega) K5.out;have OE:=D (dK ho (show w.heap.size+3<=wr.heap.size by have:=K5.out.lt; omega));clear ho hbl hoth hblk htl hbx B5 K2 K3 K5 R5;go_upto_region 9 with fail;refine sw _ xw w.heap.size (w.heap.size+1) (w.heap.size+1+1) me no ao so mR oo nn nc n2 ac sn sc tl mU gI oc _ _ _ _ _ _ _ _ _ _ _ _ aA _ _ _ _ _ _ _ _ _ _ _ _ _ _ _ _ _ _ _ _ _ _ _ _ _ _ _ _ _ _ _ _ _ _ _ _ _ _ _ _ _ _ _ _ _ _ _ _ _ _ _ _ _ _ _ _ _ _ _ _ _ _ _ _ _ _ _ _ _ _ _ _ _ _ _ _ _ _ _ _ _ _ _ _ _ _ _ _ _ _ _ _ _ _ _ _ _ _ _ _ _ _ _ _ _ _ _ _ _ _ _ _ M2 M3 M5 (by omega) ?_;intro a9 x9 Mw h49 h59 Mx;subst Mx;have FB:=D (dZ M5.drew (L O me) (J no nn nc) (J ao n2 ac) (J so sn sc) (J mR tl mU) (J oo gI oc));have BL:=D (dN (b:=w.heap.size+1+1) B6.out.drew (by omega) (L O me) (J no nn nc) (J ao n2 ac) (J so sn sc) (J mR tl mU) (J oo gI oc));have FE:=D (iQ (dJ OE.out ((ay xw.heap.size xw).drew)) (w.heap.size+1+1) (by omega) (L O me) (J no nn nc) (J ao n2 ac) (J so sn sc) (J mR tl mU) (J oo gI oc));clear OE M2 M3 M5 B6;simp only [Exit.then]
      apply_assumption
      go_wp2_with fail;obtain⟨v0,v1,v2,v3,v4,v5⟩:=FB.out.gP;refine bodyPost_ret (v:=.tuple #[aK #[L O me,J no nn nc,J ao n2 ac,J so sn sc,J mR tl mU,J oo gI oc],V aA]) (by simp [results,Z,go_sem,h49,h59,v0,v1,v2,v3,v4,v5]) Mw ?_;rw [LB.out];refine⟨⟨(mR,tl,mU),_,rfl,aH (dK FE.out (show w.heap.size<=w.heap.size+3 by omega)),?_⟩,BL.out⟩;rw [<- Vp.out];exact ((HR2.out.take _).append (.cons (WU.out _) .nil)).append (HR2.out.drop _)
     ·have LB:=D LD;clear LD;have f3:=F3.out;obtain⟨k0,k1,k2,k3,k4,k5,k6⟩:=f3.mE;have f36:=f3.fr 6;have Mv:=f3.lt;clear f3;go_upto_region 5 with fail;clear k0 k1 k2 k3 k4 k5 k6 f36 Mv;have G3:=D (show dI _ _ #[L O c,L O d,L O g,L O h,J po pn pc,L O fr,V U] _ from by simpa using eD (k:=6) F3.out (V U));have G2:=D (show dI _ _ _ _ from (K w3 ⟨w.heap.size+1,6,Y⟩ (V U) _ (show w.heap.size≠w.heap.size+1 by omega)).trans F2.out);have G5:=D (show dI _ _ _ _ from (K w3 ⟨w.heap.size+1,6,Y⟩ (V U) _ (show w.heap.size+1+1≠w.heap.size+1 by omega)).trans F5.out);have B4:=D (B3.out.setCell (p:=⟨w.heap.size+1,6,Y⟩) (by show w.heap.size<=w.heap.size+1; omega) (V U));clear B3 F2 F3 F5;generalize w3.setCell ⟨w.heap.size+1,6,Y⟩ (V U)=w4 at *;have R4:=D (HE.out.on B4.out)
      go_upto_block 0 with (fail)
      refine sN _ w4 w.heap.size (w.heap.size+1) me c d g h _ _ _ _ _ _ _ eo n3 ec es _ _ _ _ _ _ _ _ _ _ _ _ _ _ _ _ _ _ _ _ _ _ _ _ _ _ _ _ _ _ _ _ _ _ _ _ _ _ _ _ _ _ _ _ _ _ _ _ _ _ _ _ _ _ _ _ _ _ _ _ _ _ _ _ _ _ _ _ _ _ _ _ _ _ _ _ _ _ _ _ _ _ _ _ _ _ _ _ _ _ _ _ _ _ _ _ _ _ _ _ _ _ _ _ _ _ _ _ _ _ _ _ G2.out G3.out R4.out N3.out (by have:=EL.out; have:=N3.out; omega) ?_;intro wr v57 v58 v59 v60 v61 v62 v63 v64 v65 v66 v67 v68 v69 v70 v71 v72 v73 v74 v75 v76 v77 v78 v79 v80 v81 v82 v83 v84 v85 v86 v87 v88 v89 v90 v91 v92 v93 v94 v95 v96 hb;have B5:=D (B4.out.trans (hb.mono B4.out.size));have K2:=D (G2.out.on hb);have K3:=D (G3.out.on hb);have K5:=D (G5.out.on hb);have R5:=D (R4.out.on hb);clear hb B4 G2 G3 G5 R4;go_upto_region 8 with fail;refine Jr _ wr w.heap.size (w.heap.size+1) me _ _ _ _ eo n3 ec (dX (es.map gV) ((c,d),(g,h))) es (c,d,g,h,(po,pn,pc),fr,U) _ _ _ _ _ _ _ _ _ _ _ _ _ _ _ _ _ _ _ _ _ _ _ _ _ _ _ _ _ _ _ _ _ _ _ _ _ _ _ _ _ _ _ _ _ _ _ _ _ _ _ _ _ _ _ _ _ _ _ _ _ _ _ _ _ _ _ _ _ _ _ _ _ _ _ _ _ _ _ _ _ _ _ _ _ _ _ _ _ _ _ _ _ _ _ _ _ _ _ _ _ _ _ _ _ _ _ _ _ _ _ _ K2.out (kG (p:=(po,pn,pc)) K3.out) R5.out (by have:=kY (es.map gV) ((c,d),(g,h)); rw [ak] at this; exact this) EL.out ?_;intro xw v97 v98 v99 v100 v101 v102 v103 v104 v105 v106 v107 v108 v109 v110 v111 hbx ho hbl hoth hblk;obtain⟨mR,mU,BO⟩:=(Row.dG ho).len;obtain⟨tl,htl⟩:∃ n,n=(es.take (dX (es.map gV) ((c,d),(g,h)))++[(c,d,g,h,(po,pn,pc),fr,U)]++es.drop (dX (es.map gV) ((c,d),(g,h)))).length:=⟨_,rfl⟩;rw [<- htl] at BO;subst BO;have B6:=D (B5.out.trans (hbl _ (aB _)));have M2:=hbx;have M3:=hoth _ _ _ (by omega) K3.out;have M5:=hoth _ _ _ (by omega) K5.out;have OE:=D (dK ho (show w.heap.size+3<=wr.heap.size by have:=K5.out.lt; omega));clear ho hbl hoth hblk htl hbx B5 K2 K3 K5 R5;go_upto_region 9 with fail;refine sw _ xw w.heap.size (w.heap.size+1) (w.heap.size+1+1) me no ao so mR oo nn nc n2 ac sn sc tl mU gI oc _ _ _ _ _ _ _ _ _ _ _ _ U _ _ _ _ _ _ _ _ _ _ _ _ _ _ _ _ _ _ _ _ _ _ _ _ _ _ _ _ _ _ _ _ _ _ _ _ _ _ _ _ _ _ _ _ _ _ _ _ _ _ _ _ _ _ _ _ _ _ _ _ _ _ _ _ _ _ _ _ _ _ _ _ _ _ _ _ _ _ _ _ _ _ _ _ _ _ _ _ _ _ _ _ _ _ _ _ _ _ _ _ _ _ _ _ _ _ _ _ _ _ _ _ M2 M3 M5 (by omega) ?_;intro a9 x9 Mw h49 h59 Mx;subst Mx;have FB:=D (dZ M5.drew (L O me) (J no nn nc) (J ao n2 ac) (J so sn sc) (J mR tl mU) (J oo gI oc));have BL:=D (dN (b:=w.heap.size+1+1) B6.out.drew (by omega) (L O me) (J no nn nc) (J ao n2 ac) (J so sn sc) (J mR tl mU) (J oo gI oc));have FE:=D (iQ (dJ OE.out ((ay xw.heap.size xw).drew)) (w.heap.size+1+1) (by omega) (L O me) (J no nn nc) (J ao n2 ac) (J so sn sc) (J mR tl mU) (J oo gI oc));clear OE M2 M3 M5 B6;simp only [Exit.then]
      apply_assumption
      go_wp2_with fail;obtain⟨v0,v1,v2,v3,v4,v5⟩:=FB.out.gP;refine bodyPost_ret (v:=.tuple #[aK #[L O me,J no nn nc,J ao n2 ac,J so sn sc,J mR tl mU,J oo gI oc],V U]) (by simp [results,Z,go_sem,h49,h59,v0,v1,v2,v3,v4,v5]) Mw ?_;rw [LB.out];refine⟨⟨(mR,tl,mU),_,rfl,aH (dK FE.out (show w.heap.size<=w.heap.size+3 by omega)),?_⟩,BL.out⟩;rw [<- Vp.out];exact ((HR2.out.take _).append (.cons (WU.out _) .nil)).append (HR2.out.drop _)
   ·cases f2
    ·have LD:=LC;rw [if_neg (by intro q; simp [q.2] at hf2)] at LD;clear LC;go_upto_region 2 with fail;refine wp_region_quiet_below (by kernel_rfl) (by kernel_rfl) ?_
     repeat (go_big_quiet_step (first | (with_reducible exact CE.out _ _)))
     refine wpQuiet_nil ?_;intro _ hw';obtain⟨⟨dq,osq⟩,hw''⟩:=hw';subst hw'';have Z6:=below_regrown w1 dq osq;have B2:=D (B1.out.trans (Z6.mono B1.out.size));have Z2:=D (Y2.out.on Z6);have Z3:=D (Y3.out.on Z6);have Z5:=D (Y5.out.on Z6);clear Z6 B1 Y2 Y3 Y5 a0 a1 a2 a3 a4 a5 b0 b1 b2 b3 b4 b5 b6;generalize grow (redrawn w1 dq) osq=w2 at *;have p3b:=(PX.out w2 B2.out).2.2.2;have x_:=Z2.out;have y_:=Z3.out;obtain⟨x0,x1,x2,x3,x4,x5⟩:=x_.gP;obtain⟨y0,y1,y2,y3,y4,y5,y6⟩:=y_.mE;clear x_ y_;obtain⟨g1,hg1⟩:∃ r,(par != -1)=r:=⟨_,rfl⟩;have GP:=D (show decide (par≠-1)=g1 by rw [<- hg1]; by_cases q:par=-1 <;> simp [q]);rw [GP.out] at LD;cases g1
     ·have LB:=D LD;clear LD CV;have B3:=D B2.out;have F2:=D Z2.out;have F3:=D Z3.out;have F5:=D Z5.out;clear B2 Z2 Z3 Z5;have f3:=F3.out;obtain⟨k0,k1,k2,k3,k4,k5,k6⟩:=f3.mE;have f36:=f3.fr 6;have Mv:=f3.lt;clear f3;go_upto_region 5 with fail;clear k0 k1 k2 k3 k4 k5 k6 f36 Mv;have G3:=D (show dI _ _ #[L O c,L O d,L O g,L O h,J po pn pc,L O fr,V U] _ from by simpa using eD (k:=6) F3.out (V U));have G2:=D (show dI _ _ _ _ from (K w2 ⟨w.heap.size+1,6,Y⟩ (V U) _ (show w.heap.size≠w.heap.size+1 by omega)).trans F2.out);have G5:=D (show dI _ _ _ _ from (K w2 ⟨w.heap.size+1,6,Y⟩ (V U) _ (show w.heap.size+1+1≠w.heap.size+1 by omega)).trans F5.out);have B4:=D (B3.out.setCell (p:=⟨w.heap.size+1,6,Y⟩) (by show w.heap.size<=w.heap.size+1; omega) (V U));clear B3 F2 F3 F5;generalize w2.setCell ⟨w.heap.size+1,6,Y⟩ (V U)=w4 at *;have R4:=D (HE.out.on B4.out)
      go_upto_block 0 with (fail)
      refine sN _ w4 w.heap.size (w.heap.size+1) me c d g h _ _ _ _ _ _ _ eo n3 ec es _ _ _ _ _ _ _ _ _ _ _ _ _ _ _ _ _ _ _ _ _ _ _ _ _ _ _ _ _ _ _ _ _ _ _ _ _ _ _ _ _ _ _ _ _ _ _ _ _ _ _ _ _ _ _ _ _ _ _ _ _ _ _ _ _ _ _ _ _ _ _ _ _ _ _ _ _ _ _ _ _ _ _ _ _ _ _ _ _ _ _ _ _ _ _ _ _ _ _ _ _ _ _ _ _ _ _ _ _ _ _ _ G2.out G3.out R4.out N3.out (by have:=EL.out; have:=N3.out; omega) ?_;intro wr v57 v58 v59 v60 v61 v62 v63 v64 v65 v66 v67 v68 v69 v70 v71 v72 v73 v74 v75 v76 v77 v78 v79 v80 v81 v82 v83 v84 v85 v86 v87 v88 v89 v90 v91 v92 v93 v94 v95 v96 hb;have B5:=D (B4.out.trans (hb.mono B4.out.size));have K2:=D (G2.out.on hb);have K3:=D (G3.out.on hb);have K5:=D (G5.out.on hb);have R5:=D (R4.out.on hb);clear hb B4 G2 G3 G5 R4;go_upto_region 8 with fail;refine Jr _ wr w.heap.size (w.heap.size+1) me _ _ _ _ eo n3 ec (dX (es.map gV) ((c,d),(g,h))) es (c,d,g,h,(po,pn,pc),fr,U) _ _ _ _ _ _ _ _ _ _ _ _ _ _ _ _ _ _ _ _ _ _ _ _ _ _ _ _ _ _ _ _ _ _ _ _ _ _ _ _ _ _ _ _ _ _ _ _ _ _ _ _ _ _ _ _ _ _ _ _ _ _ _ _ _ _ _ _ _ _ _ _ _ _ _ _ _ _ _ _ _ _ _ _ _ _ _ _ _ _ _ _ _ _ _ _ _ _ _ _ _ _ _ _ _ _ _ _ _ _ _ _ K2.out (kG (p:=(po,pn,pc)) K3.out) R5.out (by have:=kY (es.map gV) ((c,d),(g,h)); rw [ak] at this; exact this) EL.out ?_;intro xw v97 v98 v99 v100 v101 v102 v103 v104 v105 v106 v107 v108 v109 v110 v111 hbx ho hbl hoth hblk;obtain⟨mR,mU,BO⟩:=(Row.dG ho).len;obtain⟨tl,htl⟩:∃ n,n=(es.take (dX (es.map gV) ((c,d),(g,h)))++[(c,d,g,h,(po,pn,pc),fr,U)]++es.drop (dX (es.map gV) ((c,d),(g,h)))).length:=⟨_,rfl⟩;rw [<- htl] at BO;subst BO;have B6:=D (B5.out.trans (hbl _ (aB _)));have M2:=hbx;have M3:=hoth _ _ _ (by omega) K3.out;have M5:=hoth _ _ _ (by omega) K5.out;have OE:=D (dK ho (show w.heap.size+3<=wr.heap.size by have:=K5.out.lt; omega));clear ho hbl hoth hblk htl hbx B5 K2 K3 K5 R5;go_upto_region 9 with fail;refine sw _ xw w.heap.size (w.heap.size+1) (w.heap.size+1+1) me no ao so mR oo nn nc n2 ac sn sc tl mU gI oc _ _ _ _ _ _ _ _ _ _ _ _ U _ _ _ _ _ _ _ _ _ _ _ _ _ _ _ _ _ _ _ _ _ _ _ _ _ _ _ _ _ _ _ _ _ _ _ _ _ _ _ _ _ _ _ _ _ _ _ _ _ _ _ _ _ _ _ _ _ _ _ _ _ _ _ _ _ _ _ _ _ _ _ _ _ _ _ _ _ _ _ _ _ _ _ _ _ _ _ _ _ _ _ _ _ _ _ _ _ _ _ _ _ _ _ _ _ _ _ _ _ _ _ _ M2 M3 M5 (by omega) ?_;intro a9 x9 Mw h49 h59 Mx;subst Mx;have FB:=D (dZ M5.drew (L O me) (J no nn nc) (J ao n2 ac) (J so sn sc) (J mR tl mU) (J oo gI oc));have BL:=D (dN (b:=w.heap.size+1+1) B6.out.drew (by omega) (L O me) (J no nn nc) (J ao n2 ac) (J so sn sc) (J mR tl mU) (J oo gI oc));have FE:=D (iQ (dJ OE.out ((ay xw.heap.size xw).drew)) (w.heap.size+1+1) (by omega) (L O me) (J no nn nc) (J ao n2 ac) (J so sn sc) (J mR tl mU) (J oo gI oc));clear OE M2 M3 M5 B6;simp only [Exit.then]
      apply_assumption
      go_wp2_with fail;obtain⟨v0,v1,v2,v3,v4,v5⟩:=FB.out.gP;refine bodyPost_ret (v:=.tuple #[aK #[L O me,J no nn nc,J ao n2 ac,J so sn sc,J mR tl mU,J oo gI oc],V U]) (by simp [results,Z,go_sem,h49,h59,v0,v1,v2,v3,v4,v5]) Mw ?_;rw [LB.out];refine⟨⟨(mR,tl,mU),_,rfl,aH (dK FE.out (show w.heap.size<=w.heap.size+3 by omega)),?_⟩,BL.out⟩;rw [<- Vp.out];exact ((HR2.out.take _).append (.cons (WU.out _) .nil)).append (HR2.out.drop _)
     ·have CW:=D (CV.out w2 B2.out);obtain⟨cv,hcv⟩:∃ r,fH b.ent (c,d) p'=r:=⟨_,rfl⟩;rw [hcv] at CW LD;clear CV hcv;go_wp2_with fail;refine CW.out.mono ?_;rintro e3 w3 ⟨rfl,hb⟩;have B3:=D (B2.out.trans (hb.mono B2.out.size));have F2:=D (Z2.out.on hb);have F3:=D (Z3.out.on hb);have F5:=D (Z5.out.on hb);clear hb CW B2 Z2 Z3 Z5 x0 x1 x2 x3 x4 x5 y0 y1 y2 y3 y4 y5 y6 p3b;cases cv
      ·have LB:=D LD;clear LD;have f3:=F3.out;obtain⟨k0,k1,k2,k3,k4,k5,k6⟩:=f3.mE;have f36:=f3.fr 6;have Mv:=f3.lt;clear f3;go_upto_region 5 with fail;clear k0 k1 k2 k3 k4 k5 k6 f36 Mv;have G3:=D (show dI _ _ #[L O c,L O d,L O g,L O h,J po pn pc,L O fr,V aA] _ from by simpa using eD (k:=6) F3.out (V aA));have G2:=D (show dI _ _ _ _ from (K w3 ⟨w.heap.size+1,6,Y⟩ (V aA) _ (show w.heap.size≠w.heap.size+1 by omega)).trans F2.out);have G5:=D (show dI _ _ _ _ from (K w3 ⟨w.heap.size+1,6,Y⟩ (V aA) _ (show w.heap.size+1+1≠w.heap.size+1 by omega)).trans F5.out);have B4:=D (B3.out.setCell (p:=⟨w.heap.size+1,6,Y⟩) (by show w.heap.size<=w.heap.size+1; omega) (V aA));clear B3 F2 F3 F5;generalize w3.setCell ⟨w.heap.size+1,6,Y⟩ (V aA)=w4 at *;have R4:=D (HE.out.on B4.out)
       go_upto_block 0 with (fail)
       refine sN _ w4 w.heap.size (w.heap.size+1) me c d g h _ _ _ _ _ _ _ eo n3 ec es _ _ _ _ _ _ _ _ _ _ _ _ _ _ _ _ _ _ _ _ _ _ _ _ _ _ _ _ _ _ _ _ _ _ _ _ _ _ _ _ _ _ _ _ _ _ _ _ _ _ _ _ _ _ _ _ _ _ _ _ _ _ _ _ _ _ _ _ _ _ _ _ _ _ _ _ _ _ _ _ _ _ _ _ _ _ _ _ _ _ _ _ _ _ _ _ _ _ _ _ _ _ _ _ _ _ _ _ _ _ _ _ G2.out G3.out R4.out N3.out (by have:=EL.out; have:=N3.out; omega) ?_;intro wr v57 v58 v59 v60 v61 v62 v63 v64 v65 v66 v67 v68 v69 v70 v71 v72 v73 v74 v75 v76 v77 v78 v79 v80 v81 v82 v83 v84 v85 v86 v87 v88 v89 v90 v91 v92 v93 v94 v95 v96 hb;have B5:=D (B4.out.trans (hb.mono B4.out.size));have K2:=D (G2.out.on hb);have K3:=D (G3.out.on hb);have K5:=D (G5.out.on hb);have R5:=D (R4.out.on hb);clear hb B4 G2 G3 G5 R4;go_upto_region 8 with fail;refine Jr _ wr w.heap.size (w.heap.size+1) me _ _ _ _ eo n3 ec (dX (es.map gV) ((c,d),(g,h))) es (c,d,g,h,(po,pn,pc),fr,aA) _ _ _ _ _ _ _ _ _ _ _ _ _ _ _ _ _ _ _ _ _ _ _ _ _ _ _ _ _ _ _ _ _ _ _ _ _ _ _ _ _ _ _ _ _ _ _ _ _ _ _ _ _ _ _ _ _ _ _ _ _ _ _ _ _ _ _ _ _ _ _ _ _ _ _ _ _ _ _ _ _ _ _ _ _ _ _ _ _ _ _ _ _ _ _ _ _ _ _ _ _ _ _ _ _ _ _ _ _ _ _ _ K2.out (kG (p:=(po,pn,pc)) K3.out) R5.out (by have:=kY (es.map gV) ((c,d),(g,h)); rw [ak] at this; exact this) EL.out ?_;intro xw v97 v98 v99 v100 v101 v102 v103 v104 v105 v106 v107 v108 v109 v110 v111 hbx ho hbl hoth hblk;obtain⟨mR,mU,BO⟩:=(Row.dG ho).len;obtain⟨tl,htl⟩:∃ n,n=(es.take (dX (es.map gV) ((c,d),(g,h)))++[(c,d,g,h,(po,pn,pc),fr,aA)]++es.drop (dX (es.map gV) ((c,d),(g,h)))).length:=⟨_,rfl⟩;rw [<- htl] at BO;subst BO;have B6:=D (B5.out.trans (hbl _ (aB _)));have M2:=hbx;have M3:=hoth _ _ _ (by omega) K3.out;have M5:=hoth _ _ _ (by omega) K5.out;have OE:=D (dK ho (show w.heap.size+3<=wr.heap.size by have:=K5.out.lt; omega));clear ho hbl hoth hblk htl hbx B5 K2 K3 K5 R5;go_upto_region 9 with fail;refine sw _ xw w.heap.size (w.heap.size+1) (w.heap.size+1+1) me no ao so mR oo nn nc n2 ac sn sc tl mU gI oc _ _ _ _ _ _ _ _ _ _ _ _ aA _ _ _ _ _ _ _ _ _ _ _ _ _ _ _ _ _ _ _ _ _ _ _ _ _ _ _ _ _ _ _ _ _ _ _ _ _ _ _ _ _ _ _ _ _ _ _ _ _ _ _ _ _ _ _ _ _ _ _ _ _ _ _ _ _ _ _ _ _ _ _ _ _ _ _ _ _ _ _ _ _ _ _ _ _ _ _ _ _ _ _ _ _ _ _ _ _ _ _ _ _ _ _ _ _ _ _ _ _ _ _ _ M2 M3 M5 (by omega) ?_;intro a9 x9 Mw h49 h59 Mx;subst Mx;have FB:=D (dZ M5.drew (L O me) (J no nn nc) (J ao n2 ac) (J so sn sc) (J mR tl mU) (J oo gI oc));have BL:=D (dN (b:=w.heap.size+1+1) B6.out.drew (by omega) (L O me) (J no nn nc) (J ao n2 ac) (J so sn sc) (J mR tl mU) (J oo gI oc));have FE:=D (iQ (dJ OE.out ((ay xw.heap.size xw).drew)) (w.heap.size+1+1) (by omega) (L O me) (J no nn nc) (J ao n2 ac) (J so sn sc) (J mR tl mU) (J oo gI oc));clear OE M2 M3 M5 B6;simp only [Exit.then]
       apply_assumption
       go_wp2_with fail;obtain⟨v0,v1,v2,v3,v4,v5⟩:=FB.out.gP;refine bodyPost_ret (v:=.tuple #[aK #[L O me,J no nn nc,J ao n2 ac,J so sn sc,J mR tl mU,J oo gI oc],V aA]) (by simp [results,Z,go_sem,h49,h59,v0,v1,v2,v3,v4,v5]) Mw ?_;rw [LB.out];refine⟨⟨(mR,tl,mU),_,rfl,aH (dK FE.out (show w.heap.size<=w.heap.size+3 by omega)),?_⟩,BL.out⟩;rw [<- Vp.out];exact ((HR2.out.take _).append (.cons (WU.out _) .nil)).append (HR2.out.drop _)
      ·have LB:=D LD;clear LD;have f3:=F3.out;obtain⟨k0,k1,k2,k3,k4,k5,k6⟩:=f3.mE;have f36:=f3.fr 6;have Mv:=f3.lt;clear f3;go_upto_region 5 with fail;clear k0 k1 k2 k3 k4 k5 k6 f36 Mv;have G3:=D (show dI _ _ #[L O c,L O d,L O g,L O h,J po pn pc,L O fr,V U] _ from by simpa using eD (k:=6) F3.out (V U));have G2:=D (show dI _ _ _ _ from (K w3 ⟨w.heap.size+1,6,Y⟩ (V U) _ (show w.heap.size≠w.heap.size+1 by omega)).trans F2.out);have G5:=D (show dI _ _ _ _ from (K w3 ⟨w.heap.size+1,6,Y⟩ (V U) _ (show w.heap.size+1+1≠w.heap.size+1 by omega)).trans F5.out);have B4:=D (B3.out.setCell (p:=⟨w.heap.size+1,6,Y⟩) (by show w.heap.size<=w.heap.size+1; omega) (V U));clear B3 F2 F3 F5;generalize w3.setCell ⟨w.heap.size+1,6,Y⟩ (V U)=w4 at *;have R4:=D (HE.out.on B4.out)
       go_upto_block 0 with (fail)
       refine sN _ w4 w.heap.size (w.heap.size+1) me c d g h _ _ _ _ _ _ _ eo n3 ec es _ _ _ _ _ _ _ _ _ _ _ _ _ _ _ _ _ _ _ _ _ _ _ _ _ _ _ _ _ _ _ _ _ _ _ _ _ _ _ _ _ _ _ _ _ _ _ _ _ _ _ _ _ _ _ _ _ _ _ _ _ _ _ _ _ _ _ _ _ _ _ _ _ _ _ _ _ _ _ _ _ _ _ _ _ _ _ _ _ _ _ _ _ _ _ _ _ _ _ _ _ _ _ _ _ _ _ _ _ _ _ _ G2.out G3.out R4.out N3.out (by have:=EL.out; have:=N3.out; omega) ?_;intro wr v57 v58 v59 v60 v61 v62 v63 v64 v65 v66 v67 v68 v69 v70 v71 v72 v73 v74 v75 v76 v77 v78 v79 v80 v81 v82 v83 v84 v85 v86 v87 v88 v89 v90 v91 v92 v93 v94 v95 v96 hb;have B5:=D (B4.out.trans (hb.mono B4.out.size));have K2:=D (G2.out.on hb);have K3:=D (G3.out.on hb);have K5:=D (G5.out.on hb);have R5:=D (R4.out.on hb);clear hb B4 G2 G3 G5 R4;go_upto_region 8 with fail;refine Jr _ wr w.heap.size (w.heap.size+1) me _ _ _ _ eo n3 ec (dX (es.map gV) ((c,d),(g,h))) es (c,d,g,h,(po,pn,pc),fr,U) _ _ _ _ _ _ _ _ _ _ _ _ _ _ _ _ _ _ _ _ _ _ _ _ _ _ _ _ _ _ _ _ _ _ _ _ _ _ _ _ _ _ _ _ _ _ _ _ _ _ _ _ _ _ _ _ _ _ _ _ _ _ _ _ _ _ _ _ _ _ _ _ _ _ _ _ _ _ _ _ _ _ _ _ _ _ _ _ _ _ _ _ _ _ _ _ _ _ _ _ _ _ _ _ _ _ _ _ _ _ _ _ K2.out (kG (p:=(po,pn,pc)) K3.out) R5.out (by have:=kY (es.map gV) ((c,d),(g,h)); rw [ak] at this; exact this) EL.out ?_;intro xw v97 v98 v99 v100 v101 v102 v103 v104 v105 v106 v107 v108 v109 v110 v111 hbx ho hbl hoth hblk;obtain⟨mR,mU,BO⟩:=(Row.dG ho).len;obtain⟨tl,htl⟩:∃ n,n=(es.take (dX (es.map gV) ((c,d),(g,h)))++[(c,d,g,h,(po,pn,pc),fr,U)]++es.drop (dX (es.map gV) ((c,d),(g,h)))).length:=⟨_,rfl⟩;rw [<- htl] at BO;subst BO;have B6:=D (B5.out.trans (hbl _ (aB _)));have M2:=hbx;have M3:=hoth _ _ _ (by omega) K3.out;have M5:=hoth _ _ _ (by omega) K5.out;have OE:=D (dK ho (show w.heap.size+3<=wr.heap.size by have:=K5.out.lt; omega));clear ho hbl hoth hblk htl hbx B5 K2 K3 K5 R5;go_upto_region 9 with fail;refine sw _ xw w.heap.size (w.heap.size+1) (w.heap.size+1+1) me no ao so mR oo nn nc n2 ac sn sc tl mU gI oc _ _ _ _ _ _ _ _ _ _ _ _ U _ _ _ _ _ _ _ _ _ _ _ _ _ _ _ _ _ _ _ _ _ _ _ _ _ _ _ _ _ _ _ _ _ _ _ _ _ _ _ _ _ _ _ _ _ _ _ _ _ _ _ _ _ _ _ _ _ _ _ _ _ _ _ _ _ _ _ _ _ _ _ _ _ _ _ _ _ _ _ _ _ _ _ _ _ _ _ _ _ _ _ _ _ _ _ _ _ _ _ _ _ _ _ _ _ _ _ _ _ _ _ _ M2 M3 M5 (by omega) ?_;intro a9 x9 Mw h49 h59 Mx;subst Mx;have FB:=D (dZ M5.drew (L O me) (J no nn nc) (J ao n2 ac) (J so sn sc) (J mR tl mU) (J oo gI oc));have BL:=D (dN (b:=w.heap.size+1+1) B6.out.drew (by omega) (L O me) (J no nn nc) (J ao n2 ac) (J so sn sc) (J mR tl mU) (J oo gI oc));have FE:=D (iQ (dJ OE.out ((ay xw.heap.size xw).drew)) (w.heap.size+1+1) (by omega) (L O me) (J no nn nc) (J ao n2 ac) (J so sn sc) (J mR tl mU) (J oo gI oc));clear OE M2 M3 M5 B6;simp only [Exit.then]
       apply_assumption
       go_wp2_with fail;obtain⟨v0,v1,v2,v3,v4,v5⟩:=FB.out.gP;refine bodyPost_ret (v:=.tuple #[aK #[L O me,J no nn nc,J ao n2 ac,J so sn sc,J mR tl mU,J oo gI oc],V U]) (by simp [results,Z,go_sem,h49,h59,v0,v1,v2,v3,v4,v5]) Mw ?_;rw [LB.out];refine⟨⟨(mR,tl,mU),_,rfl,aH (dK FE.out (show w.heap.size<=w.heap.size+3 by omega)),?_⟩,BL.out⟩;rw [<- Vp.out];exact ((HR2.out.take _).append (.cons (WU.out _) .nil)).append (HR2.out.drop _)
    ·have LB:=D (LC.trans (if_pos (by simpa using And.intro hf1 hf2)));clear LC;go_upto_region 2 with fail;refine wp_region_quiet_below (by kernel_rfl) (by kernel_rfl) ?_
     repeat (go_big_quiet_step (first | (with_reducible exact CE.out _ _)))
     refine wpQuiet_nil ?_;intro _ hw';obtain⟨⟨dq,osq⟩,hw''⟩:=hw';subst hw'';have Z6:=below_regrown w1 dq osq;have B2:=D (B1.out.trans (Z6.mono B1.out.size));have Z2:=D (Y2.out.on Z6);have Z3:=D (Y3.out.on Z6);have Z5:=D (Y5.out.on Z6);clear Z6 B1 Y2 Y3 Y5 a0 a1 a2 a3 a4 a5 b0 b1 b2 b3 b4 b5 b6;generalize grow (redrawn w1 dq) osq=w2 at *;have FB:=D (dZ Z5.out (L O me) (J no nn nc) (J ao n2 ac) (J so sn sc) (J eo n3 ec) (J oo gI oc));have BL:=D (dN (b:=w.heap.size+1+1) B2.out (by omega) (L O me) (J no nn nc) (J ao n2 ac) (J so sn sc) (J eo n3 ec) (J oo gI oc));have Sg:=Z2.out;have GI:=Z5.out;obtain⟨x0,x1,x2,x3,x4,x5⟩:=Sg.gP;obtain⟨r0,r1,r2,r3,r4,r5⟩:=GI.gP;obtain⟨t0,t1,t2,t3,t4,t5⟩:=GI.pO;have zz:=GI.lt;clear Sg GI;go_wp2_with fail;obtain⟨v0,v1,v2,v3,v4,v5⟩:=FB.out.gP;refine bodyPost_ret (v:=.tuple #[aK #[L O me,J no nn nc,J ao n2 ac,J so sn sc,J eo n3 ec,J oo gI oc],V U]) (by simp [results,Z,go_sem,v0,v1,v2,v3,v4,v5]) rfl ?_;rw [LB.out];exact⟨⟨(eo,n3,ec),es,rfl,aO ⟨rfl,rfl,rfl⟩,HR2.out⟩,BL.out⟩
  ·have LB:=D (show iB b ⟨(c,d),(g,h),p',fr,Sd⟩=(b,U) from (LA.out _ he).trans (if_pos (by omega)));have hge:decide ((0:Int)<=(j:Int))=aA:=decide_eq_true (by omega);rw [he] at CE;clear LA he;go_upto_region 2 with fail;refine wp_region_quiet_below (by kernel_rfl) (by kernel_rfl) ?_
   repeat (go_big_quiet_step (first | (with_reducible exact CE.out _ _)))
   refine wpQuiet_nil ?_;intro _ hw';obtain⟨⟨dq,osq⟩,hw''⟩:=hw';subst hw'';have Z6:=below_regrown w1 dq osq;have B2:=D (B1.out.trans (Z6.mono B1.out.size));have Z2:=D (Y2.out.on Z6);have Z3:=D (Y3.out.on Z6);have Z5:=D (Y5.out.on Z6);clear Z6 B1 Y2 Y3 Y5 a0 a1 a2 a3 a4 a5 b0 b1 b2 b3 b4 b5 b6;generalize grow (redrawn w1 dq) osq=w2 at *;have FB:=D (dZ Z5.out (L O me) (J no nn nc) (J ao n2 ac) (J so sn sc) (J eo n3 ec) (J oo gI oc));have BL:=D (dN (b:=w.heap.size+1+1) B2.out (by omega) (L O me) (J no nn nc) (J ao n2 ac) (J so sn sc) (J eo n3 ec) (J oo gI oc));have Sg:=Z2.out;have GI:=Z5.out;obtain⟨x0,x1,x2,x3,x4,x5⟩:=Sg.gP;obtain⟨r0,r1,r2,r3,r4,r5⟩:=GI.gP;obtain⟨t0,t1,t2,t3,t4,t5⟩:=GI.pO;have zz:=GI.lt;clear Sg GI;go_wp2_with fail;obtain⟨v0,v1,v2,v3,v4,v5⟩:=FB.out.gP;refine bodyPost_ret (v:=.tuple #[aK #[L O me,J no nn nc,J ao n2 ac,J so sn sc,J eo n3 ec,J oo gI oc],V U]) (by simp [results,Z,go_sem,v0,v1,v2,v3,v4,v5]) rfl ?_;rw [LB.out];exact⟨⟨(eo,n3,ec),es,rfl,aO ⟨rfl,rfl,rfl⟩,HR2.out⟩,BL.out⟩
theorem yU (b:Br) (e:En):(iB b e).1.me=b.me/\(iB b e).1.near=b.near/\(iB b e).1.dV=b.dV/\(iB b e).1.seen=b.seen/\(iB b e).1.own=b.own:=by
 unfold iB
 split
 ·exact⟨rfl,rfl,rfl,rfl,rfl⟩
 ·split
  ·exact⟨rfl,rfl,rfl,rfl,rfl⟩
  ·split
   ·exact⟨rfl,rfl,rfl,rfl,rfl⟩
   ·split <;> exact⟨rfl,rfl,rfl,rfl,rfl⟩
end Bk
namespace Bk
open Go.RowKit Go.Sort Rw YtmklifheakemeaaGreat.Nm Pr
open Av
def JM (e:En):En:={ e with up:=aA }
theorem MF (w:aD) (c d e f:Array aN) (r s t u:TypeId):Below w.heap.size w ((((w.alloc (X c r)).alloc (X d s)).alloc (X e t)).alloc (X f u))/\dI ((((w.alloc (X c r)).alloc (X d s)).alloc (X e t)).alloc (X f u)) w.heap.size c r/\dI ((((w.alloc (X c r)).alloc (X d s)).alloc (X e t)).alloc (X f u)) (w.heap.size+1) d s/\dI ((((w.alloc (X c r)).alloc (X d s)).alloc (X e t)).alloc (X f u)) (w.heap.size+1+1) e t/\dI ((((w.alloc (X c r)).alloc (X d s)).alloc (X e t)).alloc (X f u)) (w.heap.size+1+1+1) f u:=by
 obtain⟨h0,h1,h2,h3⟩:=je w c d e r s t;refine⟨h0.alloc h0.size _,h1.more _,h2.more _,h3.more _,?_⟩;have h:=dL (((w.alloc (X c r)).alloc (X d s)).alloc (X e t)) f u;have e2:(((w.alloc (X c r)).alloc (X d s)).alloc (X e t)).heap.size=w.heap.size+1+1+1:=by simp
 rw [e2] at h;exact h
structure Ou where
 sO:Int
 kind:Int
 tree:Id
 id:Id
 p:List C5
def sP (W:aD) (x:mg) (o:Ou):Prop:=x.1=o.sO/\x.2.1=o.kind/\(x.2.2.1,x.2.2.2.1)=o.tree/\(x.2.2.2.2.1,x.2.2.2.2.2.1)=o.id/\eY W (dO x.2.2.2.2.2.2.1) o.p/\x.2.2.2.2.2.2.2=(Y,0,0)
theorem sP.on {W W':aD} {x:mg} {o:Ou} (h:sP W x o) (hb:Below W.heap.size W W'):sP W' x o:=⟨h.1,h.2.1,h.2.2.1,h.2.2.2.1,h.2.2.2.2.1.on hb,h.2.2.2.2.2⟩
def iZ (W:aD) (s:Sl) (l:List Ou):Prop:=∃ xs,XK W (dO s) xs/\eZ (sP W) xs l
theorem iZ.on {W W':aD} {s:Sl} {l:List Ou} (h:iZ W s l) (hb:Below W.heap.size W W'):iZ W' s l:=by
 obtain⟨xs,h1,h2⟩:=h;exact⟨xs,h1.on hb,h2.mono fun _ _ h=>h.on hb⟩
theorem MG (W:aD):iZ W (Y,0,0) []:=⟨[],kJ _,.nil⟩
def BP (sO:Int) (e:En):Ou:=⟨sO,3,e.tree,e.sub,e.p⟩
theorem JO (l:List Id) (x:Id) (h:x∈l):∃ k:Nat,fE l x=k/\l[k]?=au x:=by
 induction l with
 | nil=>simp at h
 | cons a r ih =>
  by_cases e:a=x
  ·subst e;exact⟨0,by simp [fE],rfl⟩
  ·have hr:x∈r:=by
    rcases List.mem_cons.1 h with h1|h1
    ·exact absurd h1.symm e
    ·exact h1
   obtain⟨k,h1,h2⟩:=ih hr;refine⟨k+1,?_,by simpa using h2⟩;rw [fE,if_neg e,h1,if_neg (by omega)];omega
end Bk
end Go.Proofs.YtmklifheakemeaaGreat
