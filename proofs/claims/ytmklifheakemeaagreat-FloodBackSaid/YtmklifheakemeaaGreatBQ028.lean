/-
  Covered of broadside. Conditions as told.
-/
import Derived.Test.YtmklifheakemeaaGreatBQ023
import Derived.Test.YtmklifheakemeaaGreatBQ018
import Derived.Test.YtmklifheakemeaaGreatBQ014
import Derived.Test.YtmklifheakemeaaGreatBQ012
set_option maxRecDepth 100000
set_option maxHeartbeats 64000000
open _root_.Bool renaming false->Z,true->ay
open _root_.Go renaming World->aO,Value->aU,Calls->bM
open Go.Calls renaming regrown_of->aX
open Go.IntKind renaming i64->U
open Go.Lib renaming hid->L
open Go.Obj renaming cells->aj
open Go.Operand renaming tmp->aP
open Go.Proofs.Tryz renaming results47->aC,prog->aL,results150->aR
open Go.Proofs.YtmklifheakemeaaGreat.Rw.Row renaming dH->aN
open Go.RowKit.Below renaming heap_setCell->Y,refl->aD
open Go.Value renaming slice->J,int->O,bool->ah,pointer->aJ,agg->aQ
open _root_.Int renaming toNat_natCast->aV
open _root_.List renaming getElem?_eq_getElem->ak,mem_of_getElem?->aB,getElem?_cons_zero->aH,getElem?_cons_succ->aI,length_map->aK,getElem?_toArray->aM,getElem?_eq_some_iff->aT,map_cons->aW,takeWhile_cons->aZ,set_cons_succ->bf,length_append->bg,getElem?_map->bF,length_take->bG,length_drop->bH,map_toArray->bI,mem_append->bK,map_nil->bL
open _root_.Nat renaming le_trans->aA,le_refl->aF,lt_or_ge->aS,zero_le->bJ,le_succ->bN
open _root_.Option renaming none->V,some->X
open Option.some renaming inj->au
open _root_.Or renaming inr->aG,inl->aY
namespace Go.Proofs.YtmklifheakemeaaGreat
namespace Bk
open Go.RowKit Rw YtmklifheakemeaaGreat.Nm Pr Rl
def Zz (c:C5):Cn:=(c.1,if c.2.1=1 then .rg c.2.2.1 c.2.2.2.1 else if c.2.1=2 then .tx c.2.2.2.2 else .pr c.2.2.2.2)
theorem acs (c:Cn):Zz (r5 c)=c:=by
 obtain⟨n,k⟩:=c;cases k <;> simp [Zz,r5,kN,jG,jH,kT]
theorem pO (a:List Cn):(a.map r5).map Zz=a:=by
 rw [List.map_map];have h:Zz∘r5=id:=funext acs;rw [h,List.map_id]
def dZ (p:List C5):Prop:=∃ a:List Cn,NF a/\p=a.map r5
def mW (p q:List C5):Bool:=o8 (p.map Zz) (q.map Zz)
theorem TQ (oL bv:aU) (p q:List C5) (w:aO) (ha:fH w oL p) (hb:fH w bv q) (hp:dZ p) (hq:dZ q) :
  bM aL 153 #[oL,bv] w fun e w'=>e=.returned (ah (mW p q))/\Below w.heap.size w w':=by
 obtain⟨a,na,rfl⟩:=hp;obtain⟨b,nb,rfl⟩:=hq;unfold mW;rw [pO,pO];exact Hf oL bv a b w ha hb (by have:=na.five; omega) (by have:=nb.five; omega)
def TR (t:Id) (p:List C5) (e:En):Bool:=decide (e.tree=t) && (e.up && mW e.p p)
def fC (m:List En) (t:Id) (p:List C5):Bool:=m.any (TR t p)
theorem wF (me:Int) (nv av sv ov:aU) (ev:Sl) (l:List iL) (m:List En) (x:Id) (pv:aU) (p':List C5) (w:aO) (hs:lF w (dX ev) l) (hu:fA (kr w) l m) (hp:fH w pv p') (hok:∀ e∈m,dZ e.p) (hop:dZ p') :
  bM aL 109 #[aQ #[O U me,nv,av,sv,dX ev,ov],mZ x,pv] w fun e w'=>e=.returned (ah (fC m x p'))/\Below w.heap.size w w':=by
 have HU:=L hu;have HP:=L hp;have OK:=L hok;have OP:=L hop;obtain⟨pa,pc,rfl⟩:=hp.len;obtain⟨pn,hpn⟩:∃ n,n=p'.length:=⟨_,rfl⟩;rw [<- hpn] at HP ⊢;clear hu hp hok hop hpn;obtain⟨c,d⟩:=x;obtain⟨so,sn,sc⟩:=ev;obtain⟨ao,ac,hv⟩:=hs.len;have hv:J so sn sc=J ao l.length ac:=hv;obtain⟨rfl,rfl,rfl⟩:so=ao/\sn=l.length/\sc=ac:=by simpa using hv
 obtain⟨h0,h1,h2⟩:=gY w #[O U me,nv,av,sv,J so l.length sc,ov] #[O U c,O U d] 28 31;have B:=L h0;have HS:=L (hs.on h0);have X2:=L h1;have X3:=L h2;have lm:=hs.most;unfold maxLen at lm;obtain⟨n,hn⟩:∃ n,n=l.length:=⟨_,rfl⟩;have q3:=h1.cell 4;simp only [aM,aH,aI] at q3;rw [<- hn] at HS X2 lm q3 B X3 ⊢;have HN:=L hn.symm;clear h0 h1 h2 hs hv hn;go_enter Tryz.func109,Tryz.ntmps109;go_upto_region 1 with fail;generalize (w.alloc (aj #[O U me,nv,av,sv,J so n sc,ov] 28)).alloc (aj #[O U c,O U d] 31)=W at *;go_wp2
 go_loopw [12] (fun i wr=>∃ k:Nat,k<=n/\i=O U k/\Below W.heap.size W wr/\∀ (j:Nat) (y:En),j<k->m[j]?=X y->TR (c,d) p' y=Z) (fun i _=>n-(intOf i).toNat)
 case atStart=>exact⟨0,bJ _,rfl,aD _ _,fun j y h=>by omega⟩
 case round =>
  obtain⟨k,hk,rfl,hbe,hall⟩:=hrel;have BE:=L hbe;have AL:=L hall;clear hbe hall;by_cases hlt:k<n
  ·obtain⟨y,hy⟩:∃ y,l[k]?=X y:=⟨_,ak (by rw [HN.out]; exact hlt)⟩;obtain⟨p,ix,px⟩:=Pp HS.out rfl HN.out hy;obtain⟨p0,p1,p2,p3,p4,p5,p6⟩:=px wr BE.out;obtain⟨y1,y2,y3,y4,⟨yo,yn,yc⟩,y6,y7⟩:=y;simp only at p0 p1 p2 p3 p4 p5 p6;have NB:=L (gu wr (aj #[O U y1,O U y2,O U y3,O U y4,J yo yn yc,O U y6,ah y7] 66));obtain⟨x0,x1⟩:=((X3.out.on BE.out).on NB.out).cs2;have hw3:IntKind.i64.wrap ((k:Int)+1)=(k:Int)+1:=IntWalk.i64_in _ (by omega);obtain⟨me_,hm,hin⟩:=pK HU.out k _ hy;obtain⟨r,hr⟩:∃ r,(y1 == c && y2 == d)=r:=⟨_,rfl⟩;obtain⟨t,ht⟩:∃ r,mW me_.p p'=r:=⟨_,rfl⟩;have he:=uw y1 y2 c d r hr;have HV:=L (show TR (c,d) p' me_=(r && (y7 && t)) by
    rw [<- hr,<- ht];unfold TR;rw [<- hin.1,<- hin.2.2.2.1];by_cases g1:y1=c <;> by_cases g2:y2=d <;> simp [g1,g2])
   have HM:=L hm;have CV:=L (fun W' (hb':Below w.heap.size w W')=>(TQ (J yo yn yc) (J pa pn pc) me_.p p' W' (hin.2.2.2.2.on hb') (HP.out.on hb') (OK.out _ (aB hm)) OP.out));rw [ht] at CV;clear px hy hr ht hm hin;cases r
   ·go_wp2
    go_roundw
    case rel=>exact⟨k+1,by omega,by go_num,BE.out.trans (NB.out.mono BE.out.size),fun j y' hj h1=>by
     rcases aS j k with h3|h3
     ·exact AL.out j y' h3 h1
     ·obtain rfl:j=k:=by omega
      have e1:=HM.out;rw [h1] at e1;rw [au e1];exact HV.out.trans (by simp)⟩
    case measure=>simp [intOf]; omega
   ·cases y7
    ·go_wp2
     go_roundw
     case rel=>exact⟨k+1,by omega,by go_num,BE.out.trans (NB.out.mono BE.out.size),fun j y' hj h1=>by
     rcases aS j k with h3|h3
     ·exact AL.out j y' h3 h1
     ·obtain rfl:j=k:=by omega
      have e1:=HM.out;rw [h1] at e1;rw [au e1];exact HV.out.trans (by simp)⟩
     case measure=>simp [intOf]; omega
    ·have BF:=L (BE.out.trans (NB.out.mono BE.out.size));have CW:=L (CV.out _ (B.out.trans (BF.out.mono B.out.size)));clear CV;go_wp2_with fail;refine CW.out.mono ?_;rintro e3 w3 ⟨rfl,hb⟩;have BG:=L (BF.out.trans (hb.mono BF.out.size));clear CW hb x0 x1 p0 p1 p2 p3 p4 p5 p6 ix he;cases t
     ·go_wp2
      go_roundw
      case rel=>exact⟨k+1,by omega,by go_num,BG.out,fun j y' hj h1=>by
     rcases aS j k with h3|h3
     ·exact AL.out j y' h3 h1
     ·obtain rfl:j=k:=by omega
      have e1:=HM.out;rw [h1] at e1;rw [au e1];exact HV.out.trans (by simp)⟩
      case measure=>simp [intOf]; omega
     ·go_wp2;go_ret;have hd:fC m (c,d) p'=ay:=by
       unfold fC;rw [List.any_eq_true];exact⟨me_,aB HM.out,HV.out.trans (by simp)⟩
      exact⟨by rw [hd]; rfl,B.out.trans (BG.out.mono B.out.size)⟩
  ·obtain rfl:k=n:=by omega
   go_wp2;go_ret;have hd:fC m (c,d) p'=Z:=by
    unfold fC;rw [List.any_eq_false];intro e he;obtain⟨j,hj,hje⟩:=List.getElem_of_mem he;have h9:=AL.out j e (by rw [<- HN.out,HU.out.len]; exact hj) (by rw [ak hj,hje]);simpa using h9
   exact⟨by rw [hd]; rfl,B.out.trans (BE.out.mono B.out.size)⟩
end Bk
namespace Bk
open Go.RowKit Go.Sort Rw YtmklifheakemeaaGreat.Nm Pr
theorem xU {κ:Type} (f:κ->Bool) (l:List κ) (k:Nat) (hall:∀ (j:Nat) (y:κ),j<k->l[j]?=X y->f y=ay) (hend:k=l.length\/∃ y,l[k]?=X y/\f y=Z):(l.takeWhile f).length=k:=by
 induction l generalizing k with
 | nil =>
  rcases hend with h|⟨y,h,_⟩
  ·rw [h]; rfl
  ·simp at h
 | cons a l ih =>
  cases k with
  | zero =>
   rcases hend with h|⟨y,h,h2⟩
   ·simp at h
   ·obtain rfl:a=y:=by simpa using h
    rw [aZ,h2]
    rfl
  | succ k =>
   have h0:=hall 0 a (by omega) rfl;rw [aZ,h0];simp only [if_true,List.length_cons];rw [ih k (fun j y hj hy=>hall (j+1) y (by omega) (by simpa using hy)) (by
    rcases hend with h|⟨y,h,h2⟩
    ·exact aY (by simpa using h)
    ·exact aG ⟨y,by simpa using h,h2⟩)]
def jw (a b:Id×Id):Bool:=eP a.1 b.1 || (za a.1 b.1 && eP a.2 b.2)
def fB (l:List (Id×Id)) (x:Id×Id):Nat:=(l.takeWhile fun a=>jw a x).length
noncomputable def aeU:Code:=((Tryz.f47.body.bind (jM 0)).getD .skip)
theorem xV (Q:Exit->Act->aO->Prop) (W:aO) (b2 b3:Nat) (me c d g h:Int) (y1_ y2_ y3_ y5_ p3' p4' p5':aU) (so:Option Addr) (n sc:Nat) (l:List iL) (u0 u1 u4 u5 u6 u8 u9 u10 u11 u12 u13 u14 u15 u16 u17 u18 u19 u20 u21 u22 u23 u24 u25 u26 u27 u28 u29 u30 u31 u32 u33 u34 u35 u36 u37 u38 u39 u40 u41 u42 u43 u44 u45 u46 u47 u48 u49 u50 u51 u52 u53 u54 u55 u56 u57 u58 u59 u60 u61 u62 u63 u64 u65 u66 u67 u68 u69 u70 u71 u72 u73 u74 u75 u76 u77 u78 u79 u80 u81 u82 u83 u84 u85 u86 u87 u88 u89 u90 u91 u92 u93 u94 u95 u96 u97 u98 u99 u100 u101 u102 u103 u104 u105 u106 u107 u108 u109 u110 u111 u112 u113 u114:aU)
  (h2:dJ W b2 #[O U me,y1_,y2_,y3_,J so n sc,y5_] 28) (h3:dJ W b3 #[O U c,O U d,O U g,O U h,p3',p4',p5'] 66) (hs:lF W (J so n sc) l) (hn:n=l.length) (hm:n<=1000000)
  (hQ:∀ (wr:aO) (v57 v58 v59 v60 v61 v62 v63 v64 v65 v66 v67 v68 v69 v70 v71 v72 v73 v74 v75 v76 v77 v78 v79 v80 v81 v82 v83 v84 v85 v86 v87 v88 v89 v90 v91 v92 v93 v94 v95 v96:aU),Below W.heap.size W wr->Q .normal ⟨(u0::u1::aJ (X ⟨b2,0,V⟩)::aJ (X ⟨b3,0,V⟩)::u4::u5::u6::O U (fB (l.map iU) ((c,d),(g,h)):Nat)::u8::u9::u10::u11::u12::u13::u14::u15::u16::u17::u18::u19::u20::u21::u22::u23::u24::u25::u26::u27::u28::u29::u30::u31::u32::u33::u34::u35::u36::u37::u38::u39::u40::u41::u42::u43::u44::u45::u46::u47::u48::u49::u50::u51::u52::u53::u54::u55::u56::v57::v58::v59::v60::v61::v62::v63::v64::v65::v66::v67::v68::v69::v70::v71::v72::v73::v74::v75::v76::v77::v78::v79::v80::v81::v82::v83::v84::v85::v86::v87::v88::v89::v90::v91::v92::v93::v94::v95::v96::u97::u98::u99::u100::u101::u102::u103::u104::u105::u106::u107::u108::u109::u110::u111::u112::u113::u114::[]).toArray,[]⟩ wr) :
  Code.wp aL aeU Q ⟨(u0::u1::aJ (X ⟨b2,0,V⟩)::aJ (X ⟨b3,0,V⟩)::u4::u5::u6::O U 0::u8::u9::u10::u11::u12::u13::u14::u15::u16::u17::u18::u19::u20::u21::u22::u23::u24::u25::u26::u27::u28::u29::u30::u31::u32::u33::u34::u35::u36::u37::u38::u39::u40::u41::u42::u43::u44::u45::u46::u47::u48::u49::u50::u51::u52::u53::u54::u55::u56::u57::u58::u59::u60::u61::u62::u63::u64::u65::u66::u67::u68::u69::u70::u71::u72::u73::u74::u75::u76::u77::u78::u79::u80::u81::u82::u83::u84::u85::u86::u87::u88::u89::u90::u91::u92::u93::u94::u95::u96::u97::u98::u99::u100::u101::u102::u103::u104::u105::u106::u107::u108::u109::u110::u111::u112::u113::u114::[]).toArray,[]⟩ W:=by
 have HQ:=L hQ;have H2:=L h2;have H3:=L h3;have HS:=L hs;have HN:=L hn;clear hQ h2 h3 hs hn
 conv=>arg 2; whnf
 go_wp2
 go_loopw [7] (fun i wr=>∃ k:Nat,k<=n/\i=O U k/\Below W.heap.size W wr/\∀ (j:Nat) (y:Id×Id),j<k->(l.map iU)[j]?=X y->jw y ((c,d),(g,h))=ay) (fun i _=>n-(intOf i).toNat)
 case atStart=>exact⟨0,bJ _,rfl,aD _ _,fun j y h=>by omega⟩
 case round =>
  obtain⟨k,hk,rfl,hbe,hall⟩:=hrel;have BE:=L hbe;have AL:=L hall;clear hbe hall;have q0:=cell_regrown (show wr.cell? ⟨b2,4,V⟩=X (J so n sc) from (H2.out.on BE.out).cell 4);have r0:=cell_regrown (show wr.cell? ⟨b3,0,V⟩=X (O U c) from (H3.out.on BE.out).cell 0);have r1:=cell_regrown (show wr.cell? ⟨b3,1,V⟩=X (O U d) from (H3.out.on BE.out).cell 1);have r2:=cell_regrown (show wr.cell? ⟨b3,2,V⟩=X (O U g) from (H3.out.on BE.out).cell 2);have r3:=cell_regrown (show wr.cell? ⟨b3,3,V⟩=X (O U h) from (H3.out.on BE.out).cell 3);have hw3:IntKind.i64.wrap ((k:Int)+1)=(k:Int)+1:=IntWalk.i64_in _ (by omega);by_cases hlt:k<n
  ·obtain⟨y,hy⟩:∃ y,l[k]?=X y:=⟨_,ak (by rw [<- HN.out]; exact hlt)⟩;obtain⟨p,ix,px⟩:=Pp HS.out rfl HN.out.symm hy;have yO:=px wr BE.out;obtain⟨y1,y2,y3,y4,⟨yo,yn,yc⟩,y6,y7⟩:=y;simp only at yO;have p0:=cell_regrown yO.1;have p1:=cell_regrown yO.2.1;have p2:=cell_regrown yO.2.2.1;have p3:=cell_regrown yO.2.2.2.1;have yu:decide ((k:Int)<(n:Int))=ay:=decide_eq_true (by omega);have Cm:decide (k<n)=ay:=decide_eq_true hlt;obtain⟨r,hr⟩:∃ r,eP (y1,y2) (c,d)=r:=⟨_,rfl⟩;obtain⟨t,ht⟩:∃ r,(y1 == c && y2 == d)=r:=⟨_,rfl⟩;obtain⟨s,hs⟩:∃ r,eP (y3,y4) (g,h)=r:=⟨_,rfl⟩;have he:=uw y1 y2 c d t ht;have LS:=L (fun d' os=>aX (d:=d') (os:=os) ((sF (y1,y2) (c,d) (grow (redrawn wr d') os)).mono fun _ _ h=>⟨by rw [h.1,hr],h.2⟩));have LT:=L (fun d' os=>aX (d:=d') (os:=os) ((sF (y3,y4) (g,h) (grow (redrawn wr d') os)).mono fun _ _ h=>⟨by rw [h.1,hs],h.2⟩));have HY:=L (show (l.map iU)[k]?=X ((y1,y2),(y3,y4)) by rw [bF,hy]; rfl);have HV:=L (show jw ((y1,y2),(y3,y4)) ((c,d),(g,h))=(r || (t && s)) by rw [<- hr,<- ht,<- hs]; rfl);clear px yO hy hr ht hs;cases r
   ·cases t
    ·have HR:=L (HV.out.trans (show _=Z by simp));go_wp2_with fail;refine wp_region_quiet_below (by kernel_rfl) (by kernel_rfl) ?_
     repeat (go_big_quiet_step (first | (with_reducible exact LS.out _ _) | (with_reducible exact LT.out _ _)))
     refine wpQuiet_nil ?_;intro _ hw';obtain⟨⟨dq,osq⟩,hw''⟩:=hw';subst hw'';have Z6:=below_regrown wr dq osq;have HF:=L (fun v57 v58 v59 v60 v61 v62 v63 v64 v65 v66 v67 v68 v69 v70 v71 v72 v73 v74 v75 v76 v77 v78 v79 v80 v81 v82 v83 v84 v85 v86 v87 v88 v89 v90 v91 v92 v93 v94 v95 v96=>HQ.out (grow (redrawn wr dq) osq) v57 v58 v59 v60 v61 v62 v63 v64 v65 v66 v67 v68 v69 v70 v71 v72 v73 v74 v75 v76 v77 v78 v79 v80 v81 v82 v83 v84 v85 v86 v87 v88 v89 v90 v91 v92 v93 v94 v95 v96 (BE.out.trans (Z6.mono BE.out.size)));rw [show fB (l.map iU) ((c,d),(g,h))=k from xU _ _ k AL.out (aG ⟨_,HY.out,HR.out⟩)] at HF;clear ix HQ q0 r0 r1 r2 r3 LS LT yu Cm p0 p1 p2 p3 he;go_wp2;exact HF.out _ _ _ _ _ _ _ _ _ _ _ _ _ _ _ _ _ _ _ _ _ _ _ _ _ _ _ _ _ _ _ _ _ _ _ _ _ _ _ _
    ·cases s
     ·have HR:=L (HV.out.trans (show _=Z by simp));go_wp2_with fail;refine wp_region_quiet_below (by kernel_rfl) (by kernel_rfl) ?_
      repeat (go_big_quiet_step (first | (with_reducible exact LS.out _ _) | (with_reducible exact LT.out _ _)))
      refine wpQuiet_nil ?_;intro _ hw';obtain⟨⟨dq,osq⟩,hw''⟩:=hw';subst hw'';have Z6:=below_regrown wr dq osq;have HF:=L (fun v57 v58 v59 v60 v61 v62 v63 v64 v65 v66 v67 v68 v69 v70 v71 v72 v73 v74 v75 v76 v77 v78 v79 v80 v81 v82 v83 v84 v85 v86 v87 v88 v89 v90 v91 v92 v93 v94 v95 v96=>HQ.out (grow (redrawn wr dq) osq) v57 v58 v59 v60 v61 v62 v63 v64 v65 v66 v67 v68 v69 v70 v71 v72 v73 v74 v75 v76 v77 v78 v79 v80 v81 v82 v83 v84 v85 v86 v87 v88 v89 v90 v91 v92 v93 v94 v95 v96 (BE.out.trans (Z6.mono BE.out.size)));rw [show fB (l.map iU) ((c,d),(g,h))=k from xU _ _ k AL.out (aG ⟨_,HY.out,HR.out⟩)] at HF;clear ix HQ q0 r0 r1 r2 r3 LS LT yu Cm p0 p1 p2 p3 he;go_wp2;exact HF.out _ _ _ _ _ _ _ _ _ _ _ _ _ _ _ _ _ _ _ _ _ _ _ _ _ _ _ _ _ _ _ _ _ _ _ _ _ _ _ _
     ·have HR:=L (HV.out.trans (show _=ay by simp));go_wp2_with fail;refine wp_region_quiet_below (by kernel_rfl) (by kernel_rfl) ?_
      repeat (go_big_quiet_step (first | (with_reducible exact LS.out _ _) | (with_reducible exact LT.out _ _)))
      refine wpQuiet_nil ?_;intro _ hw';obtain⟨⟨dq,osq⟩,hw''⟩:=hw';subst hw'';have Z6:=L (below_regrown wr dq osq);clear ix q0 r0 r1 r2 r3 LS LT yu Cm p0 p1 p2 p3 he;go_wp2
      go_roundw
      case rel=>exact⟨k+1,by omega,by go_num,BE.out.trans (Z6.out.mono BE.out.size),fun j y' hj h1=>by
       rcases aS j k with h3|h3
       ·exact AL.out j y' h3 h1
       ·obtain rfl:j=k:=by omega
        have e1:=HY.out;rw [h1] at e1;rw [au e1];exact HR.out⟩
      case measure=>simp [intOf]; omega
   ·have HR:=L (HV.out.trans (show _=ay by simp));go_wp2_with fail;refine wp_region_quiet_below (by kernel_rfl) (by kernel_rfl) ?_
    repeat (go_big_quiet_step (first | (with_reducible exact LS.out _ _) | (with_reducible exact LT.out _ _)))
    refine wpQuiet_nil ?_;intro _ hw';obtain⟨⟨dq,osq⟩,hw''⟩:=hw';subst hw'';have Z6:=L (below_regrown wr dq osq);clear ix q0 r0 r1 r2 r3 LS LT yu Cm p0 p1 p2 p3 he;go_wp2
    go_roundw
    case rel=>exact⟨k+1,by omega,by go_num,BE.out.trans (Z6.out.mono BE.out.size),fun j y' hj h1=>by
     rcases aS j k with h3|h3
     ·exact AL.out j y' h3 h1
     ·obtain rfl:j=k:=by omega
      have e1:=HY.out;rw [h1] at e1;rw [au e1];exact HR.out⟩
    case measure=>simp [intOf]; omega
  ·obtain rfl:n=k:=by omega
   have yu:decide ((n:Int)<(n:Int))=Z:=by simp
   have Cm:decide (n<n)=Z:=by simp
   go_wp2_with fail;refine wp_region_quiet_below (by kernel_rfl) (by kernel_rfl) ?_
   repeat (go_big_quiet_step (fail))
   refine wpQuiet_nil ?_;intro _ hw';obtain⟨⟨dq,osq⟩,hw''⟩:=hw';subst hw'';have Z6:=below_regrown wr dq osq;have HF:=L (fun v57 v58 v59 v60 v61 v62 v63 v64 v65 v66 v67 v68 v69 v70 v71 v72 v73 v74 v75 v76 v77 v78 v79 v80 v81 v82 v83 v84 v85 v86 v87 v88 v89 v90 v91 v92 v93 v94 v95 v96=>HQ.out (grow (redrawn wr dq) osq) v57 v58 v59 v60 v61 v62 v63 v64 v65 v66 v67 v68 v69 v70 v71 v72 v73 v74 v75 v76 v77 v78 v79 v80 v81 v82 v83 v84 v85 v86 v87 v88 v89 v90 v91 v92 v93 v94 v95 v96 (BE.out.trans (Z6.mono BE.out.size)));rw [show fB (l.map iU) ((c,d),(g,h))=n from xU _ _ n AL.out (aY (by simpa using HN.out))] at HF;clear HQ q0 r0 r1 r2 r3 yu Cm;go_wp2;exact HF.out _ _ _ _ _ _ _ _ _ _ _ _ _ _ _ _ _ _ _ _ _ _ _ _ _ _ _ _ _ _ _ _ _ _ _ _ _ _ _ _
abbrev fJ (e:En):Id×Id:=(e.tree,e.sub)
theorem keys_eq {W:aO} {l:List iL} {m:List En} (h:fA (kr W) l m):l.map iU=m.map fJ:=by
 induction h with
 | nil=>rfl
 | cons x t ih=>rw [aW,aW,ih,show iU _=fJ _ from Prod.ext x.1 x.2.1]
def gQ (b:Br) (e:En):Br×Bool:=match b.dQ[(fI (b.dQ.map Ad.id) e.tree).toNat]? with
 | none=>(b,Z)
 | some a=>if fI (b.dQ.map Ad.id) e.tree=-1 then (b,Z) else if iV (b.ent.map fJ) (fJ e)≠-1 then (b,Z) else if e.from_≠-1/\e.from_=a.par then (b,Z) else
  ({ b with ent:=fU b.ent (fB (b.ent.map fJ) (fJ e)) { e with up:=decide (a.par≠-1) && !fC b.ent e.tree e.p } },decide (a.par≠-1) && !fC b.ent e.tree e.p)
theorem nV (l:List (Id×Id)) (x:Id×Id):fB l x<=l.length:=by
 unfold fB;exact (List.takeWhile_sublist _).length_le
theorem mP {W:aO} {b:Nat} {c d g h f:Int} {p:Sl} {u:Bool} (hb:dJ W b #[O U c,O U d,O U g,O U h,dX p,O U f,ah u] 66):∀ x,Below W.heap.size W x->∀ j v,(jA (c,d,g,h,p,f,u))[j]?=X v->x.cell? ((⟨b,0,V⟩:Addr).add j)=X v:=by
 intro x hx j v hj;rw [nR,(hb.on hx).cell]
 match j with
 | 0=>exact hj
 | 1=>exact hj
 | 2=>exact hj
 | 3=>exact hj
 | 4=>exact hj
 | 5=>exact hj
 | 6=>exact hj
 | j+7=>simp at hj
theorem uh (b:Br) (nv av sv ev ov:Sl) (z:iL) (e:En) (w:aO) (es:List iL) (R:iL->En->Prop) (h_:iZ w b nv av sv ev ov) (he1:lF w (dX ev) es) (he2:fA (kr w) es b.ent) (hr2:fA R es b.ent) (hrz:∀ u,R (z.1,z.2.1,z.2.2.1,z.2.2.2.1,z.2.2.2.2.1,z.2.2.2.2.2.1,u) { e with up:=u }) (hz:kr w z e) (l2:b.dQ.length<=900) (l3:b.ent.length<=900) (hok:∀ e∈b.ent,dZ e.p) (hop:dZ e.p) :
  bM aL 47 #[oK b.me nv av sv ev ov,rV z] w fun e' w'=>(∃ (ev':Sl) (xs:List iL),e'=.returned (.tuple #[oK b.me nv av sv ev' ov,ah (gQ b e).2])/\((ev'=ev/\xs=es/\(gQ b e).1=b)\/kQ w' w.heap.size (dX ev') xs)/\fA R xs (gQ b e).1.ent)/\Below w.heap.size w w':=by
 obtain⟨no,nn,nc⟩:=nv;obtain⟨ao,an,ac⟩:=av;obtain⟨so,sn,sc⟩:=sv;obtain⟨eo,en,ec⟩:=ev;obtain⟨oo,dY,oc⟩:=ov;obtain⟨c,d,g,h,⟨po,pn,pc⟩,fr,ZA⟩:=z;obtain⟨⟨tc,td⟩,⟨sg,sh⟩,p',fr',up'⟩:=e;obtain⟨hz1,hz2,hz3,hz4,hz5⟩:=hz;obtain⟨rfl,rfl⟩:c=tc/\d=td:=by simpa using hz1
 obtain⟨rfl,rfl⟩:g=sg/\h=sh:=by simpa using hz2
 obtain rfl:fr=fr':=hz3;obtain rfl:ZA=up':=hz4;have HP:=L hz5;have HR2:=L hr2;have HRZ:=L hrz;clear hr2 hrz;obtain⟨xs,hx1,hx2⟩:=h_.dQ;have IDS:=L (zI hx2);have Xz:=L (keys_eq he2);have XL:=L (show xs.length<=900 by rw [hx2.len]; exact l2);have EL:=L (show es.length<=900 by rw [he2.len]; exact l3);have HA2:=L hx2;have HE2:=L he2;have OK:=L hok;have OP:=L hop;obtain⟨q1,q2,hq⟩:=hx1.len;obtain⟨rfl,rfl,rfl⟩:ao=q1/\an=xs.length/\ac=q2:=by
  have:J ao an ac=J q1 xs.length q2:=hq;simpa using this
 clear hq;obtain⟨q1,q2,hq⟩:=he1.len;obtain⟨rfl,rfl,rfl⟩:eo=q1/\en=es.length/\ec=q2:=by
  have:J eo en ec=J q1 es.length q2:=hq;simpa using this
 clear hq;have FD:=tN b.me (J no nn nc) (J eo es.length ec) (J so sn sc) (J oo dY oc) (ao,xs.length,ac) xs (c,d);have EN:=zW b.me (J no nn nc) (J ao xs.length ac) (J so sn sc) (J oo dY oc) (eo,es.length,ec) es (c,d) (g,h);have CV:=fun W hb'=>wF b.me (J no nn nc) (J ao xs.length ac) (J so sn sc) (J oo dY oc) (eo,es.length,ec) es b.ent (c,d) (J po pn pc) p' W (he1.on (show Below w.heap.size w W from hb')) (he2.mono fun _ _ h=>h.on hb') (hz5.on hb') hok hop;have HH:=L h_;obtain⟨h0,h1,h2,h3⟩:=gJ w #[O U b.me,J no nn nc,J ao xs.length ac,J so sn sc,J eo es.length ec,J oo dY oc] #[O U c,O U d,O U g,O U h,J po pn pc,O U fr,ah ZA] #[O U 0,J V 0 0,J V 0 0,J V 0 0,J V 0 0,J V 0 0] 28 66 28;obtain⟨n2,hn2⟩:∃ n,n=xs.length:=⟨_,rfl⟩;obtain⟨n3,Sj⟩:∃ n,n=es.length:=⟨_,rfl⟩;simp only [<- hn2,<- Sj] at h0 h1 h2 h3 hx1 he1 HH FD EN CV ⊢;have B0:=L h0;have X2:=L h1;have X3:=L h2;have X5:=L h3;have HS:=L hx1;have HE:=L he1;have N2:=L hn2;have N3:=L Sj;obtain⟨me,hme⟩:∃ me,me=b.me:=⟨_,rfl⟩;simp only [<- hme] at X2 B0 X3 X5 FD EN CV ⊢;have EN:=L EN;have CV:=L CV;clear h0 h1 h2 h3 hx1 he1 hx2 he2 h_ hn2 Sj l2 l3 hme hz1 hz2 hz5 hok hop;show bM aL 47 #[aQ #[O U me,J no nn nc,J ao n2 ac,J so sn sc,J eo n3 ec,J oo dY oc],aQ #[O U c,O U d,O U g,O U h,J po pn pc,O U fr,ah ZA]] w _;go_enter Tryz.func47,Tryz.ntmps47;go_upto_region 1 with fail;generalize (((w.alloc (aj #[O U me,J no nn nc,J ao n2 ac,J so sn sc,J eo n3 ec,J oo dY oc] 28)).alloc (aj #[O U c,O U d,O U g,O U h,J po pn pc,O U fr,ah ZA] 66)).alloc (aj #[O U 0,J V 0 0,J V 0 0,J V 0 0,J V 0 0,J V 0 0] 28))=W at *;have SW:=L (FD W (HS.out.on B0.out));clear FD;have x_:=X2.out;have y_:=X3.out;obtain⟨x0,x1,x2,x3,x4,x5⟩:=x_.fu;obtain⟨y0,y1,y2,y3,y4,y5,y6⟩:=y_.oJ;clear x_ y_;go_wp2_with fail;refine SW.out.mono ?_;rintro e1 w1 ⟨rfl,hb⟩;have B1:=L (B0.out.trans (hb.mono B0.out.size));have Y2:=L (X2.out.on hb);have Y3:=L (X3.out.on hb);have Y5:=L (X5.out.on hb);clear SW hb X2 X3 X5 x0 x1 x2 x3 x4 x5 y0 y1 y2 y3 y4 y5 y6;have a0:=cell_regrown (show w1.cell? ⟨w.heap.size,0,V⟩=X (O U me) from Y2.out.cell 0);have a1:=cell_regrown (show w1.cell? ⟨w.heap.size,1,V⟩=X (J no nn nc) from Y2.out.cell 1);have a2:=cell_regrown (show w1.cell? ⟨w.heap.size,2,V⟩=X (J ao n2 ac) from Y2.out.cell 2);have a3:=cell_regrown (show w1.cell? ⟨w.heap.size,3,V⟩=X (J so sn sc) from Y2.out.cell 3);have a4:=cell_regrown (show w1.cell? ⟨w.heap.size,4,V⟩=X (J eo n3 ec) from Y2.out.cell 4);have a5:=cell_regrown (show w1.cell? ⟨w.heap.size,5,V⟩=X (J oo dY oc) from Y2.out.cell 5);have b0:=cell_regrown (show w1.cell? ⟨w.heap.size+1,0,V⟩=X (O U c) from Y3.out.cell 0);have b1:=cell_regrown (show w1.cell? ⟨w.heap.size+1,1,V⟩=X (O U d) from Y3.out.cell 1);have b2:=cell_regrown (show w1.cell? ⟨w.heap.size+1,2,V⟩=X (O U g) from Y3.out.cell 2);have b3:=cell_regrown (show w1.cell? ⟨w.heap.size+1,3,V⟩=X (O U h) from Y3.out.cell 3);have b4:=cell_regrown (show w1.cell? ⟨w.heap.size+1,4,V⟩=X (J po pn pc) from Y3.out.cell 4);have b5:=cell_regrown (show w1.cell? ⟨w.heap.size+1,5,V⟩=X (O U fr) from Y3.out.cell 5);have b6:=cell_regrown (show w1.cell? ⟨w.heap.size+1,6,V⟩=X (ah ZA) from Y3.out.cell 6);have CE:=L (fun d os=>aX (d:=d) (os:=os) (EN.out _ ((HE.out.on B1.out).on (below_regrown w1 d os))));clear EN;rcases Mq xs (c,d) with hf|⟨k,y,hf,hy⟩
 ·have LB:=L (show gQ b ⟨(c,d),(g,h),p',fr,ZA⟩=(b,Z) by
   have hf':=hf;rw [IDS.out] at hf';unfold gQ;simp only;rw [hf']
   split
   ·rfl
   ·rw [if_pos rfl])
  rw [hf];clear hf;go_upto_region 2 with fail;refine wp_region_quiet_below (by kernel_rfl) (by kernel_rfl) ?_
  repeat (go_big_quiet_step (fail))
  refine wpQuiet_nil ?_;intro _ hw';obtain⟨⟨dq,osq⟩,hw''⟩:=hw';subst hw'';have Z6:=below_regrown w1 dq osq;have B2:=L (B1.out.trans (Z6.mono B1.out.size));have Z2:=L (Y2.out.on Z6);have Z3:=L (Y3.out.on Z6);have Z5:=L (Y5.out.on Z6);clear Z6 B1 Y2 Y3 Y5 a0 a1 a2 a3 a4 a5 b0 b1 b2 b3 b4 b5 b6;generalize grow (redrawn w1 dq) osq=w2 at *;have FB:=L (dL Z5.out (O U me) (J no nn nc) (J ao n2 ac) (J so sn sc) (J eo n3 ec) (J oo dY oc));have BL:=L (dG (b:=w.heap.size+1+1) B2.out (by omega) (O U me) (J no nn nc) (J ao n2 ac) (J so sn sc) (J eo n3 ec) (J oo dY oc));have y9:=Z2.out;have rX:=Z5.out;obtain⟨x0,x1,x2,x3,x4,x5⟩:=y9.fu;obtain⟨r0,r1,r2,r3,r4,r5⟩:=rX.fu;obtain⟨t0,t1,t2,t3,t4,t5⟩:=rX.kD;have zz:=rX.lt;clear y9 rX;go_wp2_with fail;obtain⟨v0,v1,v2,v3,v4,v5⟩:=FB.out.fu;refine bodyPost_ret (v:=.tuple #[aQ #[O U me,J no nn nc,J ao n2 ac,J so sn sc,J eo n3 ec,J oo dY oc],ah Z]) (by simp [results,aC,go_sem,v0,v1,v2,v3,v4,v5]) rfl ?_;rw [LB.out];exact⟨⟨(eo,n3,ec),es,rfl,aY ⟨rfl,rfl,rfl⟩,HR2.out⟩,BL.out⟩
 ·have HF:=L hf;have HY:=L hy;have hk:=(aT.1 hy).1;have XL2:=XL.out;have hkn:k<n2:=by rw [N2.out]; exact hk
  obtain⟨p,ix,px⟩:=Mf HS.out rfl N2.out.symm hy;obtain⟨z1,z2,⟨zo,zn,zc⟩,par⟩:=y;have PX:=L px;have pr:=cell_regrown (show w1.cell? ⟨p.block,p.off+3,V⟩=X (O U par) from (px w1 B1.out).2.2.2);obtain⟨a,hak⟩:∃ a,b.dQ[k]?=X a:=⟨_,ak (by rw [<- HA2.out.len]; exact hk)⟩;have hap:a.par=par:=by
   obtain⟨z,hz1,hz2⟩:=HA2.out.at k a hak;rw [HY.out] at hz1;obtain rfl:=au hz1;exact hz2.2.1.symm
  have LA:=L (show ∀ i,iV (es.map iU) ((c,d),(g,h))=i->gQ b ⟨(c,d),(g,h),p',fr,ZA⟩=if i≠-1 then (b,Z) else if fr≠-1/\fr=par then (b,Z) else ({ b with ent:=fU b.ent (fB (b.ent.map fJ) ((c,d),(g,h))) ⟨(c,d),(g,h),p',fr,decide (par≠-1) && !fC b.ent (c,d) p'⟩ },decide (par≠-1) && !fC b.ent (c,d) p') from fun i hi=>by
   have hf':=HF.out;rw [IDS.out] at hf';rw [Xz.out] at hi;unfold gQ;simp only;rw [hf',aV,hak];simp only;rw [if_neg (by omega),hap,hi])
  have hik:decide ((k:Int)<0)=Z:=decide_eq_false (by omega);rw [hf];clear hf hy px hak hap HF HY;rcases ny (es.map iU) ((c,d),(g,h)) with he|⟨j,he,_⟩
  ·have LC:=LA.out _ he;rw [if_neg (by simp)] at LC;rw [he] at CE;clear LA he;obtain⟨f1,hf1⟩:∃ r,(fr != -1)=r:=⟨_,rfl⟩;obtain⟨f2,hf2⟩:∃ r,(fr == par)=r:=⟨_,rfl⟩;have F1:=L hf1;have F2_:=L hf2;cases f1
   ·have LD:=LC;rw [if_neg (by exact fun q=>q.1 (by simpa using hf1))] at LD;clear LC;go_upto_region 2 with fail;refine wp_region_quiet_below (by kernel_rfl) (by kernel_rfl) ?_
    repeat (go_big_quiet_step (first | (with_reducible exact CE.out _ _)))
    refine wpQuiet_nil ?_;intro _ hw';obtain⟨⟨dq,osq⟩,hw''⟩:=hw';subst hw'';have Z6:=below_regrown w1 dq osq;have B2:=L (B1.out.trans (Z6.mono B1.out.size));have Z2:=L (Y2.out.on Z6);have Z3:=L (Y3.out.on Z6);have Z5:=L (Y5.out.on Z6);clear Z6 B1 Y2 Y3 Y5 a0 a1 a2 a3 a4 a5 b0 b1 b2 b3 b4 b5 b6;generalize grow (redrawn w1 dq) osq=w2 at *;have p3b:=(PX.out w2 B2.out).2.2.2;have x_:=Z2.out;have y_:=Z3.out;obtain⟨x0,x1,x2,x3,x4,x5⟩:=x_.fu;obtain⟨y0,y1,y2,y3,y4,y5,y6⟩:=y_.oJ;clear x_ y_;obtain⟨g1,hg1⟩:∃ r,(par != -1)=r:=⟨_,rfl⟩;have GP:=L (show decide (par≠-1)=g1 by rw [<- hg1]; by_cases q:par=-1 <;> simp [q]);rw [GP.out] at LD;cases g1
    ·have LB:=L LD;clear LD CV;have B3:=L B2.out;have F2:=L Z2.out;have F3:=L Z3.out;have F5:=L Z5.out;clear B2 Z2 Z3 Z5;have f3:=F3.out;obtain⟨k0,k1,k2,k3,k4,k5,k6⟩:=f3.oJ;have f36:=f3.fr 6;have TS:=f3.lt;clear f3;go_upto_region 5 with fail;clear k0 k1 k2 k3 k4 k5 k6 f36 TS;have G3:=L (show dJ _ _ #[O U c,O U d,O U g,O U h,J po pn pc,O U fr,ah Z] _ from by simpa using dR (k:=6) F3.out (ah Z));have G2:=L (show dJ _ _ _ _ from (Y w2 ⟨w.heap.size+1,6,V⟩ (ah Z) _ (show w.heap.size≠w.heap.size+1 by omega)).trans F2.out);have G5:=L (show dJ _ _ _ _ from (Y w2 ⟨w.heap.size+1,6,V⟩ (ah Z) _ (show w.heap.size+1+1≠w.heap.size+1 by omega)).trans F5.out);have B4:=L (B3.out.setCell (p:=⟨w.heap.size+1,6,V⟩) (by show w.heap.size<=w.heap.size+1; omega) (ah Z));clear B3 F2 F3 F5;generalize w2.setCell ⟨w.heap.size+1,6,V⟩ (ah Z)=w4 at *;have R4:=L (HE.out.on B4.out)
     go_upto_block 0 with (fail)
     refine xV _ w4 w.heap.size (w.heap.size+1) me c d g h _ _ _ _ _ _ _ eo n3 ec es _ _ _ _ _ _ _ _ _ _ _ _ _ _ _ _ _ _ _ _ _ _ _ _ _ _ _ _ _ _ _ _ _ _ _ _ _ _ _ _ _ _ _ _ _ _ _ _ _ _ _ _ _ _ _ _ _ _ _ _ _ _ _ _ _ _ _ _ _ _ _ _ _ _ _ _ _ _ _ _ _ _ _ _ _ _ _ _ _ _ _ _ _ _ _ _ _ _ _ _ _ _ _ _ _ _ _ _ _ _ _ _ G2.out G3.out R4.out N3.out (by have:=EL.out; have:=N3.out; omega) ?_;intro wr v57 v58 v59 v60 v61 v62 v63 v64 v65 v66 v67 v68 v69 v70 v71 v72 v73 v74 v75 v76 v77 v78 v79 v80 v81 v82 v83 v84 v85 v86 v87 v88 v89 v90 v91 v92 v93 v94 v95 v96 hb;have B5:=L (B4.out.trans (hb.mono B4.out.size));have K2:=L (G2.out.on hb);have K3:=L (G3.out.on hb);have K5:=L (G5.out.on hb);have R5:=L (R4.out.on hb);clear hb B4 G2 G3 G5 R4;go_upto_region 8 with fail;refine Qc _ wr w.heap.size (w.heap.size+1) me _ _ _ _ eo n3 ec (fB (es.map iU) ((c,d),(g,h))) es (c,d,g,h,(po,pn,pc),fr,Z) _ _ _ _ _ _ _ _ _ _ _ _ _ _ _ _ _ _ _ _ _ _ _ _ _ _ _ _ _ _ _ _ _ _ _ _ _ _ _ _ _ _ _ _ _ _ _ _ _ _ _ _ _ _ _ _ _ _ _ _ _ _ _ _ _ _ _ _ _ _ _ _ _ _ _ _ _ _ _ _ _ _ _ _ _ _ _ _ _ _ _ _ _ _ _ _ _ _ _ _ _ _ _ _ _ _ _ _ _ _ _ _ K2.out (mP (p:=(po,pn,pc)) K3.out) R5.out (by have:=nV (es.map iU) ((c,d),(g,h)); rw [aK] at this; exact this) EL.out ?_;intro xw v97 v98 v99 v100 v101 v102 v103 v104 v105 v106 v107 v108 v109 v110 v111 hbx ho hbl hoth hblk;obtain⟨mK,mM,zJ⟩:=(aN ho).len;obtain⟨tl,htl⟩:∃ n,n=(es.take (fB (es.map iU) ((c,d),(g,h)))++[(c,d,g,h,(po,pn,pc),fr,Z)]++es.drop (fB (es.map iU) ((c,d),(g,h)))).length:=⟨_,rfl⟩;rw [<- htl] at zJ;subst zJ;have B6:=L (B5.out.trans (hbl _ (aF _)));have M2:=hbx;have M3:=hoth _ _ _ (by omega) K3.out;have M5:=hoth _ _ _ (by omega) K5.out;have OE:=L (dN ho (show w.heap.size+3<=wr.heap.size by have:=K5.out.lt; omega));clear ho hbl hoth hblk htl hbx B5 K2 K3 K5 R5;go_upto_region 9 with fail;refine xH _ xw w.heap.size (w.heap.size+1) (w.heap.size+1+1) me no ao so mK oo nn nc n2 ac sn sc tl mM dY oc _ _ _ _ _ _ _ _ _ _ _ _ Z _ _ _ _ _ _ _ _ _ _ _ _ _ _ _ _ _ _ _ _ _ _ _ _ _ _ _ _ _ _ _ _ _ _ _ _ _ _ _ _ _ _ _ _ _ _ _ _ _ _ _ _ _ _ _ _ _ _ _ _ _ _ _ _ _ _ _ _ _ _ _ _ _ _ _ _ _ _ _ _ _ _ _ _ _ _ _ _ _ _ _ _ _ _ _ _ _ _ _ _ _ _ _ _ _ _ _ _ _ _ _ _ M2 M3 M5 (by omega) ?_;intro a9 x9 Ho h49 h59 TU;subst TU;have FB:=L (dL M5.drew (O U me) (J no nn nc) (J ao n2 ac) (J so sn sc) (J mK tl mM) (J oo dY oc));have BL:=L (dG (b:=w.heap.size+1+1) B6.out.drew (by omega) (O U me) (J no nn nc) (J ao n2 ac) (J so sn sc) (J mK tl mM) (J oo dY oc));have FE:=L (fP (dI OE.out ((aD xw.heap.size xw).drew)) (w.heap.size+1+1) (by omega) (O U me) (J no nn nc) (J ao n2 ac) (J so sn sc) (J mK tl mM) (J oo dY oc));clear OE M2 M3 M5 B6;simp only [Exit.then]
     apply_assumption
     go_wp2_with fail;obtain⟨v0,v1,v2,v3,v4,v5⟩:=FB.out.fu;refine bodyPost_ret (v:=.tuple #[aQ #[O U me,J no nn nc,J ao n2 ac,J so sn sc,J mK tl mM,J oo dY oc],ah Z]) (by simp [results,aC,go_sem,h49,h59,v0,v1,v2,v3,v4,v5]) Ho ?_;rw [LB.out];refine⟨⟨(mK,tl,mM),_,rfl,aG (dN FE.out (show w.heap.size<=w.heap.size+3 by omega)),?_⟩,BL.out⟩;rw [<- Xz.out];exact ((HR2.out.take _).append (.cons (HRZ.out _) .nil)).append (HR2.out.drop _)
    ·have CW:=L (CV.out w2 B2.out);obtain⟨cv,hcv⟩:∃ r,fC b.ent (c,d) p'=r:=⟨_,rfl⟩;rw [hcv] at CW LD;clear CV hcv;go_wp2_with fail;refine CW.out.mono ?_;rintro e3 w3 ⟨rfl,hb⟩;have B3:=L (B2.out.trans (hb.mono B2.out.size));have F2:=L (Z2.out.on hb);have F3:=L (Z3.out.on hb);have F5:=L (Z5.out.on hb);clear hb CW B2 Z2 Z3 Z5 x0 x1 x2 x3 x4 x5 y0 y1 y2 y3 y4 y5 y6 p3b;cases cv
     ·have LB:=L LD;clear LD;have f3:=F3.out;obtain⟨k0,k1,k2,k3,k4,k5,k6⟩:=f3.oJ;have f36:=f3.fr 6;have TS:=f3.lt;clear f3;go_upto_region 5 with fail;clear k0 k1 k2 k3 k4 k5 k6 f36 TS;have G3:=L (show dJ _ _ #[O U c,O U d,O U g,O U h,J po pn pc,O U fr,ah ay] _ from by simpa using dR (k:=6) F3.out (ah ay));have G2:=L (show dJ _ _ _ _ from (Y w3 ⟨w.heap.size+1,6,V⟩ (ah ay) _ (show w.heap.size≠w.heap.size+1 by omega)).trans F2.out);have G5:=L (show dJ _ _ _ _ from (Y w3 ⟨w.heap.size+1,6,V⟩ (ah ay) _ (show w.heap.size+1+1≠w.heap.size+1 by omega)).trans F5.out);have B4:=L (B3.out.setCell (p:=⟨w.heap.size+1,6,V⟩) (by show w.heap.size<=w.heap.size+1; omega) (ah ay));clear B3 F2 F3 F5;generalize w3.setCell ⟨w.heap.size+1,6,V⟩ (ah ay)=w4 at *;have R4:=L (HE.out.on B4.out)
      go_upto_block 0 with (fail)
      refine xV _ w4 w.heap.size (w.heap.size+1) me c d g h _ _ _ _ _ _ _ eo n3 ec es _ _ _ _ _ _ _ _ _ _ _ _ _ _ _ _ _ _ _ _ _ _ _ _ _ _ _ _ _ _ _ _ _ _ _ _ _ _ _ _ _ _ _ _ _ _ _ _ _ _ _ _ _ _ _ _ _ _ _ _ _ _ _ _ _ _ _ _ _ _ _ _ _ _ _ _ _ _ _ _ _ _ _ _ _ _ _ _ _ _ _ _ _ _ _ _ _ _ _ _ _ _ _ _ _ _ _ _ _ _ _ _ G2.out G3.out R4.out N3.out (by have:=EL.out; have:=N3.out; omega) ?_;intro wr v57 v58 v59 v60 v61 v62 v63 v64 v65 v66 v67 v68 v69 v70 v71 v72 v73 v74 v75 v76 v77 v78 v79 v80 v81 v82 v83 v84 v85 v86 v87 v88 v89 v90 v91 v92 v93 v94 v95 v96 hb;have B5:=L (B4.out.trans (hb.mono B4.out.size));have K2:=L (G2.out.on hb);have K3:=L (G3.out.on hb);have K5:=L (G5.out.on hb);have R5:=L (R4.out.on hb);clear hb B4 G2 G3 G5 R4;go_upto_region 8 with fail;refine Qc _ wr w.heap.size (w.heap.size+1) me _ _ _ _ eo n3 ec (fB (es.map iU) ((c,d),(g,h))) es (c,d,g,h,(po,pn,pc),fr,ay) _ _ _ _ _ _ _ _ _ _ _ _ _ _ _ _ _ _ _ _ _ _ _ _ _ _ _ _ _ _ _ _ _ _ _ _ _ _ _ _ _ _ _ _ _ _ _ _ _ _ _ _ _ _ _ _ _ _ _ _ _ _ _ _ _ _ _ _ _ _ _ _ _ _ _ _ _ _ _ _ _ _ _ _ _ _ _ _ _ _ _ _ _ _ _ _ _ _ _ _ _ _ _ _ _ _ _ _ _ _ _ _ K2.out (mP (p:=(po,pn,pc)) K3.out) R5.out (by have:=nV (es.map iU) ((c,d),(g,h)); rw [aK] at this; exact this) EL.out ?_;intro xw v97 v98 v99 v100 v101 v102 v103 v104 v105 v106 v107 v108 v109 v110 v111 hbx ho hbl hoth hblk;obtain⟨mK,mM,zJ⟩:=(aN ho).len;obtain⟨tl,htl⟩:∃ n,n=(es.take (fB (es.map iU) ((c,d),(g,h)))++[(c,d,g,h,(po,pn,pc),fr,ay)]++es.drop (fB (es.map iU) ((c,d),(g,h)))).length:=⟨_,rfl⟩;rw [<- htl] at zJ;subst zJ;have B6:=L (B5.out.trans (hbl _ (aF _)));have M2:=hbx;have M3:=hoth _ _ _ (by omega) K3.out;have M5:=hoth _ _ _ (by omega) K5.out;have OE:=L (dN ho (show w.heap.size+3<=wr.heap.size by have:=K5.out.lt; omega));clear ho hbl hoth hblk htl hbx B5 K2 K3 K5 R5;go_upto_region 9 with fail;refine xH _ xw w.heap.size (w.heap.size+1) (w.heap.size+1+1) me no ao so mK oo nn nc n2 ac sn sc tl mM dY oc _ _ _ _ _ _ _ _ _ _ _ _ ay _ _ _ _ _ _ _ _ _ _ _ _ _ _ _ _ _ _ _ _ _ _ _ _ _ _ _ _ _ _ _ _ _ _ _ _ _ _ _ _ _ _ _ _ _ _ _ _ _ _ _ _ _ _ _ _ _ _ _ _ _ _ _ _ _ _ _ _ _ _ _ _ _ _ _ _ _ _ _ _ _ _ _ _ _ _ _ _ _ _ _ _ _ _ _ _ _ _ _ _ _ _ _ _ _ _ _ _ _ _ _ _ M2 M3 M5 (by omega) ?_;intro a9 x9 Ho h49 h59 TU;subst TU;have FB:=L (dL M5.drew (O U me) (J no nn nc) (J ao n2 ac) (J so sn sc) (J mK tl mM) (J oo dY oc));have BL:=L (dG (b:=w.heap.size+1+1) B6.out.drew (by omega) (O U me) (J no nn nc) (J ao n2 ac) (J so sn sc) (J mK tl mM) (J oo dY oc));have FE:=L (fP (dI OE.out ((aD xw.heap.size xw).drew)) (w.heap.size+1+1) (by omega) (O U me) (J no nn nc) (J ao n2 ac) (J so sn sc) (J mK tl mM) (J oo dY oc));clear OE M2 M3 M5 B6;simp only [Exit.then]
      apply_assumption
      go_wp2_with fail;obtain⟨v0,v1,v2,v3,v4,v5⟩:=FB.out.fu;refine bodyPost_ret (v:=.tuple #[aQ #[O U me,J no nn nc,J ao n2 ac,J so sn sc,J mK tl mM,J oo dY oc],ah ay]) (by simp [results,aC,go_sem,h49,h59,v0,v1,v2,v3,v4,v5]) Ho ?_;rw [LB.out];refine⟨⟨(mK,tl,mM),_,rfl,aG (dN FE.out (show w.heap.size<=w.heap.size+3 by omega)),?_⟩,BL.out⟩;rw [<- Xz.out];exact ((HR2.out.take _).append (.cons (HRZ.out _) .nil)).append (HR2.out.drop _)
     ·have LB:=L LD;clear LD;have f3:=F3.out;obtain⟨k0,k1,k2,k3,k4,k5,k6⟩:=f3.oJ;have f36:=f3.fr 6;have TS:=f3.lt;clear f3;go_upto_region 5 with fail;clear k0 k1 k2 k3 k4 k5 k6 f36 TS;have G3:=L (show dJ _ _ #[O U c,O U d,O U g,O U h,J po pn pc,O U fr,ah Z] _ from by simpa using dR (k:=6) F3.out (ah Z));have G2:=L (show dJ _ _ _ _ from (Y w3 ⟨w.heap.size+1,6,V⟩ (ah Z) _ (show w.heap.size≠w.heap.size+1 by omega)).trans F2.out);have G5:=L (show dJ _ _ _ _ from (Y w3 ⟨w.heap.size+1,6,V⟩ (ah Z) _ (show w.heap.size+1+1≠w.heap.size+1 by omega)).trans F5.out);have B4:=L (B3.out.setCell (p:=⟨w.heap.size+1,6,V⟩) (by show w.heap.size<=w.heap.size+1; omega) (ah Z));clear B3 F2 F3 F5;generalize w3.setCell ⟨w.heap.size+1,6,V⟩ (ah Z)=w4 at *;have R4:=L (HE.out.on B4.out)
      go_upto_block 0 with (fail)
      refine xV _ w4 w.heap.size (w.heap.size+1) me c d g h _ _ _ _ _ _ _ eo n3 ec es _ _ _ _ _ _ _ _ _ _ _ _ _ _ _ _ _ _ _ _ _ _ _ _ _ _ _ _ _ _ _ _ _ _ _ _ _ _ _ _ _ _ _ _ _ _ _ _ _ _ _ _ _ _ _ _ _ _ _ _ _ _ _ _ _ _ _ _ _ _ _ _ _ _ _ _ _ _ _ _ _ _ _ _ _ _ _ _ _ _ _ _ _ _ _ _ _ _ _ _ _ _ _ _ _ _ _ _ _ _ _ _ G2.out G3.out R4.out N3.out (by have:=EL.out; have:=N3.out; omega) ?_;intro wr v57 v58 v59 v60 v61 v62 v63 v64 v65 v66 v67 v68 v69 v70 v71 v72 v73 v74 v75 v76 v77 v78 v79 v80 v81 v82 v83 v84 v85 v86 v87 v88 v89 v90 v91 v92 v93 v94 v95 v96 hb;have B5:=L (B4.out.trans (hb.mono B4.out.size));have K2:=L (G2.out.on hb);have K3:=L (G3.out.on hb);have K5:=L (G5.out.on hb);have R5:=L (R4.out.on hb);clear hb B4 G2 G3 G5 R4;go_upto_region 8 with fail;refine Qc _ wr w.heap.size (w.heap.size+1) me _ _ _ _ eo n3 ec (fB (es.map iU) ((c,d),(g,h))) es (c,d,g,h,(po,pn,pc),fr,Z) _ _ _ _ _ _ _ _ _ _ _ _ _ _ _ _ _ _ _ _ _ _ _ _ _ _ _ _ _ _ _ _ _ _ _ _ _ _ _ _ _ _ _ _ _ _ _ _ _ _ _ _ _ _ _ _ _ _ _ _ _ _ _ _ _ _ _ _ _ _ _ _ _ _ _ _ _ _ _ _ _ _ _ _ _ _ _ _ _ _ _ _ _ _ _ _ _ _ _ _ _ _ _ _ _ _ _ _ _ _ _ _ K2.out (mP (p:=(po,pn,pc)) K3.out) R5.out (by have:=nV (es.map iU) ((c,d),(g,h)); rw [aK] at this; exact this) EL.out ?_;intro xw v97 v98 v99 v100 v101 v102 v103 v104 v105 v106 v107 v108 v109 v110 v111 hbx ho hbl hoth hblk;obtain⟨mK,mM,zJ⟩:=(aN ho).len;obtain⟨tl,htl⟩:∃ n,n=(es.take (fB (es.map iU) ((c,d),(g,h)))++[(c,d,g,h,(po,pn,pc),fr,Z)]++es.drop (fB (es.map iU) ((c,d),(g,h)))).length:=⟨_,rfl⟩;rw [<- htl] at zJ;subst zJ;have B6:=L (B5.out.trans (hbl _ (aF _)));have M2:=hbx;have M3:=hoth _ _ _ (by omega) K3.out;have M5:=hoth _ _ _ (by omega) K5.out;have OE:=L (dN ho (show w.heap.size+3<=wr.heap.size by have:=K5.out.lt; omega));clear ho hbl hoth hblk htl hbx B5 K2 K3 K5 R5;go_upto_region 9 with fail;refine xH _ xw w.heap.size (w.heap.size+1) (w.heap.size+1+1) me no ao so mK oo nn nc n2 ac sn sc tl mM dY oc _ _ _ _ _ _ _ _ _ _ _ _ Z _ _ _ _ _ _ _ _ _ _ _ _ _ _ _ _ _ _ _ _ _ _ _ _ _ _ _ _ _ _ _ _ _ _ _ _ _ _ _ _ _ _ _ _ _ _ _ _ _ _ _ _ _ _ _ _ _ _ _ _ _ _ _ _ _ _ _ _ _ _ _ _ _ _ _ _ _ _ _ _ _ _ _ _ _ _ _ _ _ _ _ _ _ _ _ _ _ _ _ _ _ _ _ _ _ _ _ _ _ _ _ _ M2 M3 M5 (by omega) ?_;intro a9 x9 Ho h49 h59 TU;subst TU;have FB:=L (dL M5.drew (O U me) (J no nn nc) (J ao n2 ac) (J so sn sc) (J mK tl mM) (J oo dY oc));have BL:=L (dG (b:=w.heap.size+1+1) B6.out.drew (by omega) (O U me) (J no nn nc) (J ao n2 ac) (J so sn sc) (J mK tl mM) (J oo dY oc));have FE:=L (fP (dI OE.out ((aD xw.heap.size xw).drew)) (w.heap.size+1+1) (by omega) (O U me) (J no nn nc) (J ao n2 ac) (J so sn sc) (J mK tl mM) (J oo dY oc));clear OE M2 M3 M5 B6;simp only [Exit.then]
      apply_assumption
      go_wp2_with fail;obtain⟨v0,v1,v2,v3,v4,v5⟩:=FB.out.fu;refine bodyPost_ret (v:=.tuple #[aQ #[O U me,J no nn nc,J ao n2 ac,J so sn sc,J mK tl mM,J oo dY oc],ah Z]) (by simp [results,aC,go_sem,h49,h59,v0,v1,v2,v3,v4,v5]) Ho ?_;rw [LB.out];refine⟨⟨(mK,tl,mM),_,rfl,aG (dN FE.out (show w.heap.size<=w.heap.size+3 by omega)),?_⟩,BL.out⟩;rw [<- Xz.out];exact ((HR2.out.take _).append (.cons (HRZ.out _) .nil)).append (HR2.out.drop _)
   ·cases f2
    ·have LD:=LC;rw [if_neg (by intro q; simp [q.2] at hf2)] at LD;clear LC;go_upto_region 2 with fail;refine wp_region_quiet_below (by kernel_rfl) (by kernel_rfl) ?_
     repeat (go_big_quiet_step (first | (with_reducible exact CE.out _ _)))
     refine wpQuiet_nil ?_;intro _ hw';obtain⟨⟨dq,osq⟩,hw''⟩:=hw';subst hw'';have Z6:=below_regrown w1 dq osq;have B2:=L (B1.out.trans (Z6.mono B1.out.size));have Z2:=L (Y2.out.on Z6);have Z3:=L (Y3.out.on Z6);have Z5:=L (Y5.out.on Z6);clear Z6 B1 Y2 Y3 Y5 a0 a1 a2 a3 a4 a5 b0 b1 b2 b3 b4 b5 b6;generalize grow (redrawn w1 dq) osq=w2 at *;have p3b:=(PX.out w2 B2.out).2.2.2;have x_:=Z2.out;have y_:=Z3.out;obtain⟨x0,x1,x2,x3,x4,x5⟩:=x_.fu;obtain⟨y0,y1,y2,y3,y4,y5,y6⟩:=y_.oJ;clear x_ y_;obtain⟨g1,hg1⟩:∃ r,(par != -1)=r:=⟨_,rfl⟩;have GP:=L (show decide (par≠-1)=g1 by rw [<- hg1]; by_cases q:par=-1 <;> simp [q]);rw [GP.out] at LD;cases g1
     ·have LB:=L LD;clear LD CV;have B3:=L B2.out;have F2:=L Z2.out;have F3:=L Z3.out;have F5:=L Z5.out;clear B2 Z2 Z3 Z5;have f3:=F3.out;obtain⟨k0,k1,k2,k3,k4,k5,k6⟩:=f3.oJ;have f36:=f3.fr 6;have TS:=f3.lt;clear f3;go_upto_region 5 with fail;clear k0 k1 k2 k3 k4 k5 k6 f36 TS;have G3:=L (show dJ _ _ #[O U c,O U d,O U g,O U h,J po pn pc,O U fr,ah Z] _ from by simpa using dR (k:=6) F3.out (ah Z));have G2:=L (show dJ _ _ _ _ from (Y w2 ⟨w.heap.size+1,6,V⟩ (ah Z) _ (show w.heap.size≠w.heap.size+1 by omega)).trans F2.out);have G5:=L (show dJ _ _ _ _ from (Y w2 ⟨w.heap.size+1,6,V⟩ (ah Z) _ (show w.heap.size+1+1≠w.heap.size+1 by omega)).trans F5.out);have B4:=L (B3.out.setCell (p:=⟨w.heap.size+1,6,V⟩) (by show w.heap.size<=w.heap.size+1; omega) (ah Z));clear B3 F2 F3 F5;generalize w2.setCell ⟨w.heap.size+1,6,V⟩ (ah Z)=w4 at *;have R4:=L (HE.out.on B4.out)
      go_upto_block 0 with (fail)
      refine xV _ w4 w.heap.size (w.heap.size+1) me c d g h _ _ _ _ _ _ _ eo n3 ec es _ _ _ _ _ _ _ _ _ _ _ _ _ _ _ _ _ _ _ _ _ _ _ _ _ _ _ _ _ _ _ _ _ _ _ _ _ _ _ _ _ _ _ _ _ _ _ _ _ _ _ _ _ _ _ _ _ _ _ _ _ _ _ _ _ _ _ _ _ _ _ _ _ _ _ _ _ _ _ _ _ _ _ _ _ _ _ _ _ _ _ _ _ _ _ _ _ _ _ _ _ _ _ _ _ _ _ _ _ _ _ _ G2.out G3.out R4.out N3.out (by have:=EL.out; have:=N3.out; omega) ?_;intro wr v57 v58 v59 v60 v61 v62 v63 v64 v65 v66 v67 v68 v69 v70 v71 v72 v73 v74 v75 v76 v77 v78 v79 v80 v81 v82 v83 v84 v85 v86 v87 v88 v89 v90 v91 v92 v93 v94 v95 v96 hb;have B5:=L (B4.out.trans (hb.mono B4.out.size));have K2:=L (G2.out.on hb);have K3:=L (G3.out.on hb);have K5:=L (G5.out.on hb);have R5:=L (R4.out.on hb);clear hb B4 G2 G3 G5 R4;go_upto_region 8 with fail;refine Qc _ wr w.heap.size (w.heap.size+1) me _ _ _ _ eo n3 ec (fB (es.map iU) ((c,d),(g,h))) es (c,d,g,h,(po,pn,pc),fr,Z) _ _ _ _ _ _ _ _ _ _ _ _ _ _ _ _ _ _ _ _ _ _ _ _ _ _ _ _ _ _ _ _ _ _ _ _ _ _ _ _ _ _ _ _ _ _ _ _ _ _ _ _ _ _ _ _ _ _ _ _ _ _ _ _ _ _ _ _ _ _ _ _ _ _ _ _ _ _ _ _ _ _ _ _ _ _ _ _ _ _ _ _ _ _ _ _ _ _ _ _ _ _ _ _ _ _ _ _ _ _ _ _ K2.out (mP (p:=(po,pn,pc)) K3.out) R5.out (by have:=nV (es.map iU) ((c,d),(g,h)); rw [aK] at this; exact this) EL.out ?_;intro xw v97 v98 v99 v100 v101 v102 v103 v104 v105 v106 v107 v108 v109 v110 v111 hbx ho hbl hoth hblk;obtain⟨mK,mM,zJ⟩:=(aN ho).len;obtain⟨tl,htl⟩:∃ n,n=(es.take (fB (es.map iU) ((c,d),(g,h)))++[(c,d,g,h,(po,pn,pc),fr,Z)]++es.drop (fB (es.map iU) ((c,d),(g,h)))).length:=⟨_,rfl⟩;rw [<- htl] at zJ;subst zJ;have B6:=L (B5.out.trans (hbl _ (aF _)));have M2:=hbx;have M3:=hoth _ _ _ (by omega) K3.out;have M5:=hoth _ _ _ (by omega) K5.out;have OE:=L (dN ho (show w.heap.size+3<=wr.heap.size by have:=K5.out.lt; omega));clear ho hbl hoth hblk htl hbx B5 K2 K3 K5 R5;go_upto_region 9 with fail;refine xH _ xw w.heap.size (w.heap.size+1) (w.heap.size+1+1) me no ao so mK oo nn nc n2 ac sn sc tl mM dY oc _ _ _ _ _ _ _ _ _ _ _ _ Z _ _ _ _ _ _ _ _ _ _ _ _ _ _ _ _ _ _ _ _ _ _ _ _ _ _ _ _ _ _ _ _ _ _ _ _ _ _ _ _ _ _ _ _ _ _ _ _ _ _ _ _ _ _ _ _ _ _ _ _ _ _ _ _ _ _ _ _ _ _ _ _ _ _ _ _ _ _ _ _ _ _ _ _ _ _ _ _ _ _ _ _ _ _ _ _ _ _ _ _ _ _ _ _ _ _ _ _ _ _ _ _ M2 M3 M5 (by omega) ?_;intro a9 x9 Ho h49 h59 TU;subst TU;have FB:=L (dL M5.drew (O U me) (J no nn nc) (J ao n2 ac) (J so sn sc) (J mK tl mM) (J oo dY oc));have BL:=L (dG (b:=w.heap.size+1+1) B6.out.drew (by omega) (O U me) (J no nn nc) (J ao n2 ac) (J so sn sc) (J mK tl mM) (J oo dY oc));have FE:=L (fP (dI OE.out ((aD xw.heap.size xw).drew)) (w.heap.size+1+1) (by omega) (O U me) (J no nn nc) (J ao n2 ac) (J so sn sc) (J mK tl mM) (J oo dY oc));clear OE M2 M3 M5 B6;simp only [Exit.then]
      apply_assumption
      go_wp2_with fail;obtain⟨v0,v1,v2,v3,v4,v5⟩:=FB.out.fu;refine bodyPost_ret (v:=.tuple #[aQ #[O U me,J no nn nc,J ao n2 ac,J so sn sc,J mK tl mM,J oo dY oc],ah Z]) (by simp [results,aC,go_sem,h49,h59,v0,v1,v2,v3,v4,v5]) Ho ?_;rw [LB.out];refine⟨⟨(mK,tl,mM),_,rfl,aG (dN FE.out (show w.heap.size<=w.heap.size+3 by omega)),?_⟩,BL.out⟩;rw [<- Xz.out];exact ((HR2.out.take _).append (.cons (HRZ.out _) .nil)).append (HR2.out.drop _)
     ·have CW:=L (CV.out w2 B2.out);obtain⟨cv,hcv⟩:∃ r,fC b.ent (c,d) p'=r:=⟨_,rfl⟩;rw [hcv] at CW LD;clear CV hcv;go_wp2_with fail;refine CW.out.mono ?_;rintro e3 w3 ⟨rfl,hb⟩;have B3:=L (B2.out.trans (hb.mono B2.out.size));have F2:=L (Z2.out.on hb);have F3:=L (Z3.out.on hb);have F5:=L (Z5.out.on hb);clear hb CW B2 Z2 Z3 Z5 x0 x1 x2 x3 x4 x5 y0 y1 y2 y3 y4 y5 y6 p3b;cases cv
      ·have LB:=L LD;clear LD;have f3:=F3.out;obtain⟨k0,k1,k2,k3,k4,k5,k6⟩:=f3.oJ;have f36:=f3.fr 6;have TS:=f3.lt;clear f3;go_upto_region 5 with fail;clear k0 k1 k2 k3 k4 k5 k6 f36 TS;have G3:=L (show dJ _ _ #[O U c,O U d,O U g,O U h,J po pn pc,O U fr,ah ay] _ from by simpa using dR (k:=6) F3.out (ah ay));have G2:=L (show dJ _ _ _ _ from (Y w3 ⟨w.heap.size+1,6,V⟩ (ah ay) _ (show w.heap.size≠w.heap.size+1 by omega)).trans F2.out);have G5:=L (show dJ _ _ _ _ from (Y w3 ⟨w.heap.size+1,6,V⟩ (ah ay) _ (show w.heap.size+1+1≠w.heap.size+1 by omega)).trans F5.out);have B4:=L (B3.out.setCell (p:=⟨w.heap.size+1,6,V⟩) (by show w.heap.size<=w.heap.size+1; omega) (ah ay));clear B3 F2 F3 F5;generalize w3.setCell ⟨w.heap.size+1,6,V⟩ (ah ay)=w4 at *;have R4:=L (HE.out.on B4.out)
       go_upto_block 0 with (fail)
       refine xV _ w4 w.heap.size (w.heap.size+1) me c d g h _ _ _ _ _ _ _ eo n3 ec es _ _ _ _ _ _ _ _ _ _ _ _ _ _ _ _ _ _ _ _ _ _ _ _ _ _ _ _ _ _ _ _ _ _ _ _ _ _ _ _ _ _ _ _ _ _ _ _ _ _ _ _ _ _ _ _ _ _ _ _ _ _ _ _ _ _ _ _ _ _ _ _ _ _ _ _ _ _ _ _ _ _ _ _ _ _ _ _ _ _ _ _ _ _ _ _ _ _ _ _ _ _ _ _ _ _ _ _ _ _ _ _ G2.out G3.out R4.out N3.out (by have:=EL.out; have:=N3.out; omega) ?_;intro wr v57 v58 v59 v60 v61 v62 v63 v64 v65 v66 v67 v68 v69 v70 v71 v72 v73 v74 v75 v76 v77 v78 v79 v80 v81 v82 v83 v84 v85 v86 v87 v88 v89 v90 v91 v92 v93 v94 v95 v96 hb;have B5:=L (B4.out.trans (hb.mono B4.out.size));have K2:=L (G2.out.on hb);have K3:=L (G3.out.on hb);have K5:=L (G5.out.on hb);have R5:=L (R4.out.on hb);clear hb B4 G2 G3 G5 R4;go_upto_region 8 with fail;refine Qc _ wr w.heap.size (w.heap.size+1) me _ _ _ _ eo n3 ec (fB (es.map iU) ((c,d),(g,h))) es (c,d,g,h,(po,pn,pc),fr,ay) _ _ _ _ _ _ _ _ _ _ _ _ _ _ _ _ _ _ _ _ _ _ _ _ _ _ _ _ _ _ _ _ _ _ _ _ _ _ _ _ _ _ _ _ _ _ _ _ _ _ _ _ _ _ _ _ _ _ _ _ _ _ _ _ _ _ _ _ _ _ _ _ _ _ _ _ _ _ _ _ _ _ _ _ _ _ _ _ _ _ _ _ _ _ _ _ _ _ _ _ _ _ _ _ _ _ _ _ _ _ _ _ K2.out (mP (p:=(po,pn,pc)) K3.out) R5.out (by have:=nV (es.map iU) ((c,d),(g,h)); rw [aK] at this; exact this) EL.out ?_;intro xw v97 v98 v99 v100 v101 v102 v103 v104 v105 v106 v107 v108 v109 v110 v111 hbx ho hbl hoth hblk;obtain⟨mK,mM,zJ⟩:=(aN ho).len;obtain⟨tl,htl⟩:∃ n,n=(es.take (fB (es.map iU) ((c,d),(g,h)))++[(c,d,g,h,(po,pn,pc),fr,ay)]++es.drop (fB (es.map iU) ((c,d),(g,h)))).length:=⟨_,rfl⟩;rw [<- htl] at zJ;subst zJ;have B6:=L (B5.out.trans (hbl _ (aF _)));have M2:=hbx;have M3:=hoth _ _ _ (by omega) K3.out;have M5:=hoth _ _ _ (by omega) K5.out;have OE:=L (dN ho (show w.heap.size+3<=wr.heap.size by have:=K5.out.lt; omega));clear ho hbl hoth hblk htl hbx B5 K2 K3 K5 R5;go_upto_region 9 with fail;refine xH _ xw w.heap.size (w.heap.size+1) (w.heap.size+1+1) me no ao so mK oo nn nc n2 ac sn sc tl mM dY oc _ _ _ _ _ _ _ _ _ _ _ _ ay _ _ _ _ _ _ _ _ _ _ _ _ _ _ _ _ _ _ _ _ _ _ _ _ _ _ _ _ _ _ _ _ _ _ _ _ _ _ _ _ _ _ _ _ _ _ _ _ _ _ _ _ _ _ _ _ _ _ _ _ _ _ _ _ _ _ _ _ _ _ _ _ _ _ _ _ _ _ _ _ _ _ _ _ _ _ _ _ _ _ _ _ _ _ _ _ _ _ _ _ _ _ _ _ _ _ _ _ _ _ _ _ M2 M3 M5 (by omega) ?_;intro a9 x9 Ho h49 h59 TU;subst TU;have FB:=L (dL M5.drew (O U me) (J no nn nc) (J ao n2 ac) (J so sn sc) (J mK tl mM) (J oo dY oc));have BL:=L (dG (b:=w.heap.size+1+1) B6.out.drew (by omega) (O U me) (J no nn nc) (J ao n2 ac) (J so sn sc) (J mK tl mM) (J oo dY oc));have FE:=L (fP (dI OE.out ((aD xw.heap.size xw).drew)) (w.heap.size+1+1) (by omega) (O U me) (J no nn nc) (J ao n2 ac) (J so sn sc) (J mK tl mM) (J oo dY oc));clear OE M2 M3 M5 B6;simp only [Exit.then]
       apply_assumption
       go_wp2_with fail;obtain⟨v0,v1,v2,v3,v4,v5⟩:=FB.out.fu;refine bodyPost_ret (v:=.tuple #[aQ #[O U me,J no nn nc,J ao n2 ac,J so sn sc,J mK tl mM,J oo dY oc],ah ay]) (by simp [results,aC,go_sem,h49,h59,v0,v1,v2,v3,v4,v5]) Ho ?_;rw [LB.out];refine⟨⟨(mK,tl,mM),_,rfl,aG (dN FE.out (show w.heap.size<=w.heap.size+3 by omega)),?_⟩,BL.out⟩;rw [<- Xz.out];exact ((HR2.out.take _).append (.cons (HRZ.out _) .nil)).append (HR2.out.drop _)
      ·have LB:=L LD;clear LD;have f3:=F3.out;obtain⟨k0,k1,k2,k3,k4,k5,k6⟩:=f3.oJ;have f36:=f3.fr 6;have TS:=f3.lt;clear f3;go_upto_region 5 with fail;clear k0 k1 k2 k3 k4 k5 k6 f36 TS;have G3:=L (show dJ _ _ #[O U c,O U d,O U g,O U h,J po pn pc,O U fr,ah Z] _ from by simpa using dR (k:=6) F3.out (ah Z));have G2:=L (show dJ _ _ _ _ from (Y w3 ⟨w.heap.size+1,6,V⟩ (ah Z) _ (show w.heap.size≠w.heap.size+1 by omega)).trans F2.out);have G5:=L (show dJ _ _ _ _ from (Y w3 ⟨w.heap.size+1,6,V⟩ (ah Z) _ (show w.heap.size+1+1≠w.heap.size+1 by omega)).trans F5.out);have B4:=L (B3.out.setCell (p:=⟨w.heap.size+1,6,V⟩) (by show w.heap.size<=w.heap.size+1; omega) (ah Z));clear B3 F2 F3 F5;generalize w3.setCell ⟨w.heap.size+1,6,V⟩ (ah Z)=w4 at *;have R4:=L (HE.out.on B4.out)
       go_upto_block 0 with (fail)
       refine xV _ w4 w.heap.size (w.heap.size+1) me c d g h _ _ _ _ _ _ _ eo n3 ec es _ _ _ _ _ _ _ _ _ _ _ _ _ _ _ _ _ _ _ _ _ _ _ _ _ _ _ _ _ _ _ _ _ _ _ _ _ _ _ _ _ _ _ _ _ _ _ _ _ _ _ _ _ _ _ _ _ _ _ _ _ _ _ _ _ _ _ _ _ _ _ _ _ _ _ _ _ _ _ _ _ _ _ _ _ _ _ _ _ _ _ _ _ _ _ _ _ _ _ _ _ _ _ _ _ _ _ _ _ _ _ _ G2.out G3.out R4.out N3.out (by have:=EL.out; have:=N3.out; omega) ?_;intro wr v57 v58 v59 v60 v61 v62 v63 v64 v65 v66 v67 v68 v69 v70 v71 v72 v73 v74 v75 v76 v77 v78 v79 v80 v81 v82 v83 v84 v85 v86 v87 v88 v89 v90 v91 v92 v93 v94 v95 v96 hb;have B5:=L (B4.out.trans (hb.mono B4.out.size));have K2:=L (G2.out.on hb);have K3:=L (G3.out.on hb);have K5:=L (G5.out.on hb);have R5:=L (R4.out.on hb);clear hb B4 G2 G3 G5 R4;go_upto_region 8 with fail;refine Qc _ wr w.heap.size (w.heap.size+1) me _ _ _ _ eo n3 ec (fB (es.map iU) ((c,d),(g,h))) es (c,d,g,h,(po,pn,pc),fr,Z) _ _ _ _ _ _ _ _ _ _ _ _ _ _ _ _ _ _ _ _ _ _ _ _ _ _ _ _ _ _ _ _ _ _ _ _ _ _ _ _ _ _ _ _ _ _ _ _ _ _ _ _ _ _ _ _ _ _ _ _ _ _ _ _ _ _ _ _ _ _ _ _ _ _ _ _ _ _ _ _ _ _ _ _ _ _ _ _ _ _ _ _ _ _ _ _ _ _ _ _ _ _ _ _ _ _ _ _ _ _ _ _ K2.out (mP (p:=(po,pn,pc)) K3.out) R5.out (by have:=nV (es.map iU) ((c,d),(g,h)); rw [aK] at this; exact this) EL.out ?_;intro xw v97 v98 v99 v100 v101 v102 v103 v104 v105 v106 v107 v108 v109 v110 v111 hbx ho hbl hoth hblk;obtain⟨mK,mM,zJ⟩:=(aN ho).len;obtain⟨tl,htl⟩:∃ n,n=(es.take (fB (es.map iU) ((c,d),(g,h)))++[(c,d,g,h,(po,pn,pc),fr,Z)]++es.drop (fB (es.map iU) ((c,d),(g,h)))).length:=⟨_,rfl⟩;rw [<- htl] at zJ;subst zJ;have B6:=L (B5.out.trans (hbl _ (aF _)));have M2:=hbx;have M3:=hoth _ _ _ (by omega) K3.out;have M5:=hoth _ _ _ (by omega) K5.out;have OE:=L (dN ho (show w.heap.size+3<=wr.heap.size by have:=K5.out.lt; omega));clear ho hbl hoth hblk htl hbx B5 K2 K3 K5 R5;go_upto_region 9 with fail;refine xH _ xw w.heap.size (w.heap.size+1) (w.heap.size+1+1) me no ao so mK oo nn nc n2 ac sn sc tl mM dY oc _ _ _ _ _ _ _ _ _ _ _ _ Z _ _ _ _ _ _ _ _ _ _ _ _ _ _ _ _ _ _ _ _ _ _ _ _ _ _ _ _ _ _ _ _ _ _ _ _ _ _ _ _ _ _ _ _ _ _ _ _ _ _ _ _ _ _ _ _ _ _ _ _ _ _ _ _ _ _ _ _ _ _ _ _ _ _ _ _ _ _ _ _ _ _ _ _ _ _ _ _ _ _ _ _ _ _ _ _ _ _ _ _ _ _ _ _ _ _ _ _ _ _ _ _ M2 M3 M5 (by omega) ?_;intro a9 x9 Ho h49 h59 TU;subst TU;have FB:=L (dL M5.drew (O U me) (J no nn nc) (J ao n2 ac) (J so sn sc) (J mK tl mM) (J oo dY oc));have BL:=L (dG (b:=w.heap.size+1+1) B6.out.drew (by omega) (O U me) (J no nn nc) (J ao n2 ac) (J so sn sc) (J mK tl mM) (J oo dY oc));have FE:=L (fP (dI OE.out ((aD xw.heap.size xw).drew)) (w.heap.size+1+1) (by omega) (O U me) (J no nn nc) (J ao n2 ac) (J so sn sc) (J mK tl mM) (J oo dY oc));clear OE M2 M3 M5 B6;simp only [Exit.then]
       apply_assumption
       go_wp2_with fail;obtain⟨v0,v1,v2,v3,v4,v5⟩:=FB.out.fu;refine bodyPost_ret (v:=.tuple #[aQ #[O U me,J no nn nc,J ao n2 ac,J so sn sc,J mK tl mM,J oo dY oc],ah Z]) (by simp [results,aC,go_sem,h49,h59,v0,v1,v2,v3,v4,v5]) Ho ?_;rw [LB.out];refine⟨⟨(mK,tl,mM),_,rfl,aG (dN FE.out (show w.heap.size<=w.heap.size+3 by omega)),?_⟩,BL.out⟩;rw [<- Xz.out];exact ((HR2.out.take _).append (.cons (HRZ.out _) .nil)).append (HR2.out.drop _)
    ·have LB:=L (LC.trans (if_pos (by simpa using And.intro hf1 hf2)));clear LC;go_upto_region 2 with fail;refine wp_region_quiet_below (by kernel_rfl) (by kernel_rfl) ?_
     repeat (go_big_quiet_step (first | (with_reducible exact CE.out _ _)))
     refine wpQuiet_nil ?_;intro _ hw';obtain⟨⟨dq,osq⟩,hw''⟩:=hw';subst hw'';have Z6:=below_regrown w1 dq osq;have B2:=L (B1.out.trans (Z6.mono B1.out.size));have Z2:=L (Y2.out.on Z6);have Z3:=L (Y3.out.on Z6);have Z5:=L (Y5.out.on Z6);clear Z6 B1 Y2 Y3 Y5 a0 a1 a2 a3 a4 a5 b0 b1 b2 b3 b4 b5 b6;generalize grow (redrawn w1 dq) osq=w2 at *;have FB:=L (dL Z5.out (O U me) (J no nn nc) (J ao n2 ac) (J so sn sc) (J eo n3 ec) (J oo dY oc));have BL:=L (dG (b:=w.heap.size+1+1) B2.out (by omega) (O U me) (J no nn nc) (J ao n2 ac) (J so sn sc) (J eo n3 ec) (J oo dY oc));have y9:=Z2.out;have rX:=Z5.out;obtain⟨x0,x1,x2,x3,x4,x5⟩:=y9.fu;obtain⟨r0,r1,r2,r3,r4,r5⟩:=rX.fu;obtain⟨t0,t1,t2,t3,t4,t5⟩:=rX.kD;have zz:=rX.lt;clear y9 rX;go_wp2_with fail;obtain⟨v0,v1,v2,v3,v4,v5⟩:=FB.out.fu;refine bodyPost_ret (v:=.tuple #[aQ #[O U me,J no nn nc,J ao n2 ac,J so sn sc,J eo n3 ec,J oo dY oc],ah Z]) (by simp [results,aC,go_sem,v0,v1,v2,v3,v4,v5]) rfl ?_;rw [LB.out];exact⟨⟨(eo,n3,ec),es,rfl,aY ⟨rfl,rfl,rfl⟩,HR2.out⟩,BL.out⟩
  ·have LB:=L (show gQ b ⟨(c,d),(g,h),p',fr,ZA⟩=(b,Z) from (LA.out _ he).trans (if_pos (by omega)));have hge:decide ((0:Int)<=(j:Int))=ay:=decide_eq_true (by omega);rw [he] at CE;clear LA he;go_upto_region 2 with fail;refine wp_region_quiet_below (by kernel_rfl) (by kernel_rfl) ?_
   repeat (go_big_quiet_step (first | (with_reducible exact CE.out _ _)))
   refine wpQuiet_nil ?_;intro _ hw';obtain⟨⟨dq,osq⟩,hw''⟩:=hw';subst hw'';have Z6:=below_regrown w1 dq osq;have B2:=L (B1.out.trans (Z6.mono B1.out.size));have Z2:=L (Y2.out.on Z6);have Z3:=L (Y3.out.on Z6);have Z5:=L (Y5.out.on Z6);clear Z6 B1 Y2 Y3 Y5 a0 a1 a2 a3 a4 a5 b0 b1 b2 b3 b4 b5 b6;generalize grow (redrawn w1 dq) osq=w2 at *;have FB:=L (dL Z5.out (O U me) (J no nn nc) (J ao n2 ac) (J so sn sc) (J eo n3 ec) (J oo dY oc));have BL:=L (dG (b:=w.heap.size+1+1) B2.out (by omega) (O U me) (J no nn nc) (J ao n2 ac) (J so sn sc) (J eo n3 ec) (J oo dY oc));have y9:=Z2.out;have rX:=Z5.out;obtain⟨x0,x1,x2,x3,x4,x5⟩:=y9.fu;obtain⟨r0,r1,r2,r3,r4,r5⟩:=rX.fu;obtain⟨t0,t1,t2,t3,t4,t5⟩:=rX.kD;have zz:=rX.lt;clear y9 rX;go_wp2_with fail;obtain⟨v0,v1,v2,v3,v4,v5⟩:=FB.out.fu;refine bodyPost_ret (v:=.tuple #[aQ #[O U me,J no nn nc,J ao n2 ac,J so sn sc,J eo n3 ec,J oo dY oc],ah Z]) (by simp [results,aC,go_sem,v0,v1,v2,v3,v4,v5]) rfl ?_;rw [LB.out];exact⟨⟨(eo,n3,ec),es,rfl,aY ⟨rfl,rfl,rfl⟩,HR2.out⟩,BL.out⟩
theorem jq (b:Br) (e:En):(gQ b e).1.me=b.me/\(gQ b e).1.near=b.near/\(gQ b e).1.dQ=b.dQ/\(gQ b e).1.seen=b.seen/\(gQ b e).1.own=b.own:=by
 unfold gQ
 split
 ·exact⟨rfl,rfl,rfl,rfl,rfl⟩
 ·split
  ·exact⟨rfl,rfl,rfl,rfl,rfl⟩
  ·split
   ·exact⟨rfl,rfl,rfl,rfl,rfl⟩
   ·split <;> exact⟨rfl,rfl,rfl,rfl,rfl⟩
theorem TV (b:Br) (nv av sv ev ov:Sl) (z:iL) (e:En) (w:aO) (h_:iZ w b nv av sv ev ov) (hz:kr w z e) (l2:b.dQ.length<=900) (l3:b.ent.length<=900) (hok:∀ e∈b.ent,dZ e.p) (hop:dZ e.p) :
  bM aL 47 #[oK b.me nv av sv ev ov,rV z] w fun e' w'=>(∃ ev':Sl,e'=.returned (.tuple #[oK b.me nv av sv ev' ov,ah (gQ b e).2])/\iZ w' (gQ b e).1 nv av sv ev' ov)/\Below w.heap.size w w':=by
 obtain⟨es,he1,he2⟩:=h_.ent;refine (uh b nv av sv ev ov z e w es (kr w) h_ he1 he2 he2 (fun u=>⟨hz.1,hz.2.1,hz.2.2.1,rfl,hz.2.2.2.2⟩) hz l2 l3 hok hop).mono ?_;rintro e1 w1 ⟨⟨ev',xs,rfl,hr,hx⟩,hb⟩;refine⟨⟨ev',rfl,?_⟩,hb⟩;have hI:=h_.on hb;obtain⟨_,a2,a3,a4,a5⟩:=jq b e;refine⟨by rw [a2]; exact hI.near,by rw [a3]; exact hI.dQ,by rw [a4]; exact hI.seen,⟨xs,?_,hx.mono fun _ _ h=>h.on hb⟩,by rw [a5]; exact hI.own⟩;rcases hr with⟨h1,h2,_⟩|hr
 ·rw [h1,h2];exact he1.on hb
 ·exact aN hr
end Bk
namespace Bk
open Go.RowKit Go.Sort Rw YtmklifheakemeaaGreat.Nm Pr
open Av
def XA (e:En):En:={ e with up:=ay }
def iK (t:Id) (s:List En×List En) (k:Nat):List En×List En:=match s.1[k]? with
 | none=>s
 | some e=>if e.tree=t/\e.up=Z/\fC s.1 t e.p=Z then (s.1.set k (XA e),s.2++[XA e]) else s
def iW (t:Id) (m:List En) (k:Nat):List En×List En:=(List.range k).foldl (iK t) (m,[])
def takeB (b:Br) (t s:Id) (f:Int):Br×List En×Bool:=match b.ent[(iV (b.ent.map fJ) (t,s)).toNat]? with
 | none=>(b,[],Z)
 | some e=>if iV (b.ent.map fJ) (t,s)=-1 then (b,[],Z) else if e.from_≠f then (b,[],Z) else
  if e.up=Z then ({ b with ent:=cutAt b.ent (iV (b.ent.map fJ) (t,s)).toNat },[],Z) else
  ({ b with ent:=(iW t (cutAt b.ent (iV (b.ent.map fJ) (t,s)).toNat) (cutAt b.ent (iV (b.ent.map fJ) (t,s)).toNat).length).1 },(iW t (cutAt b.ent (iV (b.ent.map fJ) (t,s)).toNat) (cutAt b.ent (iV (b.ent.map fJ) (t,s)).toNat).length).2,ay)
theorem mQ (t:Id) (m:List En) (k:Nat):iW t m (k+1)=iK t (iW t m k) k:=by
 simp [iW,List.range_succ]
theorem Fa (t:Id) (s:List En×List En) (k:Nat):(iK t s k).1.length=s.1.length/\(iK t s k).2.length<=s.2.length+1:=by
 unfold iK
 split
 ·exact⟨rfl,bN _⟩
 ·split
  ·simp
  ·exact⟨rfl,bN _⟩
theorem nW (t:Id) (m:List En):∀ k,(iW t m k).1.length=m.length/\(iW t m k).2.length<=k
 | 0=>⟨rfl,aF _⟩
 | k+1=>by
  rw [mQ];have h1:=nW t m k;have h2:=Fa t (iW t m k) k;omega
theorem Ie {t:Id} {m:List En} (P:List C5->Prop) (h:∀ e∈m,P e.p):∀ k,(∀ e∈(iW t m k).1,P e.p)/\∀ e∈(iW t m k).2,P e.p
 | 0=>⟨h,fun e he=>by simp [iW] at he⟩
 | k+1=>by
  have ih:=Ie (t:=t) P h k;rw [mQ];unfold iK
  split
  ·exact ih
  ·rename_i e he
   split
   ·refine⟨fun x hx=>?_,fun x hx=>?_⟩
    ·rcases List.mem_or_eq_of_mem_set hx with h1|h1
     ·exact ih.1 x h1
     ·rw [h1];exact ih.1 e (aB he)
    ·rcases bK.1 hx with h1|h1
     ·exact ih.2 x h1
     ·rw [List.mem_singleton.1 h1];exact ih.1 e (aB he)
   ·exact ih
theorem Ig:∀ (l:List iL) (k:Nat) (x:iL),l[k]?=X x->flat EN (l.set k (x.1,x.2.1,x.2.2.1,x.2.2.2.1,x.2.2.2.2.1,x.2.2.2.2.2.1,ay))=(flat EN l).set (k * 7+6) (ah ay)
 | [],k,x,h=>by simp at h
 | y::r,0,x,h=>by
  obtain rfl:y=x:=by simpa using h
  rfl
 | y::r,k+1,x,h=>by
  have ih:=Ig r k x (by simpa using h);rw [show (k+1) * 7+6=(k * 7+6)+1+1+1+1+1+1+1 by omega];simp only [bf,flat,EN,jA,List.cons_append,List.nil_append] at ih ⊢;rw [ih]
theorem Yt {w:aO} {B g n cap k:Nat} {l:List iL} {x:iL} (h:kQ w B (J (X ⟨g,0,V⟩) n cap) l) (hk:l[k]?=X x) :
  kQ (w.setCell ⟨g,k * 7+6,V⟩ (ah ay)) B (J (X ⟨g,0,V⟩) n cap) (l.set k (x.1,x.2.1,x.2.2.1,x.2.2.2.1,x.2.2.2.2.1,x.2.2.2.2.2.1,ay))/\w.cell? ⟨g,k * 7+6,V⟩=X (ah x.2.2.2.2.2.2)/\w.frozen? ⟨g,k * 7+6,V⟩=Z:=by
 have c:=jC nN h hk w (aD _ _);have c6:=c 6 _ rfl;simp [Addr.add,EN] at c6;obtain⟨cur,hb⟩:=jL h;obtain⟨ao,c',hv⟩:=(aN h).len;obtain⟨_,rfl,_⟩:X ⟨g,0,V⟩=ao/\n=l.length/\cap=c':=by simpa using hv
 have h:w.ownsRow B 66 7 (J (X ⟨g,0,V⟩) l.length cap) l.length (flat EN l):=h;have t1:=(h.stored (k * 7+6) (ah ay)).1;refine⟨?_,c6,hb.fr _⟩;have e:=Ig l k x hk;show World.ownsRow _ B 66 7 _ (List.length _) (flat EN _);rw [e,List.length_set];exact t1
theorem fA.set2 {α β:Type} {R:α->β->Prop}:∀ {l:List α} {m:List β} (k:Nat) {a:α} {b:β},fA R l m->R a b->fA R (l.set k a) (m.set k b)
 | _,_,_,_,_,.nil,_=>.nil
 | _,_,0,_,_,.cons _ t,hr=>.cons hr t
 | _,_,k+1,_,_,.cons x t,hr=>.cons x (fA.set2 k t hr)
theorem Ih (w:aO) (c d e f:Array aU) (r s t u:TypeId):Below w.heap.size w ((((w.alloc (aj c r)).alloc (aj d s)).alloc (aj e t)).alloc (aj f u))/\dJ ((((w.alloc (aj c r)).alloc (aj d s)).alloc (aj e t)).alloc (aj f u)) w.heap.size c r/\dJ ((((w.alloc (aj c r)).alloc (aj d s)).alloc (aj e t)).alloc (aj f u)) (w.heap.size+1) d s/\dJ ((((w.alloc (aj c r)).alloc (aj d s)).alloc (aj e t)).alloc (aj f u)) (w.heap.size+1+1) e t/\dJ ((((w.alloc (aj c r)).alloc (aj d s)).alloc (aj e t)).alloc (aj f u)) (w.heap.size+1+1+1) f u:=by
 obtain⟨h0,h1,h2,h3⟩:=gJ w c d e r s t;refine⟨h0.alloc h0.size _,h1.more _,h2.more _,h3.more _,?_⟩;have h:=dO (((w.alloc (aj c r)).alloc (aj d s)).alloc (aj e t)) f u;have e2:(((w.alloc (aj c r)).alloc (aj d s)).alloc (aj e t)).heap.size=w.heap.size+1+1+1:=by simp
 rw [e2] at h;exact h
theorem Qu (b:Br) (nv av sv ev ov:Sl) (x s:Id) (f:Int) (w:aO) (h:iZ w b nv av sv ev ov) (l3:b.ent.length<=900) (hok:∀ e∈b.ent,dZ e.p) :
  bM aL 150 #[oK b.me nv av sv ev ov,mZ x,mZ s,O U f] w fun e w'=>(∃ ev' lo:Sl,e=.returned (.tuple #[oK b.me nv av sv ev' ov,dX lo,ah (takeB b x s f).2.2])/\iZ w' (takeB b x s f).1 nv av sv ev' ov/\∃ xs,lF w' (dX lo) xs/\fA (kr w') xs (takeB b x s f).2.1)/\Below w.heap.size w w':=by
 obtain⟨no,nn,nc⟩:=nv;obtain⟨ao,an,ac⟩:=av;obtain⟨so,sn,sc⟩:=sv;obtain⟨eo,en,ec⟩:=ev;obtain⟨oo,dY,oc⟩:=ov;obtain⟨c,d⟩:=x;obtain⟨c2,d2⟩:=s;obtain⟨es,he1,he2⟩:=h.ent;have Xz:=L (keys_eq he2);have EL:=L (show es.length<=900 by rw [he2.len]; exact l3);have HE2:=L he2;have OK:=L hok;obtain⟨q1,q2,hq⟩:=he1.len;obtain⟨rfl,rfl,rfl⟩:eo=q1/\en=es.length/\ec=q2:=by
  have:J eo en ec=J q1 es.length q2:=hq;simpa using this
 have EY:=zW b.me (J no nn nc) (J ao an ac) (J so sn sc) (J oo dY oc) (eo,es.length,ec) es (c,d) (c2,d2);have HH:=L h;obtain⟨h0,h1,h2,h3,h4⟩:=Ih w #[O U b.me,J no nn nc,J ao an ac,J so sn sc,J eo es.length ec,J oo dY oc] #[O U c,O U d] #[O U c2,O U d2] #[O U 0,J V 0 0,J V 0 0,J V 0 0,J V 0 0,J V 0 0] 28 31 31 28;obtain⟨n3,Sj⟩:∃ n,n=es.length:=⟨_,rfl⟩;simp only [<- Sj] at h0 h1 h2 h3 h4 he1 HH EY ⊢;obtain⟨me,hme⟩:∃ me,me=b.me:=⟨_,rfl⟩;simp only [<- hme] at h0 h1 h2 h3 h4 EY ⊢;have N3:=L Sj;have gB:=L (h0);have qH:=L (h1);have mR:=L (h2);have lW:=L (h3);have uz:=L (h4);have Qv:=L (he1.on h0);have HEW:=L he1;clear h0 h1 h2 h3 h4 he1 he2 h hq Sj l3 hme hok;go_enter Tryz.func150,Tryz.ntmps150;go_upto_region 1 with fail;generalize ((((w.alloc (aj #[O U me,J no nn nc,J ao an ac,J so sn sc,J eo n3 ec,J oo dY oc] 28)).alloc (aj #[O U c,O U d] 31)).alloc (aj #[O U c2,O U d2] 31)).alloc (aj #[O U 0,J V 0 0,J V 0 0,J V 0 0,J V 0 0,J V 0 0] 28))=W at *;have SW:=L (EY W Qv.out);clear EY;obtain⟨x0,x1,x2,x3,x4,x5⟩:=qH.out.fu;obtain⟨y0,y1⟩:=mR.out.cs2;obtain⟨z0,z1⟩:=lW.out.cs2;rcases ny (es.map iU) ((c,d),(c2,d2)) with hf|⟨k,hf,hkk⟩
 ·have LB:=L (show takeB b (c,d) (c2,d2) f=(b,[],Z) by
   have hf2:=hf;rw [Xz.out] at hf2;unfold takeB;rw [hf2]
   split
   ·rfl
   ·rw [if_pos rfl])
  rw [hf] at SW;clear hf;go_wp2_with fail;refine SW.out.mono ?_;rintro e1 w1 ⟨rfl,hb⟩;clear SW;clear x0 x1 x2 x3 x4 x5 y0 y1 z0 z1;have mq:=L (gB.out.trans (hb.mono gB.out.size));have kW:=L (qH.out.on hb);have Qw:=L (mR.out.on hb);have oG:=L (lW.out.on hb);have qh:=L (uz.out.on hb);have acu:=L (Qv.out.on hb);clear gB qH mR lW uz Qv;clear hb;obtain⟨x0,x1,x2,x3,x4,x5⟩:=kW.out.fu;obtain⟨r0,r1,r2,r3,r4,r5⟩:=qh.out.fu;obtain⟨wG,uD,yR,Ae,Af,Ag⟩:=qh.out.kD;have zz:=qh.out.lt;have FB:=L (dL qh.out (O U me) (J no nn nc) (J ao an ac) (J so sn sc) (J eo n3 ec) (J oo dY oc));have BL:=L (dG (b:=w.heap.size+1+1+1) mq.out (by omega) (O U me) (J no nn nc) (J ao an ac) (J so sn sc) (J eo n3 ec) (J oo dY oc));go_wp2_with fail;obtain⟨v0,v1,v2,v3,v4,v5⟩:=FB.out.fu;refine bodyPost_ret (v:=.tuple #[aQ #[O U me,J no nn nc,J ao an ac,J so sn sc,J eo n3 ec,J oo dY oc],J V 0 0,ah Z]) (by simp [results,aR,go_sem,v0,v1,v2,v3,v4,v5]) rfl ?_;rw [LB.out];exact⟨⟨(eo,n3,ec),(V,0,0),rfl,HH.out.on BL.out,[],ji _,.nil⟩,BL.out⟩
 ·rw [hf] at SW;have hk:k<es.length:=by have:=(aT.1 hkk).1; simpa using this
  obtain⟨y,hy⟩:∃ y,es[k]?=X y:=⟨_,ak hk⟩;obtain⟨e0,he0⟩:∃ e,b.ent[k]?=X e:=⟨_,ak (by rw [<- HE2.out.len]; exact hk)⟩;obtain⟨y_,hy_,hye⟩:=HE2.out.at k e0 he0;obtain rfl:y=y_:=au (hy.symm.trans hy_);have hkn:k<n3:=by rw [N3.out]; exact hk
  have LB:=L (show takeB b (c,d) (c2,d2) f=if e0.from_≠f then (b,[],Z) else if e0.up=Z then ({ b with ent:=cutAt b.ent k },[],Z) else ({ b with ent:=(iW (c,d) (cutAt b.ent k) (cutAt b.ent k).length).1 },(iW (c,d) (cutAt b.ent k) (cutAt b.ent k).length).2,ay) by
   have hf2:=hf;rw [Xz.out] at hf2;unfold takeB;rw [hf2,aV,he0];simp only;rw [if_neg (by omega)])
  obtain⟨p,ix,px⟩:=Pp Qv.out rfl N3.out.symm hy;obtain⟨t1,t2,t3,t4,⟨po,pn,pc⟩,fr,up⟩:=y;obtain⟨hl1,hl2,hfr,hup,hl5⟩:=hye;simp only at hfr hup;rw [<- hfr,<- hup] at LB;clear hfr hup hl1 hl2 hl5 hy_ he0 e0;have hik:decide ((k:Int)<0)=Z:=decide_eq_false (by omega);have XL:=EL.out;go_wp2_with fail;refine SW.out.mono ?_;rintro e1 w1 ⟨rfl,hb⟩;have yO:=px w1 hb;obtain⟨p0,p1,p2,p3,p4,p5,p6⟩:=yO;clear SW px;clear x0 x1 x2 x3 x4 x5 y0 y1 z0 z1;have mq:=L (gB.out.trans (hb.mono gB.out.size));have kW:=L (qH.out.on hb);have Qw:=L (mR.out.on hb);have oG:=L (lW.out.on hb);have qh:=L (uz.out.on hb);have acu:=L (Qv.out.on hb);clear gB qH mR lW uz Qv;clear hb hf;by_cases hpf:fr=f
  ·rw [if_neg (by simp [hpf])] at LB;have hne:(fr != f)=Z:=by simp [hpf]
   obtain⟨x0,x1,x2,x3,x4,x5⟩:=kW.out.fu;obtain⟨r0,r1,r2,r3,r4,r5⟩:=qh.out.fu;obtain⟨wG,uD,yR,Ae,Af,Ag⟩:=qh.out.kD;have zz:=qh.out.lt;go_upto_region 5 with fail;clear zz hne hik ix p0 p1 p2 p3 p4 p5 p6;clear x0 x1 x2 x3 x4 x5 r0 r1 r2 r3 r4 r5 wG uD yR Ae Af Ag;refine agR _ w1 w.heap.size (w.heap.size+1) me _ _ _ _ eo n3 ec k es _ _ _ _ _ _ _ _ _ _ _ _ _ _ _ _ _ _ _ _ _ _ _ _ _ _ _ _ _ _ _ _ _ _ _ _ _ _ _ _ _ _ _ _ _ _ _ _ _ _ _ _ _ _ _ _ _ _ _ _ _ _ _ _ _ _ _ _ _ _ _ _ _ _ _ _ _ _ _ _ _ _ _ _ _ _ _ _ _ _ _ _ _ _ _ _ _ _ _ _ _ kW.out acu.out (by omega) XL ?_;intro xw v39 v40 v41 v42 v43 v44 v45 v46 v47 v48 v49 v50 v51 hbx ho hbl hoth hblk;have CE:=L (show fA (kr w) (es.take k++es.drop (k+1)) (cutAt b.ent k) from (HE2.out.take k).append (HE2.out.drop (k+1)));have OK2:=L (show ∀ e∈cutAt b.ent k,dZ e.p from fun e he=>by
    rcases bK.1 he with h|h
    ·exact OK.out e (List.mem_of_mem_take h)
    ·exact OK.out e (List.mem_of_mem_drop h))
   have CL:=L (show (es.take k++es.drop (k+1)).length<=900 from by rw [bg,bG,bH]; omega);generalize es.take k++es.drop (k+1)=cs at *;obtain⟨ea,FX,hev⟩:=(aN ho).len;obtain⟨n,hn⟩:∃ n,n=cs.length:=⟨_,rfl⟩;rw [<- hn] at hev;subst hev;have N:=L hn;clear hn;have CN:=L (show (cutAt b.ent k).length=n from by rw [N.out,CE.out.len]);have hcl:=CN.out;simp only [hcl] at LB;generalize cutAt b.ent k=cb at *;clear hcl;have nI:=L (mq.out.trans (hbl _ (aF _)));have Yu:=L (hbx);have M7:=L (hoth _ _ _ (by omega) Qw.out);have mE:=L (hoth _ _ _ (by omega) oG.out);have pQ:=L (hoth _ _ _ (by omega) qh.out);have TW:=L (dN ho (show w.heap.size+4<=w1.heap.size by have:=qh.out.lt; omega));have WF:=L (show w.heap.size+4<=xw.heap.size from by have:=pQ.out.lt; omega);clear hbx ho hbl hoth hblk mq kW Qw oG qh acu;cases up
   ·rw [if_pos rfl] at LB;obtain⟨x0,x1,x2,x3,x4,x5⟩:=Yu.out.fu;obtain⟨r0,r1,r2,r3,r4,r5⟩:=pQ.out.fu;obtain⟨wG,uD,yR,Ae,Af,Ag⟩:=pQ.out.kD;have zz:=pQ.out.lt;have FB:=L (dL pQ.out (O U me) (J no nn nc) (J ao an ac) (J so sn sc) (J ea n FX) (J oo dY oc));have BL:=L (dG (b:=w.heap.size+1+1+1) nI.out (by omega) (O U me) (J no nn nc) (J ao an ac) (J so sn sc) (J ea n FX) (J oo dY oc));have PV:=L (fP TW.out (w.heap.size+1+1+1) (by omega) (O U me) (J no nn nc) (J ao an ac) (J so sn sc) (J ea n FX) (J oo dY oc));go_wp2_with fail;obtain⟨v0,v1,v2,v3,v4,v5⟩:=FB.out.fu;refine bodyPost_ret (v:=.tuple #[aQ #[O U me,J no nn nc,J ao an ac,J so sn sc,J ea n FX,J oo dY oc],J V 0 0,ah Z]) (by simp [results,aR,go_sem,v0,v1,v2,v3,v4,v5]) rfl ?_;rw [LB.out];have hI:=HH.out.on BL.out;exact⟨⟨(ea,n,FX),(V,0,0),rfl,⟨hI.near,hI.dQ,hI.seen,⟨cs,aN PV.out,CE.out.mono fun _ _ h=>h.on BL.out⟩,hI.own⟩,[],ji _,.nil⟩,BL.out⟩
   ·rw [if_neg (by simp)] at LB;have L4:=CL.out;rw [<- N.out] at L4;obtain⟨x0,x1,x2,x3,x4,x5⟩:=Yu.out.fu;go_wp2_with fail;clear x0 x1 x2 x3 x4 x5
    go_loopw [13,58] (fun v i wr=>∃ (k:Nat) (xs ls:List iL) (a:Option Addr) (c_:Nat),k<=n/\i=O U k/\Below w.heap.size w wr/\w.heap.size+4<=wr.heap.size/\dJ wr w.heap.size #[O U me,J no nn nc,J ao an ac,J so sn sc,J a n c_,J oo dY oc] 28/\dJ wr (w.heap.size+1) #[O U c,O U d] 31/\dJ wr (w.heap.size+1+1+1) #[O U 0,J V 0 0,J V 0 0,J V 0 0,J V 0 0,J V 0 0] 28/\kQ wr (w.heap.size+4) (J a n c_) xs/\fA (kr w) xs (iW (c,d) cb k).1/\kQ wr (w.heap.size+4) v ls/\fA (kr w) ls (iW (c,d) cb k).2) (fun _ i _=>n-(intOf i).toNat)
    case atStart=>exact⟨0,cs,[],ea,FX,bJ _,rfl,nI.out,WF.out,Yu.out,M7.out,pQ.out,TW.out,CE.out,iM _ _,.nil⟩
    case round =>
     clear WF nI Yu M7 mE pQ TW;obtain⟨k,xs,ls,ea,FX,hk,rfl,hgb,hwf,hx4,hx5,TY,hoe,hen,hol,hln⟩:=hrel;have wH:=L (hgb);have uL:=L (hx4);have ZC:=L (hx5);have Dy:=L (TY);have nC:=L (hoe);have M8:=L (hol);have WF:=L hwf;have EN:=L hen;have LN:=L hln;clear hgb hwf hx4 hx5 TY hoe hen hol hln;have XN:=L (show xs.length=n from by rw [EN.out.len,(nW _ _ _).1,CN.out]);have LN9:=L (show ls.length<=900 from by rw [LN.out.len]; exact aA (nW _ _ _).2 (by omega));by_cases hlt:k<n
     ·have hlt':(k:Int)<(n:Int):=by omega
      have hw:IntKind.i64.wrap ((k:Int)+1)=(k:Int)+1:=IntWalk.i64_in _ (by omega);obtain⟨y,hy⟩:∃ y,xs[k]?=X y:=⟨_,ak (by rw [XN.out]; exact hlt)⟩;obtain⟨e,he⟩:∃ e,(iW (c,d) cb k).1[k]?=X e:=⟨_,ak (by rw [<- EN.out.len,XN.out]; exact hlt)⟩;obtain⟨y_,hy_,hye⟩:=EN.out.at k e he;obtain rfl:y=y_:=au (hy.symm.trans hy_);have TK:=L (show iW (c,d) cb (k+1)=if e.tree=(c,d)/\e.up=Z/\fC (iW (c,d) cb k).1 (c,d) e.p=Z then ((iW (c,d) cb k).1.set k (XA e),(iW (c,d) cb k).2++[XA e]) else iW (c,d) cb k from by rw [mQ]; unfold iK; rw [he]);have OKK:=L ((Ie (t:=(c,d)) dZ OK2.out k).1);have T9:=L hye;have HY:=L hy;have OKE:=L (OKK.out e (aB he));clear hy_ hye he;generalize iW (c,d) cb k=mk at *;obtain⟨p,ix,px⟩:=Pp (aN nC.out) rfl XN.out hy;obtain⟨p0,p1,p2,p3,p4,p5,p6⟩:=px wr (aD _ _);obtain⟨y1,y2,y3,y4,⟨yo,yn,yc⟩,y6,y7⟩:=y;simp only at p0 p1 p2 p3 p4 p5 p6;clear px hy;obtain⟨x0,x1,x2,x3,x4,x5⟩:=uL.out.fu;go_upto_region 13 with fail;clear x0 x1 x2 x3 x4 x5;clear p0 p1 p2 p3 p4 p5 p6 ix;have NN:=gu wr (aj #[O U y1,O U y2,O U y3,O U y4,J yo yn yc,O U y6,ah y7] 66);have WG:=L NN.size;have lX:=L (wH.out.trans (NN.mono wH.out.size));have wI:=L (uL.out.on NN);have Ii:=L (ZC.out.on NN);have yA:=L (Dy.out.on NN);have wJ:=L (Bk.dI nC.out NN);have M9:=L (Bk.dI M8.out NN);clear wH uL ZC Dy nC M8;clear NN;have Ua:=L (dO wr #[O U y1,O U y2,O U y3,O U y4,J yo yn yc,O U y6,ah y7] 66);generalize wr.alloc (aj #[O U y1,O U y2,O U y3,O U y4,J yo yn yc,O U y6,ah y7] 66)=wa at *;obtain⟨x0,x1,x2,x3,x4,x5⟩:=wI.out.fu;obtain⟨Fb,y_1⟩:=Ii.out.cs2;obtain⟨z0,z1,z2,z3,z4,z5,z6⟩:=Ua.out.oJ;have TE:=L (show e.tree=(y1,y2) from T9.out.1.symm);have UE:=L (show e.up=y7 from T9.out.2.2.2.1.symm);obtain⟨r1,hr1⟩:∃ r,(y1 == c && y2 == d)=r:=⟨_,rfl⟩;have heq:=uw y1 y2 c d r1 hr1;have R1:=L hr1;clear hr1;cases r1
      ·go_wp2_with fail
       go_roundw
       case rel=>exact⟨k+1,xs,ls,ea,FX,by omega,by go_num,lX.out,by have:=WG.out; have:=WF.out; omega,wI.out,Ii.out,yA.out,wJ.out,by rw [TK.out,if_neg (by intro hh; have h1:=hh.1; rw [TE.out] at h1; have h2:=R1.out; simp at h1; simp [h1] at h2)]; exact EN.out,M9.out,by rw [TK.out,if_neg (by intro hh; have h1:=hh.1; rw [TE.out] at h1; have h2:=R1.out; simp at h1; simp [h1] at h2)]; exact LN.out⟩
       case measure=>simp [intOf]; omega
      ·cases y7
       ·obtain⟨cv,hcv⟩:∃ r,fC mk.1 (c,d) e.p=r:=⟨_,rfl⟩;have CO:=wF me (J no nn nc) (J ao an ac) (J so sn sc) (J oo dY oc) (ea,n,FX) xs mk.1 (c,d) (J yo yn yc) e.p wa (aN wJ.out) (EN.out.mono fun _ _ h=>h.on lX.out) (T9.out.2.2.2.2.on lX.out) OKK.out OKE.out;rw [hcv] at CO;rw [hcv] at TK;clear hcv;go_wp2_with fail;refine CO.mono ?_;rintro e2 wb ⟨rfl,hb⟩;clear CO;clear x0 x1 x2 x3 x4 x5 Fb y_1 z0 z1 z2 z3 z4 z5 z6;have lK:=L (lX.out.trans (hb.mono lX.out.size));have qI:=L (wI.out.on hb);have Ub:=L (Ii.out.on hb);have Uc:=L (yA.out.on hb);have uM:=L (Bk.dI wJ.out hb);have Na:=L (Bk.dI M9.out hb);have kX:=L (Ua.out.on hb);clear lX wI Ii yA wJ M9 Ua;have WGb:=L (aA WG.out hb.size);clear hb WG;have WG:=L WGb.out;cases cv
        ·rw [if_pos ⟨by rw [TE.out]; have h:=R1.out; simp at h; rw [h.1,h.2],UE.out,rfl⟩] at TK;have NB:=gu wb (aj #[] 66);obtain⟨va,x1,q1,oa,ga⟩:=jc nN (w:=wb.alloc (aj #[] 66)) wb.heap.size (dO wb #[] 66) (aF _) (aN (dI uM.out NB)) (by rw [XN.out]; omega) 25;have G1:=L (NB.trans (ga.mono NB.size));have m4:=(qI.out.on NB).cell 4;simp only [aM,aH,aI] at m4;rcases gK oa with⟨_,h0⟩|⟨g,cg,_,rfl,hBg,_,_⟩
         ·rw [h0] at XN;have:=XN.out;simp at this;omega
         rw [XN.out] at q1 oa;have q1:(Builtin.append_ #[25,25] 25 #[J (X ⟨wb.heap.size,0,V⟩) 0 0,J ea n FX]).run aL (wb.alloc (aj #[] 66))=.ok (J (X ⟨g,0,V⟩) n cg) x1:=q1;have OA:=L (dN oa (show w.heap.size+4<=wb.heap.size from by have:=WG.out; have:=WF.out; omega));have GL:=L (aA hBg (aF g));clear oa ga NB;have OLB:=L (Na.out);have Ij:=L (lK.out.trans (G1.out.mono lK.out.size));have rR:=L (qI.out.on G1.out);have ZE:=L (Ub.out.on G1.out);have Ik:=L (Uc.out.on G1.out);have Nb:=L (Bk.dI uM.out G1.out);have ZF:=L (Bk.dI Na.out G1.out);have qJ:=L (kX.out.on G1.out);clear lK qI Ub Uc uM Na kX;have WG1:=L (aA WG.out G1.out.size);obtain⟨x0,x1,x2,x3,x4,x5⟩:=rR.out.fu;obtain⟨xf0,xf1,Yv,Yw,Qx,Yx⟩:=rR.out.kD;have hl4:=rR.out.lt;go_upto_region 15 with (first | (at_builtin; refine wpList_append_run rfl _ _ 25 rfl rfl rfl q1 ?_) | fail)
         clear x0 x1 x2 x3 x4 x5 xf0 xf1 Yv Yw Qx Yx;clear hl4 q1 m4;have X4b:=dR (k:=4) rR.out (J (X ⟨g,0,V⟩) n cg);simp only [List.setIfInBounds_toArray,List.set_cons_zero,bf] at X4b;have BK:=dP x1 w.heap.size 4 (J (X ⟨g,0,V⟩) n cg);have GB2:=L (Ij.out.setCell (p:=⟨w.heap.size,4,V⟩) (aF _) (J (X ⟨g,0,V⟩) n cg));have Y4:=L X4b;have Y5:=L (BK.box ZE.out (by omega));have Y8:=L (BK.box Ik.out (by omega));have OA2:=L (eO OA.out w.heap.size 4 (J (X ⟨g,0,V⟩) n cg) (by omega));have OL2:=L (eO ZF.out w.heap.size 4 (J (X ⟨g,0,V⟩) n cg) (by omega));have WG2:=L (show wr.heap.size<=(x1.setCell ⟨w.heap.size,4,V⟩ (J (X ⟨g,0,V⟩) n cg)).heap.size from by have:=WG1.out; simpa using this);clear X4b BK OA WG1 Ij rR ZE Ik Nb ZF qJ;generalize x1.setCell ⟨w.heap.size,4,V⟩ (J (X ⟨g,0,V⟩) n cg)=x2 at *;have UP:=Yt OA2.out HY.out;obtain⟨u1,u2,u3⟩:=UP;simp only at u1 u2;have ix:=kY nN g k n cg hlt;have ix:∀ w,(Instr.indexAt 25 (J (X ⟨g,0,V⟩) n cg) (O U (k:Int))).run aL w=.ok (aJ (X ⟨g,k * 7,V⟩)) w:=ix;have x4:=Y4.out.cell 4;simp only [aM,aH,aI] at x4;have OU:=L u1;clear u1;have gl:g<x2.heap.size:=by obtain⟨cur,hb⟩:=jL OA2.out; exact hb.lt
         go_upto_region 16 with fail;clear u2 u3 x4 gl;have BG:=dP x2 g (k * 7+6) (ah ay);have GG:=L (show w.heap.size+4<=g from by have:=WG.out; have:=WF.out; have:=GL.out; omega);have GB3:=L (GB2.out.setCell (p:=⟨g,k * 7+6,V⟩) (by have:=GG.out; show w.heap.size<=g; omega) (ah ay));have Z4:=L (BG.box Y4.out (by have:=GG.out; omega));have Z5:=L (BG.box Y5.out (by have:=GG.out; omega));have Z8:=L (BG.box Y8.out (by have:=GG.out; omega));have LG:=L (show u13.ownBlock=V\/u13.ownBlock≠X g from by
          cases hob:u13.ownBlock with
          | none=>exact aY rfl
          | some j =>
           refine aG fun e=>?_;injection e with e
           have h1:=(OLB.out.lt j hob).2;have h2:=GL.out;omega)
         have OL3:=L (OL2.out.kept (w':=x2.setCell ⟨g,k * 7+6,V⟩ (ah ay)) (row:=X g) ⟨rfl,rfl,rfl,by simp [World.setCell],fun j _ hne=>Y _ _ _ _ (fun e=>hne (by rw [e]))⟩ LG.out);have WG3:=L (show wr.heap.size<=(x2.setCell ⟨g,k * 7+6,V⟩ (ah ay)).heap.size from by have:=WG2.out; simpa using this);clear BG GB2 Y4 Y5 Y8 OA2 OL2 WG2;generalize x2.setCell ⟨g,k * 7+6,V⟩ (ah ay)=x3 at *;have OU2:=OU.out;have hset:(xs.set k (y1,y2,y3,y4,(yo,yn,yc),y6,ay))[k]?=X (y1,y2,y3,y4,(yo,yn,yc),y6,ay):=List.getElem?_set_self (by rw [XN.out]; exact hlt);have ce:∀ j u,(jA (y1,y2,y3,y4,(yo,yn,yc),y6,ay))[j]?=X u->x3.cell? ((⟨g,k * 7,V⟩:Addr).add j)=X u:=jC nN OU2 hset x3 (aD _ _);have c0_:=ce 0 _ rfl;have c1_:=ce 1 _ rfl;have c2_:=ce 2 _ rfl;have c3_:=ce 3 _ rfl;have c4_:=ce 4 _ rfl;have c5_:=ce 5 _ rfl;have c6_:=ce 6 _ rfl;simp [Addr.add] at c0_ c1_ c2_ c3_ c4_ c5_ c6_;have x4:=Z4.out.cell 4;simp only [aM,aH,aI] at x4;have hlit:=iN nN x3 [(y1,y2,y3,y4,(yo,yn,yc),y6,ay)] 1 rfl (by simp) #[O U y1,O U y2,O U y3,O U y4,J yo yn yc,O U y6,ah ay] rfl;have NB:=gu x3 (aj #[O U y1,O U y2,O U y3,O U y4,J yo yn yc,O U y6,ah ay] 66);have hB:w.heap.size+4<=(x3.alloc (aj #[O U y1,O U y2,O U y3,O U y4,J yo yn yc,O U y6,ah ay] 66)).heap.size:=aA (aA WF.out WG3.out) NB.size;obtain⟨v',x5,q2,o2,g2⟩:=gI nN (w.heap.size+4) (dI OL3.out NB) (aN hlit) (by have:=LN9.out; omega) (by simp) hB 25;have q2:(Builtin.append_ #[25,25] 25 #[u13,J (X ⟨x3.heap.size,0,V⟩) 1 1]).run aL (x3.alloc (aj #[O U y1,O U y2,O U y3,O U y4,J yo yn yc,O U y6,ah ay] 66))=.ok v' x5:=q2;have GF:=L (show Below w.heap.size w x5 from ((GB3.out.trans (NB.mono GB3.out.size)).grown g2 (by omega) fun j hj=>by have:=((dI OL3.out NB).lt j hj).1; omega));have BO:=L (show ∀ j,j<x3.heap.size->X j≠u13.ownBlock->x5.heap[j]?=x3.heap[j]? from fun j hj hne=>(g2.block j (Nat.lt_of_lt_of_le hj NB.size) hne).trans (NB.block j hj));have ZX:=fun (bb:Nat) (cs:Array aU) (tt:TypeId) (hbb:bb<w.heap.size+4) (hbx:dJ x3 bb cs tt)=>show dJ x5 bb cs tt from (BO.out bb hbx.lt (fun e=>by have:=(OL3.out.lt bb e.symm).1; omega)).trans hbx;have V4:=L (ZX _ _ _ (by omega) Z4.out);have V5:=L (ZX _ _ _ (by omega) Z5.out);have V8:=L (ZX _ _ _ (by omega) Z8.out);have OU5:=L (show kQ x5 (w.heap.size+4) (J (X ⟨g,0,V⟩) n cg) (xs.set k (y1,y2,y3,y4,(yo,yn,yc),y6,ay)) from by
          have h1:=Bk.dI OU.out NB;exact h1.kept g2 (by
           cases hob:u13.ownBlock with
           | none=>exact aG (by simp [Value.ownBlock])
           | some j =>
            refine aG fun e=>?_;have h2:=LG.out;rw [hob] at h2;rcases h2 with h2|h2
            ·cases h2
            ·exact h2 (by rw [<- e]; rfl)))
         have O2:=L o2;have W5:=L (aA WG3.out (aA NB.size g2.size));clear hlit hB o2 g2 ZX BO OU2 NB hset ce;go_wp2_with (first | (at_builtin; refine wpList_append_run rfl _ _ 25 rfl rfl rfl q2 ?_) | fail)
         go_roundw
         case rel=>exact⟨k+1,_,_,X ⟨g,0,V⟩,cg,by omega,by go_num,GF.out,by have:=WF.out; have:=W5.out; omega,V4.out,V5.out,V8.out,OU5.out,by
          rw [TK.out];exact EN.out.set2 k ⟨T9.out.1,T9.out.2.1,T9.out.2.2.1,rfl,T9.out.2.2.2.2⟩,O2.out,by
          rw [TK.out];exact LN.out.append (.cons ⟨T9.out.1,T9.out.2.1,T9.out.2.2.1,rfl,T9.out.2.2.2.2⟩ .nil)⟩
         case measure=>simp [intOf]; omega
        ·go_wp2_with fail
         go_roundw
         case rel=>exact⟨k+1,xs,ls,ea,FX,by omega,by go_num,lK.out,by have:=WG.out; have:=WF.out; omega,qI.out,Ub.out,Uc.out,uM.out,by rw [TK.out,if_neg (by simp)]; exact EN.out,Na.out,by rw [TK.out,if_neg (by simp)]; exact LN.out⟩
         case measure=>simp [intOf]; omega
       ·go_wp2_with fail
        go_roundw
        case rel=>exact⟨k+1,xs,ls,ea,FX,by omega,by go_num,lX.out,by have:=WG.out; have:=WF.out; omega,wI.out,Ii.out,yA.out,wJ.out,by rw [TK.out,if_neg (by intro hh; have h1:=hh.2.1; rw [UE.out] at h1; cases h1)]; exact EN.out,M9.out,by rw [TK.out,if_neg (by intro hh; have h1:=hh.2.1; rw [UE.out] at h1; cases h1)]; exact LN.out⟩
        case measure=>simp [intOf]; omega
     ·obtain rfl:k=n:=by omega
      obtain⟨x0,x1,x2,x3,x4,x5⟩:=uL.out.fu;obtain⟨la,lc,hlv⟩:=(aN M8.out).len;obtain⟨ln,hln⟩:∃ n,n=ls.length:=⟨_,rfl⟩;rw [<- hln] at hlv;subst hlv;clear hln;obtain⟨r0,r1,r2,r3,r4,r5⟩:=Dy.out.fu;obtain⟨wG,uD,yR,Ae,Af,Ag⟩:=Dy.out.kD;have zz:=Dy.out.lt;have FB:=L (dL Dy.out (O U me) (J no nn nc) (J ao an ac) (J so sn sc) (J ea k FX) (J oo dY oc));have BL:=L (dG (b:=w.heap.size+1+1+1) wH.out (by omega) (O U me) (J no nn nc) (J ao an ac) (J so sn sc) (J ea k FX) (J oo dY oc));have PV:=L (fP nC.out (w.heap.size+1+1+1) (by omega) (O U me) (J no nn nc) (J ao an ac) (J so sn sc) (J ea k FX) (J oo dY oc));have OL2:=L (fP M8.out (w.heap.size+1+1+1) (by omega) (O U me) (J no nn nc) (J ao an ac) (J so sn sc) (J ea k FX) (J oo dY oc));go_wp2_with fail;obtain⟨v0,v1,v2,v3,v4,v5⟩:=FB.out.fu;refine bodyPost_ret (v:=.tuple #[aQ #[O U me,J no nn nc,J ao an ac,J so sn sc,J ea k FX,J oo dY oc],J la ln lc,ah ay]) (by simp [results,aR,go_sem,v0,v1,v2,v3,v4,v5]) rfl ?_;rw [LB.out];have hI:=HH.out.on BL.out;exact⟨⟨(ea,k,FX),(la,ln,lc),rfl,⟨hI.near,hI.dQ,hI.seen,⟨xs,aN PV.out,EN.out.mono fun _ _ h=>h.on BL.out⟩,hI.own⟩,ls,aN OL2.out,LN.out.mono fun _ _ h=>h.on BL.out⟩,BL.out⟩
  ·rw [if_pos hpf] at LB;have hne:(fr != f)=ay:=by simp [hpf]
   obtain⟨x0,x1,x2,x3,x4,x5⟩:=kW.out.fu;obtain⟨r0,r1,r2,r3,r4,r5⟩:=qh.out.fu;obtain⟨wG,uD,yR,Ae,Af,Ag⟩:=qh.out.kD;have zz:=qh.out.lt;have FB:=L (dL qh.out (O U me) (J no nn nc) (J ao an ac) (J so sn sc) (J eo n3 ec) (J oo dY oc));have BL:=L (dG (b:=w.heap.size+1+1+1) mq.out (by omega) (O U me) (J no nn nc) (J ao an ac) (J so sn sc) (J eo n3 ec) (J oo dY oc));go_wp2_with fail;obtain⟨v0,v1,v2,v3,v4,v5⟩:=FB.out.fu;refine bodyPost_ret (v:=.tuple #[aQ #[O U me,J no nn nc,J ao an ac,J so sn sc,J eo n3 ec,J oo dY oc],J V 0 0,ah Z]) (by simp [results,aR,go_sem,v0,v1,v2,v3,v4,v5]) rfl ?_;rw [LB.out];exact⟨⟨(eo,n3,ec),(V,0,0),rfl,HH.out.on BL.out,[],ji _,.nil⟩,BL.out⟩
structure Ou where
 iq:Int
 kind:Int
 tree:Id
 id:Id
 p:List C5
def rZ (W:aO) (x:mh) (o:Ou):Prop:=x.1=o.iq/\x.2.1=o.kind/\(x.2.2.1,x.2.2.2.1)=o.tree/\(x.2.2.2.2.1,x.2.2.2.2.2.1)=o.id/\fH W (dX x.2.2.2.2.2.2.1) o.p/\x.2.2.2.2.2.2.2=(V,0,0)
theorem rZ.on {W W':aO} {x:mh} {o:Ou} (h:rZ W x o) (hb:Below W.heap.size W W'):rZ W' x o:=⟨h.1,h.2.1,h.2.2.1,h.2.2.2.1,h.2.2.2.2.1.on hb,h.2.2.2.2.2⟩
def jE (W:aO) (s:Sl) (l:List Ou):Prop:=∃ xs,P8 W (dX s) xs/\fA (rZ W) xs l
theorem jE.on {W W':aO} {s:Sl} {l:List Ou} (h:jE W s l) (hb:Below W.heap.size W W'):jE W' s l:=by
 obtain⟨xs,h1,h2⟩:=h;exact⟨xs,h1.on hb,h2.mono fun _ _ h=>h.on hb⟩
theorem qK (W:aO):jE W (V,0,0) []:=⟨[],ji _,.nil⟩
def vG (iq:Int) (e:En):Ou:=⟨iq,3,e.tree,e.sub,e.p⟩
abbrev KQ (iq:Int) (x:iL):mh:=(iq,3,x.1,x.2.1,x.2.2.1,x.2.2.2.1,x.2.2.2.2.1,(V,0,0))
theorem acw {W:aO} {x:iL} {e:En} (h:kr W x e) (t:Int):rZ W (KQ t x) (vG t e):=⟨rfl,rfl,h.1,h.2.1,h.2.2.2.2,rfl⟩
def kH (b:Br) (t x:Id) (f:Int):Br×List Ou:=if (takeB b t x f).2.2=Z then ((takeB b t x f).1,[]) else
 match b.dQ[(fI (b.dQ.map Ad.id) t).toNat]? with
 | none=>((takeB b t x f).1,[])
 | some a=>((takeB b t x f).1,(takeB b t x f).2.1.map (vG a.par)++[⟨a.par,4,t,x,[]⟩])
theorem jQ (b:Br) (t x:Id) (f:Int):(takeB b t x f).1.dQ=b.dQ/\(takeB b t x f).1.near=b.near/\(takeB b t x f).1.me=b.me/\(takeB b t x f).1.seen=b.seen/\(takeB b t x f).1.own=b.own:=by
 unfold takeB
 split
 ·exact⟨rfl,rfl,rfl,rfl,rfl⟩
 ·split
  ·exact⟨rfl,rfl,rfl,rfl,rfl⟩
  ·split
   ·exact⟨rfl,rfl,rfl,rfl,rfl⟩
   ·split <;> exact⟨rfl,rfl,rfl,rfl,rfl⟩
theorem Dz (l:List Id) (x:Id) (h:x∈l):∃ k:Nat,fI l x=k/\l[k]?=X x:=by
 induction l with
 | nil=>simp at h
 | cons a r ih =>
  by_cases e:a=x
  ·subst e;exact⟨0,by simp [fI],rfl⟩
  ·have hr:x∈r:=by
    rcases List.mem_cons.1 h with h1|h1
    ·exact absurd h1.symm e
    ·exact h1
   obtain⟨k,h1,h2⟩:=ih hr;refine⟨k+1,?_,by simpa using h2⟩;rw [fI,if_neg e,h1,if_neg (by omega)];omega
theorem KR {b:Br} {t x:Id} {f:Int} (h:(takeB b t x f).2.2=ay):∃ e∈b.ent,e.tree=t:=by
 unfold takeB at h
 split at h
 ·cases h
 ·rename_i e he
  split at h
  ·cases h
  ·rename_i h1
   rcases ny (b.ent.map fJ) (t,x) with h2|⟨k,h2,h3⟩
   ·exact absurd h2 h1
   ·rw [h2,aV] at he;refine⟨e,aB he,?_⟩;rw [bF,he] at h3;exact congrArg Prod.fst (au h3)
theorem uj (b:Br) (t x:Id) (f:Int):(takeB b t x f).1.ent.length<=b.ent.length/\(takeB b t x f).2.1.length<=b.ent.length:=by
 unfold takeB
 split
 ·simp
 ·split
  ·simp
  ·split
   ·simp
   ·have hc:(cutAt b.ent (iV (b.ent.map fJ) (t,x)).toNat).length<=b.ent.length:=by
     unfold cutAt;rw [bg,bG,bH];omega
    split
    ·exact⟨hc,by simp⟩
    ·have h1:=nW t (cutAt b.ent (iV (b.ent.map fJ) (t,x)).toNat) (cutAt b.ent (iV (b.ent.map fJ) (t,x)).toNat).length;exact⟨by rw [show ((iW t _ _).1.length)=_ from h1.1]; exact hc,aA h1.2 hc⟩
theorem wK {W x:aO} {b F0:Nat} {cs:Array aU} {t:TypeId} (h:dJ W b cs t) (hb:Below F0 W x) (hl:b<F0):dJ x b cs t:=(hb.block b hl).trans h
def dV (W F0:Nat) (bv rv:aU) (iq c d c2 d2:Int) (lo:List mh) (i:Nat) (v:aU) (x:aO):Prop :=
 match i with
 | 0=>v=bv
 | 1=>v=rv
 | 2=>v=O U iq
 | 3=>v=mZ (c,d)
 | 4=>v=mZ (c2,d2)
 | 5=>v=aQ #[O U 4,O U c,O U d,O U c2,O U d2,J V 0 0,J V 0 0]
 | 6=>v=vW (iq,4,c,d,c2,d2,(V,0,0),(V,0,0))
 | 7=>jK x W v [(iq,4,c,d,c2,d2,(V,0,0),(V,0,0))]
 | 8=>∃ sl:Sl,v=dX sl/\jK x F0 v (lo++[(iq,4,c,d,c2,d2,(V,0,0),(V,0,0))])
 | 10=>∃ sl:Sl,v=dX sl/\jK x F0 v (lo++[(iq,4,c,d,c2,d2,(V,0,0),(V,0,0))])
 | _=>True
def dF (W:aO) (F0 b4 b5 b6 b8:Nat) (bc:Array aU) (c d c2 d2:Int) (D:Nat->Prop) (x:aO):Prop :=
 (dJ x b4 bc 28/\dJ x b5 #[O U c,O U d] 31/\dJ x b6 #[O U c2,O U d2] 31)/\(¬ D 8->Below W.heap.size W x)/\(¬ D 9->Below F0 W x)/\(D 9->dJ x b8 bc 28/\(∀ j,j<F0->j≠b8->x.heap[j]?=W.heap[j]?)/\∀ B,B<=b8->Below B W x)
noncomputable def Nc:Code:=((Tryz.f100.body.bind (eT 11)).getD .skip)
theorem Ud (Q:Exit->Act->aO->Prop) (W:aO) (F0 b4 b5 b6 b8:Nat) (me iq c d c2 d2:Int) (o1 o2 o3 o4 o5:Option Addr) (n1 k1 n2 k2 n3 k3 n4 k4 n5 k5:Nat) (rv:aU) (lo:List mh) (z0 z1 z2 z3 z4 z5:aU) (u0 u1 u2 u3 u7 u9 u10 u11 u14 u15 u16 u17 u18 u19 u20 u21 u22 u23 u24 u25 u26 u27 u28 u29 u30 u31 u32 u33 u34 u35 u36 u37 u38 u39 u40 u41 u42 u43 u44 u45 u46 u47 u48 u49 u50 u51 u52 u53 u54 u55 u56 u57 u58:aU)
  (h4:dJ W b4 #[O U me,J o1 n1 k1,J o2 n2 k2,J o3 n3 k3,J o4 n4 k4,J o5 n5 k5] 28) (h5:dJ W b5 #[O U c,O U d] 31) (h6:dJ W b6 #[O U c2,O U d2] 31) (h8:dJ W b8 #[z0,z1,z2,z3,z4,z5] 28) (l4:b4<F0) (l5:b5<F0) (l6:b6<F0) (l8:b8<F0) (n4_:b4≠b8) (n5_:b5≠b8) (n6_:b6≠b8) (fw:F0<=W.heap.size) (hown:jK W F0 rv lo) (hlen:lo.length<=1000)
  (hQ:∀ (a:Act) (x:aO) (sl:Sl),a.defers=[]->a.tmps[8]?=X (aJ (X ⟨b8,0,V⟩))->a.tmps[9]?=X (dX sl)->dJ x b8 #[O U me,J o1 n1 k1,J o2 n2 k2,J o3 n3 k3,J o4 n4 k4,J o5 n5 k5] 28->jK x F0 (dX sl) (lo++[(iq,4,c,d,c2,d2,(V,0,0),(V,0,0))])->(∀ k,k<F0->k≠b8->x.heap[k]?=W.heap[k]?)->(∀ B,B<=b8->Below B W x)->Q .normal a x) :
  Code.wp aL Nc Q ⟨(u0::u1::u2::u3::aJ (X ⟨b4,0,V⟩)::aJ (X ⟨b5,0,V⟩)::aJ (X ⟨b6,0,V⟩)::u7::aJ (X ⟨b8,0,V⟩)::u9::u10::u11::O U iq::rv::u14::u15::u16::u17::u18::u19::u20::u21::u22::u23::u24::u25::u26::u27::u28::u29::u30::u31::u32::u33::u34::u35::u36::u37::u38::u39::u40::u41::u42::u43::u44::u45::u46::u47::u48::u49::u50::u51::u52::u53::u54::u55::u56::u57::u58::[]).toArray,[]⟩ W:=by
 have HQ:=L hQ;have H4:=L h4;have H5:=L h5;have H6:=L h6;have H8:=L h8;have L4:=L l4;have L5:=L l5;have L6:=L l6;have L8:=L l8;have N4:=L n4_;have N5:=L n5_;have N6:=L n6_;have FW:=L fw;have HO:=L hown;have HL:=L hlen;clear hQ h4 h5 h6 h8 l4 l5 l6 l8 n4_ n5_ n6_ fw hown hlen;unfold Nc
 conv=>arg 2; whnf
 have nd:∀ j,(∀ i,i<11->[X 50,X 51,X 52,X 53,X 54,X 55,X 56,X 57,X 58,V,X 9].getD i V≠X j)->∀ i,i<11->(fun i=>[X 50,X 51,X 52,X 53,X 54,X 55,X 56,X 57,X 58,V,X 9].getD i V) i≠X j:=fun j h=>h;refine Rg.pE 11 (fun i=>[X 50,X 51,X 52,X 53,X 54,X 55,X 56,X 57,X 58,V,X 9].getD i V) (fun i=>if i=7 then 8 else 11) (dV W.heap.size F0 (aQ #[O U me,J o1 n1 k1,J o2 n2 k2,J o3 n3 k3,J o4 n4 k4,J o5 n5 k5]) rv iq c d c2 d2 lo) (dF W F0 b4 b5 b6 b8 #[O U me,J o1 n1 k1,J o2 n2 k2,J o3 n3 k3,J o4 n4 k4,J o5 n5 k5] c d c2 d2) (by kernel_rfl) (by kernel_rfl) rfl (fun i j e hi hj h1 h2=>(by decide:∀ i,i<11->∀ j,j<11->([X 50,X 51,X 52,X 53,X 54,X 55,X 56,X 57,X 58,V,X 9].getD i V).isSome=ay->[X 50,X 51,X 52,X 53,X 54,X 55,X 56,X 57,X 58,V,X 9].getD i V=[X 50,X 51,X 52,X 53,X 54,X 55,X 56,X 57,X 58,V,X 9].getD j V->i=j) i hi j hj (by have h1:[X 50,X 51,X 52,X 53,X 54,X 55,X 56,X 57,X 58,V,X 9].getD i V=X e:=h1; rw [h1]; rfl) (h1.trans h2.symm)) (fun i e hi h=>(by decide:∀ i,i<11->∀ q∈[X 50,X 51,X 52,X 53,X 54,X 55,X 56,X 57,X 58,V,X 9].getD i V,q<59) i hi e h) ⟨⟨H4.out,H5.out,H6.out⟩,fun _=>(aD _ _).drew,fun _=>(aD _ _).drew,False.elim⟩ ?_ ?_
 ·intro i o hi ho a x D hnd hc hD hF seen K hK;clear HQ;have still:∀ i,i≠8->i≠9->dF W F0 b4 b5 b6 b8 #[O U me,J o1 n1 k1,J o2 n2 k2,J o3 n3 k3,J o4 n4 k4,J o5 n5 k5] c d c2 d2 (fun j=>j=i\/D j) x:=fun i h8 h9=>⟨hF.1,fun h=>hF.2.1 fun h2=>h (aG h2),fun h=>hF.2.2.1 fun h2=>h (aG h2),fun h=>hF.2.2.2 (h.resolve_left (Ne.symm h9))⟩;rcases (by omega:i=0\/i=1\/i=2\/i=3\/i=4\/i=5\/i=6\/i=7\/i=8\/i=9\/i=10) with rfl|rfl|rfl|rfl|rfl|rfl|rfl|rfl|rfl|rfl|rfl
  ·cases ho;have e4:a.eval (aP 4)=aJ (X ⟨b4,0,V⟩):=seen.kp 4 _ (nd 4 (by decide)) rfl;exact Rg.dD rfl rfl (Rg.dW a.eval _ 28 (aP 4) rfl (by rw [e4]; exact vk hF.1.1)) (hK _ _ rfl (still 0 (by decide) (by decide)) fun _ _ _ _ _ _ _ h=>h)
  ·cases ho;have e13:a.eval (aP 13)=rv:=seen.kp 13 _ (nd 13 (by decide)) rfl;exact Rg.dD rfl rfl (Rg.gq a.eval _ (aP 13) rfl x) (hK _ _ e13 (still 1 (by decide) (by decide)) fun _ _ _ _ _ _ _ h=>h)
  ·cases ho;have e12:a.eval (aP 12)=O U iq:=seen.kp 12 _ (nd 12 (by decide)) rfl;exact Rg.dD rfl rfl (Rg.gq a.eval _ (aP 12) rfl x) (hK _ _ e12 (still 2 (by decide) (by decide)) fun _ _ _ _ _ _ _ h=>h)
  ·cases ho;have e5:a.eval (aP 5)=aJ (X ⟨b5,0,V⟩):=seen.kp 5 _ (nd 5 (by decide)) rfl;exact Rg.dD rfl rfl (Rg.dW a.eval _ 31 (aP 5) rfl (by rw [e5]; exact CX x _ (c,d) (Mv hF.1.2.1))) (hK _ _ rfl (still 3 (by decide) (by decide)) fun _ _ _ _ _ _ _ h=>h)
  ·cases ho;have e6:a.eval (aP 6)=aJ (X ⟨b6,0,V⟩):=seen.kp 6 _ (nd 6 (by decide)) rfl;exact Rg.dD rfl rfl (Rg.dW a.eval _ 31 (aP 6) rfl (by rw [e6]; exact CX x _ (c2,d2) (Mv hF.1.2.2))) (hK _ _ rfl (still 4 (by decide) (by decide)) fun _ _ _ _ _ _ _ h=>h)
  ·cases ho;have e53:a.eval (aP 53)=mZ (c,d):=seen.at_ ⟨3,.data⟩ (by simp) rfl (aG (by decide)) _ rfl;have e54:a.eval (aP 54)=mZ (c2,d2):=seen.at_ ⟨4,.data⟩ (by simp) rfl (aG (by decide)) _ rfl;exact Rg.dD rfl rfl (Rg.jP a.eval _ 41 #[(0,.const (O U 4)),(1,aP 53),(2,aP 54)] rfl (ps:=#[(0,O U 4),(1,mZ (c,d)),(2,mZ (c2,d2))]) (by simp only [bI,aW,bL,e53,e54]; rfl) (by simp [go_sem])) (hK _ _ rfl (still 5 (by decide) (by decide)) fun _ _ _ _ _ _ _ h=>h)
  ·cases ho;have e52:a.eval (aP 52)=O U iq:=seen.at_ ⟨2,.data⟩ (by simp) rfl (aG (by decide)) _ rfl;have e55:a.eval (aP 55)=aQ #[O U 4,O U c,O U d,O U c2,O U d2,J V 0 0,J V 0 0]:=seen.at_ ⟨5,.data⟩ (by simp) rfl (aG (by decide)) _ rfl;exact Rg.dD rfl rfl (Rg.jP a.eval _ 43 #[(0,aP 52),(1,aP 55)] rfl (ps:=#[(0,O U iq),(1,aQ #[O U 4,O U c,O U d,O U c2,O U d2,J V 0 0,J V 0 0])]) (by simp only [bI,aW,bL,e52,e55]) (by simp [go_sem])) (hK _ _ rfl (still 6 (by decide) (by decide)) fun _ _ _ _ _ _ _ h=>h)
  ·cases ho;have e56:a.eval (aP 56)=vW (iq,4,c,d,c2,d2,(V,0,0),(V,0,0)):=seen.at_ ⟨6,.data⟩ (by simp) rfl (aG (by decide)) _ rfl;have n8:¬ D 8:=fun h=>hnd (hc 8 _ h rfl ⟨7,.data⟩ (by simp) rfl);have n9:¬ D 9:=fun h=>n8 (hc 9 _ h rfl ⟨8,.chain⟩ (by simp) rfl);have hb:=hF.2.1 n8;have hl:=iN Dk x [((iq,4,c,d,c2,d2,(V,0,0),(V,0,0)):mh)] 1 rfl (by simp) (kU (iq,4,c,d,c2,d2,(V,0,0),(V,0,0))).toArray (by simp [flat,EU]);have nb:=gu x (aj (kU (iq,4,c,d,c2,d2,(V,0,0),(V,0,0))).toArray 43);exact Rg.dD rfl rfl (Rg.jd a.eval _ 35 1 #[(0,aP 56)] rfl (ps:=#[(0,vW (iq,4,c,d,c2,d2,(V,0,0),(V,0,0)))]) (by simp [e56]) (by simp [go_sem])) (hK (J (X ⟨x.heap.size,0,V⟩) 1 1) (x.alloc (aj (kU (iq,4,c,d,c2,d2,(V,0,0),(V,0,0))).toArray 43)) (dN hl hb.size) ⟨⟨hF.1.1.on nb,hF.1.2.1.on nb,hF.1.2.2.on nb⟩,fun _=>hb.trans (nb.mono hb.size),fun _=>(hb.trans (nb.mono hb.size)).mono FW.out,fun h=>absurd (h.resolve_left (by decide)) n9⟩ fun j u hj dj nl nx ni h=>by
    rcases (by omega:j=0\/j=1\/j=2\/j=3\/j=4\/j=5\/j=6\/j=7\/j=8\/j=9\/j=10) with rfl|rfl|rfl|rfl|rfl|rfl|rfl|rfl|rfl|rfl|rfl
    ·exact h
    ·exact h
    ·exact h
    ·exact h
    ·exact h
    ·exact h
    ·exact h
    ·exact absurd rfl ni
    ·exact absurd dj n8
    ·exact h
    ·exact absurd (hc 10 _ dj rfl ⟨8,.data⟩ (by simp) rfl) n8)
  ·cases ho;have e51:a.eval (aP 51)=rv:=seen.at_ ⟨1,.data⟩ (by simp) rfl (aG (by decide)) _ rfl;have o57:jK x W.heap.size (a.eval (aP 57)) [(iq,4,c,d,c2,d2,(V,0,0),(V,0,0))]:=seen.at_ ⟨7,.data⟩ (by simp) rfl (aY rfl) _ rfl;have hb:=hF.2.1 hnd;have n9:¬ D 9:=fun h=>hnd (hc 9 _ h rfl ⟨8,.chain⟩ (by simp) rfl);have n10:¬ D 10:=fun h=>hnd (hc 10 _ h rfl ⟨8,.data⟩ (by simp) rfl);obtain⟨v',x',r,o',gr⟩:=gI Dk F0 (Bk.dI HO.out hb) (aN o57) HL.out (by simp) (aA FW.out hb.size) 35;obtain⟨sa,sc,hsv⟩:=(aN o').len;have hb2:Below F0 W x':=(hb.mono FW.out).grown gr (aA FW.out hb.size) fun j hj=>((Bk.dI HO.out hb).lt j hj).1;have vv:dV W.heap.size F0 (aQ #[O U me,J o1 n1 k1,J o2 n2 k2,J o3 n3 k3,J o4 n4 k4,J o5 n5 k5]) rv iq c d c2 d2 lo 8 v' x':=⟨(sa,(lo++[(iq,4,c,d,c2,d2,(V,0,0),(V,0,0))]).length,sc),hsv,o'⟩;have ff:dF W F0 b4 b5 b6 b8 #[O U me,J o1 n1 k1,J o2 n2 k2,J o3 n3 k3,J o4 n4 k4,J o5 n5 k5] c d c2 d2 (fun j=>j=8\/D j) x':=⟨⟨wK H4.out hb2 L4.out,wK H5.out hb2 L5.out,wK H6.out hb2 L6.out⟩,fun h=>absurd (aY rfl) h,fun _=>hb2,fun h=>absurd (h.resolve_left (by decide)) n9⟩;have st:∀ j u,j<11->D j->(fun i=>if i=7 then 8 else 11) j≠8->j≠8->dV W.heap.size F0 (aQ #[O U me,J o1 n1 k1,J o2 n2 k2,J o3 n3 k3,J o4 n4 k4,J o5 n5 k5]) rv iq c d c2 d2 lo j u x->dV W.heap.size F0 (aQ #[O U me,J o1 n1 k1,J o2 n2 k2,J o3 n3 k3,J o4 n4 k4,J o5 n5 k5]) rv iq c d c2 d2 lo j u x':=fun j u hj dj nx ni h=>by
    rcases (by omega:j=0\/j=1\/j=2\/j=3\/j=4\/j=5\/j=6\/j=7\/j=8\/j=9\/j=10) with rfl|rfl|rfl|rfl|rfl|rfl|rfl|rfl|rfl|rfl|rfl
    ·exact h
    ·exact h
    ·exact h
    ·exact h
    ·exact h
    ·exact h
    ·exact h
    ·exact absurd rfl nx
    ·exact absurd rfl ni
    ·exact h
    ·exact absurd dj n10
   have q:=hK v' x' vv ff fun j u hj dj _ nx ni h=>st j u hj dj nx ni h;exact Rg.dD rfl rfl (Rg.fZ a.eval _ (aP 51) (aP 57) 35 rfl e51 rfl r) q
  ·cases ho;have e50:a.eval (aP 50)=aQ #[O U me,J o1 n1 k1,J o2 n2 k2,J o3 n3 k3,J o4 n4 k4,J o5 n5 k5]:=seen.at_ ⟨0,.data⟩ (by simp) rfl (aG (by decide)) _ rfl;have e8:a.eval (aP 8)=aJ (X ⟨b8,0,V⟩):=seen.kp 8 _ (nd 8 (by decide)) rfl;obtain⟨sl,h58,o58⟩:∃ sl:Sl,a.eval (aP 58)=dX sl/\jK x F0 (a.eval (aP 58)) (lo++[(iq,4,c,d,c2,d2,(V,0,0),(V,0,0))]):=seen.at_ ⟨8,.chain⟩ (by simp) rfl (aG (by decide)) _ rfl;have hb:=hF.2.2.1 hnd;have H8x:=wK H8.out hb L8.out;have s4:=dK x b8 (O U me) (J o1 n1 k1) (J o2 n2 k2) (J o3 n3 k3) (J o4 n4 k4) (J o5 n5 k5);have d8:D 8:=hD ⟨8,.chain⟩ (by simp) rfl;have n10:¬ D 10:=fun h=>hnd (hc 10 _ h rfl ⟨9,.chain⟩ (by simp) rfl);have hx:=dL H8x (O U me) (J o1 n1 k1) (J o2 n2 k2) (J o3 n3 k3) (J o4 n4 k4) (J o5 n5 k5);have hy:∀ B,B<=b8->Below B W (gF x b8 (O U me) (J o1 n1 k1) (J o2 n2 k2) (J o3 n3 k3) (J o4 n4 k4) (J o5 n5 k5)):=fun B hB=>dG (hb.mono (Nat.le_of_lt (Nat.lt_of_le_of_lt hB L8.out))) hB _ _ _ _ _ _;have hs:=pG H8x me o1 o2 o3 o4 o5 n1 k1 n2 k2 n3 k3 n4 k4 n5 k5;have so:∀ v l,jK x F0 v l->jK (gF x b8 (O U me) (J o1 n1 k1) (J o2 n2 k2) (J o3 n3 k3) (J o4 n4 k4) (J o5 n5 k5)) F0 v l:=fun v l h=>fP h b8 L8.out _ _ _ _ _ _;generalize gF x b8 (O U me) (J o1 n1 k1) (J o2 n2 k2) (J o3 n3 k3) (J o4 n4 k4) (J o5 n5 k5)=x2 at *;have ff:dF W F0 b4 b5 b6 b8 #[O U me,J o1 n1 k1,J o2 n2 k2,J o3 n3 k3,J o4 n4 k4,J o5 n5 k5] c d c2 d2 (fun j=>j=9\/D j) x2:=⟨⟨(s4 b4 N4.out).trans hF.1.1,(s4 b5 N5.out).trans hF.1.2.1,(s4 b6 N6.out).trans hF.1.2.2⟩,fun h=>absurd (aG d8) h,fun h=>absurd (aY rfl) h,fun _=>⟨hx,fun j hj hne=>(s4 j hne).trans (hb.block j hj),hy⟩⟩;have st:∀ j u,j<11->D j->¬ D ((fun i=>if i=7 then 8 else 11) j)->j≠9->dV W.heap.size F0 (aQ #[O U me,J o1 n1 k1,J o2 n2 k2,J o3 n3 k3,J o4 n4 k4,J o5 n5 k5]) rv iq c d c2 d2 lo j u x->dV W.heap.size F0 (aQ #[O U me,J o1 n1 k1,J o2 n2 k2,J o3 n3 k3,J o4 n4 k4,J o5 n5 k5]) rv iq c d c2 d2 lo j u x2:=fun j u hj dj nl ni h=>by
    rcases (by omega:j=0\/j=1\/j=2\/j=3\/j=4\/j=5\/j=6\/j=7\/j=8\/j=9\/j=10) with rfl|rfl|rfl|rfl|rfl|rfl|rfl|rfl|rfl|rfl|rfl
    ·exact h
    ·exact h
    ·exact h
    ·exact h
    ·exact h
    ·exact h
    ·exact h
    ·exact absurd d8 nl
    ·obtain⟨s,h1,h2⟩:=h;exact⟨s,h1,so _ _ h2⟩
    ·exact h
    ·exact absurd dj n10
   have q:=hK (ah ay) x2 trivial ff fun j u hj dj nl _ ni h=>st j u hj dj nl ni h;have q2:K a x2:=q;exact Rg.fQ 28 (aP 8) (aP 50) rfl rfl rfl rfl e8 e50 hs q2
  ·cases ho;obtain⟨sl,h58,o58⟩:∃ sl:Sl,a.eval (aP 58)=dX sl/\jK x F0 (a.eval (aP 58)) (lo++[(iq,4,c,d,c2,d2,(V,0,0),(V,0,0))]):=seen.at_ ⟨8,.data⟩ (by simp) rfl (aG (by decide)) _ rfl;exact Rg.dD rfl rfl (Rg.kI a.eval _ (aP 58) rfl x) (hK _ _ ⟨sl,h58,o58⟩ (still 10 (by decide) (by decide)) fun _ _ _ _ _ _ _ h=>h)
 ·intro a x df sz kp ⟨vs,hv⟩ ⟨D,hall,hF⟩;obtain⟨sl,h1,h2⟩:=(hv 10 (by omega)).2 (by decide);have g9:a.tmps[9]?=X (dX sl):=by
   rw [<- h1];exact (hv 10 (by omega)).1 9 rfl
  obtain⟨e1,e2,e3⟩:=hF.2.2.2 (hall 9 (by omega));rw [h1] at h2;exact HQ.out a x sl df ((kp 8 (nd 8 (by decide))).trans rfl) g9 e1 h2 e2 e3
end Bk
end Go.Proofs.YtmklifheakemeaaGreat
