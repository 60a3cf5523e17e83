/-
  Copy of package adve. Conditions as told.
-/
import Derived.Test.YtghlpefopidlaaaGreatBQ018
import Derived.Test.YtghlpefopidlaaaGreatBQ019
import Derived.Laws.IdiomCopy
import Derived.Test.YtghlpefopidlaaaGreatBQ017
set_option maxRecDepth 100000
set_option maxHeartbeats 64000000
open _root_.Bool renaming false->aR
open _root_.Go renaming World->aB,Value->aP,TypeId->aT,bodyPost_ret->aX,Addr->bg,Calls->bJ
open Go.Builtin renaming zeroCells->aH,clear_->bf
open Go.Ending renaming returned->aK
open Go.IntKind renaming i64->Z
open Go.Lib renaming hid->O
open Go.Obj renaming cells->aJ
open Go.Proofs.Tryz renaming prog->aQ,results8->bD,func34->bH
open Go.Value renaming slice->J,int->U,pointer->aG,bool->bL,agg->bN
open _root_.List renaming getElem?_toArray->ah,getElem?_cons_zero->ak,getElem?_cons_succ->au,getElem?_eq_getElem->aC,take_of_length_le->aF,mem_of_getElem?->aM,getElem?_eq_some_iff->aN,take_take->aV,map_cons->bC,mem_map->bF,take->bK
open _root_.Nat renaming lt_of_lt_of_le->ay,le_trans->aA,le_refl->aI,le_of_lt->aU,mul_le_mul_right->aW,zero_le->aY,min_eq_left->aZ,add_zero->bG
open _root_.Option renaming none->aj,some->aD
open Option.some renaming inj->aO
open _root_.Or renaming inr->aS,inl->bI
namespace Go.Proofs.YtghlpefopidlaaaGreat.Av
open Go.RowKit Go.Sort Rw YtghlpefopidlaaaGreat.Nm Pr Bk
structure mq (b:Br):Prop where
 dW:∀ a∈b.dW,a.p.length<=900
 ent:∀ a∈b.ent,a.p.length<=900
 own:∀ a∈b.own,a.p.length<=900
theorem fu {α:Type} {E:Ek α} {W:aB} {B n cap:Nat} {o:Option bg} {l:List α} (h:Own E W B (J o n cap) l):l.length=n:=by
 obtain⟨_,_,hv⟩:=(Row.dH h).len;have:n=l.length:=by simpa using congrArg (fun v=>match v with | Value.slice _ n _=>n | _=>0) hv
 exact this.symm
theorem o8 {α:Type} {E:Ek α} {W:aB} {B n cap:Nat} {o:Option bg} {l:List α} (h:Own E W B (J o n cap) l) (hn:0<n):∃ g,o=aD ⟨g,0,aj⟩/\B<=g:=by
 have hl:=fu h;rcases eZ h with⟨_,h2⟩|⟨g,c',cur,h1,h2,_⟩
 ·rw [h2] at hl; simp at hl; omega
 ·exact⟨g,by simp at h1; exact h1.1,h2⟩
theorem eF (w:aB) (b:Nat) (a0 a1 a2 a3 a4 a5:aP):But b w (iY w b a0 a1 a2 a3 a4 a5) :=
 (((dR _ b _ _).trans (dR _ b _ _)).trans ((dR _ b _ _).trans (dR _ b _ _))).trans ((dR _ b _ _).trans (dR _ b _ _))
theorem Cs.done {w0 w wr:aB} {b:Br} {nv sv:Sl} {p2 p4 p5:Option bg} {q2 s2 q4 s4 q5 s5:Nat} (h:Cs w0 w wr b q2 q4 q5 nv (p2,q2,s2) sv (p4,q4,s4) (p5,q5,s5)) (a0 a1 a2 a3 a4 a5:aP):Cp (vw w0) w.heap.size (iY wr (w.heap.size+1) a0 a1 a2 a3 a4 a5) b nv (p2,q2,s2) sv (p4,q4,s4) (p5,q5,s5)/\Below w.heap.size w (iY wr (w.heap.size+1) a0 a1 a2 a3 a4 a5):=by
 obtain⟨l1,d1,d2,d3⟩:=h.dW;obtain⟨l2,e1,e2,e3⟩:=h.ent;obtain⟨l3,f1,f2,f3⟩:=h.own;have n1:l1.length=q2:=fu d1;have n2:l2.length=q4:=fu e1;have n3:l3.length=q5:=fu f1;rw [aF (by omega),aF (by have:=d2.len; omega)] at d3;rw [aF (by omega),aF (by have:=e2.len; omega)] at e3;rw [aF (by omega),aF (by have:=f2.len; omega)] at f3;exact⟨Cp.but ⟨h.near,h.seen,⟨l1,d1,d3⟩,⟨l2,e1,e3⟩,⟨l3,f1,f3⟩⟩ (eF wr (w.heap.size+1) a0 a1 a2 a3 a4 a5) h.bz,dI h.qm (by omega) a0 a1 a2 a3 a4 a5⟩
theorem lg (b:Br) (nv av sv ev ov:Sl) (w0 w:aB) (hw0:Below w0.heap.size w0 w) (h:ny w0 b nv av sv ev ov) (hf:xR b) (hp:mq b) :
  bJ aQ 33 #[mg b.me nv av sv ev ov] w fun e w'=>(∃ nv' Vx Vy ev' Uf:Sl,e=aK (mg b.me nv' Vx Vy ev' Uf)/\Cp (vw w0) w.heap.size w' b nv' Vx Vy ev' Uf)/\Below w.heap.size w w':=by
 obtain⟨no,nn,nc⟩:=nv;obtain⟨ao,an,ac⟩:=av;obtain⟨so,sn,sc⟩:=sv;obtain⟨eo,en,ec⟩:=ev;obtain⟨oo,lK,oc⟩:=ov;obtain⟨la,ha1,ha2⟩:=h.dW;obtain⟨le,he1,he2⟩:=h.ent;obtain⟨Z6,ho1,ho2⟩:=h.own;have HA:=O ha2;have HE:=O he2;have HO:=O ho2;have R0:=O (h.near.on hw0);have R1:=O (ha1.on hw0);have R2:=O (h.seen.on hw0);have R3:=O (he1.on hw0);have R4:=O (ho1.on hw0);have W0:=O hw0;have HP:=O hp;have LL0:=O hf.near;have Z7:=O (show la.length<=900 by rw [ha2.len]; exact hf.dW);have LL2:=O hf.seen;have Z8:=O (show le.length<=900 by rw [he2.len]; exact hf.ent);have Z9:=O (show Z6.length<=900 by rw [ho2.len]; exact hf.own);obtain⟨h0,h1,h2⟩:=jd w #[U Z b.me,J no nn nc,J ao an ac,J so sn sc,J eo en ec,J oo lK oc] #[U Z 0,J aj 0 0,J aj 0 0,J aj 0 0,J aj 0 0,J aj 0 0] 30 30;have B0:=O h0;have XB:=O h1;have ZB:=O h2;clear h0 h1 h2 h hf hp hw0 ha1 ha2 he1 he2 ho1 ho2;go_enter Tryz.func33,Tryz.ntmps33;go_upto_region 1 with fail;generalize (w.alloc (aJ #[U Z b.me,J no nn nc,J ao an ac,J so sn sc,J eo en ec,J oo lK oc] 30)).alloc (aJ #[U Z 0,J aj 0 0,J aj 0 0,J aj 0 0,J aj 0 0,J aj 0 0] 30)=W at *;refine cp1 _ W w.heap.size b.me (J ao an ac) (J eo en ec) (J oo lK oc) no nn nc b.near so sn sc b.seen _ _ _ _ _ _ _ _ _ _ _ _ _ _ _ _ _ _ _ _ _ _ _ _ _ _ _ _ _ _ _ _ _ _ _ _ _ _ _ _ _ _ _ _ _ _ _ _ _ _ _ _ _ _ _ _ _ _ _ _ _ _ _ _ _ _ _ _ _ _ _ _ _ _ _ _ _ _ _ _ _ XB.out (R0.out.on B0.out) (R2.out.on B0.out) LL0.out LL2.out ?_;intro x1 v6 v7 v8 v9 v10 v11 v12 v13 p1 q1 s1 p3 q3 s3 hb1 hn1 hs1 Ma Mc;have B1:=O (B0.out.trans (Ma _ (aI _)));have S1:=O (show W.heap.size<=x1.heap.size from (Ma _ (aI _)).size);have ZB1:=O (show dG x1 (w.heap.size+1) _ _ from (Mc _ ZB.out.lt (by omega)).trans ZB.out);have Zk:=O hb1;have N1:=O (dK hn1 B0.out.size);have J1:=O (dK hs1 B0.out.size);clear hb1 hn1 hs1 Ma Mc XB ZB;go_upto_region 2 with fail;refine cp2 _ x1 w.heap.size b.me (J p1 q1 s1) (J p3 q3 s3) ao an ac la eo en ec le oo lK oc Z6 _ _ _ _ _ _ _ _ _ _ _ _ _ _ _ _ _ _ _ _ _ _ _ _ _ _ _ _ _ _ _ _ _ _ _ _ _ _ _ _ _ _ _ _ _ _ _ _ _ _ _ _ _ _ _ _ _ _ _ _ _ _ _ _ _ _ _ _ _ _ _ _ _ _ _ _ _ _ _ _ _ Zk.out (R1.out.on B1.out) (R3.out.on B1.out) (R4.out.on B1.out) Z7.out Z8.out Z9.out ?_;intro x2 v14 v15 v16 v17 v18 v19 v20 v21 v22 v23 v24 v25 p2 q2 s2 p4 q4 s4 p5 q5 s5 hb2 ha2 he2 ho2 GV Am;have CS:=O (show Cs w0 w x2 b 0 0 0 (p1,q1,s1) (p2,q2,s2) (p3,q3,s3) (p4,q4,s4) (p5,q5,s5) from {
  qm:=B1.out.trans (GV _ (aI _))
  bx:=hb2
  bz:=(Am _ ZB1.out.lt (by omega)).trans ZB1.out
  near:=But.own ⟨Am,(GV _ (aI _)).size⟩ N1.out Zk.out (by decide)
  seen:=But.own ⟨Am,(GV _ (aI _)).size⟩ J1.out Zk.out (by decide)
  dW:=⟨la,dK ha2 B1.out.size,HA.out.mono fun _ _ q=>⟨q.1,q.2.1,bI q.2.2⟩,.nil⟩
  ent:=⟨le,dK he2 B1.out.size,HE.out.mono fun _ _ q=>⟨q.1,q.2.1,q.2.2.1,q.2.2.2.1,bI q.2.2.2.2⟩,.nil⟩
  own:=⟨Z6,dK ho2 B1.out.size,HO.out.mono fun _ _ q=>⟨q.1,bI q.2⟩,.nil⟩ })
 have Q2:=O (show q2<=900 from by rw [<- fu ha2]; exact Z7.out);have Q4:=O (show q4<=900 from by rw [<- fu he2]; exact Z8.out);have Q5:=O (show q5<=900 from by rw [<- fu ho2]; exact Z9.out);clear hb2 ha2 he2 ho2 GV Am Zk ZB1 N1 J1 B1 S1 R0 R1 R2 R3 R4 HA HE HO LL0 Z7 LL2 Z8 Z9 B0;have cf2:=CS.out.bx.cell 2;simp only [ah,ak,au] at cf2;go_wp2
 go_loopw [29] (fun i wr=>∃ k:Nat,k<=q2/\i=U Z k/\Cs w0 w wr b k 0 0 (p1,q1,s1) (p2,q2,s2) (p3,q3,s3) (p4,q4,s4) (p5,q5,s5)) (fun i _=>q2-(intOf i).toNat)
 case atStart=>exact⟨0,aY _,rfl,CS.out⟩
 case round =>
  obtain⟨k,hk,rfl,hcs⟩:=hrel;have CS:=O hcs;have hq:=Q2.out;clear hcs;by_cases hlt:k<q2
  ·obtain⟨l,hl,hA,hV⟩:=CS.out.dW;have hln:l.length=q2:=fu hl;obtain⟨g,rfl,hBg⟩:∃ g,p2=aD ⟨g,0,aj⟩/\w.heap.size<=g:=o8 hl (show 0<q2 by omega);obtain⟨y,hy⟩:∃ y,l[k]?=aD y:=⟨_,aC (by omega)⟩;obtain⟨a,ha⟩:∃ a,b.dW[k]?=aD a:=⟨_,aC (by have h:=hA.len; have h2:l.length=q2:=hln; omega)⟩;obtain⟨y',hy',hym⟩:=hA.at k a ha;rw [hy] at hy';obtain rfl:=aO hy';obtain⟨y1,y2,⟨yo,yn,yc⟩,y4⟩:=y;have HW:=O hl;have Ru:=O hA;have Rv:=O hV;have xK:=O hym;have Md:=O hy;have GY:=O ha;have Rx:=O hBg;have hw3:IntKind.i64.wrap ((k:Int)+1)=(k:Int)+1:=IntWalk.i64_in _ (by omega);clear hl hA hV hln hy ha hy' hym hBg cf2;go_upto_region 6 with fail;refine cp6 _ wr w.heap.size l w.heap.size b.me (J p1 q1 s1) (J p3 q3 s3) (J p4 q4 s4) (J p5 q5 s5) g q2 s2 k y1 y2 yo yn yc y4 a.p _ _ _ _ _ _ _ _ _ _ _ _ _ _ _ _ _ _ _ _ _ _ _ _ _ _ _ _ _ _ _ _ _ _ _ _ _ _ _ _ _ _ _ _ _ _ _ _ _ _ _ _ _ _ _ _ _ _ _ _ _ _ _ _ _ _ _ _ _ _ _ _ _ _ _ _ _ _ _ _ CS.out.bx HW.out Md.out (xK.out.2.2.row (W0.out.trans (CS.out.qm.mono W0.out.size))) (HP.out.dW a (aM GY.out)) ?_;intro x v32 v33 v34 v35 v36 v37 v38 v39 v40 v41 t1 t2 t3 hC hO rF hBel;have WB:=O (show Cs w0 w x b (k+1) 0 0 (p1,q1,s1) (aD ⟨g,0,aj⟩,q2,s2) (p3,q3,s3) (p4,q4,s4) (p5,q5,s5) from by
    obtain⟨cur,hg⟩:=iD HW.out;exact CS.out.Lm HW.out hO rF (CS.out.qm.trans (hBel _ Rx.out CS.out.qm.size)) (eT.set k _ a (Ru.out.mono fun _ _ q=>q.but rF hg (by decide)) GY.out ⟨xK.out.1,xK.out.2.1,aS (dK hC CS.out.qm.size)⟩) (sJ (Rv.out.mono fun _ _ q=>q.but rF hg (by decide)) (aN.1 Md.out).1 GY.out ⟨xK.out.1,xK.out.2.1,aS (dK hC CS.out.qm.size)⟩))
   clear hC hO rF hBel CS HW Ru Rv xK Md GY Rx;go_wp2
   go_roundw
   case rel=>exact⟨k+1,by omega,by go_num,WB.out⟩
   case measure=>simp [intOf]; omega
  ·obtain rfl:q2=k:=by omega
   have cf4:=CS.out.bx.cell 4;simp only [ah,ak,au] at cf4;clear hlt;go_wp2
   go_loopw [46] (fun i wr=>∃ k:Nat,k<=q4/\i=U Z k/\Cs w0 w wr b q2 k 0 (p1,q1,s1) (p2,q2,s2) (p3,q3,s3) (p4,q4,s4) (p5,q5,s5)) (fun i _=>q4-(intOf i).toNat)
   case atStart=>exact⟨0,aY _,rfl,CS.out⟩
   case round =>
    obtain⟨k,hk,rfl,hcs⟩:=hrel;have CS:=O hcs;have hq:=Q4.out;clear hcs;by_cases hlt:k<q4
    ·obtain⟨l,hl,hA,hV⟩:=CS.out.ent;have hln:l.length=q4:=fu hl;obtain⟨g,rfl,hBg⟩:∃ g,p4=aD ⟨g,0,aj⟩/\w.heap.size<=g:=o8 hl (show 0<q4 by omega);obtain⟨y,hy⟩:∃ y,l[k]?=aD y:=⟨_,aC (by omega)⟩;obtain⟨a,ha⟩:∃ a,b.ent[k]?=aD a:=⟨_,aC (by have h:=hA.len; have h2:l.length=q4:=hln; omega)⟩;obtain⟨y',hy',hym⟩:=hA.at k a ha;rw [hy] at hy';obtain rfl:=aO hy';obtain⟨y1,y2,y3,y4,⟨yo,yn,yc⟩,y6,y7⟩:=y;have HW:=O hl;have Ru:=O hA;have Rv:=O hV;have xK:=O hym;have Md:=O hy;have GY:=O ha;have Rx:=O hBg;have hw3:IntKind.i64.wrap ((k:Int)+1)=(k:Int)+1:=IntWalk.i64_in _ (by omega);clear hl hA hV hln hy ha hy' hym hBg cf4;go_upto_region 11 with fail;refine ZX _ wr w.heap.size l w.heap.size b.me (J p1 q1 s1) (J p2 q2 s2) (J p3 q3 s3) (J p5 q5 s5) g q4 s4 k y1 y2 y3 y4 yo yn yc y6 y7 a.p _ _ _ _ _ _ _ _ _ _ _ _ _ _ _ _ _ _ _ _ _ _ _ _ _ _ _ _ _ _ _ _ _ _ _ _ _ _ _ _ _ _ _ _ _ _ _ _ _ _ _ _ _ _ _ _ _ _ _ _ _ _ _ _ _ _ _ _ _ _ _ _ _ _ _ _ _ _ _ _ CS.out.bx HW.out Md.out (xK.out.2.2.2.2.row (W0.out.trans (CS.out.qm.mono W0.out.size))) (HP.out.ent a (aM GY.out)) ?_;intro x v49 v50 v51 v52 v53 v54 v55 v56 v57 v58 v59 v60 t1 t2 t3 hC hO rF hBel;have WB:=O (show Cs w0 w x b q2 (k+1) 0 (p1,q1,s1) (p2,q2,s2) (p3,q3,s3) (aD ⟨g,0,aj⟩,q4,s4) (p5,q5,s5) from by
      obtain⟨cur,hg⟩:=iD HW.out;exact CS.out.ZN HW.out hO rF (CS.out.qm.trans (hBel _ Rx.out CS.out.qm.size)) (eT.set k _ a (Ru.out.mono fun _ _ q=>q.but rF hg (by decide)) GY.out ⟨xK.out.1,xK.out.2.1,xK.out.2.2.1,xK.out.2.2.2.1,aS (dK hC CS.out.qm.size)⟩) (sJ (Rv.out.mono fun _ _ q=>q.but rF hg (by decide)) (aN.1 Md.out).1 GY.out ⟨xK.out.1,xK.out.2.1,xK.out.2.2.1,xK.out.2.2.2.1,aS (dK hC CS.out.qm.size)⟩))
     clear hC hO rF hBel CS HW Ru Rv xK Md GY Rx;go_wp2
     go_roundw
     case rel=>exact⟨k+1,by omega,by go_num,WB.out⟩
     case measure=>simp [intOf]; omega
    ·obtain rfl:q4=k:=by omega
     have cf5:=CS.out.bx.cell 5;simp only [ah,ak,au] at cf5;clear hlt;go_wp2
     go_loopw [65] (fun i wr=>∃ k:Nat,k<=q5/\i=U Z k/\Cs w0 w wr b q2 q4 k (p1,q1,s1) (p2,q2,s2) (p3,q3,s3) (p4,q4,s4) (p5,q5,s5)) (fun i _=>q5-(intOf i).toNat)
     case atStart=>exact⟨0,aY _,rfl,CS.out⟩
     case round =>
      obtain⟨k,hk,rfl,hcs⟩:=hrel;have CS:=O hcs;have hq:=Q5.out;clear hcs;by_cases hlt:k<q5
      ·obtain⟨l,hl,hA,hV⟩:=CS.out.own;have hln:l.length=q5:=fu hl;obtain⟨g,rfl,hBg⟩:∃ g,p5=aD ⟨g,0,aj⟩/\w.heap.size<=g:=o8 hl (show 0<q5 by omega);obtain⟨y,hy⟩:∃ y,l[k]?=aD y:=⟨_,aC (by omega)⟩;obtain⟨a,ha⟩:∃ a,b.own[k]?=aD a:=⟨_,aC (by have h:=hA.len; have h2:l.length=q5:=hln; omega)⟩;obtain⟨y',hy',hym⟩:=hA.at k a ha;rw [hy] at hy';obtain rfl:=aO hy';obtain⟨y1,y2,⟨yo,yn,yc⟩⟩:=y;have HW:=O hl;have Ru:=O hA;have Rv:=O hV;have xK:=O hym;have Md:=O hy;have GY:=O ha;have Rx:=O hBg;have hw3:IntKind.i64.wrap ((k:Int)+1)=(k:Int)+1:=IntWalk.i64_in _ (by omega);clear hl hA hV hln hy ha hy' hym hBg cf5;go_upto_region 16 with fail;refine Z5 _ wr w.heap.size l w.heap.size b.me (J p1 q1 s1) (J p2 q2 s2) (J p3 q3 s3) (J p4 q4 s4) g q5 s5 k y1 y2 yo yn yc a.p _ _ _ _ _ _ _ _ _ _ _ _ _ _ _ _ _ _ _ _ _ _ _ _ _ _ _ _ _ _ _ _ _ _ _ _ _ _ _ _ _ _ _ _ _ _ _ _ _ _ _ _ _ _ _ _ _ _ _ _ _ _ _ _ _ _ _ _ _ _ _ _ _ _ _ _ _ _ _ _ CS.out.bx HW.out Md.out (xK.out.2.row (W0.out.trans (CS.out.qm.mono W0.out.size))) (HP.out.own a (aM GY.out)) ?_;intro x v68 v69 v70 v71 v72 v73 v74 v75 v76 v77 v78 v79 t1 t2 t3 hC hO rF hBel;have WB:=O (show Cs w0 w x b q2 q4 (k+1) (p1,q1,s1) (p2,q2,s2) (p3,q3,s3) (p4,q4,s4) (aD ⟨g,0,aj⟩,q5,s5) from by
        obtain⟨cur,hg⟩:=iD HW.out;exact CS.out.setW HW.out hO rF (CS.out.qm.trans (hBel _ Rx.out CS.out.qm.size)) (eT.set k _ a (Ru.out.mono fun _ _ q=>q.but rF hg (by decide)) GY.out ⟨xK.out.1,aS (dK hC CS.out.qm.size)⟩) (sJ (Rv.out.mono fun _ _ q=>q.but rF hg (by decide)) (aN.1 Md.out).1 GY.out ⟨xK.out.1,aS (dK hC CS.out.qm.size)⟩))
       clear hC hO rF hBel CS HW Ru Rv xK Md GY Rx;go_wp2
       go_roundw
       case rel=>exact⟨k+1,by omega,by go_num,WB.out⟩
       case measure=>simp [intOf]; omega
      ·obtain rfl:q5=k:=by omega
       have X1:=CS.out.bx;have Z1:=CS.out.bz;obtain⟨x0,x1,x2,x3,x4,x5⟩:=X1.ig;obtain⟨r0,r1,r2,r3,r4,r5⟩:=Z1.ig;obtain⟨t0,t1,t2,t3,t4,t5⟩:=Z1.oJ;have zz:=Z1.lt;have FB:=O (dX Z1 (U Z b.me) (J p1 q1 s1) (J p2 q2 s2) (J p3 q3 s3) (J p4 q4 s4) (J p5 q5 s5));have FD:=O (CS.out.done (U Z b.me) (J p1 q1 s1) (J p2 q2 s2) (J p3 q3 s3) (J p4 q4 s4) (J p5 q5 s5));clear X1 Z1 CS;go_wp2_with fail;obtain⟨v0,v1,v2,v3,v4,v5⟩:=FB.out.ig;refine aX (v:=bN #[U Z b.me,J p1 q1 s1,J p2 q2 s2,J p3 q3 s3,J p4 q4 s4,J p5 q5 s5]) (by simp [results,Tryz.results33,go_sem,v0,v1,v2,v3,v4,v5]) rfl ?_;exact⟨⟨(p1,q1,s1),(p2,q2,s2),(p3,q3,s3),(p4,q4,s4),(p5,q5,s5),rfl,FD.out.1⟩,FD.out.2⟩
theorem Jh (l:List dV) (y:dV):eG qp l y<=l.length:=by
 rw [gu];exact aA (nC _ _) (by simp)
theorem Me (B:Nat) (v:Sl) (l:List dV) (x:dV) (w:aB) (ho:Own EJ w B (dQ v) l) (hr:iN qp l) (hl:l.length<=900) (hB:B<=w.heap.size) :
  bJ aQ 37 #[dQ v,oK x,.func (.func 38) #[] #[]] w fun e w'=>(∃ v':Sl,e=aK (dQ v')/\Own EJ w' B (dQ v') (eY l (eG qp l (qp x)) x))/\Below B w w'/\(∀ j,j<w.heap.size->aD j≠(dQ v).ownBlock->w'.heap[j]?=w.heap[j]?):=by
 have h0:=jk w (aJ #[U Z x.1,U Z x.2] 23);have X:=dO w #[U Z x.1,U Z x.2] 23;have C:=O (Qi (dQ v) l x _ ((Row.dH ho).on h0) hr hl);obtain⟨ks,hks⟩:∃ k,k=eG qp l (qp x):=⟨_,rfl⟩;have KL:ks<=l.length:=by rw [hks]; exact Jh _ _
 rw [<- hks] at C;rw [<- hks];generalize fO qp l (qp x)=th at *;have OW:=O (Bk.dL ho h0);have HV:=O (show (dQ v).ownBlock≠aj->∃ g,(dQ v).ownBlock=aD g/\g<w.heap.size from fun hne=>by
  cases hb:(dQ v).ownBlock with
  | none=>exact absurd hb hne
  | some g=>exact⟨g,rfl,(ho.lt g hb).2⟩)
 have B0:=O ((Below.refl B w).alloc hB (aJ #[U Z x.1,U Z x.2] 23));have Kn:=O h0;have KK:=O KL;have LL:=O hl;have BB:=O hB;clear h0 ho hr hl hB hks KL;obtain⟨c1,c2⟩:=x;obtain⟨vo,vn,vc⟩:=v;simp only at C X;obtain⟨x0,x1⟩:=X.cs2;have XX:=O X;clear X;go_enter Tryz.func37,Tryz.ntmps37;go_wp2_with fail;have W1:=O (show w.heap.size<=(w.alloc (aJ #[U Z c1,U Z c2] 23)).heap.size by simp);generalize w.alloc (aJ #[U Z c1,U Z c2] 23)=W at *;refine C.out.mono ?_;rintro e w1 ⟨rfl,hb⟩;have Y:=XX.out.on hb;obtain⟨y0,y1⟩:=Y.cs2;have O1:=O (Bk.dL OW.out hb);have B1:=O (B0.out.trans (hb.mono (aA BB.out W1.out)));have BW:=O (fun j (hj:j<w.heap.size)=>(hb.block j (ay hj W1.out)).trans (Kn.out.block j hj));have S1:=O (aA W1.out hb.size);clear C Y hb x0 x1;go_wp2_with fail;have hl:=LL.out;have NB:=jk w1 (aJ #[U Z c1,U Z c2] 23);refine (Cw B _ l ks (c1,c2) w1.heap.size _ (Bk.dL O1.out NB) (dO w1 #[U Z c1,U Z c2] 23) ?_ KK.out (by omega) (aA (aA BB.out S1.out) NB.size)).mono ?_
 ·intro he;obtain⟨g,hg,hlt⟩:=HV.out (by rw [he]; simp);rw [he] at hg;have:=aO hg;have:=S1.out;omega
 rintro e w2 ⟨v',rfl,ho,hb,hoth⟩;obtain⟨a1,a2,hv⟩:=(Row.dH ho).len;have Q:=O (show (∃ v'':Sl,aK v'=aK (dQ v'')/\Own EJ w2 B (dQ v'') (eY l ks (c1,c2)))/\Below B w w2/\(∀ j,j<w.heap.size->aD j≠(dQ (vo,vn,vc)).ownBlock->w2.heap[j]?=w.heap[j]?) from ⟨⟨(a1,_,a2),by rw [hv],by subst hv; simpa [eY] using ho⟩,(B1.out.trans (NB.mono (aA BB.out S1.out))).trans hb,fun j hj hne=>(hoth j (ay (ay hj S1.out) NB.size) hne).trans ((NB.block j (ay hj S1.out)).trans (BW.out j hj))⟩);clear ho hb hv hl NB;go_wp2;go_ret;exact Q.out
theorem Ji (l:List jS) (y:dV):eG nZ l y<=l.length:=by
 rw [gu];exact aA (nC _ _) (by simp)
theorem Mf (B:Nat) (v:Sl) (l:List jS) (x:jS) (w:aB) (ho:Own ED w B (dQ v) l) (hr:iN nZ l) (hl:l.length<=900) (hB:B<=w.heap.size) :
  bJ aQ 34 #[dQ v,lJ x,.func (.func 36) #[] #[]] w fun e w'=>(∃ v':Sl,e=aK (dQ v')/\Own ED w' B (dQ v') (eY l (eG nZ l (nZ x)) x))/\Below B w w'/\(∀ j,j<w.heap.size->aD j≠(dQ v).ownBlock->w'.heap[j]?=w.heap[j]?):=by
 have h0:=jk w (aJ #[U Z x.1,U Z x.2.1,dQ x.2.2.1,U Z x.2.2.2] 36);have X:=dO w #[U Z x.1,U Z x.2.1,dQ x.2.2.1,U Z x.2.2.2] 36;have C:=O (Qj (dQ v) l x _ ((Row.dH ho).on h0) hr hl);obtain⟨ks,hks⟩:∃ k,k=eG nZ l (nZ x):=⟨_,rfl⟩;have KL:ks<=l.length:=by rw [hks]; exact Ji _ _
 have e1:nZ x=(x.1,x.2.1):=rfl;rw [<- e1] at C;rw [<- hks] at C;rw [<- hks];generalize fO nZ l (nZ x)=th at *;have OW:=O (Bk.dL ho h0);have HV:=O (show (dQ v).ownBlock≠aj->∃ g,(dQ v).ownBlock=aD g/\g<w.heap.size from fun hne=>by
  cases hb:(dQ v).ownBlock with
  | none=>exact absurd hb hne
  | some g=>exact⟨g,rfl,(ho.lt g hb).2⟩)
 have B0:=O ((Below.refl B w).alloc hB (aJ #[U Z x.1,U Z x.2.1,dQ x.2.2.1,U Z x.2.2.2] 36));have Kn:=O h0;have KK:=O KL;have LL:=O hl;have BB:=O hB;clear h0 ho hr hl hB hks KL;obtain⟨c1,c2,⟨c3,c4,c5⟩,c6⟩:=x;obtain⟨vo,vn,vc⟩:=v;simp only at C X;obtain⟨x0,x1,x2,x3⟩:=X.Gq;have XX:=O X;clear X;go_enter bH,Tryz.ntmps34;go_wp2_with fail;have W1:=O (show w.heap.size<=(w.alloc (aJ #[U Z c1,U Z c2,J c3 c4 c5,U Z c6] 36)).heap.size by simp);generalize w.alloc (aJ #[U Z c1,U Z c2,J c3 c4 c5,U Z c6] 36)=W at *;refine C.out.mono ?_;rintro e w1 ⟨rfl,hb⟩;have Y:=XX.out.on hb;obtain⟨y0,y1,y2,y3⟩:=Y.Gq;have O1:=O (Bk.dL OW.out hb);have B1:=O (B0.out.trans (hb.mono (aA BB.out W1.out)));have BW:=O (fun j (hj:j<w.heap.size)=>(hb.block j (ay hj W1.out)).trans (Kn.out.block j hj));have S1:=O (aA W1.out hb.size);clear C Y hb x0 x1 x2 x3;go_wp2_with fail;have hl:=LL.out;have NB:=jk w1 (aJ #[U Z c1,U Z c2,J c3 c4 c5,U Z c6] 36);refine (Cr B _ l ks (c1,c2,(c3,c4,c5),c6) w1.heap.size _ (Bk.dL O1.out NB) (dO w1 #[U Z c1,U Z c2,J c3 c4 c5,U Z c6] 36) ?_ KK.out (by omega) (aA (aA BB.out S1.out) NB.size)).mono ?_
 ·intro he;obtain⟨g,hg,hlt⟩:=HV.out (by rw [he]; simp);rw [he] at hg;have:=aO hg;have:=S1.out;omega
 rintro e w2 ⟨v',rfl,ho,hb,hoth⟩;obtain⟨a1,a2,hv⟩:=(Row.dH ho).len;have Q:=O (show (∃ v'':Sl,aK v'=aK (dQ v'')/\Own ED w2 B (dQ v'') (eY l ks (c1,c2,(c3,c4,c5),c6)))/\Below B w w2/\(∀ j,j<w.heap.size->aD j≠(dQ (vo,vn,vc)).ownBlock->w2.heap[j]?=w.heap[j]?) from ⟨⟨(a1,_,a2),by rw [hv],by subst hv; simpa [eY] using ho⟩,(B1.out.trans (NB.mono (aA BB.out S1.out))).trans hb,fun j hj hne=>(hoth j (ay (ay hj S1.out) NB.size) hne).trans ((NB.block j (ay hj S1.out)).trans (BW.out j hj))⟩);clear ho hb hv hl NB;go_wp2;go_ret;exact Q.out
def Off (ob:Option Nat) (W x:aB):Prop:=(∀ j,j<W.heap.size->aD j≠ob->x.heap[j]?=W.heap[j]?)/\W.heap.size<=x.heap.size
def Tag (ob:Option Nat) (W:aB) (t:aT):Prop:=∀ g,ob=aD g->∃ d,dG W g d t
theorem gV {α:Type} {E:Ek α} {W:aB} {B:Nat} {v:aP} {l:List α} (h:Own E W B v l):Tag v.ownBlock W E.t:=by
 intro g hg;rcases eZ h with⟨rfl,_⟩|⟨g',c',cur,rfl,_,h2,_⟩
 ·cases hg
 ·obtain rfl:g'=g:=by simpa [Value.ownBlock] using hg
  exact⟨cur,h2⟩
theorem Off.own {α:Type} {E:Ek α} {ob:Option Nat} {W x:aB} {B:Nat} {v:aP} {l:List α} {t:aT} (h:Off ob W x) (ho:Own E W B v l) (hg:Tag ob W t) (hne:(E.t == t)=aR):Own E x B v l:=by
 refine⟨ho.1,?_⟩;rcases ho.2 with h2|⟨g',cap,cur,h1,h2,h3,h4⟩
 ·exact bI h2
 ·refine aS ⟨g',cap,cur,h1,h2,?_,h4⟩;rw [h.1 g' (lt_of_heap h3) fun e=>by
   obtain⟨d,hd⟩:=hg g' e.symm;exact jG (show dG W g' cur E.t from h3) hd hne rfl]
  exact h3
theorem Off.box {ob:Option Nat} {W x:aB} {b:Nat} {cs:Array aP} {s t:aT} (h:Off ob W x) (hb:dG W b cs s) (hg:Tag ob W t) (hne:(s == t)=aR):dG x b cs s:=(h.1 b hb.lt fun e=>by
 obtain⟨d,hd⟩:=hg b e.symm;exact jG hb hd hne rfl).trans hb
theorem PM.off {w0 wr x:aB} {B:Nat} {v:aP} {p:List C5} {ob:Option Nat} {t:aT} (h:PM w0 B wr v p) (hb:Off ob wr x) (hg:Tag ob wr t) (hne:(91 == t)=aR):PM w0 B x v p:=h.imp id fun h=>hb.own h hg hne
theorem Ee.off {w0 wr x:aB} {B:Nat} {y:jS} {a:Ad} {ob:Option Nat} {t:aT} (h:Ee w0 B wr y a) (hb:Off ob wr x) (hg:Tag ob wr t) (hne:(91 == t)=aR):Ee w0 B x y a:=⟨h.1,h.2.1,h.2.2.off hb hg hne⟩
theorem nO.off {w0 wr x:aB} {B:Nat} {y:jl} {a:En} {ob:Option Nat} {t:aT} (h:nO w0 B wr y a) (hb:Off ob wr x) (hg:Tag ob wr t) (hne:(91 == t)=aR):nO w0 B x y a:=⟨h.1,h.2.1,h.2.2.1,h.2.2.2.1,h.2.2.2.2.off hb hg hne⟩
theorem EM.off {w0 wr x:aB} {B:Nat} {y:lZ} {a:Ow} {ob:Option Nat} {t:aT} (h:EM w0 B wr y a) (hb:Off ob wr x) (hg:Tag ob wr t) (hne:(91 == t)=aR):EM w0 B x y a:=⟨h.1,h.2.off hb hg hne⟩
theorem Cp.aad {w0 wr x:aB} {B:Nat} {b:Br} {nv av sv ev ov Vx:Sl} {al:List Ad} (h:Cp w0 B wr b nv av sv ev ov) (hb:Off (dQ av).ownBlock wr x) (hx:∃ l,qJ x B (dQ Vx) l/\eT (Ee w0 B x) l al):Cp w0 B x { b with dW:=al } nv Vx sv ev ov:=by
 obtain⟨l0,hl0,_⟩:=h.dW;have hg:=gV hl0;exact {
  near:=hb.own h.near hg (by decide)
  seen:=hb.own h.seen hg (by decide)
  dW:=hx
  ent:=by obtain⟨l,h1,h2⟩:=h.ent; exact⟨l,hb.own h1 hg (by decide),h2.mono fun _ _ h=>h.off hb hg (by decide)⟩
  own:=by obtain⟨l,h1,h2⟩:=h.own; exact⟨l,hb.own h1 hg (by decide),h2.mono fun _ _ h=>h.off hb hg (by decide)⟩ }
theorem Cp.Qk {w0 wr x:aB} {B:Nat} {b:Br} {nv av sv ev ov ev':Sl} {el:List En} (h:Cp w0 B wr b nv av sv ev ov) (hb:Off (dQ ev).ownBlock wr x) (hx:∃ l,jM x B (dQ ev') l/\eT (nO w0 B x) l el):Cp w0 B x { b with ent:=el } nv av sv ev' ov:=by
 obtain⟨l0,hl0,_⟩:=h.ent;have hg:=gV hl0;exact {
  near:=hb.own h.near hg (by decide)
  seen:=hb.own h.seen hg (by decide)
  dW:=by obtain⟨l,h1,h2⟩:=h.dW; exact⟨l,hb.own h1 hg (by decide),h2.mono fun _ _ h=>h.off hb hg (by decide)⟩
  ent:=hx
  own:=by obtain⟨l,h1,h2⟩:=h.own; exact⟨l,hb.own h1 hg (by decide),h2.mono fun _ _ h=>h.off hb hg (by decide)⟩ }
theorem Cp.aae {w0 wr x:aB} {B:Nat} {b:Br} {nv av sv ev ov Vy:Sl} {sl:List dV} (h:Cp w0 B wr b nv av sv ev ov) (hb:Off (dQ sv).ownBlock wr x) (hx:Ca x B (dQ Vy) sl):Cp w0 B x { b with seen:=sl } nv av Vy ev ov:=by
 have hg:=gV h.seen;exact {
  near:=hb.own h.near hg (by decide)
  seen:=hx
  dW:=by obtain⟨l,h1,h2⟩:=h.dW; exact⟨l,hb.own h1 hg (by decide),h2.mono fun _ _ h=>h.off hb hg (by decide)⟩
  ent:=by obtain⟨l,h1,h2⟩:=h.ent; exact⟨l,hb.own h1 hg (by decide),h2.mono fun _ _ h=>h.off hb hg (by decide)⟩
  own:=by obtain⟨l,h1,h2⟩:=h.own; exact⟨l,hb.own h1 hg (by decide),h2.mono fun _ _ h=>h.off hb hg (by decide)⟩ }
theorem rG {α β:Type} {R:α->β->Prop} {l:List α} {m:List β} (h:eT R l m) (k:Nat) {a:α} {b:β} (hr:R a b):eT R (eY l k a) (eY m k b) :=
 ((h.take k).append (.cons hr .nil)).append (h.drop k)
theorem keys_eq {w0 wr:aB} {B:Nat}:∀ {l:List jS} {al:List Ad},eT (Ee w0 B wr) l al->l.map nZ=al.map Ad.id
 | _,_,.nil=>rfl
 | _,_,.cons h t=>by rw [bC,bC,keys_eq t]; exact congrArg (·::_) h.1
theorem yR {α:Type} (key:α->dV) (l:List α):iN key l↔iN (fun x:dV=>x) (l.map key):=by
 unfold iN;rw [List.pairwise_map]
theorem rH {g:Nat} {t:aT}:∀ (vs:List aP) (o:Nat) (w:aB) (cur:Array aP),dG w g cur t->∃ cur',dG (w.setCells g o vs) g cur' t/\cur'.size=cur.size/\cur'.toList.take o=cur.toList.take o
 | [],o,w,cur,h=>⟨cur,h,rfl,rfl⟩
 | v::r,o,w,cur,h=>by
  obtain⟨cur',h1,h2,h3⟩:=rH r (o+1) (w.setCell ⟨g,o,aj⟩ v) _ (eu (k:=o) h v);refine⟨cur',h1,by rw [h2]; simp,?_⟩;have h4:=congrArg (bK o) h3;rw [aV,aV,aZ (by omega)] at h4;rw [h4,Array.toList_setIfInBounds,List.take_set_of_le (aI _)]
theorem rJ (g:Nat):∀ (vs:List aP) (o:Nat) (w:aB),But g w (w.setCells g o vs)
 | [],_,_w=>⟨fun _ _ _=>rfl,aI _⟩
 | v::r,o,w=>(dR w g o v).trans (rJ g r (o+1) _)
theorem below_setCells {B g:Nat} (hB:B<=g):∀ (vs:List aP) (o:Nat) (W w:aB),Below B W w->Below B W (w.setCells g o vs)
 | [],_,_,_,h=>h
 | v::r,o,W,_w,h=>below_setCells hB r (o+1) W _ (h.setCell (p:=⟨g,o,aj⟩) hB v)
theorem yS {α:Type} {E:Ek α} (K:E.Ok) (hz:∀ v∈E.z.cells.toList,v.oneCell'=true) {W:aB} {B g n cap i:Nat} {L:List α} (h:Own E W B (J (aD ⟨g,0,aj⟩) n cap) L) (hi:i<n) (ty:aT) :
  ∃ W',(bf #[E.ts] ty #[J (aD ⟨g,i * E.n,aj⟩) (n-i) (cap-i)]).run aQ W=.ok (.tuple #[]) W'/\Own E W' B (J (aD ⟨g,0,aj⟩) i cap) (L.take i)/\But g W W'/\(∀ B' W0,B'<=g->Below B' W0 W->Below B' W0 W'):=by
 have hln:=fu h;rcases eZ h with⟨h1,_⟩|⟨g',cap',cur,h1,h2,h3,h4,h5,h6,h7⟩
 ·cases h1
 ·obtain⟨rfl,_,rfl⟩:g=g'/\n=L.length/\cap=cap':=by simpa using h1
  have hzs:(aH E.z.cells (n-i)).toList.length=(n-i) * E.n:=by simp [aH,K.zs]
  have h10:i * E.n+(n-i) * E.n=n * E.n:=by rw [<- Nat.add_mul,Nat.add_sub_cancel' (aU hi)]
  have h11:n * E.n<=cap * E.n:=aW _ (by omega);have hone:∀ v∈(aH E.z.cells (n-i)).toList,v.oneCell'=true:=by
   intro v hv;simp only [aH,Array.toList_map,bF] at hv;obtain⟨j,_,rfl⟩:=hv;have hp:=K.pos;have hlt:j % E.z.cells.size<E.z.cells.size:=Nat.mod_lt _ (by rw [K.zs]; exact hp);refine hz _ ?_;rw [getElem!_pos E.z.cells (j % E.z.cells.size) hlt,Array.mem_toList_iff];exact Array.getElem_mem hlt
  have hst:=run_storeCells_cells (P:=aQ) g (i * E.n) (aH E.z.cells (n-i)).toList 0 W (by
   intro j hj;rw [hzs] at hj;rw [bG,h3.cell];have:i * E.n+j<cur.size:=by rw [h6]; omega
   simp [this]) (fun j _=>h3.fr _) hone
  rw [bG] at hst;obtain⟨ii,i1,i2,i3,i4⟩:=K.info;obtain⟨cur',c1,c2,c3⟩:=rH (aH E.z.cells (n-i)).toList (i * E.n) W cur h3;refine⟨W.setCells g (i * E.n) (aH E.z.cells (n-i)).toList,?_,?_,rJ _ _ _ _,fun B' W0 hB hb=>below_setCells hB _ _ _ _ hb⟩
  ·obtain⟨m,hm⟩:∃ m,n-i=m+1:=⟨n-i-1,by omega⟩;rw [hm] at hst ⊢;have hv:∀ w,(zeroValue E.t).run aQ w=.ok E.z w:=fun w=>by simp [go_sem,zeroValue,typeInfo,i1,i2]
   simp [bf,run_underlying K.hu,hv,hst]
  ·refine kD K (by rw [List.length_take]; omega) h2 c1 (by omega) h5 (by rw [c2]; exact h6) ?_;rw [c3];have h8:=congrArg (bK (i * E.n)) h7;rw [aV,kX K,aZ (by rw [<- hln] at hi; exact aW _ (aU hi))] at h8;exact h8
theorem Jj {α:Type} {key:α->dV} {l:List α} {x:dV} (h:fH (l.map key) x=-1):∀ (j:Nat) (y:α),l[j]?=aD y->key y≠x:=by
 intro j y hj hy;have h1:=Cc (l.map key) x;rw [h] at h1;have:x∈l.map key:=bF.2 ⟨y,aM hj,hy⟩;simp [this] at h1
theorem yT:∀ {l:List dV} {x:dV} {k:Nat},fH l x=k->l[k]?=aD x/\∀ (j:Nat) (y:dV),j<k->l[j]?=aD y->y≠x
 | [],x,k,h=>by simp [fH] at h <;> omega
 | a::l,x,k,h=>by
  unfold fH at h;by_cases hax:a=x
  ·rw [if_pos hax] at h;obtain rfl:k=0:=by omega
   exact⟨by simpa using hax,fun j y hj=>by omega⟩
  ·rw [if_neg hax] at h;by_cases h2:fH l x=-1
   ·rw [if_pos h2] at h; omega
   ·rw [if_neg h2] at h;cases k with
    | zero=>have:=ru l x; omega
    | succ k =>
     obtain⟨h3,h4⟩:=yT (l:=l) (x:=x) (k:=k) (by omega);refine⟨by simpa using h3,fun j y hj hy=>?_⟩;cases j with
     | zero =>
      obtain rfl:a=y:=by simpa using hy
      exact hax
     | succ j=>exact h4 j y (by omega) (by simpa using hy)
def G9 (B:Nat) (b1 _b2:Nat) (_me:Int) (_z1:aP) (o2:Option bg) (n2 c2:Nat) (_z3 _z4 _z5:aP) (y1 y2:Int) (yo:Option bg) (yn yc:Nat) (y4:Int) (p:List C5) (i:Nat) (v:aP) (x:aB):Prop :=
 match i with
 | 0=>v=aG (aD ⟨b1,2,aj⟩)
 | 1=>v=J o2 n2 c2
 | 2=>v=bN #[U Z y1,U Z y2,J yo yn yc,U Z y4]
 | 3=>∃ s:Sl,v=lJ (y1,y2,s,y4)/\iE x B (dQ s) p
 | _=>True
noncomputable def Ry:Code:=((Tryz.f8.body.bind (eU 4)).getD .skip)
theorem Mg (B:Nat) (b1 b2:Nat) (me:Int) (z1:aP) (o2:Option bg) (n2 c2:Nat) (z3 z4 z5:aP) (y1 y2:Int) (yo:Option bg) (yn yc:Nat) (y4:Int) (p:List C5) (i:Nat) (v:aP) (x x':aB) (h:G9 B b1 b2 me z1 o2 n2 c2 z3 z4 z5 y1 y2 yo yn yc y4 p i v x) (hb:Below x.heap.size x x'):G9 B b1 b2 me z1 o2 n2 c2 z3 z4 z5 y1 y2 yo yn yc y4 p i v x':=by
 by_cases hi:i<4
 ·rcases (by omega:i=0\/i=1\/i=2\/i=3) with rfl|rfl|rfl|rfl
  ·exact h
  ·exact h
  ·exact h
  ·obtain⟨s,h1,h2⟩:=h; exact⟨s,h1,Bk.dL h2 hb⟩
 ·unfold G9
  split <;> first | omega | trivial
theorem aaf (Q:Exit->Act->aB->Prop) (W:aB) (B0:Nat) (l:List jS) (b1 b2:Nat) (me:Int) (z1:aP) (o2:Option bg) (n2 c2:Nat) (z3 z4 z5:aP) (y1 y2:Int) (yo:Option bg) (yn yc:Nat) (y4:Int) (p:List C5) (u0 u1 u4 u5 u6 u7 u8 u9 u10 u11 u12 u13 u14 u15 u16 u17 u18 u19 u20 u21 u22 u23 u24 u25:aP)
  (h1:dG W b1 #[U Z me,z1,J o2 n2 c2,z3,z4,z5] 30) (h2:dG W b2 #[U Z y1,U Z y2,J yo yn yc,U Z y4] 36) (ho:qJ W B0 (J o2 n2 c2) l) (hr:iN nZ l) (hl:l.length<=900) (hB:B0<=W.heap.size) (hb0:b1<B0) (hp:fF W (J yo yn yc) p) (lp:p.length<=900)
  (hQ:∀ (w1:aB) (v13 v14 v15 v16 v17 v18:aP) (s1:Option bg) (s2 s3:Nat) (t1:Option bg) (t2 t3:Nat),dG w1 b1 #[U Z me,z1,J o2 n2 c2,z3,z4,z5] 30->qJ w1 B0 (J t1 t2 t3) (eY l (eG nZ l (y1,y2)) (y1,y2,(s1,s2,s3),y4))->iE w1 W.heap.size (J s1 s2 s3) p->Off (dQ (o2,n2,c2)).ownBlock W w1->Below B0 W w1->Q .normal ⟨(u0::u1::aG (aD ⟨b1,0,aj⟩)::aG (aD ⟨b2,0,aj⟩)::u4::u5::u6::u7::u8::u9::u10::u11::u12::v13::v14::v15::v16::v17::v18::u19::u20::u21::u22::u23::u24::u25::[]).toArray,[]⟩ (w1.setCell ⟨b1,2,aj⟩ (J t1 t2 t3))) :
  Code.wp aQ Ry Q ⟨(u0::u1::aG (aD ⟨b1,0,aj⟩)::aG (aD ⟨b2,0,aj⟩)::u4::u5::u6::u7::u8::u9::u10::u11::u12::u13::u14::u15::u16::u17::u18::u19::u20::u21::u22::u23::u24::u25::[]).toArray,[]⟩ W:=by
 have HQ:=O hQ;have H1:=O h1;have H2:=O h2;have HO:=O ho;have HR:=O hr;have HL:=O hl;have HB:=O hB;have H0:=O hb0;have HP:=O hp;have LP:=O lp;clear hQ h1 h2 ho hr hl hB hb0 hp lp;have qo:=Mg W.heap.size b1 b2 me z1 o2 n2 c2 z3 z4 z5 y1 y2 yo yn yc y4 p;unfold Ry
 conv=>arg 2; whnf
 have nd:∀ j,(j<13\/17<=j)->∀ i,i<4->(fun i=>13+i) i≠j:=by
  intro j hj i hi h;simp only at h;omega
 refine Rg.jv 7 4 (fun i=>13+i) (fun _=>4) (G9 W.heap.size b1 b2 me z1 o2 n2 c2 z3 z4 z5 y1 y2 yo yn yc y4 p) (by kernel_rfl) (by kernel_rfl) rfl (by decide) (fun i j _ _ h=>by have h2:13+i=13+j:=h; omega) (fun i hi=>by show 13+i<26; omega) ?_ (fun _=>Rg.nU 14 (by kernel_rfl)) ?_ ?_
 ·intro i o hi ho a x D hnd hc hD hb seen K hK;clear HQ;rcases (by omega:i=0\/i=1\/i=2\/i=3) with rfl|rfl|rfl|rfl
  ·cases ho;have e2:a.eval (.tmp 2)=aG (aD ⟨b1,0,aj⟩):=seen.kp 2 _ (nd 2 (by omega)) rfl;exact Rg.dF rfl rfl (Rg.eD a.eval _ 30 (.tmp 2) 2 rfl (by rw [e2]; simp [go_sem])) (hK _ _ rfl (Below.refl _ _) fun _ _ _ _ _ _ _ h=>h)
  ·cases ho;have e13:a.eval (.tmp 13)=aG (aD ⟨b1,2,aj⟩):=seen.at_ ⟨0,.data⟩ (by simp) rfl (aS (by decide));have y2:=(H1.out.on hb).cell 2;simp only [ah,ak,au] at y2;exact Rg.dF rfl rfl (Rg.eH a.eval _ 25 (.tmp 13) rfl (by rw [e13]; simp [go_sem,y2])) (hK _ _ rfl (Below.refl _ _) fun _ _ _ _ _ _ _ h=>h)
  ·cases ho;have e3:a.eval (.tmp 3)=aG (aD ⟨b2,0,aj⟩):=seen.kp 3 _ (nd 3 (by omega)) rfl;obtain⟨y0,y1,y2,y3⟩:=(H2.out.on hb).Gq;exact Rg.dF rfl rfl (Rg.eH a.eval _ 36 (.tmp 3) rfl (by rw [e3]; simp [go_sem,y0,y1,y2,y3])) (hK _ _ rfl (Below.refl _ _) fun _ _ _ _ _ _ _ h=>h)
  ·cases ho;have e15:a.eval (.tmp 15)=bN #[U Z y1,U Z y2,J yo yn yc,U Z y4]:=seen.at_ ⟨2,.data⟩ (by simp) rfl (aS (by decide));exact Rg.fZ rfl rfl (Rw.iT a.eval _ (.tmp 15) 36 35 rfl e15 rfl _ (fD Tryz.func35 rfl rfl _ _)) (vL (y1,y2,(yo,yn,yc),y4) p x (HP.out.on hb) LP.out) fun e w1 h=>by
    obtain⟨⟨s,rfl,h1⟩,h3⟩:=h;exact⟨_,rfl,hK _ _ ⟨s,rfl,dK h1 hb.size⟩ (h3.mono hb.size) fun j u hj _ _ _ hne h=>qo j u _ _ h h3⟩
 ·intro kk o h1 h2 ho;rcases (by omega:kk=5\/kk=6) with rfl|rfl
  ·cases ho;exact⟨⟨4,.phase⟩,by simp,rfl,rfl⟩
  ·cases ho;exact⟨⟨5,.data⟩,by simp,rfl,rfl⟩
 ·intro a w' df sz kp ⟨vs,hv⟩ hb;have sz':a.tmps.size=26:=sz;have g2:a.tmps[2]?=aD (aG (aD ⟨b1,0,aj⟩)):=(kp 2 (nd 2 (by omega))).trans rfl;have g14:a.tmps[14]?=aD (J o2 n2 c2):=by
   have h:vs 1=J o2 n2 c2:=(hv 1 (by omega)).2 (by decide);rw [<- h];exact (hv 1 (by omega)).1
  obtain⟨⟨s1,s2,s3⟩,hs,hc⟩:=(hv 3 (by omega)).2 (by decide);have g16:a.tmps[16]?=aD (lJ (y1,y2,(s1,s2,s3),y4)):=((hv 3 (by omega)).1).trans (congrArg aD hs);have B1:=H1.out.on hb;show Rg.iJ _ _ _ 3 4 a w';simp only [Rg.iJ];refine Rg.fZ rfl rfl (sM a.eval _ (.tmp 14) (.tmp 16) (.func 36) 25 36 79 34 rfl (Rg.dU g14) (Rg.dU g16) rfl rfl _ (fD bH rfl rfl _ _)) (Mf B0 (o2,n2,c2) l (y1,y2,(s1,s2,s3),y4) w' (Bk.dL HO.out hb) HR.out HL.out (aA HB.out hb.size)) fun e w1 h=>?_;obtain⟨⟨⟨t1,t2,t3⟩,rfl,hown⟩,hbel,hoth⟩:=h;refine⟨_,rfl,?_⟩;have aag:(a.put (aD 17) (J t1 t2 t3)).tmps[17]?=aD (J t1 t2 t3):=by simp [Act.put,sz']
  show Go.wpOp _ _ _ 5 _ (a.put (aD 17) (J t1 t2 t3)) _;refine Rg.dF rfl rfl (Rg.eD _ _ 30 (.tmp 2) 2 rfl (v:=aG (aD ⟨b1,2,aj⟩)) (by rw [Rg.dU ((Rg.get_put _ 17 _ 2 (by decide)).trans g2)]; simp [go_sem])) ?_;have aah:((a.put (aD 17) (J t1 t2 t3)).put (aD 18) (aG (aD ⟨b1,2,aj⟩))).tmps[18]?=aD (aG (aD ⟨b1,2,aj⟩)):=by simp [Act.put,sz']
  show Go.wpOp _ _ _ 6 _ ((a.put (aD 17) (J t1 t2 t3)).put (aD 18) (aG (aD ⟨b1,2,aj⟩))) _;have B2:dG w1 b1 _ _:=(hbel.block b1 H0.out).trans B1;have cx:=B2.cell 2;have fx:=B2.fr 2;simp only [ah,ak,au] at cx;refine Rg.gI 25 (.tmp 18) (.tmp 17) rfl rfl rfl rfl (Rg.dU aah) (Rg.dU ((Rg.get_put _ 18 _ 17 (by decide)).trans aag)) (w':=w1.setCell ⟨b1,2,aj⟩ (J t1 t2 t3)) (by simp [go_sem,cx,fx]) ?_;have of1:Off (dQ (o2,n2,c2)).ownBlock w' w1:=⟨hoth,hbel.size⟩;have of2:Off (dQ (o2,n2,c2)).ownBlock W w1:=⟨fun j hj hne=>(hoth j (ay hj hb.size) hne).trans (hb.block j hj),aA hb.size hbel.size⟩;have uI:∀ j,(j<13\/19<=j)->((a.put (aD 17) (J t1 t2 t3)).put (aD 18) (aG (aD ⟨b1,2,aj⟩))).tmps[j]?=(u0::u1::aG (aD ⟨b1,0,aj⟩)::aG (aD ⟨b2,0,aj⟩)::u4::u5::u6::u7::u8::u9::u10::u11::u12::u13::u14::u15::u16::u17::u18::u19::u20::u21::u22::u23::u24::u25::[])[j]?:=fun j hj=>(Rg.get_put _ 18 _ j (by omega)).trans ((Rg.get_put _ 17 _ j (by omega)).trans ((kp j (nd j (by omega))).trans ah));obtain⟨mid,hmid,hfr⟩:=Rg.iA (a:=(a.put (aD 17) (J t1 t2 t3)).put (aD 18) (aG (aD ⟨b1,2,aj⟩))) 13 6 df (by simp [Rg.size_put,sz']) (by simp) uI;show Q .normal ((a.put (aD 17) (J t1 t2 t3)).put (aD 18) (aG (aD ⟨b1,2,aj⟩))) _;rw [hfr]
  match mid,hmid with
  | [v13,v14,v15,v16,v17,v18],_ =>
   exact HQ.out w1 _ _ _ _ _ _ s1 s2 s3 t1 t2 t3 B2 hown (of1.own hc (gV (Bk.dL HO.out hb)) (by decide)) of2 ((hb.mono HB.out).trans hbel)
abbrev CJ (l:List Ad):Prop:=iN Ad.id l
abbrev He (l:List dV):Prop:=iN (fun x:dV=>x) l
def jm (W:aB) (nv:Sl) (l:List Int):Prop:=∃ B,uH W B (dQ nv) l
theorem jm.on {W W':aB} {nv:Sl} {l:List Int} (h:jm W nv l) (hb:Below W.heap.size W W'):jm W' nv l:=by obtain⟨B,h⟩:=h; exact⟨B,Bk.dL h hb⟩
def Mh (W:aB) (P:Prop) (r:Br×Bool) (e:Ending) (w':aB):Prop:=(∃ nv av sv ev ov:Sl,e=aK (.tuple #[mg r.1.me nv av sv ev ov,bL r.2])/\ny w' r.1 nv av sv ev ov/\(P->jm w' nv r.1.near))/\Below W.heap.size W w'
def jo (W:aB) (b:Br) (nv av sv ev ov:Sl):Prop:=∃ (V:aB) (B:Nat),Cp (vw V) B W b nv av sv ev ov
theorem jo.on {W W':aB} {b:Br} {nv av sv ev ov:Sl} (h:jo W b nv av sv ev ov) (hb:Below W.heap.size W W'):jo W' b nv av sv ev ov:=by
 obtain⟨V,B,h⟩:=h;exact⟨V,B,h.grow hb⟩
theorem Cp.Vz {V wr:aB} {B:Nat} {b:Br} {nv av sv ev ov:Sl} (h:Cp (vw V) B wr b nv av sv ev ov):ny wr b nv av sv ev ov where
 near:=Row.dH h.near
 dW:=by obtain⟨l,h1,h2⟩:=h.dW; exact⟨l,Row.dH h1,h2.mono fun _ _ q=>⟨q.1,q.2.1,q.2.2.elim Ag Row.dH⟩⟩
 seen:=Row.dH h.seen
 ent:=by obtain⟨l,h1,h2⟩:=h.ent; exact⟨l,Row.dH h1,h2.mono fun _ _ q=>⟨q.1,q.2.1,q.2.2.1,q.2.2.2.1,q.2.2.2.2.elim Ag Row.dH⟩⟩
 own:=by obtain⟨l,h1,h2⟩:=h.own; exact⟨l,Row.dH h1,h2.mono fun _ _ q=>⟨q.1,q.2.elim Ag Row.dH⟩⟩
theorem jo.br {W:aB} {b:Br} {nv av sv ev ov:Sl} (h:jo W b nv av sv ev ov):ny W b nv av sv ev ov:=by
 obtain⟨V,B,h⟩:=h;exact h.Vz
theorem jo.no {W:aB} {b:Br} {nv av sv ev ov:Sl} (h:jo W b nv av sv ev ov):jm W nv b.near:=by
 obtain⟨V,B,h⟩:=h;exact⟨B,h.near⟩
theorem jo.nY {W W':aB} {b:Br} {nv av sv ev ov:Sl} (h:jo W b nv av sv ev ov) {g:Nat} {d:Array aP} {t:aT} (hb:But g W W') (hg:dG W g d t) (h1:(3 == t)=aR) (h2:(23 == t)=aR) (h3:(36 == t)=aR) (h4:(67 == t)=aR) (h5:(88 == t)=aR) (h6:(91 == t)=aR):jo W' b nv av sv ev ov:=by
 obtain⟨V,B,h⟩:=h;exact⟨V,B,h.nY hb hg h1 h2 h3 h4 h5 h6⟩
def rM (W:aB) (P R:Prop) (r:Br×Bool) (e:Ending) (w':aB):Prop:=(∃ nv av sv ev ov:Sl,e=aK (.tuple #[mg r.1.me nv av sv ev ov,bL r.2])/\ny w' r.1 nv av sv ev ov/\(P->jm w' nv r.1.near)/\(R\/r.2=true->jo w' r.1 nv av sv ev ov))/\Below W.heap.size W w'
theorem rM.one {W:aB} {P R:Prop} {r:Br×Bool} {e:Ending} {w':aB} (h:rM W P R r e w'):Mh W P r e w':=by
 obtain⟨⟨a1,a2,a3,a4,a5,h1,h2,h3,_⟩,h5⟩:=h;exact⟨⟨a1,a2,a3,a4,a5,h1,h2,h3⟩,h5⟩
theorem Jk {b:Br} {a:Ad} (h:a.id∈b.seen):jX b a=(b,aR):=by unfold jX; rw [if_pos h]
theorem E8 {b:Br} {a:Ad} (h:¬ a.id∈b.seen):jX b a=({ b with seen:=eY b.seen (gQ b.seen a.id) a.id,dW:=eY b.dW (gQ (b.dW.map Ad.id) a.id) a },true):=by unfold jX; rw [if_neg h]
theorem Jl (b:Br) (a:Ad) (nv av sv ev ov:Sl) (x:jS) (w:aB) (h:ny w b nv av sv ev ov) (ha:xQ w x a) (hf:xR b) (hp:mq b) (hla:a.p.length<=900) (hr1:He b.seen) (hr2:CJ b.dW) :
  bJ aQ 8 #[mg b.me nv av sv ev ov,lJ x] w (rM w (jm w nv b.near) (jo w b nv av sv ev ov) (jX b a)):=by
 obtain⟨no,nn,nc⟩:=nv;obtain⟨ao,an,ac⟩:=av;obtain⟨so,sn,sc⟩:=sv;obtain⟨eo,en,ec⟩:=ev;obtain⟨oo,lK,oc⟩:=ov;obtain⟨y1,y2,⟨yo,yn,yc⟩,y4⟩:=x;obtain⟨h0,h1,h2⟩:=jd w #[U Z b.me,J no nn nc,J ao an ac,J so sn sc,J eo en ec,J oo lK oc] #[U Z y1,U Z y2,J yo yn yc,U Z y4] 30 36;have h3:=jk ((w.alloc (aJ #[U Z b.me,J no nn nc,J ao an ac,J so sn sc,J eo en ec,J oo lK oc] 30)).alloc (aJ #[U Z y1,U Z y2,J yo yn yc,U Z y4] 36)) (aJ #[U Z 0,J aj 0 0,J aj 0 0,J aj 0 0,J aj 0 0,J aj 0 0] 30);have h4:=dO ((w.alloc (aJ #[U Z b.me,J no nn nc,J ao an ac,J so sn sc,J eo en ec,J oo lK oc] 30)).alloc (aJ #[U Z y1,U Z y2,J yo yn yc,U Z y4] 36)) #[U Z 0,J aj 0 0,J aj 0 0,J aj 0 0,J aj 0 0,J aj 0 0] 30;have hsz:((w.alloc (aJ #[U Z b.me,J no nn nc,J ao an ac,J so sn sc,J eo en ec,J oo lK oc] 30)).alloc (aJ #[U Z y1,U Z y2,J yo yn yc,U Z y4] 36)).heap.size=w.heap.size+1+1:=by simp
 rw [hsz] at h4;have BB:=O (h0.trans (h3.mono h0.size));have X1:=O (h1.on h3);have X2:=O (h2.on h3);have X3:=O h4;have HH:=O h;have HA:=O ha;have HF:=O hf;have HP:=O hp;have LA:=O hla;have R1:=O hr1;have R2:=O hr2;have ei:a.id=(y1,y2):=ha.1.symm;have SW:=O (IU b.me (J no nn nc) (J ao an ac) (J eo en ec) (J oo lK oc) (so,sn,sc) b.seen (y1,y2) _ (h.seen.on BB.out));obtain⟨r,hr⟩:∃ r,decide ((y1,y2)∈b.seen)=r:=⟨_,rfl⟩;rw [hr] at SW;have HR:=O hr;have EI:=O ei;obtain⟨x0,x1,x2,x3,x4,x5⟩:=X1.out.ig;obtain⟨d0,d1,d2,d3⟩:=X2.out.Gq;obtain⟨z0,z1,z2,z3,z4,z5⟩:=X3.out.ig;obtain⟨t0,t1,t2,t3,t4,t5⟩:=X3.out.oJ;have zz:=X3.out.lt;clear h0 h1 h2 h3 h4 hsz h ha hf hp hla hr1 hr2 hr ei;go_enter Tryz.func8,Tryz.ntmps8;go_wp2_with fail;generalize ((w.alloc (aJ #[U Z b.me,J no nn nc,J ao an ac,J so sn sc,J eo en ec,J oo lK oc] 30)).alloc (aJ #[U Z y1,U Z y2,J yo yn yc,U Z y4] 36)).alloc (aJ #[U Z 0,J aj 0 0,J aj 0 0,J aj 0 0,J aj 0 0,J aj 0 0] 30)=W at *;refine SW.out.mono ?_;rintro e1 w1 ⟨rfl,hb⟩;have B1:=O (BB.out.trans (hb.mono BB.out.size));have Y1:=X1.out.on hb;have Y2:=X2.out.on hb;have Y3:=X3.out.on hb;clear SW hb x0 x1 x2 x3 x4 x5 d0 d1 d2 d3 z0 z1 z2 z3 z4 z5 t0 t1 t2 t3 t4 t5 zz X1 X2 X3;obtain⟨x0,x1,x2,x3,x4,x5⟩:=Y1.ig;obtain⟨z0,z1,z2,z3,z4,z5⟩:=Y3.ig;obtain⟨t0,t1,t2,t3,t4,t5⟩:=Y3.oJ;have zz:=Y3.lt;cases r
 ·have nin:¬ a.id∈b.seen:=by rw [EI.out]; exact of_decide_eq_false HR.out
  have LQ:=O (E8 nin);have Z1:=O Y1;have Z2:=O Y2;have Z3:=O Y3;have L1:=O Y1.lt;have L3:=O (show w.heap.size+1<w1.heap.size from Y2.lt);clear z0 z1 z2 z3 z4 z5 t0 t1 t2 t3 t4 t5 zz nin;go_wp2_with fail;refine (lg b (no,nn,nc) (ao,an,ac) (so,sn,sc) (eo,en,ec) (oo,lK,oc) w w1 B1.out HH.out HF.out HP.out).mono ?_;rintro e2 w2 ⟨⟨⟨p1,q1,s1⟩,⟨p2,q2,s2⟩,⟨p3,q3,s3⟩,⟨p4,q4,s4⟩,⟨p5,q5,s5⟩,rfl,cp⟩,hb2⟩;have V1:=Z1.out.on hb2;have V2:=O (Z2.out.on hb2);have V3:=O (Z3.out.on hb2);clear x0 x1 x2 x3 x4 x5;obtain⟨x0,x1,x2,x3,x4,x5⟩:=V1.ig;obtain⟨t0,t1,t2,t3,t4,t5⟩:=V1.oJ;have zz:=V1.lt;have FB:=O (dX V1 (U Z b.me) (J p1 q1 s1) (J p2 q2 s2) (J p3 q3 s3) (J p4 q4 s4) (J p5 q5 s5));have FC:=O (cp.but (eF w2 w.heap.size (U Z b.me) (J p1 q1 s1) (J p2 q2 s2) (J p3 q3 s3) (J p4 q4 s4) (J p5 q5 s5)) V1);have FL:=O (dI (b:=w.heap.size) (B1.out.trans (hb2.mono B1.out.size)) (aI _) (U Z b.me) (J p1 q1 s1) (J p2 q2 s2) (J p3 q3 s3) (J p4 q4 s4) (J p5 q5 s5));have F2:=O ((eF w2 w.heap.size (U Z b.me) (J p1 q1 s1) (J p2 q2 s2) (J p3 q3 s3) (J p4 q4 s4) (J p5 q5 s5)).box V2.out (by omega));have F3:=O ((eF w2 w.heap.size (U Z b.me) (J p1 q1 s1) (J p2 q2 s2) (J p3 q3 s3) (J p4 q4 s4) (J p5 q5 s5)).box V3.out (by omega));have SZ:=O (show w1.heap.size<=(iY w2 w.heap.size (U Z b.me) (J p1 q1 s1) (J p2 q2 s2) (J p3 q3 s3) (J p4 q4 s4) (J p5 q5 s5)).heap.size by have:=hb2.size; simp; omega);have L2:=O (show w.heap.size<w1.heap.size from L1.out);clear V1 V2 V3 cp hb2 Z1 Z2 Z3 L1;go_upto_region 4 with fail;clear x0 x1 x2 x3 x4 x5 t0 t1 t2 t3 t4 t5 zz;unfold iY at FB FC FL F2 F3 SZ;generalize ((((((w2).setCell ⟨w.heap.size,0,aj⟩ (U Z b.me)).setCell ⟨w.heap.size,1,aj⟩ (J p1 q1 s1)).setCell ⟨w.heap.size,2,aj⟩ (J p2 q2 s2)).setCell ⟨w.heap.size,3,aj⟩ (J p3 q3 s3)).setCell ⟨w.heap.size,4,aj⟩ (J p4 q4 s4)).setCell ⟨w.heap.size,5,aj⟩ (J p5 q5 s5)=w3 at *;obtain⟨la,WE,Ug⟩:=FC.out.dW;have xL:=O WE;have HL2:=O Ug;have KE:=O (keys_eq Ug);clear WE Ug;refine aaf _ w3 w1.heap.size la w.heap.size (w.heap.size+1) b.me (J p1 q1 s1) p2 q2 s2 (J p3 q3 s3) (J p4 q4 s4) (J p5 q5 s5) y1 y2 yo yn yc y4 a.p _ _ _ _ _ _ _ _ _ _ _ _ _ _ _ _ _ _ _ _ _ _ _ _ FB.out F2.out xL.out ?_ ?_ SZ.out L2.out (HA.out.2.2.on FL.out) LA.out ?_
  ·rw [yR,KE.out,<- yR]; exact R2.out
  ·rw [HL2.out.len]; exact HF.out.dW
  intro w4 v13 v14 v15 v16 v17 v18 s1' s2' s3' t1 t2 t3 hbx hown hc hoff hbel;have CP2:=O (FC.out.aad (Vx:=(t1,t2,t3)) (al:=eY b.dW (gQ (b.dW.map Ad.id) a.id) a) hoff ⟨_,hown,by
   have hg:=gV xL.out;have h2:=HL2.out.mono fun _ _ q=>q.off hoff hg (by decide);have hk:eG nZ la (y1,y2)=gQ (b.dW.map Ad.id) a.id:=by rw [gu,KE.out,EI.out]
   rw [<- hk];exact rG h2 _ ⟨HA.out.1,HA.out.2.1,aS (dK hc SZ.out)⟩⟩)
  have G2:=O (show dG w4 (w.heap.size+1) _ _ from (hbel.block _ L3.out).trans F2.out);have G3:=O (show dG w4 (w.heap.size+1+1) _ _ from hoff.box F3.out (gV xL.out) (by decide));have G1:=O (show dG (w4.setCell ⟨w.heap.size,2,aj⟩ (J t1 t2 t3)) w.heap.size #[U Z b.me,J p1 q1 s1,J t1 t2 t3,J p3 q3 s3,J p4 q4 s4,J p5 q5 s5] 30 by simpa using eu (k:=2) hbx (J t1 t2 t3));have Zl:=O (CP2.out.but (dR w4 w.heap.size 2 (J t1 t2 t3)) hbx);have G2':=O ((dR w4 w.heap.size 2 (J t1 t2 t3)).box G2.out (by omega));have G3':=O ((dR w4 w.heap.size 2 (J t1 t2 t3)).box G3.out (by omega));have GL:=O (show Below w.heap.size w (w4.setCell ⟨w.heap.size,2,aj⟩ (J t1 t2 t3)) from (FL.out.trans (hbel.mono (aU L2.out))).setCell (p:=⟨w.heap.size,2,aj⟩) (aI _) _);have GZ:=O (show w1.heap.size<=(w4.setCell ⟨w.heap.size,2,aj⟩ (J t1 t2 t3)).heap.size by have:=SZ.out; have:=hbel.size; simp; omega);clear hbx hown hc hoff hbel CP2 G2 G3 FB FC F2 F3 FL SZ xL HL2 KE;generalize w4.setCell ⟨w.heap.size,2,aj⟩ (J t1 t2 t3)=w5 at *;have x3:=G1.out.cell 3;have d1:=G2'.out.cell 1;have d0:=G2'.out.cell 0;simp only [ah,ak,au] at x3 d0 d1;go_wp2_with fail;refine (Me w1.heap.size (p3,q3,s3) b.seen (y1,y2) w5 Zl.out.seen R1.out HF.out.seen GZ.out).mono ?_;rintro e3 w6 ⟨⟨⟨r1,r2,r3⟩,rfl,hown⟩,hbel,hoth⟩;have hoff:Off (dQ (p3,q3,s3)).ownBlock w5 w6:=⟨hoth,hbel.size⟩;have CP4:=O (Zl.out.aae (Vy:=(r1,r2,r3)) (sl:=eY b.seen (gQ b.seen a.id) a.id) hoff (by
   have hk:eG qp b.seen (qp (y1,y2))=gQ b.seen a.id:=by rw [gu,EI.out]; simp
   rw [<- hk,EI.out];exact hown))
  have hg:=gV Zl.out.seen;have K1:=hoff.box G1.out hg (by decide);have K3:=hoff.box G3'.out hg (by decide);have KL:=GL.out.trans (hbel.mono (aU L2.out));have M1:=O (show dG (w6.setCell ⟨w.heap.size,3,aj⟩ (J r1 r2 r3)) w.heap.size #[U Z b.me,J p1 q1 s1,J t1 t2 t3,J r1 r2 r3,J p4 q4 s4,J p5 q5 s5] 30 by simpa using eu (k:=3) K1 (J r1 r2 r3));have M3:=O ((dR w6 w.heap.size 3 (J r1 r2 r3)).box K3 (by omega));have MC:=O (CP4.out.but (dR w6 w.heap.size 3 (J r1 r2 r3)) K1);have ML:=O (show Below w.heap.size w (w6.setCell ⟨w.heap.size,3,aj⟩ (J r1 r2 r3)) from KL.setCell (p:=⟨w.heap.size,3,aj⟩) (aI _) _);clear x3 d0 d1;have x3:=K1.cell 3;have t3:=K1.fr 3;have zz:=K1.lt;simp only [ah,ak,au] at x3;clear hown hbel hoth hoff hg K1 K3 KL CP4 Zl G1 G2' G3' GL GZ;go_upto_region 6 with fail;clear x3 t3 zz;generalize w6.setCell ⟨w.heap.size,3,aj⟩ (J r1 r2 r3)=w7 at *;have U1:=M1.out;have U3:=M3.out;obtain⟨x0,x1,x2,x3,x4,x5⟩:=U1.ig;obtain⟨z0,z1,z2,z3,z4,z5⟩:=U3.ig;obtain⟨f0,f1,f2,f3,f4,f5⟩:=U3.oJ;have zz:=U3.lt;have FB:=O (dX U3 (U Z b.me) (J p1 q1 s1) (J t1 t2 t3) (J r1 r2 r3) (J p4 q4 s4) (J p5 q5 s5));have FC:=O (MC.out.but (eF w7 (w.heap.size+1+1) (U Z b.me) (J p1 q1 s1) (J t1 t2 t3) (J r1 r2 r3) (J p4 q4 s4) (J p5 q5 s5)) U3);have FL:=O (dI (b:=w.heap.size+1+1) ML.out (by omega) (U Z b.me) (J p1 q1 s1) (J t1 t2 t3) (J r1 r2 r3) (J p4 q4 s4) (J p5 q5 s5));clear U1 U3 M1 M3 MC ML;go_wp2_with fail;obtain⟨v0,v1,v2,v3,v4,v5⟩:=FB.out.ig;refine aX (v:=.tuple #[bN #[U Z b.me,J p1 q1 s1,J t1 t2 t3,J r1 r2 r3,J p4 q4 s4,J p5 q5 s5],bL true]) (by simp [results,bD,go_sem,v0,v1,v2,v3,v4,v5]) rfl ?_;rw [LQ.out];exact⟨⟨(p1,q1,s1),(t1,t2,t3),(r1,r2,r3),(p4,q4,s4),(p5,q5,s5),rfl,FC.out.Vz,fun _=>⟨_,FC.out.near⟩,fun _=>⟨_,_,FC.out⟩⟩,FL.out⟩
 ·have hin:a.id∈b.seen:=by rw [EI.out]; exact of_decide_eq_true HR.out
  have LQ:=O (Jk hin);have FB:=O (dX Y3 (U Z b.me) (J no nn nc) (J ao an ac) (J so sn sc) (J eo en ec) (J oo lK oc));have FL:=O (dI (b:=w.heap.size+1+1) B1.out (by omega) (U Z b.me) (J no nn nc) (J ao an ac) (J so sn sc) (J eo en ec) (J oo lK oc));clear hin Y1 Y2 Y3;go_wp2_with fail;obtain⟨v0,v1,v2,v3,v4,v5⟩:=FB.out.ig;refine aX (v:=.tuple #[bN #[U Z b.me,J no nn nc,J ao an ac,J so sn sc,J eo en ec,J oo lK oc],bL aR]) (by simp [results,bD,go_sem,v0,v1,v2,v3,v4,v5]) rfl ?_;rw [LQ.out];exact⟨⟨(no,nn,nc),(ao,an,ac),(so,sn,sc),(eo,en,ec),(oo,lK,oc),rfl,HH.out.on FL.out,fun h=>h.on FL.out,fun h=>(h.resolve_right (by simp)).on FL.out⟩,FL.out⟩
theorem yU (b:Br) (a:Ad) (nv av sv ev ov:Sl) (x:jS) (w:aB) (h:ny w b nv av sv ev ov) (ha:xQ w x a) (hf:xR b) (hp:mq b) (hla:a.p.length<=900) (hr1:He b.seen) (hr2:CJ b.dW) :
  bJ aQ 8 #[mg b.me nv av sv ev ov,lJ x] w (Mh w (jm w nv b.near) (jX b a)) :=
 (Jl b a nv av sv ev ov x w h ha hf hp hla hr1 hr2).mono fun _ _ h=>h.one
def Uh (b:Br) (a:Ad):Bool:=decide (a.id∈b.seen) && (mQ b.near a.par && Wr.gX a.p)
def xW (b:Br) (e:En):Bool:=match fM b.dW e.tree with
 | none=>aR
 | some a=>!(e.from_ == a.par && !(a.par == -1)) && (mQ b.near e.from_ && (!(e.up && a.par == -1) && Wr.gX e.p))
end Go.Proofs.YtghlpefopidlaaaGreat.Av
