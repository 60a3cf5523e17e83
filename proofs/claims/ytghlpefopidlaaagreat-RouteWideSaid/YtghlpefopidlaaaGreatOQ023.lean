/-
  slices.BinarySearch . Conditions as told.
-/
import Derived.Test.YtghlpefopidlaaaGreatOQ021
import Derived.Test.YtghlpefopidlaaaGreatOQ020
import Derived.Test.YtghlpefopidlaaaGreatOQ022
import Derived.Laws.IdiomCopy
import Derived.Test.YtghlpefopidlaaaGreatOQ019
import Derived.Maps.OwnSet
import Derived.DeepKeys4
import Derived.KernelRfl
set_option maxRecDepth 100000
set_option maxHeartbeats 64000000
open _root_.Bool renaming false->aQ,and_eq_true->bq,true->bF
open _root_.Go renaming World->aA,Value->aK,TypeId->aS,Addr->bH,Calls->bL
open Go.Builtin renaming zeroCells->aH,clear_->bG
open Go.Ending renaming returned->aL
open Go.IntKind renaming i64->Z
open Go.Lib renaming hid->O
open Go.Obj renaming cells->aJ
open Go.Proofs.Tryz renaming prog->aM,results8->bJ,func34->bM
open Go.Value renaming slice->J,int->U,pointer->aG,bool->aV,agg->bR
open _root_.List renaming getElem?_toArray->ah,getElem?_cons_zero->aj,getElem?_cons_succ->ak,getElem?_eq_getElem->ay,take_of_length_le->aF,mem_of_getElem?->aN,getElem?_eq_some_iff->aO,mem_cons->aT,take_take->aW,mem_cons_of_mem->aY,pairwise_cons->aZ,pairwise_map->bf,mem_map->bg,map_cons->bI,take->bP
open _root_.Nat renaming lt_of_lt_of_le->aB,le_trans->aC,le_refl->aI,le_of_lt->aR,mul_le_mul_right->aX,zero_le->bC,min_eq_left->bD,add_zero->bK
open _root_.Option renaming none->au,some->aD
open Option.some renaming inj->aP
open _root_.Or renaming inr->aU,inl->bO
namespace Go.Proofs.YtghlpefopidlaaaGreat
namespace Av
open Go.RowKit Go.Sort Rw YtghlpefopidlaaaGreat.Nm Pr Bk
def oC (near:List Int) (f:Int):Bool:=decide (f∈near) || f == -1
structure mE (b:Br):Prop where
 dG:∀ a∈b.dG,a.p.length<=900
 ent:∀ a∈b.ent,a.p.length<=900
 own:∀ a∈b.own,a.p.length<=900
theorem eU {α:Type} {E:Ek α} {W:aA} {B n cap:Nat} {o:Option bH} {l:List α} (h:Own E W B (J o n cap) l):l.length=n:=by
 obtain⟨_,_,hv⟩:=(Row.dB h).len;have:n=l.length:=by simpa using congrArg (fun v=>match v with | Value.slice _ n _=>n | _=>0) hv
 exact this.symm
theorem oD {α:Type} {E:Ek α} {W:aA} {B n cap:Nat} {o:Option bH} {l:List α} (h:Own E W B (J o n cap) l) (hn:0<n):∃ g,o=aD ⟨g,0,au⟩/\B<=g:=by
 have hl:=eU h;rcases eT h with⟨_,h2⟩|⟨g,c',cur,h1,h2,_⟩
 ·rw [h2] at hl; simp at hl; omega
 ·exact⟨g,by simp at h1; exact h1.1,h2⟩
theorem dW (w:aA) (b:Nat) (a0 a1 a2 a3 a4 a5:aK):But b w (iI w b a0 a1 a2 a3 a4 a5) :=
 (((dM _ b _ _).trans (dM _ b _ _)).trans ((dM _ b _ _).trans (dM _ b _ _))).trans ((dM _ b _ _).trans (dM _ b _ _))
theorem Cs.done {w0 w wr:aA} {b:Br} {nv sv:Sl} {p2 p4 p5:Option bH} {q2 s2 q4 s4 q5 s5:Nat} (h:Cs w0 w wr b q2 q4 q5 nv (p2,q2,s2) sv (p4,q4,s4) (p5,q5,s5)) (a0 a1 a2 a3 a4 a5:aK):Cp (vw w0) w.heap.size (iI wr (w.heap.size+1) a0 a1 a2 a3 a4 a5) b nv (p2,q2,s2) sv (p4,q4,s4) (p5,q5,s5)/\Below w.heap.size w (iI wr (w.heap.size+1) a0 a1 a2 a3 a4 a5):=by
 obtain⟨l1,d1,d2,d3⟩:=h.dG;obtain⟨l2,e1,e2,e3⟩:=h.ent;obtain⟨l3,f1,f2,f3⟩:=h.own;have n1:l1.length=q2:=eU d1;have n2:l2.length=q4:=eU e1;have n3:l3.length=q5:=eU f1;rw [aF (by omega),aF (by have:=d2.len; omega)] at d3;rw [aF (by omega),aF (by have:=e2.len; omega)] at e3;rw [aF (by omega),aF (by have:=f2.len; omega)] at f3;exact⟨Cp.but ⟨h.near,h.seen,⟨l1,d1,d3⟩,⟨l2,e1,e3⟩,⟨l3,f1,f3⟩⟩ (dW wr (w.heap.size+1) a0 a1 a2 a3 a4 a5) h.bz,dD h.pI (by omega) a0 a1 a2 a3 a4 a5⟩
theorem kH (b:Br) (nv av sv ev ov:Sl) (w0 w:aA) (hw0:Below w0.heap.size w0 w) (h:lW w0 b nv av sv ev ov) (hf:zh b) (hp:mE b) :
  bL aM 33 #[nO b.me nv av sv ev ov] w fun e w'=>(∃ Zy TK TL ev' Rv:Sl,e=aL (nO b.me Zy TK TL ev' Rv)/\Cp (vw w0) w.heap.size w' b Zy TK TL ev' Rv)/\Below w.heap.size w w':=by
 obtain⟨no,nn,nc⟩:=nv;obtain⟨ao,an,ac⟩:=av;obtain⟨so,sn,sc⟩:=sv;obtain⟨eo,en,ec⟩:=ev;obtain⟨oo,kg,oc⟩:=ov;obtain⟨la,ha1,ha2⟩:=h.dG;obtain⟨le,he1,he2⟩:=h.ent;obtain⟨XY,ho1,ho2⟩:=h.own;have HA:=O ha2;have HE:=O he2;have HO:=O ho2;have R0:=O (h.near.on hw0);have R1:=O (ha1.on hw0);have R2:=O (h.seen.on hw0);have R3:=O (he1.on hw0);have R4:=O (ho1.on hw0);have W0:=O hw0;have HP:=O hp;have Zz:=O hf.near;have XZ:=O (show la.length<=900 by rw [ha2.len]; exact hf.dG);have ZA:=O hf.seen;have X0:=O (show le.length<=900 by rw [he2.len]; exact hf.ent);have X5:=O (show XY.length<=900 by rw [ho2.len]; exact hf.own);obtain⟨h0,h1,h2⟩:=iO w #[U Z b.me,J no nn nc,J ao an ac,J so sn sc,J eo en ec,J oo kg oc] #[U Z 0,J au 0 0,J au 0 0,J au 0 0,J au 0 0,J au 0 0] 30 30;have B0:=O h0;have XB:=O h1;have ZB:=O h2;clear h0 h1 h2 h hf hp hw0 ha1 ha2 he1 he2 ho1 ho2;go_enter Tryz.func33,Tryz.ntmps33;go_upto_region 1 with fail;generalize (w.alloc (aJ #[U Z b.me,J no nn nc,J ao an ac,J so sn sc,J eo en ec,J oo kg oc] 30)).alloc (aJ #[U Z 0,J au 0 0,J au 0 0,J au 0 0,J au 0 0,J au 0 0] 30)=W at *;refine cp1 _ W w.heap.size b.me (J ao an ac) (J eo en ec) (J oo kg oc) no nn nc b.near so sn sc b.seen _ _ _ _ _ _ _ _ _ _ _ _ _ _ _ _ _ _ _ _ _ _ _ _ _ _ _ _ _ _ _ _ _ _ _ _ _ _ _ _ _ _ _ _ _ _ _ _ _ _ _ _ _ _ _ _ _ _ _ _ _ _ _ _ _ _ _ _ _ _ _ _ _ _ _ _ _ _ _ _ _ XB.out (R0.out.on B0.out) (R2.out.on B0.out) Zz.out ZA.out ?_;intro x1 v6 v7 v8 v9 v10 v11 v12 v13 p1 q1 s1 p3 q3 s3 hb1 hn1 hs1 Ky Kz;have B1:=O (B0.out.trans (Ky _ (aI _)));have S1:=O (show W.heap.size<=x1.heap.size from (Ky _ (aI _)).size);have X6:=O (show dx x1 (w.heap.size+1) _ _ from (Kz _ ZB.out.lt (by omega)).trans ZB.out);have Xm:=O hb1;have N1:=O (dH hn1 B0.out.size);have J1:=O (dH hs1 B0.out.size);clear hb1 hn1 hs1 Ky Kz XB ZB;go_upto_region 2 with fail;refine cp2 _ x1 w.heap.size b.me (J p1 q1 s1) (J p3 q3 s3) ao an ac la eo en ec le oo kg oc XY _ _ _ _ _ _ _ _ _ _ _ _ _ _ _ _ _ _ _ _ _ _ _ _ _ _ _ _ _ _ _ _ _ _ _ _ _ _ _ _ _ _ _ _ _ _ _ _ _ _ _ _ _ _ _ _ _ _ _ _ _ _ _ _ _ _ _ _ _ _ _ _ _ _ _ _ _ _ _ _ _ Xm.out (R1.out.on B1.out) (R3.out.on B1.out) (R4.out.on B1.out) XZ.out X0.out X5.out ?_;intro x2 v14 v15 v16 v17 v18 v19 v20 v21 v22 v23 v24 v25 p2 q2 s2 p4 q4 s4 p5 q5 s5 hb2 ha2 he2 ho2 Fw zo;have CS:=O (show Cs w0 w x2 b 0 0 0 (p1,q1,s1) (p2,q2,s2) (p3,q3,s3) (p4,q4,s4) (p5,q5,s5) from {
  pI:=B1.out.trans (Fw _ (aI _))
  bx:=hb2
  bz:=(zo _ X6.out.lt (by omega)).trans X6.out
  near:=But.own ⟨zo,(Fw _ (aI _)).size⟩ N1.out Xm.out (by decide)
  seen:=But.own ⟨zo,(Fw _ (aI _)).size⟩ J1.out Xm.out (by decide)
  dG:=⟨la,dH ha2 B1.out.size,HA.out.mono fun _ _ q=>⟨q.1,q.2.1,bO q.2.2⟩,.nil⟩
  ent:=⟨le,dH he2 B1.out.size,HE.out.mono fun _ _ q=>⟨q.1,q.2.1,q.2.2.1,q.2.2.2.1,bO q.2.2.2.2⟩,.nil⟩
  own:=⟨XY,dH ho2 B1.out.size,HO.out.mono fun _ _ q=>⟨q.1,bO q.2⟩,.nil⟩ })
 have Q2:=O (show q2<=900 from by rw [<- eU ha2]; exact XZ.out);have Q4:=O (show q4<=900 from by rw [<- eU he2]; exact X0.out);have Q5:=O (show q5<=900 from by rw [<- eU ho2]; exact X5.out);clear hb2 ha2 he2 ho2 Fw zo Xm X6 N1 J1 B1 S1 R0 R1 R2 R3 R4 HA HE HO Zz XZ ZA X0 X5 B0;have ZC:=CS.out.bx.cell 2;simp only [ah,aj,ak] at ZC;go_wp2
 go_loopw [29] (fun i wr=>∃ k:Nat,k<=q2/\i=U Z k/\Cs w0 w wr b k 0 0 (p1,q1,s1) (p2,q2,s2) (p3,q3,s3) (p4,q4,s4) (p5,q5,s5)) (fun i _=>q2-(intOf i).toNat)
 case atStart=>exact⟨0,bC _,rfl,CS.out⟩
 case round =>
  obtain⟨k,hk,rfl,hcs⟩:=hrel;have CS:=O hcs;have hq:=Q2.out;clear hcs;by_cases hlt:k<q2
  ·obtain⟨l,hl,hA,hV⟩:=CS.out.dG;have hln:l.length=q2:=eU hl;obtain⟨g,rfl,hBg⟩:∃ g,p2=aD ⟨g,0,au⟩/\w.heap.size<=g:=oD hl (show 0<q2 by omega);obtain⟨y,hy⟩:∃ y,l[k]?=aD y:=⟨_,ay (by omega)⟩;obtain⟨a,ha⟩:∃ a,b.dG[k]?=aD a:=⟨_,ay (by have h:=hA.len; have h2:l.length=q2:=hln; omega)⟩;obtain⟨y',hy',hym⟩:=hA.at k a ha;rw [hy] at hy';obtain rfl:=aP hy';obtain⟨y1,y2,⟨yo,yn,yc⟩,y4⟩:=y;have HW:=O hl;have PD:=O hA;have PG:=O hV;have wF:=O hym;have KA:=O hy;have Fx:=O ha;have PI:=O hBg;have hw3:IntKind.i64.wrap ((k:Int)+1)=(k:Int)+1:=IntWalk.i64_in _ (by omega);clear hl hA hV hln hy ha hy' hym hBg ZC;go_upto_region 6 with fail;refine cp6 _ wr w.heap.size l w.heap.size b.me (J p1 q1 s1) (J p3 q3 s3) (J p4 q4 s4) (J p5 q5 s5) g q2 s2 k y1 y2 yo yn yc y4 a.p _ _ _ _ _ _ _ _ _ _ _ _ _ _ _ _ _ _ _ _ _ _ _ _ _ _ _ _ _ _ _ _ _ _ _ _ _ _ _ _ _ _ _ _ _ _ _ _ _ _ _ _ _ _ _ _ _ _ _ _ _ _ _ _ _ _ _ _ _ _ _ _ _ _ _ _ _ _ _ _ CS.out.bx HW.out KA.out (wF.out.2.2.row (W0.out.trans (CS.out.pI.mono W0.out.size))) (HP.out.dG a (aN Fx.out)) ?_;intro x v32 v33 v34 v35 v36 v37 v38 v39 v40 v41 t1 t2 t3 hC hO qE hBel;have UK:=O (show Cs w0 w x b (k+1) 0 0 (p1,q1,s1) (aD ⟨g,0,au⟩,q2,s2) (p3,q3,s3) (p4,q4,s4) (p5,q5,s5) from by
    obtain⟨cur,hg⟩:=gX HW.out;exact CS.out.J4 HW.out hO qE (CS.out.pI.trans (hBel _ PI.out CS.out.pI.size)) (eG.set k _ a (PD.out.mono fun _ _ q=>q.but qE hg (by decide)) Fx.out ⟨wF.out.1,wF.out.2.1,aU (dH hC CS.out.pI.size)⟩) (rG (PG.out.mono fun _ _ q=>q.but qE hg (by decide)) (aO.1 KA.out).1 Fx.out ⟨wF.out.1,wF.out.2.1,aU (dH hC CS.out.pI.size)⟩))
   clear hC hO qE hBel CS HW PD PG wF KA Fx PI;go_wp2
   go_roundw
   case rel=>exact⟨k+1,by omega,by go_num,UK.out⟩
   case measure=>simp [intOf]; omega
  ·obtain rfl:q2=k:=by omega
   have ZE:=CS.out.bx.cell 4;simp only [ah,aj,ak] at ZE;clear hlt;go_wp2
   go_loopw [46] (fun i wr=>∃ k:Nat,k<=q4/\i=U Z k/\Cs w0 w wr b q2 k 0 (p1,q1,s1) (p2,q2,s2) (p3,q3,s3) (p4,q4,s4) (p5,q5,s5)) (fun i _=>q4-(intOf i).toNat)
   case atStart=>exact⟨0,bC _,rfl,CS.out⟩
   case round =>
    obtain⟨k,hk,rfl,hcs⟩:=hrel;have CS:=O hcs;have hq:=Q4.out;clear hcs;by_cases hlt:k<q4
    ·obtain⟨l,hl,hA,hV⟩:=CS.out.ent;have hln:l.length=q4:=eU hl;obtain⟨g,rfl,hBg⟩:∃ g,p4=aD ⟨g,0,au⟩/\w.heap.size<=g:=oD hl (show 0<q4 by omega);obtain⟨y,hy⟩:∃ y,l[k]?=aD y:=⟨_,ay (by omega)⟩;obtain⟨a,ha⟩:∃ a,b.ent[k]?=aD a:=⟨_,ay (by have h:=hA.len; have h2:l.length=q4:=hln; omega)⟩;obtain⟨y',hy',hym⟩:=hA.at k a ha;rw [hy] at hy';obtain rfl:=aP hy';obtain⟨y1,y2,y3,y4,⟨yo,yn,yc⟩,y6,y7⟩:=y;have HW:=O hl;have PD:=O hA;have PG:=O hV;have wF:=O hym;have KA:=O hy;have Fx:=O ha;have PI:=O hBg;have hw3:IntKind.i64.wrap ((k:Int)+1)=(k:Int)+1:=IntWalk.i64_in _ (by omega);clear hl hA hV hln hy ha hy' hym hBg ZE;go_upto_region 11 with fail;refine XU _ wr w.heap.size l w.heap.size b.me (J p1 q1 s1) (J p2 q2 s2) (J p3 q3 s3) (J p5 q5 s5) g q4 s4 k y1 y2 y3 y4 yo yn yc y6 y7 a.p _ _ _ _ _ _ _ _ _ _ _ _ _ _ _ _ _ _ _ _ _ _ _ _ _ _ _ _ _ _ _ _ _ _ _ _ _ _ _ _ _ _ _ _ _ _ _ _ _ _ _ _ _ _ _ _ _ _ _ _ _ _ _ _ _ _ _ _ _ _ _ _ _ _ _ _ _ _ _ _ CS.out.bx HW.out KA.out (wF.out.2.2.2.2.row (W0.out.trans (CS.out.pI.mono W0.out.size))) (HP.out.ent a (aN Fx.out)) ?_;intro x v49 v50 v51 v52 v53 v54 v55 v56 v57 v58 v59 v60 t1 t2 t3 hC hO qE hBel;have UK:=O (show Cs w0 w x b q2 (k+1) 0 (p1,q1,s1) (p2,q2,s2) (p3,q3,s3) (aD ⟨g,0,au⟩,q4,s4) (p5,q5,s5) from by
      obtain⟨cur,hg⟩:=gX HW.out;exact CS.out.XL HW.out hO qE (CS.out.pI.trans (hBel _ PI.out CS.out.pI.size)) (eG.set k _ a (PD.out.mono fun _ _ q=>q.but qE hg (by decide)) Fx.out ⟨wF.out.1,wF.out.2.1,wF.out.2.2.1,wF.out.2.2.2.1,aU (dH hC CS.out.pI.size)⟩) (rG (PG.out.mono fun _ _ q=>q.but qE hg (by decide)) (aO.1 KA.out).1 Fx.out ⟨wF.out.1,wF.out.2.1,wF.out.2.2.1,wF.out.2.2.2.1,aU (dH hC CS.out.pI.size)⟩))
     clear hC hO qE hBel CS HW PD PG wF KA Fx PI;go_wp2
     go_roundw
     case rel=>exact⟨k+1,by omega,by go_num,UK.out⟩
     case measure=>simp [intOf]; omega
    ·obtain rfl:q4=k:=by omega
     have ZF:=CS.out.bx.cell 5;simp only [ah,aj,ak] at ZF;clear hlt;go_wp2
     go_loopw [65] (fun i wr=>∃ k:Nat,k<=q5/\i=U Z k/\Cs w0 w wr b q2 q4 k (p1,q1,s1) (p2,q2,s2) (p3,q3,s3) (p4,q4,s4) (p5,q5,s5)) (fun i _=>q5-(intOf i).toNat)
     case atStart=>exact⟨0,bC _,rfl,CS.out⟩
     case round =>
      obtain⟨k,hk,rfl,hcs⟩:=hrel;have CS:=O hcs;have hq:=Q5.out;clear hcs;by_cases hlt:k<q5
      ·obtain⟨l,hl,hA,hV⟩:=CS.out.own;have hln:l.length=q5:=eU hl;obtain⟨g,rfl,hBg⟩:∃ g,p5=aD ⟨g,0,au⟩/\w.heap.size<=g:=oD hl (show 0<q5 by omega);obtain⟨y,hy⟩:∃ y,l[k]?=aD y:=⟨_,ay (by omega)⟩;obtain⟨a,ha⟩:∃ a,b.own[k]?=aD a:=⟨_,ay (by have h:=hA.len; have h2:l.length=q5:=hln; omega)⟩;obtain⟨y',hy',hym⟩:=hA.at k a ha;rw [hy] at hy';obtain rfl:=aP hy';obtain⟨y1,y2,⟨yo,yn,yc⟩⟩:=y;have HW:=O hl;have PD:=O hA;have PG:=O hV;have wF:=O hym;have KA:=O hy;have Fx:=O ha;have PI:=O hBg;have hw3:IntKind.i64.wrap ((k:Int)+1)=(k:Int)+1:=IntWalk.i64_in _ (by omega);clear hl hA hV hln hy ha hy' hym hBg ZF;go_upto_region 16 with fail;refine XV _ wr w.heap.size l w.heap.size b.me (J p1 q1 s1) (J p2 q2 s2) (J p3 q3 s3) (J p4 q4 s4) g q5 s5 k y1 y2 yo yn yc a.p _ _ _ _ _ _ _ _ _ _ _ _ _ _ _ _ _ _ _ _ _ _ _ _ _ _ _ _ _ _ _ _ _ _ _ _ _ _ _ _ _ _ _ _ _ _ _ _ _ _ _ _ _ _ _ _ _ _ _ _ _ _ _ _ _ _ _ _ _ _ _ _ _ _ _ _ _ _ _ _ CS.out.bx HW.out KA.out (wF.out.2.row (W0.out.trans (CS.out.pI.mono W0.out.size))) (HP.out.own a (aN Fx.out)) ?_;intro x v68 v69 v70 v71 v72 v73 v74 v75 v76 v77 v78 v79 t1 t2 t3 hC hO qE hBel;have UK:=O (show Cs w0 w x b q2 q4 (k+1) (p1,q1,s1) (p2,q2,s2) (p3,q3,s3) (p4,q4,s4) (aD ⟨g,0,au⟩,q5,s5) from by
        obtain⟨cur,hg⟩:=gX HW.out;exact CS.out.setW HW.out hO qE (CS.out.pI.trans (hBel _ PI.out CS.out.pI.size)) (eG.set k _ a (PD.out.mono fun _ _ q=>q.but qE hg (by decide)) Fx.out ⟨wF.out.1,aU (dH hC CS.out.pI.size)⟩) (rG (PG.out.mono fun _ _ q=>q.but qE hg (by decide)) (aO.1 KA.out).1 Fx.out ⟨wF.out.1,aU (dH hC CS.out.pI.size)⟩))
       clear hC hO qE hBel CS HW PD PG wF KA Fx PI;go_wp2
       go_roundw
       case rel=>exact⟨k+1,by omega,by go_num,UK.out⟩
       case measure=>simp [intOf]; omega
      ·obtain rfl:q5=k:=by omega
       have X1:=CS.out.bx;have Z1:=CS.out.bz;obtain⟨x0,x1,x2,x3,x4,x5⟩:=X1.gQ;obtain⟨r0,r1,r2,r3,r4,r5⟩:=Z1.gQ;obtain⟨t0,t1,t2,t3,t4,t5⟩:=Z1.nS;have zz:=Z1.lt;have FB:=O (dP Z1 (U Z b.me) (J p1 q1 s1) (J p2 q2 s2) (J p3 q3 s3) (J p4 q4 s4) (J p5 q5 s5));have FD:=O (CS.out.done (U Z b.me) (J p1 q1 s1) (J p2 q2 s2) (J p3 q3 s3) (J p4 q4 s4) (J p5 q5 s5));clear X1 Z1 CS;go_wp2_with fail;obtain⟨v0,v1,v2,v3,v4,v5⟩:=FB.out.gQ;refine bodyPost_ret (v:=bR #[U Z b.me,J p1 q1 s1,J p2 q2 s2,J p3 q3 s3,J p4 q4 s4,J p5 q5 s5]) (by simp [results,Tryz.results33,go_sem,v0,v1,v2,v3,v4,v5]) rfl ?_;exact⟨⟨(p1,q1,s1),(p2,q2,s2),(p3,q3,s3),(p4,q4,s4),(p5,q5,s5),rfl,FD.out.1⟩,FD.out.2⟩
theorem Ia (l:List dO) (y:dO):dX pz l y<=l.length:=by
 rw [gu];exact aC (mq _ _) (by simp)
theorem KC (B:Nat) (v:Sl) (l:List dO) (x:dO) (w:aA) (ho:Own EJ w B (dN v) l) (hr:iE pz l) (hl:l.length<=900) (hB:B<=w.heap.size) :
  bL aM 37 #[dN v,pK x,.func (.func 38) #[] #[]] w fun e w'=>(∃ v':Sl,e=aL (dN v')/\Own EJ w' B (dN v') (eZ l (dX pz l (pz x)) x))/\Below B w w'/\(∀ j,j<w.heap.size->aD j≠(dN v).ownBlock->w'.heap[j]?=w.heap[j]?):=by
 have h0:=iM w (aJ #[U Z x.1,U Z x.2] 23);have X:=dK w #[U Z x.1,U Z x.2] 23;have C:=O (NG (dN v) l x _ ((Row.dB ho).on h0) hr hl);obtain⟨ks,hks⟩:∃ k,k=dX pz l (pz x):=⟨_,rfl⟩;have KL:ks<=l.length:=by rw [hks]; exact Ia _ _
 rw [<- hks] at C;rw [<- hks];generalize fF pz l (pz x)=th at *;have OW:=O (Bk.dI ho h0);have HV:=O (show (dN v).ownBlock≠au->∃ g,(dN v).ownBlock=aD g/\g<w.heap.size from fun hne=>by
  cases hb:(dN v).ownBlock with
  | none=>exact absurd hb hne
  | some g=>exact⟨g,rfl,(ho.lt g hb).2⟩)
 have B0:=O ((Below.refl B w).alloc hB (aJ #[U Z x.1,U Z x.2] 23));have X7:=O h0;have KK:=O KL;have LL:=O hl;have BB:=O hB;clear h0 ho hr hl hB hks KL;obtain⟨c1,c2⟩:=x;obtain⟨vo,vn,vc⟩:=v;simp only at C X;obtain⟨x0,x1⟩:=X.cs2;have XX:=O X;clear X;go_enter Tryz.func37,Tryz.ntmps37;go_wp2_with fail;have W1:=O (show w.heap.size<=(w.alloc (aJ #[U Z c1,U Z c2] 23)).heap.size by simp);generalize w.alloc (aJ #[U Z c1,U Z c2] 23)=W at *;refine C.out.mono ?_;rintro e w1 ⟨rfl,hb⟩;have Y:=XX.out.on hb;obtain⟨y0,y1⟩:=Y.cs2;have O1:=O (Bk.dI OW.out hb);have B1:=O (B0.out.trans (hb.mono (aC BB.out W1.out)));have BW:=O (fun j (hj:j<w.heap.size)=>(hb.block j (aB hj W1.out)).trans (X7.out.block j hj));have S1:=O (aC W1.out hb.size);clear C Y hb x0 x1;go_wp2_with fail;have hl:=LL.out;have NB:=iM w1 (aJ #[U Z c1,U Z c2] 23);refine (Au B _ l ks (c1,c2) w1.heap.size _ (Bk.dI O1.out NB) (dK w1 #[U Z c1,U Z c2] 23) ?_ KK.out (by omega) (aC (aC BB.out S1.out) NB.size)).mono ?_
 ·intro he;obtain⟨g,hg,hlt⟩:=HV.out (by rw [he]; simp);rw [he] at hg;have:=aP hg;have:=S1.out;omega
 rintro e w2 ⟨v',rfl,ho,hb,hoth⟩;obtain⟨a1,a2,hv⟩:=(Row.dB ho).len;have Q:=O (show (∃ v'':Sl,aL v'=aL (dN v'')/\Own EJ w2 B (dN v'') (eZ l ks (c1,c2)))/\Below B w w2/\(∀ j,j<w.heap.size->aD j≠(dN (vo,vn,vc)).ownBlock->w2.heap[j]?=w.heap[j]?) from ⟨⟨(a1,_,a2),by rw [hv],by subst hv; simpa [eZ] using ho⟩,(B1.out.trans (NB.mono (aC BB.out S1.out))).trans hb,fun j hj hne=>(hoth j (aB (aB hj S1.out) NB.size) hne).trans ((NB.block j (aB hj S1.out)).trans (BW.out j hj))⟩);clear ho hb hv hl NB;go_wp2;go_ret;exact Q.out
theorem Ib (l:List jD) (y:dO):dX nE l y<=l.length:=by
 rw [gu];exact aC (mq _ _) (by simp)
theorem KF (B:Nat) (v:Sl) (l:List jD) (x:jD) (w:aA) (ho:Own ED w B (dN v) l) (hr:iE nE l) (hl:l.length<=900) (hB:B<=w.heap.size) :
  bL aM 34 #[dN v,kR x,.func (.func 36) #[] #[]] w fun e w'=>(∃ v':Sl,e=aL (dN v')/\Own ED w' B (dN v') (eZ l (dX nE l (nE x)) x))/\Below B w w'/\(∀ j,j<w.heap.size->aD j≠(dN v).ownBlock->w'.heap[j]?=w.heap[j]?):=by
 have h0:=iM w (aJ #[U Z x.1,U Z x.2.1,dN x.2.2.1,U Z x.2.2.2] 36);have X:=dK w #[U Z x.1,U Z x.2.1,dN x.2.2.1,U Z x.2.2.2] 36;have C:=O (NH (dN v) l x _ ((Row.dB ho).on h0) hr hl);obtain⟨ks,hks⟩:∃ k,k=dX nE l (nE x):=⟨_,rfl⟩;have KL:ks<=l.length:=by rw [hks]; exact Ib _ _
 have e1:nE x=(x.1,x.2.1):=rfl;rw [<- e1] at C;rw [<- hks] at C;rw [<- hks];generalize fF nE l (nE x)=th at *;have OW:=O (Bk.dI ho h0);have HV:=O (show (dN v).ownBlock≠au->∃ g,(dN v).ownBlock=aD g/\g<w.heap.size from fun hne=>by
  cases hb:(dN v).ownBlock with
  | none=>exact absurd hb hne
  | some g=>exact⟨g,rfl,(ho.lt g hb).2⟩)
 have B0:=O ((Below.refl B w).alloc hB (aJ #[U Z x.1,U Z x.2.1,dN x.2.2.1,U Z x.2.2.2] 36));have X7:=O h0;have KK:=O KL;have LL:=O hl;have BB:=O hB;clear h0 ho hr hl hB hks KL;obtain⟨c1,c2,⟨c3,c4,c5⟩,c6⟩:=x;obtain⟨vo,vn,vc⟩:=v;simp only at C X;obtain⟨x0,x1,x2,x3⟩:=X.EM;have XX:=O X;clear X;go_enter bM,Tryz.ntmps34;go_wp2_with fail;have W1:=O (show w.heap.size<=(w.alloc (aJ #[U Z c1,U Z c2,J c3 c4 c5,U Z c6] 36)).heap.size by simp);generalize w.alloc (aJ #[U Z c1,U Z c2,J c3 c4 c5,U Z c6] 36)=W at *;refine C.out.mono ?_;rintro e w1 ⟨rfl,hb⟩;have Y:=XX.out.on hb;obtain⟨y0,y1,y2,y3⟩:=Y.EM;have O1:=O (Bk.dI OW.out hb);have B1:=O (B0.out.trans (hb.mono (aC BB.out W1.out)));have BW:=O (fun j (hj:j<w.heap.size)=>(hb.block j (aB hj W1.out)).trans (X7.out.block j hj));have S1:=O (aC W1.out hb.size);clear C Y hb x0 x1 x2 x3;go_wp2_with fail;have hl:=LL.out;have NB:=iM w1 (aJ #[U Z c1,U Z c2,J c3 c4 c5,U Z c6] 36);refine (AO B _ l ks (c1,c2,(c3,c4,c5),c6) w1.heap.size _ (Bk.dI O1.out NB) (dK w1 #[U Z c1,U Z c2,J c3 c4 c5,U Z c6] 36) ?_ KK.out (by omega) (aC (aC BB.out S1.out) NB.size)).mono ?_
 ·intro he;obtain⟨g,hg,hlt⟩:=HV.out (by rw [he]; simp);rw [he] at hg;have:=aP hg;have:=S1.out;omega
 rintro e w2 ⟨v',rfl,ho,hb,hoth⟩;obtain⟨a1,a2,hv⟩:=(Row.dB ho).len;have Q:=O (show (∃ v'':Sl,aL v'=aL (dN v'')/\Own ED w2 B (dN v'') (eZ l ks (c1,c2,(c3,c4,c5),c6)))/\Below B w w2/\(∀ j,j<w.heap.size->aD j≠(dN (vo,vn,vc)).ownBlock->w2.heap[j]?=w.heap[j]?) from ⟨⟨(a1,_,a2),by rw [hv],by subst hv; simpa [eZ] using ho⟩,(B1.out.trans (NB.mono (aC BB.out S1.out))).trans hb,fun j hj hne=>(hoth j (aB (aB hj S1.out) NB.size) hne).trans ((NB.block j (aB hj S1.out)).trans (BW.out j hj))⟩);clear ho hb hv hl NB;go_wp2;go_ret;exact Q.out
def Off (ob:Option Nat) (W x:aA):Prop:=(∀ j,j<W.heap.size->aD j≠ob->x.heap[j]?=W.heap[j]?)/\W.heap.size<=x.heap.size
def Tag (ob:Option Nat) (W:aA) (t:aS):Prop:=∀ g,ob=aD g->∃ d,dx W g d t
theorem gI {α:Type} {E:Ek α} {W:aA} {B:Nat} {v:aK} {l:List α} (h:Own E W B v l):Tag v.ownBlock W E.t:=by
 intro g hg;rcases eT h with⟨rfl,_⟩|⟨g',c',cur,rfl,_,h2,_⟩
 ·cases hg
 ·obtain rfl:g'=g:=by simpa [Value.ownBlock] using hg
  exact⟨cur,h2⟩
theorem Off.own {α:Type} {E:Ek α} {ob:Option Nat} {W x:aA} {B:Nat} {v:aK} {l:List α} {t:aS} (h:Off ob W x) (ho:Own E W B v l) (hg:Tag ob W t) (hne:(E.t == t)=aQ):Own E x B v l:=by
 refine⟨ho.1,?_⟩;rcases ho.2 with h2|⟨g',cap,cur,h1,h2,h3,h4⟩
 ·exact bO h2
 ·refine aU ⟨g',cap,cur,h1,h2,?_,h4⟩;rw [h.1 g' (lt_of_heap h3) fun e=>by
   obtain⟨d,hd⟩:=hg g' e.symm;exact jK (show dx W g' cur E.t from h3) hd hne rfl]
  exact h3
theorem Off.box {ob:Option Nat} {W x:aA} {b:Nat} {cs:Array aK} {s t:aS} (h:Off ob W x) (hb:dx W b cs s) (hg:Tag ob W t) (hne:(s == t)=aQ):dx x b cs s:=(h.1 b hb.lt fun e=>by
 obtain⟨d,hd⟩:=hg b e.symm;exact jK hb hd hne rfl).trans hb
theorem PM.off {w0 wr x:aA} {B:Nat} {v:aK} {p:List C5} {ob:Option Nat} {t:aS} (h:PM w0 B wr v p) (hb:Off ob wr x) (hg:Tag ob wr t) (hne:(91 == t)=aQ):PM w0 B x v p:=h.imp id fun h=>hb.own h hg hne
theorem CG.off {w0 wr x:aA} {B:Nat} {y:jD} {a:Ad} {ob:Option Nat} {t:aS} (h:CG w0 B wr y a) (hb:Off ob wr x) (hg:Tag ob wr t) (hne:(91 == t)=aQ):CG w0 B x y a:=⟨h.1,h.2.1,h.2.2.off hb hg hne⟩
theorem nC.off {w0 wr x:aA} {B:Nat} {y:iT} {a:En} {ob:Option Nat} {t:aS} (h:nC w0 B wr y a) (hb:Off ob wr x) (hg:Tag ob wr t) (hne:(91 == t)=aQ):nC w0 B x y a:=⟨h.1,h.2.1,h.2.2.1,h.2.2.2.1,h.2.2.2.2.off hb hg hne⟩
theorem Dm.off {w0 wr x:aA} {B:Nat} {y:lG} {a:Ow} {ob:Option Nat} {t:aS} (h:Dm w0 B wr y a) (hb:Off ob wr x) (hg:Tag ob wr t) (hne:(91 == t)=aQ):Dm w0 B x y a:=⟨h.1,h.2.off hb hg hne⟩
theorem Cp.X8 {w0 wr x:aA} {B:Nat} {b:Br} {nv av sv ev ov TK:Sl} {al:List Ad} (h:Cp w0 B wr b nv av sv ev ov) (hb:Off (dN av).ownBlock wr x) (hx:∃ l,p9 x B (dN TK) l/\eG (CG w0 B x) l al):Cp w0 B x { b with dG:=al } nv TK sv ev ov:=by
 obtain⟨l0,hl0,_⟩:=h.dG;have hg:=gI hl0;exact {
  near:=hb.own h.near hg (by decide)
  seen:=hb.own h.seen hg (by decide)
  dG:=hx
  ent:=by obtain⟨l,h1,h2⟩:=h.ent; exact⟨l,hb.own h1 hg (by decide),h2.mono fun _ _ h=>h.off hb hg (by decide)⟩
  own:=by obtain⟨l,h1,h2⟩:=h.own; exact⟨l,hb.own h1 hg (by decide),h2.mono fun _ _ h=>h.off hb hg (by decide)⟩ }
theorem Cp.NU {w0 wr x:aA} {B:Nat} {b:Br} {nv av sv ev ov ev':Sl} {el:List En} (h:Cp w0 B wr b nv av sv ev ov) (hb:Off (dN ev).ownBlock wr x) (hx:∃ l,jy x B (dN ev') l/\eG (nC w0 B x) l el):Cp w0 B x { b with ent:=el } nv av sv ev' ov:=by
 obtain⟨l0,hl0,_⟩:=h.ent;have hg:=gI hl0;exact {
  near:=hb.own h.near hg (by decide)
  seen:=hb.own h.seen hg (by decide)
  dG:=by obtain⟨l,h1,h2⟩:=h.dG; exact⟨l,hb.own h1 hg (by decide),h2.mono fun _ _ h=>h.off hb hg (by decide)⟩
  ent:=hx
  own:=by obtain⟨l,h1,h2⟩:=h.own; exact⟨l,hb.own h1 hg (by decide),h2.mono fun _ _ h=>h.off hb hg (by decide)⟩ }
theorem Cp.X9 {w0 wr x:aA} {B:Nat} {b:Br} {nv av sv ev ov TL:Sl} {sl:List dO} (h:Cp w0 B wr b nv av sv ev ov) (hb:Off (dN sv).ownBlock wr x) (hx:Ac x B (dN TL) sl):Cp w0 B x { b with seen:=sl } nv av TL ev ov:=by
 have hg:=gI h.seen;exact {
  near:=hb.own h.near hg (by decide)
  seen:=hx
  dG:=by obtain⟨l,h1,h2⟩:=h.dG; exact⟨l,hb.own h1 hg (by decide),h2.mono fun _ _ h=>h.off hb hg (by decide)⟩
  ent:=by obtain⟨l,h1,h2⟩:=h.ent; exact⟨l,hb.own h1 hg (by decide),h2.mono fun _ _ h=>h.off hb hg (by decide)⟩
  own:=by obtain⟨l,h1,h2⟩:=h.own; exact⟨l,hb.own h1 hg (by decide),h2.mono fun _ _ h=>h.off hb hg (by decide)⟩ }
theorem qF {α β:Type} {R:α->β->Prop} {l:List α} {m:List β} (h:eG R l m) (k:Nat) {a:α} {b:β} (hr:R a b):eG R (eZ l k a) (eZ m k b) :=
 ((h.take k).append (.cons hr .nil)).append (h.drop k)
theorem keys_eq {w0 wr:aA} {B:Nat}:∀ {l:List jD} {al:List Ad},eG (CG w0 B wr) l al->l.map nE=al.map Ad.id
 | _,_,.nil=>rfl
 | _,_,.cons h t=>by rw [bI,bI,keys_eq t]; exact congrArg (·::_) h.1
theorem xO {α:Type} (key:α->dO) (l:List α):iE key l↔iE (fun x:dO=>x) (l.map key):=by
 unfold iE;rw [bf]
theorem qG {g:Nat} {t:aS}:∀ (vs:List aK) (o:Nat) (w:aA) (cur:Array aK),dx w g cur t->∃ cur',dx (w.setCells g o vs) g cur' t/\cur'.size=cur.size/\cur'.toList.take o=cur.toList.take o
 | [],o,w,cur,h=>⟨cur,h,rfl,rfl⟩
 | v::r,o,w,cur,h=>by
  obtain⟨cur',h1,h2,h3⟩:=qG r (o+1) (w.setCell ⟨g,o,au⟩ v) _ (dY (k:=o) h v);refine⟨cur',h1,by rw [h2]; simp,?_⟩;have h4:=congrArg (bP o) h3;rw [aW,aW,bD (by omega)] at h4;rw [h4,Array.toList_setIfInBounds,List.take_set_of_le (aI _)]
theorem qH (g:Nat):∀ (vs:List aK) (o:Nat) (w:aA),But g w (w.setCells g o vs)
 | [],_,_w=>⟨fun _ _ _=>rfl,aI _⟩
 | v::r,o,w=>(dM w g o v).trans (qH g r (o+1) _)
theorem below_setCells {B g:Nat} (hB:B<=g):∀ (vs:List aK) (o:Nat) (W w:aA),Below B W w->Below B W (w.setCells g o vs)
 | [],_,_,_,h=>h
 | v::r,o,W,_w,h=>below_setCells hB r (o+1) W _ (h.setCell (p:=⟨g,o,au⟩) hB v)
theorem xP {α:Type} {E:Ek α} (K:E.Ok) (hz:∀ v∈E.z.cells.toList,v.oneCell'=bF) {W:aA} {B g n cap i:Nat} {L:List α} (h:Own E W B (J (aD ⟨g,0,au⟩) n cap) L) (hi:i<n) (ty:aS) :
  ∃ W',(bG #[E.ts] ty #[J (aD ⟨g,i * E.n,au⟩) (n-i) (cap-i)]).run aM W=.ok (.tuple #[]) W'/\Own E W' B (J (aD ⟨g,0,au⟩) i cap) (L.take i)/\But g W W'/\(∀ B' W0,B'<=g->Below B' W0 W->Below B' W0 W'):=by
 have hln:=eU h;rcases eT h with⟨h1,_⟩|⟨g',cap',cur,h1,h2,h3,h4,h5,h6,h7⟩
 ·cases h1
 ·obtain⟨rfl,_,rfl⟩:g=g'/\n=L.length/\cap=cap':=by simpa using h1
  have hzs:(aH E.z.cells (n-i)).toList.length=(n-i) * E.n:=by simp [aH,K.zs]
  have h10:i * E.n+(n-i) * E.n=n * E.n:=by rw [<- Nat.add_mul,Nat.add_sub_cancel' (aR hi)]
  have h11:n * E.n<=cap * E.n:=aX _ (by omega);have hone:∀ v∈(aH E.z.cells (n-i)).toList,v.oneCell'=bF:=by
   intro v hv;simp only [aH,Array.toList_map,bg] at hv;obtain⟨j,_,rfl⟩:=hv;have hp:=K.pos;have hlt:j % E.z.cells.size<E.z.cells.size:=Nat.mod_lt _ (by rw [K.zs]; exact hp);refine hz _ ?_;rw [getElem!_pos E.z.cells (j % E.z.cells.size) hlt,Array.mem_toList_iff];exact Array.getElem_mem hlt
  have hst:=run_storeCells_cells (P:=aM) g (i * E.n) (aH E.z.cells (n-i)).toList 0 W (by
   intro j hj;rw [hzs] at hj;rw [bK,h3.cell];have:i * E.n+j<cur.size:=by rw [h6]; omega
   simp [this]) (fun j _=>h3.fr _) hone
  rw [bK] at hst;obtain⟨ii,i1,i2,i3,i4⟩:=K.info;obtain⟨cur',c1,c2,c3⟩:=qG (aH E.z.cells (n-i)).toList (i * E.n) W cur h3;refine⟨W.setCells g (i * E.n) (aH E.z.cells (n-i)).toList,?_,?_,qH _ _ _ _,fun B' W0 hB hb=>below_setCells hB _ _ _ _ hb⟩
  ·obtain⟨m,hm⟩:∃ m,n-i=m+1:=⟨n-i-1,by omega⟩;rw [hm] at hst ⊢;have hv:∀ w,(zeroValue E.t).run aM w=.ok E.z w:=fun w=>by simp [go_sem,zeroValue,typeInfo,i1,i2]
   simp [bG,run_underlying K.hu,hv,hst]
  ·refine jR K (by rw [List.length_take]; omega) h2 c1 (by omega) h5 (by rw [c2]; exact h6) ?_;rw [c3];have h8:=congrArg (bP (i * E.n)) h7;rw [aW,kF K,bD (by rw [<- hln] at hi; exact aX _ (aR hi))] at h8;exact h8
theorem Ic {α:Type} {key:α->dO} {l:List α} {x:dO} (h:fC (l.map key) x=-1):∀ (j:Nat) (y:α),l[j]?=aD y->key y≠x:=by
 intro j y hj hy;have h1:=Ak (l.map key) x;rw [h] at h1;have:x∈l.map key:=bg.2 ⟨y,aN hj,hy⟩;simp [this] at h1
theorem xQ:∀ {l:List dO} {x:dO} {k:Nat},fC l x=k->l[k]?=aD x/\∀ (j:Nat) (y:dO),j<k->l[j]?=aD y->y≠x
 | [],x,k,h=>by simp [fC] at h <;> omega
 | a::l,x,k,h=>by
  unfold fC at h;by_cases hax:a=x
  ·rw [if_pos hax] at h;obtain rfl:k=0:=by omega
   exact⟨by simpa using hax,fun j y hj=>by omega⟩
  ·rw [if_neg hax] at h;by_cases h2:fC l x=-1
   ·rw [if_pos h2] at h; omega
   ·rw [if_neg h2] at h;cases k with
    | zero=>have:=qz l x; omega
    | succ k =>
     obtain⟨h3,h4⟩:=xQ (l:=l) (x:=x) (k:=k) (by omega);refine⟨by simpa using h3,fun j y hj hy=>?_⟩;cases j with
     | zero =>
      obtain rfl:a=y:=by simpa using hy
      exact hax
     | succ j=>exact h4 j y (by omega) (by simpa using hy)
def Fy (B:Nat) (b1 _b2:Nat) (_me:Int) (_z1:aK) (o2:Option bH) (n2 c2:Nat) (_z3 _z4 _z5:aK) (y1 y2:Int) (yo:Option bH) (yn yc:Nat) (y4:Int) (p:List C5) (i:Nat) (v:aK) (x:aA):Prop :=
 match i with
 | 0=>v=aG (aD ⟨b1,2,au⟩)
 | 1=>v=J o2 n2 c2
 | 2=>v=bR #[U Z y1,U Z y2,J yo yn yc,U Z y4]
 | 3=>∃ s:Sl,v=kR (y1,y2,s,y4)/\ig x B (dN s) p
 | _=>True
noncomputable def PN:Code:=((Tryz.f8.body.bind (eP 4)).getD .skip)
theorem KG (B:Nat) (b1 b2:Nat) (me:Int) (z1:aK) (o2:Option bH) (n2 c2:Nat) (z3 z4 z5:aK) (y1 y2:Int) (yo:Option bH) (yn yc:Nat) (y4:Int) (p:List C5) (i:Nat) (v:aK) (x x':aA) (h:Fy B b1 b2 me z1 o2 n2 c2 z3 z4 z5 y1 y2 yo yn yc y4 p i v x) (hb:Below x.heap.size x x'):Fy B b1 b2 me z1 o2 n2 c2 z3 z4 z5 y1 y2 yo yn yc y4 p i v x':=by
 by_cases hi:i<4
 ·rcases (by omega:i=0\/i=1\/i=2\/i=3) with rfl|rfl|rfl|rfl
  ·exact h
  ·exact h
  ·exact h
  ·obtain⟨s,h1,h2⟩:=h; exact⟨s,h1,Bk.dI h2 hb⟩
 ·unfold Fy
  split <;> first | omega | trivial
theorem Ya (Q:Exit->Act->aA->Prop) (W:aA) (B0:Nat) (l:List jD) (b1 b2:Nat) (me:Int) (z1:aK) (o2:Option bH) (n2 c2:Nat) (z3 z4 z5:aK) (y1 y2:Int) (yo:Option bH) (yn yc:Nat) (y4:Int) (p:List C5) (u0 u1 u4 u5 u6 u7 u8 u9 u10 u11 u12 u13 u14 u15 u16 u17 u18 u19 u20 u21 u22 u23 u24 u25:aK)
  (h1:dx W b1 #[U Z me,z1,J o2 n2 c2,z3,z4,z5] 30) (h2:dx W b2 #[U Z y1,U Z y2,J yo yn yc,U Z y4] 36) (ho:p9 W B0 (J o2 n2 c2) l) (hr:iE nE l) (hl:l.length<=900) (hB:B0<=W.heap.size) (hb0:b1<B0) (hp:gq W (J yo yn yc) p) (lp:p.length<=900)
  (hQ:∀ (w1:aA) (v13 v14 v15 v16 v17 v18:aK) (s1:Option bH) (s2 s3:Nat) (t1:Option bH) (t2 t3:Nat),dx w1 b1 #[U Z me,z1,J o2 n2 c2,z3,z4,z5] 30->p9 w1 B0 (J t1 t2 t3) (eZ l (dX nE l (y1,y2)) (y1,y2,(s1,s2,s3),y4))->ig w1 W.heap.size (J s1 s2 s3) p->Off (dN (o2,n2,c2)).ownBlock W w1->Below B0 W w1->Q .normal ⟨(u0::u1::aG (aD ⟨b1,0,au⟩)::aG (aD ⟨b2,0,au⟩)::u4::u5::u6::u7::u8::u9::u10::u11::u12::v13::v14::v15::v16::v17::v18::u19::u20::u21::u22::u23::u24::u25::[]).toArray,[]⟩ (w1.setCell ⟨b1,2,au⟩ (J t1 t2 t3))) :
  Code.wp aM PN Q ⟨(u0::u1::aG (aD ⟨b1,0,au⟩)::aG (aD ⟨b2,0,au⟩)::u4::u5::u6::u7::u8::u9::u10::u11::u12::u13::u14::u15::u16::u17::u18::u19::u20::u21::u22::u23::u24::u25::[]).toArray,[]⟩ W:=by
 have HQ:=O hQ;have H1:=O h1;have H2:=O h2;have HO:=O ho;have HR:=O hr;have HL:=O hl;have HB:=O hB;have H0:=O hb0;have HP:=O hp;have LP:=O lp;clear hQ h1 h2 ho hr hl hB hb0 hp lp;have o9:=KG W.heap.size b1 b2 me z1 o2 n2 c2 z3 z4 z5 y1 y2 yo yn yc y4 p;unfold PN
 conv=>arg 2; whnf
 have nd:∀ j,(j<13\/17<=j)->∀ i,i<4->(fun i=>13+i) i≠j:=by
  intro j hj i hi h;simp only at h;omega
 refine Rg.iV 7 4 (fun i=>13+i) (fun _=>4) (Fy W.heap.size b1 b2 me z1 o2 n2 c2 z3 z4 z5 y1 y2 yo yn yc y4 p) (by kernel_rfl) (by kernel_rfl) rfl (by decide) (fun i j _ _ h=>by have h2:13+i=13+j:=h; omega) (fun i hi=>by show 13+i<26; omega) ?_ (fun _=>Rg.nu 14 (by kernel_rfl)) ?_ ?_
 ·intro i o hi ho a x D hnd hc hD hb seen K hK;clear HQ;rcases (by omega:i=0\/i=1\/i=2\/i=3) with rfl|rfl|rfl|rfl
  ·cases ho;have e2:a.eval (.tmp 2)=aG (aD ⟨b1,0,au⟩):=seen.kp 2 _ (nd 2 (by omega)) rfl;exact Rg.dw rfl rfl (Rg.eD a.eval _ 30 (.tmp 2) 2 rfl (by rw [e2]; simp [go_sem])) (hK _ _ rfl (Below.refl _ _) fun _ _ _ _ _ _ _ h=>h)
  ·cases ho;have e13:a.eval (.tmp 13)=aG (aD ⟨b1,2,au⟩):=seen.at_ ⟨0,.data⟩ (by simp) rfl (aU (by decide));have y2:=(H1.out.on hb).cell 2;simp only [ah,aj,ak] at y2;exact Rg.dw rfl rfl (Rg.eH a.eval _ 25 (.tmp 13) rfl (by rw [e13]; simp [go_sem,y2])) (hK _ _ rfl (Below.refl _ _) fun _ _ _ _ _ _ _ h=>h)
  ·cases ho;have e3:a.eval (.tmp 3)=aG (aD ⟨b2,0,au⟩):=seen.kp 3 _ (nd 3 (by omega)) rfl;obtain⟨y0,y1,y2,y3⟩:=(H2.out.on hb).EM;exact Rg.dw rfl rfl (Rg.eH a.eval _ 36 (.tmp 3) rfl (by rw [e3]; simp [go_sem,y0,y1,y2,y3])) (hK _ _ rfl (Below.refl _ _) fun _ _ _ _ _ _ _ h=>h)
  ·cases ho;have e15:a.eval (.tmp 15)=bR #[U Z y1,U Z y2,J yo yn yc,U Z y4]:=seen.at_ ⟨2,.data⟩ (by simp) rfl (aU (by decide));exact Rg.gG rfl rfl (Rw.iq a.eval _ (.tmp 15) 36 35 rfl e15 rfl _ (fG Tryz.func35 rfl rfl _ _)) (uH (y1,y2,(yo,yn,yc),y4) p x (HP.out.on hb) LP.out) fun e w1 h=>by
    obtain⟨⟨s,rfl,h1⟩,h3⟩:=h;exact⟨_,rfl,hK _ _ ⟨s,rfl,dH h1 hb.size⟩ (h3.mono hb.size) fun j u hj _ _ _ hne h=>o9 j u _ _ h h3⟩
 ·intro kk o h1 h2 ho;rcases (by omega:kk=5\/kk=6) with rfl|rfl
  ·cases ho;exact⟨⟨4,.phase⟩,by simp,rfl,rfl⟩
  ·cases ho;exact⟨⟨5,.data⟩,by simp,rfl,rfl⟩
 ·intro a w' df sz kp ⟨vs,hv⟩ hb;have sz':a.tmps.size=26:=sz;have g2:a.tmps[2]?=aD (aG (aD ⟨b1,0,au⟩)):=(kp 2 (nd 2 (by omega))).trans rfl;have g14:a.tmps[14]?=aD (J o2 n2 c2):=by
   have h:vs 1=J o2 n2 c2:=(hv 1 (by omega)).2 (by decide);rw [<- h];exact (hv 1 (by omega)).1
  obtain⟨⟨s1,s2,s3⟩,hs,hc⟩:=(hv 3 (by omega)).2 (by decide);have g16:a.tmps[16]?=aD (kR (y1,y2,(s1,s2,s3),y4)):=((hv 3 (by omega)).1).trans (congrArg aD hs);have B1:=H1.out.on hb;show Rg.iy _ _ _ 3 4 a w';simp only [Rg.iy];refine Rg.gG rfl rfl (oO a.eval _ (.tmp 14) (.tmp 16) (.func 36) 25 36 79 34 rfl (Rg.dL g14) (Rg.dL g16) rfl rfl _ (fG bM rfl rfl _ _)) (KF B0 (o2,n2,c2) l (y1,y2,(s1,s2,s3),y4) w' (Bk.dI HO.out hb) HR.out HL.out (aC HB.out hb.size)) fun e w1 h=>?_;obtain⟨⟨⟨t1,t2,t3⟩,rfl,hown⟩,hbel,hoth⟩:=h;refine⟨_,rfl,?_⟩;have Yb:(a.put (aD 17) (J t1 t2 t3)).tmps[17]?=aD (J t1 t2 t3):=by simp [Act.put,sz']
  show Go.wpOp _ _ _ 5 _ (a.put (aD 17) (J t1 t2 t3)) _;refine Rg.dw rfl rfl (Rg.eD _ _ 30 (.tmp 2) 2 rfl (v:=aG (aD ⟨b1,2,au⟩)) (by rw [Rg.dL ((Rg.get_put _ 17 _ 2 (by decide)).trans g2)]; simp [go_sem])) ?_;have Yc:((a.put (aD 17) (J t1 t2 t3)).put (aD 18) (aG (aD ⟨b1,2,au⟩))).tmps[18]?=aD (aG (aD ⟨b1,2,au⟩)):=by simp [Act.put,sz']
  show Go.wpOp _ _ _ 6 _ ((a.put (aD 17) (J t1 t2 t3)).put (aD 18) (aG (aD ⟨b1,2,au⟩))) _;have B2:dx w1 b1 _ _:=(hbel.block b1 H0.out).trans B1;have cx:=B2.cell 2;have fx:=B2.fr 2;simp only [ah,aj,ak] at cx;refine Rg.gN 25 (.tmp 18) (.tmp 17) rfl rfl rfl rfl (Rg.dL Yc) (Rg.dL ((Rg.get_put _ 18 _ 17 (by decide)).trans Yb)) (w':=w1.setCell ⟨b1,2,au⟩ (J t1 t2 t3)) (by simp [go_sem,cx,fx]) ?_;have of1:Off (dN (o2,n2,c2)).ownBlock w' w1:=⟨hoth,hbel.size⟩;have of2:Off (dN (o2,n2,c2)).ownBlock W w1:=⟨fun j hj hne=>(hoth j (aB hj hb.size) hne).trans (hb.block j hj),aC hb.size hbel.size⟩;have wL:∀ j,(j<13\/19<=j)->((a.put (aD 17) (J t1 t2 t3)).put (aD 18) (aG (aD ⟨b1,2,au⟩))).tmps[j]?=(u0::u1::aG (aD ⟨b1,0,au⟩)::aG (aD ⟨b2,0,au⟩)::u4::u5::u6::u7::u8::u9::u10::u11::u12::u13::u14::u15::u16::u17::u18::u19::u20::u21::u22::u23::u24::u25::[])[j]?:=fun j hj=>(Rg.get_put _ 18 _ j (by omega)).trans ((Rg.get_put _ 17 _ j (by omega)).trans ((kp j (nd j (by omega))).trans ah));obtain⟨mid,hmid,hfr⟩:=Rg.iC (a:=(a.put (aD 17) (J t1 t2 t3)).put (aD 18) (aG (aD ⟨b1,2,au⟩))) 13 6 df (by simp [Rg.size_put,sz']) (by simp) wL;show Q .normal ((a.put (aD 17) (J t1 t2 t3)).put (aD 18) (aG (aD ⟨b1,2,au⟩))) _;rw [hfr]
  match mid,hmid with
  | [v13,v14,v15,v16,v17,v18],_ =>
   exact HQ.out w1 _ _ _ _ _ _ s1 s2 s3 t1 t2 t3 B2 hown (of1.own hc (gI (Bk.dI HO.out hb)) (by decide)) of2 ((hb.mono HB.out).trans hbel)
abbrev AX (l:List Ad):Prop:=iE Ad.id l
abbrev Fz (l:List dO):Prop:=iE (fun x:dO=>x) l
def iP (W:aA) (nv:Sl) (l:List Int):Prop:=∃ B,um W B (dN nv) l
theorem iP.on {W W':aA} {nv:Sl} {l:List Int} (h:iP W nv l) (hb:Below W.heap.size W W'):iP W' nv l:=by obtain⟨B,h⟩:=h; exact⟨B,Bk.dI h hb⟩
def KH (W:aA) (P:Prop) (r:Br×Bool) (e:Ending) (w':aA):Prop:=(∃ nv av sv ev ov:Sl,e=aL (.tuple #[nO r.1.me nv av sv ev ov,aV r.2])/\lW w' r.1 nv av sv ev ov/\(P->iP w' nv r.1.near))/\Below W.heap.size W w'
def jf (W:aA) (b:Br) (nv av sv ev ov:Sl):Prop:=∃ (V:aA) (B:Nat),Cp (vw V) B W b nv av sv ev ov
theorem jf.on {W W':aA} {b:Br} {nv av sv ev ov:Sl} (h:jf W b nv av sv ev ov) (hb:Below W.heap.size W W'):jf W' b nv av sv ev ov:=by
 obtain⟨V,B,h⟩:=h;exact⟨V,B,h.grow hb⟩
theorem Cp.TM {V wr:aA} {B:Nat} {b:Br} {nv av sv ev ov:Sl} (h:Cp (vw V) B wr b nv av sv ev ov):lW wr b nv av sv ev ov where
 near:=Row.dB h.near
 dG:=by obtain⟨l,h1,h2⟩:=h.dG; exact⟨l,Row.dB h1,h2.mono fun _ _ q=>⟨q.1,q.2.1,q.2.2.elim zi Row.dB⟩⟩
 seen:=Row.dB h.seen
 ent:=by obtain⟨l,h1,h2⟩:=h.ent; exact⟨l,Row.dB h1,h2.mono fun _ _ q=>⟨q.1,q.2.1,q.2.2.1,q.2.2.2.1,q.2.2.2.2.elim zi Row.dB⟩⟩
 own:=by obtain⟨l,h1,h2⟩:=h.own; exact⟨l,Row.dB h1,h2.mono fun _ _ q=>⟨q.1,q.2.elim zi Row.dB⟩⟩
theorem jf.br {W:aA} {b:Br} {nv av sv ev ov:Sl} (h:jf W b nv av sv ev ov):lW W b nv av sv ev ov:=by
 obtain⟨V,B,h⟩:=h;exact h.TM
theorem jf.no {W:aA} {b:Br} {nv av sv ev ov:Sl} (h:jf W b nv av sv ev ov):iP W nv b.near:=by
 obtain⟨V,B,h⟩:=h;exact⟨B,h.near⟩
theorem jf.oh {W W':aA} {b:Br} {nv av sv ev ov:Sl} (h:jf W b nv av sv ev ov) {g:Nat} {d:Array aK} {t:aS} (hb:But g W W') (hg:dx W g d t) (h1:(3 == t)=aQ) (h2:(23 == t)=aQ) (h3:(36 == t)=aQ) (h4:(67 == t)=aQ) (h5:(88 == t)=aQ) (h6:(91 == t)=aQ):jf W' b nv av sv ev ov:=by
 obtain⟨V,B,h⟩:=h;exact⟨V,B,h.oh hb hg h1 h2 h3 h4 h5 h6⟩
def qI (W:aA) (P R:Prop) (r:Br×Bool) (e:Ending) (w':aA):Prop:=(∃ nv av sv ev ov:Sl,e=aL (.tuple #[nO r.1.me nv av sv ev ov,aV r.2])/\lW w' r.1 nv av sv ev ov/\(P->iP w' nv r.1.near)/\(R\/r.2=bF->jf w' r.1 nv av sv ev ov))/\Below W.heap.size W w'
theorem qI.one {W:aA} {P R:Prop} {r:Br×Bool} {e:Ending} {w':aA} (h:qI W P R r e w'):KH W P r e w':=by
 obtain⟨⟨a1,a2,a3,a4,a5,h1,h2,h3,_⟩,h5⟩:=h;exact⟨⟨a1,a2,a3,a4,a5,h1,h2,h3⟩,h5⟩
theorem Ie {b:Br} {a:Ad} (h:a.id∈b.seen):jI b a=(b,aQ):=by unfold jI; rw [if_pos h]
theorem Dx {b:Br} {a:Ad} (h:¬ a.id∈b.seen):jI b a=({ b with seen:=eZ b.seen (gF b.seen a.id) a.id,dG:=eZ b.dG (gF (b.dG.map Ad.id) a.id) a },bF):=by unfold jI; rw [if_neg h]
theorem Ig (b:Br) (a:Ad) (nv av sv ev ov:Sl) (x:jD) (w:aA) (h:lW w b nv av sv ev ov) (ha:y9 w x a) (hf:zh b) (hp:mE b) (hla:a.p.length<=900) (hr1:Fz b.seen) (hr2:AX b.dG) :
  bL aM 8 #[nO b.me nv av sv ev ov,kR x] w (qI w (iP w nv b.near) (jf w b nv av sv ev ov) (jI b a)):=by
 obtain⟨no,nn,nc⟩:=nv;obtain⟨ao,an,ac⟩:=av;obtain⟨so,sn,sc⟩:=sv;obtain⟨eo,en,ec⟩:=ev;obtain⟨oo,kg,oc⟩:=ov;obtain⟨y1,y2,⟨yo,yn,yc⟩,y4⟩:=x;obtain⟨h0,h1,h2⟩:=iO w #[U Z b.me,J no nn nc,J ao an ac,J so sn sc,J eo en ec,J oo kg oc] #[U Z y1,U Z y2,J yo yn yc,U Z y4] 30 36;have h3:=iM ((w.alloc (aJ #[U Z b.me,J no nn nc,J ao an ac,J so sn sc,J eo en ec,J oo kg oc] 30)).alloc (aJ #[U Z y1,U Z y2,J yo yn yc,U Z y4] 36)) (aJ #[U Z 0,J au 0 0,J au 0 0,J au 0 0,J au 0 0,J au 0 0] 30);have h4:=dK ((w.alloc (aJ #[U Z b.me,J no nn nc,J ao an ac,J so sn sc,J eo en ec,J oo kg oc] 30)).alloc (aJ #[U Z y1,U Z y2,J yo yn yc,U Z y4] 36)) #[U Z 0,J au 0 0,J au 0 0,J au 0 0,J au 0 0,J au 0 0] 30;have hsz:((w.alloc (aJ #[U Z b.me,J no nn nc,J ao an ac,J so sn sc,J eo en ec,J oo kg oc] 30)).alloc (aJ #[U Z y1,U Z y2,J yo yn yc,U Z y4] 36)).heap.size=w.heap.size+1+1:=by simp
 rw [hsz] at h4;have BB:=O (h0.trans (h3.mono h0.size));have X1:=O (h1.on h3);have X2:=O (h2.on h3);have X3:=O h4;have HH:=O h;have HA:=O ha;have HF:=O hf;have HP:=O hp;have LA:=O hla;have R1:=O hr1;have R2:=O hr2;have ei:a.id=(y1,y2):=ha.1.symm;have SW:=O (G9 b.me (J no nn nc) (J ao an ac) (J eo en ec) (J oo kg oc) (so,sn,sc) b.seen (y1,y2) _ (h.seen.on BB.out));obtain⟨r,hr⟩:∃ r,decide ((y1,y2)∈b.seen)=r:=⟨_,rfl⟩;rw [hr] at SW;have HR:=O hr;have EI:=O ei;obtain⟨x0,x1,x2,x3,x4,x5⟩:=X1.out.gQ;obtain⟨d0,d1,d2,d3⟩:=X2.out.EM;obtain⟨z0,z1,z2,z3,z4,z5⟩:=X3.out.gQ;obtain⟨t0,t1,t2,t3,t4,t5⟩:=X3.out.nS;have zz:=X3.out.lt;clear h0 h1 h2 h3 h4 hsz h ha hf hp hla hr1 hr2 hr ei;go_enter Tryz.func8,Tryz.ntmps8;go_wp2_with fail;generalize ((w.alloc (aJ #[U Z b.me,J no nn nc,J ao an ac,J so sn sc,J eo en ec,J oo kg oc] 30)).alloc (aJ #[U Z y1,U Z y2,J yo yn yc,U Z y4] 36)).alloc (aJ #[U Z 0,J au 0 0,J au 0 0,J au 0 0,J au 0 0,J au 0 0] 30)=W at *;refine SW.out.mono ?_;rintro e1 w1 ⟨rfl,hb⟩;have B1:=O (BB.out.trans (hb.mono BB.out.size));have Y1:=X1.out.on hb;have Y2:=X2.out.on hb;have Y3:=X3.out.on hb;clear SW hb x0 x1 x2 x3 x4 x5 d0 d1 d2 d3 z0 z1 z2 z3 z4 z5 t0 t1 t2 t3 t4 t5 zz X1 X2 X3;obtain⟨x0,x1,x2,x3,x4,x5⟩:=Y1.gQ;obtain⟨z0,z1,z2,z3,z4,z5⟩:=Y3.gQ;obtain⟨t0,t1,t2,t3,t4,t5⟩:=Y3.nS;have zz:=Y3.lt;cases r
 ·have nin:¬ a.id∈b.seen:=by rw [EI.out]; exact of_decide_eq_false HR.out
  have LQ:=O (Dx nin);have Z1:=O Y1;have Z2:=O Y2;have Z3:=O Y3;have L1:=O Y1.lt;have L3:=O (show w.heap.size+1<w1.heap.size from Y2.lt);clear z0 z1 z2 z3 z4 z5 t0 t1 t2 t3 t4 t5 zz nin;go_wp2_with fail;refine (kH b (no,nn,nc) (ao,an,ac) (so,sn,sc) (eo,en,ec) (oo,kg,oc) w w1 B1.out HH.out HF.out HP.out).mono ?_;rintro e2 w2 ⟨⟨⟨p1,q1,s1⟩,⟨p2,q2,s2⟩,⟨p3,q3,s3⟩,⟨p4,q4,s4⟩,⟨p5,q5,s5⟩,rfl,cp⟩,hb2⟩;have V1:=Z1.out.on hb2;have V2:=O (Z2.out.on hb2);have V3:=O (Z3.out.on hb2);clear x0 x1 x2 x3 x4 x5;obtain⟨x0,x1,x2,x3,x4,x5⟩:=V1.gQ;obtain⟨t0,t1,t2,t3,t4,t5⟩:=V1.nS;have zz:=V1.lt;have FB:=O (dP V1 (U Z b.me) (J p1 q1 s1) (J p2 q2 s2) (J p3 q3 s3) (J p4 q4 s4) (J p5 q5 s5));have FC:=O (cp.but (dW w2 w.heap.size (U Z b.me) (J p1 q1 s1) (J p2 q2 s2) (J p3 q3 s3) (J p4 q4 s4) (J p5 q5 s5)) V1);have FL:=O (dD (b:=w.heap.size) (B1.out.trans (hb2.mono B1.out.size)) (aI _) (U Z b.me) (J p1 q1 s1) (J p2 q2 s2) (J p3 q3 s3) (J p4 q4 s4) (J p5 q5 s5));have F2:=O ((dW w2 w.heap.size (U Z b.me) (J p1 q1 s1) (J p2 q2 s2) (J p3 q3 s3) (J p4 q4 s4) (J p5 q5 s5)).box V2.out (by omega));have F3:=O ((dW w2 w.heap.size (U Z b.me) (J p1 q1 s1) (J p2 q2 s2) (J p3 q3 s3) (J p4 q4 s4) (J p5 q5 s5)).box V3.out (by omega));have SZ:=O (show w1.heap.size<=(iI w2 w.heap.size (U Z b.me) (J p1 q1 s1) (J p2 q2 s2) (J p3 q3 s3) (J p4 q4 s4) (J p5 q5 s5)).heap.size by have:=hb2.size; simp; omega);have L2:=O (show w.heap.size<w1.heap.size from L1.out);clear V1 V2 V3 cp hb2 Z1 Z2 Z3 L1;go_upto_region 4 with fail;clear x0 x1 x2 x3 x4 x5 t0 t1 t2 t3 t4 t5 zz;unfold iI at FB FC FL F2 F3 SZ;generalize ((((((w2).setCell ⟨w.heap.size,0,au⟩ (U Z b.me)).setCell ⟨w.heap.size,1,au⟩ (J p1 q1 s1)).setCell ⟨w.heap.size,2,au⟩ (J p2 q2 s2)).setCell ⟨w.heap.size,3,au⟩ (J p3 q3 s3)).setCell ⟨w.heap.size,4,au⟩ (J p4 q4 s4)).setCell ⟨w.heap.size,5,au⟩ (J p5 q5 s5)=w3 at *;obtain⟨la,UM,Rx⟩:=FC.out.dG;have wG:=O UM;have HL2:=O Rx;have KE:=O (keys_eq Rx);clear UM Rx;refine Ya _ w3 w1.heap.size la w.heap.size (w.heap.size+1) b.me (J p1 q1 s1) p2 q2 s2 (J p3 q3 s3) (J p4 q4 s4) (J p5 q5 s5) y1 y2 yo yn yc y4 a.p _ _ _ _ _ _ _ _ _ _ _ _ _ _ _ _ _ _ _ _ _ _ _ _ FB.out F2.out wG.out ?_ ?_ SZ.out L2.out (HA.out.2.2.on FL.out) LA.out ?_
  ·rw [xO,KE.out,<- xO]; exact R2.out
  ·rw [HL2.out.len]; exact HF.out.dG
  intro w4 v13 v14 v15 v16 v17 v18 s1' s2' s3' t1 t2 t3 hbx hown hc hoff hbel;have ZG:=O (FC.out.X8 (TK:=(t1,t2,t3)) (al:=eZ b.dG (gF (b.dG.map Ad.id) a.id) a) hoff ⟨_,hown,by
   have hg:=gI wG.out;have h2:=HL2.out.mono fun _ _ q=>q.off hoff hg (by decide);have hk:dX nE la (y1,y2)=gF (b.dG.map Ad.id) a.id:=by rw [gu,KE.out,EI.out]
   rw [<- hk];exact qF h2 _ ⟨HA.out.1,HA.out.2.1,aU (dH hc SZ.out)⟩⟩)
  have G2:=O (show dx w4 (w.heap.size+1) _ _ from (hbel.block _ L3.out).trans F2.out);have G3:=O (show dx w4 (w.heap.size+1+1) _ _ from hoff.box F3.out (gI wG.out) (by decide));have G1:=O (show dx (w4.setCell ⟨w.heap.size,2,au⟩ (J t1 t2 t3)) w.heap.size #[U Z b.me,J p1 q1 s1,J t1 t2 t3,J p3 q3 s3,J p4 q4 s4,J p5 q5 s5] 30 by simpa using dY (k:=2) hbx (J t1 t2 t3));have Xn:=O (ZG.out.but (dM w4 w.heap.size 2 (J t1 t2 t3)) hbx);have Yd:=O ((dM w4 w.heap.size 2 (J t1 t2 t3)).box G2.out (by omega));have ZH:=O ((dM w4 w.heap.size 2 (J t1 t2 t3)).box G3.out (by omega));have GL:=O (show Below w.heap.size w (w4.setCell ⟨w.heap.size,2,au⟩ (J t1 t2 t3)) from (FL.out.trans (hbel.mono (aR L2.out))).setCell (p:=⟨w.heap.size,2,au⟩) (aI _) _);have GZ:=O (show w1.heap.size<=(w4.setCell ⟨w.heap.size,2,au⟩ (J t1 t2 t3)).heap.size by have:=SZ.out; have:=hbel.size; simp; omega);clear hbx hown hc hoff hbel ZG G2 G3 FB FC F2 F3 FL SZ wG HL2 KE;generalize w4.setCell ⟨w.heap.size,2,au⟩ (J t1 t2 t3)=w5 at *;have x3:=G1.out.cell 3;have d1:=Yd.out.cell 1;have d0:=Yd.out.cell 0;simp only [ah,aj,ak] at x3 d0 d1;go_wp2_with fail;refine (KC w1.heap.size (p3,q3,s3) b.seen (y1,y2) w5 Xn.out.seen R1.out HF.out.seen GZ.out).mono ?_;rintro e3 w6 ⟨⟨⟨r1,r2,r3⟩,rfl,hown⟩,hbel,hoth⟩;have hoff:Off (dN (p3,q3,s3)).ownBlock w5 w6:=⟨hoth,hbel.size⟩;have ZJ:=O (Xn.out.X9 (TL:=(r1,r2,r3)) (sl:=eZ b.seen (gF b.seen a.id) a.id) hoff (by
   have hk:dX pz b.seen (pz (y1,y2))=gF b.seen a.id:=by rw [gu,EI.out]; simp
   rw [<- hk,EI.out];exact hown))
  have hg:=gI Xn.out.seen;have K1:=hoff.box G1.out hg (by decide);have K3:=hoff.box ZH.out hg (by decide);have KL:=GL.out.trans (hbel.mono (aR L2.out));have M1:=O (show dx (w6.setCell ⟨w.heap.size,3,au⟩ (J r1 r2 r3)) w.heap.size #[U Z b.me,J p1 q1 s1,J t1 t2 t3,J r1 r2 r3,J p4 q4 s4,J p5 q5 s5] 30 by simpa using dY (k:=3) K1 (J r1 r2 r3));have M3:=O ((dM w6 w.heap.size 3 (J r1 r2 r3)).box K3 (by omega));have MC:=O (ZJ.out.but (dM w6 w.heap.size 3 (J r1 r2 r3)) K1);have ML:=O (show Below w.heap.size w (w6.setCell ⟨w.heap.size,3,au⟩ (J r1 r2 r3)) from KL.setCell (p:=⟨w.heap.size,3,au⟩) (aI _) _);clear x3 d0 d1;have x3:=K1.cell 3;have t3:=K1.fr 3;have zz:=K1.lt;simp only [ah,aj,ak] at x3;clear hown hbel hoth hoff hg K1 K3 KL ZJ Xn G1 Yd ZH GL GZ;go_upto_region 6 with fail;clear x3 t3 zz;generalize w6.setCell ⟨w.heap.size,3,au⟩ (J r1 r2 r3)=w7 at *;have U1:=M1.out;have U3:=M3.out;obtain⟨x0,x1,x2,x3,x4,x5⟩:=U1.gQ;obtain⟨z0,z1,z2,z3,z4,z5⟩:=U3.gQ;obtain⟨f0,f1,f2,f3,f4,f5⟩:=U3.nS;have zz:=U3.lt;have FB:=O (dP U3 (U Z b.me) (J p1 q1 s1) (J t1 t2 t3) (J r1 r2 r3) (J p4 q4 s4) (J p5 q5 s5));have FC:=O (MC.out.but (dW w7 (w.heap.size+1+1) (U Z b.me) (J p1 q1 s1) (J t1 t2 t3) (J r1 r2 r3) (J p4 q4 s4) (J p5 q5 s5)) U3);have FL:=O (dD (b:=w.heap.size+1+1) ML.out (by omega) (U Z b.me) (J p1 q1 s1) (J t1 t2 t3) (J r1 r2 r3) (J p4 q4 s4) (J p5 q5 s5));clear U1 U3 M1 M3 MC ML;go_wp2_with fail;obtain⟨v0,v1,v2,v3,v4,v5⟩:=FB.out.gQ;refine bodyPost_ret (v:=.tuple #[bR #[U Z b.me,J p1 q1 s1,J t1 t2 t3,J r1 r2 r3,J p4 q4 s4,J p5 q5 s5],aV bF]) (by simp [results,bJ,go_sem,v0,v1,v2,v3,v4,v5]) rfl ?_;rw [LQ.out];exact⟨⟨(p1,q1,s1),(t1,t2,t3),(r1,r2,r3),(p4,q4,s4),(p5,q5,s5),rfl,FC.out.TM,fun _=>⟨_,FC.out.near⟩,fun _=>⟨_,_,FC.out⟩⟩,FL.out⟩
 ·have hin:a.id∈b.seen:=by rw [EI.out]; exact of_decide_eq_true HR.out
  have LQ:=O (Ie hin);have FB:=O (dP Y3 (U Z b.me) (J no nn nc) (J ao an ac) (J so sn sc) (J eo en ec) (J oo kg oc));have FL:=O (dD (b:=w.heap.size+1+1) B1.out (by omega) (U Z b.me) (J no nn nc) (J ao an ac) (J so sn sc) (J eo en ec) (J oo kg oc));clear hin Y1 Y2 Y3;go_wp2_with fail;obtain⟨v0,v1,v2,v3,v4,v5⟩:=FB.out.gQ;refine bodyPost_ret (v:=.tuple #[bR #[U Z b.me,J no nn nc,J ao an ac,J so sn sc,J eo en ec,J oo kg oc],aV aQ]) (by simp [results,bJ,go_sem,v0,v1,v2,v3,v4,v5]) rfl ?_;rw [LQ.out];exact⟨⟨(no,nn,nc),(ao,an,ac),(so,sn,sc),(eo,en,ec),(oo,kg,oc),rfl,HH.out.on FL.out,fun h=>h.on FL.out,fun h=>(h.resolve_right (by simp)).on FL.out⟩,FL.out⟩
theorem xR (b:Br) (a:Ad) (nv av sv ev ov:Sl) (x:jD) (w:aA) (h:lW w b nv av sv ev ov) (ha:y9 w x a) (hf:zh b) (hp:mE b) (hla:a.p.length<=900) (hr1:Fz b.seen) (hr2:AX b.dG) :
  bL aM 8 #[nO b.me nv av sv ev ov,kR x] w (KH w (iP w nv b.near) (jI b a)) :=
 (Ig b a nv av sv ev ov x w h ha hf hp hla hr1 hr2).mono fun _ _ h=>h.one
def Ry (b:Br) (a:Ad):Bool:=decide (a.id∈b.seen) && (oC b.near a.par && Wr.gV a.p)
def wN (b:Br) (e:En):Bool:=match fH b.dG e.tree with
 | none=>aQ
 | some a=>!(e.from_ == a.par && !(a.par == -1)) && (oC b.near e.from_ && (!(e.up && a.par == -1) && Wr.gV e.p))
end Av
namespace Sb
open Go.RowKit Go.Sort Rw YtghlpefopidlaaaGreat.Nm Pr Bk Av
abbrev AY (W:aA) (b:Nat) (a0 a1 a2 a3 a4 a5 a6:aK):aA:=((((((W.setCell ⟨b,0,au⟩ a0).setCell ⟨b,1,au⟩ a1).setCell ⟨b,2,au⟩ a2).setCell ⟨b,3,au⟩ a3).setCell ⟨b,4,au⟩ a4).setCell ⟨b,5,au⟩ a5).setCell ⟨b,6,au⟩ a6
theorem oF {W:aA} {b:Nat} {t:aS} {z0 z1 z2 z3 z4 z5 z6:aK} (h:dx W b #[z0,z1,z2,z3,z4,z5,z6] t) (a0 a1 a2 a3 a4 a5 a6:aK):dx (AY W b a0 a1 a2 a3 a4 a5 a6) b #[a0,a1,a2,a3,a4,a5,a6] t:=by
 have h2:=dY (k:=6) (dY (k:=5) (dY (k:=4) (dY (k:=3) (dY (k:=2) (dY (k:=1) (dY (k:=0) h a0) a1) a2) a3) a4) a5) a6;simpa using h2
theorem kS {B:Nat} {W0 W:aA} {b:Nat} (h:Below B W0 W) (hb:B<=b) (a0 a1 a2 a3 a4 a5 a6:aK):Below B W0 (AY W b a0 a1 a2 a3 a4 a5 a6):=(((((((h).setCell (p:=⟨b,0,au⟩) hb a0).setCell (p:=⟨b,1,au⟩) hb a1).setCell (p:=⟨b,2,au⟩) hb a2).setCell (p:=⟨b,3,au⟩) hb a3).setCell (p:=⟨b,4,au⟩) hb a4).setCell (p:=⟨b,5,au⟩) hb a5).setCell (p:=⟨b,6,au⟩) hb a6
theorem AZ {α:Type} {E:Ek α} {W:aA} {B:Nat} {v:aK} {l:List α} (h:Own E W B v l) (b:Nat) (hb:b<B) (a0 a1 a2 a3 a4 a5 a6:aK):Own E (AY W b a0 a1 a2 a3 a4 a5 a6) B v l :=
 dZ (dZ (dZ (dZ (dZ (dZ (dZ (h) b 0 a0 hb) b 1 a1 hb) b 2 a2 hb) b 3 a3 hb) b 4 a4 hb) b 5 a5 hb) b 6 a6 hb
theorem Ba (w:aA) (b:Nat) (a0 a1 a2 a3 a4 a5 a6:aK):But b w (AY w b a0 a1 a2 a3 a4 a5 a6) :=
 ((((((dM _ b _ _).trans (dM _ b _ _)).trans (dM _ b _ _)).trans (dM _ b _ _)).trans (dM _ b _ _)).trans (dM _ b _ _)).trans (dM _ b _ _)
theorem tT (x:iT) (p:List C5) (w:aA) (hp:gq w (dN x.2.2.2.2.1) p) (hl:p.length<=900) :
  bL aM 85 #[tF x] w fun e w'=>(∃ v':Sl,e=aL (tF (x.1,x.2.1,x.2.2.1,x.2.2.2.1,v',x.2.2.2.2.2.1,x.2.2.2.2.2.2))/\ig w' w.heap.size (dN v') p)/\Below w.heap.size w w':=by
 obtain⟨y1,y2,y3,y4,⟨s1,s2,s3⟩,y6,y7⟩:=x;obtain⟨h0,X,Y⟩:=iO w #[U Z y1,U Z y2,U Z y3,U Z y4,J s1 s2 s3,U Z y6,aV y7] #[U Z 0,U Z 0,U Z 0,U Z 0,J au 0 0,U Z 0,aV aQ] 67 67;have C:=O (jJ (s1,s2,s3) p _ (hp.on h0) hl);have B:=O h0;have x4:=X.cell 4;simp only [ah,aj,ak] at x4;have X:=O X;have Y:=O Y;clear h0 hp hl;go_enter Tryz.func85,Tryz.ntmps85;go_wp2_with fail;generalize (w.alloc (aJ #[U Z y1,U Z y2,U Z y3,U Z y4,J s1 s2 s3,U Z y6,aV y7] 67)).alloc (aJ #[U Z 0,U Z 0,U Z 0,U Z 0,J au 0 0,U Z 0,aV aQ] 67)=W at *;refine C.out.mono ?_;rintro e w1 ⟨⟨⟨u1,u2,u3⟩,rfl,ho⟩,hb⟩;have X1:=X.out.on hb;have Y1:=Y.out.on hb;have hs:w.heap.size<W.heap.size:=X.out.lt;have O1:=O (dZ ho w.heap.size 4 (J u1 u2 u3) hs);have XB:=O (show dx _ _ #[U Z y1,U Z y2,U Z y3,U Z y4,J u1 u2 u3,U Z y6,aV y7] _ from by simpa using dY (k:=4) X1 (J u1 u2 u3));have YB:=O (show dx _ _ _ _ from (RowKit.Below.heap_setCell w1 ⟨w.heap.size,4,au⟩ (J u1 u2 u3) _ (show w.heap.size+1≠w.heap.size by omega)).trans Y1);have B1:=O ((B.out.trans (hb.mono B.out.size)).setCell (p:=⟨w.heap.size,4,au⟩) (aI _) (J u1 u2 u3));have ZK:=X1.cell 4;have f4:=X1.fr 4;have z4:=X1.lt;simp only [ah,aj,ak] at ZK;clear X1 Y1 ho hb x4 C;go_upto_region 2 with fail;clear ZK f4 z4;generalize w1.setCell ⟨w.heap.size,4,au⟩ (J u1 u2 u3)=w2 at *;obtain⟨x0,x1,x2,x3,x4,x5,x6⟩:=XB.out.zT;obtain⟨r0,r1,r2,r3,r4,r5,r6⟩:=YB.out.zT;obtain⟨t0,t1,t2,t3,t4,t5,t6⟩:=YB.out.Tv;have zz:=YB.out.lt;have hs2:w.heap.size+1<W.heap.size:=Y.out.lt;have FB:=O (oF YB.out (U Z y1) (U Z y2) (U Z y3) (U Z y4) (J u1 u2 u3) (U Z y6) (aV y7));have BL:=O (kS (b:=w.heap.size+1) B1.out (by omega) (U Z y1) (U Z y2) (U Z y3) (U Z y4) (J u1 u2 u3) (U Z y6) (aV y7));have FO:=O (AZ O1.out (w.heap.size+1) hs2 (U Z y1) (U Z y2) (U Z y3) (U Z y4) (J u1 u2 u3) (U Z y6) (aV y7));have HS:=O hs;clear hs hs2;go_wp2_with fail;obtain⟨v0,v1,v2,v3,v4,v5,v6⟩:=FB.out.zT;refine bodyPost_ret (v:=bR #[U Z y1,U Z y2,U Z y3,U Z y4,J u1 u2 u3,U Z y6,aV y7]) (by simp [results,Tryz.results85,go_sem,v0,v1,v2,v3,v4,v5,v6]) rfl ?_;exact⟨⟨(u1,u2,u3),rfl,dH FO.out (aR HS.out)⟩,BL.out⟩
end Sb
namespace Av
open Go.RowKit Rw Bk Go.Maps Go.ChangeMaps
noncomputable def kl (l:dO):Lit:=(keyOf aM 23 (pK l)).getD (Lit.bool aQ)
end Av
namespace Av
open Go.RowKit Rw YtghlpefopidlaaaGreat.Nm Pr Wr
theorem Rz (c:Cn) (h:pF c=bF):He (r5 c)=bF:=by
 obtain⟨n,k⟩:=c;unfold pF at h;rw [bq] at h;obtain⟨h1,h2⟩:=h;have h1':At.ko n=bF:=h1;cases k with
 | rg lo hi =>
  have h3:lo<=hi:=by simpa [fD] using h2
  have h0:(⟨#[]⟩:ByteArray).size=0:=rfl;simp [r5,He,kN,lN,lQ,kT,h1',h3,h0]
 | tx t =>
  have h3:t.size<=12:=by simpa [fD] using h2
  simp [r5,He,kN,lN,lQ,kT,h1',h3]
 | pr t =>
  have h3:t.size<12:=by simpa [fD] using h2
  have h4:t.size<=11:=by omega
  simp [r5,He,kN,lN,lQ,kT,h1',h4]
theorem Bb (l:List C5) (h1:l.Pairwise fun x y=>Op.bytesLess x.1.toList y.1.toList=bF) (h2:l.length<=5) (h3:∀ c∈l,He c=bF):gV l=bF:=by
 rw [Dh l fun j hj=>?_]
 ·simpa using h2
 unfold JV;rw [ay hj];simp only [bq];refine⟨h3 _ (List.getElem_mem hj),?_⟩;cases j with
 | zero=>rfl
 | succ j =>
  rw [Bool.or_eq_true];right;rw [Nat.add_sub_cancel,ay (by omega)];exact List.pairwise_iff_getElem.1 h1 j (j+1) (by omega) hj (by omega)
theorem Dy (has vals:List Int):gV ((jw has vals 7).map r5)=bF:=by
 have h:=Kq has vals;refine Bb _ ?_ (by rw [List.length_map]; exact h.five) fun c hc=>?_
 ·rw [bf];exact h.rise
 ·obtain⟨x,hx,rfl⟩:=bg.1 hc;exact Rz x (h.good x hx)
end Av
namespace Av
open Go.RowKit Go.Sort Rw YtghlpefopidlaaaGreat.Nm Pr Bk
structure pE (W:aA) (b:Br) (nv av sv ev ov:Sl):Prop where
 br:lW W b nv av sv ev ov
 no:iP W nv b.near
theorem pE.on {W W':aA} {b:Br} {nv av sv ev ov:Sl} (h:pE W b nv av sv ev ov) (hb:Below W.heap.size W W'):pE W' b nv av sv ev ov:=⟨h.br.on hb,h.no.on hb⟩
theorem pE.keep {W W':aA} {k:Nat} {me:Int} {s1 s2 s3 s4 s5:Sl} {b:Br} {nv av sv ev ov:Sl} (h:pE W b nv av sv ev ov) (hb:dx W k (oM me s1 s2 s3 s4 s5) 30) (hk:But k W W'):pE W' b nv av sv ev ov:=by
 obtain⟨B,hn⟩:=h.no;have hn2:um W' B (dN nv) b.near:=hk.own hn hb (by decide);exact⟨Hq h.br hb hk.1 (Row.dB hn2),B,hn2⟩
theorem rO:∀ {l m:List Int},l.Pairwise (·<·)->m.Pairwise (·<·)->(∀ x,x∈l↔x∈m)->l=m
 | [],[],_,_,_=>rfl
 | [],y::m,_,_,h=>by have:=(h y).2 (by simp); simp at this
 | x::l,[],_,_,h=>by have:=(h x).1 (by simp); simp at this
 | x::l,y::m,hl,hm,h=>by
  have hl':=aZ.1 hl;have hm':=aZ.1 hm;have h1:x=y:=by
   rcases aT.1 ((h x).1 (by simp)) with e|e
   ·exact e
   ·rcases aT.1 ((h y).2 (by simp)) with e2|e2
    ·exact e2.symm
    ·have a1:=hm'.1 x e;have a2:=hl'.1 y e2;omega
  subst h1;rw [rO hl'.2 hm'.2 fun z=>⟨fun hz=>?_,fun hz=>?_⟩]
  ·rcases aT.1 ((h z).1 (aY _ hz)) with e|e
   ·have:=hl'.1 z hz;omega
   ·exact e
  ·rcases aT.1 ((h z).2 (aY _ hz)) with e|e
   ·have:=hm'.1 z hz;omega
   ·exact e
theorem rP {W W':aA} {b:Nat} (h:W.grownBy W' (aD b)):But b W W':=⟨fun k hk hne=>h.block k hk (by simpa using hne),h.size⟩
end Av
end Go.Proofs.YtghlpefopidlaaaGreat
