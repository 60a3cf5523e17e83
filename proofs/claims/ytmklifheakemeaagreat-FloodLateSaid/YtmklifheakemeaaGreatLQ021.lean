/-
  Copy of package adve. Conditions as told.
-/
import Derived.Test.YtmklifheakemeaaGreatLQ020
import Derived.Test.YtmklifheakemeaaGreatLQ016
import Derived.Laws.IdiomCopy
set_option maxRecDepth 100000
set_option maxHeartbeats 64000000
open _root_.Bool renaming true->aW,false->aZ
open _root_.Go renaming World->ay,Value->aN,TypeId->aS,Act->bM
open Go.Builtin renaming zeroCells->au,clear_->bg
open Go.Ending renaming returned->aK
open Go.IntKind renaming i64->aC
open Go.Lib renaming hid->J
open Go.Obj renaming cells->aP
open Go.Proofs.Tryz renaming prog->aQ
open Go.Region renaming binds->aG
open Go.Value renaming slice->O,int->aB
open _root_.List renaming getElem?_eq_some_iff->U,getElem?_eq_getElem->Z,take_of_length_le->aj,mem_of_getElem?->aF,getElem?_cons_zero->aI,getElem?_cons_succ->aJ,take_add_one->aL,getElem?_toArray->aM,take_take->aT,take_set_of_le->aV,length_take->aX,drop_drop->bq,map_cons->bF,mem_map->bI,take->bK,drop->bL
open _root_.Nat renaming lt_of_lt_of_le->ah,le_trans->ak,le_refl->aD,mul_le_mul_right->aU,zero_le->aY,min_eq_left->bf,le_of_lt->bH,add_zero->bJ
open _root_.Option renaming some->aA,none->aO
open Option.some renaming inj->aH
open _root_.Or renaming inr->aR,inl->bG
namespace Go.Proofs.YtmklifheakemeaaGreat
namespace Av
open Go.RowKit Go.Sort Rw YtmklifheakemeaaGreat.Nm Pr Bk
structure uF (b:Br):Prop where
 dV:∀ a∈b.dV,a.p.length<=900
 ent:∀ a∈b.ent,a.p.length<=900
 own:∀ a∈b.own,a.p.length<=900
theorem gH {α:Type} {E:Ek α} {W:ay} {B n cap:Nat} {o:Option Addr} {l:List α} (h:Own E W B (O o n cap) l):l.length=n:=by
 obtain⟨_,_,hv⟩:=(Row.dG h).len;have:n=l.length:=by simpa using congrArg (fun v=>match v with | Value.slice _ n _=>n | _=>0) hv
 exact this.symm
theorem oz {α:Type} {E:Ek α} {W:ay} {B n cap:Nat} {o:Option Addr} {l:List α} (h:Own E W B (O o n cap) l) (hn:0<n):∃ g,o=aA ⟨g,0,aO⟩/\B<=g:=by
 have hl:=gH h;rcases gq h with⟨_,h2⟩|⟨g,c',cur,h1,h2,_⟩
 ·rw [h2] at hl; simp at hl; omega
 ·exact⟨g,by simp at h1; exact h1.1,h2⟩
theorem fu (w:ay) (b:Nat) (a0 a1 a2 a3 a4 a5:aN):But b w (iF w b a0 a1 a2 a3 a4 a5) :=
 (((dM _ b _ _).trans (dM _ b _ _)).trans ((dM _ b _ _).trans (dM _ b _ _))).trans ((dM _ b _ _).trans (dM _ b _ _))
theorem Cs.done {w0 w wr:ay} {b:Br} {nv sv:Sl} {p2 p4 p5:Option Addr} {q2 s2 q4 s4 q5 s5:Nat} (h:Cs w0 w wr b q2 q4 q5 nv (p2,q2,s2) sv (p4,q4,s4) (p5,q5,s5)) (a0 a1 a2 a3 a4 a5:aN):Cp (vw w0) w.heap.size (iF wr (w.heap.size+1) a0 a1 a2 a3 a4 a5) b nv (p2,q2,s2) sv (p4,q4,s4) (p5,q5,s5)/\Below w.heap.size w (iF wr (w.heap.size+1) a0 a1 a2 a3 a4 a5):=by
 obtain⟨l1,d1,d2,d3⟩:=h.dV;obtain⟨l2,e1,e2,e3⟩:=h.ent;obtain⟨l3,f1,f2,f3⟩:=h.own;have n1:l1.length=q2:=gH d1;have n2:l2.length=q4:=gH e1;have n3:l3.length=q5:=gH f1;rw [aj (by omega),aj (by have:=d2.len; omega)] at d3;rw [aj (by omega),aj (by have:=e2.len; omega)] at e3;rw [aj (by omega),aj (by have:=f2.len; omega)] at f3;exact⟨Cp.but ⟨h.near,h.seen,⟨l1,d1,d3⟩,⟨l2,e1,e3⟩,⟨l3,f1,f3⟩⟩ (fu wr (w.heap.size+1) a0 a1 a2 a3 a4 a5) h.bz,dN h.qb (by omega) a0 a1 a2 a3 a4 a5⟩
theorem pz (b:Br) (nv av sv ev ov:Sl) (w0 w:ay) (hw0:Below w0.heap.size w0 w) (h:lS w0 b nv av sv ev ov) (hf:Kn b) (hp:uF b) :
  Calls aQ 91 #[lN b.me nv av sv ev ov] w fun e w'=>(∃ nv' Vg WT ev' XZ:Sl,e=aK (lN b.me nv' Vg WT ev' XZ)/\Cp (vw w0) w.heap.size w' b nv' Vg WT ev' XZ)/\Below w.heap.size w w':=by
 obtain⟨no,nn,nc⟩:=nv;obtain⟨ao,an,ac⟩:=av;obtain⟨so,sn,sc⟩:=sv;obtain⟨eo,en,ec⟩:=ev;obtain⟨oo,gI,oc⟩:=ov;obtain⟨la,ha1,ha2⟩:=h.dV;obtain⟨le,he1,he2⟩:=h.ent;obtain⟨lo_,ho1,ho2⟩:=h.own;have HA:=J ha2;have HE:=J he2;have HO:=J ho2;have R0:=J (h.near.on hw0);have R1:=J (ha1.on hw0);have R2:=J (h.seen.on hw0);have R3:=J (he1.on hw0);have R4:=J (ho1.on hw0);have W0:=J hw0;have HP:=J hp;have LL0:=J hf.near;have LL1:=J (show la.length<=900 by rw [ha2.len]; exact hf.dV);have LL2:=J hf.seen;have LL3:=J (show le.length<=900 by rw [he2.len]; exact hf.ent);have LL4:=J (show lo_.length<=900 by rw [ho2.len]; exact hf.own);obtain⟨h0,h1,h2⟩:=gT w #[aB aC b.me,O no nn nc,O ao an ac,O so sn sc,O eo en ec,O oo gI oc] #[aB aC 0,O aO 0 0,O aO 0 0,O aO 0 0,O aO 0 0,O aO 0 0] 28 28;have B0:=J h0;have XB:=J h1;have ZB:=J h2;clear h0 h1 h2 h hf hp hw0 ha1 ha2 he1 he2 ho1 ho2;go_enter Tryz.func91,Tryz.ntmps91;go_upto_region 1 with fail;generalize (w.alloc (aP #[aB aC b.me,O no nn nc,O ao an ac,O so sn sc,O eo en ec,O oo gI oc] 28)).alloc (aP #[aB aC 0,O aO 0 0,O aO 0 0,O aO 0 0,O aO 0 0,O aO 0 0] 28)=W at *;refine cp1 _ W w.heap.size b.me (O ao an ac) (O eo en ec) (O oo gI oc) no nn nc b.near so sn sc b.seen _ _ _ _ _ _ _ _ _ _ _ _ _ _ _ _ _ _ _ _ _ _ _ _ _ _ _ _ _ _ _ _ _ _ _ _ _ _ _ _ _ _ _ _ _ _ _ _ _ _ _ _ _ _ _ _ _ _ _ _ _ _ _ _ _ _ _ _ _ _ _ _ _ _ _ _ _ _ _ _ _ XB.out (R0.out.on B0.out) (R2.out.on B0.out) LL0.out LL2.out ?_;intro x1 v6 v7 v8 v9 v10 v11 v12 v13 p1 q1 s1 p3 q3 s3 hb1 hn1 hs1 LW LZ;have B1:=J (B0.out.trans (LW _ (aD _)));have S1:=J (show W.heap.size<=x1.heap.size from (LW _ (aD _)).size);have ZB1:=J (show dI x1 (w.heap.size+1) _ _ from (LZ _ ZB.out.lt (by omega)).trans ZB.out);have XB1:=J hb1;have N1:=J (dK hn1 B0.out.size);have J1:=J (dK hs1 B0.out.size);clear hb1 hn1 hs1 LW LZ XB ZB;go_upto_region 2 with fail;refine cp2 _ x1 w.heap.size b.me (O p1 q1 s1) (O p3 q3 s3) ao an ac la eo en ec le oo gI oc lo_ _ _ _ _ _ _ _ _ _ _ _ _ _ _ _ _ _ _ _ _ _ _ _ _ _ _ _ _ _ _ _ _ _ _ _ _ _ _ _ _ _ _ _ _ _ _ _ _ _ _ _ _ _ _ _ _ _ _ _ _ _ _ _ _ _ _ _ _ _ _ _ _ _ _ _ _ _ _ _ _ _ XB1.out (R1.out.on B1.out) (R3.out.on B1.out) (R4.out.on B1.out) LL1.out LL3.out LL4.out ?_;intro x2 v14 v15 v16 v17 v18 v19 v20 v21 v22 v23 v24 v25 p2 q2 s2 p4 q4 s4 p5 q5 s5 hb2 ha2 he2 ho2 Gw zP;have CS:=J (show Cs w0 w x2 b 0 0 0 (p1,q1,s1) (p2,q2,s2) (p3,q3,s3) (p4,q4,s4) (p5,q5,s5) from {
  qb:=B1.out.trans (Gw _ (aD _))
  bx:=hb2
  bz:=(zP _ ZB1.out.lt (by omega)).trans ZB1.out
  near:=But.own ⟨zP,(Gw _ (aD _)).size⟩ N1.out XB1.out (by decide)
  seen:=But.own ⟨zP,(Gw _ (aD _)).size⟩ J1.out XB1.out (by decide)
  dV:=⟨la,dK ha2 B1.out.size,HA.out.mono fun _ _ q=>⟨q.1,q.2.1,bG q.2.2⟩,.nil⟩
  ent:=⟨le,dK he2 B1.out.size,HE.out.mono fun _ _ q=>⟨q.1,q.2.1,q.2.2.1,q.2.2.2.1,bG q.2.2.2.2⟩,.nil⟩
  own:=⟨lo_,dK ho2 B1.out.size,HO.out.mono fun _ _ q=>⟨q.1,bG q.2⟩,.nil⟩ })
 have Q2:=J (show q2<=900 from by rw [<- gH ha2]; exact LL1.out);have Q4:=J (show q4<=900 from by rw [<- gH he2]; exact LL3.out);have Q5:=J (show q5<=900 from by rw [<- gH ho2]; exact LL4.out);clear hb2 ha2 he2 ho2 Gw zP XB1 ZB1 N1 J1 B1 S1 R0 R1 R2 R3 R4 HA HE HO LL0 LL1 LL2 LL3 LL4 B0;have cf2:=CS.out.bx.cell 2;simp only [aM,aI,aJ] at cf2;go_wp2
 go_loopw [29] (fun i wr=>∃ k:Nat,k<=q2/\i=aB aC k/\Cs w0 w wr b k 0 0 (p1,q1,s1) (p2,q2,s2) (p3,q3,s3) (p4,q4,s4) (p5,q5,s5)) (fun i _=>q2-(intOf i).toNat)
 case atStart=>exact⟨0,aY _,rfl,CS.out⟩
 case round =>
  obtain⟨k,hk,rfl,hcs⟩:=hrel;have CS:=J hcs;have hq:=Q2.out;clear hcs;by_cases hlt:k<q2
  ·obtain⟨l,hl,hA,hV⟩:=CS.out.dV;have hln:l.length=q2:=gH hl;obtain⟨g,rfl,hBg⟩:∃ g,p2=aA ⟨g,0,aO⟩/\w.heap.size<=g:=oz hl (show 0<q2 by omega);obtain⟨y,hy⟩:∃ y,l[k]?=aA y:=⟨_,Z (by omega)⟩;obtain⟨a,ha⟩:∃ a,b.dV[k]?=aA a:=⟨_,Z (by have h:=hA.len; have h2:l.length=q2:=hln; omega)⟩;obtain⟨y',hy',hym⟩:=hA.at k a ha;rw [hy] at hy';obtain rfl:=aH hy';obtain⟨y1,y2,⟨yo,yn,yc⟩,y4⟩:=y;have HW:=J hl;have RV:=J hA;have RX:=J hV;have xI:=J hym;have L8:=J hy;have Gx:=J ha;have RY:=J hBg;have hw3:IntKind.i64.wrap ((k:Int)+1)=(k:Int)+1:=IntWalk.i64_in _ (by omega);clear hl hA hV hln hy ha hy' hym hBg cf2;go_upto_region 6 with fail;refine cp6 _ wr w.heap.size l w.heap.size b.me (O p1 q1 s1) (O p3 q3 s3) (O p4 q4 s4) (O p5 q5 s5) g q2 s2 k y1 y2 yo yn yc y4 a.p _ _ _ _ _ _ _ _ _ _ _ _ _ _ _ _ _ _ _ _ _ _ _ _ _ _ _ _ _ _ _ _ _ _ _ _ _ _ _ _ _ _ _ _ _ _ _ _ _ _ _ _ _ _ _ _ _ _ _ _ _ _ _ _ _ _ _ _ _ _ _ _ _ _ _ _ _ _ _ _ CS.out.bx HW.out L8.out (xI.out.2.2.row (W0.out.trans (CS.out.qb.mono W0.out.size))) (HP.out.dV a (aF Gx.out)) ?_;intro x v32 v33 v34 v35 v36 v37 v38 v39 v40 v41 t1 t2 t3 hC hO qO hBel;have X0:=J (show Cs w0 w x b (k+1) 0 0 (p1,q1,s1) (aA ⟨g,0,aO⟩,q2,s2) (p3,q3,s3) (p4,q4,s4) (p5,q5,s5) from by
    obtain⟨cur,hg⟩:=jm HW.out;exact CS.out.Lc HW.out hO qO (CS.out.qb.trans (hBel _ RY.out CS.out.qb.size)) (eZ.set k _ a (RV.out.mono fun _ _ q=>q.but qO hg (by decide)) Gx.out ⟨xI.out.1,xI.out.2.1,aR (dK hC CS.out.qb.size)⟩) (r9 (RX.out.mono fun _ _ q=>q.but qO hg (by decide)) (U.1 L8.out).1 Gx.out ⟨xI.out.1,xI.out.2.1,aR (dK hC CS.out.qb.size)⟩))
   clear hC hO qO hBel CS HW RV RX xI L8 Gx RY;go_wp2
   go_roundw
   case rel=>exact⟨k+1,by omega,by go_num,X0.out⟩
   case measure=>simp [intOf]; omega
  ·obtain rfl:q2=k:=by omega
   have cf4:=CS.out.bx.cell 4;simp only [aM,aI,aJ] at cf4;clear hlt;go_wp2
   go_loopw [46] (fun i wr=>∃ k:Nat,k<=q4/\i=aB aC k/\Cs w0 w wr b q2 k 0 (p1,q1,s1) (p2,q2,s2) (p3,q3,s3) (p4,q4,s4) (p5,q5,s5)) (fun i _=>q4-(intOf i).toNat)
   case atStart=>exact⟨0,aY _,rfl,CS.out⟩
   case round =>
    obtain⟨k,hk,rfl,hcs⟩:=hrel;have CS:=J hcs;have hq:=Q4.out;clear hcs;by_cases hlt:k<q4
    ·obtain⟨l,hl,hA,hV⟩:=CS.out.ent;have hln:l.length=q4:=gH hl;obtain⟨g,rfl,hBg⟩:∃ g,p4=aA ⟨g,0,aO⟩/\w.heap.size<=g:=oz hl (show 0<q4 by omega);obtain⟨y,hy⟩:∃ y,l[k]?=aA y:=⟨_,Z (by omega)⟩;obtain⟨a,ha⟩:∃ a,b.ent[k]?=aA a:=⟨_,Z (by have h:=hA.len; have h2:l.length=q4:=hln; omega)⟩;obtain⟨y',hy',hym⟩:=hA.at k a ha;rw [hy] at hy';obtain rfl:=aH hy';obtain⟨y1,y2,y3,y4,⟨yo,yn,yc⟩,y6,y7⟩:=y;have HW:=J hl;have RV:=J hA;have RX:=J hV;have xI:=J hym;have L8:=J hy;have Gx:=J ha;have RY:=J hBg;have hw3:IntKind.i64.wrap ((k:Int)+1)=(k:Int)+1:=IntWalk.i64_in _ (by omega);clear hl hA hV hln hy ha hy' hym hBg cf4;go_upto_region 11 with fail;refine aaT _ wr w.heap.size l w.heap.size b.me (O p1 q1 s1) (O p2 q2 s2) (O p3 q3 s3) (O p5 q5 s5) g q4 s4 k y1 y2 y3 y4 yo yn yc y6 y7 a.p _ _ _ _ _ _ _ _ _ _ _ _ _ _ _ _ _ _ _ _ _ _ _ _ _ _ _ _ _ _ _ _ _ _ _ _ _ _ _ _ _ _ _ _ _ _ _ _ _ _ _ _ _ _ _ _ _ _ _ _ _ _ _ _ _ _ _ _ _ _ _ _ _ _ _ _ _ _ _ _ CS.out.bx HW.out L8.out (xI.out.2.2.2.2.row (W0.out.trans (CS.out.qb.mono W0.out.size))) (HP.out.ent a (aF Gx.out)) ?_;intro x v49 v50 v51 v52 v53 v54 v55 v56 v57 v58 v59 v60 t1 t2 t3 hC hO qO hBel;have X0:=J (show Cs w0 w x b q2 (k+1) 0 (p1,q1,s1) (p2,q2,s2) (p3,q3,s3) (aA ⟨g,0,aO⟩,q4,s4) (p5,q5,s5) from by
      obtain⟨cur,hg⟩:=jm HW.out;exact CS.out.aaP HW.out hO qO (CS.out.qb.trans (hBel _ RY.out CS.out.qb.size)) (eZ.set k _ a (RV.out.mono fun _ _ q=>q.but qO hg (by decide)) Gx.out ⟨xI.out.1,xI.out.2.1,xI.out.2.2.1,xI.out.2.2.2.1,aR (dK hC CS.out.qb.size)⟩) (r9 (RX.out.mono fun _ _ q=>q.but qO hg (by decide)) (U.1 L8.out).1 Gx.out ⟨xI.out.1,xI.out.2.1,xI.out.2.2.1,xI.out.2.2.2.1,aR (dK hC CS.out.qb.size)⟩))
     clear hC hO qO hBel CS HW RV RX xI L8 Gx RY;go_wp2
     go_roundw
     case rel=>exact⟨k+1,by omega,by go_num,X0.out⟩
     case measure=>simp [intOf]; omega
    ·obtain rfl:q4=k:=by omega
     have cf5:=CS.out.bx.cell 5;simp only [aM,aI,aJ] at cf5;clear hlt;go_wp2
     go_loopw [65] (fun i wr=>∃ k:Nat,k<=q5/\i=aB aC k/\Cs w0 w wr b q2 q4 k (p1,q1,s1) (p2,q2,s2) (p3,q3,s3) (p4,q4,s4) (p5,q5,s5)) (fun i _=>q5-(intOf i).toNat)
     case atStart=>exact⟨0,aY _,rfl,CS.out⟩
     case round =>
      obtain⟨k,hk,rfl,hcs⟩:=hrel;have CS:=J hcs;have hq:=Q5.out;clear hcs;by_cases hlt:k<q5
      ·obtain⟨l,hl,hA,hV⟩:=CS.out.own;have hln:l.length=q5:=gH hl;obtain⟨g,rfl,hBg⟩:∃ g,p5=aA ⟨g,0,aO⟩/\w.heap.size<=g:=oz hl (show 0<q5 by omega);obtain⟨y,hy⟩:∃ y,l[k]?=aA y:=⟨_,Z (by omega)⟩;obtain⟨a,ha⟩:∃ a,b.own[k]?=aA a:=⟨_,Z (by have h:=hA.len; have h2:l.length=q5:=hln; omega)⟩;obtain⟨y',hy',hym⟩:=hA.at k a ha;rw [hy] at hy';obtain rfl:=aH hy';obtain⟨y1,y2,⟨yo,yn,yc⟩⟩:=y;have HW:=J hl;have RV:=J hA;have RX:=J hV;have xI:=J hym;have L8:=J hy;have Gx:=J ha;have RY:=J hBg;have hw3:IntKind.i64.wrap ((k:Int)+1)=(k:Int)+1:=IntWalk.i64_in _ (by omega);clear hl hA hV hln hy ha hy' hym hBg cf5;go_upto_region 16 with fail;refine aaU _ wr w.heap.size l w.heap.size b.me (O p1 q1 s1) (O p2 q2 s2) (O p3 q3 s3) (O p4 q4 s4) g q5 s5 k y1 y2 yo yn yc a.p _ _ _ _ _ _ _ _ _ _ _ _ _ _ _ _ _ _ _ _ _ _ _ _ _ _ _ _ _ _ _ _ _ _ _ _ _ _ _ _ _ _ _ _ _ _ _ _ _ _ _ _ _ _ _ _ _ _ _ _ _ _ _ _ _ _ _ _ _ _ _ _ _ _ _ _ _ _ _ _ CS.out.bx HW.out L8.out (xI.out.2.row (W0.out.trans (CS.out.qb.mono W0.out.size))) (HP.out.own a (aF Gx.out)) ?_;intro x v68 v69 v70 v71 v72 v73 v74 v75 v76 v77 v78 v79 t1 t2 t3 hC hO qO hBel;have X0:=J (show Cs w0 w x b q2 q4 (k+1) (p1,q1,s1) (p2,q2,s2) (p3,q3,s3) (p4,q4,s4) (aA ⟨g,0,aO⟩,q5,s5) from by
        obtain⟨cur,hg⟩:=jm HW.out;exact CS.out.setW HW.out hO qO (CS.out.qb.trans (hBel _ RY.out CS.out.qb.size)) (eZ.set k _ a (RV.out.mono fun _ _ q=>q.but qO hg (by decide)) Gx.out ⟨xI.out.1,aR (dK hC CS.out.qb.size)⟩) (r9 (RX.out.mono fun _ _ q=>q.but qO hg (by decide)) (U.1 L8.out).1 Gx.out ⟨xI.out.1,aR (dK hC CS.out.qb.size)⟩))
       clear hC hO qO hBel CS HW RV RX xI L8 Gx RY;go_wp2
       go_roundw
       case rel=>exact⟨k+1,by omega,by go_num,X0.out⟩
       case measure=>simp [intOf]; omega
      ·obtain rfl:q5=k:=by omega
       have X1:=CS.out.bx;have Z1:=CS.out.bz;obtain⟨x0,x1,x2,x3,x4,x5⟩:=X1.gP;obtain⟨r0,r1,r2,r3,r4,r5⟩:=Z1.gP;obtain⟨t0,t1,t2,t3,t4,t5⟩:=Z1.pO;have zz:=Z1.lt;have FB:=J (dZ Z1 (aB aC b.me) (O p1 q1 s1) (O p2 q2 s2) (O p3 q3 s3) (O p4 q4 s4) (O p5 q5 s5));have FD:=J (CS.out.done (aB aC b.me) (O p1 q1 s1) (O p2 q2 s2) (O p3 q3 s3) (O p4 q4 s4) (O p5 q5 s5));clear X1 Z1 CS;go_wp2_with fail;obtain⟨v0,v1,v2,v3,v4,v5⟩:=FB.out.gP;refine bodyPost_ret (v:=.agg #[aB aC b.me,O p1 q1 s1,O p2 q2 s2,O p3 q3 s3,O p4 q4 s4,O p5 q5 s5]) (by simp [results,Tryz.results91,go_sem,v0,v1,v2,v3,v4,v5]) rfl ?_;exact⟨⟨(p1,q1,s1),(p2,q2,s2),(p3,q3,s3),(p4,q4,s4),(p5,q5,s5),rfl,FD.out.1⟩,FD.out.2⟩
theorem JE (l:List fB) (y:fB):fV pR l y<=l.length:=by
 rw [iI];exact ak (lF _ _) (by simp)
theorem L9 (B:Nat) (v:Sl) (l:List fB) (x:fB) (w:ay) (ho:Own EJ w B (dO v) l) (hr:jK pR l) (hl:l.length<=900) (hB:B<=w.heap.size) :
  Calls aQ 93 #[dO v,nU x,.func (.func 56) #[] #[]] w fun e w'=>(∃ v':Sl,e=aK (dO v')/\Own EJ w' B (dO v') (fC l (fV pR l (pR x)) x))/\Below B w w'/\(∀ j,j<w.heap.size->aA j≠(dO v).ownBlock->w'.heap[j]?=w.heap[j]?):=by
 have h0:=gM w (aP #[aB aC x.1,aB aC x.2] 31);have X:=dL w #[aB aC x.1,aB aC x.2] 31;have C:=J (QI (dO v) l x _ ((Row.dG ho).on h0) hr hl);obtain⟨ks,hks⟩:∃ k,k=fV pR l (pR x):=⟨_,rfl⟩;have KL:ks<=l.length:=by rw [hks]; exact JE _ _
 rw [<- hks] at C;rw [<- hks];generalize kg pR l (pR x)=th at *;have OW:=J (Bk.dJ ho h0);have HV:=J (show (dO v).ownBlock≠aO->∃ g,(dO v).ownBlock=aA g/\g<w.heap.size from fun hne=>by
  cases hb:(dO v).ownBlock with
  | none=>exact absurd hb hne
  | some g=>exact⟨g,rfl,(ho.lt g hb).2⟩)
 have B0:=J ((Below.refl B w).alloc hB (aP #[aB aC x.1,aB aC x.2] 31));have BN0:=J h0;have KK:=J KL;have LL:=J hl;have BB:=J hB;clear h0 ho hr hl hB hks KL;obtain⟨c1,c2⟩:=x;obtain⟨vo,vn,vc⟩:=v;simp only at C X;obtain⟨x0,x1⟩:=X.cs2;have XX:=J X;clear X;go_enter Tryz.func93,Tryz.ntmps93;go_wp2_with fail;have W1:=J (show w.heap.size<=(w.alloc (aP #[aB aC c1,aB aC c2] 31)).heap.size by simp);generalize w.alloc (aP #[aB aC c1,aB aC c2] 31)=W at *;refine C.out.mono ?_;rintro e w1 ⟨rfl,hb⟩;have Y:=XX.out.on hb;obtain⟨y0,y1⟩:=Y.cs2;have O1:=J (Bk.dJ OW.out hb);have B1:=J (B0.out.trans (hb.mono (ak BB.out W1.out)));have BW:=J (fun j (hj:j<w.heap.size)=>(hb.block j (ah hj W1.out)).trans (BN0.out.block j hj));have S1:=J (ak W1.out hb.size);clear C Y hb x0 x1;go_wp2_with fail;have hl:=LL.out;have NB:=gM w1 (aP #[aB aC c1,aB aC c2] 31);refine (AY B _ l ks (c1,c2) w1.heap.size _ (Bk.dJ O1.out NB) (dL w1 #[aB aC c1,aB aC c2] 31) ?_ KK.out (by omega) (ak (ak BB.out S1.out) NB.size)).mono ?_
 ·intro he;obtain⟨g,hg,hlt⟩:=HV.out (by rw [he]; simp);rw [he] at hg;have:=aH hg;have:=S1.out;omega
 rintro e w2 ⟨v',rfl,ho,hb,hoth⟩;obtain⟨a1,a2,hv⟩:=(Row.dG ho).len;have Q:=J (show (∃ v'':Sl,aK v'=aK (dO v'')/\Own EJ w2 B (dO v'') (fC l ks (c1,c2)))/\Below B w w2/\(∀ j,j<w.heap.size->aA j≠(dO (vo,vn,vc)).ownBlock->w2.heap[j]?=w.heap[j]?) from ⟨⟨(a1,_,a2),by rw [hv],by subst hv; simpa [fC] using ho⟩,(B1.out.trans (NB.mono (ak BB.out S1.out))).trans hb,fun j hj hne=>(hoth j (ah (ah hj S1.out) NB.size) hne).trans ((NB.block j (ah hj S1.out)).trans (BW.out j hj))⟩);clear ho hb hv hl NB;go_wp2;go_ret;exact Q.out
theorem JF (l:List jk) (y:fB):fV jI l y<=l.length:=by
 rw [iI];exact ak (lF _ _) (by simp)
theorem Ma (B:Nat) (v:Sl) (l:List jk) (x:jk) (w:ay) (ho:Own ED w B (dO v) l) (hr:jK jI l) (hl:l.length<=900) (hB:B<=w.heap.size) :
  Calls aQ 92 #[dO v,lQ x,.func (.func 58) #[] #[]] w fun e w'=>(∃ v':Sl,e=aK (dO v')/\Own ED w' B (dO v') (fC l (fV jI l (jI x)) x))/\Below B w w'/\(∀ j,j<w.heap.size->aA j≠(dO v).ownBlock->w'.heap[j]?=w.heap[j]?):=by
 have h0:=gM w (aP #[aB aC x.1,aB aC x.2.1,dO x.2.2.1,aB aC x.2.2.2] 74);have X:=dL w #[aB aC x.1,aB aC x.2.1,dO x.2.2.1,aB aC x.2.2.2] 74;have C:=J (QJ (dO v) l x _ ((Row.dG ho).on h0) hr hl);obtain⟨ks,hks⟩:∃ k,k=fV jI l (jI x):=⟨_,rfl⟩;have KL:ks<=l.length:=by rw [hks]; exact JF _ _
 have e1:jI x=(x.1,x.2.1):=rfl;rw [<- e1] at C;rw [<- hks] at C;rw [<- hks];generalize kg jI l (jI x)=th at *;have OW:=J (Bk.dJ ho h0);have HV:=J (show (dO v).ownBlock≠aO->∃ g,(dO v).ownBlock=aA g/\g<w.heap.size from fun hne=>by
  cases hb:(dO v).ownBlock with
  | none=>exact absurd hb hne
  | some g=>exact⟨g,rfl,(ho.lt g hb).2⟩)
 have B0:=J ((Below.refl B w).alloc hB (aP #[aB aC x.1,aB aC x.2.1,dO x.2.2.1,aB aC x.2.2.2] 74));have BN0:=J h0;have KK:=J KL;have LL:=J hl;have BB:=J hB;clear h0 ho hr hl hB hks KL;obtain⟨c1,c2,⟨c3,c4,c5⟩,c6⟩:=x;obtain⟨vo,vn,vc⟩:=v;simp only at C X;obtain⟨x0,x1,x2,x3⟩:=X.zZ;have XX:=J X;clear X;go_enter Tryz.func92,Tryz.ntmps92;go_wp2_with fail;have W1:=J (show w.heap.size<=(w.alloc (aP #[aB aC c1,aB aC c2,O c3 c4 c5,aB aC c6] 74)).heap.size by simp);generalize w.alloc (aP #[aB aC c1,aB aC c2,O c3 c4 c5,aB aC c6] 74)=W at *;refine C.out.mono ?_;rintro e w1 ⟨rfl,hb⟩;have Y:=XX.out.on hb;obtain⟨y0,y1,y2,y3⟩:=Y.zZ;have O1:=J (Bk.dJ OW.out hb);have B1:=J (B0.out.trans (hb.mono (ak BB.out W1.out)));have BW:=J (fun j (hj:j<w.heap.size)=>(hb.block j (ah hj W1.out)).trans (BN0.out.block j hj));have S1:=J (ak W1.out hb.size);clear C Y hb x0 x1 x2 x3;go_wp2_with fail;have hl:=LL.out;have NB:=gM w1 (aP #[aB aC c1,aB aC c2,O c3 c4 c5,aB aC c6] 74);refine (Bb B _ l ks (c1,c2,(c3,c4,c5),c6) w1.heap.size _ (Bk.dJ O1.out NB) (dL w1 #[aB aC c1,aB aC c2,O c3 c4 c5,aB aC c6] 74) ?_ KK.out (by omega) (ak (ak BB.out S1.out) NB.size)).mono ?_
 ·intro he;obtain⟨g,hg,hlt⟩:=HV.out (by rw [he]; simp);rw [he] at hg;have:=aH hg;have:=S1.out;omega
 rintro e w2 ⟨v',rfl,ho,hb,hoth⟩;obtain⟨a1,a2,hv⟩:=(Row.dG ho).len;have Q:=J (show (∃ v'':Sl,aK v'=aK (dO v'')/\Own ED w2 B (dO v'') (fC l ks (c1,c2,(c3,c4,c5),c6)))/\Below B w w2/\(∀ j,j<w.heap.size->aA j≠(dO (vo,vn,vc)).ownBlock->w2.heap[j]?=w.heap[j]?) from ⟨⟨(a1,_,a2),by rw [hv],by subst hv; simpa [fC] using ho⟩,(B1.out.trans (NB.mono (ak BB.out S1.out))).trans hb,fun j hj hne=>(hoth j (ah (ah hj S1.out) NB.size) hne).trans ((NB.block j (ah hj S1.out)).trans (BW.out j hj))⟩);clear ho hb hv hl NB;go_wp2;go_ret;exact Q.out
def Off (ob:Option Nat) (W x:ay):Prop:=(∀ j,j<W.heap.size->aA j≠ob->x.heap[j]?=W.heap[j]?)/\W.heap.size<=x.heap.size
def Tag (ob:Option Nat) (W:ay) (t:aS):Prop:=∀ g,ob=aA g->∃ d,dI W g d t
theorem iO {α:Type} {E:Ek α} {W:ay} {B:Nat} {v:aN} {l:List α} (h:Own E W B v l):Tag v.ownBlock W E.t:=by
 intro g hg;rcases gq h with⟨rfl,_⟩|⟨g',c',cur,rfl,_,h2,_⟩
 ·cases hg
 ·obtain rfl:g'=g:=by simpa [Value.ownBlock] using hg
  exact⟨cur,h2⟩
theorem Off.own {α:Type} {E:Ek α} {ob:Option Nat} {W x:ay} {B:Nat} {v:aN} {l:List α} {t:aS} (h:Off ob W x) (ho:Own E W B v l) (hg:Tag ob W t) (hne:(E.t == t)=aZ):Own E x B v l:=by
 refine⟨ho.1,?_⟩;rcases ho.2 with h2|⟨g',cap,cur,h1,h2,h3,h4⟩
 ·exact bG h2
 ·refine aR ⟨g',cap,cur,h1,h2,?_,h4⟩;rw [h.1 g' (lt_of_heap h3) fun e=>by
   obtain⟨d,hd⟩:=hg g' e.symm;exact jH (show dI W g' cur E.t from h3) hd hne rfl]
  exact h3
theorem Off.box {ob:Option Nat} {W x:ay} {b:Nat} {cs:Array aN} {s t:aS} (h:Off ob W x) (hb:dI W b cs s) (hg:Tag ob W t) (hne:(s == t)=aZ):dI x b cs s:=(h.1 b hb.lt fun e=>by
 obtain⟨d,hd⟩:=hg b e.symm;exact jH hb hd hne rfl).trans hb
theorem PM.off {w0 wr x:ay} {B:Nat} {v:aN} {p:List C5} {ob:Option Nat} {t:aS} (h:PM w0 B wr v p) (hb:Off ob wr x) (hg:Tag ob wr t) (hne:(70 == t)=aZ):PM w0 B x v p:=h.imp id fun h=>hb.own h hg hne
theorem DJ.off {w0 wr x:ay} {B:Nat} {y:jk} {a:Ad} {ob:Option Nat} {t:aS} (h:DJ w0 B wr y a) (hb:Off ob wr x) (hg:Tag ob wr t) (hne:(70 == t)=aZ):DJ w0 B x y a:=⟨h.1,h.2.1,h.2.2.off hb hg hne⟩
theorem vK.off {w0 wr x:ay} {B:Nat} {y:gW} {a:En} {ob:Option Nat} {t:aS} (h:vK w0 B wr y a) (hb:Off ob wr x) (hg:Tag ob wr t) (hne:(70 == t)=aZ):vK w0 B x y a:=⟨h.1,h.2.1,h.2.2.1,h.2.2.2.1,h.2.2.2.2.off hb hg hne⟩
theorem Gj.off {w0 wr x:ay} {B:Nat} {y:nS} {a:Ow} {ob:Option Nat} {t:aS} (h:Gj w0 B wr y a) (hb:Off ob wr x) (hg:Tag ob wr t) (hne:(70 == t)=aZ):Gj w0 B x y a:=⟨h.1,h.2.off hb hg hne⟩
theorem Cp.X6 {w0 wr x:ay} {B:Nat} {b:Br} {nv av sv ev ov Vg:Sl} {al:List Ad} (h:Cp w0 B wr b nv av sv ev ov) (hb:Off (dO av).ownBlock wr x) (hx:∃ l,qo x B (dO Vg) l/\eZ (DJ w0 B x) l al):Cp w0 B x { b with dV:=al } nv Vg sv ev ov:=by
 obtain⟨l0,hl0,_⟩:=h.dV;have hg:=iO hl0;exact {
  near:=hb.own h.near hg (by decide)
  seen:=hb.own h.seen hg (by decide)
  dV:=hx
  ent:=by obtain⟨l,h1,h2⟩:=h.ent; exact⟨l,hb.own h1 hg (by decide),h2.mono fun _ _ h=>h.off hb hg (by decide)⟩
  own:=by obtain⟨l,h1,h2⟩:=h.own; exact⟨l,hb.own h1 hg (by decide),h2.mono fun _ _ h=>h.off hb hg (by decide)⟩ }
theorem Cp.Vh {w0 wr x:ay} {B:Nat} {b:Br} {nv av sv ev ov ev':Sl} {el:List En} (h:Cp w0 B wr b nv av sv ev ov) (hb:Off (dO ev).ownBlock wr x) (hx:∃ l,jZ x B (dO ev') l/\eZ (vK w0 B x) l el):Cp w0 B x { b with ent:=el } nv av sv ev' ov:=by
 obtain⟨l0,hl0,_⟩:=h.ent;have hg:=iO hl0;exact {
  near:=hb.own h.near hg (by decide)
  seen:=hb.own h.seen hg (by decide)
  dV:=by obtain⟨l,h1,h2⟩:=h.dV; exact⟨l,hb.own h1 hg (by decide),h2.mono fun _ _ h=>h.off hb hg (by decide)⟩
  ent:=hx
  own:=by obtain⟨l,h1,h2⟩:=h.own; exact⟨l,hb.own h1 hg (by decide),h2.mono fun _ _ h=>h.off hb hg (by decide)⟩ }
theorem Cp.aa7 {w0 wr x:ay} {B:Nat} {b:Br} {nv av sv ev ov WT:Sl} {sl:List fB} (h:Cp w0 B wr b nv av sv ev ov) (hb:Off (dO sv).ownBlock wr x) (hx:Am x B (dO WT) sl):Cp w0 B x { b with seen:=sl } nv av WT ev ov:=by
 have hg:=iO h.seen;exact {
  near:=hb.own h.near hg (by decide)
  seen:=hx
  dV:=by obtain⟨l,h1,h2⟩:=h.dV; exact⟨l,hb.own h1 hg (by decide),h2.mono fun _ _ h=>h.off hb hg (by decide)⟩
  ent:=by obtain⟨l,h1,h2⟩:=h.ent; exact⟨l,hb.own h1 hg (by decide),h2.mono fun _ _ h=>h.off hb hg (by decide)⟩
  own:=by obtain⟨l,h1,h2⟩:=h.own; exact⟨l,hb.own h1 hg (by decide),h2.mono fun _ _ h=>h.off hb hg (by decide)⟩ }
theorem vR {α β:Type} {R:α->β->Prop} {l:List α} {m:List β} (h:eZ R l m) (k:Nat) {a:α} {b:β} (hr:R a b):eZ R (fC l k a) (fC m k b) :=
 ((h.take k).append (.cons hr .nil)).append (h.drop k)
theorem keys_eq {w0 wr:ay} {B:Nat}:∀ {l:List jk} {al:List Ad},eZ (DJ w0 B wr) l al->l.map jI=al.map Ad.id
 | _,_,.nil=>rfl
 | _,_,.cons h t=>by rw [bF,bF,keys_eq t]; exact congrArg (·::_) h.1
theorem yM {α:Type} (key:α->fB) (l:List α):jK key l↔jK (fun x:fB=>x) (l.map key):=by
 unfold jK;rw [List.pairwise_map]
theorem qP {g:Nat} {t:aS}:∀ (vs:List aN) (o:Nat) (w:ay) (cur:Array aN),dI w g cur t->∃ cur',dI (w.setCells g o vs) g cur' t/\cur'.size=cur.size/\cur'.toList.take o=cur.toList.take o
 | [],o,w,cur,h=>⟨cur,h,rfl,rfl⟩
 | v::r,o,w,cur,h=>by
  obtain⟨cur',h1,h2,h3⟩:=qP r (o+1) (w.setCell ⟨g,o,aO⟩ v) _ (eD (k:=o) h v);refine⟨cur',h1,by rw [h2]; simp,?_⟩;have h4:=congrArg (bK o) h3;rw [aT,aT,bf (by omega)] at h4;rw [h4,Array.toList_setIfInBounds,aV (aD _)]
theorem qQ (g:Nat):∀ (vs:List aN) (o:Nat) (w:ay),But g w (w.setCells g o vs)
 | [],_,_w=>⟨fun _ _ _=>rfl,aD _⟩
 | v::r,o,w=>(dM w g o v).trans (qQ g r (o+1) _)
theorem below_setCells {B g:Nat} (hB:B<=g):∀ (vs:List aN) (o:Nat) (W w:ay),Below B W w->Below B W (w.setCells g o vs)
 | [],_,_,_,h=>h
 | v::r,o,W,_w,h=>below_setCells hB r (o+1) W _ (h.setCell (p:=⟨g,o,aO⟩) hB v)
theorem yN {α:Type} {E:Ek α} (K:E.Ok) (hz:∀ v∈E.z.cells.toList,v.oneCell'=aW) {W:ay} {B g n cap i:Nat} {L:List α} (h:Own E W B (O (aA ⟨g,0,aO⟩) n cap) L) (hi:i<n) (ty:aS) :
  ∃ W',(bg #[E.ts] ty #[O (aA ⟨g,i * E.n,aO⟩) (n-i) (cap-i)]).run aQ W=.ok (.tuple #[]) W'/\Own E W' B (O (aA ⟨g,0,aO⟩) i cap) (L.take i)/\But g W W'/\(∀ B' W0,B'<=g->Below B' W0 W->Below B' W0 W'):=by
 have hln:=gH h;rcases gq h with⟨h1,_⟩|⟨g',cap',cur,h1,h2,h3,h4,h5,h6,h7⟩
 ·cases h1
 ·obtain⟨rfl,_,rfl⟩:g=g'/\n=L.length/\cap=cap':=by simpa using h1
  have hzs:(au E.z.cells (n-i)).toList.length=(n-i) * E.n:=by simp [au,K.zs]
  have h10:i * E.n+(n-i) * E.n=n * E.n:=by rw [<- Nat.add_mul,Nat.add_sub_cancel' (bH hi)]
  have h11:n * E.n<=cap * E.n:=aU _ (by omega);have hone:∀ v∈(au E.z.cells (n-i)).toList,v.oneCell'=aW:=by
   intro v hv;simp only [au,Array.toList_map,bI] at hv;obtain⟨j,_,rfl⟩:=hv;have hp:=K.pos;have hlt:j % E.z.cells.size<E.z.cells.size:=Nat.mod_lt _ (by rw [K.zs]; exact hp);refine hz _ ?_;rw [getElem!_pos E.z.cells (j % E.z.cells.size) hlt,Array.mem_toList_iff];exact Array.getElem_mem hlt
  have hst:=run_storeCells_cells (P:=aQ) g (i * E.n) (au E.z.cells (n-i)).toList 0 W (by
   intro j hj;rw [hzs] at hj;rw [bJ,h3.cell];have:i * E.n+j<cur.size:=by rw [h6]; omega
   simp [this]) (fun j _=>h3.fr _) hone
  rw [bJ] at hst;obtain⟨ii,i1,i2,i3,i4⟩:=K.info;obtain⟨cur',c1,c2,c3⟩:=qP (au E.z.cells (n-i)).toList (i * E.n) W cur h3;refine⟨W.setCells g (i * E.n) (au E.z.cells (n-i)).toList,?_,?_,qQ _ _ _ _,fun B' W0 hB hb=>below_setCells hB _ _ _ _ hb⟩
  ·obtain⟨m,hm⟩:∃ m,n-i=m+1:=⟨n-i-1,by omega⟩;rw [hm] at hst ⊢;have hv:∀ w,(zeroValue E.t).run aQ w=.ok E.z w:=fun w=>by simp [go_sem,zeroValue,typeInfo,i1,i2]
   simp [bg,run_underlying K.hu,hv,hst]
  ·refine mG K (by rw [aX]; omega) h2 c1 (by omega) h5 (by rw [c2]; exact h6) ?_;rw [c3];have h8:=congrArg (bK (i * E.n)) h7;rw [aT,oP K,bf (by rw [<- hln] at hi; exact aU _ (bH hi))] at h8;exact h8
structure oC {α:Type} (keep:α->Bool) (l:List α) (i j:Nat) (L:List α):Prop where
 len:L.length=l.length
 lt:i<j
 lo:L.take i=(l.take j).filter keep
 hi:L.drop j=l.drop j
theorem oC.at {α:Type} {keep:α->Bool} {l:List α} {i j:Nat} {L:List α} (h:oC keep l i j L):L[j]?=l[j]?:=by
 have:=congrArg (fun m=>m[0]?) h.hi;simpa using this
theorem oC.skip {α:Type} {keep:α->Bool} {l:List α} {i j:Nat} {L:List α} {x:α} (h:oC keep l i j L) (hx:l[j]?=aA x) (hk:keep x=aZ):oC keep l i (j+1) L where
 len:=h.len
 lt:=Nat.lt_succ_of_lt h.lt
 lo:=by
  rw [h.lo,aL,hx];simp [hk]
 hi:=by
  have:=congrArg (bL 1) h.hi;simpa [bq] using this
theorem oC.keep {α:Type} {keep:α->Bool} {l:List α} {i j:Nat} {L:List α} {x:α} (h:oC keep l i j L) (hx:l[j]?=aA x) (hk:keep x=aW):oC keep l (i+1) (j+1) (L.set i x) where
 len:=by rw [List.length_set]; exact h.len
 lt:=by have:=h.lt; omega
 lo:=by
  have hj:=(U.1 hx).1;have hl:=h.lt;have hL:=h.len;rw [aL,aV (aD _),h.lo,List.getElem?_set_self (by omega),aL,hx];simp [hk]
 hi:=by
  have:=congrArg (bL 1) h.hi;rw [List.drop_set_of_lt (by have:=h.lt; omega)];simpa [bq] using this
theorem qR {α:Type} {keep:α->Bool} {l:List α} {k:Nat} {x:α} (hx:l[k]?=aA x) (hk:keep x=aZ) (hall:∀ (j:Nat) (y:α),j<k->l[j]?=aA y->keep y=aW):oC keep l k (k+1) l where
 len:=rfl
 lt:=Nat.lt_succ_self _
 lo:=by
  rw [aL,hx,List.filter_append];have:(l.take k).filter keep=l.take k:=by
   rw [List.filter_eq_self];intro y hy;obtain⟨j,hj⟩:=List.mem_iff_getElem?.1 hy;have hj':=(U.1 hj).1;rw [aX] at hj';rw [List.getElem?_take_of_lt (by omega)] at hj;exact hall j y (by omega) hj
  rw [this];simp [hk]
 hi:=rfl
theorem pE {α:Type} {key:α->fB} {l:List α} {x:fB} (h:fE (l.map key) x=-1):∀ (j:Nat) (y:α),l[j]?=aA y->key y≠x:=by
 intro j y hj hy;have h1:=Au (l.map key) x;rw [h] at h1;have:x∈l.map key:=bI.2 ⟨y,aF hj,hy⟩;simp [this] at h1
theorem mP:∀ {l:List fB} {x:fB} {k:Nat},fE l x=k->l[k]?=aA x/\∀ (j:Nat) (y:fB),j<k->l[j]?=aA y->y≠x
 | [],x,k,h=>by simp [fE] at h <;> omega
 | a::l,x,k,h=>by
  unfold fE at h;by_cases hax:a=x
  ·rw [if_pos hax] at h;obtain rfl:k=0:=by omega
   exact⟨by simpa using hax,fun j y hj=>by omega⟩
  ·rw [if_neg hax] at h;by_cases h2:fE l x=-1
   ·rw [if_pos h2] at h; omega
   ·rw [if_neg h2] at h;cases k with
    | zero=>have:=lC l x; omega
    | succ k =>
     obtain⟨h3,h4⟩:=mP (l:=l) (x:=x) (k:=k) (by omega);refine⟨by simpa using h3,fun j y hj hy=>?_⟩;cases j with
     | zero =>
      obtain rfl:a=y:=by simpa using hy
      exact hax
     | succ j=>exact h4 j y (by omega) (by simpa using hy)
end Av
namespace Rg
open Go.RowKit
structure RZ (i N:Nat) (dst:Nat->Option Nat) (last:Nat->Nat) (V:Nat->aN->ay->Prop) (base:bM) (o:Oper) (a:bM) (w:ay):Prop where
 kp:∀ j u,(∀ k,k<N->dst k≠aA j)->base.tmps[j]?=aA u->a.eval (.tmp j)=u
 at_:∀ e∈o.after,aG .any e=aW->(last e.on=i\/N<=last e.on)->∀ d,dst e.on=aA d->V e.on (a.eval (.tmp d)) w
 st:∀ e∈o.after,aG .any e=aW->(last e.on=i\/N<=last e.on)->∃ v,V e.on v w
theorem yO (a:bM) (d:Option Nat) (v:aN) (j:Nat) (hj:d≠aA j):(a.put d v).tmps[j]?=a.tmps[j]?:=by
 cases d with
 | none=>rfl
 | some d=>exact get_put _ _ _ _ (fun e=>hj (by rw [e]))
theorem Mc (a:bM) (d:Option Nat) (v:aN):(a.put d v).tmps.size=a.tmps.size:=by
 cases d with
 | none=>rfl
 | some d=>exact size_put _ _ _
theorem put_defers (a:bM) (d:Option Nat) (v:aN):(a.put d v).defers=a.defers:=by
 cases d <;> rfl
structure PhD (l:List Oper) (N:Nat) (dst:Nat->Option Nat) (last:Nat->Nat) (V:Nat->aN->ay->Prop) (F:(Nat->Prop)->ay->Prop) (base:bM) (L:Array Bool) (a:bM) (x:ay):Prop where
 cl:∀ i o,done L i->l[i]?=aA o->∀ e∈o.after,aG .any e=aW->done L e.on
 df:a.defers=base.defers
 sz:a.tmps.size=base.tmps.size
 kp:∀ j,(∀ i,i<N->dst i≠aA j)->a.tmps[j]?=base.tmps[j]?
 fr:F (done L) x
 no:∀ i,N<=i->¬ done L i
 val:∃ vs:Nat->aN,∀ i,i<N->done L i->(∀ d,dst i=aA d->a.tmps[d]?=aA (vs i))/\(¬ done L (last i)->V i (vs i) x)
theorem tC {P:Program} {Q:Exit->bM->ay->Prop} {id:Nat} {base:bM} {w:ay} {l:List Oper} (N:Nat) (dst:Nat->Option Nat) (last:Nat->Nat) (V:Nat->aN->ay->Prop) (F:(Nat->Prop)->ay->Prop)
  (hm:P.follows .mixedOrders=aW) (hf:Ah l.toArray=aW) (hN:l.length=N) (hinj:∀ i j d,i<N->j<N->dst i=aA d->dst j=aA d->i=j) (hs:∀ i d,i<N->dst i=aA d->d<base.tmps.size) (h0:F (fun _=>False) w.drew)
  (hop:∀ i o,i<N->l[i]?=aA o->∀ a w' (D:Nat->Prop),¬ D i->(∀ j oj,D j->l[j]?=aA oj->∀ e∈oj.after,aG .any e=aW->D e.on)->(∀ e∈o.after,aG .any e=aW->D e.on)->F D w'->RZ i N dst last V base o a w'->∀ K:bM->ay->Prop,(∀ v w'',V i v w''->F (fun j=>j=i\/D j) w''->(∀ j u,j<N->D j->¬ D (last j)->last j≠i->j≠i->V j u w'->V j u w'')->K (a.put (dst i) v) w'')->wpOp P l.toArray Q i K a w')
  (hend:∀ a w',a.defers=base.defers->a.tmps.size=base.tmps.size->(∀ j,(∀ i,i<N->dst i≠aA j)->a.tmps[j]?=base.tmps[j]?)->(∃ vs:Nat->aN,∀ i,i<N->(∀ d,dst i=aA d->a.tmps[d]?=aA (vs i))/\(N<=last i->V i (vs i) w'))->(∃ D:Nat->Prop,(∀ i,i<N->D i)/\F D w')->Q .normal a w'):(Code.region id l.toArray aW).wp P Q base w:=by
 refine kC (fun L a x=>PhD l N dst last V F base L a x) hm hf ?_ ?_ ?_
 ·exact⟨fun i o h=>absurd h (fF _ _),rfl,rfl,fun _ _=>rfl,by rw [show done (Array.replicate l.length aZ)=fun _=>False from funext fun i=>propext ⟨fun h=>fF _ _ h,False.elim⟩]; exact h0,fun i _=>fF _ _,fun _=>.bool aW,fun i _ h=>absurd h (fF _ _)⟩
 ·intro L a x i o hsz I ho hnd jO;have hi:i<l.length:=(U.1 ho).1;have rV:i<L.size:=by omega
  have hiM:i<N:=by omega
  obtain⟨vs,q1⟩:=I.val;have hon:∀ e∈o.after,aG .any e=aW->e.on<N:=fun e he hb=>by
   have h7:=List.all_eq_true.1 hf i (List.mem_range.2 (by simpa using hi));have ho':(l.toArray)[i]?=aA o:=by simpa using ho
   rw [ho'] at h7;have h8:=Array.all_eq_true'.1 h7 e he;rw [hb] at h8;have:e.on<i:=by simpa using h8
   omega
  have lv:∀ e∈o.after,aG .any e=aW->(last e.on=i\/N<=last e.on)->V e.on (vs e.on) x:=fun e he hbd hl=>by
   refine (q1 e.on (hon e he hbd) (jO e he hbd)).2 ?_;rcases hl with hl|hl
   ·rw [hl]; exact hnd
   ·exact I.no _ hl
  have seen:RZ i N dst last V base o a x:=⟨fun j u hj hu=>dH (by rw [I.kp j hj]; exact hu),fun e he hbd hl d hd=>by
   rw [dH ((q1 e.on (hon e he hbd) (jO e he hbd)).1 d hd)];exact lv e he hbd hl,fun e he hbd hl=>⟨_,lv e he hbd hl⟩⟩
  refine hop i o hiM ho a x (done L) hnd I.cl jO I.fr seen _ fun v w'' hvw hfw hpr=>?_;refine⟨fun k q hk hq e he hb=>?_,by rw [put_defers]; exact I.df,by rw [Mc]; exact I.sz,fun j hj=>?_,by rw [show done (L.setIfInBounds i aW)=fun j=>j=i\/done L j from funext fun j=>propext (fQ rV j)]; exact hfw,fun k hk hd=>?_,fun k=>if k=i then v else vs k,fun k Qs hk=>?_⟩
  ·rw [fQ rV] at hk ⊢;rcases hk with rfl|hk
   ·rw [hq] at ho;cases ho;exact aR (jO e he hb)
   ·exact aR (I.cl k q hk hq e he hb)
  ·rw [yO _ _ _ _ (hj i hiM)];exact I.kp j hj
  ·rcases (fQ rV k).1 hd with h9|h9
   ·omega
   ·exact I.no k hk h9
  ·by_cases e:k=i
   ·subst e;simp only [if_true];refine⟨fun d hd=>?_,fun _=>hvw⟩;have h9:d<a.tmps.size:=by rw [I.sz]; exact hs k d Qs hd
    rw [hd];simp [Act.put,h9]
   ·simp only [if_neg e];rcases (fQ rV k).1 hk with h9|h9
    ·exact absurd h9 e
    ·obtain⟨p1,p2⟩:=q1 k Qs h9;refine⟨fun d hd=>?_,fun hn=>?_⟩
     ·rw [yO _ _ _ _ (fun h=>e (hinj k i d Qs hiM hd h))];exact p1 d hd
     ·have n1:last k≠i:=fun e3=>hn ((fQ rV _).2 (bG e3));have n2:¬ done L (last k):=fun e3=>hn ((fQ rV _).2 (aR e3));exact hpr k _ Qs h9 n2 n1 e (p2 n2)
 ·intro L a x I hd;obtain⟨vs,q1⟩:=I.val;exact hend a x I.df I.sz I.kp ⟨vs,fun k hk=>⟨(q1 k hk (hd k (by omega))).1,fun hl=>(q1 k hk (hd k (by omega))).2 (I.no _ hl)⟩⟩ ⟨done L,fun i hi=>hd i (by omega),I.fr⟩
end Rg
end Go.Proofs.YtmklifheakemeaaGreat
