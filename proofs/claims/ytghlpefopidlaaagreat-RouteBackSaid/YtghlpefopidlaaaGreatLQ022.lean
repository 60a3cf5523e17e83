/-
  slices.BinarySearch . Conditions as told.
-/
import Derived.Test.YtghlpefopidlaaaGreatLQ018
import Derived.Test.YtghlpefopidlaaaGreatLQ020
import Derived.Test.YtghlpefopidlaaaGreatLQ019
import Derived.Test.YtghlpefopidlaaaGreatLQ017
import Derived.Laws.IdiomCopy
import Derived.Test.YtghlpefopidlaaaGreatLQ021
set_option maxRecDepth 100000
set_option maxHeartbeats 64000000
open _root_.Bool renaming false->aS,true->aZ
open _root_.Go renaming World->aj,Value->aQ,TypeId->aU,Calls->aY,Addr->bK
open Go.Builtin renaming zeroCells->aN,clear_->bH
open Go.Ending renaming returned->aH
open Go.IntKind renaming i64->ah
open Go.Lib renaming hid->J
open Go.Obj renaming cells->aK
open Go.Proofs.Tryz renaming prog->aM,results8->bM,ntmps172->bN,ntmps90->bS,ntmps91->bU,func172->bV,func34->bW,func90->bX,func91->bY
open Go.RowKit.Below renaming refl->aO
open Go.Value renaming slice->O,int->Z,pointer->aI,bool->bI,agg->cB
open _root_.List renaming getElem?_eq_getElem->U,getElem?_eq_some_iff->ak,getElem?_toArray->aA,getElem?_cons_zero->aB,getElem?_cons_succ->aC,take_of_length_le->aJ,mem_of_getElem?->aL,take_take->aW,getElem?_map->bf,length_map->bG,map_cons->bL,mem_map->bO,take->cu
open _root_.Nat renaming lt_of_lt_of_le->aD,le_trans->aG,le_refl->aP,zero_le->aR,le_of_lt->aV,mul_le_mul_right->aX,lt_or_ge->bg,min_eq_left->bF,add_zero->bR
open _root_.Option renaming some->au,none->ay
open Option.some renaming inj->aF
open _root_.Or renaming inr->aT,inl->bZ
namespace Go.Proofs.YtghlpefopidlaaaGreat
namespace Av
open Go.RowKit Go.Sort Rw YtghlpefopidlaaaGreat.Nm Pr Bk
def lT (near:List Int) (f:Int):Bool:=decide (f∈near) || f == -1
structure rO (b:Br):Prop where
 dO:∀ a∈b.dO,a.p.length<=900
 ent:∀ a∈b.ent,a.p.length<=900
 own:∀ a∈b.own,a.p.length<=900
theorem gL {α:Type} {E:Ek α} {W:aj} {B n cap:Nat} {o:Option bK} {l:List α} (h:Own E W B (O o n cap) l):l.length=n:=by
 obtain⟨_,_,hv⟩:=(Row.dJ h).len;have:n=l.length:=by simpa using congrArg (fun v=>match v with | Value.slice _ n _=>n | _=>0) hv
 exact this.symm
theorem vE {α:Type} {E:Ek α} {W:aj} {B n cap:Nat} {o:Option bK} {l:List α} (h:Own E W B (O o n cap) l) (hn:0<n):∃ g,o=au ⟨g,0,ay⟩/\B<=g:=by
 have hl:=gL h;rcases gB h with⟨_,h2⟩|⟨g,c',cur,h1,h2,_⟩
 ·rw [h2] at hl; simp at hl; omega
 ·exact⟨g,by simp at h1; exact h1.1,h2⟩
theorem fu (w:aj) (b:Nat) (a0 a1 a2 a3 a4 a5:aQ):But b w (gV w b a0 a1 a2 a3 a4 a5) :=
 (((eF _ b _ _).trans (eF _ b _ _)).trans ((eF _ b _ _).trans (eF _ b _ _))).trans ((eF _ b _ _).trans (eF _ b _ _))
theorem Cs.done {w0 w wr:aj} {b:Br} {nv sv:Sl} {p2 p4 p5:Option bK} {q2 s2 q4 s4 q5 s5:Nat} (h:Cs w0 w wr b q2 q4 q5 nv (p2,q2,s2) sv (p4,q4,s4) (p5,q5,s5)) (a0 a1 a2 a3 a4 a5:aQ):Cp (vw w0) w.heap.size (gV wr (w.heap.size+1) a0 a1 a2 a3 a4 a5) b nv (p2,q2,s2) sv (p4,q4,s4) (p5,q5,s5)/\Below w.heap.size w (gV wr (w.heap.size+1) a0 a1 a2 a3 a4 a5):=by
 obtain⟨l1,d1,d2,d3⟩:=h.dO;obtain⟨l2,e1,e2,e3⟩:=h.ent;obtain⟨l3,f1,f2,f3⟩:=h.own;have n1:l1.length=q2:=gL d1;have n2:l2.length=q4:=gL e1;have n3:l3.length=q5:=gL f1;rw [aJ (by omega),aJ (by have:=d2.len; omega)] at d3;rw [aJ (by omega),aJ (by have:=e2.len; omega)] at e3;rw [aJ (by omega),aJ (by have:=f2.len; omega)] at f3;exact⟨Cp.but ⟨h.near,h.seen,⟨l1,d1,d3⟩,⟨l2,e1,e3⟩,⟨l3,f1,f3⟩⟩ (fu wr (w.heap.size+1) a0 a1 a2 a3 a4 a5) h.bz,dH h.wM (by omega) a0 a1 a2 a3 a4 a5⟩
theorem qj (b:Br) (nv av sv ev ov:Sl) (w0 w:aj) (hw0:Below w0.heap.size w0 w) (h:jq w0 b nv av sv ev ov) (hf:Gl b) (hp:rO b) :
  aY aM 33 #[mG b.me nv av sv ev ov] w fun e w'=>(∃ nv' Fa NW ev' Uk:Sl,e=aH (mG b.me nv' Fa NW ev' Uk)/\Cp (vw w0) w.heap.size w' b nv' Fa NW ev' Uk)/\Below w.heap.size w w':=by
 obtain⟨no,nn,nc⟩:=nv;obtain⟨ao,an,ac⟩:=av;obtain⟨so,sn,sc⟩:=sv;obtain⟨eo,en,ec⟩:=ev;obtain⟨oo,eG,oc⟩:=ov;obtain⟨la,ha1,ha2⟩:=h.dO;obtain⟨le,he1,he2⟩:=h.ent;obtain⟨NZ,ho1,ho2⟩:=h.own;have HA:=J ha2;have HE:=J he2;have HO:=J ho2;have R0:=J (h.near.on hw0);have R1:=J (ha1.on hw0);have R2:=J (h.seen.on hw0);have R3:=J (he1.on hw0);have R4:=J (ho1.on hw0);have W0:=J hw0;have HP:=J hp;have LL0:=J hf.near;have LL1:=J (show la.length<=900 by rw [ha2.len]; exact hf.dO);have LL2:=J hf.seen;have LL3:=J (show le.length<=900 by rw [he2.len]; exact hf.ent);have LL4:=J (show NZ.length<=900 by rw [ho2.len]; exact hf.own);obtain⟨h0,h1,h2⟩:=iI w #[Z ah b.me,O no nn nc,O ao an ac,O so sn sc,O eo en ec,O oo eG oc] #[Z ah 0,O ay 0 0,O ay 0 0,O ay 0 0,O ay 0 0,O ay 0 0] 30 30;have B0:=J h0;have XB:=J h1;have ZB:=J h2;clear h0 h1 h2 h hf hp hw0 ha1 ha2 he1 he2 ho1 ho2;go_enter Tryz.func33,Tryz.ntmps33;go_upto_region 1 with fail;generalize (w.alloc (aK #[Z ah b.me,O no nn nc,O ao an ac,O so sn sc,O eo en ec,O oo eG oc] 30)).alloc (aK #[Z ah 0,O ay 0 0,O ay 0 0,O ay 0 0,O ay 0 0,O ay 0 0] 30)=W at *;refine cp1 _ W w.heap.size b.me (O ao an ac) (O eo en ec) (O oo eG oc) no nn nc b.near so sn sc b.seen _ _ _ _ _ _ _ _ _ _ _ _ _ _ _ _ _ _ _ _ _ _ _ _ _ _ _ _ _ _ _ _ _ _ _ _ _ _ _ _ _ _ _ _ _ _ _ _ _ _ _ _ _ _ _ _ _ _ _ _ _ _ _ _ _ _ _ _ _ _ _ _ _ _ _ _ _ _ _ _ _ XB.out (R0.out.on B0.out) (R2.out.on B0.out) LL0.out LL2.out ?_;intro x1 v6 v7 v8 v9 v10 v11 v12 v13 p1 q1 s1 p3 q3 s3 hb1 hn1 hs1 XR XT;have B1:=J (B0.out.trans (XR _ (aP _)));have S1:=J (show W.heap.size<=x1.heap.size from (XR _ (aP _)).size);have ZB1:=J (show dK x1 (w.heap.size+1) _ _ from (XT _ ZB.out.lt (by omega)).trans ZB.out);have XB1:=J hb1;have N1:=J (dM hn1 B0.out.size);have J1:=J (dM hs1 B0.out.size);clear hb1 hn1 hs1 XR XT XB ZB;go_upto_region 2 with fail;refine cp2 _ x1 w.heap.size b.me (O p1 q1 s1) (O p3 q3 s3) ao an ac la eo en ec le oo eG oc NZ _ _ _ _ _ _ _ _ _ _ _ _ _ _ _ _ _ _ _ _ _ _ _ _ _ _ _ _ _ _ _ _ _ _ _ _ _ _ _ _ _ _ _ _ _ _ _ _ _ _ _ _ _ _ _ _ _ _ _ _ _ _ _ _ _ _ _ _ _ _ _ _ _ _ _ _ _ _ _ _ _ XB1.out (R1.out.on B1.out) (R3.out.on B1.out) (R4.out.on B1.out) LL1.out LL3.out LL4.out ?_;intro x2 v14 v15 v16 v17 v18 v19 v20 v21 v22 v23 v24 v25 p2 q2 s2 p4 q4 s4 p5 q5 s5 hb2 ha2 he2 ho2 Qv Jg;have CS:=J (show Cs w0 w x2 b 0 0 0 (p1,q1,s1) (p2,q2,s2) (p3,q3,s3) (p4,q4,s4) (p5,q5,s5) from {
  wM:=B1.out.trans (Qv _ (aP _))
  bx:=hb2
  bz:=(Jg _ ZB1.out.lt (by omega)).trans ZB1.out
  near:=But.own ⟨Jg,(Qv _ (aP _)).size⟩ N1.out XB1.out (by decide)
  seen:=But.own ⟨Jg,(Qv _ (aP _)).size⟩ J1.out XB1.out (by decide)
  dO:=⟨la,dM ha2 B1.out.size,HA.out.mono fun _ _ q=>⟨q.1,q.2.1,bZ q.2.2⟩,.nil⟩
  ent:=⟨le,dM he2 B1.out.size,HE.out.mono fun _ _ q=>⟨q.1,q.2.1,q.2.2.1,q.2.2.2.1,bZ q.2.2.2.2⟩,.nil⟩
  own:=⟨NZ,dM ho2 B1.out.size,HO.out.mono fun _ _ q=>⟨q.1,bZ q.2⟩,.nil⟩ })
 have Q2:=J (show q2<=900 from by rw [<- gL ha2]; exact LL1.out);have Q4:=J (show q4<=900 from by rw [<- gL he2]; exact LL3.out);have Q5:=J (show q5<=900 from by rw [<- gL ho2]; exact LL4.out);clear hb2 ha2 he2 ho2 Qv Jg XB1 ZB1 N1 J1 B1 S1 R0 R1 R2 R3 R4 HA HE HO LL0 LL1 LL2 LL3 LL4 B0;have cf2:=CS.out.bx.cell 2;simp only [aA,aB,aC] at cf2;go_wp2
 go_loopw [29] (fun i wr=>∃ k:Nat,k<=q2/\i=Z ah k/\Cs w0 w wr b k 0 0 (p1,q1,s1) (p2,q2,s2) (p3,q3,s3) (p4,q4,s4) (p5,q5,s5)) (fun i _=>q2-(intOf i).toNat)
 case atStart=>exact⟨0,aR _,rfl,CS.out⟩
 case round =>
  obtain⟨k,hk,rfl,hcs⟩:=hrel;have CS:=J hcs;have hq:=Q2.out;clear hcs;by_cases hlt:k<q2
  ·obtain⟨l,hl,hA,hV⟩:=CS.out.dO;have hln:l.length=q2:=gL hl;obtain⟨g,rfl,hBg⟩:∃ g,p2=au ⟨g,0,ay⟩/\w.heap.size<=g:=vE hl (show 0<q2 by omega);obtain⟨y,hy⟩:∃ y,l[k]?=au y:=⟨_,U (by omega)⟩;obtain⟨a,ha⟩:∃ a,b.dO[k]?=au a:=⟨_,U (by have h:=hA.len; have h2:l.length=q2:=hln; omega)⟩;obtain⟨y',hy',hym⟩:=hA.at k a ha;rw [hy] at hy';obtain rfl:=aF hy';obtain⟨y1,y2,⟨yo,yn,yc⟩,y4⟩:=y;have HW:=J hl;have HAA:=J hA;have HVV:=J hV;have Ey:=J hym;have XV:=J hy;have CF:=J ha;have HBG:=J hBg;have hw3:IntKind.i64.wrap ((k:Int)+1)=(k:Int)+1:=IntWalk.i64_in _ (by omega);clear hl hA hV hln hy ha hy' hym hBg cf2;go_upto_region 6 with fail;refine cp6 _ wr w.heap.size l w.heap.size b.me (O p1 q1 s1) (O p3 q3 s3) (O p4 q4 s4) (O p5 q5 s5) g q2 s2 k y1 y2 yo yn yc y4 a.p _ _ _ _ _ _ _ _ _ _ _ _ _ _ _ _ _ _ _ _ _ _ _ _ _ _ _ _ _ _ _ _ _ _ _ _ _ _ _ _ _ _ _ _ _ _ _ _ _ _ _ _ _ _ _ _ _ _ _ _ _ _ _ _ _ _ _ _ _ _ _ _ _ _ _ _ _ _ _ _ CS.out.bx HW.out XV.out (Ey.out.2.2.row (W0.out.trans (CS.out.wM.mono W0.out.size))) (HP.out.dO a (aL CF.out)) ?_;intro x v32 v33 v34 v35 v36 v37 v38 v39 v40 v41 t1 t2 t3 hC hO xZ hBel;have CS2:=J (show Cs w0 w x b (k+1) 0 0 (p1,q1,s1) (au ⟨g,0,ay⟩,q2,s2) (p3,q3,s3) (p4,q4,s4) (p5,q5,s5) from by
    obtain⟨cur,hg⟩:=jL HW.out;exact CS.out.Xn HW.out hO xZ (CS.out.wM.trans (hBel _ HBG.out CS.out.wM.size)) (eY.set k _ a (HAA.out.mono fun _ _ q=>q.but xZ hg (by decide)) CF.out ⟨Ey.out.1,Ey.out.2.1,aT (dM hC CS.out.wM.size)⟩) (zh (HVV.out.mono fun _ _ q=>q.but xZ hg (by decide)) (ak.1 XV.out).1 CF.out ⟨Ey.out.1,Ey.out.2.1,aT (dM hC CS.out.wM.size)⟩))
   clear hC hO xZ hBel CS HW HAA HVV Ey XV CF HBG;go_wp2
   go_roundw
   case rel=>exact⟨k+1,by omega,by go_num,CS2.out⟩
   case measure=>simp [intOf]; omega
  ·obtain rfl:q2=k:=by omega
   have cf4:=CS.out.bx.cell 4;simp only [aA,aB,aC] at cf4;clear hlt;go_wp2
   go_loopw [46] (fun i wr=>∃ k:Nat,k<=q4/\i=Z ah k/\Cs w0 w wr b q2 k 0 (p1,q1,s1) (p2,q2,s2) (p3,q3,s3) (p4,q4,s4) (p5,q5,s5)) (fun i _=>q4-(intOf i).toNat)
   case atStart=>exact⟨0,aR _,rfl,CS.out⟩
   case round =>
    obtain⟨k,hk,rfl,hcs⟩:=hrel;have CS:=J hcs;have hq:=Q4.out;clear hcs;by_cases hlt:k<q4
    ·obtain⟨l,hl,hA,hV⟩:=CS.out.ent;have hln:l.length=q4:=gL hl;obtain⟨g,rfl,hBg⟩:∃ g,p4=au ⟨g,0,ay⟩/\w.heap.size<=g:=vE hl (show 0<q4 by omega);obtain⟨y,hy⟩:∃ y,l[k]?=au y:=⟨_,U (by omega)⟩;obtain⟨a,ha⟩:∃ a,b.ent[k]?=au a:=⟨_,U (by have h:=hA.len; have h2:l.length=q4:=hln; omega)⟩;obtain⟨y',hy',hym⟩:=hA.at k a ha;rw [hy] at hy';obtain rfl:=aF hy';obtain⟨y1,y2,y3,y4,⟨yo,yn,yc⟩,y6,y7⟩:=y;have HW:=J hl;have HAA:=J hA;have HVV:=J hV;have Ey:=J hym;have XV:=J hy;have CF:=J ha;have HBG:=J hBg;have hw3:IntKind.i64.wrap ((k:Int)+1)=(k:Int)+1:=IntWalk.i64_in _ (by omega);clear hl hA hV hln hy ha hy' hym hBg cf4;go_upto_region 11 with fail;refine amO _ wr w.heap.size l w.heap.size b.me (O p1 q1 s1) (O p2 q2 s2) (O p3 q3 s3) (O p5 q5 s5) g q4 s4 k y1 y2 y3 y4 yo yn yc y6 y7 a.p _ _ _ _ _ _ _ _ _ _ _ _ _ _ _ _ _ _ _ _ _ _ _ _ _ _ _ _ _ _ _ _ _ _ _ _ _ _ _ _ _ _ _ _ _ _ _ _ _ _ _ _ _ _ _ _ _ _ _ _ _ _ _ _ _ _ _ _ _ _ _ _ _ _ _ _ _ _ _ _ CS.out.bx HW.out XV.out (Ey.out.2.2.2.2.row (W0.out.trans (CS.out.wM.mono W0.out.size))) (HP.out.ent a (aL CF.out)) ?_;intro x v49 v50 v51 v52 v53 v54 v55 v56 v57 v58 v59 v60 t1 t2 t3 hC hO xZ hBel;have CS2:=J (show Cs w0 w x b q2 (k+1) 0 (p1,q1,s1) (p2,q2,s2) (p3,q3,s3) (au ⟨g,0,ay⟩,q4,s4) (p5,q5,s5) from by
      obtain⟨cur,hg⟩:=jL HW.out;exact CS.out.amI HW.out hO xZ (CS.out.wM.trans (hBel _ HBG.out CS.out.wM.size)) (eY.set k _ a (HAA.out.mono fun _ _ q=>q.but xZ hg (by decide)) CF.out ⟨Ey.out.1,Ey.out.2.1,Ey.out.2.2.1,Ey.out.2.2.2.1,aT (dM hC CS.out.wM.size)⟩) (zh (HVV.out.mono fun _ _ q=>q.but xZ hg (by decide)) (ak.1 XV.out).1 CF.out ⟨Ey.out.1,Ey.out.2.1,Ey.out.2.2.1,Ey.out.2.2.2.1,aT (dM hC CS.out.wM.size)⟩))
     clear hC hO xZ hBel CS HW HAA HVV Ey XV CF HBG;go_wp2
     go_roundw
     case rel=>exact⟨k+1,by omega,by go_num,CS2.out⟩
     case measure=>simp [intOf]; omega
    ·obtain rfl:q4=k:=by omega
     have cf5:=CS.out.bx.cell 5;simp only [aA,aB,aC] at cf5;clear hlt;go_wp2
     go_loopw [65] (fun i wr=>∃ k:Nat,k<=q5/\i=Z ah k/\Cs w0 w wr b q2 q4 k (p1,q1,s1) (p2,q2,s2) (p3,q3,s3) (p4,q4,s4) (p5,q5,s5)) (fun i _=>q5-(intOf i).toNat)
     case atStart=>exact⟨0,aR _,rfl,CS.out⟩
     case round =>
      obtain⟨k,hk,rfl,hcs⟩:=hrel;have CS:=J hcs;have hq:=Q5.out;clear hcs;by_cases hlt:k<q5
      ·obtain⟨l,hl,hA,hV⟩:=CS.out.own;have hln:l.length=q5:=gL hl;obtain⟨g,rfl,hBg⟩:∃ g,p5=au ⟨g,0,ay⟩/\w.heap.size<=g:=vE hl (show 0<q5 by omega);obtain⟨y,hy⟩:∃ y,l[k]?=au y:=⟨_,U (by omega)⟩;obtain⟨a,ha⟩:∃ a,b.own[k]?=au a:=⟨_,U (by have h:=hA.len; have h2:l.length=q5:=hln; omega)⟩;obtain⟨y',hy',hym⟩:=hA.at k a ha;rw [hy] at hy';obtain rfl:=aF hy';obtain⟨y1,y2,⟨yo,yn,yc⟩⟩:=y;have HW:=J hl;have HAA:=J hA;have HVV:=J hV;have Ey:=J hym;have XV:=J hy;have CF:=J ha;have HBG:=J hBg;have hw3:IntKind.i64.wrap ((k:Int)+1)=(k:Int)+1:=IntWalk.i64_in _ (by omega);clear hl hA hV hln hy ha hy' hym hBg cf5;go_upto_region 16 with fail;refine amP _ wr w.heap.size l w.heap.size b.me (O p1 q1 s1) (O p2 q2 s2) (O p3 q3 s3) (O p4 q4 s4) g q5 s5 k y1 y2 yo yn yc a.p _ _ _ _ _ _ _ _ _ _ _ _ _ _ _ _ _ _ _ _ _ _ _ _ _ _ _ _ _ _ _ _ _ _ _ _ _ _ _ _ _ _ _ _ _ _ _ _ _ _ _ _ _ _ _ _ _ _ _ _ _ _ _ _ _ _ _ _ _ _ _ _ _ _ _ _ _ _ _ _ CS.out.bx HW.out XV.out (Ey.out.2.row (W0.out.trans (CS.out.wM.mono W0.out.size))) (HP.out.own a (aL CF.out)) ?_;intro x v68 v69 v70 v71 v72 v73 v74 v75 v76 v77 v78 v79 t1 t2 t3 hC hO xZ hBel;have CS2:=J (show Cs w0 w x b q2 q4 (k+1) (p1,q1,s1) (p2,q2,s2) (p3,q3,s3) (p4,q4,s4) (au ⟨g,0,ay⟩,q5,s5) from by
        obtain⟨cur,hg⟩:=jL HW.out;exact CS.out.setW HW.out hO xZ (CS.out.wM.trans (hBel _ HBG.out CS.out.wM.size)) (eY.set k _ a (HAA.out.mono fun _ _ q=>q.but xZ hg (by decide)) CF.out ⟨Ey.out.1,aT (dM hC CS.out.wM.size)⟩) (zh (HVV.out.mono fun _ _ q=>q.but xZ hg (by decide)) (ak.1 XV.out).1 CF.out ⟨Ey.out.1,aT (dM hC CS.out.wM.size)⟩))
       clear hC hO xZ hBel CS HW HAA HVV Ey XV CF HBG;go_wp2
       go_roundw
       case rel=>exact⟨k+1,by omega,by go_num,CS2.out⟩
       case measure=>simp [intOf]; omega
      ·obtain rfl:q5=k:=by omega
       have X1:=CS.out.bx;have Z1:=CS.out.bz;obtain⟨x0,x1,x2,x3,x4,x5⟩:=X1.fD;obtain⟨r0,r1,r2,r3,r4,r5⟩:=Z1.fD;obtain⟨t0,t1,t2,t3,t4,t5⟩:=Z1.kK;have zz:=Z1.lt;have FB:=J (dL Z1 (Z ah b.me) (O p1 q1 s1) (O p2 q2 s2) (O p3 q3 s3) (O p4 q4 s4) (O p5 q5 s5));have FD:=J (CS.out.done (Z ah b.me) (O p1 q1 s1) (O p2 q2 s2) (O p3 q3 s3) (O p4 q4 s4) (O p5 q5 s5));clear X1 Z1 CS;go_wp2_with fail;obtain⟨T,a0,a3,a4,a5,a6⟩:=FB.out.fD;refine bodyPost_ret (v:=cB #[Z ah b.me,O p1 q1 s1,O p2 q2 s2,O p3 q3 s3,O p4 q4 s4,O p5 q5 s5]) (by simp [results,Tryz.results33,go_sem,T,a0,a3,a4,a5,a6]) rfl ?_;exact⟨⟨(p1,q1,s1),(p2,q2,s2),(p3,q3,s3),(p4,q4,s4),(p5,q5,s5),rfl,FD.out.1⟩,FD.out.2⟩
theorem Ul (l:List eU) (y:eU):fJ wG l y<=l.length:=by
 rw [iK];exact aG (nG _ _) (by simp)
theorem XW (B:Nat) (v:Sl) (l:List eU) (x:eU) (w:aj) (ho:Own EJ w B (dX v) l) (hr:kS wG l) (hl:l.length<=900) (hB:B<=w.heap.size) :
  aY aM 37 #[dX v,nC x,.func (.func 38) #[] #[]] w fun e w'=>(∃ v':Sl,e=aH (dX v')/\Own EJ w' B (dX v') (fM l (fJ wG l (wG x)) x))/\Below B w w'/\(∀ j,j<w.heap.size->au j≠(dX v).ownBlock->w'.heap[j]?=w.heap[j]?):=by
 have h0:=gN w (aK #[Z ah x.1,Z ah x.2] 23);have X:=dQ w #[Z ah x.1,Z ah x.2] 23;have C:=J (ab4 (dX v) l x _ ((Row.dJ ho).on h0) hr hl);obtain⟨ks,hks⟩:∃ k,k=fJ wG l (wG x):=⟨_,rfl⟩;have KL:ks<=l.length:=by rw [hks]; exact Ul _ _
 rw [<- hks] at C;rw [<- hks];generalize iG wG l (wG x)=th at *;have OW:=J (Bk.dI ho h0);have HV:=J (show (dX v).ownBlock≠ay->∃ g,(dX v).ownBlock=au g/\g<w.heap.size from fun hne=>by
  cases hb:(dX v).ownBlock with
  | none=>exact absurd hb hne
  | some g=>exact⟨g,rfl,(ho.lt g hb).2⟩)
 have B0:=J ((aO B w).alloc hB (aK #[Z ah x.1,Z ah x.2] 23));have BN0:=J h0;have KK:=J KL;have LL:=J hl;have BB:=J hB;clear h0 ho hr hl hB hks KL;obtain⟨c1,c2⟩:=x;obtain⟨vo,vn,vc⟩:=v;simp only at C X;obtain⟨x0,x1⟩:=X.cs2;have XX:=J X;clear X;go_enter Tryz.func37,Tryz.ntmps37;go_wp2_with fail;have W1:=J (show w.heap.size<=(w.alloc (aK #[Z ah c1,Z ah c2] 23)).heap.size by simp);generalize w.alloc (aK #[Z ah c1,Z ah c2] 23)=W at *;refine C.out.mono ?_;rintro e w1 ⟨rfl,hb⟩;have Y:=XX.out.on hb;obtain⟨y0,y1⟩:=Y.cs2;have O1:=J (Bk.dI OW.out hb);have B1:=J (B0.out.trans (hb.mono (aG BB.out W1.out)));have BW:=J (fun j (hj:j<w.heap.size)=>(hb.block j (aD hj W1.out)).trans (BN0.out.block j hj));have S1:=J (aG W1.out hb.size);clear C Y hb x0 x1;go_wp2_with fail;have hl:=LL.out;have NB:=gN w1 (aK #[Z ah c1,Z ah c2] 23);refine (Ko B _ l ks (c1,c2) w1.heap.size _ (Bk.dI O1.out NB) (dQ w1 #[Z ah c1,Z ah c2] 23) ?_ KK.out (by omega) (aG (aG BB.out S1.out) NB.size)).mono ?_
 ·intro he;obtain⟨g,hg,hlt⟩:=HV.out (by rw [he]; simp);rw [he] at hg;have:=aF hg;have:=S1.out;omega
 rintro e w2 ⟨v',rfl,ho,hb,hoth⟩;obtain⟨a1,a2,hv⟩:=(Row.dJ ho).len;have Q:=J (show (∃ v'':Sl,aH v'=aH (dX v'')/\Own EJ w2 B (dX v'') (fM l ks (c1,c2)))/\Below B w w2/\(∀ j,j<w.heap.size->au j≠(dX (vo,vn,vc)).ownBlock->w2.heap[j]?=w.heap[j]?) from ⟨⟨(a1,_,a2),by rw [hv],by subst hv; simpa [fM] using ho⟩,(B1.out.trans (NB.mono (aG BB.out S1.out))).trans hb,fun j hj hne=>(hoth j (aD (aD hj S1.out) NB.size) hne).trans ((NB.block j (aD hj S1.out)).trans (BW.out j hj))⟩);clear ho hb hv hl NB;go_wp2;go_ret;exact Q.out
theorem Um (l:List kY) (y:eU):fJ tL l y<=l.length:=by
 rw [iK];exact aG (nG _ _) (by simp)
theorem XY (B:Nat) (v:Sl) (l:List kY) (x:kY) (w:aj) (ho:Own ED w B (dX v) l) (hr:kS tL l) (hl:l.length<=900) (hB:B<=w.heap.size) :
  aY aM 34 #[dX v,nD x,.func (.func 36) #[] #[]] w fun e w'=>(∃ v':Sl,e=aH (dX v')/\Own ED w' B (dX v') (fM l (fJ tL l (tL x)) x))/\Below B w w'/\(∀ j,j<w.heap.size->au j≠(dX v).ownBlock->w'.heap[j]?=w.heap[j]?):=by
 have h0:=gN w (aK #[Z ah x.1,Z ah x.2.1,dX x.2.2.1,Z ah x.2.2.2] 36);have X:=dQ w #[Z ah x.1,Z ah x.2.1,dX x.2.2.1,Z ah x.2.2.2] 36;have C:=J (ab7 (dX v) l x _ ((Row.dJ ho).on h0) hr hl);obtain⟨ks,hks⟩:∃ k,k=fJ tL l (tL x):=⟨_,rfl⟩;have KL:ks<=l.length:=by rw [hks]; exact Um _ _
 have e1:tL x=(x.1,x.2.1):=rfl;rw [<- e1] at C;rw [<- hks] at C;rw [<- hks];generalize iG tL l (tL x)=th at *;have OW:=J (Bk.dI ho h0);have HV:=J (show (dX v).ownBlock≠ay->∃ g,(dX v).ownBlock=au g/\g<w.heap.size from fun hne=>by
  cases hb:(dX v).ownBlock with
  | none=>exact absurd hb hne
  | some g=>exact⟨g,rfl,(ho.lt g hb).2⟩)
 have B0:=J ((aO B w).alloc hB (aK #[Z ah x.1,Z ah x.2.1,dX x.2.2.1,Z ah x.2.2.2] 36));have BN0:=J h0;have KK:=J KL;have LL:=J hl;have BB:=J hB;clear h0 ho hr hl hB hks KL;obtain⟨c1,c2,⟨c3,c4,c5⟩,c6⟩:=x;obtain⟨vo,vn,vc⟩:=v;simp only at C X;obtain⟨x0,x1,x2,x3⟩:=X.Bt;have XX:=J X;clear X;go_enter bW,Tryz.ntmps34;go_wp2_with fail;have W1:=J (show w.heap.size<=(w.alloc (aK #[Z ah c1,Z ah c2,O c3 c4 c5,Z ah c6] 36)).heap.size by simp);generalize w.alloc (aK #[Z ah c1,Z ah c2,O c3 c4 c5,Z ah c6] 36)=W at *;refine C.out.mono ?_;rintro e w1 ⟨rfl,hb⟩;have Y:=XX.out.on hb;obtain⟨y0,y1,y2,y3⟩:=Y.Bt;have O1:=J (Bk.dI OW.out hb);have B1:=J (B0.out.trans (hb.mono (aG BB.out W1.out)));have BW:=J (fun j (hj:j<w.heap.size)=>(hb.block j (aD hj W1.out)).trans (BN0.out.block j hj));have S1:=J (aG W1.out hb.size);clear C Y hb x0 x1 x2 x3;go_wp2_with fail;have hl:=LL.out;have NB:=gN w1 (aK #[Z ah c1,Z ah c2,O c3 c4 c5,Z ah c6] 36);refine (Kw B _ l ks (c1,c2,(c3,c4,c5),c6) w1.heap.size _ (Bk.dI O1.out NB) (dQ w1 #[Z ah c1,Z ah c2,O c3 c4 c5,Z ah c6] 36) ?_ KK.out (by omega) (aG (aG BB.out S1.out) NB.size)).mono ?_
 ·intro he;obtain⟨g,hg,hlt⟩:=HV.out (by rw [he]; simp);rw [he] at hg;have:=aF hg;have:=S1.out;omega
 rintro e w2 ⟨v',rfl,ho,hb,hoth⟩;obtain⟨a1,a2,hv⟩:=(Row.dJ ho).len;have Q:=J (show (∃ v'':Sl,aH v'=aH (dX v'')/\Own ED w2 B (dX v'') (fM l ks (c1,c2,(c3,c4,c5),c6)))/\Below B w w2/\(∀ j,j<w.heap.size->au j≠(dX (vo,vn,vc)).ownBlock->w2.heap[j]?=w.heap[j]?) from ⟨⟨(a1,_,a2),by rw [hv],by subst hv; simpa [fM] using ho⟩,(B1.out.trans (NB.mono (aG BB.out S1.out))).trans hb,fun j hj hne=>(hoth j (aD (aD hj S1.out) NB.size) hne).trans ((NB.block j (aD hj S1.out)).trans (BW.out j hj))⟩);clear ho hb hv hl NB;go_wp2;go_ret;exact Q.out
def Off (ob:Option Nat) (W x:aj):Prop:=(∀ j,j<W.heap.size->au j≠ob->x.heap[j]?=W.heap[j]?)/\W.heap.size<=x.heap.size
def Tag (ob:Option Nat) (W:aj) (t:aU):Prop:=∀ g,ob=au g->∃ d,dK W g d t
theorem jF {α:Type} {E:Ek α} {W:aj} {B:Nat} {v:aQ} {l:List α} (h:Own E W B v l):Tag v.ownBlock W E.t:=by
 intro g hg;rcases gB h with⟨rfl,_⟩|⟨g',c',cur,rfl,_,h2,_⟩
 ·cases hg
 ·obtain rfl:g'=g:=by simpa [Value.ownBlock] using hg
  exact⟨cur,h2⟩
theorem Off.own {α:Type} {E:Ek α} {ob:Option Nat} {W x:aj} {B:Nat} {v:aQ} {l:List α} {t:aU} (h:Off ob W x) (ho:Own E W B v l) (hg:Tag ob W t) (hne:(E.t == t)=aS):Own E x B v l:=by
 refine⟨ho.1,?_⟩;rcases ho.2 with h2|⟨g',cap,cur,h1,h2,h3,h4⟩
 ·exact bZ h2
 ·refine aT ⟨g',cap,cur,h1,h2,?_,h4⟩;rw [h.1 g' (lt_of_heap h3) fun e=>by
   obtain⟨d,hd⟩:=hg g' e.symm;exact rM (show dK W g' cur E.t from h3) hd hne rfl]
  exact h3
theorem Off.box {ob:Option Nat} {W x:aj} {b:Nat} {cs:Array aQ} {s t:aU} (h:Off ob W x) (hb:dK W b cs s) (hg:Tag ob W t) (hne:(s == t)=aS):dK x b cs s:=(h.1 b hb.lt fun e=>by
 obtain⟨d,hd⟩:=hg b e.symm;exact rM hb hd hne rfl).trans hb
theorem PM.off {w0 wr x:aj} {B:Nat} {v:aQ} {p:List C5} {ob:Option Nat} {t:aU} (h:PM w0 B wr v p) (hb:Off ob wr x) (hg:Tag ob wr t) (hne:(91 == t)=aS):PM w0 B x v p:=h.imp id fun h=>hb.own h hg hne
theorem Nt.off {w0 wr x:aj} {B:Nat} {y:kY} {a:Ad} {ob:Option Nat} {t:aU} (h:Nt w0 B wr y a) (hb:Off ob wr x) (hg:Tag ob wr t) (hne:(91 == t)=aS):Nt w0 B x y a:=⟨h.1,h.2.1,h.2.2.off hb hg hne⟩
theorem tK.off {w0 wr x:aj} {B:Nat} {y:jk} {a:En} {ob:Option Nat} {t:aU} (h:tK w0 B wr y a) (hb:Off ob wr x) (hg:Tag ob wr t) (hne:(91 == t)=aS):tK w0 B x y a:=⟨h.1,h.2.1,h.2.2.1,h.2.2.2.1,h.2.2.2.2.off hb hg hne⟩
theorem Og.off {w0 wr x:aj} {B:Nat} {y:ny} {a:Ow} {ob:Option Nat} {t:aU} (h:Og w0 B wr y a) (hb:Off ob wr x) (hg:Tag ob wr t) (hne:(91 == t)=aS):Og w0 B x y a:=⟨h.1,h.2.off hb hg hne⟩
theorem Cp.amX {w0 wr x:aj} {B:Nat} {b:Br} {nv av sv ev ov Fa:Sl} {al:List Ad} (h:Cp w0 B wr b nv av sv ev ov) (hb:Off (dX av).ownBlock wr x) (hx:∃ l,nk x B (dX Fa) l/\eY (Nt w0 B x) l al):Cp w0 B x { b with dO:=al } nv Fa sv ev ov:=by
 obtain⟨l0,hl0,_⟩:=h.dO;have hg:=jF hl0;exact {
  near:=hb.own h.near hg (by decide)
  seen:=hb.own h.seen hg (by decide)
  dO:=hx
  ent:=by obtain⟨l,h1,h2⟩:=h.ent; exact⟨l,hb.own h1 hg (by decide),h2.mono fun _ _ h=>h.off hb hg (by decide)⟩
  own:=by obtain⟨l,h1,h2⟩:=h.own; exact⟨l,hb.own h1 hg (by decide),h2.mono fun _ _ h=>h.off hb hg (by decide)⟩ }
theorem Cp.acg {w0 wr x:aj} {B:Nat} {b:Br} {nv av sv ev ov ev':Sl} {el:List En} (h:Cp w0 B wr b nv av sv ev ov) (hb:Off (dX ev).ownBlock wr x) (hx:∃ l,jH x B (dX ev') l/\eY (tK w0 B x) l el):Cp w0 B x { b with ent:=el } nv av sv ev' ov:=by
 obtain⟨l0,hl0,_⟩:=h.ent;have hg:=jF hl0;exact {
  near:=hb.own h.near hg (by decide)
  seen:=hb.own h.seen hg (by decide)
  dO:=by obtain⟨l,h1,h2⟩:=h.dO; exact⟨l,hb.own h1 hg (by decide),h2.mono fun _ _ h=>h.off hb hg (by decide)⟩
  ent:=hx
  own:=by obtain⟨l,h1,h2⟩:=h.own; exact⟨l,hb.own h1 hg (by decide),h2.mono fun _ _ h=>h.off hb hg (by decide)⟩ }
theorem Cp.amY {w0 wr x:aj} {B:Nat} {b:Br} {nv av sv ev ov NW:Sl} {sl:List eU} (h:Cp w0 B wr b nv av sv ev ov) (hb:Off (dX sv).ownBlock wr x) (hx:uE x B (dX NW) sl):Cp w0 B x { b with seen:=sl } nv av NW ev ov:=by
 have hg:=jF h.seen;exact {
  near:=hb.own h.near hg (by decide)
  seen:=hx
  dO:=by obtain⟨l,h1,h2⟩:=h.dO; exact⟨l,hb.own h1 hg (by decide),h2.mono fun _ _ h=>h.off hb hg (by decide)⟩
  ent:=by obtain⟨l,h1,h2⟩:=h.ent; exact⟨l,hb.own h1 hg (by decide),h2.mono fun _ _ h=>h.off hb hg (by decide)⟩
  own:=by obtain⟨l,h1,h2⟩:=h.own; exact⟨l,hb.own h1 hg (by decide),h2.mono fun _ _ h=>h.off hb hg (by decide)⟩ }
theorem yg {α β:Type} {R:α->β->Prop} {l:List α} {m:List β} (h:eY R l m) (k:Nat) {a:α} {b:β} (hr:R a b):eY R (fM l k a) (fM m k b) :=
 ((h.take k).append (.cons hr .nil)).append (h.drop k)
theorem keys_eq {w0 wr:aj} {B:Nat}:∀ {l:List kY} {al:List Ad},eY (Nt w0 B wr) l al->l.map tL=al.map Ad.id
 | _,_,.nil=>rfl
 | _,_,.cons h t=>by rw [bL,bL,keys_eq t]; exact congrArg (·::_) h.1
theorem GI {α:Type} (key:α->eU) (l:List α):kS key l↔kS (fun x:eU=>x) (l.map key):=by
 unfold kS;rw [List.pairwise_map]
theorem yh {g:Nat} {t:aU}:∀ (vs:List aQ) (o:Nat) (w:aj) (cur:Array aQ),dK w g cur t->∃ cur',dK (w.setCells g o vs) g cur' t/\cur'.size=cur.size/\cur'.toList.take o=cur.toList.take o
 | [],o,w,cur,h=>⟨cur,h,rfl,rfl⟩
 | v::r,o,w,cur,h=>by
  obtain⟨cur',h1,h2,h3⟩:=yh r (o+1) (w.setCell ⟨g,o,ay⟩ v) _ (eu (k:=o) h v);refine⟨cur',h1,by rw [h2]; simp,?_⟩;have h4:=congrArg (cu o) h3;rw [aW,aW,bF (by omega)] at h4;rw [h4,Array.toList_setIfInBounds,List.take_set_of_le (aP _)]
theorem yj (g:Nat):∀ (vs:List aQ) (o:Nat) (w:aj),But g w (w.setCells g o vs)
 | [],_,_w=>⟨fun _ _ _=>rfl,aP _⟩
 | v::r,o,w=>(eF w g o v).trans (yj g r (o+1) _)
theorem below_setCells {B g:Nat} (hB:B<=g):∀ (vs:List aQ) (o:Nat) (W w:aj),Below B W w->Below B W (w.setCells g o vs)
 | [],_,_,_,h=>h
 | v::r,o,W,_w,h=>below_setCells hB r (o+1) W _ (h.setCell (p:=⟨g,o,ay⟩) hB v)
theorem GJ {α:Type} {E:Ek α} (K:E.Ok) (hz:∀ v∈E.z.cells.toList,v.oneCell'=aZ) {W:aj} {B g n cap i:Nat} {L:List α} (h:Own E W B (O (au ⟨g,0,ay⟩) n cap) L) (hi:i<n) (ty:aU) :
  ∃ W',(bH #[E.ts] ty #[O (au ⟨g,i * E.n,ay⟩) (n-i) (cap-i)]).run aM W=.ok (.tuple #[]) W'/\Own E W' B (O (au ⟨g,0,ay⟩) i cap) (L.take i)/\But g W W'/\(∀ B' W0,B'<=g->Below B' W0 W->Below B' W0 W'):=by
 have hln:=gL h;rcases gB h with⟨h1,_⟩|⟨g',cap',cur,h1,h2,h3,h4,h5,h6,h7⟩
 ·cases h1
 ·obtain⟨rfl,_,rfl⟩:g=g'/\n=L.length/\cap=cap':=by simpa using h1
  have hzs:(aN E.z.cells (n-i)).toList.length=(n-i) * E.n:=by simp [aN,K.zs]
  have h10:i * E.n+(n-i) * E.n=n * E.n:=by rw [<- Nat.add_mul,Nat.add_sub_cancel' (aV hi)]
  have h11:n * E.n<=cap * E.n:=aX _ (by omega);have hone:∀ v∈(aN E.z.cells (n-i)).toList,v.oneCell'=aZ:=by
   intro v hv;simp only [aN,Array.toList_map,bO] at hv;obtain⟨j,_,rfl⟩:=hv;have hp:=K.pos;have hlt:j % E.z.cells.size<E.z.cells.size:=Nat.mod_lt _ (by rw [K.zs]; exact hp);refine hz _ ?_;rw [getElem!_pos E.z.cells (j % E.z.cells.size) hlt,Array.mem_toList_iff];exact Array.getElem_mem hlt
  have hst:=run_storeCells_cells (P:=aM) g (i * E.n) (aN E.z.cells (n-i)).toList 0 W (by
   intro j hj;rw [hzs] at hj;rw [bR,h3.cell];have:i * E.n+j<cur.size:=by rw [h6]; omega
   simp [this]) (fun j _=>h3.fr _) hone
  rw [bR] at hst;obtain⟨ii,i1,i2,i3,i4⟩:=K.info;obtain⟨cur',c1,c2,c3⟩:=yh (aN E.z.cells (n-i)).toList (i * E.n) W cur h3;refine⟨W.setCells g (i * E.n) (aN E.z.cells (n-i)).toList,?_,?_,yj _ _ _ _,fun B' W0 hB hb=>below_setCells hB _ _ _ _ hb⟩
  ·obtain⟨m,hm⟩:∃ m,n-i=m+1:=⟨n-i-1,by omega⟩;rw [hm] at hst ⊢;have hv:∀ w,(zeroValue E.t).run aM w=.ok E.z w:=fun w=>by simp [go_sem,zeroValue,typeInfo,i1,i2]
   simp [bH,run_underlying K.hu,hv,hst]
  ·refine oI K (by rw [List.length_take]; omega) h2 c1 (by omega) h5 (by rw [c2]; exact h6) ?_;rw [c3];have h8:=congrArg (cu (i * E.n)) h7;rw [aW,qb K,bF (by rw [<- hln] at hi; exact aX _ (aV hi))] at h8;exact h8
theorem GK {α:Type} {key:α->eU} {l:List α} {x:eU} (h:fO (l.map key) x=-1):∀ (j:Nat) (y:α),l[j]?=au y->key y≠x:=by
 intro j y hj hy;have h1:=J6 (l.map key) x;rw [h] at h1;have:x∈l.map key:=bO.2 ⟨y,aL hj,hy⟩;simp [this] at h1
theorem zq:∀ {l:List eU} {x:eU} {k:Nat},fO l x=k->l[k]?=au x/\∀ (j:Nat) (y:eU),j<k->l[j]?=au y->y≠x
 | [],x,k,h=>by simp [fO] at h <;> omega
 | a::l,x,k,h=>by
  unfold fO at h;by_cases hax:a=x
  ·rw [if_pos hax] at h;obtain rfl:k=0:=by omega
   exact⟨by simpa using hax,fun j y hj=>by omega⟩
  ·rw [if_neg hax] at h;by_cases h2:fO l x=-1
   ·rw [if_pos h2] at h; omega
   ·rw [if_neg h2] at h;cases k with
    | zero=>have:=rX l x; omega
    | succ k =>
     obtain⟨h3,h4⟩:=zq (l:=l) (x:=x) (k:=k) (by omega);refine⟨by simpa using h3,fun j y hj hy=>?_⟩;cases j with
     | zero =>
      obtain rfl:a=y:=by simpa using hy
      exact hax
     | succ j=>exact h4 j y (by omega) (by simpa using hy)
abbrev amZ (x:jk):eU:=(x.1,x.2.1)
abbrev zV (c d:Int) (x:jk):Bool:=decide (amZ x≠(c,d))
def Qw (B:Nat) (b1 _b2:Nat) (_me:Int) (_z1:aQ) (o2:Option bK) (n2 c2:Nat) (_z3 _z4 _z5:aQ) (y1 y2:Int) (yo:Option bK) (yn yc:Nat) (y4:Int) (p:List C5) (i:Nat) (v:aQ) (x:aj):Prop :=
 match i with
 | 0=>v=aI (au ⟨b1,2,ay⟩)
 | 1=>v=O o2 n2 c2
 | 2=>v=cB #[Z ah y1,Z ah y2,O yo yn yc,Z ah y4]
 | 3=>∃ s:Sl,v=nD (y1,y2,s,y4)/\iJ x B (dX s) p
 | _=>True
noncomputable def adP:Code:=((Tryz.f8.body.bind (eO 4)).getD .skip)
theorem XZ (B:Nat) (b1 b2:Nat) (me:Int) (z1:aQ) (o2:Option bK) (n2 c2:Nat) (z3 z4 z5:aQ) (y1 y2:Int) (yo:Option bK) (yn yc:Nat) (y4:Int) (p:List C5) (i:Nat) (v:aQ) (x x':aj) (h:Qw B b1 b2 me z1 o2 n2 c2 z3 z4 z5 y1 y2 yo yn yc y4 p i v x) (hb:Below x.heap.size x x'):Qw B b1 b2 me z1 o2 n2 c2 z3 z4 z5 y1 y2 yo yn yc y4 p i v x':=by
 by_cases hi:i<4
 ·rcases (by omega:i=0\/i=1\/i=2\/i=3) with rfl|rfl|rfl|rfl
  ·exact h
  ·exact h
  ·exact h
  ·obtain⟨s,h1,h2⟩:=h; exact⟨s,h1,Bk.dI h2 hb⟩
 ·unfold Qw
  split <;> first | omega | trivial
theorem am0 (Q:Exit->Act->aj->Prop) (W:aj) (B0:Nat) (l:List kY) (b1 b2:Nat) (me:Int) (z1:aQ) (o2:Option bK) (n2 c2:Nat) (z3 z4 z5:aQ) (y1 y2:Int) (yo:Option bK) (yn yc:Nat) (y4:Int) (p:List C5) (T a0 a3 a4 a5 a6 a7 a8 aE b9 bJ cF cG cH cI cJ cL bQ c7 c8 c9 cA cC cD:aQ)
  (h1:dK W b1 #[Z ah me,z1,O o2 n2 c2,z3,z4,z5] 30) (h2:dK W b2 #[Z ah y1,Z ah y2,O yo yn yc,Z ah y4] 36) (ho:nk W B0 (O o2 n2 c2) l) (hr:kS tL l) (hl:l.length<=900) (hB:B0<=W.heap.size) (hb0:b1<B0) (hp:fI W (O yo yn yc) p) (lp:p.length<=900)
  (hQ:∀ (w1:aj) (cM cN cP cQ cR cS:aQ) (s1:Option bK) (s2 s3:Nat) (t1:Option bK) (t2 t3:Nat),dK w1 b1 #[Z ah me,z1,O o2 n2 c2,z3,z4,z5] 30->nk w1 B0 (O t1 t2 t3) (fM l (fJ tL l (y1,y2)) (y1,y2,(s1,s2,s3),y4))->iJ w1 W.heap.size (O s1 s2 s3) p->Off (dX (o2,n2,c2)).ownBlock W w1->Below B0 W w1->Q .normal ⟨(T::a0::aI (au ⟨b1,0,ay⟩)::aI (au ⟨b2,0,ay⟩)::a3::a4::a5::a6::a7::a8::aE::b9::bJ::cM::cN::cP::cQ::cR::cS::bQ::c7::c8::c9::cA::cC::cD::[]).toArray,[]⟩ (w1.setCell ⟨b1,2,ay⟩ (O t1 t2 t3))) :
  Code.wp aM adP Q ⟨(T::a0::aI (au ⟨b1,0,ay⟩)::aI (au ⟨b2,0,ay⟩)::a3::a4::a5::a6::a7::a8::aE::b9::bJ::cF::cG::cH::cI::cJ::cL::bQ::c7::c8::c9::cA::cC::cD::[]).toArray,[]⟩ W:=by
 have HQ:=J hQ;have H1:=J h1;have H2:=J h2;have HO:=J ho;have HR:=J hr;have HL:=J hl;have HB:=J hB;have H0:=J hb0;have HP:=J hp;have LP:=J lp;clear hQ h1 h2 ho hr hl hB hb0 hp lp;have jW:=XZ W.heap.size b1 b2 me z1 o2 n2 c2 z3 z4 z5 y1 y2 yo yn yc y4 p;unfold adP
 conv=>arg 2; whnf
 have nd:∀ j,(j<13\/17<=j)->∀ i,i<4->(fun i=>13+i) i≠j:=by
  intro j hj i hi h;simp only at h;omega
 refine Rg.gU 7 4 (fun i=>13+i) (fun _=>4) (Qw W.heap.size b1 b2 me z1 o2 n2 c2 z3 z4 z5 y1 y2 yo yn yc y4 p) (by kernel_rfl) (by kernel_rfl) rfl (by decide) (fun i j _ _ h=>by have h2:13+i=13+j:=h; omega) (fun i hi=>by show 13+i<26; omega) ?_ (fun _=>Rg.kL 14 (by kernel_rfl)) ?_ ?_
 ·intro i o hi ho a x D hnd hc hD hb seen K hK;clear HQ;rcases (by omega:i=0\/i=1\/i=2\/i=3) with rfl|rfl|rfl|rfl
  ·cases ho;have e2:a.eval (.tmp 2)=aI (au ⟨b1,0,ay⟩):=seen.kp 2 _ (nd 2 (by omega)) rfl;exact Rg.dG rfl rfl (Rg.dW a.eval _ 30 (.tmp 2) 2 rfl (by rw [e2]; simp [go_sem])) (hK _ _ rfl (aO _ _) fun _ _ _ _ _ _ _ h=>h)
  ·cases ho;have e13:a.eval (.tmp 13)=aI (au ⟨b1,2,ay⟩):=seen.at_ ⟨0,.data⟩ (by simp) rfl (aT (by decide));have y2:=(H1.out.on hb).cell 2;simp only [aA,aB,aC] at y2;exact Rg.dG rfl rfl (Rg.dU a.eval _ 25 (.tmp 13) rfl (by rw [e13]; simp [go_sem,y2])) (hK _ _ rfl (aO _ _) fun _ _ _ _ _ _ _ h=>h)
  ·cases ho;have e3:a.eval (.tmp 3)=aI (au ⟨b2,0,ay⟩):=seen.kp 3 _ (nd 3 (by omega)) rfl;obtain⟨y0,y1,y2,y3⟩:=(H2.out.on hb).Bt;exact Rg.dG rfl rfl (Rg.dU a.eval _ 36 (.tmp 3) rfl (by rw [e3]; simp [go_sem,y0,y1,y2,y3])) (hK _ _ rfl (aO _ _) fun _ _ _ _ _ _ _ h=>h)
  ·cases ho;have e15:a.eval (.tmp 15)=cB #[Z ah y1,Z ah y2,O yo yn yc,Z ah y4]:=seen.at_ ⟨2,.data⟩ (by simp) rfl (aT (by decide));exact Rg.gP rfl rfl (Rw.iZ a.eval _ (.tmp 15) 36 35 rfl e15 rfl _ (fV Tryz.func35 rfl rfl _ _)) (Cm (y1,y2,(yo,yn,yc),y4) p x (HP.out.on hb) LP.out) fun e w1 h=>by
    obtain⟨⟨s,rfl,h1⟩,h3⟩:=h;exact⟨_,rfl,hK _ _ ⟨s,rfl,dM h1 hb.size⟩ (h3.mono hb.size) fun j u hj _ _ _ hne h=>jW j u _ _ h h3⟩
 ·intro kk o h1 h2 ho;rcases (by omega:kk=5\/kk=6) with rfl|rfl
  ·cases ho;exact⟨⟨4,.phase⟩,by simp,rfl,rfl⟩
  ·cases ho;exact⟨⟨5,.data⟩,by simp,rfl,rfl⟩
 ·intro a w' df sz kp ⟨vs,hv⟩ hb;have sz':a.tmps.size=26:=sz;have g2:a.tmps[2]?=au (aI (au ⟨b1,0,ay⟩)):=(kp 2 (nd 2 (by omega))).trans rfl;have g14:a.tmps[14]?=au (O o2 n2 c2):=by
   have h:vs 1=O o2 n2 c2:=(hv 1 (by omega)).2 (by decide);rw [<- h];exact (hv 1 (by omega)).1
  obtain⟨⟨s1,s2,s3⟩,hs,hc⟩:=(hv 3 (by omega)).2 (by decide);have g16:a.tmps[16]?=au (nD (y1,y2,(s1,s2,s3),y4)):=((hv 3 (by omega)).1).trans (congrArg au hs);have B1:=H1.out.on hb;show Rg.fZ _ _ _ 3 4 a w';simp only [Rg.fZ];refine Rg.gP rfl rfl (rZ a.eval _ (.tmp 14) (.tmp 16) (.func 36) 25 36 79 34 rfl (Rg.dP g14) (Rg.dP g16) rfl rfl _ (fV bW rfl rfl _ _)) (XY B0 (o2,n2,c2) l (y1,y2,(s1,s2,s3),y4) w' (Bk.dI HO.out hb) HR.out HL.out (aG HB.out hb.size)) fun e w1 h=>?_;obtain⟨⟨⟨t1,t2,t3⟩,rfl,hown⟩,hbel,hoth⟩:=h;refine⟨_,rfl,?_⟩;have am1:(a.put (au 17) (O t1 t2 t3)).tmps[17]?=au (O t1 t2 t3):=by simp [Act.put,sz']
  show Go.wpOp _ _ _ 5 _ (a.put (au 17) (O t1 t2 t3)) _;refine Rg.dG rfl rfl (Rg.dW _ _ 30 (.tmp 2) 2 rfl (v:=aI (au ⟨b1,2,ay⟩)) (by rw [Rg.dP ((Rg.get_put _ 17 _ 2 (by decide)).trans g2)]; simp [go_sem])) ?_;have am2:((a.put (au 17) (O t1 t2 t3)).put (au 18) (aI (au ⟨b1,2,ay⟩))).tmps[18]?=au (aI (au ⟨b1,2,ay⟩)):=by simp [Act.put,sz']
  show Go.wpOp _ _ _ 6 _ ((a.put (au 17) (O t1 t2 t3)).put (au 18) (aI (au ⟨b1,2,ay⟩))) _;have B2:dK w1 b1 _ _:=(hbel.block b1 H0.out).trans B1;have cx:=B2.cell 2;have fx:=B2.fr 2;simp only [aA,aB,aC] at cx;refine Rg.gu 25 (.tmp 18) (.tmp 17) rfl rfl rfl rfl (Rg.dP am2) (Rg.dP ((Rg.get_put _ 18 _ 17 (by decide)).trans am1)) (w':=w1.setCell ⟨b1,2,ay⟩ (O t1 t2 t3)) (by simp [go_sem,cx,fx]) ?_;have of1:Off (dX (o2,n2,c2)).ownBlock w' w1:=⟨hoth,hbel.size⟩;have of2:Off (dX (o2,n2,c2)).ownBlock W w1:=⟨fun j hj hne=>(hoth j (aD hj hb.size) hne).trans (hb.block j hj),aG hb.size hbel.size⟩;have rJ:∀ j,(j<13\/19<=j)->((a.put (au 17) (O t1 t2 t3)).put (au 18) (aI (au ⟨b1,2,ay⟩))).tmps[j]?=(T::a0::aI (au ⟨b1,0,ay⟩)::aI (au ⟨b2,0,ay⟩)::a3::a4::a5::a6::a7::a8::aE::b9::bJ::cF::cG::cH::cI::cJ::cL::bQ::c7::c8::c9::cA::cC::cD::[])[j]?:=fun j hj=>(Rg.get_put _ 18 _ j (by omega)).trans ((Rg.get_put _ 17 _ j (by omega)).trans ((kp j (nd j (by omega))).trans aA));obtain⟨mid,hmid,hfr⟩:=Rg.gM (a:=(a.put (au 17) (O t1 t2 t3)).put (au 18) (aI (au ⟨b1,2,ay⟩))) 13 6 df (by simp [Rg.size_put,sz']) (by simp) rJ;show Q .normal ((a.put (au 17) (O t1 t2 t3)).put (au 18) (aI (au ⟨b1,2,ay⟩))) _;rw [hfr]
  match mid,hmid with
  | [cM,cN,cP,cQ,cR,cS],_ =>
   exact HQ.out w1 _ _ _ _ _ _ s1 s2 s3 t1 t2 t3 B2 hown (of1.own hc (jF (Bk.dI HO.out hb)) (by decide)) of2 ((hb.mono HB.out).trans hbel)
abbrev vF (l:List Ad):Prop:=kS Ad.id l
abbrev Ky (l:List eU):Prop:=kS (fun x:eU=>x) l
def lN (W:aj) (nv:Sl) (l:List Int):Prop:=∃ B,Ay W B (dX nv) l
theorem lN.on {W W':aj} {nv:Sl} {l:List Int} (h:lN W nv l) (hb:Below W.heap.size W W'):lN W' nv l:=by obtain⟨B,h⟩:=h; exact⟨B,Bk.dI h hb⟩
def X6 (W:aj) (P:Prop) (r:Br×Bool) (e:Ending) (w':aj):Prop:=(∃ nv av sv ev ov:Sl,e=aH (.tuple #[mG r.1.me nv av sv ev ov,bI r.2])/\jq w' r.1 nv av sv ev ov/\(P->lN w' nv r.1.near))/\Below W.heap.size W w'
def mo (W:aj) (b:Br) (nv av sv ev ov:Sl):Prop:=∃ (V:aj) (B:Nat),Cp (vw V) B W b nv av sv ev ov
theorem mo.on {W W':aj} {b:Br} {nv av sv ev ov:Sl} (h:mo W b nv av sv ev ov) (hb:Below W.heap.size W W'):mo W' b nv av sv ev ov:=by
 obtain⟨V,B,h⟩:=h;exact⟨V,B,h.grow hb⟩
theorem Cp.vbr {V wr:aj} {B:Nat} {b:Br} {nv av sv ev ov:Sl} (h:Cp (vw V) B wr b nv av sv ev ov):jq wr b nv av sv ev ov where
 near:=Row.dJ h.near
 dO:=by obtain⟨l,h1,h2⟩:=h.dO; exact⟨l,Row.dJ h1,h2.mono fun _ _ q=>⟨q.1,q.2.1,q.2.2.elim Jd Row.dJ⟩⟩
 seen:=Row.dJ h.seen
 ent:=by obtain⟨l,h1,h2⟩:=h.ent; exact⟨l,Row.dJ h1,h2.mono fun _ _ q=>⟨q.1,q.2.1,q.2.2.1,q.2.2.2.1,q.2.2.2.2.elim Jd Row.dJ⟩⟩
 own:=by obtain⟨l,h1,h2⟩:=h.own; exact⟨l,Row.dJ h1,h2.mono fun _ _ q=>⟨q.1,q.2.elim Jd Row.dJ⟩⟩
theorem mo.br {W:aj} {b:Br} {nv av sv ev ov:Sl} (h:mo W b nv av sv ev ov):jq W b nv av sv ev ov:=by
 obtain⟨V,B,h⟩:=h;exact h.vbr
theorem mo.no {W:aj} {b:Br} {nv av sv ev ov:Sl} (h:mo W b nv av sv ev ov):lN W nv b.near:=by
 obtain⟨V,B,h⟩:=h;exact⟨B,h.near⟩
theorem mo.vg {W W':aj} {b:Br} {nv av sv ev ov:Sl} (h:mo W b nv av sv ev ov) {g:Nat} {d:Array aQ} {t:aU} (hb:But g W W') (hg:dK W g d t) (h1:(3 == t)=aS) (h2:(23 == t)=aS) (h3:(36 == t)=aS) (h4:(67 == t)=aS) (h5:(88 == t)=aS) (h6:(91 == t)=aS):mo W' b nv av sv ev ov:=by
 obtain⟨V,B,h⟩:=h;exact⟨V,B,h.vg hb hg h1 h2 h3 h4 h5 h6⟩
def yt (W:aj) (P R:Prop) (r:Br×Bool) (e:Ending) (w':aj):Prop:=(∃ nv av sv ev ov:Sl,e=aH (.tuple #[mG r.1.me nv av sv ev ov,bI r.2])/\jq w' r.1 nv av sv ev ov/\(P->lN w' nv r.1.near)/\(R\/r.2=aZ->mo w' r.1 nv av sv ev ov))/\Below W.heap.size W w'
theorem yt.one {W:aj} {P R:Prop} {r:Br×Bool} {e:Ending} {w':aj} (h:yt W P R r e w'):X6 W P r e w':=by
 obtain⟨⟨a1,a2,a3,a4,a5,h1,h2,h3,_⟩,h5⟩:=h;exact⟨⟨a1,a2,a3,a4,a5,h1,h2,h3⟩,h5⟩
theorem zu {b:Br} {a:Ad} (h:a.id∈b.seen):fQ b a=(b,aS):=by unfold fQ; rw [if_pos h]
theorem xA {b:Br} {a:Ad} (h:¬ a.id∈b.seen):fQ b a=({ b with seen:=fM b.seen (fC b.seen a.id) a.id,dO:=fM b.dO (fC (b.dO.map Ad.id) a.id) a },aZ):=by unfold fQ; rw [if_neg h]
theorem Un (b:Br) (a:Ad) (nv av sv ev ov:Sl) (x:kY) (w:aj) (h:jq w b nv av sv ev ov) (ha:uU w x a) (hf:Gl b) (hp:rO b) (hla:a.p.length<=900) (hr1:Ky b.seen) (hr2:vF b.dO) :
  aY aM 8 #[mG b.me nv av sv ev ov,nD x] w (yt w (lN w nv b.near) (mo w b nv av sv ev ov) (fQ b a)):=by
 obtain⟨no,nn,nc⟩:=nv;obtain⟨ao,an,ac⟩:=av;obtain⟨so,sn,sc⟩:=sv;obtain⟨eo,en,ec⟩:=ev;obtain⟨oo,eG,oc⟩:=ov;obtain⟨y1,y2,⟨yo,yn,yc⟩,y4⟩:=x;obtain⟨h0,h1,h2⟩:=iI w #[Z ah b.me,O no nn nc,O ao an ac,O so sn sc,O eo en ec,O oo eG oc] #[Z ah y1,Z ah y2,O yo yn yc,Z ah y4] 30 36;have h3:=gN ((w.alloc (aK #[Z ah b.me,O no nn nc,O ao an ac,O so sn sc,O eo en ec,O oo eG oc] 30)).alloc (aK #[Z ah y1,Z ah y2,O yo yn yc,Z ah y4] 36)) (aK #[Z ah 0,O ay 0 0,O ay 0 0,O ay 0 0,O ay 0 0,O ay 0 0] 30);have h4:=dQ ((w.alloc (aK #[Z ah b.me,O no nn nc,O ao an ac,O so sn sc,O eo en ec,O oo eG oc] 30)).alloc (aK #[Z ah y1,Z ah y2,O yo yn yc,Z ah y4] 36)) #[Z ah 0,O ay 0 0,O ay 0 0,O ay 0 0,O ay 0 0,O ay 0 0] 30;have hsz:((w.alloc (aK #[Z ah b.me,O no nn nc,O ao an ac,O so sn sc,O eo en ec,O oo eG oc] 30)).alloc (aK #[Z ah y1,Z ah y2,O yo yn yc,Z ah y4] 36)).heap.size=w.heap.size+1+1:=by simp
 rw [hsz] at h4;have BB:=J (h0.trans (h3.mono h0.size));have X1:=J (h1.on h3);have X2:=J (h2.on h3);have X3:=J h4;have HH:=J h;have HA:=J ha;have HF:=J hf;have HP:=J hp;have LA:=J hla;have R1:=J hr1;have R2:=J hr2;have ei:a.id=(y1,y2):=ha.1.symm;have SW:=J (TI b.me (O no nn nc) (O ao an ac) (O eo en ec) (O oo eG oc) (so,sn,sc) b.seen (y1,y2) _ (h.seen.on BB.out));obtain⟨r,hr⟩:∃ r,decide ((y1,y2)∈b.seen)=r:=⟨_,rfl⟩;rw [hr] at SW;have HR:=J hr;have EI:=J ei;obtain⟨x0,x1,x2,x3,x4,x5⟩:=X1.out.fD;obtain⟨d0,d1,d2,d3⟩:=X2.out.Bt;obtain⟨z0,z1,z2,z3,z4,z5⟩:=X3.out.fD;obtain⟨t0,t1,t2,t3,t4,t5⟩:=X3.out.kK;have zz:=X3.out.lt;clear h0 h1 h2 h3 h4 hsz h ha hf hp hla hr1 hr2 hr ei;go_enter Tryz.func8,Tryz.ntmps8;go_wp2_with fail;generalize ((w.alloc (aK #[Z ah b.me,O no nn nc,O ao an ac,O so sn sc,O eo en ec,O oo eG oc] 30)).alloc (aK #[Z ah y1,Z ah y2,O yo yn yc,Z ah y4] 36)).alloc (aK #[Z ah 0,O ay 0 0,O ay 0 0,O ay 0 0,O ay 0 0,O ay 0 0] 30)=W at *;refine SW.out.mono ?_;rintro e1 w1 ⟨rfl,hb⟩;have B1:=J (BB.out.trans (hb.mono BB.out.size));have Y1:=X1.out.on hb;have Y2:=X2.out.on hb;have Y3:=X3.out.on hb;clear SW hb x0 x1 x2 x3 x4 x5 d0 d1 d2 d3 z0 z1 z2 z3 z4 z5 t0 t1 t2 t3 t4 t5 zz X1 X2 X3;obtain⟨x0,x1,x2,x3,x4,x5⟩:=Y1.fD;obtain⟨z0,z1,z2,z3,z4,z5⟩:=Y3.fD;obtain⟨t0,t1,t2,t3,t4,t5⟩:=Y3.kK;have zz:=Y3.lt;cases r
 ·have nin:¬ a.id∈b.seen:=by rw [EI.out]; exact of_decide_eq_false HR.out
  have LQ:=J (xA nin);have Z1:=J Y1;have Z2:=J Y2;have Z3:=J Y3;have L1:=J Y1.lt;have L3:=J (show w.heap.size+1<w1.heap.size from Y2.lt);clear z0 z1 z2 z3 z4 z5 t0 t1 t2 t3 t4 t5 zz nin;go_wp2_with fail;refine (qj b (no,nn,nc) (ao,an,ac) (so,sn,sc) (eo,en,ec) (oo,eG,oc) w w1 B1.out HH.out HF.out HP.out).mono ?_;rintro e2 w2 ⟨⟨⟨p1,q1,s1⟩,⟨p2,q2,s2⟩,⟨p3,q3,s3⟩,⟨p4,q4,s4⟩,⟨p5,q5,s5⟩,rfl,cp⟩,hb2⟩;have V1:=Z1.out.on hb2;have V2:=J (Z2.out.on hb2);have V3:=J (Z3.out.on hb2);clear x0 x1 x2 x3 x4 x5;obtain⟨x0,x1,x2,x3,x4,x5⟩:=V1.fD;obtain⟨t0,t1,t2,t3,t4,t5⟩:=V1.kK;have zz:=V1.lt;have FB:=J (dL V1 (Z ah b.me) (O p1 q1 s1) (O p2 q2 s2) (O p3 q3 s3) (O p4 q4 s4) (O p5 q5 s5));have FC:=J (cp.but (fu w2 w.heap.size (Z ah b.me) (O p1 q1 s1) (O p2 q2 s2) (O p3 q3 s3) (O p4 q4 s4) (O p5 q5 s5)) V1);have FL:=J (dH (b:=w.heap.size) (B1.out.trans (hb2.mono B1.out.size)) (aP _) (Z ah b.me) (O p1 q1 s1) (O p2 q2 s2) (O p3 q3 s3) (O p4 q4 s4) (O p5 q5 s5));have F2:=J ((fu w2 w.heap.size (Z ah b.me) (O p1 q1 s1) (O p2 q2 s2) (O p3 q3 s3) (O p4 q4 s4) (O p5 q5 s5)).box V2.out (by omega));have F3:=J ((fu w2 w.heap.size (Z ah b.me) (O p1 q1 s1) (O p2 q2 s2) (O p3 q3 s3) (O p4 q4 s4) (O p5 q5 s5)).box V3.out (by omega));have SZ:=J (show w1.heap.size<=(gV w2 w.heap.size (Z ah b.me) (O p1 q1 s1) (O p2 q2 s2) (O p3 q3 s3) (O p4 q4 s4) (O p5 q5 s5)).heap.size by have:=hb2.size; simp; omega);have L2:=J (show w.heap.size<w1.heap.size from L1.out);clear V1 V2 V3 cp hb2 Z1 Z2 Z3 L1;go_upto_region 4 with fail;clear x0 x1 x2 x3 x4 x5 t0 t1 t2 t3 t4 t5 zz;unfold gV at FB FC FL F2 F3 SZ;generalize ((((((w2).setCell ⟨w.heap.size,0,ay⟩ (Z ah b.me)).setCell ⟨w.heap.size,1,ay⟩ (O p1 q1 s1)).setCell ⟨w.heap.size,2,ay⟩ (O p2 q2 s2)).setCell ⟨w.heap.size,3,ay⟩ (O p3 q3 s3)).setCell ⟨w.heap.size,4,ay⟩ (O p4 q4 s4)).setCell ⟨w.heap.size,5,ay⟩ (O p5 q5 s5)=w3 at *;obtain⟨la,ajY,ahV⟩:=FC.out.dO;have wo:=J ajY;have HL2:=J ahV;have KE:=J (keys_eq ahV);clear ajY ahV;refine am0 _ w3 w1.heap.size la w.heap.size (w.heap.size+1) b.me (O p1 q1 s1) p2 q2 s2 (O p3 q3 s3) (O p4 q4 s4) (O p5 q5 s5) y1 y2 yo yn yc y4 a.p _ _ _ _ _ _ _ _ _ _ _ _ _ _ _ _ _ _ _ _ _ _ _ _ FB.out F2.out wo.out ?_ ?_ SZ.out L2.out (HA.out.2.2.on FL.out) LA.out ?_
  ·rw [GI,KE.out,<- GI]; exact R2.out
  ·rw [HL2.out.len]; exact HF.out.dO
  intro w4 v13 v14 v15 v16 v17 v18 s1' s2' s3' t1 t2 t3 hbx hown hc hoff hbel;have CP2:=J (FC.out.amX (Fa:=(t1,t2,t3)) (al:=fM b.dO (fC (b.dO.map Ad.id) a.id) a) hoff ⟨_,hown,by
   have hg:=jF wo.out;have h2:=HL2.out.mono fun _ _ q=>q.off hoff hg (by decide);have hk:fJ tL la (y1,y2)=fC (b.dO.map Ad.id) a.id:=by rw [iK,KE.out,EI.out]
   rw [<- hk];exact yg h2 _ ⟨HA.out.1,HA.out.2.1,aT (dM hc SZ.out)⟩⟩)
  have G2:=J (show dK w4 (w.heap.size+1) _ _ from (hbel.block _ L3.out).trans F2.out);have G3:=J (show dK w4 (w.heap.size+1+1) _ _ from hoff.box F3.out (jF wo.out) (by decide));have G1:=J (show dK (w4.setCell ⟨w.heap.size,2,ay⟩ (O t1 t2 t3)) w.heap.size #[Z ah b.me,O p1 q1 s1,O t1 t2 t3,O p3 q3 s3,O p4 q4 s4,O p5 q5 s5] 30 by simpa using eu (k:=2) hbx (O t1 t2 t3));have CP3:=J (CP2.out.but (eF w4 w.heap.size 2 (O t1 t2 t3)) hbx);have G2':=J ((eF w4 w.heap.size 2 (O t1 t2 t3)).box G2.out (by omega));have G3':=J ((eF w4 w.heap.size 2 (O t1 t2 t3)).box G3.out (by omega));have GL:=J (show Below w.heap.size w (w4.setCell ⟨w.heap.size,2,ay⟩ (O t1 t2 t3)) from (FL.out.trans (hbel.mono (aV L2.out))).setCell (p:=⟨w.heap.size,2,ay⟩) (aP _) _);have GZ:=J (show w1.heap.size<=(w4.setCell ⟨w.heap.size,2,ay⟩ (O t1 t2 t3)).heap.size by have:=SZ.out; have:=hbel.size; simp; omega);clear hbx hown hc hoff hbel CP2 G2 G3 FB FC F2 F3 FL SZ wo HL2 KE;generalize w4.setCell ⟨w.heap.size,2,ay⟩ (O t1 t2 t3)=w5 at *;have x3:=G1.out.cell 3;have d1:=G2'.out.cell 1;have d0:=G2'.out.cell 0;simp only [aA,aB,aC] at x3 d0 d1;go_wp2_with fail;refine (XW w1.heap.size (p3,q3,s3) b.seen (y1,y2) w5 CP3.out.seen R1.out HF.out.seen GZ.out).mono ?_;rintro e3 w6 ⟨⟨⟨r1,r2,r3⟩,rfl,hown⟩,hbel,hoth⟩;have hoff:Off (dX (p3,q3,s3)).ownBlock w5 w6:=⟨hoth,hbel.size⟩;have CP4:=J (CP3.out.amY (NW:=(r1,r2,r3)) (sl:=fM b.seen (fC b.seen a.id) a.id) hoff (by
   have hk:fJ wG b.seen (wG (y1,y2))=fC b.seen a.id:=by rw [iK,EI.out]; simp
   rw [<- hk,EI.out];exact hown))
  have hg:=jF CP3.out.seen;have K1:=hoff.box G1.out hg (by decide);have K3:=hoff.box G3'.out hg (by decide);have KL:=GL.out.trans (hbel.mono (aV L2.out));have M1:=J (show dK (w6.setCell ⟨w.heap.size,3,ay⟩ (O r1 r2 r3)) w.heap.size #[Z ah b.me,O p1 q1 s1,O t1 t2 t3,O r1 r2 r3,O p4 q4 s4,O p5 q5 s5] 30 by simpa using eu (k:=3) K1 (O r1 r2 r3));have M3:=J ((eF w6 w.heap.size 3 (O r1 r2 r3)).box K3 (by omega));have MC:=J (CP4.out.but (eF w6 w.heap.size 3 (O r1 r2 r3)) K1);have ML:=J (show Below w.heap.size w (w6.setCell ⟨w.heap.size,3,ay⟩ (O r1 r2 r3)) from KL.setCell (p:=⟨w.heap.size,3,ay⟩) (aP _) _);clear x3 d0 d1;have x3:=K1.cell 3;have t3:=K1.fr 3;have zz:=K1.lt;simp only [aA,aB,aC] at x3;clear hown hbel hoth hoff hg K1 K3 KL CP4 CP3 G1 G2' G3' GL GZ;go_upto_region 6 with fail;clear x3 t3 zz;generalize w6.setCell ⟨w.heap.size,3,ay⟩ (O r1 r2 r3)=w7 at *;have U1:=M1.out;have U3:=M3.out;obtain⟨x0,x1,x2,x3,x4,x5⟩:=U1.fD;obtain⟨z0,z1,z2,z3,z4,z5⟩:=U3.fD;obtain⟨f0,f1,f2,f3,f4,f5⟩:=U3.kK;have zz:=U3.lt;have FB:=J (dL U3 (Z ah b.me) (O p1 q1 s1) (O t1 t2 t3) (O r1 r2 r3) (O p4 q4 s4) (O p5 q5 s5));have FC:=J (MC.out.but (fu w7 (w.heap.size+1+1) (Z ah b.me) (O p1 q1 s1) (O t1 t2 t3) (O r1 r2 r3) (O p4 q4 s4) (O p5 q5 s5)) U3);have FL:=J (dH (b:=w.heap.size+1+1) ML.out (by omega) (Z ah b.me) (O p1 q1 s1) (O t1 t2 t3) (O r1 r2 r3) (O p4 q4 s4) (O p5 q5 s5));clear U1 U3 M1 M3 MC ML;go_wp2_with fail;obtain⟨T,a0,a3,a4,a5,a6⟩:=FB.out.fD;refine bodyPost_ret (v:=.tuple #[cB #[Z ah b.me,O p1 q1 s1,O t1 t2 t3,O r1 r2 r3,O p4 q4 s4,O p5 q5 s5],bI aZ]) (by simp [results,bM,go_sem,T,a0,a3,a4,a5,a6]) rfl ?_;rw [LQ.out];exact⟨⟨(p1,q1,s1),(t1,t2,t3),(r1,r2,r3),(p4,q4,s4),(p5,q5,s5),rfl,FC.out.vbr,fun _=>⟨_,FC.out.near⟩,fun _=>⟨_,_,FC.out⟩⟩,FL.out⟩
 ·have hin:a.id∈b.seen:=by rw [EI.out]; exact of_decide_eq_true HR.out
  have LQ:=J (zu hin);have FB:=J (dL Y3 (Z ah b.me) (O no nn nc) (O ao an ac) (O so sn sc) (O eo en ec) (O oo eG oc));have FL:=J (dH (b:=w.heap.size+1+1) B1.out (by omega) (Z ah b.me) (O no nn nc) (O ao an ac) (O so sn sc) (O eo en ec) (O oo eG oc));clear hin Y1 Y2 Y3;go_wp2_with fail;obtain⟨T,a0,a3,a4,a5,a6⟩:=FB.out.fD;refine bodyPost_ret (v:=.tuple #[cB #[Z ah b.me,O no nn nc,O ao an ac,O so sn sc,O eo en ec,O oo eG oc],bI aS]) (by simp [results,bM,go_sem,T,a0,a3,a4,a5,a6]) rfl ?_;rw [LQ.out];exact⟨⟨(no,nn,nc),(ao,an,ac),(so,sn,sc),(eo,en,ec),(oo,eG,oc),rfl,HH.out.on FL.out,fun h=>h.on FL.out,fun h=>(h.resolve_right (by simp)).on FL.out⟩,FL.out⟩
theorem Uo (b:Br) (a:Ad) (nv av sv ev ov:Sl) (x:kY) (w:aj) (h:jq w b nv av sv ev ov) (ha:uU w x a) (hf:Gl b) (hp:rO b) (hla:a.p.length<=900) (hr1:Ky b.seen) (hr2:vF b.dO) :
  aY aM 8 #[mG b.me nv av sv ev ov,nD x] w (X6 w (lN w nv b.near) (fQ b a)) :=
 (Un b a nv av sv ev ov x w h ha hf hp hla hr1 hr2).mono fun _ _ h=>h.one
end Av
namespace Rl
open Go.RowKit Pu Rw Pr Va
end Rl
namespace Pr
open Go.RowKit Go.Sort Pu Rw Va
def ach:ByteArray:=⟨#[112,114,101,100]⟩
def Qx (w:aj) (l:List Cn) (e:Ending) (w':aj):Prop:=Below w.heap.size w w'/\(match Bz l with
 | .ok m=>∃ pv,e=aH (.tuple #[pv,.nilIface])/\fI w' pv (m.map r5)
 | .error _=>∃ b,e=aH (.tuple #[O ay 0 0,.iface 226 (aI (au ⟨b,0,ay⟩))]))
theorem aci (op:ByteArray) (at_:Int) (tx:Nat) (x:aQ) (w:aj) :
  aY aM 169 #[.string op,Z ah at_,.iface tx x] w fun e w'=>e=aH (.iface 226 (aI (au ⟨w.heap.size,0,ay⟩)))/\w'=w.alloc (aK #[.string op,Z ah at_,.iface tx x] 228):=by
 go_enter Tryz.func169,Tryz.ntmps169;go_wp2;go_ret;exact⟨rfl,rfl⟩
theorem Ot (at_:Nat) (m r:List Cn) (c:Cn):jT at_ m (c::r)=match oL m c with
  | .ok m'=>jT (at_+1) m' r
  | .error k=>.error (k,at_):=by
 simp only [jT,oL];cases ng m c with
 | none=>rfl
 | some m'=>simp only; split <;> rfl
theorem Uq {m:List Cn} {c:Cn} {m':List Cn} (h:iU m) (hs:oL m c=.ok m'):iU m'/\m'.length<=5:=by
 unfold oL at hs;cases hi:ng m c with
 | none=>rw [hi] at hs; cases hs
 | some n =>
  rw [hi] at hs;simp only at hs
  split at hs
  ·cases hs
  ·rename_i h5
   injection hs with hs
   subst hs;exact⟨(kg m c n h hi).1,by omega⟩
theorem X7 (lv:aQ) (l:List Cn) (w:aj) (hl:fI w lv (l.map r5)) (hs:Xt l) (hgd:∀ c∈l,wJ c=aZ):aY aM 134 #[lv] w (Qx w l):=by
 have HL:=J hl;have LN:=J (show (l.map r5).length=l.length from bG ..);have h100:=hs.1;have SM:=J hs.2;have GD:=J hgd;obtain⟨ao,ac,rfl⟩:=hl.len;rw [bG] at HL ⊢;obtain⟨n,hn⟩:∃ n,n=l.length:=⟨_,rfl⟩;rw [<- hn] at HL h100 ⊢;have HN:=J hn;obtain⟨res,hres⟩:∃ r,r=Bz l:=⟨_,rfl⟩;have MQ:=J (show ∀ e w',(Below w.heap.size w w'/\(match res with
 | .ok m=>∃ pv,e=aH (.tuple #[pv,.nilIface])/\fI w' pv (m.map r5)
 | .error _=>∃ b,e=aH (.tuple #[O ay 0 0,.iface 226 (aI (au ⟨b,0,ay⟩))])))->Qx w l e w' from fun e w' h=>by unfold Qx; rw [<- hres]; exact h)
 have HR:=J hres;clear hl hs hgd hn hres;generalize hq:Qx w l=q at *;clear hq;go_enter Tryz.func134,Tryz.ntmps134;go_wp2
 go_loopw [13] (fun i wr=>∃ k:Nat,k<=n/\i=Z ah k/\Below w.heap.size w wr) (fun i _=>n-(intOf i).toNat)
 case atStart=>exact⟨0,aR _,rfl,aO _ _⟩
 case round =>
  obtain⟨k,hk,rfl,hb⟩:=hrel;have HB:=J hb;clear hb;by_cases hlt:k<n
  ·obtain⟨⟨xn,xk⟩,hx⟩:∃ x,l[k]?=au x:=⟨_,U (by have:=HN.out; omega)⟩;obtain⟨p,ix,px⟩:=elC (x:=r5 (xn,xk)) HL.out rfl (LN.out.trans HN.out.symm) (by rw [bf,hx]; rfl);obtain⟨p0,p1,p2,p3,p4⟩:=px _ HB.out;have C:=J (abX (xn,xk) (wr.alloc (aK (cells5 (r5 (xn,xk))).toArray 91)) (by have:=(SM.out _ (aL hx)).1; unfold maxLen; omega));rw [GD.out _ (aL hx)] at C;have B4:=J (HB.out.alloc HB.out.size (aK (cells5 (r5 (xn,xk))).toArray 91));simp only [r5] at p0 p1 p2 p3 p4 C;clear hx px;go_wp2_with fail;refine C.out.mono ?_;rintro e5 w5 ⟨rfl,hb5⟩;have B5:=J (B4.out.trans (hb5.mono B4.out.size));clear hb5 C B4 ix p0 p1 p2 p3 p4;go_wp2
   go_roundw
   case rel=>exact⟨k+1,by omega,by go_num,B5.out⟩
   case measure=>simp [intOf]; omega
  ·obtain rfl:k=n:=by omega
   go_wp2
   go_loopw [6,27] (fun mv i wr=>∃ (j:Nat) (m:List Cn),j<=k/\i=Z ah j/\iJ wr w.heap.size mv (m.map r5)/\iU m/\m.length<=5/\res=jT j m (l.drop j)/\Below w.heap.size w wr) (fun _ i _=>k-(intOf i).toNat)
   case atStart=>exact⟨0,[],aR _,rfl,iO _ _,List.Pairwise.nil,by simp,by rw [HR.out]; rfl,HB.out⟩
   case round =>
    obtain⟨j,m,hj,rfl,hown,hrise,hm5,CG,hb⟩:=hrel;have BW:=J hb;have OW:=J hown;have RM:=J hrise;have FO:=J CG;clear hb hown hrise CG;by_cases hjl:j<k
    ·obtain⟨⟨xn,xk⟩,hx⟩:∃ x,l[j]?=au x:=⟨_,U (by have:=HN.out; omega)⟩;obtain⟨p,ix,px⟩:=elC (x:=r5 (xn,xk)) HL.out rfl (LN.out.trans HN.out.symm) (by rw [bf,hx]; rfl);obtain⟨p0,p1,p2,p3,p4⟩:=px _ BW.out;have B4:=J (BW.out.alloc BW.out.size (aK (cells5 (r5 (xn,xk))).toArray 91));have C:=J (XQ w.heap.size _ m (xn,xk) (wr.alloc (aK (cells5 (r5 (xn,xk))).toArray 91)) (dI OW.out ((aO _ _).alloc (aP _) _)) RM.out hm5 B4.out.size);have DR:l.drop j=(xn,xk)::l.drop (j+1):=by
      have h:=List.drop_eq_getElem_cons (l:=l) (i:=j) (by have:=HN.out; omega);rw [h]
      congr 1
      exact (ak.1 hx).2
     have F2:=FO.out;rw [DR,Ot] at F2;have F3:=J F2;simp only [r5] at p0 p1 p2 p3 p4 C;clear hx px F2 DR FO;cases hst:oL m (xn,xk) with
     | ok m' =>
      have RR:=J (Uq RM.out hst);have F4:=J (show res=jT (j+1) m' (l.drop (j+1)) by rw [F3.out,hst]);rw [hst] at C;clear hst F3;go_wp2_with fail;refine C.out.mono ?_;rintro e5 w5 ⟨hb5,v',rfl,ho5⟩;have B5:=J (B4.out.trans hb5);have O5:=J ho5;clear hb5 ho5 C B4 ix p0 p1 p2 p3 p4 OW BW RM;go_wp2
      go_roundw
      case rel=>exact⟨j+1,m',by omega,by go_num,O5.out,RR.out.1,RR.out.2,F4.out,B5.out⟩
      case measure=>simp [intOf]; omega
     | error er =>
      have F4:=J (show res=.error (er,j) by rw [F3.out,hst]);rw [hst] at C;clear hst F3;go_wp2_with fail;refine C.out.mono ?_;rintro e5 w5 ⟨hb5,rfl⟩;have B5:=J (B4.out.trans hb5);clear hb5 C B4 ix p0 p1 p2 p3 p4 OW BW RM;go_wp2_with fail;refine (aci ach j 211 (Z ah er) w5).mono ?_;rintro e6 w6 ⟨rfl,rfl⟩;go_wp2;refine MQ.out _ _ ⟨B5.out.alloc B5.out.size _,?_⟩;rw [F4.out];exact⟨w5.heap.size,rfl⟩
    ·obtain rfl:j=k:=by omega
     have F2:=J (show res=.ok m by rw [FO.out,List.drop_of_length_le (by have:=HN.out; omega)]; rfl);go_wp2;refine MQ.out _ _ ⟨BW.out,?_⟩;rw [F2.out];exact⟨_,rfl,Row.dJ OW.out⟩
end Pr
namespace Av
open Go.RowKit Go.Sort Rw YtghlpefopidlaaaGreat.Nm Pr Bk
def X8 (x y:Int):Bool:=x == y
theorem acj (x y:Int):X8 x y=aZ↔x=y:=by simp [X8]
theorem acn (pO bv:aQ) (l m:List Int) (w:aj) (ha:uR w pO l) (hb:uR w bv m) (hl:l.length<=1000000) :
  aY aM 90 #[pO,bv] w fun e w'=>e=aH (bI (gI X8 l m))/\Below w.heap.size w w':=by
 have HA:=J ha;have HB:=J hb;obtain⟨ao,ac,rfl⟩:=ha.len;obtain⟨bo,bc,rfl⟩:=hb.len;clear ha hb;by_cases hlen:l.length=m.length
 ·have HL:=J hlen;rw [<- hlen] at HB ⊢;generalize hn:l.length=n at *;have HN:=J hn;clear hlen hn;go_enter bX,bS;go_wp2
  go_loopw [13] (fun i wr=>∃ k:Nat,k<=n/\i=Z ah k/\Below w.heap.size w wr/\∀ (j:Nat) (x y:Int),j<k->l[j]?=au x->m[j]?=au y->X8 x y=aZ) (fun i _=>n-(intOf i).toNat)
  case atStart=>exact⟨0,aR _,rfl,aO _ _,fun j x y h=>by omega⟩
  case round =>
   obtain⟨k,hk,rfl,hbe,hall⟩:=hrel;have BE:=J hbe;have AL:=J hall;clear hbe hall;by_cases hlt:k<n
   ·obtain⟨x,hx⟩:∃ x,l[k]?=au x:=⟨_,U (by rw [HN.out]; exact hlt)⟩;obtain⟨y,hy⟩:∃ y,m[k]?=au y:=⟨_,U (by rw [<- HL.out]; exact hlt)⟩;obtain⟨p,ix,px⟩:=elI HA.out rfl HN.out hx;obtain⟨q,iy,py⟩:=elI HB.out rfl HL.out.symm hy;have p0:=cell_regrown (px.2 _ BE.out);have q0:=cell_regrown (py.2 _ BE.out);clear px py;obtain⟨r,hr⟩:∃ r,X8 x y=r:=⟨_,rfl⟩;have hne:(x != y)=!r:=by rw [<- hr]; rfl
    have HX:=J hx;have HY:=J hy;have HR:=J hr;clear hx hy hr;cases r
    ·have R:=J (show gI X8 l m=aS from qh l m k x y HX.out HY.out HR.out);go_wp2;refine wp_region_quiet_below (by kernel_rfl) (by kernel_rfl) ?_
     repeat (go_big_quiet_step (fail))
     refine wpQuiet_nil ?_;intro _ hw';obtain⟨⟨dq,osq⟩,hw''⟩:=hw';subst hw'';go_wp2;go_ret;exact⟨by rw [R.out]; rfl,BE.out.trans ((below_regrown wr dq osq).mono BE.out.size)⟩
    ·go_wp2;refine wp_region_quiet_below (by kernel_rfl) (by kernel_rfl) ?_
     repeat (go_big_quiet_step (fail))
     refine wpQuiet_nil ?_;intro _ hw';obtain⟨⟨dq,osq⟩,hw''⟩:=hw';subst hw'';clear ix iy p0 q0 hne;go_wp2
     go_roundw
     case rel=>exact⟨k+1,by omega,by go_num,BE.out.trans ((below_regrown wr dq osq).mono BE.out.size),fun j x' y' hj h1 h2=>by
      rcases bg j k with h3|h3
      ·exact AL.out j x' y' h3 h1 h2
      ·obtain rfl:j=k:=by omega
       have e1:=HX.out;have e2:=HY.out;rw [h1] at e1;rw [h2] at e2;rw [aF e1,aF e2];exact HR.out⟩
     case measure=>simp [intOf]; omega
   ·obtain rfl:k=n:=by omega
    have R:=J (show gI X8 l m=aZ from qg l m (by rw [HN.out]; exact HL.out) (fun j a b h1 h2=>AL.out j a b (by have:=(ak.1 h1).1; have:=HN.out; omega) h1 h2));go_wp2;go_ret;exact⟨by rw [R.out]; rfl,BE.out⟩
 ·have R:=J (show gI X8 l m=aS by
   cases h:gI X8 l m
   ·rfl
   ·exact absurd (qd _ _ h) hlen)
  have hne:(((l.length:Nat):Int) != ((m.length:Nat):Int))=aZ:=by simp; omega
  have hne2:(((l.length:Nat):Int) == ((m.length:Nat):Int))=aS:=by simp; omega
  clear hlen;go_enter bX,bS;go_wp2;go_ret;exact⟨by rw [R.out]; rfl,aO _ _⟩
theorem aco (pO bv:aQ) (l m:List eU) (w:aj) (ha:wY w pO l) (hb:wY w bv m) (hl:l.length<=1000000) :
  aY aM 91 #[pO,bv] w fun e w'=>e=aH (bI (gI J9 l m))/\Below w.heap.size w w':=by
 have HA:=J ha;have HB:=J hb;obtain⟨ao,ac,rfl⟩:=ha.len;obtain⟨bo,bc,rfl⟩:=hb.len;clear ha hb;by_cases hlen:l.length=m.length
 ·have HL:=J hlen;rw [<- hlen] at HB ⊢;generalize hn:l.length=n at *;have HN:=J hn;clear hlen hn;go_enter bY,bU;go_wp2
  go_loopw [13] (fun i wr=>∃ k:Nat,k<=n/\i=Z ah k/\Below w.heap.size w wr/\∀ (j:Nat) (x y:eU),j<k->l[j]?=au x->m[j]?=au y->J9 x y=aZ) (fun i _=>n-(intOf i).toNat)
  case atStart=>exact⟨0,aR _,rfl,aO _ _,fun j x y h=>by omega⟩
  case round =>
   obtain⟨k,hk,rfl,hbe,hall⟩:=hrel;have BE:=J hbe;have AL:=J hall;clear hbe hall;by_cases hlt:k<n
   ·obtain⟨x,hx⟩:∃ x,l[k]?=au x:=⟨_,U (by rw [HN.out]; exact hlt)⟩;obtain⟨y,hy⟩:∃ y,m[k]?=au y:=⟨_,U (by rw [<- HL.out]; exact hlt)⟩;obtain⟨p,ix,px⟩:=elJ HA.out rfl HN.out hx;obtain⟨q,iy,py⟩:=elJ HB.out rfl HL.out.symm hy;have p0:=cell_regrown (px _ BE.out).1;have p1:=cell_regrown (px _ BE.out).2;have q0:=cell_regrown (py _ BE.out).1;have q1:=cell_regrown (py _ BE.out).2;clear px py;obtain⟨r,hr⟩:∃ r,J9 x y=r:=⟨_,rfl⟩;have hne:=WT x.1 x.2 y.1 y.2 (!r) (by rw [<- hr]; rfl);have HX:=J hx;have HY:=J hy;have HR:=J hr;clear hx hy hr;cases r
    ·have R:=J (show gI J9 l m=aS from qh l m k x y HX.out HY.out HR.out);go_wp2;refine wp_region_quiet_below (by kernel_rfl) (by kernel_rfl) ?_
     repeat (go_big_quiet_step (fail))
     refine wpQuiet_nil ?_;intro _ hw';obtain⟨⟨dq,osq⟩,hw''⟩:=hw';subst hw'';go_wp2;go_ret;exact⟨by rw [R.out]; rfl,BE.out.trans ((below_regrown wr dq osq).mono BE.out.size)⟩
    ·go_wp2;refine wp_region_quiet_below (by kernel_rfl) (by kernel_rfl) ?_
     repeat (go_big_quiet_step (fail))
     refine wpQuiet_nil ?_;intro _ hw';obtain⟨⟨dq,osq⟩,hw''⟩:=hw';subst hw'';clear ix iy p0 p1 q0 q1 hne;go_wp2
     go_roundw
     case rel=>exact⟨k+1,by omega,by go_num,BE.out.trans ((below_regrown wr dq osq).mono BE.out.size),fun j x' y' hj h1 h2=>by
      rcases bg j k with h3|h3
      ·exact AL.out j x' y' h3 h1 h2
      ·obtain rfl:j=k:=by omega
       have e1:=HX.out;have e2:=HY.out;rw [h1] at e1;rw [h2] at e2;rw [aF e1,aF e2];exact HR.out⟩
     case measure=>simp [intOf]; omega
   ·obtain rfl:k=n:=by omega
    have R:=J (show gI J9 l m=aZ from qg l m (by rw [HN.out]; exact HL.out) (fun j a b h1 h2=>AL.out j a b (by have:=(ak.1 h1).1; have:=HN.out; omega) h1 h2));go_wp2;go_ret;exact⟨by rw [R.out]; rfl,BE.out⟩
 ·have R:=J (show gI J9 l m=aS by
   cases h:gI J9 l m
   ·rfl
   ·exact absurd (qd _ _ h) hlen)
  have hne:(((l.length:Nat):Int) != ((m.length:Nat):Int))=aZ:=by simp; omega
  have hne2:(((l.length:Nat):Int) == ((m.length:Nat):Int))=aS:=by simp; omega
  clear hlen;go_enter bY,bU;go_wp2;go_ret;exact⟨by rw [R.out]; rfl,aO _ _⟩
theorem acp (pO bv:aQ) (l m:List C5) (w:aj) (ha:fI w pO l) (hb:fI w bv m) (hl:l.length<=1000000) :
  aY aM 172 #[pO,bv] w fun e w'=>e=aH (bI (jU l m))/\Below w.heap.size w w':=by
 have HA:=J ha;have HB:=J hb;obtain⟨ao,ac,rfl⟩:=ha.len;obtain⟨bo,bc,rfl⟩:=hb.len;clear ha hb;by_cases hlen:l.length=m.length
 ·have HL:=J hlen;rw [<- hlen] at HB ⊢;generalize hn:l.length=n at *;have HN:=J hn;clear hlen hn;go_enter bV,bN;go_wp2
  go_loopw [13] (fun i wr=>∃ k:Nat,k<=n/\i=Z ah k/\Below w.heap.size w wr/\∀ (j:Nat) (x y:C5),j<k->l[j]?=au x->m[j]?=au y->Az x y=aZ) (fun i _=>n-(intOf i).toNat)
  case atStart=>exact⟨0,aR _,rfl,aO _ _,fun j x y h=>by omega⟩
  case round =>
   obtain⟨k,hk,rfl,hbe,hall⟩:=hrel;have BE:=J hbe;have AL:=J hall;clear hbe hall;by_cases hlt:k<n
   ·obtain⟨x,hx⟩:∃ x,l[k]?=au x:=⟨_,U (by rw [HN.out]; exact hlt)⟩;obtain⟨y,hy⟩:∃ y,m[k]?=au y:=⟨_,U (by rw [<- HL.out]; exact hlt)⟩;obtain⟨p,ix,px⟩:=elC HA.out rfl HN.out hx;obtain⟨q,iy,py⟩:=elC HB.out rfl HL.out.symm hy;have p0:=cell_regrown (px _ BE.out).1;have p1:=cell_regrown (px _ BE.out).2.1;have p2:=cell_regrown (px _ BE.out).2.2.1;have p3:=cell_regrown (px _ BE.out).2.2.2.1;have p4:=cell_regrown (px _ BE.out).2.2.2.2;have q0:=cell_regrown (py _ BE.out).1;have q1:=cell_regrown (py _ BE.out).2.1;have q2:=cell_regrown (py _ BE.out).2.2.1;have q3:=cell_regrown (py _ BE.out).2.2.2.1;have q4:=cell_regrown (py _ BE.out).2.2.2.2;clear px py;obtain⟨r,hr⟩:∃ r,Az x y=r:=⟨_,rfl⟩;have hne:=amC x y r hr;have HX:=J hx;have HY:=J hy;have HR:=J hr;clear hx hy hr;cases r
    ·have R:=J (show jU l m=aS from Gg l m k x y HX.out HY.out HR.out);go_wp2;refine wp_region_quiet_below (by kernel_rfl) (by kernel_rfl) ?_
     repeat (go_big_quiet_step (fail))
     refine wpQuiet_nil ?_;intro _ hw';obtain⟨⟨dq,osq⟩,hw''⟩:=hw';subst hw'';go_wp2;go_ret;exact⟨by rw [R.out]; rfl,BE.out.trans ((below_regrown wr dq osq).mono BE.out.size)⟩
    ·go_wp2;refine wp_region_quiet_below (by kernel_rfl) (by kernel_rfl) ?_
     repeat (go_big_quiet_step (fail))
     refine wpQuiet_nil ?_;intro _ hw';obtain⟨⟨dq,osq⟩,hw''⟩:=hw';subst hw'';clear ix iy p0 p1 p2 p3 p4 q0 q1 q2 q3 q4 hne;go_wp2
     go_roundw
     case rel=>exact⟨k+1,by omega,by go_num,BE.out.trans ((below_regrown wr dq osq).mono BE.out.size),fun j x' y' hj h1 h2=>by
      rcases bg j k with h3|h3
      ·exact AL.out j x' y' h3 h1 h2
      ·obtain rfl:j=k:=by omega
       have e1:=HX.out;have e2:=HY.out;rw [h1] at e1;rw [h2] at e2;rw [aF e1,aF e2];exact HR.out⟩
     case measure=>simp [intOf]; omega
   ·obtain rfl:k=n:=by omega
    have R:=J (show jU l m=aZ from Gf l m (by rw [HN.out]; exact HL.out) (fun j a b h1 h2=>AL.out j a b (by have:=(ak.1 h1).1; have:=HN.out; omega) h1 h2));go_wp2;go_ret;exact⟨by rw [R.out]; rfl,BE.out⟩
 ·have R:=J (show jU l m=aS by
   cases h:jU l m
   ·rfl
   ·exact absurd (Gd _ _ h) hlen)
  have hne:(((l.length:Nat):Int) != ((m.length:Nat):Int))=aZ:=by simp; omega
  have hne2:(((l.length:Nat):Int) == ((m.length:Nat):Int))=aS:=by simp; omega
  clear hlen;go_enter bV,bN;go_wp2;go_ret;exact⟨by rw [R.out]; rfl,aO _ _⟩
theorem zw (pO bv:aQ) (l m:List C5) (w:aj) (ha:fI w pO l) (hb:fI w bv m) (hl:l.length<=1000000):aY aM 138 #[pO,bv] w fun e w'=>e=aH (bI (jU l m))/\Below w.heap.size w w':=by
 have C:=J (acp pO bv l m w ha hb hl);obtain⟨ao,ac,rfl⟩:=ha.len;obtain⟨bo,bc,rfl⟩:=hb.len;clear ha hb;go_enter Tryz.func138,Tryz.ntmps138;go_wp2_with fail;refine C.out.mono ?_;rintro e w' ⟨rfl,hb⟩;have HB:=J hb;clear hb;go_wp2;go_ret;exact⟨rfl,HB.out⟩
end Av
end Go.Proofs.YtghlpefopidlaaaGreat
