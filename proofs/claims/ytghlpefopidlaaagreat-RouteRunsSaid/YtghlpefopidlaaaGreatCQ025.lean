/-
  Copy of package adve. Conditions as told.
-/
import Derived.Test.YtghlpefopidlaaaGreatCQ023
import Derived.Test.YtghlpefopidlaaaGreatCQ024
import Derived.Test.YtghlpefopidlaaaGreatCQ017
set_option maxRecDepth 100000
set_option maxHeartbeats 64000000
open Go.IntKind renaming i64->O
open Go.IntWalk renaming i64_in->au
open Go.Lib renaming hid->D
open Go.Obj renaming cells->aj
open Go.Value renaming slice->J,int->L,bool->aC
open _root_.List renaming getElem?_eq_getElem->K,take_of_length_le->Q,getElem?_eq_some_iff->U,getElem?_cons_zero->V,getElem?_cons_succ->X,getElem?_toArray->Y,mem_of_getElem?->Z
open _root_.Nat renaming le_refl->ay,zero_le->aB
open _root_.Option renaming none->ak,some->aA
open Option.some renaming inj->ah
namespace Go.Proofs.YtghlpefopidlaaaGreat.Av
open Go.RowKit Go.Sort Rw YtghlpefopidlaaaGreat.Nm Pr Bk
structure mG (b:Br):Prop where
 dP:∀ a∈b.dP,a.p.length<=900
 ent:∀ a∈b.ent,a.p.length<=900
 own:∀ a∈b.own,a.p.length<=900
theorem dZ {α:Type} {E:Ek α} {W:World} {B n cap:Nat} {o:Option Addr} {l:List α} (h:Own E W B (J o n cap) l):l.length=n:=by
 obtain⟨_,_,hv⟩:=(Row.dx h).len;have:n=l.length:=by simpa using congrArg (fun v=>match v with | Value.slice _ n _=>n | _=>0) hv
 exact this.symm
theorem lK {α:Type} {E:Ek α} {W:World} {B n cap:Nat} {o:Option Addr} {l:List α} (h:Own E W B (J o n cap) l) (hn:0<n):∃ g,o=aA ⟨g,0,ak⟩/\B<=g:=by
 have hl:=dZ h;rcases dY h with⟨_,h2⟩|⟨g,c',cur,h1,h2,_⟩
 ·rw [h2] at hl; simp at hl; omega
 ·exact⟨g,by simp at h1; exact h1.1,h2⟩
theorem dU (w:World) (b:Nat) (a0 a1 a2 a3 a4 a5:Value):But b w (iy w b a0 a1 a2 a3 a4 a5) :=
 (((dF _ b _ _).trans (dF _ b _ _)).trans ((dF _ b _ _).trans (dF _ b _ _))).trans ((dF _ b _ _).trans (dF _ b _ _))
theorem Cs.done {w0 w wr:World} {b:Br} {nv sv:Sl} {p2 p4 p5:Option Addr} {q2 s2 q4 s4 q5 s5:Nat} (h:Cs w0 w wr b q2 q4 q5 nv (p2,q2,s2) sv (p4,q4,s4) (p5,q5,s5)) (a0 a1 a2 a3 a4 a5:Value):Cp (vw w0) w.heap.size (iy wr (w.heap.size+1) a0 a1 a2 a3 a4 a5) b nv (p2,q2,s2) sv (p4,q4,s4) (p5,q5,s5)/\Below w.heap.size w (iy wr (w.heap.size+1) a0 a1 a2 a3 a4 a5):=by
 obtain⟨l1,d1,d2,d3⟩:=h.dP;obtain⟨l2,e1,e2,e3⟩:=h.ent;obtain⟨l3,f1,f2,f3⟩:=h.own;have n1:l1.length=q2:=dZ d1;have n2:l2.length=q4:=dZ e1;have n3:l3.length=q5:=dZ f1;rw [Q (by omega),Q (by have:=d2.len; omega)] at d3;rw [Q (by omega),Q (by have:=e2.len; omega)] at e3;rw [Q (by omega),Q (by have:=f2.len; omega)] at f3;exact⟨Cp.but ⟨h.near,h.seen,⟨l1,d1,d3⟩,⟨l2,e1,e3⟩,⟨l3,f1,f3⟩⟩ (dU wr (w.heap.size+1) a0 a1 a2 a3 a4 a5) h.bz,dz h.mM (by omega) a0 a1 a2 a3 a4 a5⟩
theorem jB (b:Br) (nv av sv ev ov:Sl) (w0 w:World) (hw0:Below w0.heap.size w0 w) (h:ko w0 b nv av sv ev ov) (hf:yw b) (hp:mG b) :
  Calls Tryz.prog 33 #[nS b.me nv av sv ev ov] w fun e w'=>(∃ RH Ma Mc ev' KJ:Sl,e=.returned (nS b.me RH Ma Mc ev' KJ)/\Cp (vw w0) w.heap.size w' b RH Ma Mc ev' KJ)/\Below w.heap.size w w':=by
 obtain⟨no,nn,nc⟩:=nv;obtain⟨ao,an,ac⟩:=av;obtain⟨so,sn,sc⟩:=sv;obtain⟨eo,en,ec⟩:=ev;obtain⟨oo,jF,oc⟩:=ov;obtain⟨la,ha1,ha2⟩:=h.dP;obtain⟨le,he1,he2⟩:=h.ent;obtain⟨Qh,ho1,ho2⟩:=h.own;have HA:=D ha2;have HE:=D he2;have HO:=D ho2;have R0:=D (h.near.on hw0);have R1:=D (ha1.on hw0);have R2:=D (h.seen.on hw0);have R3:=D (he1.on hw0);have R4:=D (ho1.on hw0);have W0:=D hw0;have HP:=D hp;have RI:=D hf.near;have Qi:=D (show la.length<=900 by rw [ha2.len]; exact hf.dP);have RJ:=D hf.seen;have Qj:=D (show le.length<=900 by rw [he2.len]; exact hf.ent);have Qk:=D (show Qh.length<=900 by rw [ho2.len]; exact hf.own);obtain⟨h0,h1,h2⟩:=gP w #[L O b.me,J no nn nc,J ao an ac,J so sn sc,J eo en ec,J oo jF oc] #[L O 0,J ak 0 0,J ak 0 0,J ak 0 0,J ak 0 0,J ak 0 0] 30 30;have B0:=D h0;have XB:=D h1;have ZB:=D h2;clear h0 h1 h2 h hf hp hw0 ha1 ha2 he1 he2 ho1 ho2;go_enter Tryz.func33,Tryz.ntmps33;go_upto_region 1 with fail;generalize (w.alloc (aj #[L O b.me,J no nn nc,J ao an ac,J so sn sc,J eo en ec,J oo jF oc] 30)).alloc (aj #[L O 0,J ak 0 0,J ak 0 0,J ak 0 0,J ak 0 0,J ak 0 0] 30)=W at *;refine Te _ W w.heap.size b.me (J ao an ac) (J eo en ec) (J oo jF oc) no nn nc b.near so sn sc b.seen _ _ _ _ _ _ _ _ _ _ _ _ _ _ _ _ _ _ _ _ _ _ _ _ _ _ _ _ _ _ _ _ _ _ _ _ _ _ _ _ _ _ _ _ _ _ _ _ _ _ _ _ _ _ _ _ _ _ _ _ _ _ _ _ _ _ _ _ _ _ _ _ _ _ _ _ _ _ _ _ _ XB.out (R0.out.on B0.out) (R2.out.on B0.out) RI.out RJ.out ?_;intro x1 v6 v7 v8 v9 v10 v11 v12 v13 p1 q1 s1 p3 q3 s3 hb1 hn1 hs1 Ey Ez;have B1:=D (B0.out.trans (Ey _ (ay _)));have S1:=D (show W.heap.size<=x1.heap.size from (Ey _ (ay _)).size);have Ql:=D (show cZ x1 (w.heap.size+1) _ _ from (Ez _ ZB.out.lt (by omega)).trans ZB.out);have Ph:=D hb1;have N1:=D (dn hn1 B0.out.size);have J1:=D (dn hs1 B0.out.size);clear hb1 hn1 hs1 Ey Ez XB ZB;go_upto_region 2 with fail;refine cp2 _ x1 w.heap.size b.me (J p1 q1 s1) (J p3 q3 s3) ao an ac la eo en ec le oo jF oc Qh _ _ _ _ _ _ _ _ _ _ _ _ _ _ _ _ _ _ _ _ _ _ _ _ _ _ _ _ _ _ _ _ _ _ _ _ _ _ _ _ _ _ _ _ _ _ _ _ _ _ _ _ _ _ _ _ _ _ _ _ _ _ _ _ _ _ _ _ _ _ _ _ _ _ _ _ _ _ _ _ _ Ph.out (R1.out.on B1.out) (R3.out.on B1.out) (R4.out.on B1.out) Qi.out Qj.out Qk.out ?_;intro x2 v14 v15 v16 v17 v18 v19 v20 v21 v22 v23 v24 v25 p2 q2 s2 p4 q4 s4 p5 q5 s5 hb2 ha2 he2 ho2 zR vD;have CS:=D (show Cs w0 w x2 b 0 0 0 (p1,q1,s1) (p2,q2,s2) (p3,q3,s3) (p4,q4,s4) (p5,q5,s5) from {
  mM:=B1.out.trans (zR _ (ay _))
  bx:=hb2
  bz:=(vD _ Ql.out.lt (by omega)).trans Ql.out
  near:=But.own ⟨vD,(zR _ (ay _)).size⟩ N1.out Ph.out (by decide)
  seen:=But.own ⟨vD,(zR _ (ay _)).size⟩ J1.out Ph.out (by decide)
  dP:=⟨la,dn ha2 B1.out.size,HA.out.mono fun _ _ q=>⟨q.1,q.2.1,Or.inl q.2.2⟩,.nil⟩
  ent:=⟨le,dn he2 B1.out.size,HE.out.mono fun _ _ q=>⟨q.1,q.2.1,q.2.2.1,q.2.2.2.1,Or.inl q.2.2.2.2⟩,.nil⟩
  own:=⟨Qh,dn ho2 B1.out.size,HO.out.mono fun _ _ q=>⟨q.1,Or.inl q.2⟩,.nil⟩ })
 have Q2:=D (show q2<=900 from by rw [<- dZ ha2]; exact Qi.out);have Q4:=D (show q4<=900 from by rw [<- dZ he2]; exact Qj.out);have Q5:=D (show q5<=900 from by rw [<- dZ ho2]; exact Qk.out);clear hb2 ha2 he2 ho2 zR vD Ph Ql N1 J1 B1 S1 R0 R1 R2 R3 R4 HA HE HO RI Qi RJ Qj Qk B0;have RN:=CS.out.bx.cell 2;simp only [Y,V,X] at RN;go_wp2
 go_loopw [29] (fun i wr=>∃ k:Nat,k<=q2/\i=L O k/\Cs w0 w wr b k 0 0 (p1,q1,s1) (p2,q2,s2) (p3,q3,s3) (p4,q4,s4) (p5,q5,s5)) (fun i _=>q2-(intOf i).toNat)
 case atStart=>exact⟨0,aB _,rfl,CS.out⟩
 case round =>
  obtain⟨k,hk,rfl,hcs⟩:=hrel;have CS:=D hcs;have hq:=Q2.out;clear hcs;by_cases hlt:k<q2
  ·obtain⟨l,hl,hA,hV⟩:=CS.out.dP;have hln:l.length=q2:=dZ hl;obtain⟨g,rfl,hBg⟩:∃ g,p2=aA ⟨g,0,ak⟩/\w.heap.size<=g:=lK hl (show 0<q2 by omega);obtain⟨y,hy⟩:∃ y,l[k]?=aA y:=⟨_,K (by omega)⟩;obtain⟨a,ha⟩:∃ a,b.dP[k]?=aA a:=⟨_,K (by have h:=hA.len; have h2:l.length=q2:=hln; omega)⟩;obtain⟨y',hy',hym⟩:=hA.at k a ha;rw [hy] at hy';obtain rfl:=ah hy';obtain⟨y1,y2,⟨yo,yn,yc⟩,y4⟩:=y;have HW:=D hl;have Jp:=D hA;have Jq:=D hV;have rT:=D hym;have EA:=D hy;have zS:=D ha;have Jr:=D hBg;have hw3:IntKind.i64.wrap ((k:Int)+1)=(k:Int)+1:=au _ (by omega);clear hl hA hV hln hy ha hy' hym hBg RN;go_upto_region 6 with fail;refine Tn _ wr w.heap.size l w.heap.size b.me (J p1 q1 s1) (J p3 q3 s3) (J p4 q4 s4) (J p5 q5 s5) g q2 s2 k y1 y2 yo yn yc y4 a.p _ _ _ _ _ _ _ _ _ _ _ _ _ _ _ _ _ _ _ _ _ _ _ _ _ _ _ _ _ _ _ _ _ _ _ _ _ _ _ _ _ _ _ _ _ _ _ _ _ _ _ _ _ _ _ _ _ _ _ _ _ _ _ _ _ _ _ _ _ _ _ _ _ _ _ _ _ _ _ _ CS.out.bx HW.out EA.out (rT.out.2.2.row (W0.out.trans (CS.out.mM.mono W0.out.size))) (HP.out.dP a (Z zS.out)) ?_;intro x v32 v33 v34 v35 v36 v37 v38 v39 v40 v41 t1 t2 t3 hC hO nX hBel;have M6:=D (show Cs w0 w x b (k+1) 0 0 (p1,q1,s1) (aA ⟨g,0,ak⟩,q2,s2) (p3,q3,s3) (p4,q4,s4) (p5,q5,s5) from by
    obtain⟨cur,hg⟩:=fP HW.out;exact CS.out.DZ HW.out hO nX (CS.out.mM.trans (hBel _ Jr.out CS.out.mM.size)) (dV.set k _ a (Jp.out.mono fun _ _ q=>q.but nX hg (by decide)) zS.out ⟨rT.out.1,rT.out.2.1,Or.inr (dn hC CS.out.mM.size)⟩) (oP (Jq.out.mono fun _ _ q=>q.but nX hg (by decide)) (U.1 EA.out).1 zS.out ⟨rT.out.1,rT.out.2.1,Or.inr (dn hC CS.out.mM.size)⟩))
   clear hC hO nX hBel CS HW Jp Jq rT EA zS Jr;go_wp2
   go_roundw
   case rel=>exact⟨k+1,by omega,by go_num,M6.out⟩
   case measure=>simp [intOf]; omega
  ·obtain rfl:q2=k:=by omega
   have RO:=CS.out.bx.cell 4;simp only [Y,V,X] at RO;clear hlt;go_wp2
   go_loopw [46] (fun i wr=>∃ k:Nat,k<=q4/\i=L O k/\Cs w0 w wr b q2 k 0 (p1,q1,s1) (p2,q2,s2) (p3,q3,s3) (p4,q4,s4) (p5,q5,s5)) (fun i _=>q4-(intOf i).toNat)
   case atStart=>exact⟨0,aB _,rfl,CS.out⟩
   case round =>
    obtain⟨k,hk,rfl,hcs⟩:=hrel;have CS:=D hcs;have hq:=Q4.out;clear hcs;by_cases hlt:k<q4
    ·obtain⟨l,hl,hA,hV⟩:=CS.out.ent;have hln:l.length=q4:=dZ hl;obtain⟨g,rfl,hBg⟩:∃ g,p4=aA ⟨g,0,ak⟩/\w.heap.size<=g:=lK hl (show 0<q4 by omega);obtain⟨y,hy⟩:∃ y,l[k]?=aA y:=⟨_,K (by omega)⟩;obtain⟨a,ha⟩:∃ a,b.ent[k]?=aA a:=⟨_,K (by have h:=hA.len; have h2:l.length=q4:=hln; omega)⟩;obtain⟨y',hy',hym⟩:=hA.at k a ha;rw [hy] at hy';obtain rfl:=ah hy';obtain⟨y1,y2,y3,y4,⟨yo,yn,yc⟩,y6,y7⟩:=y;have HW:=D hl;have Jp:=D hA;have Jq:=D hV;have rT:=D hym;have EA:=D hy;have zS:=D ha;have Jr:=D hBg;have hw3:IntKind.i64.wrap ((k:Int)+1)=(k:Int)+1:=au _ (by omega);clear hl hA hV hln hy ha hy' hym hBg RO;go_upto_region 11 with fail;refine Qd _ wr w.heap.size l w.heap.size b.me (J p1 q1 s1) (J p2 q2 s2) (J p3 q3 s3) (J p5 q5 s5) g q4 s4 k y1 y2 y3 y4 yo yn yc y6 y7 a.p _ _ _ _ _ _ _ _ _ _ _ _ _ _ _ _ _ _ _ _ _ _ _ _ _ _ _ _ _ _ _ _ _ _ _ _ _ _ _ _ _ _ _ _ _ _ _ _ _ _ _ _ _ _ _ _ _ _ _ _ _ _ _ _ _ _ _ _ _ _ _ _ _ _ _ _ _ _ _ _ CS.out.bx HW.out EA.out (rT.out.2.2.2.2.row (W0.out.trans (CS.out.mM.mono W0.out.size))) (HP.out.ent a (Z zS.out)) ?_;intro x v49 v50 v51 v52 v53 v54 v55 v56 v57 v58 v59 v60 t1 t2 t3 hC hO nX hBel;have M6:=D (show Cs w0 w x b q2 (k+1) 0 (p1,q1,s1) (p2,q2,s2) (p3,q3,s3) (aA ⟨g,0,ak⟩,q4,s4) (p5,q5,s5) from by
      obtain⟨cur,hg⟩:=fP HW.out;exact CS.out.PZ HW.out hO nX (CS.out.mM.trans (hBel _ Jr.out CS.out.mM.size)) (dV.set k _ a (Jp.out.mono fun _ _ q=>q.but nX hg (by decide)) zS.out ⟨rT.out.1,rT.out.2.1,rT.out.2.2.1,rT.out.2.2.2.1,Or.inr (dn hC CS.out.mM.size)⟩) (oP (Jq.out.mono fun _ _ q=>q.but nX hg (by decide)) (U.1 EA.out).1 zS.out ⟨rT.out.1,rT.out.2.1,rT.out.2.2.1,rT.out.2.2.2.1,Or.inr (dn hC CS.out.mM.size)⟩))
     clear hC hO nX hBel CS HW Jp Jq rT EA zS Jr;go_wp2
     go_roundw
     case rel=>exact⟨k+1,by omega,by go_num,M6.out⟩
     case measure=>simp [intOf]; omega
    ·obtain rfl:q4=k:=by omega
     have RP:=CS.out.bx.cell 5;simp only [Y,V,X] at RP;clear hlt;go_wp2
     go_loopw [65] (fun i wr=>∃ k:Nat,k<=q5/\i=L O k/\Cs w0 w wr b q2 q4 k (p1,q1,s1) (p2,q2,s2) (p3,q3,s3) (p4,q4,s4) (p5,q5,s5)) (fun i _=>q5-(intOf i).toNat)
     case atStart=>exact⟨0,aB _,rfl,CS.out⟩
     case round =>
      obtain⟨k,hk,rfl,hcs⟩:=hrel;have CS:=D hcs;have hq:=Q5.out;clear hcs;by_cases hlt:k<q5
      ·obtain⟨l,hl,hA,hV⟩:=CS.out.own;have hln:l.length=q5:=dZ hl;obtain⟨g,rfl,hBg⟩:∃ g,p5=aA ⟨g,0,ak⟩/\w.heap.size<=g:=lK hl (show 0<q5 by omega);obtain⟨y,hy⟩:∃ y,l[k]?=aA y:=⟨_,K (by omega)⟩;obtain⟨a,ha⟩:∃ a,b.own[k]?=aA a:=⟨_,K (by have h:=hA.len; have h2:l.length=q5:=hln; omega)⟩;obtain⟨y',hy',hym⟩:=hA.at k a ha;rw [hy] at hy';obtain rfl:=ah hy';obtain⟨y1,y2,⟨yo,yn,yc⟩⟩:=y;have HW:=D hl;have Jp:=D hA;have Jq:=D hV;have rT:=D hym;have EA:=D hy;have zS:=D ha;have Jr:=D hBg;have hw3:IntKind.i64.wrap ((k:Int)+1)=(k:Int)+1:=au _ (by omega);clear hl hA hV hln hy ha hy' hym hBg RP;go_upto_region 16 with fail;refine P8 _ wr w.heap.size l w.heap.size b.me (J p1 q1 s1) (J p2 q2 s2) (J p3 q3 s3) (J p4 q4 s4) g q5 s5 k y1 y2 yo yn yc a.p _ _ _ _ _ _ _ _ _ _ _ _ _ _ _ _ _ _ _ _ _ _ _ _ _ _ _ _ _ _ _ _ _ _ _ _ _ _ _ _ _ _ _ _ _ _ _ _ _ _ _ _ _ _ _ _ _ _ _ _ _ _ _ _ _ _ _ _ _ _ _ _ _ _ _ _ _ _ _ _ CS.out.bx HW.out EA.out (rT.out.2.row (W0.out.trans (CS.out.mM.mono W0.out.size))) (HP.out.own a (Z zS.out)) ?_;intro x v68 v69 v70 v71 v72 v73 v74 v75 v76 v77 v78 v79 t1 t2 t3 hC hO nX hBel;have M6:=D (show Cs w0 w x b q2 q4 (k+1) (p1,q1,s1) (p2,q2,s2) (p3,q3,s3) (p4,q4,s4) (aA ⟨g,0,ak⟩,q5,s5) from by
        obtain⟨cur,hg⟩:=fP HW.out;exact CS.out.setW HW.out hO nX (CS.out.mM.trans (hBel _ Jr.out CS.out.mM.size)) (dV.set k _ a (Jp.out.mono fun _ _ q=>q.but nX hg (by decide)) zS.out ⟨rT.out.1,Or.inr (dn hC CS.out.mM.size)⟩) (oP (Jq.out.mono fun _ _ q=>q.but nX hg (by decide)) (U.1 EA.out).1 zS.out ⟨rT.out.1,Or.inr (dn hC CS.out.mM.size)⟩))
       clear hC hO nX hBel CS HW Jp Jq rT EA zS Jr;go_wp2
       go_roundw
       case rel=>exact⟨k+1,by omega,by go_num,M6.out⟩
       case measure=>simp [intOf]; omega
      ·obtain rfl:q5=k:=by omega
       have X1:=CS.out.bx;have Z1:=CS.out.bz;obtain⟨x0,x1,x2,x3,x4,x5⟩:=X1.fQ;obtain⟨r0,r1,r2,r3,r4,r5⟩:=Z1.fQ;obtain⟨t0,t1,t2,t3,t4,t5⟩:=Z1.mD;have zz:=Z1.lt;have FB:=D (dK Z1 (L O b.me) (J p1 q1 s1) (J p2 q2 s2) (J p3 q3 s3) (J p4 q4 s4) (J p5 q5 s5));have FD:=D (CS.out.done (L O b.me) (J p1 q1 s1) (J p2 q2 s2) (J p3 q3 s3) (J p4 q4 s4) (J p5 q5 s5));clear X1 Z1 CS;go_wp2_with fail;obtain⟨v0,v1,v2,v3,v4,v5⟩:=FB.out.fQ;refine bodyPost_ret (v:=.agg #[L O b.me,J p1 q1 s1,J p2 q2 s2,J p3 q3 s3,J p4 q4 s4,J p5 q5 s5]) (by simp [results,Tryz.results33,go_sem,v0,v1,v2,v3,v4,v5]) rfl ?_;exact⟨⟨(p1,q1,s1),(p2,q2,s2),(p3,q3,s3),(p4,q4,s4),(p5,q5,s5),rfl,FD.out.1⟩,FD.out.2⟩
def fJ (l:List Ad) (x:dQ):Option Ad:=l.find? fun a=>decide (a.id=x)
theorem qR {l:List Ad} {x:dQ} (h:∀ (j:Nat) (a:Ad),l[j]?=aA a->a.id≠x):fJ l x=ak:=by
 unfold fJ;rw [List.find?_eq_none];intro a ha;obtain⟨j,hj⟩:=List.mem_iff_getElem?.1 ha;simpa using h j a hj
theorem nY:∀ {l:List Ad} {x:dQ} {k:Nat} {a:Ad},l[k]?=aA a->a.id=x->(∀ (j:Nat) (z:Ad),j<k->l[j]?=aA z->z.id≠x)->fJ l x=aA a
 | [],_,_,_,h,_,_=>by simp at h
 | b::l,x,0,a,h,hx,_=>by
  obtain rfl:b=a:=by simpa using h
  simp [fJ,hx]
 | b::l,x,k+1,a,h,hx,hall=>by
  have hb:=hall 0 b (by omega) rfl;have ih:=nY (l:=l) (x:=x) (k:=k) (a:=a) (by simpa using h) hx fun j z hj hz=>hall (j+1) z (by omega) (by simpa using hz);unfold fJ at *;rw [List.find?_cons_of_neg (by simpa using hb)];exact ih
def M7 (W:World) (o:Option Ad) (w:World) (e:Ending) (w':World):Prop:=(match o with
 | none=>e=.returned (.tuple #[jD (0,0,(ak,0,0),0),aC false])
 | some a=>∃ r:iQ,e=.returned (.tuple #[jD r,aC true])/\uQ w' r a)/\Below W.heap.size w w'
theorem wS (me:Int) (nv sv ev ov:Value) (av:Sl) (l:List iQ) (al:List Ad) (x:dQ) (w:World) (hs:yj w (dH av) l) (hA:dV (uQ w) l al) (hf:∀ a∈al,a.p.length<=900) :
  Calls Tryz.prog 116 #[.agg #[L O me,nv,dH av,sv,ev,ov],oJ x] w (M7 w (fJ al x) w):=by
 obtain⟨c,d⟩:=x;obtain⟨so,sn,sc⟩:=av;obtain⟨ao,ac,hv⟩:=hs.len;have hv:J so sn sc=J ao l.length ac:=hv;obtain⟨rfl,rfl,rfl⟩:so=ao/\sn=l.length/\sc=ac:=by simpa using hv
 obtain⟨h0,h1,h2⟩:=gP w #[L O me,nv,J so l.length sc,sv,ev,ov] #[L O c,L O d] 30 23;have h3:=iM ((w.alloc (aj #[L O me,nv,J so l.length sc,sv,ev,ov] 30)).alloc (aj #[L O c,L O d] 23)) (aj #[L O 0,L O 0,J ak 0 0,L O 0] 36);have h4:=dG ((w.alloc (aj #[L O me,nv,J so l.length sc,sv,ev,ov] 30)).alloc (aj #[L O c,L O d] 23)) #[L O 0,L O 0,J ak 0 0,L O 0] 36;have hsz:((w.alloc (aj #[L O me,nv,J so l.length sc,sv,ev,ov] 30)).alloc (aj #[L O c,L O d] 23)).heap.size=w.heap.size+1+1:=by simp
 rw [hsz] at h4;have B:=D (h0.trans (h3.mono h0.size));have HS:=D (hs.on B.out);have HA:=D (hA.mono fun _ _ h=>h.on B.out);have X2:=D (h1.on h3);have X3:=D (h2.on h3);have X4:=D h4;have HF:=D hf;have lm:=hs.most;unfold maxLen at lm;obtain⟨n,hn⟩:∃ n,n=l.length:=⟨_,rfl⟩;have q3:=X2.out.cell 2;simp only [Y,V,X] at q3;rw [<- hn] at HS X2 X3 X4 HA lm q3 B ⊢;have HN:=D hn.symm;obtain⟨fo,hfo⟩:∃ o,o=fJ al (c,d):=⟨_,rfl⟩;rw [<- hfo];have FO:=D hfo;clear h0 h1 h2 h3 h4 hs hv hn hA hf hsz hfo;go_enter Tryz.func116,Tryz.ntmps116;go_upto_region 1 with fail;generalize ((w.alloc (aj #[L O me,nv,J so n sc,sv,ev,ov] 30)).alloc (aj #[L O c,L O d] 23)).alloc (aj #[L O 0,L O 0,J ak 0 0,L O 0] 36)=W at *;go_wp2
 go_loopw [11] (fun i wr=>∃ k:Nat,k<=n/\i=L O k/\Below W.heap.size W wr/\∀ (j:Nat) (y:iQ),j<k->l[j]?=aA y->(y.1,y.2.1)≠(c,d)) (fun i _=>n-(intOf i).toNat)
 case atStart=>exact⟨0,aB _,rfl,Below.refl _ _,fun j y h=>by omega⟩
 case round =>
  obtain⟨k,hk,rfl,hbe,hall⟩:=hrel;have BE:=D hbe;have AL:=D hall;clear hbe hall;by_cases hlt:k<n
  ·obtain⟨y,hy⟩:∃ y,l[k]?=aA y:=⟨_,K (by rw [HN.out]; exact hlt)⟩;obtain⟨p,ix,px⟩:=Pf HS.out rfl HN.out hy;obtain⟨p0,p1,p2,p3⟩:=px wr BE.out;obtain⟨y1,y2,⟨yo,yn,yc⟩,y4⟩:=y;simp only at p0 p1 p2 p3;have NB:=D (iM wr (aj #[L O y1,L O y2,J yo yn yc,L O y4] 36));obtain⟨x0,x1⟩:=((X3.out.on BE.out).on NB.out).cs2;have hw3:IntKind.i64.wrap ((k:Int)+1)=(k:Int)+1:=au _ (by omega);obtain⟨r,hr⟩:∃ r,(y1 == c && y2 == d)=r:=⟨_,rfl⟩;have he:=uR y1 y2 c d r hr;have HY:=D hy;have HR:=D hr;clear px hy hr;cases r
   ·go_wp2
    go_roundw
    case rel=>exact⟨k+1,by omega,by go_num,BE.out.trans (NB.out.mono BE.out.size),fun j y' hj h1=>by
     rcases Nat.lt_or_ge j k with h3|h3
     ·exact AL.out j y' h3 h1
     ·obtain rfl:j=k:=by omega
      have e1:=HY.out;rw [h1] at e1;rw [ah e1];intro e;obtain⟨rfl,rfl⟩:y1=c/\y2=d:=by simpa using e
      have:=HR.out;simp at this⟩
    case measure=>simp [intOf]; omega
   ·obtain⟨a,ha⟩:∃ a,al[k]?=aA a:=⟨_,K (by rw [<- HA.out.len,HN.out]; exact hlt)⟩;obtain⟨z,hz1,hz2⟩:=HA.out.at k a ha;rw [HY.out] at hz1;obtain rfl:=ah hz1;have BA:=D (BE.out.trans (NB.out.mono BE.out.size));have C:=D (qI (y1,y2,(yo,yn,yc),y4) a.p _ (hz2.2.2.on BA.out) (HF.out a (Z ha)));have HZ:=D hz2;have h8:=HR.out;obtain⟨rfl,rfl⟩:y1=c/\y2=d:=by simpa using h8
    have FA:=D (show fo=aA a by
     rw [FO.out];refine nY ha hz2.1.symm fun j z hj hzz=>?_;obtain⟨u,hu1,hu2⟩:=HA.out.at j z hzz;rw [<- hu2.1];exact AL.out j u hj hu1)
    have Qm:=(X4.out.on BE.out).on NB.out;clear hz1 hz2 ha h8;go_wp2_with fail;refine C.out.mono ?_;rintro e w1 ⟨⟨⟨u1,u2,u3⟩,rfl,ho⟩,hb⟩;have Y1:=Qm.on hb;have B1:=D (BA.out.trans (hb.mono BA.out.size));obtain⟨r0,r1,r2,r3⟩:=Y1.zD;obtain⟨t0,t1,t2,t3⟩:=Y1.PU;have zz:=Y1.lt;have hs2:w.heap.size+1+1<(wr.alloc (aj #[L O y1,L O y2,J yo yn yc,L O y4] 36)).heap.size:=Qm.lt;have FB:=D (qH Y1 (L O y1) (L O y2) (J u1 u2 u3) (L O y4));have BL:=D (mX (b:=w.heap.size+1+1) (B.out.trans (B1.out.mono B.out.size)) (by omega) (L O y1) (L O y2) (J u1 u2 u3) (L O y4));have FW:=D (wE ho (w.heap.size+1+1) hs2 (L O y1) (L O y2) (J u1 u2 u3) (L O y4));clear Y1 ho hb hs2 Qm;go_wp2_with fail;obtain⟨v0,v1,v2,v3⟩:=FB.out.zD;refine bodyPost_ret (v:=.tuple #[.agg #[L O y1,L O y2,J u1 u2 u3,L O y4],aC true]) (by simp [results,Tryz.results116,go_sem,v0,v1,v2,v3]) rfl ?_;rw [FA.out];exact⟨⟨(y1,y2,(u1,u2,u3),y4),rfl,HZ.out.1,HZ.out.2.1,Row.dx FW.out⟩,BL.out⟩
  ·obtain rfl:k=n:=by omega
   have FA:=D (show fo=ak by
    rw [FO.out];refine qR fun j z hzz=>?_;obtain⟨u,hu1,hu2⟩:=HA.out.at j z hzz;rw [<- hu2.1];exact AL.out j u (by rw [<- HN.out]; exact (U.1 hu1).1) hu1)
   have Y1:=X4.out.on BE.out;obtain⟨r0,r1,r2,r3⟩:=Y1.zD;obtain⟨t0,t1,t2,t3⟩:=Y1.PU;have zz:=Y1.lt;have FB:=D (qH Y1 (L O 0) (L O 0) (J ak 0 0) (L O 0));have BL:=D (mX (b:=w.heap.size+1+1) (B.out.trans (BE.out.mono B.out.size)) (by omega) (L O 0) (L O 0) (J ak 0 0) (L O 0));clear Y1;go_wp2_with fail;obtain⟨v0,v1,v2,v3⟩:=FB.out.zD;refine bodyPost_ret (v:=.tuple #[.agg #[L O 0,L O 0,J ak 0 0,L O 0],aC false]) (by simp [results,Tryz.results116,go_sem,v0,v1,v2,v3]) rfl ?_;rw [FA.out];exact⟨rfl,BL.out⟩
end Go.Proofs.YtghlpefopidlaaaGreat.Av
