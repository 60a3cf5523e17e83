/-
  Copy of package adve. Conditions as told.
-/
import Derived.Test.YtkcfgbddlpomgaaGreatDQ016
import Derived.Test.YtkcfgbddlpomgaaGreatDQ021
set_option maxRecDepth 100000
set_option maxHeartbeats 64000000
open Go.Lib renaming hid->D
open Go.Value renaming slice->J,int->au
open _root_.List renaming getElem?_eq_getElem->K,take_of_length_le->L,getElem?_eq_some_iff->O,getElem?_cons_zero->Q,getElem?_cons_succ->U,getElem?_toArray->V,mem_of_getElem?->X
open _root_.Nat renaming le_refl->Y,zero_le->aj
open _root_.Option renaming none->ah,some->ak
open Option.some renaming inj->Z
namespace Go.Proofs.YtkcfgbddlpomgaaGreat.Av
open Go.RowKit Go.Sort Rw YtkcfgbddlpomgaaGreat.Nm Pr Bk
structure xQ (b:Br):Prop where
 dO:∀ a∈b.dO,a.p.length<=900
 ent:∀ a∈b.ent,a.p.length<=900
 own:∀ a∈b.own,a.p.length<=900
theorem iO {α:Type} {E:Ek α} {W:World} {B n cap:Nat} {o:Option Addr} {l:List α} (h:Own E W B (J o n cap) l):l.length=n:=by
 obtain⟨_,_,hv⟩:=(Row.dx h).len;have:n=l.length:=by simpa using congrArg (fun v=>match v with | Value.slice _ n _=>n | _=>0) hv
 exact this.symm
theorem zq {α:Type} {E:Ek α} {W:World} {B n cap:Nat} {o:Option Addr} {l:List α} (h:Own E W B (J o n cap) l) (hn:0<n):∃ g,o=ak ⟨g,0,ah⟩/\B<=g:=by
 have hl:=iO h;rcases iT h with⟨_,h2⟩|⟨g,c',cur,h1,h2,_⟩
 ·rw [h2] at hl; simp at hl; omega
 ·exact⟨g,by simp at h1; exact h1.1,h2⟩
theorem gD (w:World) (b:Nat) (a0 a1 a2 a3 a4 a5:Value):But b w (gP w b a0 a1 a2 a3 a4 a5) :=
 (((dQ _ b _ _).trans (dQ _ b _ _)).trans ((dQ _ b _ _).trans (dQ _ b _ _))).trans ((dQ _ b _ _).trans (dQ _ b _ _))
theorem Cs.done {w0 w wr:World} {b:Br} {nv sv:Sl} {p2 p4 p5:Option Addr} {q2 s2 q4 s4 q5 s5:Nat} (h:Cs w0 w wr b q2 q4 q5 nv (p2,q2,s2) sv (p4,q4,s4) (p5,q5,s5)) (a0 a1 a2 a3 a4 a5:Value):Cp (vw w0) w.heap.size (gP wr (w.heap.size+1) a0 a1 a2 a3 a4 a5) b nv (p2,q2,s2) sv (p4,q4,s4) (p5,q5,s5)/\Below w.heap.size w (gP wr (w.heap.size+1) a0 a1 a2 a3 a4 a5):=by
 obtain⟨l1,d1,d2,d3⟩:=h.dO;obtain⟨l2,e1,e2,e3⟩:=h.ent;obtain⟨l3,f1,f2,f3⟩:=h.own;have n1:l1.length=q2:=iO d1;have n2:l2.length=q4:=iO e1;have n3:l3.length=q5:=iO f1;rw [L (by omega),L (by have:=d2.len; omega)] at d3;rw [L (by omega),L (by have:=e2.len; omega)] at e3;rw [L (by omega),L (by have:=f2.len; omega)] at f3;exact⟨Cp.but ⟨h.near,h.seen,⟨l1,d1,d3⟩,⟨l2,e1,e3⟩,⟨l3,f1,f3⟩⟩ (gD wr (w.heap.size+1) a0 a1 a2 a3 a4 a5) h.bz,dD h.tC (by omega) a0 a1 a2 a3 a4 a5⟩
theorem wM (b:Br) (nv av sv ev ov:Sl) (w0 w:World) (hw0:Below w0.heap.size w0 w) (h:gZ w0 b nv av sv ev ov) (hf:Np b) (hp:xQ b) :
  Calls Tryz.prog 50 #[ny b.me nv av sv ev ov] w fun e w'=>(∃ nv' xX Fw ev' RD:Sl,e=.returned (ny b.me nv' xX Fw ev' RD)/\Cp (vw w0) w.heap.size w' b nv' xX Fw ev' RD)/\Below w.heap.size w w':=by
 obtain⟨no,nn,nc⟩:=nv;obtain⟨ao,an,ac⟩:=av;obtain⟨so,sn,sc⟩:=sv;obtain⟨eo,en,ec⟩:=ev;obtain⟨oo,dU,oc⟩:=ov;obtain⟨la,ha1,ha2⟩:=h.dO;obtain⟨le,he1,he2⟩:=h.ent;obtain⟨Eh,ho1,ho2⟩:=h.own;have HA:=D ha2;have HE:=D he2;have HO:=D ho2;have R0:=D (h.near.on hw0);have R1:=D (ha1.on hw0);have R2:=D (h.seen.on hw0);have R3:=D (he1.on hw0);have R4:=D (ho1.on hw0);have W0:=D hw0;have HP:=D hp;have LL0:=D hf.near;have LL1:=D (show la.length<=900 by rw [ha2.len]; exact hf.dO);have LL2:=D hf.seen;have LL3:=D (show le.length<=900 by rw [he2.len]; exact hf.ent);have LL4:=D (show Eh.length<=900 by rw [ho2.len]; exact hf.own);obtain⟨h0,h1,h2⟩:=gK w #[au .i64 b.me,J no nn nc,J ao an ac,J so sn sc,J eo en ec,J oo dU oc] #[au .i64 0,J ah 0 0,J ah 0 0,J ah 0 0,J ah 0 0,J ah 0 0] 33 33;have B0:=D h0;have XB:=D h1;have ZB:=D h2;clear h0 h1 h2 h hf hp hw0 ha1 ha2 he1 he2 ho1 ho2;go_enter Tryz.func50,Tryz.ntmps50;go_upto_region 1 with fail;generalize (w.alloc (.cells #[au .i64 b.me,J no nn nc,J ao an ac,J so sn sc,J eo en ec,J oo dU oc] 33)).alloc (.cells #[au .i64 0,J ah 0 0,J ah 0 0,J ah 0 0,J ah 0 0,J ah 0 0] 33)=W at *;refine cp1 _ W w.heap.size b.me (J ao an ac) (J eo en ec) (J oo dU oc) no nn nc b.near so sn sc b.seen _ _ _ _ _ _ _ _ _ _ _ _ _ _ _ _ _ _ _ _ _ _ _ _ _ _ _ _ _ _ _ _ _ _ _ _ _ _ _ _ _ _ _ _ _ _ _ _ _ _ _ _ _ _ _ _ _ _ _ _ _ _ _ _ _ _ _ _ _ _ _ _ _ _ _ _ _ _ _ _ _ XB.out (R0.out.on B0.out) (R2.out.on B0.out) LL0.out LL2.out ?_;intro x1 v6 v7 v8 v9 v10 v11 v12 v13 p1 q1 s1 p3 q3 s3 hb1 hn1 hs1 R9 Sc;have B1:=D (B0.out.trans (R9 _ (Y _)));have S1:=D (show W.heap.size<=x1.heap.size from (R9 _ (Y _)).size);have ZB1:=D (show dJ x1 (w.heap.size+1) _ _ from (Sc _ ZB.out.lt (by omega)).trans ZB.out);have Xa:=D hb1;have N1:=D (dG hn1 B0.out.size);have J1:=D (dG hs1 B0.out.size);clear hb1 hn1 hs1 R9 Sc XB ZB;go_upto_region 2 with fail;refine cp2 _ x1 w.heap.size b.me (J p1 q1 s1) (J p3 q3 s3) ao an ac la eo en ec le oo dU oc Eh _ _ _ _ _ _ _ _ _ _ _ _ _ _ _ _ _ _ _ _ _ _ _ _ _ _ _ _ _ _ _ _ _ _ _ _ _ _ _ _ _ _ _ _ _ _ _ _ _ _ _ _ _ _ _ _ _ _ _ _ _ _ _ _ _ _ _ _ _ _ _ _ _ _ _ _ _ _ _ _ _ Xa.out (R1.out.on B1.out) (R3.out.on B1.out) (R4.out.on B1.out) LL1.out LL3.out LL4.out ?_;intro x2 v14 v15 v16 v17 v18 v19 v20 v21 v22 v23 v24 v25 p2 q2 s2 p4 q4 s4 p5 q5 s5 hb2 ha2 he2 ho2 Lj Ez;have CS:=D (show Cs w0 w x2 b 0 0 0 (p1,q1,s1) (p2,q2,s2) (p3,q3,s3) (p4,q4,s4) (p5,q5,s5) from {
  tC:=B1.out.trans (Lj _ (Y _))
  bx:=hb2
  bz:=(Ez _ ZB1.out.lt (by omega)).trans ZB1.out
  near:=But.own ⟨Ez,(Lj _ (Y _)).size⟩ N1.out Xa.out (by decide)
  seen:=But.own ⟨Ez,(Lj _ (Y _)).size⟩ J1.out Xa.out (by decide)
  dO:=⟨la,dG ha2 B1.out.size,HA.out.mono fun _ _ q=>⟨q.1,q.2.1,Or.inl q.2.2⟩,.nil⟩
  ent:=⟨le,dG he2 B1.out.size,HE.out.mono fun _ _ q=>⟨q.1,q.2.1,q.2.2.1,q.2.2.2.1,Or.inl q.2.2.2.2⟩,.nil⟩
  own:=⟨Eh,dG ho2 B1.out.size,HO.out.mono fun _ _ q=>⟨q.1,Or.inl q.2⟩,.nil⟩ })
 have Q2:=D (show q2<=900 from by rw [<- iO ha2]; exact LL1.out);have Q4:=D (show q4<=900 from by rw [<- iO he2]; exact LL3.out);have Q5:=D (show q5<=900 from by rw [<- iO ho2]; exact LL4.out);clear hb2 ha2 he2 ho2 Lj Ez Xa ZB1 N1 J1 B1 S1 R0 R1 R2 R3 R4 HA HE HO LL0 LL1 LL2 LL3 LL4 B0;have cf2:=CS.out.bx.cell 2;simp only [V,Q,U] at cf2;go_wp2
 go_loopw [29] (fun i wr=>∃ k:Nat,k<=q2/\i=au .i64 k/\Cs w0 w wr b k 0 0 (p1,q1,s1) (p2,q2,s2) (p3,q3,s3) (p4,q4,s4) (p5,q5,s5)) (fun i _=>q2-(intOf i).toNat)
 case atStart=>exact⟨0,aj _,rfl,CS.out⟩
 case round =>
  obtain⟨k,hk,rfl,hcs⟩:=hrel;have CS:=D hcs;have hq:=Q2.out;clear hcs;by_cases hlt:k<q2
  ·obtain⟨l,hl,hA,hV⟩:=CS.out.dO;have hln:l.length=q2:=iO hl;obtain⟨g,rfl,hBg⟩:∃ g,p2=ak ⟨g,0,ah⟩/\w.heap.size<=g:=zq hl (show 0<q2 by omega);obtain⟨y,hy⟩:∃ y,l[k]?=ak y:=⟨_,K (by omega)⟩;obtain⟨a,ha⟩:∃ a,b.dO[k]?=ak a:=⟨_,K (by have h:=hA.len; have h2:l.length=q2:=hln; omega)⟩;obtain⟨y',hy',hym⟩:=hA.at k a ha;rw [hy] at hy';obtain rfl:=Z hy';obtain⟨y1,y2,⟨yo,yn,yc⟩,y4⟩:=y;have HW:=D hl;have YA:=D hA;have YC:=D hV;have AA:=D hym;have Sd:=D hy;have Ll:=D ha;have YD:=D hBg;have hw3:IntKind.i64.wrap ((k:Int)+1)=(k:Int)+1:=IntWalk.i64_in _ (by omega);clear hl hA hV hln hy ha hy' hym hBg cf2;go_upto_region 6 with fail;refine cp6 _ wr w.heap.size l w.heap.size b.me (J p1 q1 s1) (J p3 q3 s3) (J p4 q4 s4) (J p5 q5 s5) g q2 s2 k y1 y2 yo yn yc y4 a.p _ _ _ _ _ _ _ _ _ _ _ _ _ _ _ _ _ _ _ _ _ _ _ _ _ _ _ _ _ _ _ _ _ _ _ _ _ _ _ _ _ _ _ _ _ _ _ _ _ _ _ _ _ _ _ _ _ _ _ _ _ _ _ _ _ _ _ _ _ _ _ _ _ _ _ _ _ _ _ _ CS.out.bx HW.out Sd.out (AA.out.2.2.row (W0.out.trans (CS.out.tC.mono W0.out.size))) (HP.out.dO a (X Ll.out)) ?_;intro x v32 v33 v34 v35 v36 v37 v38 v39 v40 v41 t1 t2 t3 hC hO uY hBel;have CS2:=D (show Cs w0 w x b (k+1) 0 0 (p1,q1,s1) (ak ⟨g,0,ah⟩,q2,s2) (p3,q3,s3) (p4,q4,s4) (p5,q5,s5) from by
    obtain⟨cur,hg⟩:=jS HW.out;exact CS.out.QN HW.out hO uY (CS.out.tC.trans (hBel _ YD.out CS.out.tC.size)) (eB.set k _ a (YA.out.mono fun _ _ q=>q.but uY hg (by decide)) Ll.out ⟨AA.out.1,AA.out.2.1,Or.inr (dG hC CS.out.tC.size)⟩) (wu (YC.out.mono fun _ _ q=>q.but uY hg (by decide)) (O.1 Sd.out).1 Ll.out ⟨AA.out.1,AA.out.2.1,Or.inr (dG hC CS.out.tC.size)⟩))
   clear hC hO uY hBel CS HW YA YC AA Sd Ll YD;go_wp2
   go_roundw
   case rel=>exact⟨k+1,by omega,by go_num,CS2.out⟩
   case measure=>simp [intOf]; omega
  ·obtain rfl:q2=k:=by omega
   have cf4:=CS.out.bx.cell 4;simp only [V,Q,U] at cf4;clear hlt;go_wp2
   go_loopw [46] (fun i wr=>∃ k:Nat,k<=q4/\i=au .i64 k/\Cs w0 w wr b q2 k 0 (p1,q1,s1) (p2,q2,s2) (p3,q3,s3) (p4,q4,s4) (p5,q5,s5)) (fun i _=>q4-(intOf i).toNat)
   case atStart=>exact⟨0,aj _,rfl,CS.out⟩
   case round =>
    obtain⟨k,hk,rfl,hcs⟩:=hrel;have CS:=D hcs;have hq:=Q4.out;clear hcs;by_cases hlt:k<q4
    ·obtain⟨l,hl,hA,hV⟩:=CS.out.ent;have hln:l.length=q4:=iO hl;obtain⟨g,rfl,hBg⟩:∃ g,p4=ak ⟨g,0,ah⟩/\w.heap.size<=g:=zq hl (show 0<q4 by omega);obtain⟨y,hy⟩:∃ y,l[k]?=ak y:=⟨_,K (by omega)⟩;obtain⟨a,ha⟩:∃ a,b.ent[k]?=ak a:=⟨_,K (by have h:=hA.len; have h2:l.length=q4:=hln; omega)⟩;obtain⟨y',hy',hym⟩:=hA.at k a ha;rw [hy] at hy';obtain rfl:=Z hy';obtain⟨y1,y2,y3,y4,⟨yo,yn,yc⟩,y6,y7⟩:=y;have HW:=D hl;have YA:=D hA;have YC:=D hV;have AA:=D hym;have Sd:=D hy;have Ll:=D ha;have YD:=D hBg;have hw3:IntKind.i64.wrap ((k:Int)+1)=(k:Int)+1:=IntWalk.i64_in _ (by omega);clear hl hA hV hln hy ha hy' hym hBg cf4;go_upto_region 11 with fail;refine afN _ wr w.heap.size l w.heap.size b.me (J p1 q1 s1) (J p2 q2 s2) (J p3 q3 s3) (J p5 q5 s5) g q4 s4 k y1 y2 y3 y4 yo yn yc y6 y7 a.p _ _ _ _ _ _ _ _ _ _ _ _ _ _ _ _ _ _ _ _ _ _ _ _ _ _ _ _ _ _ _ _ _ _ _ _ _ _ _ _ _ _ _ _ _ _ _ _ _ _ _ _ _ _ _ _ _ _ _ _ _ _ _ _ _ _ _ _ _ _ _ _ _ _ _ _ _ _ _ _ CS.out.bx HW.out Sd.out (AA.out.2.2.2.2.row (W0.out.trans (CS.out.tC.mono W0.out.size))) (HP.out.ent a (X Ll.out)) ?_;intro x v49 v50 v51 v52 v53 v54 v55 v56 v57 v58 v59 v60 t1 t2 t3 hC hO uY hBel;have CS2:=D (show Cs w0 w x b q2 (k+1) 0 (p1,q1,s1) (p2,q2,s2) (p3,q3,s3) (ak ⟨g,0,ah⟩,q4,s4) (p5,q5,s5) from by
      obtain⟨cur,hg⟩:=jS HW.out;exact CS.out.afH HW.out hO uY (CS.out.tC.trans (hBel _ YD.out CS.out.tC.size)) (eB.set k _ a (YA.out.mono fun _ _ q=>q.but uY hg (by decide)) Ll.out ⟨AA.out.1,AA.out.2.1,AA.out.2.2.1,AA.out.2.2.2.1,Or.inr (dG hC CS.out.tC.size)⟩) (wu (YC.out.mono fun _ _ q=>q.but uY hg (by decide)) (O.1 Sd.out).1 Ll.out ⟨AA.out.1,AA.out.2.1,AA.out.2.2.1,AA.out.2.2.2.1,Or.inr (dG hC CS.out.tC.size)⟩))
     clear hC hO uY hBel CS HW YA YC AA Sd Ll YD;go_wp2
     go_roundw
     case rel=>exact⟨k+1,by omega,by go_num,CS2.out⟩
     case measure=>simp [intOf]; omega
    ·obtain rfl:q4=k:=by omega
     have cf5:=CS.out.bx.cell 5;simp only [V,Q,U] at cf5;clear hlt;go_wp2
     go_loopw [65] (fun i wr=>∃ k:Nat,k<=q5/\i=au .i64 k/\Cs w0 w wr b q2 q4 k (p1,q1,s1) (p2,q2,s2) (p3,q3,s3) (p4,q4,s4) (p5,q5,s5)) (fun i _=>q5-(intOf i).toNat)
     case atStart=>exact⟨0,aj _,rfl,CS.out⟩
     case round =>
      obtain⟨k,hk,rfl,hcs⟩:=hrel;have CS:=D hcs;have hq:=Q5.out;clear hcs;by_cases hlt:k<q5
      ·obtain⟨l,hl,hA,hV⟩:=CS.out.own;have hln:l.length=q5:=iO hl;obtain⟨g,rfl,hBg⟩:∃ g,p5=ak ⟨g,0,ah⟩/\w.heap.size<=g:=zq hl (show 0<q5 by omega);obtain⟨y,hy⟩:∃ y,l[k]?=ak y:=⟨_,K (by omega)⟩;obtain⟨a,ha⟩:∃ a,b.own[k]?=ak a:=⟨_,K (by have h:=hA.len; have h2:l.length=q5:=hln; omega)⟩;obtain⟨y',hy',hym⟩:=hA.at k a ha;rw [hy] at hy';obtain rfl:=Z hy';obtain⟨y1,y2,⟨yo,yn,yc⟩⟩:=y;have HW:=D hl;have YA:=D hA;have YC:=D hV;have AA:=D hym;have Sd:=D hy;have Ll:=D ha;have YD:=D hBg;have hw3:IntKind.i64.wrap ((k:Int)+1)=(k:Int)+1:=IntWalk.i64_in _ (by omega);clear hl hA hV hln hy ha hy' hym hBg cf5;go_upto_region 16 with fail;refine afO _ wr w.heap.size l w.heap.size b.me (J p1 q1 s1) (J p2 q2 s2) (J p3 q3 s3) (J p4 q4 s4) g q5 s5 k y1 y2 yo yn yc a.p _ _ _ _ _ _ _ _ _ _ _ _ _ _ _ _ _ _ _ _ _ _ _ _ _ _ _ _ _ _ _ _ _ _ _ _ _ _ _ _ _ _ _ _ _ _ _ _ _ _ _ _ _ _ _ _ _ _ _ _ _ _ _ _ _ _ _ _ _ _ _ _ _ _ _ _ _ _ _ _ CS.out.bx HW.out Sd.out (AA.out.2.row (W0.out.trans (CS.out.tC.mono W0.out.size))) (HP.out.own a (X Ll.out)) ?_;intro x v68 v69 v70 v71 v72 v73 v74 v75 v76 v77 v78 v79 t1 t2 t3 hC hO uY hBel;have CS2:=D (show Cs w0 w x b q2 q4 (k+1) (p1,q1,s1) (p2,q2,s2) (p3,q3,s3) (p4,q4,s4) (ak ⟨g,0,ah⟩,q5,s5) from by
        obtain⟨cur,hg⟩:=jS HW.out;exact CS.out.setW HW.out hO uY (CS.out.tC.trans (hBel _ YD.out CS.out.tC.size)) (eB.set k _ a (YA.out.mono fun _ _ q=>q.but uY hg (by decide)) Ll.out ⟨AA.out.1,Or.inr (dG hC CS.out.tC.size)⟩) (wu (YC.out.mono fun _ _ q=>q.but uY hg (by decide)) (O.1 Sd.out).1 Ll.out ⟨AA.out.1,Or.inr (dG hC CS.out.tC.size)⟩))
       clear hC hO uY hBel CS HW YA YC AA Sd Ll YD;go_wp2
       go_roundw
       case rel=>exact⟨k+1,by omega,by go_num,CS2.out⟩
       case measure=>simp [intOf]; omega
      ·obtain rfl:q5=k:=by omega
       have X1:=CS.out.bx;have Z1:=CS.out.bz;obtain⟨x0,x1,x2,x3,x4,x5⟩:=X1.fA;obtain⟨r0,r1,r2,r3,r4,r5⟩:=Z1.fA;obtain⟨t0,t1,t2,t3,t4,t5⟩:=Z1.kg;have zz:=Z1.lt;have FB:=D (dK Z1 (au .i64 b.me) (J p1 q1 s1) (J p2 q2 s2) (J p3 q3 s3) (J p4 q4 s4) (J p5 q5 s5));have FD:=D (CS.out.done (au .i64 b.me) (J p1 q1 s1) (J p2 q2 s2) (J p3 q3 s3) (J p4 q4 s4) (J p5 q5 s5));clear X1 Z1 CS;go_wp2_with fail;obtain⟨v0,v1,v2,v3,v4,v5⟩:=FB.out.fA;refine bodyPost_ret (v:=.agg #[au .i64 b.me,J p1 q1 s1,J p2 q2 s2,J p3 q3 s3,J p4 q4 s4,J p5 q5 s5]) (by simp [results,Tryz.results50,go_sem,v0,v1,v2,v3,v4,v5]) rfl ?_;exact⟨⟨(p1,q1,s1),(p2,q2,s2),(p3,q3,s3),(p4,q4,s4),(p5,q5,s5),rfl,FD.out.1⟩,FD.out.2⟩
end Go.Proofs.YtkcfgbddlpomgaaGreat.Av
