/-
  Forget of package ad. Conditions as told.
-/
import Derived.Test.YtmklifheakemeaaGreatLQ024
import Derived.Test.YtmklifheakemeaaGreatLQ022
import Derived.Test.YtmklifheakemeaaGreatLQ023
import Derived.OpenShut
import Derived.Carry
import Derived.ChangeMaps5
import Derived.ChangeArms
set_option maxRecDepth 100000
set_option maxHeartbeats 64000000
open _root_.Bool renaming true->aH,false->aT,and_eq_true->aW
open _root_.Go renaming World->ay,Value->aA,TypeId->bH,Act->bY,Calls->cu
open Go.IntKind renaming i64->Z
open Go.Lib renaming hid->O,compact->au,compactUpTo->aL
open Go.Obj renaming cells->aI
open Go.Proofs.Tryz renaming prog->aN,results37->bf,underlying49->bR,sortI->bZ,cptI->cB
open Go.Region renaming binds->aF
open Go.RowKit renaming Below->aS
open Go.Sort renaming ahead->aJ
open Go.Value renaming slice->J,int->U,pointer->aR,bool->bg,agg->cK
open _root_.List renaming getElem?_cons_zero->aj,getElem?_cons_succ->ak,getElem?_toArray->aC,getElem?_eq_getElem->aD,getElem?_eq_some_iff->aG,pairwise_iff_getElem->aO,getElem?_map->aP,replicate->aU,mem_cons->aV,mem_iff_getElem?->aY,mem_append_right->aZ,mem_append_left->bF,mem_cons_of_mem->bG,filter_eq_self->bI,getElem?_take->bJ,mem_singleton->bK,length_append->bL,pairwise_cons->bM,filter_cons->bS,all_eq_true->bU,length_map->bV,mem_range->bW
open _root_.Nat renaming le_trans->aK,le_refl->aM,le_of_lt->aQ,lt_or_ge->aX,mul_le_mul_right->bq,lt_of_lt_of_le->bN
open _root_.Option renaming none->ah,some->aB
namespace Go.Proofs.YtmklifheakemeaaGreat
namespace Av
open Go.RowKit Go.Sort Rw YtmklifheakemeaaGreat.Nm Pr Bk
def iD (b:Br) (x:fB) (f:Int):Br×Bool:=match fT b.dV x with
 | none=>(b,aT)
 | some a=>if a.par=f then ({ b with dV:=b.dV.filter fun e=>decide (e.id≠x),ent:=b.ent.filter fun e=>decide (e.tree≠x) },aH) else (b,aT)
theorem Ey {al:List Ad} (hr:qh al) {k:Nat} {a:Ad} {x:fB} (hk:al[k]?=aB a) (hx:a.id=x):al.filter (fun e=>decide (e.id≠x))=cutAt al k:=by
 subst hx;unfold cutAt;have h1:al=al.take k++(a::al.drop (k+1)):=by
  have hlt:=(aG.1 hk).1;have he:=(aG.1 hk).2;rw [<- he,List.getElem_cons_drop,List.take_append_drop]
 conv=>lhs; rw [h1]
 rw [List.filter_append,List.filter_cons_of_neg (by simp)];have hp:=aO.1 hr;have e1:(al.take k).filter (fun e=>decide (e.id≠a.id))=al.take k:=by
  rw [bI];intro y hy;obtain⟨j,hj⟩:=aY.1 hy;have hjl:=(aG.1 hj).1;rw [List.length_take] at hjl;rw [List.getElem?_take_of_lt (by omega)] at hj;have:=ko hr (show j<k by omega) hj hk;refine decide_eq_true fun e=>?_;rw [e,jf] at this;cases this
 have e2:(al.drop (k+1)).filter (fun e=>decide (e.id≠a.id))=al.drop (k+1):=by
  rw [bI];intro y hy;obtain⟨j,hj⟩:=aY.1 hy;rw [List.getElem?_drop] at hj;have:=ko hr (show k<k+1+j by omega) hk hj;refine decide_eq_true fun e=>?_;rw [e,jf] at this;cases this
 rw [e1,e2]
theorem Ez {b:Br} (hr:qh b.dV) (x:fB) (f:Int):iD b x f=uM b x f:=by
 unfold iD uM;by_cases h:fE (b.dV.map Ad.id) x=-1
 ·have hn:fT b.dV x=ah:=qB fun j a hj=>pE (key:=Ad.id) h j a hj;rw [hn];cases b.dV[(fE (b.dV.map Ad.id) x).toNat]? with
  | none=>rfl
  | some a=>simp only; rw [if_pos h]
 ·obtain⟨k,hk⟩:∃ k:Nat,fE (b.dV.map Ad.id) x=k:=⟨(fE (b.dV.map Ad.id) x).toNat,by have:=lC (b.dV.map Ad.id) x; omega⟩;obtain⟨g1,g2⟩:=mP hk;rw [aP] at g1;cases ha:b.dV[k]? with
  | none=>rw [ha] at g1; cases g1
  | some a =>
   rw [ha] at g1;have hx:a.id=x:=Option.some.inj g1;have hf:fT b.dV x=aB a:=oq ha hx fun j z hj hz=>g2 j z.id hj (by rw [aP,hz]; rfl);rw [hf,hk,Int.toNat_natCast,ha];simp only;rw [if_neg (show ¬ ((k:Int)=-1) by omega)]
   split
   ·rw [Ey hr ha hx]
   ·rfl
theorem qV {α β:Type} {R:α->β->Prop} (p:α->Bool) (q:β->Bool):∀ {l:List α} {m:List β},eZ R l m->(∀ a b,R a b->p a=q b)->eZ R (l.filter p) (m.filter q)
 | _,_,.nil,_=>.nil
 | _,_,.cons (a:=a) (b:=b) x t,h=>by
  have e:=h a b x;rw [bS,bS,e];cases q b
  ·exact qV p q t h
  ·exact .cons x (qV p q t h)
theorem EG (b:Br) (x:fB) (f:Int) (nv av sv ev ov:Sl) (w:ay) (h:lS w b nv av sv ev ov) (hf:Kn b) (hp:uF b) :
  cu aN 37 #[lN b.me nv av sv ev ov,nU x,U Z f] w (zQ w (kX w nv b.near) (lY w b nv av sv ev ov) (iD b x f)):=by
 obtain⟨no,nn,nc⟩:=nv;obtain⟨ao,an,ac⟩:=av;obtain⟨so,sn,sc⟩:=sv;obtain⟨eo,en,ec⟩:=ev;obtain⟨oo,gI,oc⟩:=ov;obtain⟨c,d⟩:=x;obtain⟨h0,h1,h2⟩:=gT w #[U Z b.me,J no nn nc,J ao an ac,J so sn sc,J eo en ec,J oo gI oc] #[U Z c,U Z d] 28 31;have h3:=gM ((w.alloc (aI #[U Z b.me,J no nn nc,J ao an ac,J so sn sc,J eo en ec,J oo gI oc] 28)).alloc (aI #[U Z c,U Z d] 31)) (aI #[U Z 0,J ah 0 0,J ah 0 0,J ah 0 0,J ah 0 0,J ah 0 0] 28);have h4:=dL ((w.alloc (aI #[U Z b.me,J no nn nc,J ao an ac,J so sn sc,J eo en ec,J oo gI oc] 28)).alloc (aI #[U Z c,U Z d] 31)) #[U Z 0,J ah 0 0,J ah 0 0,J ah 0 0,J ah 0 0,J ah 0 0] 28;have hsz:((w.alloc (aI #[U Z b.me,J no nn nc,J ao an ac,J so sn sc,J eo en ec,J oo gI oc] 28)).alloc (aI #[U Z c,U Z d] 31)).heap.size=w.heap.size+1+1:=by simp
 rw [hsz] at h4;have BB:=O (h0.trans (h3.mono h0.size));have X1:=O (h1.on h3);have X2:=O (h2.on h3);have X3:=O h4;have HH:=O h;have HF:=O hf;have HP:=O hp;obtain⟨la,ha1,ha2⟩:=h.dV;have SW:=O (Bh b.me (J no nn nc) (J so sn sc) (J eo en ec) (J oo gI oc) (ao,an,ac) la b.dV (c,d) _ (ha1.on BB.out) (ha2.mono fun _ _ q=>q.on BB.out) hp.dV);obtain⟨fa,hfa⟩:∃ fa,fT b.dV (c,d)=fa:=⟨_,rfl⟩;rw [hfa] at SW;have FA:=O hfa;obtain⟨x0,x1,x2,x3,x4,x5⟩:=X1.out.gP;obtain⟨d0,d1⟩:=X2.out.cs2;clear h0 h1 h2 h3 h4 hsz h hf hp hfa ha1 ha2 la;go_enter Tryz.func37,Tryz.ntmps37;go_wp2_with fail;generalize ((w.alloc (aI #[U Z b.me,J no nn nc,J ao an ac,J so sn sc,J eo en ec,J oo gI oc] 28)).alloc (aI #[U Z c,U Z d] 31)).alloc (aI #[U Z 0,J ah 0 0,J ah 0 0,J ah 0 0,J ah 0 0,J ah 0 0] 28)=W at *;refine SW.out.mono ?_;rintro e1 w1 ⟨hq,hb⟩;have B1:=O (BB.out.trans (hb.mono BB.out.size));have Z1:=O (X1.out.on hb);have Z2:=O (X2.out.on hb);have Z3:=O (X3.out.on hb);clear SW hb x0 x1 x2 x3 x4 x5 d0 d1 X1 X2 X3;cases fa with
 | none =>
  have LQ:=O (show iD b (c,d) f=(b,aT) by unfold iD; rw [FA.out]);subst hq;have nb:=gM w1 (aI #[U Z 0,U Z 0,J ah 0 0,U Z 0] 74);have B2:=O (B1.out.trans (nb.mono B1.out.size));have Y1:=Z1.out.on nb;have Y3:=Z3.out.on nb;obtain⟨x0,x1,x2,x3,x4,x5⟩:=Y1.gP;obtain⟨z0,z1,z2,z3,z4,z5⟩:=Y3.gP;obtain⟨t0,t1,t2,t3,t4,t5⟩:=Y3.pO;have zz:=Y3.lt;have FB:=O (dZ Y3 (U Z b.me) (J no nn nc) (J ao an ac) (J so sn sc) (J eo en ec) (J oo gI oc));have FL:=O (dN (b:=w.heap.size+1+1) B2.out (by omega) (U Z b.me) (J no nn nc) (J ao an ac) (J so sn sc) (J eo en ec) (J oo gI oc));clear Y1 Y3 nb;go_wp2_with fail;obtain⟨v0,v1,v2,v3,v4,v5⟩:=FB.out.gP;refine bodyPost_ret (v:=.tuple #[cK #[U Z b.me,J no nn nc,J ao an ac,J so sn sc,J eo en ec,J oo gI oc],bg aT]) (by simp [results,bf,go_sem,v0,v1,v2,v3,v4,v5]) rfl ?_;rw [LQ.out];exact⟨⟨(no,nn,nc),(ao,an,ac),(so,sn,sc),(eo,en,ec),(oo,gI,oc),rfl,HH.out.on FL.out,fun h=>h.on FL.out,fun h=>(h.resolve_right (by simp)).on FL.out⟩,FL.out⟩
 | some a =>
  obtain⟨⟨r1,r2,⟨ro,rn,rc⟩,r4⟩,rfl,hr1,hr2,hr3⟩:=hq;have nb:=gM w1 (aI #[U Z r1,U Z r2,J ro rn rc,U Z r4] 74);have bx:=dL w1 #[U Z r1,U Z r2,J ro rn rc,U Z r4] 74;have b3:=bx.cell 3;have B2:=O (B1.out.trans (nb.mono B1.out.size));have Y1:=Z1.out.on nb;have Y2:=Z2.out.on nb;have Y3:=Z3.out.on nb;have AP:=O (show a.par=r4 from hr2.symm);obtain⟨x0,x1,x2,x3,x4,x5⟩:=Y1.gP;obtain⟨z0,z1,z2,z3,z4,z5⟩:=Y3.gP;obtain⟨t0,t1,t2,t3,t4,t5⟩:=Y3.pO;simp only [aC,aj,ak] at b3;have zz:=Y3.lt;by_cases hpf:r4=f
  ·have LQ:=O (show iD b (c,d) f=({ b with dV:=b.dV.filter fun e=>decide (e.id≠(c,d)),ent:=b.ent.filter fun e=>decide (e.tree≠(c,d)) },aH) by unfold iD; rw [FA.out]; simp only; rw [if_pos (by rw [AP.out]; exact hpf)]);have hne:(r4 != f)=aT:=by simp [hpf]
   have Z1:=O Y1;have Z2:=O Y2;have Z3:=O Y3;have L1:=O Y1.lt;have L3:=O (show w.heap.size+1<(w1.alloc (aI #[U Z r1,U Z r2,J ro rn rc,U Z r4] 74)).heap.size from Y2.lt);clear Y1 Y2 Y3 nb bx z0 z1 z2 z3 z4 z5 t0 t1 t2 t3 t4 t5 zz hr1 hr2 hr3 hpf;go_wp2_with fail;clear b3 x0 x1 x2 x3 x4 x5 hne;generalize w1.alloc (aI #[U Z r1,U Z r2,J ro rn rc,U Z r4] 74)=Vi at *;refine (pz b (no,nn,nc) (ao,an,ac) (so,sn,sc) (eo,en,ec) (oo,gI,oc) w Vi B2.out HH.out HF.out HP.out).mono ?_;rintro e2 w2 ⟨⟨⟨p1,q1,s1⟩,⟨p2,q2,s2⟩,⟨p3,q3,s3⟩,⟨p4,q4,s4⟩,⟨p5,q5,s5⟩,rfl,cp⟩,hb2⟩;have V1:=Z1.out.on hb2;have V2:=O (Z2.out.on hb2);have V3:=O (Z3.out.on hb2);obtain⟨x0,x1,x2,x3,x4,x5⟩:=V1.gP;obtain⟨t0,t1,t2,t3,t4,t5⟩:=V1.pO;have zz:=V1.lt;have FB:=O (dZ V1 (U Z b.me) (J p1 q1 s1) (J p2 q2 s2) (J p3 q3 s3) (J p4 q4 s4) (J p5 q5 s5));have FC:=O (cp.but (fu w2 w.heap.size (U Z b.me) (J p1 q1 s1) (J p2 q2 s2) (J p3 q3 s3) (J p4 q4 s4) (J p5 q5 s5)) V1);have FL:=O (dN (b:=w.heap.size) (B2.out.trans (hb2.mono B2.out.size)) (aM _) (U Z b.me) (J p1 q1 s1) (J p2 q2 s2) (J p3 q3 s3) (J p4 q4 s4) (J p5 q5 s5));have F2:=O ((fu w2 w.heap.size (U Z b.me) (J p1 q1 s1) (J p2 q2 s2) (J p3 q3 s3) (J p4 q4 s4) (J p5 q5 s5)).box V2.out (by omega));have F3:=O ((fu w2 w.heap.size (U Z b.me) (J p1 q1 s1) (J p2 q2 s2) (J p3 q3 s3) (J p4 q4 s4) (J p5 q5 s5)).box V3.out (by omega));have SZ:=O (show Vi.heap.size<=(iF w2 w.heap.size (U Z b.me) (J p1 q1 s1) (J p2 q2 s2) (J p3 q3 s3) (J p4 q4 s4) (J p5 q5 s5)).heap.size by have:=hb2.size; simp; omega);have L2:=O (show w.heap.size<Vi.heap.size from L1.out);clear V1 V2 V3 cp hb2 Z1 Z2 Z3 L1;go_upto_region 5 with fail;clear x0 x1 x2 x3 x4 x5 t0 t1 t2 t3 t4 t5 zz;unfold iF at FB FC FL F2 F3 SZ;generalize ((((((w2).setCell ⟨w.heap.size,0,ah⟩ (U Z b.me)).setCell ⟨w.heap.size,1,ah⟩ (J p1 q1 s1)).setCell ⟨w.heap.size,2,ah⟩ (J p2 q2 s2)).setCell ⟨w.heap.size,3,ah⟩ (J p3 q3 s3)).setCell ⟨w.heap.size,4,ah⟩ (J p4 q4 s4)).setCell ⟨w.heap.size,5,ah⟩ (J p5 q5 s5)=w3 at *;obtain⟨la,JJ,JK⟩:=FC.out.dV;have DL:=O (Mg Vi.heap.size (p2,q2,s2) la (w.heap.size+1) c d w3 JJ F2.out SZ.out);have TG:=O (iO JJ);have HL2:=O JK;have x2:=FB.out.cell 2;simp only [aC,aj,ak] at x2;clear JJ JK;go_wp2_with fail;refine DL.out.mono ?_;rintro e4 w4 ⟨⟨⟨t1,t2,t3⟩,rfl,hown⟩,hbel,hoff⟩;have X8:=O (FC.out.X6 (Vg:=(t1,t2,t3)) (al:=b.dV.filter fun e=>decide (e.id≠(c,d))) hoff ⟨_,hown,qV _ _ (HL2.out.mono fun _ _ q=>q.off hoff TG.out (by decide)) fun y z q=>by
    show decide (jI y≠(c,d))=decide (z.id≠(c,d));rw [show jI y=z.id from q.1]⟩)
   have G1:=hoff.box FB.out TG.out (by decide);have G2:=hoff.box F2.out TG.out (by decide);have G3:=hoff.box F3.out TG.out (by decide);have M1:=O (show dI (w4.setCell ⟨w.heap.size,2,ah⟩ (J t1 t2 t3)) w.heap.size #[U Z b.me,J p1 q1 s1,J t1 t2 t3,J p3 q3 s3,J p4 q4 s4,J p5 q5 s5] 28 by simpa using eD (k:=2) G1 (J t1 t2 t3));have M2:=O ((dM w4 w.heap.size 2 (J t1 t2 t3)).box G2 (by omega));have M3:=O ((dM w4 w.heap.size 2 (J t1 t2 t3)).box G3 (by omega));have MC:=O (X8.out.but (dM w4 w.heap.size 2 (J t1 t2 t3)) G1);have ML:=O (show Below w.heap.size w (w4.setCell ⟨w.heap.size,2,ah⟩ (J t1 t2 t3)) from (FL.out.trans (hbel.mono (aQ L2.out))).setCell (p:=⟨w.heap.size,2,ah⟩) (aM _) _);have MZ:=O (show Vi.heap.size<=(w4.setCell ⟨w.heap.size,2,ah⟩ (J t1 t2 t3)).heap.size by have:=SZ.out; have:=hbel.size; simp; omega);clear x2;have x2:=G1.cell 2;have f2:=G1.fr 2;have zz:=G1.lt;simp only [aC,aj,ak] at x2;clear hown hbel hoff G1 G2 G3 X8 FB FC F2 F3 FL SZ HL2 TG DL la;go_upto_region 6 with fail;clear x2 f2 zz;generalize w4.setCell ⟨w.heap.size,2,ah⟩ (J t1 t2 t3)=w5 at *;obtain⟨le,hle1,hle2⟩:=MC.out.ent
   replace hle2:eZ (vK (vw w) Vi.heap.size w5) le b.ent:=hle2
   have DL:=O (Mi Vi.heap.size (p4,q4,s4) le (w.heap.size+1) c d w5 hle1 M2.out MZ.out);have TG:=O (iO hle1);have HL2:=O hle2;have x4:=M1.out.cell 4;simp only [aC,aj,ak] at x4;clear hle1 hle2;go_wp2_with fail;refine DL.out.mono ?_;rintro e5 w6 ⟨⟨⟨r1,r2,r3⟩,rfl,hown⟩,hbel,hoff⟩;have X9:=O (MC.out.Vh (ev':=(r1,r2,r3)) (el:=b.ent.filter fun e=>decide (e.tree≠(c,d))) hoff ⟨_,hown,qV _ _ (HL2.out.mono fun _ _ q=>q.off hoff TG.out (by decide)) fun y z q=>by
    show decide (qU y≠(c,d))=decide (z.tree≠(c,d));rw [show qU y=z.tree from q.1]⟩)
   have K1:=hoff.box M1.out TG.out (by decide);have K3:=hoff.box M3.out TG.out (by decide);have KL:=ML.out.trans (hbel.mono (aQ L2.out));have U1:=O (show dI (w6.setCell ⟨w.heap.size,4,ah⟩ (J r1 r2 r3)) w.heap.size #[U Z b.me,J p1 q1 s1,J t1 t2 t3,J p3 q3 s3,J r1 r2 r3,J p5 q5 s5] 28 by simpa using eD (k:=4) K1 (J r1 r2 r3));have U3:=O ((dM w6 w.heap.size 4 (J r1 r2 r3)).box K3 (by omega));have UC:=O (X9.out.but (dM w6 w.heap.size 4 (J r1 r2 r3)) K1);have UL:=O (show Below w.heap.size w (w6.setCell ⟨w.heap.size,4,ah⟩ (J r1 r2 r3)) from KL.setCell (p:=⟨w.heap.size,4,ah⟩) (aM _) _);clear x4;have x4:=K1.cell 4;have f4:=K1.fr 4;have zz:=K1.lt;simp only [aC,aj,ak] at x4;clear hown hbel hoff K1 K3 KL X9 MC M1 M2 M3 ML MZ HL2 TG DL le;go_upto_region 7 with fail;clear x4 f4 zz;generalize w6.setCell ⟨w.heap.size,4,ah⟩ (J r1 r2 r3)=w7 at *;have Q1:=U1.out;have Q3:=U3.out;obtain⟨x0,x1,x2,x3,x4,x5⟩:=Q1.gP;obtain⟨z0,z1,z2,z3,z4,z5⟩:=Q3.gP;obtain⟨f0,f1,f2,f3,f4,f5⟩:=Q3.pO;have zz:=Q3.lt;have FB:=O (dZ Q3 (U Z b.me) (J p1 q1 s1) (J t1 t2 t3) (J p3 q3 s3) (J r1 r2 r3) (J p5 q5 s5));have FC:=O (UC.out.but (fu w7 (w.heap.size+1+1) (U Z b.me) (J p1 q1 s1) (J t1 t2 t3) (J p3 q3 s3) (J r1 r2 r3) (J p5 q5 s5)) Q3);have FL:=O (dN (b:=w.heap.size+1+1) UL.out (by omega) (U Z b.me) (J p1 q1 s1) (J t1 t2 t3) (J p3 q3 s3) (J r1 r2 r3) (J p5 q5 s5));clear Q1 Q3 U1 U3 UC UL;go_wp2_with fail;obtain⟨v0,v1,v2,v3,v4,v5⟩:=FB.out.gP;refine bodyPost_ret (v:=.tuple #[cK #[U Z b.me,J p1 q1 s1,J t1 t2 t3,J p3 q3 s3,J r1 r2 r3,J p5 q5 s5],bg aH]) (by simp [results,bf,go_sem,v0,v1,v2,v3,v4,v5]) rfl ?_;rw [LQ.out];exact⟨⟨(p1,q1,s1),(t1,t2,t3),(p3,q3,s3),(r1,r2,r3),(p5,q5,s5),rfl,FC.out.X7,fun _=>⟨_,FC.out.near⟩,fun _=>⟨_,_,FC.out⟩⟩,FL.out⟩
  ·have LQ:=O (show iD b (c,d) f=(b,aT) by unfold iD; rw [FA.out]; simp only; rw [if_neg (by rw [AP.out]; exact hpf)]);have hne:(r4 != f)=aH:=by simp [hpf]
   have FB:=O (dZ Y3 (U Z b.me) (J no nn nc) (J ao an ac) (J so sn sc) (J eo en ec) (J oo gI oc));have FL:=O (dN (b:=w.heap.size+1+1) B2.out (by omega) (U Z b.me) (J no nn nc) (J ao an ac) (J so sn sc) (J eo en ec) (J oo gI oc));clear Y1 Y2 Y3 nb bx hr1 hr2 hr3 hpf;go_wp2_with fail;obtain⟨v0,v1,v2,v3,v4,v5⟩:=FB.out.gP;refine bodyPost_ret (v:=.tuple #[cK #[U Z b.me,J no nn nc,J ao an ac,J so sn sc,J eo en ec,J oo gI oc],bg aT]) (by simp [results,bf,go_sem,v0,v1,v2,v3,v4,v5]) rfl ?_;rw [LQ.out];exact⟨⟨(no,nn,nc),(ao,an,ac),(so,sn,sc),(eo,en,ec),(oo,gI,oc),rfl,HH.out.on FL.out,fun h=>h.on FL.out,fun h=>(h.resolve_right (by simp)).on FL.out⟩,FL.out⟩
theorem Mj {α:Type} [Inhabited α] (enc:α->aA) (d:Array α) (cur:Array aA) (h:d.size<=cur.size):(putCells enc 0 d cur).toList.take d.size=d.toList.map enc:=by
 apply List.ext_getElem?;intro j;rw [bJ];by_cases hj:j<d.size
 ·have hc:j<cur.size:=by omega
  simp [putCells,hj,hc]
 ·simp [hj]
theorem vS {α β:Type} [Inhabited β] {E:Ek α} (K:E.Ok) {w:ay} {B g cap:Nat} {l l':List α} (h:Own E w B (J (aB ⟨g,0,ah⟩) l.length cap) l) (enc:β->aA) (d:Array β) (hd:d.toList.map enc=flat E l') (hl:l'.length=l.length) (n:Nat) (os:Array Obj) :
  Own E (grow (putRow enc (aJ w n) g 0 d) os) B (J (aB ⟨g,0,ah⟩) l.length cap) l'/\w.grownBy (grow (putRow enc (aJ w n) g 0 d) os) (aB g):=by
 have hds:d.size=l.length * E.n:=by
  rw [<- hl,<- dQ K l',<- hd];simp
 rcases gq h with⟨e,_⟩|⟨g',cap',cur,e,h1,h2,h3,h4,h5,h6⟩
 ·cases e
 obtain⟨rfl,rfl⟩:g=g'/\cap=cap':=by simpa using e
 have hlt:=lt_of_heap h2;have hb:(grow (putRow enc (aJ w n) g 0 d) os).heap[g]?=aB (aI (putCells enc 0 d cur) E.t (0,0)):=by
  rw [heap_grow_old _ _ (by simp [putRow,mapBlock,aJ]; exact hlt)];unfold dI at h2;simp only [putRow,mapBlock,aJ,Array.getElem?_modify,if_true,h2]
  rfl
 have hfit:d.size<=cur.size:=by
  rw [hds,h5];exact bq _ h3
 refine⟨⟨by rw [dQ K],Or.inr ⟨g,cap,_,by rw [hl],h1,hb,by rw [hl]; exact h3,h4,by simp [putCells]; exact h5,?_⟩⟩,⟨rfl,rfl,rfl,by simp [putRow,mapBlock,aJ],fun k hk hne=>?_⟩⟩
 ·rw [hl,<- hds,Mj enc d cur hfit,hd]
 ·rw [heap_grow_old _ _ (by simp [putRow,mapBlock,aJ]; exact hk)];have hkg:g≠k:=fun e=>hne (by rw [e]);simp [putRow,mapBlock,aJ,Array.getElem?_modify,hkg]
theorem yQ {α:Type} {E:Ek α} {w:ay} {B g cap:Nat} {l:List α} (K:E.Ok) {β:Type} [Inhabited β] (enc:β->aA) (d:Array β) (hd:d.toList.map enc=flat E l) (h:Own E w B (J (aB ⟨g,0,ah⟩) l.length cap) l):Holds enc w g 0 d/\g<w.heap.size:=by
 rcases gq h with⟨e,_⟩|⟨g',cap',cur,e,h1,h2,h3,h4,h5,h6⟩
 ·cases e
 obtain⟨rfl,rfl⟩:g=g'/\cap=cap':=by simpa using e
 refine⟨fun j hj=>?_,h2.lt⟩;rw [Nat.zero_add];refine⟨?_,h2.fr j⟩;rw [h2.cell j];have hsz:d.size=l.length * E.n:=by
  rw [<- dQ K l,<- hd];simp
 have h7:(cur.toList.take (l.length * E.n))[j]?=(d.toList.map enc)[j]?:=by rw [h6,hd]
 rw [bJ,if_pos (by omega)] at h7;rw [Array.getElem?_toList] at h7;rw [h7,aP,Array.getElem?_toList,getElem!_pos d j hj,Array.getElem?_eq_getElem hj]
 rfl
theorem JL (w:ay) (B:Nat) (v:aA) (l:List Int) (h:uX w B v l) (hlen:l.length<=900):cu aN 33 #[v] w fun e w'=>e=.returned (.tuple #[])/\∃ l':List Int,uX w' B v l'/\l'.Perm l/\l'.Pairwise (·<=·)/\w.grownBy w' v.ownBlock:=by
 rcases gq h with⟨rfl,rfl⟩|⟨g,cap,cur,rfl,h1,h2,h3,h4,h5,h6⟩
 ·have hc:=Any.slices_Sort_int_none bZ ah 0 w;refine Calls.mono hc ?_;rintro e w' ⟨rfl,rfl⟩;exact⟨rfl,[],h,List.Perm.refl _,List.Pairwise.nil,Rw.nD _ _⟩
 ·obtain⟨hh,hlt⟩:=yQ Nm.Qh (U Z) l.toArray (by rw [Af]) h;have hc:=Any.slices_Sort_int bZ g 0 cap l w hh hlt (by omega);refine Calls.mono hc ?_;rintro e w' ⟨rfl,n,os,rfl⟩;have hs:=vS Nm.Qh (l':=l.mergeSort fun x y=>decide (x<=y)) h (U Z) (l.mergeSort fun x y=>decide (x<=y)).toArray (by rw [Af]) (List.length_mergeSort l) n os;refine⟨rfl,_,hs.1,List.mergeSort_perm _ _,?_,hs.2⟩;have hp:=List.pairwise_mergeSort (le:=fun x y:Int=>decide (x<=y)) (fun a b c h1 h2=>by simp at h1 h2 ⊢; omega) (fun a b=>by simp; omega) l;exact hp.imp (fun {a b} hab=>by simpa using hab)
theorem Bp (d:Array Int) (n:Nat) (hs:∀ i j,i<=j->j<n->d[i]!<=d[j]!):∀ m,m<=n->(∀ x∈aL d m,∃ j,j<m/\d[j]! = x)/\(∀ j,j<m->d[j]!∈aL d m)/\(aL d m).Pairwise (·<·)
 | 0,_=>⟨fun x h=>by simp [aL] at h,fun j h=>by omega,by simp [aL]⟩
 | m+1,hm=>by
  obtain⟨h1,h2,h3⟩:=Bp d n hs m (by omega);rw [Lib.compactUpTo_succ];cases hk:Lib.keeps d m with
  | false =>
   simp only [Bool.false_eq_true,if_false,List.append_nil];have hk':m≠0/\d[m]! = d[m-1]!:=by
    have h:=of_decide_eq_false hk;rw [not_or] at h;exact⟨h.1,Classical.not_not.1 h.2⟩
   refine⟨fun x hx=>?_,fun j hj=>?_,h3⟩
   ·obtain⟨j,hj,e⟩:=h1 x hx;exact⟨j,by omega,e⟩
   ·rcases aX j m with h|h
    ·exact h2 j h
    ·obtain rfl:j=m:=by omega
     rw [hk'.2];exact h2 _ (by omega)
  | true =>
   simp only [if_true];have hk':m=0\/d[m]!≠d[m-1]!:=of_decide_eq_true hk;refine⟨fun x hx=>?_,fun j hj=>?_,?_⟩
   ·rcases List.mem_append.1 hx with h|h
    ·obtain⟨j,hj,e⟩:=h1 x h;exact⟨j,by omega,e⟩
    ·exact⟨m,by omega,(bK.1 h).symm⟩
   ·rcases aX j m with h|h
    ·exact bF _ (h2 j h)
    ·obtain rfl:j=m:=by omega
     exact aZ _ (by simp)
   ·rw [List.pairwise_append];refine⟨h3,List.pairwise_singleton _ _,fun a ha b hb=>?_⟩;obtain⟨j,hj,rfl⟩:=h1 a ha;rw [bK.1 hb];have a1:=hs j (m-1) (by omega) (by omega);have a2:=hs (m-1) m (by omega) (by omega);rcases hk' with h|h
    ·omega
    ·omega
theorem EH (l:List Int) (hs:l.Pairwise (·<=·)):(au l).Pairwise (·<·)/\(∀ x,x∈au l↔x∈l)/\(au l).length<=l.length:=by
 have hd:∀ i j,i<=j->j<l.length->l.toArray[i]!<=l.toArray[j]!:=by
  intro i j hij hj;rw [getElem!_pos l.toArray i (by simp; omega),getElem!_pos l.toArray j (by simpa using hj)];rcases aX i j with h|h
  ·have:=aO.1 hs i j (by omega) hj h;simpa using this
  ·obtain rfl:i=j:=by omega
   exact Int.le_refl _
 obtain⟨h1,h2,h3⟩:=Bp l.toArray l.length hd l.length (aM _);refine⟨h3,fun x=>⟨fun hx=>?_,fun hx=>?_⟩,?_⟩
 ·obtain⟨j,hj,rfl⟩:=h1 x hx;rw [getElem!_pos l.toArray j (by simpa using hj)];simp
 ·obtain⟨j,hj,rfl⟩:=List.mem_iff_getElem.1 hx;have:=h2 j hj;rw [getElem!_pos l.toArray j (by simpa using hj)] at this;simpa [au] using this
 ·unfold au aL;rw [bV];exact aK (List.length_filter_le _ _) (by simp)
theorem Mk (w:ay) (B:Nat) (v:Sl) (l:List Int) (h:uX w B (dO v) l) (hs:l.Pairwise (·<=·)) (hlen:l.length<=900):cu aN 34 #[dO v] w fun e w'=>(∃ v':Sl,e=.returned (dO v')/\∃ l':List Int,uX w' B (dO v') l'/\l'.Pairwise (·<·)/\∀ x,x∈l'↔x∈l)/\w.grownBy w' (dO v).ownBlock:=by
 obtain⟨vo,vn,vc⟩:=v;rcases gq h with⟨h0,rfl⟩|⟨g,cap,cur,h0,h1,h2,h3,h4,h5,h6⟩
 ·obtain⟨rfl,rfl,rfl⟩:vo=ah/\vn=0/\vc=0:=by simpa using h0
  have hc:=Any.slices_Compact_int_empty cB ah 0 w;refine Calls.mono hc ?_;rintro e w' ⟨rfl,rfl⟩;exact⟨⟨(ah,0,0),rfl,[],h,List.Pairwise.nil,fun _=>Iff.rfl⟩,Rw.nD _ _⟩
 ·obtain⟨rfl,rfl,rfl⟩:vo=aB ⟨g,0,ah⟩/\vn=l.length/\vc=cap:=by simpa using h0
  obtain⟨hh,hlt⟩:=yQ Nm.Qh (U Z) l.toArray (by rw [Af]) h;have hc:=Any.slices_Compact_int cB g 0 vc l w hh (by omega) h3;obtain⟨c1,c2,c3⟩:=EH l hs;refine Calls.mono hc ?_;rintro e w' ⟨rfl,n,rfl⟩;have ht:=vS Nm.Qh (l':=au l++aU (l.length-(au l).length) 0) h (U Z) (au l++aU (l.length-(au l).length) 0).toArray (by rw [Af]) (by rw [bL,List.length_replicate]; omega) n #[];have hg:grow (putRow (U Z) (aJ w n) g 0 (au l++aU (l.length-(au l).length) 0).toArray) #[]=putRow (U Z) (aJ w n) g 0 (au l++aU (l.length-(au l).length) 0).toArray:=grow_empty _;rw [hg] at ht;refine⟨⟨(aB ⟨g,0,ah⟩,(au l).length,vc),rfl,au l,?_,c1,c2⟩,ht.2⟩;rcases gq ht.1 with⟨e,_⟩|⟨g',cap',cur',e,k1,k2,k3,k4,k5,k6⟩
  ·cases e
  ·obtain⟨rfl,_,rfl⟩:g=g'/\l.length=_/\vc=cap':=by simpa using e
   refine mG Nm.Qh rfl k1 k2 (aK c3 h3) k4 k5 ?_;have k7:=congrArg (List.take ((au l).length * EI.n)) k6;rw [List.take_take,oP Nm.Qh,Nat.min_eq_left (bq _ (by rw [bL]; omega)),List.take_left'] at k7
   ·exact k7
   ·rfl
abbrev R7 (me:Int) (near:List Int):Br:=⟨me,near,[],[],[],[]⟩
theorem Bq (me:Int) (v:Sl) (l:List Int) (w:ay) (hv:uW w (dO v) l) (hl:l.length<=900) :
  cu aN 8 #[U Z me,dO v] w fun e w'=>(∃ (l':List Int) (nv:Sl),e=.returned (lN me nv (ah,0,0) (ah,0,0) (ah,0,0) (ah,0,0))/\lS w' (R7 me l') nv (ah,0,0) (ah,0,0) (ah,0,0) (ah,0,0)/\(∃ B,uX w' B (dO nv) l')/\l'.Pairwise (·<·)/\∀ x,x∈l'↔x∈l)/\Below w.heap.size w w':=by
 have n0:=gM w (aI #[U Z 0,J ah 0 0,J ah 0 0,J ah 0 0,J ah 0 0,J ah 0 0] 28);have X:=O (dL w #[U Z 0,J ah 0 0,J ah 0 0,J ah 0 0,J ah 0 0,J ah 0 0] 28);have C:=O (vg v l _ (hv.on n0) hl);have B0:=O n0;have HL:=O hl;obtain⟨vo,vn,vc⟩:=v;clear hv hl n0;go_enter Tryz.func8,Tryz.ntmps8;go_wp2_with fail;generalize w.alloc (aI #[U Z 0,J ah 0 0,J ah 0 0,J ah 0 0,J ah 0 0,J ah 0 0] 28)=W at *;refine C.out.mono ?_;rintro e1 w1 ⟨⟨⟨p1,p2,p3⟩,rfl,ho⟩,hb⟩;have B1:=O (B0.out.trans (hb.mono B0.out.size));have X1:=O (X.out.on hb);have hlt:w.heap.size<W.heap.size:=X.out.lt;have C2:=O (JL w1 W.heap.size _ l ho HL.out);have OT:=O (fun g hg=>(ho.lt g hg).1);have HW:=O hlt;clear hb ho C X;go_wp2_with fail;refine C2.out.mono ?_;rintro e2 w2 ⟨rfl,l2,ho2,hp2,hs2,hg2⟩;have B2:=O (B1.out.grown hg2 B1.out.size (fun j hj=>aK (aQ HW.out) (OT.out j hj)));have X2:=O (show dI w2 w.heap.size _ _ from (hg2.block _ X1.out.lt (fun e=>by have:=OT.out _ e.symm; have:=HW.out; omega)).trans X1.out);have C3:=O (Mk w2 W.heap.size (p1,p2,p3) l2 ho2 hs2 (by rw [hp2.length_eq]; exact HL.out));have PM:=O hp2;have OT2:=O (fun g hg=>(ho2.lt g hg).1);clear ho2 hp2 hs2 hg2 C2 OT X1;go_wp2_with fail;refine C3.out.mono ?_;rintro e3 w3 ⟨⟨⟨t1,t2,t3⟩,rfl,l3,ho3,hs3,hm3⟩,hg3⟩;have B3:=O (B2.out.grown hg3 B2.out.size (fun j hj=>aK (aQ HW.out) (OT2.out j hj)));have Y:=show dI w3 w.heap.size _ _ from (hg3.block _ X2.out.lt (fun e=>by have:=OT2.out _ e.symm; have:=HW.out; omega)).trans X2.out;obtain⟨y0,y1,y2,y3,y4,y5⟩:=Y.gP;obtain⟨f0,f1,f2,f3,f4,f5⟩:=Y.pO;have zz:=Y.lt;have FB:=O (dZ Y (U Z me) (J t1 t2 t3) (J ah 0 0) (J ah 0 0) (J ah 0 0) (J ah 0 0));have FL:=O (dN (b:=w.heap.size) B3.out (aM _) (U Z me) (J t1 t2 t3) (J ah 0 0) (J ah 0 0) (J ah 0 0) (J ah 0 0));have FO:=O (iQ ho3 w.heap.size HW.out (U Z me) (J t1 t2 t3) (J ah 0 0) (J ah 0 0) (J ah 0 0) (J ah 0 0));have Q:=O (show l3.Pairwise (·<·)/\∀ x,x∈l3↔x∈l from ⟨hs3,fun x=>(hm3 x).trans PM.out.mem_iff⟩);clear ho3 hs3 hm3 hg3 Y X2 C3 B2 B1 B0;go_wp2_with fail;obtain⟨v0,v1,v2,v3,v4,v5⟩:=FB.out.gP;refine bodyPost_ret (v:=cK #[U Z me,J t1 t2 t3,J ah 0 0,J ah 0 0,J ah 0 0,J ah 0 0]) (by simp [results,Tryz.results8,go_sem,v0,v1,v2,v3,v4,v5]) rfl ?_;exact⟨⟨l3,(t1,t2,t3),rfl,⟨Row.dG FO.out,⟨[],kJ _,.nil⟩,kJ _,⟨[],kJ _,.nil⟩,⟨[],kJ _,.nil⟩⟩,⟨_,FO.out⟩,Q.out.1,Q.out.2⟩,FL.out⟩
end Av
namespace Av
open Go.RowKit Rw YtmklifheakemeaaGreat.Nm Pr Wr
theorem Vj (c:Cn) (h:pY c=aH):Js (r5 c)=aH:=by
 obtain⟨n,k⟩:=c;unfold pY at h;rw [aW] at h;obtain⟨h1,h2⟩:=h;have h1':At.kV n=aH:=h1;cases k with
 | rg lo hi =>
  have h3:lo<=hi:=by simpa [gQ] using h2
  have h0:(⟨#[]⟩:ByteArray).size=0:=rfl;simp [r5,Js,kN,iJ,iK,kT,h1',h3,h0]
 | tx t =>
  have h3:t.size<=12:=by simpa [gQ] using h2
  simp [r5,Js,kN,iJ,iK,kT,h1',h3]
 | pr t =>
  have h3:t.size<12:=by simpa [gQ] using h2
  have h4:t.size<=11:=by omega
  simp [r5,Js,kN,iJ,iK,kT,h1',h4]
theorem Bt (l:List C5) (h1:l.Pairwise fun x y=>Op.bytesLess x.1.toList y.1.toList=aH) (h2:l.length<=5) (h3:∀ c∈l,Js c=aH):iG l=aH:=by
 rw [Ep l fun j hj=>?_]
 ·simpa using h2
 unfold Ld;rw [aD hj];simp only [aW];refine⟨h3 _ (List.getElem_mem hj),?_⟩;cases j with
 | zero=>rfl
 | succ j =>
  rw [Bool.or_eq_true];right;rw [Nat.add_sub_cancel,aD (by omega)];exact aO.1 h1 j (j+1) (by omega) hj (by omega)
theorem vT (has vals:List Int):iG ((fZ has vals 7).map r5)=aH:=by
 have h:=Lx has vals;refine Bt _ ?_ (by rw [bV]; exact h.five) fun c hc=>?_
 ·rw [List.pairwise_map];exact h.rise
 ·obtain⟨x,hx,rfl⟩:=List.mem_map.1 hc;exact Vj x (h.good x hx)
end Av
namespace Av
open Go.RowKit Go.Sort Rw YtmklifheakemeaaGreat.Nm Pr Bk
structure mQ (W:ay) (b:Br) (nv av sv ev ov:Sl):Prop where
 br:lS W b nv av sv ev ov
 no:kX W nv b.near
theorem mQ.on {W W':ay} {b:Br} {nv av sv ev ov:Sl} (h:mQ W b nv av sv ev ov) (hb:Below W.heap.size W W'):mQ W' b nv av sv ev ov:=⟨h.br.on hb,h.no.on hb⟩
theorem mQ.keep {W W':ay} {k:Nat} {me:Int} {s1 s2 s3 s4 s5:Sl} {b:Br} {nv av sv ev ov:Sl} (h:mQ W b nv av sv ev ov) (hb:dI W k (jl me s1 s2 s3 s4 s5) 28) (hk:But k W W'):mQ W' b nv av sv ev ov:=by
 obtain⟨B,hn⟩:=h.no;have hn2:uX W' B (dO nv) b.near:=hk.own hn hb (by decide);exact⟨mJ h.br hb hk.1 (Row.dG hn2),B,hn2⟩
theorem sJ:∀ {l m:List Int},l.Pairwise (·<·)->m.Pairwise (·<·)->(∀ x,x∈l↔x∈m)->l=m
 | [],[],_,_,_=>rfl
 | [],y::m,_,_,h=>by have:=(h y).2 (by simp); simp at this
 | x::l,[],_,_,h=>by have:=(h x).1 (by simp); simp at this
 | x::l,y::m,hl,hm,h=>by
  have hl':=bM.1 hl;have hm':=bM.1 hm;have h1:x=y:=by
   rcases aV.1 ((h x).1 (by simp)) with e|e
   ·exact e
   ·rcases aV.1 ((h y).2 (by simp)) with e2|e2
    ·exact e2.symm
    ·have a1:=hm'.1 x e;have a2:=hl'.1 y e2;omega
  subst h1;rw [sJ hl'.2 hm'.2 fun z=>⟨fun hz=>?_,fun hz=>?_⟩]
  ·rcases aV.1 ((h z).1 (bG _ hz)) with e|e
   ·have:=hl'.1 z hz;omega
   ·exact e
  ·rcases aV.1 ((h z).2 (bG _ hz)) with e|e
   ·have:=hm'.1 z hz;omega
   ·exact e
theorem sK {W W':ay} {b:Nat} (h:W.grownBy W' (aB b)):But b W W':=⟨fun k hk hne=>h.block k hk (by simpa using hne),h.size⟩
end Av
namespace Rg
open Go.RowKit Rw
structure R8 (i N A S:Nat) (d last:Nat->Nat) (V:Nat->aA->ay->Prop) (base:bY) (o:Oper) (a:bY) (x:ay):Prop where
 kp:∀ j u,(∀ i,i<N->d i≠j)->base.tmps[j]?=aB u->a.eval (.tmp j)=u
 at_:∀ e∈o.after,aF .any e=aH->e.on≠A->e.on≠S->(last e.on=i\/N<=last e.on)->V e.on (a.eval (.tmp (d e.on))) x
structure InX (l:List Oper) (N A S C:Nat) (d last:Nat->Nat) (V:Nat->aA->ay->Prop) (t:bH) (zero:Array aA) (Kq:aA->Array aA) (base:bY) (W:ay) (L:Array Bool) (a:bY) (x:ay):Prop where
 cl:∀ i o,done L i->l[i]?=aB o->∀ e∈o.after,aF .any e=aH->done L e.on
 no:∀ i,N<=i->¬ done L i
 df:a.defers=base.defers
 sz:a.tmps.size=base.tmps.size
 kp:∀ j,(∀ i,i<N->d i≠j)->a.tmps[j]?=base.tmps[j]?
 qb:aS W.heap.size W x
 val:∃ vs:Nat->aA,∀ i,i<N->i≠S->done L i->a.tmps[d i]?=aB (vs i)/\(i≠A->¬ done L (last i)->V i (vs i) x)
 box:done L A->¬ done L S->∃ bb,a.tmps[d A]?=aB (aR (aB ⟨bb,0,ah⟩))/\W.heap.size<=bb/\dI x bb zero t
 fin:done L S->∃ bb v,a.tmps[d A]?=aB (aR (aB ⟨bb,0,ah⟩))/\a.tmps[d C]?=aB v/\W.heap.size<=bb/\dI x bb (Kq v) t/\V C v x
theorem yR {P:Program} {Q:Exit->bY->ay->Prop} {id:Nat} {base:bY} {W:ay} {l:List Oper} (N A S C:Nat) (d last:Nat->Nat) (V:Nat->aA->ay->Prop) (t:bH) (zero:Array aA) (Kq:aA->Array aA)
  (hm:P.follows .mixedOrders=aH) (hf:Ah l.toArray=aH) (hN:l.length=N) (hA:A<N) (hS:S<N) (hC:C<N) (hAS:A≠S) (hCS:C≠S) (hAC:A≠C) (Yh:N<=last C)
  (hinj:∀ i j,i<N->j<N->i≠S->j≠S->d i=d j->i=j) (hs:∀ i,i<N->d i<base.tmps.size)
  (hV:∀ i v x x',i<N->V i v x->aS x.heap.size x x'->V i v x')
  (hw:∀ o,l[S]?=aB o->(∃ e∈o.after,aF .any e=aH/\e.on=A)/\∃ e∈o.after,aF .any e=aH/\e.on=C)
  (hop:∀ i o,i<N->i≠A->i≠S->l[i]?=aB o->∀ a x,aS W.heap.size W x->R8 i N A S d last V base o a x->∀ K:bY->ay->Prop,(∀ v x',V i v x'->aS x.heap.size x x'->K (a.put (aB (d i)) v) x')->wpOp P l.toArray Q i K a x)
  (hoA:∀ o,l[A]?=aB o->∀ a x,∀ K:bY->ay->Prop,K (a.put (aB (d A)) (aR (aB ⟨x.heap.size,0,ah⟩))) (x.alloc (aI zero t))->wpOp P l.toArray Q A K a x)
  (hoS:∀ o,l[S]?=aB o->∀ a x bb v (D:Nat->Prop),(∀ j oj,D j->l[j]?=aB oj->∀ e∈oj.after,aF .any e=aH->D e.on)->(∀ e∈o.after,aF .any e=aH->D e.on)->aS W.heap.size W x->a.eval (.tmp (d A))=aR (aB ⟨bb,0,ah⟩)->a.eval (.tmp (d C))=v->V C v x->W.heap.size<=bb->dI x bb zero t->∀ K:bY->ay->Prop,(∀ x',aS W.heap.size W x'->dI x' bb (Kq v) t->(∀ j u,j<N->j≠A->j≠S->D j->¬ D (last j)->last j≠S->V j u x->V j u x')->K a x')->wpOp P l.toArray Q S K a x)
  (hend:∀ a x bb v,a.defers=base.defers->a.tmps.size=base.tmps.size->(∀ j,(∀ i,i<N->d i≠j)->a.tmps[j]?=base.tmps[j]?)->a.tmps[d A]?=aB (aR (aB ⟨bb,0,ah⟩))->a.tmps[d C]?=aB v->W.heap.size<=bb->dI x bb (Kq v) t->V C v x->aS W.heap.size W x->(∃ vs:Nat->aA,∀ i,i<N->i≠S->i≠A->a.tmps[d i]?=aB (vs i)/\(N<=last i->V i (vs i) x))->Q .normal a x):(Code.region id l.toArray aH).wp P Q base W:=by
 refine kC (fun L a x=>InX l N A S C d last V t zero Kq base W L a x) hm hf ?_ ?_ ?_
 ·exact⟨fun i o h=>absurd h (fF _ _),fun i _=>fF _ _,rfl,rfl,fun _ _=>rfl,(Below.refl _ _).drew,⟨fun _=>.bool aH,fun i _ _ h=>absurd h (fF _ _)⟩,fun h=>absurd h (fF _ _),fun h=>absurd h (fF _ _)⟩
 ·intro L a x i o hsz I ho hnd jO;have hi:i<l.length:=(aG.1 ho).1;have Qk:i<N:=by omega
  have rV:i<L.size:=by omega
  obtain⟨vs,hvs⟩:=I.val;have hon:∀ e∈o.after,aF .any e=aH->e.on<i:=fun e he hb=>by
   have h7:=bU.1 hf i (bW.2 (by simpa using hi));have ho':(l.toArray)[i]?=aB o:=by simpa using ho
   rw [ho'] at h7;have h8:=Array.all_eq_true'.1 h7 e he;rw [hb] at h8;simpa using h8
  have dd:∀ {k},k≠i->done (L.setIfInBounds i aH) k->done L k:=fun {k} h h5=>((fQ rV k).1 h5).resolve_left h;have du:∀ {k},done L k->done (L.setIfInBounds i aH) k:=fun {k} h=>(fQ rV k).2 (Or.inr h);have cl':∀ k q,done (L.setIfInBounds i aH) k->l[k]?=aB q->∀ e∈q.after,aF .any e=aH->done (L.setIfInBounds i aH) e.on:=fun k q hk hq e he hb=>by
   by_cases e2:k=i
   ·subst e2;rw [hq] at ho;cases ho;exact du (jO e he hb)
   ·exact du (I.cl k q (dd e2 hk) hq e he hb)
  have no':∀ k,N<=k->¬ done (L.setIfInBounds i aH) k:=fun k hk h=>I.no k hk (dd (by omega) h);have seen:R8 i N A S d last V base o a x:=⟨fun j u hj hu=>dH (by rw [I.kp j hj]; exact hu),fun e he hb hA' hS' hl=>by
   obtain⟨h1,h2⟩:=hvs e.on (by have:=hon e he hb; omega) hS' (jO e he hb);rw [dH h1];refine h2 hA' ?_;rcases hl with hl|hl
   ·rw [hl]; exact hnd
   ·exact I.no _ hl⟩
  have Yi:i≠S->∀ v x',aS x.heap.size x x'->(i≠A->V i v x')->(i=A->∃ bb,v=aR (aB ⟨bb,0,ah⟩)/\W.heap.size<=bb/\dI x' bb zero t)->InX l N A S C d last V t zero Kq base W (L.setIfInBounds i aH) (a.put (aB (d i)) v) x':=by
   intro uP v x' hb hpv hpa;have self:(a.put (aB (d i)) v).tmps[d i]?=aB v:=by
    have h5:d i<a.tmps.size:=by rw [I.sz]; exact hs i Qk
    simp [Act.put,h5]
   have keep:∀ k,k<N->k≠S->k≠i->(a.put (aB (d i)) v).tmps[d k]?=a.tmps[d k]?:=fun k hk xP hki=>get_put _ _ _ _ (fun e=>hki (hinj _ _ hk Qk xP uP e));refine⟨cl',no',I.df,by rw [size_put]; exact I.sz,fun j hj=>?_,I.qb.trans (hb.mono I.qb.size),⟨fun k=>if k=i then v else vs k,fun k hk xP hdn=>?_⟩,fun h1 h2=>?_,fun h1=>?_⟩
   ·rw [get_put _ _ _ _ (fun e=>hj i Qk e.symm)];exact I.kp j hj
   ·by_cases e:k=i
    ·subst e;simp only [if_true];exact⟨self,fun h3 _=>hpv h3⟩
    ·simp only [if_neg e];obtain⟨h3,h4⟩:=hvs k hk xP (dd e hdn);exact⟨by rw [keep k hk xP e]; exact h3,fun h5 h6=>hV k _ _ _ hk (h4 h5 (fun h=>h6 (du h))) hb⟩
   ·by_cases e:A=i
    ·subst e;obtain⟨bb,rfl,h4,h5⟩:=hpa rfl;exact⟨bb,self,h4,h5⟩
    ·obtain⟨bb,h3,h4,h5⟩:=I.box (dd e h1) (fun h=>h2 (du h));exact⟨bb,by rw [keep A hA hAS e]; exact h3,h4,h5.on hb⟩
   ·have h2:=dd (Ne.symm uP) h1;obtain⟨bb,u,h5,h6,h7,h8,h9⟩:=I.fin h2;obtain⟨oS,Bu⟩:∃ oS,l[S]?=aB oS:=⟨_,aD (by omega)⟩;obtain⟨⟨ea,k1,k2,k3⟩,ec,k4,k5,k6⟩:=hw oS Bu;have dA:=I.cl S oS h2 Bu ea k1 k2;have dC:=I.cl S oS h2 Bu ec k4 k5;rw [k3] at dA;rw [k6] at dC;have eA:A≠i:=fun e=>hnd (e ▸ dA);have eC:C≠i:=fun e=>hnd (e ▸ dC);exact⟨bb,u,by rw [keep A hA hAS eA]; exact h5,by rw [keep C hC hCS eC]; exact h6,h7,h8.on hb,hV C _ _ _ hC h9 hb⟩
  by_cases uP:i=S
  ·subst uP;obtain⟨⟨ea,h1,h2,h3⟩,ec,h4,h5,h6⟩:=hw o ho;have dA:=jO ea h1 h2;have dC:=jO ec h4 h5;rw [h3] at dA;rw [h6] at dC;obtain⟨v1,v2⟩:=hvs C hC hCS dC;obtain⟨bb,b1,b2,b3⟩:=I.box dA hnd;have vC:=v2 (Ne.symm hAC) (I.no _ Yh);refine hoS o ho a x bb (vs C) (done L) I.cl jO I.qb (dH b1) (dH v1) vC b2 b3 _ (fun x' q1 q2 q3=>⟨cl',no',I.df,I.sz,I.kp,q1,⟨vs,fun k hk xP hdn=>?_⟩,fun _ hn=>absurd ((fQ rV _).2 (Or.inl rfl)) hn,fun _=>⟨bb,vs C,b1,v1,b2,q2,?_⟩⟩)
   ·obtain⟨w1,w2⟩:=hvs k hk xP (dd xP hdn);refine⟨w1,fun hkA hnl=>?_⟩;have n1:last k≠i:=fun e=>hnl ((fQ rV _).2 (Or.inl e));have n2:¬ done L (last k):=fun e=>hnl (du e);exact q3 k _ hk hkA xP (dd xP hdn) n2 n1 (w2 hkA n2)
   ·exact q3 C _ hC (Ne.symm hAC) hCS dC (I.no _ Yh) (by omega) vC
  ·by_cases Vk:i=A
   ·subst Vk;refine hoA o ho a x _ (Yi uP _ _ ((Below.refl _ _).alloc (aM _) _) (fun h=>absurd rfl h) (fun _=>⟨x.heap.size,rfl,I.qb.size,dL x zero t⟩))
   ·refine hop i o Qk Vk uP ho a x I.qb seen _ (fun v x' q1 q2=>Yi uP v x' q2 (fun _=>q1) (fun e=>absurd e Vk))
 ·intro L a x I hd;have dS:=hd S (by omega);obtain⟨bb,v,h1,h2,h3,h4,h5⟩:=I.fin dS;obtain⟨vs,hvs⟩:=I.val;exact hend a x bb v I.df I.sz I.kp h1 h2 h3 h4 h5 I.qb ⟨vs,fun i hi uP Vk=>by
   obtain⟨k1,k2⟩:=hvs i hi uP (hd i (by omega));exact⟨k1,fun hl=>k2 Vk (I.no _ hl)⟩⟩
end Rg
namespace Av
open Go.RowKit Go.Sort Rw YtmklifheakemeaaGreat.Nm Pr Bk
theorem jw {P:Program} (ρ:Operand->aA) (o:Oper) (y:Operand) (k:Nat) (ho:o.op=.extract y k) {c:Array aA} {v:aA} (hx:ρ y=.tuple c) (hv:c[k]?=aB v) (w:ay):(execOp ρ o).run P w=.ok (.value v) w:=by
 simp [execOp,ho,hx,hv,go_sem]
end Av
namespace At
open Go.RowKit Va
abbrev V3:=Bool×Int×ByteArray
/-! ### the publications that numbers make -/
end At
namespace At
open Go.RowKit Go.Sort Va In
end At
namespace Sb
open Go.RowKit Go.Sort Rw YtmklifheakemeaaGreat.Nm Pr Bk Av
abbrev Bv (W:ay) (b:Nat) (a0 a1 a2 a3 a4 a5 a6:aA):ay:=((((((W.setCell ⟨b,0,ah⟩ a0).setCell ⟨b,1,ah⟩ a1).setCell ⟨b,2,ah⟩ a2).setCell ⟨b,3,ah⟩ a3).setCell ⟨b,4,ah⟩ a4).setCell ⟨b,5,ah⟩ a5).setCell ⟨b,6,ah⟩ a6
theorem oD {W:ay} {b:Nat} {t:bH} {z0 z1 z2 z3 z4 z5 z6:aA} (h:dI W b #[z0,z1,z2,z3,z4,z5,z6] t) (a0 a1 a2 a3 a4 a5 a6:aA):dI (Bv W b a0 a1 a2 a3 a4 a5 a6) b #[a0,a1,a2,a3,a4,a5,a6] t:=by
 have h2:=eD (k:=6) (eD (k:=5) (eD (k:=4) (eD (k:=3) (eD (k:=2) (eD (k:=1) (eD (k:=0) h a0) a1) a2) a3) a4) a5) a6;simpa using h2
theorem lG {B:Nat} {W0 W:ay} {b:Nat} (h:Below B W0 W) (hb:B<=b) (a0 a1 a2 a3 a4 a5 a6:aA):Below B W0 (Bv W b a0 a1 a2 a3 a4 a5 a6):=(((((((h).setCell (p:=⟨b,0,ah⟩) hb a0).setCell (p:=⟨b,1,ah⟩) hb a1).setCell (p:=⟨b,2,ah⟩) hb a2).setCell (p:=⟨b,3,ah⟩) hb a3).setCell (p:=⟨b,4,ah⟩) hb a4).setCell (p:=⟨b,5,ah⟩) hb a5).setCell (p:=⟨b,6,ah⟩) hb a6
theorem Bw {α:Type} {E:Ek α} {W:ay} {B:Nat} {v:aA} {l:List α} (h:Own E W B v l) (b:Nat) (hb:b<B) (a0 a1 a2 a3 a4 a5 a6:aA):Own E (Bv W b a0 a1 a2 a3 a4 a5 a6) B v l :=
 eU (eU (eU (eU (eU (eU (eU (h) b 0 a0 hb) b 1 a1 hb) b 2 a2 hb) b 3 a3 hb) b 4 a4 hb) b 5 a5 hb) b 6 a6 hb
theorem Bz (w:ay) (b:Nat) (a0 a1 a2 a3 a4 a5 a6:aA):But b w (Bv w b a0 a1 a2 a3 a4 a5 a6) :=
 ((((((dM _ b _ _).trans (dM _ b _ _)).trans (dM _ b _ _)).trans (dM _ b _ _)).trans (dM _ b _ _)).trans (dM _ b _ _)).trans (dM _ b _ _)
theorem uQ (x:gW) (p:List C5) (w:ay) (hp:eY w (dO x.2.2.2.2.1) p) (hl:p.length<=900) :
  cu aN 76 #[nY x] w fun e w'=>(∃ v':Sl,e=.returned (nY (x.1,x.2.1,x.2.2.1,x.2.2.2.1,v',x.2.2.2.2.2.1,x.2.2.2.2.2.2))/\gG w' w.heap.size (dO v') p)/\Below w.heap.size w w':=by
 obtain⟨y1,y2,y3,y4,⟨s1,s2,s3⟩,y6,y7⟩:=x;obtain⟨h0,X,Y⟩:=gT w #[U Z y1,U Z y2,U Z y3,U Z y4,J s1 s2 s3,U Z y6,bg y7] #[U Z 0,U Z 0,U Z 0,U Z 0,J ah 0 0,U Z 0,bg aT] 66 66;have C:=O (kE (s1,s2,s3) p _ (hp.on h0) hl);have B:=O h0;have x4:=X.cell 4;simp only [aC,aj,ak] at x4;have X:=O X;have Y:=O Y;clear h0 hp hl;go_enter Tryz.func76,Tryz.ntmps76;go_wp2_with fail;generalize (w.alloc (aI #[U Z y1,U Z y2,U Z y3,U Z y4,J s1 s2 s3,U Z y6,bg y7] 66)).alloc (aI #[U Z 0,U Z 0,U Z 0,U Z 0,J ah 0 0,U Z 0,bg aT] 66)=W at *;refine C.out.mono ?_;rintro e w1 ⟨⟨⟨u1,u2,u3⟩,rfl,ho⟩,hb⟩;have X1:=X.out.on hb;have Y1:=Y.out.on hb;have hs:w.heap.size<W.heap.size:=X.out.lt;have O1:=O (eU ho w.heap.size 4 (J u1 u2 u3) hs);have XB:=O (show dI _ _ #[U Z y1,U Z y2,U Z y3,U Z y4,J u1 u2 u3,U Z y6,bg y7] _ from by simpa using eD (k:=4) X1 (J u1 u2 u3));have YB:=O (show dI _ _ _ _ from (RowKit.Below.heap_setCell w1 ⟨w.heap.size,4,ah⟩ (J u1 u2 u3) _ (show w.heap.size+1≠w.heap.size by omega)).trans Y1);have B1:=O ((B.out.trans (hb.mono B.out.size)).setCell (p:=⟨w.heap.size,4,ah⟩) (aM _) (J u1 u2 u3));have y4':=X1.cell 4;have f4:=X1.fr 4;have z4:=X1.lt;simp only [aC,aj,ak] at y4';clear X1 Y1 ho hb x4 C;go_upto_region 2 with fail;clear y4' f4 z4;generalize w1.setCell ⟨w.heap.size,4,ah⟩ (J u1 u2 u3)=w2 at *;obtain⟨x0,x1,x2,x3,x4,x5,x6⟩:=XB.out.mE;obtain⟨r0,r1,r2,r3,r4,r5,r6⟩:=YB.out.mE;obtain⟨t0,t1,t2,t3,t4,t5,t6⟩:=YB.out.RA;have zz:=YB.out.lt;have hs2:w.heap.size+1<W.heap.size:=Y.out.lt;have FB:=O (oD YB.out (U Z y1) (U Z y2) (U Z y3) (U Z y4) (J u1 u2 u3) (U Z y6) (bg y7));have BL:=O (lG (b:=w.heap.size+1) B1.out (by omega) (U Z y1) (U Z y2) (U Z y3) (U Z y4) (J u1 u2 u3) (U Z y6) (bg y7));have FO:=O (Bw O1.out (w.heap.size+1) hs2 (U Z y1) (U Z y2) (U Z y3) (U Z y4) (J u1 u2 u3) (U Z y6) (bg y7));have HS:=O hs;clear hs hs2;go_wp2_with fail;obtain⟨v0,v1,v2,v3,v4,v5,v6⟩:=FB.out.mE;refine bodyPost_ret (v:=cK #[U Z y1,U Z y2,U Z y3,U Z y4,J u1 u2 u3,U Z y6,bg y7]) (by simp [results,Tryz.results76,go_sem,v0,v1,v2,v3,v4,v5,v6]) rfl ?_;exact⟨⟨(u1,u2,u3),rfl,dK FO.out (aQ HS.out)⟩,BL.out⟩
end Sb
namespace Bk
open Go.RowKit Go.Sort Rw YtmklifheakemeaaGreat.Nm Pr
noncomputable def Vl:Code:=((Tryz.f23.body.bind (jA 0)).getD .skip)
theorem Q0 (Q:Exit->bY->ay->Prop) (W:ay) (b2 b3:Nat) (me c d:Int) (y1 y2 y3 y4:aA) (so:Option Addr) (n sc:Nat) (l:List nS) (u0 u1 u2 u5 u6 u7 u9 u10 u11 u12 u13 u14 u15 u16 u17 u18 u19 u20 u21 u22 u23 u24 u25 u26 u27 u28 u29 u30 u31 u32 u33 u34 u35 u36 u37 u38 u39 u40 u41 u42 u43 u44 u45 u46 u47 u48 u49 u50 u51 u52 u53 u54 u55 u56 u57 u58 u59 u60 u61 u62 u63 u64 u65 u66 u67 u68 u69 u70 u71 u72 u73 u74 u75 u76 u77 u78 u79 u80 u81 u82 u83 u84 u85 u86 u87 u88 u89 u90 u91 u92 u93 u94 u95 u96 u97 u98:aA)
  (h2:dI W b2 #[U Z me,y1,y2,y3,y4,J so n sc] 28) (h3:dI W b3 #[U Z c,U Z d] 31) (hs:I9 W (J so n sc) l) (hn:n=l.length) (hm:n<=1000000)
  (hQ:∀ (wr:ay) (v14 v15 v16 v17 v18 v19 v20 v21 v22 v23 v24 v25 v26 v27 v28 v29 v30:aA),Below W.heap.size W wr->Q .normal ⟨(u0::u1::u2::aR (aB ⟨b2,0,ah⟩)::aR (aB ⟨b3,0,ah⟩)::u5::u6::u7::U Z (fU (l.map fun y=>(y.1,y.2.1)) (c,d):Nat)::u9::u10::u11::u12::u13::v14::v15::v16::v17::v18::v19::v20::v21::v22::v23::v24::v25::v26::v27::v28::v29::v30::u31::u32::u33::u34::u35::u36::u37::u38::u39::u40::u41::u42::u43::u44::u45::u46::u47::u48::u49::u50::u51::u52::u53::u54::u55::u56::u57::u58::u59::u60::u61::u62::u63::u64::u65::u66::u67::u68::u69::u70::u71::u72::u73::u74::u75::u76::u77::u78::u79::u80::u81::u82::u83::u84::u85::u86::u87::u88::u89::u90::u91::u92::u93::u94::u95::u96::u97::u98::[]).toArray,[]⟩ wr) :
  Code.wp aN Vl Q ⟨(u0::u1::u2::aR (aB ⟨b2,0,ah⟩)::aR (aB ⟨b3,0,ah⟩)::u5::u6::u7::U Z 0::u9::u10::u11::u12::u13::u14::u15::u16::u17::u18::u19::u20::u21::u22::u23::u24::u25::u26::u27::u28::u29::u30::u31::u32::u33::u34::u35::u36::u37::u38::u39::u40::u41::u42::u43::u44::u45::u46::u47::u48::u49::u50::u51::u52::u53::u54::u55::u56::u57::u58::u59::u60::u61::u62::u63::u64::u65::u66::u67::u68::u69::u70::u71::u72::u73::u74::u75::u76::u77::u78::u79::u80::u81::u82::u83::u84::u85::u86::u87::u88::u89::u90::u91::u92::u93::u94::u95::u96::u97::u98::[]).toArray,[]⟩ W:=by
 have HQ:=O hQ;have H2:=O h2;have H3:=O h3;have HS:=O hs;have HN:=O hn;clear hQ h2 h3 hs hn
 conv=>arg 2; whnf
 go_wp2
 go_loopw [8] (fun i wr=>∃ k:Nat,k<=n/\i=U Z k/\Below W.heap.size W wr/\∀ (j:Nat) (y:Id),j<k->(l.map fun y=>(y.1,y.2.1))[j]?=aB y->dY y (c,d)=aH) (fun i _=>n-(intOf i).toNat)
 case atStart=>exact⟨0,Nat.zero_le _,rfl,Below.refl _ _,fun j y h=>by omega⟩
 case round =>
  obtain⟨k,hk,rfl,hbe,hall⟩:=hrel;have BE:=O hbe;have AL:=O hall;clear hbe hall;have q0:=cell_regrown (show wr.cell? ⟨b2,5,ah⟩=aB (J so n sc) from (H2.out.on BE.out).cell 5);have r0:=cell_regrown (show wr.cell? ⟨b3,0,ah⟩=aB (U Z c) from (H3.out.on BE.out).cell 0);have r1:=cell_regrown (show wr.cell? ⟨b3,1,ah⟩=aB (U Z d) from (H3.out.on BE.out).cell 1);have hw3:IntKind.i64.wrap ((k:Int)+1)=(k:Int)+1:=IntWalk.i64_in _ (by omega);by_cases hlt:k<n
  ·obtain⟨y,hy⟩:∃ y,l[k]?=aB y:=⟨_,aD (by rw [<- HN.out]; exact hlt)⟩;obtain⟨p,ix,px⟩:=elW HS.out rfl HN.out.symm hy;have Ml:=px wr BE.out;obtain⟨y1,y2,⟨yo,yn,yc⟩⟩:=y;simp only at Ml;have p0:=cell_regrown Ml.1;have p1:=cell_regrown Ml.2.1;have DK:decide ((k:Int)<(n:Int))=aH:=decide_eq_true (by omega);have Mq:decide (k<n)=aH:=decide_eq_true hlt;obtain⟨r,hr⟩:∃ r,dY (y1,y2) (c,d)=r:=⟨_,rfl⟩;have LS:=O (fun d' os=>Calls.regrown_of (d:=d') (os:=os) ((uZ (y1,y2) (c,d) (grow (redrawn wr d') os)).mono fun _ _ h=>⟨by rw [h.1,hr],h.2⟩));have HY:=O (show (l.map fun y=>(y.1,y.2.1))[k]?=aB (y1,y2) by rw [aP,hy]; rfl);have HR:=O hr;clear px Ml hy hr;cases r
   ·go_wp2_with fail;refine wp_region_quiet_below (by kernel_rfl) (by kernel_rfl) ?_
    repeat (go_big_quiet_step (first | (with_reducible exact LS.out _ _)))
    refine wpQuiet_nil ?_;intro _ hw';obtain⟨⟨dq,osq⟩,hw''⟩:=hw';subst hw'';have Z6:=below_regrown wr dq osq;have HF:=O (fun v14 v15 v16 v17 v18 v19 v20 v21 v22 v23 v24 v25 v26 v27 v28 v29 v30=>HQ.out (grow (redrawn wr dq) osq) v14 v15 v16 v17 v18 v19 v20 v21 v22 v23 v24 v25 v26 v27 v28 v29 v30 (BE.out.trans (Z6.mono BE.out.size)));rw [vk (l.map fun y=>(y.1,y.2.1)) (c,d) k AL.out (Or.inr ⟨_,HY.out,HR.out⟩)] at HF;clear ix HQ q0 r0 r1 LS DK Mq p0 p1;go_wp2;exact HF.out _ _ _ _ _ _ _ _ _ _ _ _ _ _ _ _ _
   ·go_wp2_with fail;refine wp_region_quiet_below (by kernel_rfl) (by kernel_rfl) ?_
    repeat (go_big_quiet_step (first | (with_reducible exact LS.out _ _)))
    refine wpQuiet_nil ?_;intro _ hw';obtain⟨⟨dq,osq⟩,hw''⟩:=hw';subst hw'';have Z6:=O (below_regrown wr dq osq);clear ix q0 r0 r1 LS DK Mq p0 p1;go_wp2
    go_roundw
    case rel=>exact⟨k+1,by omega,by go_num,BE.out.trans (Z6.out.mono BE.out.size),fun j y' hj h1=>by
     rcases aX j k with h3|h3
     ·exact AL.out j y' h3 h1
     ·obtain rfl:j=k:=by omega
      have e1:=HY.out;rw [h1] at e1;rw [Option.some.inj e1];exact HR.out⟩
    case measure=>simp [intOf]; omega
  ·obtain rfl:k=n:=by omega
   have DK:decide ((k:Int)<(k:Int))=aT:=by simp
   have Mq:decide (k<k)=aT:=by simp
   go_wp2_with fail;refine wp_region_quiet_below (by kernel_rfl) (by kernel_rfl) ?_
   repeat (go_big_quiet_step (fail))
   refine wpQuiet_nil ?_;intro _ hw';obtain⟨⟨dq,osq⟩,hw''⟩:=hw';subst hw'';have Z6:=below_regrown wr dq osq;have HF:=O (fun v14 v15 v16 v17 v18 v19 v20 v21 v22 v23 v24 v25 v26 v27 v28 v29 v30=>HQ.out (grow (redrawn wr dq) osq) v14 v15 v16 v17 v18 v19 v20 v21 v22 v23 v24 v25 v26 v27 v28 v29 v30 (BE.out.trans (Z6.mono BE.out.size)));rw [vk (l.map fun y=>(y.1,y.2.1)) (c,d) k AL.out (Or.inl (by simpa using HN.out))] at HF;clear HQ q0 r0 r1 DK Mq;go_wp2;exact HF.out _ _ _ _ _ _ _ _ _ _ _ _ _ _ _ _ _
end Bk
namespace Ar
open Go.ChangeShapes Go.WideShapes Go.RowKit
def readable (P:Program) (ts:List bH):Bool:=ts.all fun t=>P.readableRec t && decide (t<P.types.size)
theorem carry {H:Type} {enc:bH×aA->H} {P:Program} (hl:laidOutB P=aH) {W W':ay} (hb:aS W.heap.size W W') :
  ∀ (ts:List bH) (vs:List aA) (ds:List (DataW H)) (ps:List MemPlace),readable P ts=aH->DataW.TrodAll enc P W 0 (fun _=>aH) aH ts vs ds ps->(∀ x∈ps,x.block<W.heap.size) ->
   DataW.TrodAll enc P W' 0 (fun b=>decide (b<W.heap.size)) aH ts vs ds ps
 | [],vs,ds,ps,_,h,_=>by
  obtain⟨rfl,rfl,rfl⟩:=trodAll_nil h;exact trodAll_mk0
 | t::ts,vs,ds,ps,hr,h,hlt=>by
  obtain⟨v,vs',d,ds',p,q,rfl,rfl,rfl,h1,h2⟩:=trodAll_cons h;simp only [readable,List.all_cons,aW,decide_eq_true_eq] at hr;exact trodAll_cons_mk (Below.trod hl hr.1.1 hr.1.2 h1 hb (fun x hx=>hlt x (bF _ hx)))
   (carry hl hb ts vs' ds' q hr.2 h2 (fun x hx=>hlt x (aZ _ hx)))
end Ar
namespace Pr
open Go.RowKit Go.ChangeShapes Go.WideShapes In
theorem Mr:Tryz.prog.cellsOf 49=2:=by kernel_rfl
theorem Gz:Tryz.prog.cellsOf 22=1:=by kernel_rfl
theorem IJ {H:Type} {enc:bH×aA->H} {W:ay} {r:Reach} {b0:Nat} {sp:Nat->Bool} {held:Bool} {v:aA} {d:DataW H} {ps:List MemPlace}
  (hval:Value.okWide aN W r b0 49 v) (hd:DataW.Trod enc aN W 0 sp held 49 v d ps) :
  ∃ (hv vv:aA) (has vals:List Int),v=cK #[hv,vv]/\has.length<=maxLen/\vals.length<=maxLen/\gy W hv has/\gy W vv vals:=by
 obtain⟨cs,rfl,hsz⟩:=okWide_struct bR hval;obtain⟨fuel,hf⟩:=hd;obtain⟨xs,n,_,_,_,hxl,hx⟩:=DataW.trod_struct bR hf;rw [Mr] at hsz;obtain⟨l⟩:=cs
 match l,hsz with
 | [c0,c1],_ =>
  have f0:DataW.trod enc aN W 0 sp held n 22 (([c0,c1].drop 0).take (Tryz.prog.cellsOf 22))=xs[0]?:=hx 0 _ rfl;have f1:DataW.trod enc aN W 0 sp held n 22 (([c0,c1].drop 1).take (Tryz.prog.cellsOf 22))=xs[1]?:=hx 1 _ rfl;have adY:xs.length=2:=hxl;simp only [Gz,List.drop_zero,List.drop_succ_cons,List.take_succ_cons,List.take_zero] at f0 f1;rw [aD (by omega)] at f0 f1;obtain⟨has,h1,h2⟩:=uI f0;obtain⟨vals,h3,h4⟩:=uI f1;exact⟨c0,c1,has,vals,rfl,h1,h3,h2,h4⟩
end Pr
namespace Av
open Go.RowKit Go.ChangeShapes Go.WideShapes Bk
end Av
namespace Bk
open Go.RowKit Go.Sort Rw YtmklifheakemeaaGreat.Nm Pr
end Bk
namespace Rg
open Go.RowKit Rw Av
structure R9 (i N S:Nat) (d last:Nat->Nat) (V:Nat->aA->ay->Prop) (base:bY) (o:Oper) (a:bY) (x:ay):Prop where
 kp:∀ j u,(∀ i,i<N->d i≠j)->base.tmps[j]?=aB u->a.eval (.tmp j)=u
 at_:∀ e∈o.after,aF .any e=aH->e.on≠S->(last e.on=i\/N<=last e.on)->V e.on (a.eval (.tmp (d e.on))) x
def Vm (b:Nat) (W x:ay):Prop:=But b W x/\∀ B,B<=b->aS B W x
theorem Vm.grow {b:Nat} {W x x':ay} (h:Vm b W x) (hl:b<W.heap.size) (hb:aS x.heap.size x x'):Vm b W x' :=
 ⟨⟨fun k hk hne=>(hb.block k (bN hk h.1.2)).trans (h.1.1 k hk hne),aK h.1.2 hb.size⟩,fun B hB=>(h.2 B hB).trans (hb.mono (aK (aK hB (aQ hl)) h.1.2))⟩
structure InY (l:List Oper) (N S C:Nat) (d last:Nat->Nat) (V:Nat->aA->ay->Prop) (t:bH) (bb:Nat) (old:Array aA) (Kq:aA->Array aA) (base:bY) (W:ay) (L:Array Bool) (a:bY) (x:ay):Prop where
 cl:∀ i o,done L i->l[i]?=aB o->∀ e∈o.after,aF .any e=aH->done L e.on
 no:∀ i,N<=i->¬ done L i
 df:a.defers=base.defers
 sz:a.tmps.size=base.tmps.size
 kp:∀ j,(∀ i,i<N->d i≠j)->a.tmps[j]?=base.tmps[j]?
 sto:Vm bb W x
 val:∃ vs:Nat->aA,∀ i,i<N->i≠S->done L i->a.tmps[d i]?=aB (vs i)/\(¬ done L (last i)->V i (vs i) x)
 box:¬ done L S->aS W.heap.size W x/\dI x bb old t
 fin:done L S->∃ v,a.tmps[d C]?=aB v/\dI x bb (Kq v) t/\V C v x
theorem yS {P:Program} {Q:Exit->bY->ay->Prop} {id:Nat} {base:bY} {W:ay} {l:List Oper} (N S C:Nat) (d last:Nat->Nat) (V:Nat->aA->ay->Prop) (fl:Nat->Bool) (t:bH) (bb:Nat) (old:Array aA) (Kq:aA->Array aA)
  (hm:P.follows .mixedOrders=aH) (hf:Ah l.toArray=aH) (hN:l.length=N) (hS:S<N) (hC:C<N) (hCS:C≠S) (Yh:N<=last C) (jC:dI W bb old t)
  (hinj:∀ i j,i<N->j<N->i≠S->j≠S->d i=d j->i=j) (hs:∀ i,i<N->i≠S->d i<base.tmps.size)
  (hV:∀ i v x x',i<N->V i v x->aS x.heap.size x x'->V i v x')
  (hfl:∀ o,l[S]?=aB o->∀ i,i<N->i≠S->fl i=aT->∃ e∈o.after,aF .any e=aH/\e.on=i) (Yj:fl C=aT)
  (hop:∀ i o,i<N->i≠S->l[i]?=aB o->∀ a x,(fl i=aT->aS W.heap.size W x/\dI x bb old t)->R9 i N S d last V base o a x->∀ K:bY->ay->Prop,(∀ v x',V i v x'->aS x.heap.size x x'->K (a.put (aB (d i)) v) x')->wpOp P l.toArray Q i K a x)
  (hoS:∀ o,l[S]?=aB o->∀ a x v,aS W.heap.size W x->dI x bb old t->a.eval (.tmp (d C))=v->V C v x->(∀ j u,base.tmps[j]?=aB u->(∀ i,i<N->d i≠j)->a.eval (.tmp j)=u)->∀ K:bY->ay->Prop,(∀ x',But bb x x'->(∀ B w,B<=bb->aS B w x->aS B w x')->dI x' bb (Kq v) t->(∀ j u,j<N->j≠S->N<=last j->V j u x->V j u x')->K a x')->wpOp P l.toArray Q S K a x)
  (hlast:∀ j,j<N->j≠S->N<=last j\/(last j<N/\last j≠S/\fl (last j)=aT))
  (hend:∀ a x v,a.defers=base.defers->a.tmps.size=base.tmps.size->(∀ j,(∀ i,i<N->d i≠j)->a.tmps[j]?=base.tmps[j]?)->a.tmps[d C]?=aB v->dI x bb (Kq v) t->V C v x->Vm bb W x->(∃ vs:Nat->aA,∀ i,i<N->i≠S->a.tmps[d i]?=aB (vs i)/\(N<=last i->V i (vs i) x))->Q .normal a x):(Code.region id l.toArray aH).wp P Q base W:=by
 have hbl:bb<W.heap.size:=jC.lt;refine kC (fun L a x=>InY l N S C d last V t bb old Kq base W L a x) hm hf ?_ ?_ ?_
 ·exact⟨fun i o h=>absurd h (fF _ _),fun i _=>fF _ _,rfl,rfl,fun _ _=>rfl,⟨⟨fun _ _ _=>rfl,aM _⟩,fun B hB=>(Below.refl _ _).drew⟩,⟨fun _=>.bool aH,fun i _ _ h=>absurd h (fF _ _)⟩,fun _=>⟨(Below.refl _ _).drew,jC⟩,fun h=>absurd h (fF _ _)⟩
 ·intro L a x i o hsz I ho hnd jO;have hi:i<l.length:=(aG.1 ho).1;have Qk:i<N:=by omega
  have rV:i<L.size:=by omega
  obtain⟨vs,hvs⟩:=I.val;obtain⟨oS,Bu⟩:∃ oS,l[S]?=aB oS:=⟨_,aD (by omega)⟩;have hon:∀ e∈o.after,aF .any e=aH->e.on<i:=fun e he hb=>by
   have h7:=bU.1 hf i (bW.2 (by simpa using hi));have ho':(l.toArray)[i]?=aB o:=by simpa using ho
   rw [ho'] at h7;have h8:=Array.all_eq_true'.1 h7 e he;rw [hb] at h8;simpa using h8
  have dd:∀ {k},k≠i->done (L.setIfInBounds i aH) k->done L k:=fun {k} h h5=>((fQ rV k).1 h5).resolve_left h;have du:∀ {k},done L k->done (L.setIfInBounds i aH) k:=fun {k} h=>(fQ rV k).2 (Or.inr h);have cl':∀ k q,done (L.setIfInBounds i aH) k->l[k]?=aB q->∀ e∈q.after,aF .any e=aH->done (L.setIfInBounds i aH) e.on:=fun k q hk hq e he hb=>by
   by_cases e2:k=i
   ·subst e2;rw [hq] at ho;cases ho;exact du (jO e he hb)
   ·exact du (I.cl k q (dd e2 hk) hq e he hb)
  have no':∀ k,N<=k->¬ done (L.setIfInBounds i aH) k:=fun k hk h=>I.no k hk (dd (by omega) h);have early:∀ k,k<N->k≠S->fl k=aT->¬ done L k->¬ done L S:=fun k hk xP hfk hnk hdS=>by
   obtain⟨e,h1,h2,h3⟩:=hfl oS Bu k hk xP hfk;exact hnk (h3 ▸ I.cl S oS hdS Bu e h1 h2)
  by_cases uP:i=S
  ·subst uP;have dC:done L C:=by
    obtain⟨e,h1,h2,h3⟩:=hfl o ho C hC hCS Yj;exact h3 ▸ jO e h1 h2
   obtain⟨v1,v2⟩:=hvs C hC hCS dC;have vC:=v2 (I.no _ Yh);obtain⟨b1,b2⟩:=I.box hnd;refine hoS o ho a x (vs C) b1 b2 (dH v1) vC (fun j u hu hj=>dH (by rw [I.kp j hj]; exact hu)) _ (fun x' q1 q2 q3 q4=>⟨cl',no',I.df,I.sz,I.kp,⟨⟨fun k hk hne=>(q1.1 k (bN hk b1.size) hne).trans (I.sto.1.1 k hk hne),aK b1.size q1.2⟩,fun B hB=>q2 B W hB (I.sto.2 B hB)⟩,⟨vs,fun k hk xP hdn=>?_⟩,fun hn=>absurd ((fQ rV _).2 (Or.inl rfl)) hn,fun _=>⟨vs C,v1,q3,?_⟩⟩)
   ·obtain⟨w1,w2⟩:=hvs k hk xP (dd xP hdn);refine⟨w1,fun hnl=>?_⟩;rcases hlast k hk xP with h5|⟨h5,h6,h7⟩
    ·exact q4 k _ hk xP h5 (w2 (I.no _ h5))
    ·exfalso;obtain⟨e,g1,g2,g3⟩:=hfl o ho (last k) h5 h6 h7;exact hnl (du (g3 ▸ jO e g1 g2))
   ·exact q4 C _ hC hCS Yh vC
  ·have seen:R9 i N S d last V base o a x:=⟨fun j u hj hu=>dH (by rw [I.kp j hj]; exact hu),fun e he hb hS' hl=>by
    obtain⟨h1,h2⟩:=hvs e.on (by have:=hon e he hb; omega) hS' (jO e he hb);rw [dH h1];refine h2 ?_;rcases hl with hl|hl
    ·rw [hl]; exact hnd
    ·exact I.no _ hl⟩
   refine hop i o Qk uP ho a x (fun hfi=>I.box (early i Qk uP hfi hnd)) seen _ (fun v x' hpv hb=>?_);have self:(a.put (aB (d i)) v).tmps[d i]?=aB v:=by
    have h5:d i<a.tmps.size:=by rw [I.sz]; exact hs i Qk uP
    simp [Act.put,h5]
   have keep:∀ k,k<N->k≠S->k≠i->(a.put (aB (d i)) v).tmps[d k]?=a.tmps[d k]?:=fun k hk xP hki=>get_put _ _ _ _ (fun e=>hki (hinj _ _ hk Qk xP uP e));refine⟨cl',no',I.df,by rw [size_put]; exact I.sz,fun j hj=>?_,I.sto.grow hbl hb,⟨fun k=>if k=i then v else vs k,fun k hk xP hdn=>?_⟩,fun h2=>?_,fun h1=>?_⟩
   ·rw [get_put _ _ _ _ (fun e=>hj i Qk e.symm)];exact I.kp j hj
   ·by_cases e:k=i
    ·subst e;simp only [if_true];exact⟨self,fun _=>hpv⟩
    ·simp only [if_neg e];obtain⟨h3,h4⟩:=hvs k hk xP (dd e hdn);exact⟨by rw [keep k hk xP e]; exact h3,fun h6=>hV k _ _ _ hk (h4 (fun h=>h6 (du h))) hb⟩
   ·obtain⟨b1,b2⟩:=I.box (fun h=>h2 (du h));exact⟨b1.trans (hb.mono b1.size),b2.on hb⟩
   ·have h2:=dd (Ne.symm uP) h1;obtain⟨u,h6,h8,h9⟩:=I.fin h2;obtain⟨ec,k4,k5,k6⟩:=hfl oS Bu C hC hCS Yj;have dC:=I.cl S oS h2 Bu ec k4 k5;rw [k6] at dC;have eC:C≠i:=fun e=>hnd (e ▸ dC);exact⟨u,by rw [keep C hC hCS eC]; exact h6,h8.on hb,hV C _ _ _ hC h9 hb⟩
 ·intro L a x I hd;have dS:=hd S (by omega);obtain⟨v,h2,h4,h5⟩:=I.fin dS;obtain⟨vs,hvs⟩:=I.val;exact hend a x v I.df I.sz I.kp h2 h4 h5 I.sto ⟨vs,fun i hi uP=>by
   obtain⟨k1,k2⟩:=hvs i hi uP (hd i (by omega));exact⟨k1,fun hl=>k2 (I.no _ hl)⟩⟩
end Rg
end Go.Proofs.YtmklifheakemeaaGreat
