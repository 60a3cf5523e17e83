/-
  Forget of package ad. Conditions as told.
-/
import Derived.Test.YtmklifheakemeaaGreatfe022
import Derived.Test.YtmklifheakemeaaGreatfe020
import Derived.Test.YtmklifheakemeaaGreatfe021
import Derived.Test.YtmklifheakemeaaGreatfe023
set_option maxRecDepth 100000
set_option maxHeartbeats 64000000
open Go.IntKind renaming i64->aj
open Go.Lib renaming hid->L
open Go.Obj renaming cells->aB
open Go.Operand renaming tmp->ay
open Go.Proofs.Tryz renaming prog->aM,results37->aP
open Go.RowKit.Below renaming refl->ak,heap_setCell->aJ
open Go.Value renaming slice->J,int->ah,pointer->au
open _root_.List renaming getElem?_toArray->U,getElem?_cons_zero->V,getElem?_cons_succ->Z,getElem?_eq_some_iff->aC,getElem?_eq_getElem->aD,pairwise_iff_getElem->aI,getElem?_map->aK,length_take->aL,mem_iff_getElem?->aO,filter_eq_self->aQ,filter_cons->aR
open _root_.Nat renaming le_refl->aF,le_of_lt->aG,le_trans->aS
open _root_.Option renaming none->O,some->aA
open Option.some renaming inj->aN
open _root_.Or renaming inr->aH,inl->aT
namespace Go.Proofs.YtmklifheakemeaaGreat
namespace Av
open Go.RowKit Go.Sort Rw YtmklifheakemeaaGreat.Nm Pr Bk
def gL (b:Br) (x:fC) (f:Int):Br×Bool:=match gD b.dQ x with
 | none=>(b,false)
 | some a=>if a.par=f then ({ b with dQ:=b.dQ.filter fun e=>decide (e.id≠x),ent:=b.ent.filter fun e=>decide (e.tree≠x) },true) else (b,false)
theorem Bg {al:List Ad} (hr:tu al) {k:Nat} {a:Ad} {x:fC} (hk:al[k]?=aA a) (hx:a.id=x):al.filter (fun e=>decide (e.id≠x))=cutAt al k:=by
 subst hx;unfold cutAt;have h1:al=al.take k++(a::al.drop (k+1)):=by
  have hlt:=(aC.1 hk).1;have he:=(aC.1 hk).2;rw [<- he,List.getElem_cons_drop,List.take_append_drop]
 conv=>lhs; rw [h1]
 rw [List.filter_append,List.filter_cons_of_neg (by simp)];have hp:=aI.1 hr;have e1:(al.take k).filter (fun e=>decide (e.id≠a.id))=al.take k:=by
  rw [aQ];intro y hy;obtain⟨j,hj⟩:=aO.1 hy;have hjl:=(aC.1 hj).1;rw [aL] at hjl;rw [List.getElem?_take_of_lt (by omega)] at hj;have:=nH hr (show j<k by omega) hj hk;refine decide_eq_true fun e=>?_;rw [e,lD] at this;cases this
 have e2:(al.drop (k+1)).filter (fun e=>decide (e.id≠a.id))=al.drop (k+1):=by
  rw [aQ];intro y hy;obtain⟨j,hj⟩:=aO.1 hy;rw [List.getElem?_drop] at hj;have:=nH hr (show k<k+1+j by omega) hk hj;refine decide_eq_true fun e=>?_;rw [e,lD] at this;cases this
 rw [e1,e2]
theorem oU {b:Br} (hr:tu b.dQ) (x:fC) (f:Int):gL b x f=gY b x f:=by
 unfold gL gY;by_cases h:fJ (b.dQ.map Ad.id) x=-1
 ·have hn:gD b.dQ x=O:=rY fun j a hj=>uN (key:=Ad.id) h j a hj;rw [hn];cases b.dQ[(fJ (b.dQ.map Ad.id) x).toNat]? with
  | none=>rfl
  | some a=>simp only; rw [if_pos h]
 ·obtain⟨k,hk⟩:∃ k:Nat,fJ (b.dQ.map Ad.id) x=k:=⟨(fJ (b.dQ.map Ad.id) x).toNat,by have:=nG (b.dQ.map Ad.id) x; omega⟩;obtain⟨g1,g2⟩:=qP hk;rw [aK] at g1;cases ha:b.dQ[k]? with
  | none=>rw [ha] at g1; cases g1
  | some a =>
   rw [ha] at g1;have hx:a.id=x:=aN g1;have hf:gD b.dQ x=aA a:=sU ha hx fun j z hj hz=>g2 j z.id hj (by rw [aK,hz]; rfl);rw [hf,hk,Int.toNat_natCast,ha];simp only;rw [if_neg (show ¬ ((k:Int)=-1) by omega)]
   split
   ·rw [Bg hr ha hx]
   ·rfl
theorem wU {α β:Type} {R:α->β->Prop} (p:α->Bool) (q:β->Bool):∀ {l:List α} {m:List β},eP R l m->(∀ a b,R a b->p a=q b)->eP R (l.filter p) (m.filter q)
 | _,_,.nil,_=>.nil
 | _,_,.cons (a:=a) (b:=b) x t,h=>by
  have e:=h a b x;rw [aR,aR,e];cases q b
  ·exact wU p q t h
  ·exact .cons x (wU p q t h)
theorem Lg (b:Br) (x:fC) (f:Int) (nv av sv ev ov:Sl) (w:World) (h:iZ w b nv av sv ev ov) (hf:Rk b) (hp:yD b) :
  Calls aM 37 #[rP b.me nv av sv ev ov,mM x,ah aj f] w (Gf w (om w nv b.near) (qb w b nv av sv ev ov) (gL b x f)):=by
 obtain⟨no,nn,nc⟩:=nv;obtain⟨ao,an,ac⟩:=av;obtain⟨so,sn,sc⟩:=sv;obtain⟨eo,en,ec⟩:=ev;obtain⟨oo,dY,oc⟩:=ov;obtain⟨c,d⟩:=x;obtain⟨h0,h1,h2⟩:=gP w #[ah aj b.me,J no nn nc,J ao an ac,J so sn sc,J eo en ec,J oo dY oc] #[ah aj c,ah aj d] 28 31;have h3:=fM ((w.alloc (aB #[ah aj b.me,J no nn nc,J ao an ac,J so sn sc,J eo en ec,J oo dY oc] 28)).alloc (aB #[ah aj c,ah aj d] 31)) (aB #[ah aj 0,J O 0 0,J O 0 0,J O 0 0,J O 0 0,J O 0 0] 28);have h4:=dJ ((w.alloc (aB #[ah aj b.me,J no nn nc,J ao an ac,J so sn sc,J eo en ec,J oo dY oc] 28)).alloc (aB #[ah aj c,ah aj d] 31)) #[ah aj 0,J O 0 0,J O 0 0,J O 0 0,J O 0 0,J O 0 0] 28;have hsz:((w.alloc (aB #[ah aj b.me,J no nn nc,J ao an ac,J so sn sc,J eo en ec,J oo dY oc] 28)).alloc (aB #[ah aj c,ah aj d] 31)).heap.size=w.heap.size+1+1:=by simp
 rw [hsz] at h4;have BB:=L (h0.trans (h3.mono h0.size));have X1:=L (h1.on h3);have X2:=L (h2.on h3);have X3:=L h4;have HH:=L h;have HF:=L hf;have HP:=L hp;obtain⟨la,ha1,ha2⟩:=h.dQ;have SW:=L (sV b.me (J no nn nc) (J so sn sc) (J eo en ec) (J oo dY oc) (ao,an,ac) la b.dQ (c,d) _ (ha1.on BB.out) (ha2.mono fun _ _ q=>q.on BB.out) hp.dQ);obtain⟨fa,hfa⟩:∃ fa,gD b.dQ (c,d)=fa:=⟨_,rfl⟩;rw [hfa] at SW;have FA:=L hfa;obtain⟨x0,x1,x2,x3,x4,x5⟩:=X1.out.eZ;obtain⟨d0,d1⟩:=X2.out.cs2;clear h0 h1 h2 h3 h4 hsz h hf hp hfa ha1 ha2 la;go_enter Tryz.func37,Tryz.ntmps37;go_wp2_with fail;generalize ((w.alloc (aB #[ah aj b.me,J no nn nc,J ao an ac,J so sn sc,J eo en ec,J oo dY oc] 28)).alloc (aB #[ah aj c,ah aj d] 31)).alloc (aB #[ah aj 0,J O 0 0,J O 0 0,J O 0 0,J O 0 0,J O 0 0] 28)=W at *;refine SW.out.mono ?_;rintro e1 w1 ⟨hq,hb⟩;have B1:=L (BB.out.trans (hb.mono BB.out.size));have Z1:=L (X1.out.on hb);have Z2:=L (X2.out.on hb);have Z3:=L (X3.out.on hb);clear SW hb x0 x1 x2 x3 x4 x5 d0 d1 X1 X2 X3;cases fa with
 | none =>
  have LQ:=L (show gL b (c,d) f=(b,false) by unfold gL; rw [FA.out]);subst hq;have nb:=fM w1 (aB #[ah aj 0,ah aj 0,J O 0 0,ah aj 0] 74);have B2:=L (B1.out.trans (nb.mono B1.out.size));have Y1:=Z1.out.on nb;have Y3:=Z3.out.on nb;obtain⟨x0,x1,x2,x3,x4,x5⟩:=Y1.eZ;obtain⟨z0,z1,z2,z3,z4,z5⟩:=Y3.eZ;obtain⟨t0,t1,t2,t3,t4,t5⟩:=Y3.kL;have zz:=Y3.lt;have FB:=L (dM Y3 (ah aj b.me) (J no nn nc) (J ao an ac) (J so sn sc) (J eo en ec) (J oo dY oc));have FL:=L (dG (b:=w.heap.size+1+1) B2.out (by omega) (ah aj b.me) (J no nn nc) (J ao an ac) (J so sn sc) (J eo en ec) (J oo dY oc));clear Y1 Y3 nb;go_wp2_with fail;obtain⟨v0,v1,v2,v3,v4,v5⟩:=FB.out.eZ;refine bodyPost_ret (v:=.tuple #[.agg #[ah aj b.me,J no nn nc,J ao an ac,J so sn sc,J eo en ec,J oo dY oc],.bool false]) (by simp [results,aP,go_sem,v0,v1,v2,v3,v4,v5]) rfl ?_;rw [LQ.out];exact⟨⟨(no,nn,nc),(ao,an,ac),(so,sn,sc),(eo,en,ec),(oo,dY,oc),rfl,HH.out.on FL.out,fun h=>h.on FL.out,fun h=>(h.resolve_right (by simp)).on FL.out⟩,FL.out⟩
 | some a =>
  obtain⟨⟨r1,r2,⟨ro,rn,rc⟩,r4⟩,rfl,hr1,hr2,hr3⟩:=hq;have nb:=fM w1 (aB #[ah aj r1,ah aj r2,J ro rn rc,ah aj r4] 74);have bx:=dJ w1 #[ah aj r1,ah aj r2,J ro rn rc,ah aj r4] 74;have b3:=bx.cell 3;have B2:=L (B1.out.trans (nb.mono B1.out.size));have Y1:=Z1.out.on nb;have Y2:=Z2.out.on nb;have Y3:=Z3.out.on nb;have AP:=L (show a.par=r4 from hr2.symm);obtain⟨x0,x1,x2,x3,x4,x5⟩:=Y1.eZ;obtain⟨z0,z1,z2,z3,z4,z5⟩:=Y3.eZ;obtain⟨t0,t1,t2,t3,t4,t5⟩:=Y3.kL;simp only [U,V,Z] at b3;have zz:=Y3.lt;by_cases hpf:r4=f
  ·have LQ:=L (show gL b (c,d) f=({ b with dQ:=b.dQ.filter fun e=>decide (e.id≠(c,d)),ent:=b.ent.filter fun e=>decide (e.tree≠(c,d)) },true) by unfold gL; rw [FA.out]; simp only; rw [if_pos (by rw [AP.out]; exact hpf)]);have hne:(r4 != f)=false:=by simp [hpf]
   have Z1:=L Y1;have Z2:=L Y2;have Z3:=L Y3;have L1:=L Y1.lt;have L3:=L (show w.heap.size+1<(w1.alloc (aB #[ah aj r1,ah aj r2,J ro rn rc,ah aj r4] 74)).heap.size from Y2.lt);clear Y1 Y2 Y3 nb bx z0 z1 z2 z3 z4 z5 t0 t1 t2 t3 t4 t5 zz hr1 hr2 hr3 hpf;go_wp2_with fail;clear b3 x0 x1 x2 x3 x4 x5 hne;generalize w1.alloc (aB #[ah aj r1,ah aj r2,J ro rn rc,ah aj r4] 74)=w1a at *;refine (uK b (no,nn,nc) (ao,an,ac) (so,sn,sc) (eo,en,ec) (oo,dY,oc) w w1a B2.out HH.out HF.out HP.out).mono ?_;rintro e2 w2 ⟨⟨⟨p1,q1,s1⟩,⟨p2,q2,s2⟩,⟨p3,q3,s3⟩,⟨p4,q4,s4⟩,⟨p5,q5,s5⟩,rfl,cp⟩,hb2⟩;have V1:=Z1.out.on hb2;have V2:=L (Z2.out.on hb2);have V3:=L (Z3.out.on hb2);obtain⟨x0,x1,x2,x3,x4,x5⟩:=V1.eZ;obtain⟨t0,t1,t2,t3,t4,t5⟩:=V1.kL;have zz:=V1.lt;have FB:=L (dM V1 (ah aj b.me) (J p1 q1 s1) (J p2 q2 s2) (J p3 q3 s3) (J p4 q4 s4) (J p5 q5 s5));have FC:=L (cp.but (eY w2 w.heap.size (ah aj b.me) (J p1 q1 s1) (J p2 q2 s2) (J p3 q3 s3) (J p4 q4 s4) (J p5 q5 s5)) V1);have FL:=L (dG (b:=w.heap.size) (B2.out.trans (hb2.mono B2.out.size)) (aF _) (ah aj b.me) (J p1 q1 s1) (J p2 q2 s2) (J p3 q3 s3) (J p4 q4 s4) (J p5 q5 s5));have F2:=L ((eY w2 w.heap.size (ah aj b.me) (J p1 q1 s1) (J p2 q2 s2) (J p3 q3 s3) (J p4 q4 s4) (J p5 q5 s5)).box V2.out (by omega));have F3:=L ((eY w2 w.heap.size (ah aj b.me) (J p1 q1 s1) (J p2 q2 s2) (J p3 q3 s3) (J p4 q4 s4) (J p5 q5 s5)).box V3.out (by omega));have SZ:=L (show w1a.heap.size<=(gH w2 w.heap.size (ah aj b.me) (J p1 q1 s1) (J p2 q2 s2) (J p3 q3 s3) (J p4 q4 s4) (J p5 q5 s5)).heap.size by have:=hb2.size; simp; omega);have L2:=L (show w.heap.size<w1a.heap.size from L1.out);clear V1 V2 V3 cp hb2 Z1 Z2 Z3 L1;go_upto_region 5 with fail;clear x0 x1 x2 x3 x4 x5 t0 t1 t2 t3 t4 t5 zz;unfold gH at FB FC FL F2 F3 SZ;generalize ((((((w2).setCell ⟨w.heap.size,0,O⟩ (ah aj b.me)).setCell ⟨w.heap.size,1,O⟩ (J p1 q1 s1)).setCell ⟨w.heap.size,2,O⟩ (J p2 q2 s2)).setCell ⟨w.heap.size,3,O⟩ (J p3 q3 s3)).setCell ⟨w.heap.size,4,O⟩ (J p4 q4 s4)).setCell ⟨w.heap.size,5,O⟩ (J p5 q5 s5)=w3 at *;obtain⟨la,Qw,Qx⟩:=FC.out.dQ;have DL:=L (TR w1a.heap.size (p2,q2,s2) la (w.heap.size+1) c d w3 Qw F2.out SZ.out);have TG:=L (jK Qw);have HL2:=L Qx;have x2:=FB.out.cell 2;simp only [U,V,Z] at x2;clear Qw Qx;go_wp2_with fail;refine DL.out.mono ?_;rintro e4 w4 ⟨⟨⟨t1,t2,t3⟩,rfl,hown⟩,hbel,hoff⟩;have CP2:=L (FC.out.aeC (CZ:=(t1,t2,t3)) (al:=b.dQ.filter fun e=>decide (e.id≠(c,d))) hoff ⟨_,hown,wU _ _ (HL2.out.mono fun _ _ q=>q.off hoff TG.out (by decide)) fun y z q=>by
    show decide (lJ y≠(c,d))=decide (z.id≠(c,d));rw [show lJ y=z.id from q.1]⟩)
   have G1:=hoff.box FB.out TG.out (by decide);have G2:=hoff.box F2.out TG.out (by decide);have G3:=hoff.box F3.out TG.out (by decide);have M1:=L (show dK (w4.setCell ⟨w.heap.size,2,O⟩ (J t1 t2 t3)) w.heap.size #[ah aj b.me,J p1 q1 s1,J t1 t2 t3,J p3 q3 s3,J p4 q4 s4,J p5 q5 s5] 28 by simpa using dW (k:=2) G1 (J t1 t2 t3));have M2:=L ((dP w4 w.heap.size 2 (J t1 t2 t3)).box G2 (by omega));have M3:=L ((dP w4 w.heap.size 2 (J t1 t2 t3)).box G3 (by omega));have MC:=L (CP2.out.but (dP w4 w.heap.size 2 (J t1 t2 t3)) G1);have ML:=L (show Below w.heap.size w (w4.setCell ⟨w.heap.size,2,O⟩ (J t1 t2 t3)) from (FL.out.trans (hbel.mono (aG L2.out))).setCell (p:=⟨w.heap.size,2,O⟩) (aF _) _);have MZ:=L (show w1a.heap.size<=(w4.setCell ⟨w.heap.size,2,O⟩ (J t1 t2 t3)).heap.size by have:=SZ.out; have:=hbel.size; simp; omega);clear x2;have x2:=G1.cell 2;have f2:=G1.fr 2;have zz:=G1.lt;simp only [U,V,Z] at x2;clear hown hbel hoff G1 G2 G3 CP2 FB FC F2 F3 FL SZ HL2 TG DL la;go_upto_region 6 with fail;clear x2 f2 zz;generalize w4.setCell ⟨w.heap.size,2,O⟩ (J t1 t2 t3)=w5 at *;obtain⟨le,hle1,hle2⟩:=MC.out.ent
   replace hle2:eP (AJ (vw w) w1a.heap.size w5) le b.ent:=hle2
   have DL:=L (TU w1a.heap.size (p4,q4,s4) le (w.heap.size+1) c d w5 hle1 M2.out MZ.out);have TG:=L (jK hle1);have HL2:=L hle2;have x4:=M1.out.cell 4;simp only [U,V,Z] at x4;clear hle1 hle2;go_wp2_with fail;refine DL.out.mono ?_;rintro e5 w6 ⟨⟨⟨r1,r2,r3⟩,rfl,hown⟩,hbel,hoff⟩;have CP4:=L (MC.out.acQ (ev':=(r1,r2,r3)) (el:=b.ent.filter fun e=>decide (e.tree≠(c,d))) hoff ⟨_,hown,wU _ _ (HL2.out.mono fun _ _ q=>q.off hoff TG.out (by decide)) fun y z q=>by
    show decide (wT y≠(c,d))=decide (z.tree≠(c,d));rw [show wT y=z.tree from q.1]⟩)
   have K1:=hoff.box M1.out TG.out (by decide);have K3:=hoff.box M3.out TG.out (by decide);have KL:=ML.out.trans (hbel.mono (aG L2.out));have U1:=L (show dK (w6.setCell ⟨w.heap.size,4,O⟩ (J r1 r2 r3)) w.heap.size #[ah aj b.me,J p1 q1 s1,J t1 t2 t3,J p3 q3 s3,J r1 r2 r3,J p5 q5 s5] 28 by simpa using dW (k:=4) K1 (J r1 r2 r3));have U3:=L ((dP w6 w.heap.size 4 (J r1 r2 r3)).box K3 (by omega));have UC:=L (CP4.out.but (dP w6 w.heap.size 4 (J r1 r2 r3)) K1);have UL:=L (show Below w.heap.size w (w6.setCell ⟨w.heap.size,4,O⟩ (J r1 r2 r3)) from KL.setCell (p:=⟨w.heap.size,4,O⟩) (aF _) _);clear x4;have x4:=K1.cell 4;have f4:=K1.fr 4;have zz:=K1.lt;simp only [U,V,Z] at x4;clear hown hbel hoff K1 K3 KL CP4 MC M1 M2 M3 ML MZ HL2 TG DL le;go_upto_region 7 with fail;clear x4 f4 zz;generalize w6.setCell ⟨w.heap.size,4,O⟩ (J r1 r2 r3)=w7 at *;have Q1:=U1.out;have Q3:=U3.out;obtain⟨x0,x1,x2,x3,x4,x5⟩:=Q1.eZ;obtain⟨z0,z1,z2,z3,z4,z5⟩:=Q3.eZ;obtain⟨f0,f1,f2,f3,f4,f5⟩:=Q3.kL;have zz:=Q3.lt;have FB:=L (dM Q3 (ah aj b.me) (J p1 q1 s1) (J t1 t2 t3) (J p3 q3 s3) (J r1 r2 r3) (J p5 q5 s5));have FC:=L (UC.out.but (eY w7 (w.heap.size+1+1) (ah aj b.me) (J p1 q1 s1) (J t1 t2 t3) (J p3 q3 s3) (J r1 r2 r3) (J p5 q5 s5)) Q3);have FL:=L (dG (b:=w.heap.size+1+1) UL.out (by omega) (ah aj b.me) (J p1 q1 s1) (J t1 t2 t3) (J p3 q3 s3) (J r1 r2 r3) (J p5 q5 s5));clear Q1 Q3 U1 U3 UC UL;go_wp2_with fail;obtain⟨v0,v1,v2,v3,v4,v5⟩:=FB.out.eZ;refine bodyPost_ret (v:=.tuple #[.agg #[ah aj b.me,J p1 q1 s1,J t1 t2 t3,J p3 q3 s3,J r1 r2 r3,J p5 q5 s5],.bool true]) (by simp [results,aP,go_sem,v0,v1,v2,v3,v4,v5]) rfl ?_;rw [LQ.out];exact⟨⟨(p1,q1,s1),(t1,t2,t3),(p3,q3,s3),(r1,r2,r3),(p5,q5,s5),rfl,FC.out.vbr,fun _=>⟨_,FC.out.near⟩,fun _=>⟨_,_,FC.out⟩⟩,FL.out⟩
  ·have LQ:=L (show gL b (c,d) f=(b,false) by unfold gL; rw [FA.out]; simp only; rw [if_neg (by rw [AP.out]; exact hpf)]);have hne:(r4 != f)=true:=by simp [hpf]
   have FB:=L (dM Y3 (ah aj b.me) (J no nn nc) (J ao an ac) (J so sn sc) (J eo en ec) (J oo dY oc));have FL:=L (dG (b:=w.heap.size+1+1) B2.out (by omega) (ah aj b.me) (J no nn nc) (J ao an ac) (J so sn sc) (J eo en ec) (J oo dY oc));clear Y1 Y2 Y3 nb bx hr1 hr2 hr3 hpf;go_wp2_with fail;obtain⟨v0,v1,v2,v3,v4,v5⟩:=FB.out.eZ;refine bodyPost_ret (v:=.tuple #[.agg #[ah aj b.me,J no nn nc,J ao an ac,J so sn sc,J eo en ec,J oo dY oc],.bool false]) (by simp [results,aP,go_sem,v0,v1,v2,v3,v4,v5]) rfl ?_;rw [LQ.out];exact⟨⟨(no,nn,nc),(ao,an,ac),(so,sn,sc),(eo,en,ec),(oo,dY,oc),rfl,HH.out.on FL.out,fun h=>h.on FL.out,fun h=>(h.resolve_right (by simp)).on FL.out⟩,FL.out⟩
def Bh (b:Br) (e:En):Bool:=match gD b.dQ e.tree with
 | none=>false
 | some a=>!(e.from_ == a.par && !(a.par == -1)) && (kW b.near e.from_ && (!(e.up && a.par == -1) && Wr.jP e.p))
abbrev TY (me:Int) (near:List Int):Br:=⟨me,near,[],[],[],[]⟩
theorem IQ (me:Int) (v:Sl) (l:List Int) (w:World) (hv:qJ w (dU v) l) (hl:l.length<=900) :
  Calls aM 8 #[ah aj me,dU v] w fun e w'=>(∃ (l':List Int) (nv:Sl),e=.returned (rP me nv (O,0,0) (O,0,0) (O,0,0) (O,0,0))/\iZ w' (TY me l') nv (O,0,0) (O,0,0) (O,0,0) (O,0,0)/\(∃ B,zI w' B (dU nv) l')/\l'.Pairwise (·<·)/\∀ x,x∈l'↔x∈l)/\Below w.heap.size w w':=by
 have n0:=fM w (aB #[ah aj 0,J O 0 0,J O 0 0,J O 0 0,J O 0 0,J O 0 0] 28);have X:=L (dJ w #[ah aj 0,J O 0 0,J O 0 0,J O 0 0,J O 0 0,J O 0 0] 28);have C:=L (Ao v l _ (hv.on n0) hl);have B0:=L n0;have HL:=L hl;obtain⟨vo,vn,vc⟩:=v;clear hv hl n0;go_enter Tryz.func8,Tryz.ntmps8;go_wp2_with fail;generalize w.alloc (aB #[ah aj 0,J O 0 0,J O 0 0,J O 0 0,J O 0 0,J O 0 0] 28)=W at *;refine C.out.mono ?_;rintro e1 w1 ⟨⟨⟨p1,p2,p3⟩,rfl,ho⟩,hb⟩;have B1:=L (B0.out.trans (hb.mono B0.out.size));have X1:=L (X.out.on hb);have hlt:w.heap.size<W.heap.size:=X.out.lt;have C2:=L (PW w1 W.heap.size _ l ho HL.out);have OT:=L (fun g hg=>(ho.lt g hg).1);have HW:=L hlt;clear hb ho C X;go_wp2_with fail;refine C2.out.mono ?_;rintro e2 w2 ⟨rfl,l2,ho2,hp2,hs2,hg2⟩;have B2:=L (B1.out.grown hg2 B1.out.size (fun j hj=>aS (aG HW.out) (OT.out j hj)));have X2:=L (show dK w2 w.heap.size _ _ from (hg2.block _ X1.out.lt (fun e=>by have:=OT.out _ e.symm; have:=HW.out; omega)).trans X1.out);have C3:=L (Sg w2 W.heap.size (p1,p2,p3) l2 ho2 hs2 (by rw [hp2.length_eq]; exact HL.out));have PM:=L hp2;have OT2:=L (fun g hg=>(ho2.lt g hg).1);clear ho2 hp2 hs2 hg2 C2 OT X1;go_wp2_with fail;refine C3.out.mono ?_;rintro e3 w3 ⟨⟨⟨t1,t2,t3⟩,rfl,l3,ho3,hs3,hm3⟩,hg3⟩;have B3:=L (B2.out.grown hg3 B2.out.size (fun j hj=>aS (aG HW.out) (OT2.out j hj)));have Y:=show dK w3 w.heap.size _ _ from (hg3.block _ X2.out.lt (fun e=>by have:=OT2.out _ e.symm; have:=HW.out; omega)).trans X2.out;obtain⟨y0,y1,y2,y3,y4,y5⟩:=Y.eZ;obtain⟨f0,f1,f2,f3,f4,f5⟩:=Y.kL;have zz:=Y.lt;have FB:=L (dM Y (ah aj me) (J t1 t2 t3) (J O 0 0) (J O 0 0) (J O 0 0) (J O 0 0));have FL:=L (dG (b:=w.heap.size) B3.out (aF _) (ah aj me) (J t1 t2 t3) (J O 0 0) (J O 0 0) (J O 0 0) (J O 0 0));have FO:=L (fO ho3 w.heap.size HW.out (ah aj me) (J t1 t2 t3) (J O 0 0) (J O 0 0) (J O 0 0) (J O 0 0));have Q:=L (show l3.Pairwise (·<·)/\∀ x,x∈l3↔x∈l from ⟨hs3,fun x=>(hm3 x).trans PM.out.mem_iff⟩);clear ho3 hs3 hm3 hg3 Y X2 C3 B2 B1 B0;go_wp2_with fail;obtain⟨v0,v1,v2,v3,v4,v5⟩:=FB.out.eZ;refine bodyPost_ret (v:=.agg #[ah aj me,J t1 t2 t3,J O 0 0,J O 0 0,J O 0 0,J O 0 0]) (by simp [results,Tryz.results8,go_sem,v0,v1,v2,v3,v4,v5]) rfl ?_;exact⟨⟨l3,(t1,t2,t3),rfl,⟨Row.dH FO.out,⟨[],iL _,.nil⟩,iL _,⟨[],iL _,.nil⟩,⟨[],iL _,.nil⟩⟩,⟨_,FO.out⟩,Q.out.1,Q.out.2⟩,FL.out⟩
end Av
namespace Av
open Go.RowKit Rw YtmklifheakemeaaGreat.Nm Pr Wr
theorem acS (c:Cn) (h:vD c=true):Qi (r5 c)=true:=by
 obtain⟨n,k⟩:=c;unfold vD at h;rw [Bool.and_eq_true] at h;obtain⟨h1,h2⟩:=h;have h1':At.nV n=true:=h1;cases k with
 | rg lo hi =>
  have h3:lo<=hi:=by simpa [iN] using h2
  have h0:(⟨#[]⟩:ByteArray).size=0:=rfl;simp [r5,Qi,kN,jF,jG,kT,h1',h3,h0]
 | tx t =>
  have h3:t.size<=12:=by simpa [iN] using h2
  simp [r5,Qi,kN,jF,jG,kT,h1',h3]
 | pr t =>
  have h3:t.size<12:=by simpa [iN] using h2
  have h4:t.size<=11:=by omega
  simp [r5,Qi,kN,jF,jG,kT,h1',h4]
theorem IU (l:List C5) (h1:l.Pairwise fun x y=>Op.bytesLess x.1.toList y.1.toList=true) (h2:l.length<=5) (h3:∀ c∈l,Qi c=true):jP l=true:=by
 rw [KT l fun j hj=>?_]
 ·simpa using h2
 unfold Td;rw [aD hj];simp only [Bool.and_eq_true];refine⟨h3 _ (List.getElem_mem hj),?_⟩;cases j with
 | zero=>rfl
 | succ j =>
  rw [Bool.or_eq_true];right;rw [Nat.add_sub_cancel,aD (by omega)];exact aI.1 h1 j (j+1) (by omega) hj (by omega)
theorem Lh (has vals:List Int):jP ((qF has vals 7).map r5)=true:=by
 have h:=Tv has vals;refine IU _ ?_ (by rw [List.length_map]; exact h.five) fun c hc=>?_
 ·rw [List.pairwise_map];exact h.rise
 ·obtain⟨x,hx,rfl⟩:=List.mem_map.1 hc;exact acS x (h.good x hx)
end Av
namespace At
open Go.RowKit Go.Sort Va In
end At
namespace Bk
open Go.RowKit Rw YtmklifheakemeaaGreat.Nm Pr
def Gg (B b2 _:Nat) (so:Option Addr) (sn sc at_:Nat) (lo hiv:Value) (z:qM) (lt ld:List qM) (i:Nat) (v:Value) (x:World):Prop :=
 match i with
 | 0=>∃ g,v=J (aA ⟨g,0,O⟩) 0 0/\B<=g/\dK x g #[] 34
 | 1=>v=au (aA ⟨b2,5,O⟩)
 | 2=>v=J so sn sc
 | 3=>v=ah aj (at_:Int)
 | 4=>v=lo
 | 5=>qN x B v lt
 | 6=>v=mM (z.1,z.2.1)
 | 7=>v=dU z.2.2
 | 8=>v=Kn z
 | 9=>qN x B v [z]
 | 10=>qN x B v (lt++[z])
 | 11=>v=au (aA ⟨b2,5,O⟩)
 | 12=>v=J so sn sc
 | 13=>v=ah aj (at_:Int)
 | 14=>v=hiv
 | 15=>qN x B v (lt++[z]++ld)
 | 16=>v=au (aA ⟨b2,5,O⟩)
 | _=>True
noncomputable def T9:Code:=((Tryz.f23.body.bind (eO 6)).getD .skip)
theorem Qy (B b2 b3:Nat) (so:Option Addr) (sn sc at_:Nat) (lo hiv:Value) (z:qM) (lt ld:List qM) (i:Nat) (v:Value) (x x':World) (h:Gg B b2 b3 so sn sc at_ lo hiv z lt ld i v x) (hb:Below x.heap.size x x'):Gg B b2 b3 so sn sc at_ lo hiv z lt ld i v x':=by
 by_cases hi:i<17
 ·rcases (by omega:i=0\/i=1\/i=2\/i=3\/i=4\/i=5\/i=6\/i=7\/i=8\/i=9\/i=10\/i=11\/i=12\/i=13\/i=14\/i=15\/i=16) with rfl|rfl|rfl|rfl|rfl|rfl|rfl|rfl|rfl|rfl|rfl|rfl|rfl|rfl|rfl|rfl|rfl
  ·obtain⟨g,h1,h2,h3⟩:=h;exact⟨g,h1,h2,h3.on hb⟩
  ·exact h
  ·exact h
  ·exact h
  ·exact h
  ·exact dI h hb
  ·exact h
  ·exact h
  ·exact h
  ·exact dI h hb
  ·exact dI h hb
  ·exact h
  ·exact h
  ·exact h
  ·exact h
  ·exact dI h hb
  ·exact h
 ·unfold Gg
  split <;> first | omega | trivial
theorem aae (Q:Exit->Act->World->Prop) (W:World) (b2 b3:Nat) (me:Int) (y1 y2 y3 y4:Value) (so:Option Addr) (sn sc at_:Nat) (l:List qM) (z:qM) (u0 u1 u5 u6 u7 u9 u10 u11 u12 u13 u14 u15 u16 u17 u18 u19 u20 u21 u22 u23 u24 u25 u26 u27 u28 u29 u30 u31 u32 u33 u34 u35 u36 u37 u38 u39 u40 u41 u42 u43 u44 u45 u46 u47 u48 u49 u50 u51 u52 u53 u54 u55 u56 u57 u58 u59 u60 u61 u62 u63 u64 u65 u66 u67 u68 u69 u70 u71 u72 u73 u74 u75 u76 u77 u78 u79 u80 u81 u82 u83 u84 u85 u86 u87 u88 u89 u90 u91 u92 u93 u94 u95 u96 u97 u98:Value)
  (h2:dK W b2 #[ah aj me,y1,y2,y3,y4,J so sn sc] 28) (hx:∀ x,Below W.heap.size W x->∀ j u,(jO (z.1,z.2.1))[j]?=aA u->x.cell? ((⟨b3,0,O⟩:Addr).add j)=aA u) (hs:Pw W (J so sn sc) l) (hat:at_<=l.length) (hlen:l.length<=900)
  (hQ:∀ (x:World) (v47 v48 v49 v50 v51 v52 v53 v54 v55 v56 v57 v58 v59 v60 v61 v62 v63:Value),dK x b2 #[ah aj me,y1,y2,y3,y4,v62] 28->qN x W.heap.size v62 (l.take at_++[z]++l.drop at_)->(∀ B,B<=b2->Below B W x)->(∀ c cs t,c≠b2->dK W c cs t->dK x c cs t)->(∀ k,k<W.heap.size->k≠b2->x.heap[k]?=W.heap[k]?)->Q .normal ⟨(u0::u1::dU z.2.2::au (aA ⟨b2,0,O⟩)::au (aA ⟨b3,0,O⟩)::u5::u6::u7::ah aj (at_:Int)::u9::u10::u11::u12::u13::u14::u15::u16::u17::u18::u19::u20::u21::u22::u23::u24::u25::u26::u27::u28::u29::u30::u31::u32::u33::u34::u35::u36::u37::u38::u39::u40::u41::u42::u43::u44::u45::u46::v47::v48::v49::v50::v51::v52::v53::v54::v55::v56::v57::v58::v59::v60::v61::v62::v63::u64::u65::u66::u67::u68::u69::u70::u71::u72::u73::u74::u75::u76::u77::u78::u79::u80::u81::u82::u83::u84::u85::u86::u87::u88::u89::u90::u91::u92::u93::u94::u95::u96::u97::u98::[]).toArray,[]⟩ x) :
  Code.wp aM T9 Q ⟨(u0::u1::dU z.2.2::au (aA ⟨b2,0,O⟩)::au (aA ⟨b3,0,O⟩)::u5::u6::u7::ah aj (at_:Int)::u9::u10::u11::u12::u13::u14::u15::u16::u17::u18::u19::u20::u21::u22::u23::u24::u25::u26::u27::u28::u29::u30::u31::u32::u33::u34::u35::u36::u37::u38::u39::u40::u41::u42::u43::u44::u45::u46::u47::u48::u49::u50::u51::u52::u53::u54::u55::u56::u57::u58::u59::u60::u61::u62::u63::u64::u65::u66::u67::u68::u69::u70::u71::u72::u73::u74::u75::u76::u77::u78::u79::u80::u81::u82::u83::u84::u85::u86::u87::u88::u89::u90::u91::u92::u93::u94::u95::u96::u97::u98::[]).toArray,[]⟩ W:=by
 have HQ:=L hQ;have H2:=L h2;have LX:=L hx;obtain⟨lo,Dc,wB⟩:=vS okW hs at_ (by omega);obtain⟨hiv,Df,xX⟩:=qp okW hs (at_) hat;have LT:=L (show (l.take at_).length<=1000 by rw [aL]; omega);have Sc:=L (show (l.take at_).length<=900 by rw [aL]; omega);have LD:=L (show (l.drop (at_)).length<=1000 by rw [List.length_drop]; omega);generalize l.take at_=lt at *;generalize l.drop (at_)=ld at *;have SL:=L Dc;have SH:=L Df;have RL:=L wB;have RH:=L xX;clear hQ h2 hx hs Dc Df wB xX hat hlen;have iQ:=Qy W.heap.size b2 b3 so sn sc at_ lo hiv z lt ld;unfold T9
 conv=>arg 2; whnf
 have nd:∀ j,(j<47\/64<=j)->∀ i,i<17->(fun i=>47+i) i≠j:=by
  intro j hj i hi h;simp only at h;omega
 refine Rg.fQ 18 17 (fun i=>47+i) (fun i=>if i=0 then 5 else if i=5 then 10 else if i=9 then 10 else if i=10 then 15 else 17) (Gg W.heap.size b2 b3 so sn sc at_ lo hiv z lt ld) (by kernel_rfl) (by kernel_rfl) rfl (by decide) (fun i j _ _ h=>by have h2:47+i=47+j:=h; omega) (fun i hi=>by show 47+i<99; omega) ?_ (fun _=>Rg.jl 1 (by kernel_rfl)) (fun kk o h1 h2=>by omega) ?_
 ·intro i o hi ho a x D hnd hc hD hb seen K hK;clear HQ;rcases (by omega:i=0\/i=1\/i=2\/i=3\/i=4\/i=5\/i=6\/i=7\/i=8\/i=9\/i=10\/i=11\/i=12\/i=13\/i=14\/i=15\/i=16) with rfl|rfl|rfl|rfl|rfl|rfl|rfl|rfl|rfl|rfl|rfl|rfl|rfl|rfl|rfl|rfl|rfl
  ·cases ho;exact Rg.dD rfl rfl (Rg.iU a.eval _ 26 0 #[] rfl rfl (by simp [go_sem])) (hK (J (aA ⟨x.heap.size,0,O⟩) 0 0) (x.alloc (aB #[] 34)) ⟨x.heap.size,rfl,hb.size,dJ x #[] 34⟩ ((ak _ _).alloc hb.size _) fun j u _ _ _ _ _ h=>iQ j u _ _ h ((ak _ _).alloc (aF _) _))
  ·cases ho;have e3:a.eval (ay 3)=au (aA ⟨b2,0,O⟩):=seen.kp 3 _ (nd 3 (by omega)) rfl;exact Rg.dD rfl rfl (Rg.dR a.eval _ 28 (ay 3) 5 rfl (by rw [e3]; simp [go_sem])) (hK _ _ rfl (ak _ _) fun _ _ _ _ _ _ _ h=>h)
  ·cases ho;have e48:a.eval (ay 48)=au (aA ⟨b2,5,O⟩):=seen.at_ ⟨1,.data⟩ (by simp) rfl (aH (by decide));have y:=(H2.out.on hb).cell 5;simp only [U,V,Z] at y;exact Rg.dD rfl rfl (Rg.dX a.eval _ 26 (ay 48) rfl (by rw [e48]; simp [go_sem,y])) (hK _ _ rfl (ak _ _) fun _ _ _ _ _ _ _ h=>h)
  ·cases ho;have e8:a.eval (ay 8)=ah aj (at_:Int):=seen.kp 8 _ (nd 8 (by omega)) rfl;exact Rg.dD rfl rfl (Rg.gy a.eval _ (ay 8) rfl x) (hK _ _ e8 (ak _ _) fun _ _ _ _ _ _ _ h=>h)
  ·cases ho;have e49:a.eval (ay 49)=J so sn sc:=seen.at_ ⟨2,.data⟩ (by simp) rfl (aH (by decide));have e50:a.eval (ay 50)=ah aj (at_:Int):=seen.at_ ⟨3,.data⟩ (by simp) rfl (aH (by decide));exact Rg.dD rfl rfl (Rg.kF a.eval _ 26 (ay 49) O (aA (ay 50)) O rfl (by show (Instr.sliceAt 26 (a.eval (ay 49)) O (aA (a.eval (ay 50))) O).run aM x=.ok lo x; rw [e49,e50]; exact SL.out x)) (hK _ _ rfl (ak _ _) fun _ _ _ _ _ _ _ h=>h)
  ·cases ho;obtain⟨g,q0,hBg,hbx⟩:=seen.at_ ⟨0,.data⟩ (by simp) rfl (aT rfl);have q0:a.eval (ay 47)=J (aA ⟨g,0,O⟩) 0 0:=q0;have e51:a.eval (ay 51)=lo:=seen.at_ ⟨4,.data⟩ (by simp) rfl (aH (by decide));obtain⟨v',x',r,o',gr⟩:=iY okW W.heap.size hbx hBg (RL.out.on hb) LT.out 26;exact Rg.dD rfl rfl (Rg.fZ a.eval _ (ay 47) (ay 51) 26 rfl q0 e51 r) (hK v' x' o' (gr.mono hb.size) fun j u _ _ _ _ _ h=>iQ j u _ _ h gr)
  ·cases ho;have e4:a.eval (ay 4)=au (aA ⟨b3,0,O⟩):=seen.kp 4 _ (nd 4 (by omega)) rfl;exact Rg.dD rfl rfl (Rg.dX a.eval _ 31 (ay 4) rfl (by rw [e4]; exact Dw x _ (z.1,z.2.1) (LX.out x hb))) (hK _ _ rfl (ak _ _) fun _ _ _ _ _ _ _ h=>h)
  ·cases ho;have e2:a.eval (ay 2)=dU z.2.2:=seen.kp 2 _ (nd 2 (by omega)) rfl;exact Rg.dD rfl rfl (Rg.gy a.eval _ (ay 2) rfl x) (hK _ _ e2 (ak _ _) fun _ _ _ _ _ _ _ h=>h)
  ·cases ho;have e53:a.eval (ay 53)=mM (z.1,z.2.1):=seen.at_ ⟨6,.data⟩ (by simp) rfl (aH (by decide));have e54:a.eval (ay 54)=dU z.2.2:=seen.at_ ⟨7,.data⟩ (by simp) rfl (aH (by decide));exact Rg.dD rfl rfl (Rg.jM a.eval _ 34 #[(0,ay 53),(1,ay 54)] rfl (ps:=#[(0,mM (z.1,z.2.1)),(1,dU z.2.2)]) (by simp only [List.map_toArray,List.map_cons,List.map_nil,e53,e54]) (by simp [go_sem])) (hK _ _ rfl (ak _ _) fun _ _ _ _ _ _ _ h=>h)
  ·cases ho;have e55:a.eval (ay 55)=Kn z:=seen.at_ ⟨8,.data⟩ (by simp) rfl (aH (by decide));have hl:=iF okW x [z] 1 rfl (by simp) (vU z).toArray (by simp [flat,EW]);have hl:qN (x.alloc (aB (vU z).toArray 34)) x.heap.size (J (aA ⟨x.heap.size,0,O⟩) 1 1) [z]:=hl;exact Rg.dD rfl rfl (Rg.iU a.eval _ 26 1 #[(0,ay 55)] rfl (ps:=#[(0,Kn z)]) (by simp [e55]) (by simp [go_sem])) (hK (J (aA ⟨x.heap.size,0,O⟩) 1 1) (x.alloc (aB (vU z).toArray 34)) (dO hl hb.size) ((ak _ _).alloc hb.size _) fun j u _ _ _ _ _ h=>iQ j u _ _ h ((ak _ _).alloc (aF _) _))
  ·cases ho;have o52:qN x W.heap.size (a.eval (ay 52)) (lt):=seen.at_ ⟨5,.data⟩ (by simp) rfl (aT rfl);have o56:qN x W.heap.size (a.eval (ay 56)) ([z]):=seen.at_ ⟨9,.data⟩ (by simp) rfl (aT rfl);have ox:=Row.dH o56;obtain⟨v',x',r,o',gr⟩:=gJ okW W.heap.size o52 ox (by have:=LT.out; omega) (by simp) hb.size 26;exact Rg.dD rfl rfl (Rg.fZ a.eval _ (ay 52) (ay 56) 26 rfl rfl rfl r) (hK v' x' o' ((ak _ x).grown gr hb.size fun j hj=>(o52.lt j hj).1) fun j u hj dj nl nx ni h=>by
    rcases (by omega:j=0\/j=1\/j=2\/j=3\/j=4\/j=5\/j=6\/j=7\/j=8\/j=9\/j=10\/j=11\/j=12\/j=13\/j=14\/j=15\/j=16) with rfl|rfl|rfl|rfl|rfl|rfl|rfl|rfl|rfl|rfl|rfl|rfl|rfl|rfl|rfl|rfl|rfl
    ·exact absurd rfl (fun _:(0:Nat)=0=>nl (hc 5 _ (hD ⟨5,.data⟩ (by simp) rfl) rfl ⟨0,.data⟩ (by simp) rfl |> fun _=>hD ⟨5,.data⟩ (by simp) rfl))
    ·exact h
    ·exact h
    ·exact h
    ·exact h
    ·exact absurd rfl (fun _:(0:Nat)=0=>nx rfl)
    ·exact h
    ·exact h
    ·exact h
    ·exact absurd rfl (fun _:(0:Nat)=0=>nx rfl)
    ·exact absurd rfl (fun _:(0:Nat)=0=>ni rfl)
    ·exact h
    ·exact h
    ·exact h
    ·exact h
    ·exact absurd rfl (fun _:(0:Nat)=0=>hnd (hc 15 _ dj rfl ⟨10,.data⟩ (by simp) rfl))
    ·exact h)
  ·cases ho;have e3:a.eval (ay 3)=au (aA ⟨b2,0,O⟩):=seen.kp 3 _ (nd 3 (by omega)) rfl;exact Rg.dD rfl rfl (Rg.dR a.eval _ 28 (ay 3) 5 rfl (by rw [e3]; simp [go_sem])) (hK _ _ rfl (ak _ _) fun _ _ _ _ _ _ _ h=>h)
  ·cases ho;have e58:a.eval (ay 58)=au (aA ⟨b2,5,O⟩):=seen.at_ ⟨11,.data⟩ (by simp) rfl (aH (by decide));have y:=(H2.out.on hb).cell 5;simp only [U,V,Z] at y;exact Rg.dD rfl rfl (Rg.dX a.eval _ 26 (ay 58) rfl (by rw [e58]; simp [go_sem,y])) (hK _ _ rfl (ak _ _) fun _ _ _ _ _ _ _ h=>h)
  ·cases ho;have e8:a.eval (ay 8)=ah aj (at_:Int):=seen.kp 8 _ (nd 8 (by omega)) rfl;exact Rg.dD rfl rfl (Rg.gy a.eval _ (ay 8) rfl x) (hK _ _ e8 (ak _ _) fun _ _ _ _ _ _ _ h=>h)
  ·cases ho;have e59:a.eval (ay 59)=J so sn sc:=seen.at_ ⟨12,.data⟩ (by simp) rfl (aH (by decide));have e60:a.eval (ay 60)=ah aj (at_:Int):=seen.at_ ⟨13,.data⟩ (by simp) rfl (aH (by decide));exact Rg.dD rfl rfl (Rg.kF a.eval _ 26 (ay 59) (aA (ay 60)) O O rfl (by show (Instr.sliceAt 26 (a.eval (ay 59)) (aA (a.eval (ay 60))) O O).run aM x=.ok hiv x; rw [e59,e60]; exact SH.out x)) (hK _ _ rfl (ak _ _) fun _ _ _ _ _ _ _ h=>h)
  ·cases ho;have o57:qN x W.heap.size (a.eval (ay 57)) ((lt++[z])):=seen.at_ ⟨10,.data⟩ (by simp) rfl (aT rfl);have e61:a.eval (ay 61)=hiv:=seen.at_ ⟨14,.data⟩ (by simp) rfl (aH (by decide));have ox:Pw x (a.eval (ay 61)) ld:=by rw [e61]; exact RH.out.on hb
   obtain⟨v',x',r,o',gr⟩:=gJ okW W.heap.size o57 ox (by have:=Sc.out; rw [List.length_append,List.length_singleton]; omega) LD.out hb.size 26;exact Rg.dD rfl rfl (Rg.fZ a.eval _ (ay 57) (ay 61) 26 rfl rfl rfl r) (hK v' x' o' ((ak _ x).grown gr hb.size fun j hj=>(o57.lt j hj).1) fun j u hj dj nl nx ni h=>by
    rcases (by omega:j=0\/j=1\/j=2\/j=3\/j=4\/j=5\/j=6\/j=7\/j=8\/j=9\/j=10\/j=11\/j=12\/j=13\/j=14\/j=15\/j=16) with rfl|rfl|rfl|rfl|rfl|rfl|rfl|rfl|rfl|rfl|rfl|rfl|rfl|rfl|rfl|rfl|rfl
    ·exact absurd rfl (fun _:(0:Nat)=0=>nl (hc 10 _ (hD ⟨10,.data⟩ (by simp) rfl) rfl ⟨5,.data⟩ (by simp) rfl))
    ·exact h
    ·exact h
    ·exact h
    ·exact h
    ·exact absurd rfl (fun _:(0:Nat)=0=>nl (hD ⟨10,.data⟩ (by simp) rfl))
    ·exact h
    ·exact h
    ·exact h
    ·exact absurd rfl (fun _:(0:Nat)=0=>nl (hD ⟨10,.data⟩ (by simp) rfl))
    ·exact absurd rfl (fun _:(0:Nat)=0=>nx rfl)
    ·exact h
    ·exact h
    ·exact h
    ·exact h
    ·exact absurd rfl (fun _:(0:Nat)=0=>ni rfl)
    ·exact h)
  ·cases ho;have e3:a.eval (ay 3)=au (aA ⟨b2,0,O⟩):=seen.kp 3 _ (nd 3 (by omega)) rfl;exact Rg.dD rfl rfl (Rg.dR a.eval _ 28 (ay 3) 5 rfl (by rw [e3]; simp [go_sem])) (hK _ _ rfl (ak _ _) fun _ _ _ _ _ _ _ h=>h)
 ·intro a w' df sz kp ⟨vs,hv⟩ hb;have gr:a.tmps[62]?=aA (vs 15):=(hv 15 (by omega)).1;have gp:a.tmps[63]?=aA (au (aA ⟨b2,5,O⟩)):=by
   have h:vs 16=au (aA ⟨b2,5,O⟩):=(hv 16 (by omega)).2 (by decide);rw [<- h];exact (hv 16 (by omega)).1
  have oR:qN w' W.heap.size (vs 15) (lt++[z]++ld):=(hv 15 (by omega)).2 (by decide);generalize vs 15=xR at *;obtain⟨ca,cp,eR⟩:=(Row.dH oR).len;have hbx:=H2.out.on hb;have hblt:=H2.out.lt;have c5:=hbx.cell 5;have f5:=hbx.fr 5;simp only [U,V,Z] at c5;have hb1:=dW (k:=5) hbx xR;show Rg.fH _ _ _ 1 17 a w';simp only [Rg.fH];refine Rg.fP 26 (ay 63) (ay 62) rfl rfl rfl rfl (Rg.dN gp) (Rg.dN gr) (w':=w'.setCell ⟨b2,5,O⟩ xR) (by rw [eR]; simp [go_sem,c5,f5]) ?_;have rV:∀ j,(j<47\/64<=j)->a.tmps[j]?=(u0::u1::dU z.2.2::au (aA ⟨b2,0,O⟩)::au (aA ⟨b3,0,O⟩)::u5::u6::u7::ah aj (at_:Int)::u9::u10::u11::u12::u13::u14::u15::u16::u17::u18::u19::u20::u21::u22::u23::u24::u25::u26::u27::u28::u29::u30::u31::u32::u33::u34::u35::u36::u37::u38::u39::u40::u41::u42::u43::u44::u45::u46::u47::u48::u49::u50::u51::u52::u53::u54::u55::u56::u57::u58::u59::u60::u61::u62::u63::u64::u65::u66::u67::u68::u69::u70::u71::u72::u73::u74::u75::u76::u77::u78::u79::u80::u81::u82::u83::u84::u85::u86::u87::u88::u89::u90::u91::u92::u93::u94::u95::u96::u97::u98::[])[j]?:=fun j hj=>(kp j (nd j hj)).trans U;obtain⟨mid,hmid,rfl⟩:=Rg.gI 47 17 df sz (by simp) rV
  match mid,hmid with
  | [v47,v48,v49,v50,v51,v52,v53,v54,v55,v56,v57,v58,v59,v60,v61,v62,v63],_ =>
   have e1:aA v62=aA xR:=gr;obtain rfl:=aN e1;refine HQ.out _ v47 v48 v49 v50 v51 v52 v53 v54 v55 v56 v57 v58 v59 v60 v61 v62 v63 ?_ ?_ ?_ ?_ ?_
   ·simpa using hb1
   ·exact eF oR b2 5 _ hblt
   ·exact fun B hB=>(hb.mono (aG (Nat.lt_of_le_of_lt hB hblt))).setCell hB _
   ·intro c cs t hc hbc;exact (aJ _ _ _ _ hc).trans (hbc.on hb)
   ·intro k hk hne;exact (aJ _ _ _ _ hne).trans (hb.block k hk)
end Bk
namespace Bk
open Go.RowKit Go.Sort Rw YtmklifheakemeaaGreat.Nm Pr
noncomputable def acT:Code:=((Tryz.f23.body.bind (jL 0)).getD .skip)
theorem YO (Q:Exit->Act->World->Prop) (W:World) (b2 b3:Nat) (me c d:Int) (y1 y2 y3 y4:Value) (so:Option Addr) (n sc:Nat) (l:List qM) (u0 u1 u2 u5 u6 u7 u9 u10 u11 u12 u13 u14 u15 u16 u17 u18 u19 u20 u21 u22 u23 u24 u25 u26 u27 u28 u29 u30 u31 u32 u33 u34 u35 u36 u37 u38 u39 u40 u41 u42 u43 u44 u45 u46 u47 u48 u49 u50 u51 u52 u53 u54 u55 u56 u57 u58 u59 u60 u61 u62 u63 u64 u65 u66 u67 u68 u69 u70 u71 u72 u73 u74 u75 u76 u77 u78 u79 u80 u81 u82 u83 u84 u85 u86 u87 u88 u89 u90 u91 u92 u93 u94 u95 u96 u97 u98:Value)
  (h2:dK W b2 #[ah aj me,y1,y2,y3,y4,J so n sc] 28) (h3:dK W b3 #[ah aj c,ah aj d] 31) (hs:Pw W (J so n sc) l) (hn:n=l.length) (hm:n<=1000000)
  (hQ:∀ (wr:World) (v14 v15 v16 v17 v18 v19 v20 v21 v22 v23 v24 v25 v26 v27 v28 v29 v30:Value),Below W.heap.size W wr->Q .normal ⟨(u0::u1::u2::au (aA ⟨b2,0,O⟩)::au (aA ⟨b3,0,O⟩)::u5::u6::u7::ah aj (fT (l.map fun y=>(y.1,y.2.1)) (c,d):Nat)::u9::u10::u11::u12::u13::v14::v15::v16::v17::v18::v19::v20::v21::v22::v23::v24::v25::v26::v27::v28::v29::v30::u31::u32::u33::u34::u35::u36::u37::u38::u39::u40::u41::u42::u43::u44::u45::u46::u47::u48::u49::u50::u51::u52::u53::u54::u55::u56::u57::u58::u59::u60::u61::u62::u63::u64::u65::u66::u67::u68::u69::u70::u71::u72::u73::u74::u75::u76::u77::u78::u79::u80::u81::u82::u83::u84::u85::u86::u87::u88::u89::u90::u91::u92::u93::u94::u95::u96::u97::u98::[]).toArray,[]⟩ wr) :
  Code.wp aM acT Q ⟨(u0::u1::u2::au (aA ⟨b2,0,O⟩)::au (aA ⟨b3,0,O⟩)::u5::u6::u7::ah aj 0::u9::u10::u11::u12::u13::u14::u15::u16::u17::u18::u19::u20::u21::u22::u23::u24::u25::u26::u27::u28::u29::u30::u31::u32::u33::u34::u35::u36::u37::u38::u39::u40::u41::u42::u43::u44::u45::u46::u47::u48::u49::u50::u51::u52::u53::u54::u55::u56::u57::u58::u59::u60::u61::u62::u63::u64::u65::u66::u67::u68::u69::u70::u71::u72::u73::u74::u75::u76::u77::u78::u79::u80::u81::u82::u83::u84::u85::u86::u87::u88::u89::u90::u91::u92::u93::u94::u95::u96::u97::u98::[]).toArray,[]⟩ W:=by
 have HQ:=L hQ;have H2:=L h2;have H3:=L h3;have HS:=L hs;have HN:=L hn;clear hQ h2 h3 hs hn
 conv=>arg 2; whnf
 go_wp2
 go_loopw [8] (fun i wr=>∃ k:Nat,k<=n/\i=ah aj k/\Below W.heap.size W wr/\∀ (j:Nat) (y:Id),j<k->(l.map fun y=>(y.1,y.2.1))[j]?=aA y->eH y (c,d)=true) (fun i _=>n-(intOf i).toNat)
 case atStart=>exact⟨0,Nat.zero_le _,rfl,ak _ _,fun j y h=>by omega⟩
 case round =>
  obtain⟨k,hk,rfl,hbe,hall⟩:=hrel;have BE:=L hbe;have AL:=L hall;clear hbe hall;have q0:=cell_regrown (show wr.cell? ⟨b2,5,O⟩=aA (J so n sc) from (H2.out.on BE.out).cell 5);have r0:=cell_regrown (show wr.cell? ⟨b3,0,O⟩=aA (ah aj c) from (H3.out.on BE.out).cell 0);have r1:=cell_regrown (show wr.cell? ⟨b3,1,O⟩=aA (ah aj d) from (H3.out.on BE.out).cell 1);have hw3:IntKind.i64.wrap ((k:Int)+1)=(k:Int)+1:=IntWalk.i64_in _ (by omega);by_cases hlt:k<n
  ·obtain⟨y,hy⟩:∃ y,l[k]?=aA y:=⟨_,aD (by rw [<- HN.out]; exact hlt)⟩;obtain⟨p,ix,px⟩:=elW HS.out rfl HN.out.symm hy;have zM:=px wr BE.out;obtain⟨y1,y2,⟨yo,yn,yc⟩⟩:=y;simp only at zM;have p0:=cell_regrown zM.1;have p1:=cell_regrown zM.2.1;have yY:decide ((k:Int)<(n:Int))=true:=decide_eq_true (by omega);have Dh:decide (k<n)=true:=decide_eq_true hlt;obtain⟨r,hr⟩:∃ r,eH (y1,y2) (c,d)=r:=⟨_,rfl⟩;have LS:=L (fun d' os=>Calls.regrown_of (d:=d') (os:=os) ((sO (y1,y2) (c,d) (grow (redrawn wr d') os)).mono fun _ _ h=>⟨by rw [h.1,hr],h.2⟩));have HY:=L (show (l.map fun y=>(y.1,y.2.1))[k]?=aA (y1,y2) by rw [aK,hy]; rfl);have HR:=L hr;clear px zM hy hr;cases r
   ·go_wp2_with fail;refine wp_region_quiet_below (by kernel_rfl) (by kernel_rfl) ?_
    repeat (go_big_quiet_step (first | (with_reducible exact LS.out _ _)))
    refine wpQuiet_nil ?_;intro _ hw';obtain⟨⟨dq,osq⟩,hw''⟩:=hw';subst hw'';have Z6:=below_regrown wr dq osq;have HF:=L (fun v14 v15 v16 v17 v18 v19 v20 v21 v22 v23 v24 v25 v26 v27 v28 v29 v30=>HQ.out (grow (redrawn wr dq) osq) v14 v15 v16 v17 v18 v19 v20 v21 v22 v23 v24 v25 v26 v27 v28 v29 v30 (BE.out.trans (Z6.mono BE.out.size)));rw [oP (l.map fun y=>(y.1,y.2.1)) (c,d) k AL.out (aH ⟨_,HY.out,HR.out⟩)] at HF;clear ix HQ q0 r0 r1 LS yY Dh p0 p1;go_wp2;exact HF.out _ _ _ _ _ _ _ _ _ _ _ _ _ _ _ _ _
   ·go_wp2_with fail;refine wp_region_quiet_below (by kernel_rfl) (by kernel_rfl) ?_
    repeat (go_big_quiet_step (first | (with_reducible exact LS.out _ _)))
    refine wpQuiet_nil ?_;intro _ hw';obtain⟨⟨dq,osq⟩,hw''⟩:=hw';subst hw'';have Z6:=L (below_regrown wr dq osq);clear ix q0 r0 r1 LS yY Dh p0 p1;go_wp2
    go_roundw
    case rel=>exact⟨k+1,by omega,by go_num,BE.out.trans (Z6.out.mono BE.out.size),fun j y' hj h1=>by
     rcases Nat.lt_or_ge j k with h3|h3
     ·exact AL.out j y' h3 h1
     ·obtain rfl:j=k:=by omega
      have e1:=HY.out;rw [h1] at e1;rw [aN e1];exact HR.out⟩
    case measure=>simp [intOf]; omega
  ·obtain rfl:k=n:=by omega
   have yY:decide ((k:Int)<(k:Int))=false:=by simp
   have Dh:decide (k<k)=false:=by simp
   go_wp2_with fail;refine wp_region_quiet_below (by kernel_rfl) (by kernel_rfl) ?_
   repeat (go_big_quiet_step (fail))
   refine wpQuiet_nil ?_;intro _ hw';obtain⟨⟨dq,osq⟩,hw''⟩:=hw';subst hw'';have Z6:=below_regrown wr dq osq;have HF:=L (fun v14 v15 v16 v17 v18 v19 v20 v21 v22 v23 v24 v25 v26 v27 v28 v29 v30=>HQ.out (grow (redrawn wr dq) osq) v14 v15 v16 v17 v18 v19 v20 v21 v22 v23 v24 v25 v26 v27 v28 v29 v30 (BE.out.trans (Z6.mono BE.out.size)));rw [oP (l.map fun y=>(y.1,y.2.1)) (c,d) k AL.out (aT (by simpa using HN.out))] at HF;clear HQ q0 r0 r1 yY Dh;go_wp2;exact HF.out _ _ _ _ _ _ _ _ _ _ _ _ _ _ _ _ _
end Bk
namespace Pr
open Go.RowKit Go.ChangeShapes Go.WideShapes In
theorem acU:Tryz.prog.cellsOf 49=2:=by kernel_rfl
theorem YP:Tryz.prog.cellsOf 22=1:=by kernel_rfl
end Pr
end Go.Proofs.YtmklifheakemeaaGreat
