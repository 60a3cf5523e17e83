/-
  Forget of package ad. Conditions as told.
-/
import Derived.Test.YtmklifheakemeaaGreatBQ022
import Derived.Test.YtmklifheakemeaaGreatBQ019
import Derived.Test.YtmklifheakemeaaGreatBQ024
import Derived.Test.YtmklifheakemeaaGreatBQ026
set_option maxRecDepth 100000
set_option maxHeartbeats 64000000
open _root_.Bool renaming true->au,false->aD,and_eq_true->aX
open Go.IntKind renaming i64->L
open Go.Lib renaming hid->J
open Go.Obj renaming cells->V
open Go.Proofs.Tryz renaming prog->aF,results37->aQ,results176->aZ
open Go.RowKit.Below renaming refl->aG
open Go.Value renaming slice->D,int->K,string->O,pointer->bf,bool->bF,agg->bI
open _root_.List renaming getElem?_eq_getElem->U,getElem?_cons_zero->X,getElem?_cons_succ->Y,getElem?_toArray->Z,getElem?_map->ak,getElem?_eq_some_iff->ay,length_map->aA,mem_iff_getElem?->aB,mem_filter->aC,pairwise_iff_getElem->aH,length_cons->aJ,mem_append->aN,take_append_drop->aO,singleton_append->aP,filter_eq_self->aR,takeWhile_cons->aS,filter_sublist->aT,pairwise_cons->aU,length_take->aV,filter_cons->aW,mem_cons->bg
open _root_.Nat renaming le_refl->aj,zero_le->aY,le_of_lt->bG,lt_or_ge->bH
open _root_.Option renaming none->ah,some->aK
open Option.some renaming inj->aM
open _root_.Or renaming inl->aI,inr->aL
namespace Go.Proofs.YtmklifheakemeaaGreat
namespace Av
open Go.RowKit Go.Sort Rw YtmklifheakemeaaGreat.Nm Pr Bk
def gW (b:Br) (x:fD) (f:Int):Br×Bool:=match gL b.dQ x with
 | none=>(b,aD)
 | some a=>if a.par=f then ({ b with dQ:=b.dQ.filter fun e=>decide (e.id≠x),ent:=b.ent.filter fun e=>decide (e.tree≠x) },au) else (b,aD)
theorem KF {al:List Ad} (hr:sM al) {k:Nat} {a:Ad} {x:fD} (hk:al[k]?=aK a) (hx:a.id=x):al.filter (fun e=>decide (e.id≠x))=cutAt al k:=by
 subst hx;unfold cutAt;have h1:al=al.take k++(a::al.drop (k+1)):=by
  have hlt:=(ay.1 hk).1;have he:=(ay.1 hk).2;rw [<- he,List.getElem_cons_drop,aO]
 conv=>lhs; rw [h1]
 rw [List.filter_append,List.filter_cons_of_neg (by simp)];have hp:=aH.1 hr;have e1:(al.take k).filter (fun e=>decide (e.id≠a.id))=al.take k:=by
  rw [aR];intro y hy;obtain⟨j,hj⟩:=aB.1 hy;have hjl:=(ay.1 hj).1;rw [aV] at hjl;rw [List.getElem?_take_of_lt (by omega)] at hj;have:=nu hr (show j<k by omega) hj hk;refine decide_eq_true fun e=>?_;rw [e,kZ] at this;cases this
 have e2:(al.drop (k+1)).filter (fun e=>decide (e.id≠a.id))=al.drop (k+1):=by
  rw [aR];intro y hy;obtain⟨j,hj⟩:=aB.1 hy;rw [List.getElem?_drop] at hj;have:=nu hr (show k<k+1+j by omega) hk hj;refine decide_eq_true fun e=>?_;rw [e,kZ] at this;cases this
 rw [e1,e2]
theorem rH {b:Br} (hr:sM b.dQ) (x:fD) (f:Int):gW b x f=gZ b x f:=by
 unfold gW gZ;by_cases h:fI (b.dQ.map Ad.id) x=-1
 ·have hn:gL b.dQ x=ah:=vD fun j a hj=>tX (key:=Ad.id) h j a hj;rw [hn];cases b.dQ[(fI (b.dQ.map Ad.id) x).toNat]? with
  | none=>rfl
  | some a=>simp only; rw [if_pos h]
 ·obtain⟨k,hk⟩:∃ k:Nat,fI (b.dQ.map Ad.id) x=k:=⟨(fI (b.dQ.map Ad.id) x).toNat,by have:=ng (b.dQ.map Ad.id) x; omega⟩;obtain⟨g1,g2⟩:=qF hk;rw [ak] at g1;cases ha:b.dQ[k]? with
  | none=>rw [ha] at g1; cases g1
  | some a =>
   rw [ha] at g1;have hx:a.id=x:=aM g1;have hf:gL b.dQ x=aK a:=sI ha hx fun j z hj hz=>g2 j z.id hj (by rw [ak,hz]; rfl);rw [hf,hk,Int.toNat_natCast,ha];simp only;rw [if_neg (show ¬ ((k:Int)=-1) by omega)]
   split
   ·rw [KF hr ha hx]
   ·rfl
theorem wC {α β:Type} {R:α->β->Prop} (p:α->Bool) (q:β->Bool):∀ {l:List α} {m:List β},fA R l m->(∀ a b,R a b->p a=q b)->fA R (l.filter p) (m.filter q)
 | _,_,.nil,_=>.nil
 | _,_,.cons (a:=a) (b:=b) x t,h=>by
  have e:=h a b x;rw [aW,aW,e];cases q b
  ·exact wC p q t h
  ·exact .cons x (wC p q t h)
theorem KG (b:Br) (x:fD) (f:Int) (nv av sv ev ov:Sl) (w:World) (h:iZ w b nv av sv ev ov) (hf:PW b) (hp:yP b) :
  Calls aF 37 #[oK b.me nv av sv ev ov,mZ x,K L f] w (E5 w (nT w nv b.near) (pJ w b nv av sv ev ov) (gW b x f)):=by
 obtain⟨no,nn,nc⟩:=nv;obtain⟨ao,an,ac⟩:=av;obtain⟨so,sn,sc⟩:=sv;obtain⟨eo,en,ec⟩:=ev;obtain⟨oo,dY,oc⟩:=ov;obtain⟨c,d⟩:=x;obtain⟨h0,h1,h2⟩:=gY w #[K L b.me,D no nn nc,D ao an ac,D so sn sc,D eo en ec,D oo dY oc] #[K L c,K L d] 28 31;have h3:=gu ((w.alloc (V #[K L b.me,D no nn nc,D ao an ac,D so sn sc,D eo en ec,D oo dY oc] 28)).alloc (V #[K L c,K L d] 31)) (V #[K L 0,D ah 0 0,D ah 0 0,D ah 0 0,D ah 0 0,D ah 0 0] 28);have h4:=dO ((w.alloc (V #[K L b.me,D no nn nc,D ao an ac,D so sn sc,D eo en ec,D oo dY oc] 28)).alloc (V #[K L c,K L d] 31)) #[K L 0,D ah 0 0,D ah 0 0,D ah 0 0,D ah 0 0,D ah 0 0] 28;have hsz:((w.alloc (V #[K L b.me,D no nn nc,D ao an ac,D so sn sc,D eo en ec,D oo dY oc] 28)).alloc (V #[K L c,K L d] 31)).heap.size=w.heap.size+1+1:=by simp
 rw [hsz] at h4;have BB:=J (h0.trans (h3.mono h0.size));have X1:=J (h1.on h3);have X2:=J (h2.on h3);have X3:=J h4;have HH:=J h;have HF:=J hf;have HP:=J hp;obtain⟨la,ha1,ha2⟩:=h.dQ;have SW:=J (GU b.me (D no nn nc) (D so sn sc) (D eo en ec) (D oo dY oc) (ao,an,ac) la b.dQ (c,d) _ (ha1.on BB.out) (ha2.mono fun _ _ q=>q.on BB.out) hp.dQ);obtain⟨fa,hfa⟩:∃ fa,gL b.dQ (c,d)=fa:=⟨_,rfl⟩;rw [hfa] at SW;have FA:=J hfa;obtain⟨x0,x1,x2,x3,x4,x5⟩:=X1.out.fu;obtain⟨d0,d1⟩:=X2.out.cs2;clear h0 h1 h2 h3 h4 hsz h hf hp hfa ha1 ha2 la;go_enter Tryz.func37,Tryz.ntmps37;go_wp2_with fail;generalize ((w.alloc (V #[K L b.me,D no nn nc,D ao an ac,D so sn sc,D eo en ec,D oo dY oc] 28)).alloc (V #[K L c,K L d] 31)).alloc (V #[K L 0,D ah 0 0,D ah 0 0,D ah 0 0,D ah 0 0,D ah 0 0] 28)=W at *;refine SW.out.mono ?_;rintro e1 w1 ⟨hq,hb⟩;have B1:=J (BB.out.trans (hb.mono BB.out.size));have Z1:=J (X1.out.on hb);have Z2:=J (X2.out.on hb);have Z3:=J (X3.out.on hb);clear SW hb x0 x1 x2 x3 x4 x5 d0 d1 X1 X2 X3;cases fa with
 | none =>
  have LQ:=J (show gW b (c,d) f=(b,aD) by unfold gW; rw [FA.out]);subst hq;have nb:=gu w1 (V #[K L 0,K L 0,D ah 0 0,K L 0] 74);have B2:=J (B1.out.trans (nb.mono B1.out.size));have Y1:=Z1.out.on nb;have Y3:=Z3.out.on nb;obtain⟨x0,x1,x2,x3,x4,x5⟩:=Y1.fu;obtain⟨z0,z1,z2,z3,z4,z5⟩:=Y3.fu;obtain⟨t0,t1,t2,t3,t4,t5⟩:=Y3.kD;have zz:=Y3.lt;have FB:=J (dL Y3 (K L b.me) (D no nn nc) (D ao an ac) (D so sn sc) (D eo en ec) (D oo dY oc));have FL:=J (dG (b:=w.heap.size+1+1) B2.out (by omega) (K L b.me) (D no nn nc) (D ao an ac) (D so sn sc) (D eo en ec) (D oo dY oc));clear Y1 Y3 nb;go_wp2_with fail;obtain⟨v0,v1,v2,v3,v4,v5⟩:=FB.out.fu;refine bodyPost_ret (v:=.tuple #[bI #[K L b.me,D no nn nc,D ao an ac,D so sn sc,D eo en ec,D oo dY oc],bF aD]) (by simp [results,aQ,go_sem,v0,v1,v2,v3,v4,v5]) rfl ?_;rw [LQ.out];exact⟨⟨(no,nn,nc),(ao,an,ac),(so,sn,sc),(eo,en,ec),(oo,dY,oc),rfl,HH.out.on FL.out,fun h=>h.on FL.out,fun h=>(h.resolve_right (by simp)).on FL.out⟩,FL.out⟩
 | some a =>
  obtain⟨⟨r1,r2,⟨ro,rn,rc⟩,r4⟩,rfl,hr1,hr2,hr3⟩:=hq;have nb:=gu w1 (V #[K L r1,K L r2,D ro rn rc,K L r4] 74);have bx:=dO w1 #[K L r1,K L r2,D ro rn rc,K L r4] 74;have b3:=bx.cell 3;have B2:=J (B1.out.trans (nb.mono B1.out.size));have Y1:=Z1.out.on nb;have Y2:=Z2.out.on nb;have Y3:=Z3.out.on nb;have AP:=J (show a.par=r4 from hr2.symm);obtain⟨x0,x1,x2,x3,x4,x5⟩:=Y1.fu;obtain⟨z0,z1,z2,z3,z4,z5⟩:=Y3.fu;obtain⟨t0,t1,t2,t3,t4,t5⟩:=Y3.kD;simp only [Z,X,Y] at b3;have zz:=Y3.lt;by_cases hpf:r4=f
  ·have LQ:=J (show gW b (c,d) f=({ b with dQ:=b.dQ.filter fun e=>decide (e.id≠(c,d)),ent:=b.ent.filter fun e=>decide (e.tree≠(c,d)) },au) by unfold gW; rw [FA.out]; simp only; rw [if_pos (by rw [AP.out]; exact hpf)]);have hne:(r4 != f)=aD:=by simp [hpf]
   have Z1:=J Y1;have Z2:=J Y2;have Z3:=J Y3;have L1:=J Y1.lt;have L3:=J (show w.heap.size+1<(w1.alloc (V #[K L r1,K L r2,D ro rn rc,K L r4] 74)).heap.size from Y2.lt);clear Y1 Y2 Y3 nb bx z0 z1 z2 z3 z4 z5 t0 t1 t2 t3 t4 t5 zz hr1 hr2 hr3 hpf;go_wp2_with fail;clear b3 x0 x1 x2 x3 x4 x5 hne;generalize w1.alloc (V #[K L r1,K L r2,D ro rn rc,K L r4] 74)=w1a at *;refine (tV b (no,nn,nc) (ao,an,ac) (so,sn,sc) (eo,en,ec) (oo,dY,oc) w w1a B2.out HH.out HF.out HP.out).mono ?_;rintro e2 w2 ⟨⟨⟨p1,q1,s1⟩,⟨p2,q2,s2⟩,⟨p3,q3,s3⟩,⟨p4,q4,s4⟩,⟨p5,q5,s5⟩,rfl,cp⟩,hb2⟩;have V1:=Z1.out.on hb2;have V2:=J (Z2.out.on hb2);have V3:=J (Z3.out.on hb2);obtain⟨x0,x1,x2,x3,x4,x5⟩:=V1.fu;obtain⟨t0,t1,t2,t3,t4,t5⟩:=V1.kD;have zz:=V1.lt;have FB:=J (dL V1 (K L b.me) (D p1 q1 s1) (D p2 q2 s2) (D p3 q3 s3) (D p4 q4 s4) (D p5 q5 s5));have FC:=J (cp.but (eX w2 w.heap.size (K L b.me) (D p1 q1 s1) (D p2 q2 s2) (D p3 q3 s3) (D p4 q4 s4) (D p5 q5 s5)) V1);have FL:=J (dG (b:=w.heap.size) (B2.out.trans (hb2.mono B2.out.size)) (aj _) (K L b.me) (D p1 q1 s1) (D p2 q2 s2) (D p3 q3 s3) (D p4 q4 s4) (D p5 q5 s5));have F2:=J ((eX w2 w.heap.size (K L b.me) (D p1 q1 s1) (D p2 q2 s2) (D p3 q3 s3) (D p4 q4 s4) (D p5 q5 s5)).box V2.out (by omega));have F3:=J ((eX w2 w.heap.size (K L b.me) (D p1 q1 s1) (D p2 q2 s2) (D p3 q3 s3) (D p4 q4 s4) (D p5 q5 s5)).box V3.out (by omega));have SZ:=J (show w1a.heap.size<=(gF w2 w.heap.size (K L b.me) (D p1 q1 s1) (D p2 q2 s2) (D p3 q3 s3) (D p4 q4 s4) (D p5 q5 s5)).heap.size by have:=hb2.size; simp; omega);have L2:=J (show w.heap.size<w1a.heap.size from L1.out);clear V1 V2 V3 cp hb2 Z1 Z2 Z3 L1;go_upto_region 5 with fail;clear x0 x1 x2 x3 x4 x5 t0 t1 t2 t3 t4 t5 zz;unfold gF at FB FC FL F2 F3 SZ;generalize ((((((w2).setCell ⟨w.heap.size,0,ah⟩ (K L b.me)).setCell ⟨w.heap.size,1,ah⟩ (D p1 q1 s1)).setCell ⟨w.heap.size,2,ah⟩ (D p2 q2 s2)).setCell ⟨w.heap.size,3,ah⟩ (D p3 q3 s3)).setCell ⟨w.heap.size,4,ah⟩ (D p4 q4 s4)).setCell ⟨w.heap.size,5,ah⟩ (D p5 q5 s5)=w3 at *;obtain⟨la,Qn,Qo⟩:=FC.out.dQ;have DL:=J (Tv w1a.heap.size (p2,q2,s2) la (w.heap.size+1) c d w3 Qn F2.out SZ.out);have TG:=J (ku Qn);have HL2:=J Qo;have x2:=FB.out.cell 2;simp only [Z,X,Y] at x2;clear Qn Qo;go_wp2_with fail;refine DL.out.mono ?_;rintro e4 w4 ⟨⟨⟨t1,t2,t3⟩,rfl,hown⟩,hbel,hoff⟩;have CP2:=J (FC.out.aeA (Cb:=(t1,t2,t3)) (al:=b.dQ.filter fun e=>decide (e.id≠(c,d))) hoff ⟨_,hown,wC _ _ (HL2.out.mono fun _ _ q=>q.off hoff TG.out (by decide)) fun y z q=>by
    show decide (lD y≠(c,d))=decide (z.id≠(c,d));rw [show lD y=z.id from q.1]⟩)
   have G1:=hoff.box FB.out TG.out (by decide);have G2:=hoff.box F2.out TG.out (by decide);have G3:=hoff.box F3.out TG.out (by decide);have M1:=J (show dJ (w4.setCell ⟨w.heap.size,2,ah⟩ (D t1 t2 t3)) w.heap.size #[K L b.me,D p1 q1 s1,D t1 t2 t3,D p3 q3 s3,D p4 q4 s4,D p5 q5 s5] 28 by simpa using dR (k:=2) G1 (D t1 t2 t3));have M2:=J ((dP w4 w.heap.size 2 (D t1 t2 t3)).box G2 (by omega));have M3:=J ((dP w4 w.heap.size 2 (D t1 t2 t3)).box G3 (by omega));have MC:=J (CP2.out.but (dP w4 w.heap.size 2 (D t1 t2 t3)) G1);have ML:=J (show Below w.heap.size w (w4.setCell ⟨w.heap.size,2,ah⟩ (D t1 t2 t3)) from (FL.out.trans (hbel.mono (bG L2.out))).setCell (p:=⟨w.heap.size,2,ah⟩) (aj _) _);have MZ:=J (show w1a.heap.size<=(w4.setCell ⟨w.heap.size,2,ah⟩ (D t1 t2 t3)).heap.size by have:=SZ.out; have:=hbel.size; simp; omega);clear x2;have x2:=G1.cell 2;have f2:=G1.fr 2;have zz:=G1.lt;simp only [Z,X,Y] at x2;clear hown hbel hoff G1 G2 G3 CP2 FB FC F2 F3 FL SZ HL2 TG DL la;go_upto_region 6 with fail;clear x2 f2 zz;generalize w4.setCell ⟨w.heap.size,2,ah⟩ (D t1 t2 t3)=w5 at *;obtain⟨le,hle1,hle2⟩:=MC.out.ent
   replace hle2:fA (JV (vw w) w1a.heap.size w5) le b.ent:=hle2
   have DL:=J (Tx w1a.heap.size (p4,q4,s4) le (w.heap.size+1) c d w5 hle1 M2.out MZ.out);have TG:=J (ku hle1);have HL2:=J hle2;have x4:=M1.out.cell 4;simp only [Z,X,Y] at x4;clear hle1 hle2;go_wp2_with fail;refine DL.out.mono ?_;rintro e5 w6 ⟨⟨⟨r1,r2,r3⟩,rfl,hown⟩,hbel,hoff⟩;have CP4:=J (MC.out.acg (ev':=(r1,r2,r3)) (el:=b.ent.filter fun e=>decide (e.tree≠(c,d))) hoff ⟨_,hown,wC _ _ (HL2.out.mono fun _ _ q=>q.off hoff TG.out (by decide)) fun y z q=>by
    show decide (wu y≠(c,d))=decide (z.tree≠(c,d));rw [show wu y=z.tree from q.1]⟩)
   have K1:=hoff.box M1.out TG.out (by decide);have K3:=hoff.box M3.out TG.out (by decide);have KL:=ML.out.trans (hbel.mono (bG L2.out));have U1:=J (show dJ (w6.setCell ⟨w.heap.size,4,ah⟩ (D r1 r2 r3)) w.heap.size #[K L b.me,D p1 q1 s1,D t1 t2 t3,D p3 q3 s3,D r1 r2 r3,D p5 q5 s5] 28 by simpa using dR (k:=4) K1 (D r1 r2 r3));have U3:=J ((dP w6 w.heap.size 4 (D r1 r2 r3)).box K3 (by omega));have UC:=J (CP4.out.but (dP w6 w.heap.size 4 (D r1 r2 r3)) K1);have UL:=J (show Below w.heap.size w (w6.setCell ⟨w.heap.size,4,ah⟩ (D r1 r2 r3)) from KL.setCell (p:=⟨w.heap.size,4,ah⟩) (aj _) _);clear x4;have x4:=K1.cell 4;have f4:=K1.fr 4;have zz:=K1.lt;simp only [Z,X,Y] at x4;clear hown hbel hoff K1 K3 KL CP4 MC M1 M2 M3 ML MZ HL2 TG DL le;go_upto_region 7 with fail;clear x4 f4 zz;generalize w6.setCell ⟨w.heap.size,4,ah⟩ (D r1 r2 r3)=w7 at *;have Q1:=U1.out;have Q3:=U3.out;obtain⟨x0,x1,x2,x3,x4,x5⟩:=Q1.fu;obtain⟨z0,z1,z2,z3,z4,z5⟩:=Q3.fu;obtain⟨f0,f1,f2,f3,f4,f5⟩:=Q3.kD;have zz:=Q3.lt;have FB:=J (dL Q3 (K L b.me) (D p1 q1 s1) (D t1 t2 t3) (D p3 q3 s3) (D r1 r2 r3) (D p5 q5 s5));have FC:=J (UC.out.but (eX w7 (w.heap.size+1+1) (K L b.me) (D p1 q1 s1) (D t1 t2 t3) (D p3 q3 s3) (D r1 r2 r3) (D p5 q5 s5)) Q3);have FL:=J (dG (b:=w.heap.size+1+1) UL.out (by omega) (K L b.me) (D p1 q1 s1) (D t1 t2 t3) (D p3 q3 s3) (D r1 r2 r3) (D p5 q5 s5));clear Q1 Q3 U1 U3 UC UL;go_wp2_with fail;obtain⟨v0,v1,v2,v3,v4,v5⟩:=FB.out.fu;refine bodyPost_ret (v:=.tuple #[bI #[K L b.me,D p1 q1 s1,D t1 t2 t3,D p3 q3 s3,D r1 r2 r3,D p5 q5 s5],bF au]) (by simp [results,aQ,go_sem,v0,v1,v2,v3,v4,v5]) rfl ?_;rw [LQ.out];exact⟨⟨(p1,q1,s1),(t1,t2,t3),(p3,q3,s3),(r1,r2,r3),(p5,q5,s5),rfl,FC.out.vbr,fun _=>⟨_,FC.out.near⟩,fun _=>⟨_,_,FC.out⟩⟩,FL.out⟩
  ·have LQ:=J (show gW b (c,d) f=(b,aD) by unfold gW; rw [FA.out]; simp only; rw [if_neg (by rw [AP.out]; exact hpf)]);have hne:(r4 != f)=au:=by simp [hpf]
   have FB:=J (dL Y3 (K L b.me) (D no nn nc) (D ao an ac) (D so sn sc) (D eo en ec) (D oo dY oc));have FL:=J (dG (b:=w.heap.size+1+1) B2.out (by omega) (K L b.me) (D no nn nc) (D ao an ac) (D so sn sc) (D eo en ec) (D oo dY oc));clear Y1 Y2 Y3 nb bx hr1 hr2 hr3 hpf;go_wp2_with fail;obtain⟨v0,v1,v2,v3,v4,v5⟩:=FB.out.fu;refine bodyPost_ret (v:=.tuple #[bI #[K L b.me,D no nn nc,D ao an ac,D so sn sc,D eo en ec,D oo dY oc],bF aD]) (by simp [results,aQ,go_sem,v0,v1,v2,v3,v4,v5]) rfl ?_;rw [LQ.out];exact⟨⟨(no,nn,nc),(ao,an,ac),(so,sn,sc),(eo,en,ec),(oo,dY,oc),rfl,HH.out.on FL.out,fun h=>h.on FL.out,fun h=>(h.resolve_right (by simp)).on FL.out⟩,FL.out⟩
def Ab (b:Br) (e:En):Bool:=match gL b.dQ e.tree with
 | none=>aD
 | some a=>!(e.from_ == a.par && !(a.par == -1)) && (jD b.near e.from_ && (!(e.up && a.par == -1) && Wr.jB e.p))
abbrev zf (a b:En):Int:=Rf (qg a.tree b.tree) (qg a.sub b.sub)
theorem uf (a b:En):zf a b<0↔(eP a.tree b.tree=au\/(a.tree=b.tree/\eP a.sub b.sub=au)):=by
 unfold zf Rf;by_cases h:qg a.tree b.tree=0
 ·rw [if_pos h,vY];have e:=(tT _ _).1 h;constructor
  ·exact fun q=>aL ⟨e,q⟩
  ·rintro (q|⟨_,q⟩)
   ·rw [e,kZ] at q; cases q
   ·exact q
 ·rw [if_neg h,vY];constructor
  ·exact aI
  ·rintro (q|⟨q,_⟩)
   ·exact q
   ·exact absurd ((tT _ _).2 q) h
theorem KJ (x y z:En) (h1:zf x y<0) (h2:zf y z<0):zf x z<0:=by
 rw [uf] at *;rcases h1 with h1|⟨e1,h1⟩ <;> rcases h2 with h2|⟨e2,h2⟩
 ·exact aI (iY h1 h2)
 ·exact aI (by rw [<- e2]; exact h1)
 ·exact aI (by rw [e1]; exact h2)
 ·exact aL ⟨e1.trans e2,iY h1 h2⟩
structure jl (b:Br):Prop where
 near:b.near.Pairwise (·<·)
 seen:TD b.seen
 dQ:sM b.dQ
 ent:b.ent.Pairwise fun x y=>zf x y<0
 own:lq Ow.id b.own
 oks:∀ a∈b.dQ,a.id∈b.seen/\jD b.near a.par=au/\Wr.jB a.p=au
 Rh:∀ e∈b.ent,Ab b e=au
 Yo:∀ o∈b.own,Wr.jB o.p=au
theorem kC {α:Type} (l:List α) (k:Nat) (x y:α):y∈fU l k x↔y=x\/y∈l:=by
 unfold fU;rw [aN,aN,List.mem_singleton]
 conv=>rhs; rw [<- aO k l,aN]
 constructor
 ·rintro ((h|h)|h)
  ·exact aL (aI h)
  ·exact aI h
  ·exact aL (aL h)
 ·rintro (h|h|h)
  ·exact aI (aL h)
  ·exact aI (aI h)
  ·exact aL h
theorem H9 {α:Type} (key:α->fD):∀ (l:List α) (x:fD),∀ y∈l.take (gM key l x),eP (key y) x=au
 | [],_,y,h=>by simp at h
 | a::l,x,y,h=>by
  unfold gM at h;by_cases ha:eP (key a) x=au
  ·simp only [aS,ha,if_true,aJ,List.take_succ_cons,bg] at h;rcases h with rfl|h
   ·exact ha
   ·exact H9 key l x y h
  ·simp [ha] at h
theorem wD {α:Type} {key:α->fD}:∀ {l:List α} (_:lq key l) (x:fD) (_:∀ y∈l,key y≠x),∀ y∈l.drop (gM key l x),eP x (key y)=au
 | [],_,_,_,y,h=>by simp at h
 | a::l,hr,x,hn,y,h=>by
  unfold gM at h;have hr':=aU.1 hr;by_cases ha:eP (key a) x=au
  ·simp only [aS,ha,if_true,aJ,List.drop_succ_cons] at h;exact wD hr'.2 x (fun y hy=>hn y (List.mem_cons_of_mem _ hy)) y h
  ·simp [ha] at h;have hax:eP x (key a)=au:=by
    rcases pI (key a) x with q|q|q
    ·exact absurd q ha
    ·exact absurd q (hn a (by simp))
    ·exact q
   rcases h with rfl|h
   ·exact hax
   ·exact iY hax (hr'.1 y h)
theorem kF {α:Type} {key:α->fD} {l:List α} (hr:lq key l) (x:α) (hn:∀ y∈l,key y≠key x):lq key (fU l (gM key l (key x)) x):=by
 unfold fU;have h1:lq key (l.take (gM key l (key x))):=hr.sublist (List.take_sublist _ _);have h2:lq key (l.drop (gM key l (key x))):=hr.sublist (List.drop_sublist _ _);have lo:=H9 key l (key x);have hi:=wD hr (key x) hn;unfold lq at *;rw [List.append_assoc,List.pairwise_append];refine⟨h1,?_,fun a ha b hb=>?_⟩
 ·rw [aP,aU];exact⟨fun b hb=>hi b hb,h2⟩
 ·rw [aP,bg] at hb;rcases hb with rfl|hb
  ·exact lo a ha
  ·exact iY (lo a ha) (hi b hb)
theorem mO {l:List Ad} {x:fD} {a:Ad} (h:gL l x=aK a):a∈l/\a.id=x:=by
 unfold gL at h;exact⟨List.mem_of_find?_eq_some h,by simpa using List.find?_some h⟩
theorem oD {l:List Ad} (hr:sM l) {a:Ad} (ha:a∈l):gL l a.id=aK a:=by
 obtain⟨k,hk⟩:=aB.1 ha;refine sI hk rfl fun j z hj hz e=>?_;have:=nu hr hj hz hk;rw [e,kZ] at this;cases this
theorem Ia {l m:List Ad} (hl:sM l) (hm:sM m) {x:fD} (h:∀ a,a.id=x->(a∈l↔a∈m)):gL l x=gL m x:=by
 cases h1:gL l x with
 | none =>
  cases h2:gL m x with
  | none=>rfl
  | some a =>
   obtain⟨q1,q2⟩:=mO h2;have:=oD hl ((h a q2).2 q1);rw [q2,h1] at this;cases this
 | some a =>
  obtain⟨q1,q2⟩:=mO h1;have:=oD hm ((h a q2).1 q1);rw [q2] at this;exact this.symm
theorem ug {b c:Br} {e:En} (hn:c.near=b.near) (hf:gL c.dQ e.tree=gL b.dQ e.tree) (h:Ab b e=au):Ab c e=au:=by
 unfold Ab at *;rw [hf,hn];exact h
theorem sN {b:Br} (h:jl b) (a:Ad) (hp:jD b.near a.par=au) (hq:Wr.jB a.p=au):jl (eF b a).1:=by
 by_cases hin:a.id∈b.seen
 ·rw [xP hin]; exact h
 ·rw [rF hin];have hna:∀ y∈b.dQ,y.id≠a.id:=fun y hy e=>hin (by rw [<- e]; exact (h.oks y hy).1);have hns:∀ y∈b.seen,y≠a.id:=fun y hy e=>hin (by rw [<- e]; exact hy);have ra:sM (fU b.dQ (fM (b.dQ.map Ad.id) a.id) a):=by
   rw [<- jf];exact kF h.dQ a hna
  have rs:TD (fU b.seen (fM b.seen a.id) a.id):=by
   have:=kF (key:=fun x:fD=>x) h.seen a.id hns;rw [jf,List.map_id'] at this;exact this
  refine⟨h.near,rs,ra,h.ent,h.own,fun y hy=>?_,fun e he=>?_,h.Yo⟩
  ·rcases (kC _ _ _ _).1 hy with rfl|hy
   ·exact⟨(kC _ _ _ _).2 (aI rfl),hp,hq⟩
   ·exact⟨(kC _ _ _ _).2 (aL (h.oks y hy).1),(h.oks y hy).2⟩
  ·refine ug (b:=b) rfl (Ia ra h.dQ fun y hy=>?_) (h.Rh e he);rw [kC];refine⟨fun q=>q.resolve_left fun e2=>?_,aL⟩;have hk:=h.Rh e he;unfold Ab at hk;cases hf:gL b.dQ e.tree with
   | none=>rw [hf] at hk; cases hk
   | some z =>
    obtain⟨z1,z2⟩:=mO hf;exact hna z z1 (by rw [z2,<- hy,e2])
theorem Qr {b:Br} (h:jl b) (x:fD) (f:Int):jl (gW b x f).1:=by
 unfold gW;cases gL b.dQ x with
 | none=>exact h
 | some a =>
  simp only
  split
  ·have ra:sM (b.dQ.filter fun e=>decide (e.id≠x)):=h.dQ.sublist aT;refine⟨h.near,h.seen,ra,h.ent.sublist aT,h.own,fun y hy=>h.oks y ((aC.1 hy).1),fun e he=>?_,h.Yo⟩;have ht:e.tree≠x:=of_decide_eq_true (aC.1 he).2;refine ug (b:=b) rfl (Ia ra h.dQ fun y hy=>?_) (h.Rh e (aC.1 he).1);rw [aC];exact⟨fun q=>q.1,fun q=>⟨q,decide_eq_true (by rw [hy]; exact ht)⟩⟩
  ·exact h
end Av
namespace Av
open Go.RowKit Rw YtmklifheakemeaaGreat.Nm Pr Wr
theorem acn (c:Cn) (h:uF c=au):PS (r5 c)=au:=by
 obtain⟨n,k⟩:=c;unfold uF at h;rw [aX] at h;obtain⟨h1,h2⟩:=h;have h1':At.nM n=au:=h1;cases k with
 | rg lo hi =>
  have h3:lo<=hi:=by simpa [iO] using h2
  have h0:(⟨#[]⟩:ByteArray).size=0:=rfl;simp [r5,PS,kN,jG,jH,kT,h1',h3,h0]
 | tx t =>
  have h3:t.size<=12:=by simpa [iO] using h2
  simp [r5,PS,kN,jG,jH,kT,h1',h3]
 | pr t =>
  have h3:t.size<12:=by simpa [iO] using h2
  have h4:t.size<=11:=by omega
  simp [r5,PS,kN,jG,jH,kT,h1',h4]
theorem Ib (l:List C5) (h1:l.Pairwise fun x y=>Op.bytesLess x.1.toList y.1.toList=au) (h2:l.length<=5) (h3:∀ c∈l,PS c=au):jB l=au:=by
 rw [Ki l fun j hj=>?_]
 ·simpa using h2
 unfold Sc;rw [U hj];simp only [aX];refine⟨h3 _ (List.getElem_mem hj),?_⟩;cases j with
 | zero=>rfl
 | succ j =>
  rw [Bool.or_eq_true];right;rw [Nat.add_sub_cancel,U (by omega)];exact aH.1 h1 j (j+1) (by omega) hj (by omega)
theorem Ac (has vals:List Int):jB ((lG has vals 7).map r5)=au:=by
 have h:=SE has vals;refine Ib _ ?_ (by rw [aA]; exact h.five) fun c hc=>?_
 ·rw [List.pairwise_map];exact h.rise
 ·obtain⟨x,hx,rfl⟩:=List.mem_map.1 hc;exact acn x (h.good x hx)
end Av
namespace Av
open Go.RowKit Go.Sort Rw YtmklifheakemeaaGreat.Nm Pr Bk
theorem Qs {α:Type} (l:List α) (k:Nat) (x:α):(fU l k x).length=l.length+1:=by
 unfold fU;simp only [List.length_append,aJ,List.length_nil,aV,List.length_drop];omega
theorem Dx (b:Br):xS b b=au:=(Kz b b).2 rfl
theorem zh {α β:Type} {E:Ek α} {F:Ek β} {W W':World} {B B':Nat} {v u:Value} {l:List β} {m:List α} (ho:Own F W B v l) (gr:W.grownBy W' v.ownBlock) (h:Own E W B' u m) (hne:(E.t == F.t)=aD):Own E W' B' u m:=by
 rcases gK ho with⟨h1,_⟩|⟨g,c,cur,h1,_,h2,_⟩
 ·rw [h1] at gr;exact Bk.dI h ((aG _ _).grown gr (aj _) (fun j hj=>by cases hj))
 ·rw [h1] at gr;exact (xQ (b:=g) gr).own h h2 hne
theorem E8 {β:Type} {F:Ek β} {W W':World} {B k:Nat} {v:Value} {l:List β} {cs:Array Value} {t:TypeId} (ho:Own F W B v l) (gr:W.grownBy W' v.ownBlock) (h:dJ W k cs t) (hne:(t == F.t)=aD):dJ W' k cs t:=by
 rcases gK ho with⟨h1,_⟩|⟨g,c,cur,h1,_,h2,_⟩
 ·rw [h1] at gr;exact h.on ((aG _ _).grown gr (aj _) (fun j hj=>by cases hj))
 ·rw [h1] at gr;exact (xQ (b:=g) gr).box h (qd h h2 hne)
end Av
namespace Rl
open Go.RowKit Go.Sort Pu Rw Pr Va
abbrev z5:C5:=(⟨#[]⟩,0,0,0,⟨#[]⟩)
def ofV:Option Cn->Value
 | some y=>.tuple #[cv (r5 y),bF au]
 | none=>.tuple #[cv z5,bF aD]
theorem acp (pv:Value) (p:List Cn) (n:ByteArray) (w:World) (hp:fH w pv (p.map r5)) (_h100:p.length<=100) :
  Calls aF 176 #[pv,O n] w fun e w'=>e=.returned (ofV (Xw p n))/\Below w.heap.size w w':=by
 have HP:=J hp;obtain⟨ao,ac,rfl⟩:=hp.len;rw [aA] at HP ⊢;generalize hm:p.length=m at *;have HM:=J hm;clear hp hm;have B0:=J (show Below w.heap.size w (w.alloc (V #[O ⟨#[]⟩,K L 0,K L 0,K L 0,O ⟨#[]⟩] 70)) from (aG _ _).alloc (aj _) _);have Z0:=J (show dJ (w.alloc (V #[O ⟨#[]⟩,K L 0,K L 0,K L 0,O ⟨#[]⟩] 70)) w.heap.size (cells5 z5).toArray 70 from dO w _ _);go_enter Tryz.func176,Tryz.ntmps176;go_wp2;generalize w.alloc (V #[O ⟨#[]⟩,K L 0,K L 0,K L 0,O ⟨#[]⟩] 70)=w1 at B0 Z0 ⊢
 go_loopw [10] (fun i wr=>∃ k:Nat,k<=m/\i=K L k/\Below w.heap.size w wr/\dJ wr w.heap.size (cells5 z5).toArray 70/\∀ (j:Nat) (y:Cn),j<k->p[j]?=aK y->y.1≠n) (fun i _=>m-(intOf i).toNat)
 case atStart=>exact⟨0,aY _,rfl,B0.out,Z0.out,fun j y h=>by omega⟩
 case round =>
  obtain⟨k,hk,rfl,hb,ht,hall⟩:=hrel;have HB:=J hb;have HT:=J ht;have AL:=J hall;clear hb hall ht;by_cases hlt:k<m
  ·obtain⟨⟨xn,xk⟩,hx⟩:∃ x,p[k]?=aK x:=⟨_,U (by rw [HM.out]; exact hlt)⟩;obtain⟨q,ix,px⟩:=Xv (x:=r5 (xn,xk)) HP.out rfl (by rw [aA]; exact HM.out) (by rw [ak,hx]; rfl);obtain⟨p0,p1,p2,p3,p4⟩:=px _ HB.out;have HX:=J hx;have B4:=J (HB.out.alloc HB.out.size (V #[O xn,K L (kN xk),K L (jG xk),K L (jH xk),O (kT xk)] 70));have T4:=J (HT.out.more (V #[O xn,K L (kN xk),K L (jG xk),K L (jH xk),O (kT xk)] 70));clear hx px;simp only [r5] at p0 p1 p2 p3 p4;by_cases he:xn=n
   ·have hn:(xn.toList == n.toList)=au:=by rw [he]; exact beq_self_eq_true _
    have R:=J (aen HX.out he AL.out);clear he;obtain⟨c0,c1,c2,c3,c4⟩:=eZ HT.out;have f0:=HT.out.fr 0;have f1:=HT.out.fr 1;have f2:=HT.out.fr 2;have f3:=HT.out.fr 3;have f4:=HT.out.fr 4;have ahv:=HT.out.lt;simp only at c0 c1 c2 c3 c4;go_wp2;have T5:=(tZ HT.out (xn,kN xk,jG xk,jH xk,kT xk)).more (V #[O xn,K L (kN xk),K L (jG xk),K L (jH xk),O (kT xk)] 70);have B5:=(ig HB.out w.heap.size (aj _) (O xn) (K L (kN xk)) (K L (jG xk)) (K L (jH xk)) (O (kT xk))).alloc (ig HB.out w.heap.size (aj _) (O xn) (K L (kN xk)) (K L (jG xk)) (K L (jH xk)) (O (kT xk))).size (V #[O xn,K L (kN xk),K L (jG xk),K L (jH xk),O (kT xk)] 70);generalize World.alloc _ (V #[O xn,K L (kN xk),K L (jG xk),K L (jH xk),O (kT xk)] 70)=w6 at T5 B5 ⊢;obtain⟨d0,d1,d2,d3,d4⟩:=eZ T5;simp only at d0 d1 d2 d3 d4;refine bodyPost_ret (v:=ofV (aK (xn,xk))) (by simp [results,aZ,go_sem,d0,d1,d2,d3,d4,ofV,r5]) rfl ⟨by rw [R.out],B5⟩
   ·have hn:(xn.toList == n.toList)=aD:=by rw [beq_eq_false_iff_ne]; exact fun h=>he (su h)
    have HE:=J he;clear he;go_wp2
    go_roundw
    case rel=>exact⟨k+1,by omega,by go_num,B4.out,T4.out,fun j y hj hy=>by
     rcases bH j k with h3|h3
     ·exact AL.out j y h3 hy
     ·obtain rfl:j=k:=by omega
      have e:=HX.out;rw [hy] at e;rw [aM e];exact HE.out⟩
    case measure=>simp [intOf]; omega
  ·obtain rfl:k=m:=by omega
   have R:=J (X7 (p:=p) (n:=n) (fun j y hj hy=>AL.out j y (by rw [<- HM.out]; exact hj) hy));obtain⟨c0,c1,c2,c3,c4⟩:=eZ HT.out;have f0:=HT.out.fr 0;have f1:=HT.out.fr 1;have f2:=HT.out.fr 2;have f3:=HT.out.fr 3;have f4:=HT.out.fr 4;have ahv:=HT.out.lt;simp only at c0 c1 c2 c3 c4;go_wp2;have T5:=tZ HT.out z5;have B5:=ig HB.out w.heap.size (aj _) (O ⟨#[]⟩) (K L 0) (K L 0) (K L 0) (O ⟨#[]⟩);simp only at T5;generalize World.setCell _ _ (O ⟨#[]⟩)=w6 at T5 B5 ⊢;obtain⟨d0,d1,d2,d3,d4⟩:=eZ T5;simp only at d0 d1 d2 d3 d4;refine bodyPost_ret (v:=ofV ah) (by simp [results,aZ,go_sem,d0,d1,d2,d3,d4,ofV]) rfl ⟨by rw [R.out],B5⟩
theorem Qt (n:ByteArray) (c d:Kd) (w:World) (hc:iO c=au) (hd:iO d=au) :
  Calls aF 177 #[cv (r5 (n,c)),cv (r5 (n,d))] w fun e w'=>e=.returned (bF (eU d c))/\Below w.heap.size w w':=by
 obtain⟨ba,bb,hb⟩:=Ry w (r5 (n,c)) (r5 (n,d));have BB:=J bb;have B:=J hb;have CB:=J (Hz (n,c) (n,d) ((w.alloc (V (cells5 (r5 (n,c))).toArray 70)).alloc (V (cells5 (r5 (n,d))).toArray 70)) rfl);have WS:=J (fun k (h:fE c d=aK k)=>Ku (n:=n) hc hd h);have WN:=J (fun (h:fE c d=ah)=>Kv hd h);simp only at CB;generalize fE c d=r at *;generalize eU d c=i at *;clear ba bb hb hc hd;simp only [r5] at CB ⊢;go_enter Tryz.func177,Tryz.ntmps177;go_wp2_with fail;refine CB.out.mono ?_;rintro e w2 ⟨⟨y,rfl,hy⟩,hb2⟩;have B2:=J (B.out.trans (hb2.mono B.out.size));obtain⟨b0,b1,b2,b3,b4⟩:=eZ (BB.out.on hb2);simp only [r5] at b0 b1 b2 b3 b4;have B3:=J (B2.out.alloc B2.out.size (V #[O y.1,K L y.2.1,K L y.2.2.1,K L y.2.2.2.1,O y.2.2.2.2] 70));have HY:=J hy;have hw2:w.heap.size+1<w2.heap.size:=by have:=hb2.size; simp at this; omega
 clear hb2 CB BB B hy;rcases r with _|k
 ·have E:=J (WN.out rfl);clear WN WS;go_wp2;go_ret;exact⟨eD E.out.symm,B3.out⟩
 ·have E:=J (show yN y (r5 (n,d))=i by rw [HY.out k rfl]; exact WS.out k rfl);obtain⟨y0,y1,y2,y3,y4⟩:=y;clear WN WS HY B3;go_wp2
  all_goals go_ret
  all_goals exact⟨eD (by rw [<- E.out]; simp [yN,r5, *]),B2.out.alloc B2.out.size _⟩
theorem Yp {α:Type} (f:α->Bool) (l:List α) (m:Nat) (h:l.length=m):(l.take m).all f=l.all f:=by rw [<- h,List.take_length]
theorem KO (pv qv:Value) (p b:List Cn) (w:World) (hp:fH w pv (p.map r5)) (hl:fH w qv (b.map r5)) (np:NF p) (nb:NF b) :
  Calls aF 156 #[pv,qv] w fun e w'=>e=.returned (bF (o8 p b))/\Below w.heap.size w w':=by
 have CO:=J (Qd (a:=p) nb.rise);have HP:=J hp;have HL:=J hl;have h5:b.length<=100:=by have:=nb.five; omega
 have GP:=J np.iO;have GB:=J nb.iO;have m5:p.length<=5:=np.five;obtain⟨ao,ac,rfl⟩:=hp.len;rw [aA] at HP ⊢;generalize hm:p.length=m at *;have HM:=J hm;generalize o8 p b=r at *;clear hp hl hm np nb;go_enter Tryz.func156,Tryz.ntmps156;go_wp2
 go_loopw [11] (fun i wr=>∃ k:Nat,k<=m/\i=K L k/\Below w.heap.size w wr/\(p.take k).all (Kt b)=au) (fun i _=>m-(intOf i).toNat)
 case atStart=>exact⟨0,aY _,rfl,aG _ _,rfl⟩
 case round =>
  obtain⟨k,hk,rfl,hb,hall⟩:=hrel;have HB:=J hb;have AL:=J hall;clear hb hall;by_cases hlt:k<m
  ·obtain⟨⟨xn,xk⟩,hx⟩:∃ x,p[k]?=aK x:=⟨_,U (by rw [HM.out]; exact hlt)⟩;obtain⟨q,ix,px⟩:=Xv (x:=r5 (xn,xk)) HP.out rfl (by rw [aA]; exact HM.out) (by rw [ak,hx]; rfl);obtain⟨p0,p1,p2,p3,p4⟩:=px _ HB.out;have MO:=J (He (Kt b) p k (xn,xk) hx);have NO:=J (fun h=>MG (Kt b) p k (xn,xk) hx h);have GX:=J (GP.out _ (List.mem_of_getElem? hx));have BX:=J (show dJ (wr.alloc (V #[O xn,K L (kN xk),K L (jG xk),K L (jH xk),O (kT xk)] 70)) wr.heap.size (cells5 (xn,kN xk,jG xk,jH xk,kT xk)).toArray 70 from dO wr _ _);have B1:=J (HB.out.alloc HB.out.size (V #[O xn,K L (kN xk),K L (jG xk),K L (jH xk),O (kT xk)] 70));have G:=J (acp qv b xn (wr.alloc (V #[O xn,K L (kN xk),K L (jG xk),K L (jH xk),O (kT xk)] 70)) (HL.out.on B1.out) h5);have GC:=J (show Kt b (xn,xk)=match Xw b xn with
    | some y=>eU y.2 xk
    | none=>aD from rfl)
   obtain⟨gg,hgg⟩:∃ g,Kt b (xn,xk)=g:=⟨_,rfl⟩;rw [hgg] at GC MO NO;simp only [r5] at p0 p1 p2 p3 p4;clear hx px hgg;go_wp2_with fail;refine G.out.mono ?_;rintro e2 w2 ⟨he2,hb2⟩;have B2:=J (B1.out.trans (hb2.mono B1.out.size));obtain⟨x0,x1,x2,x3,x4⟩:=eZ (BX.out.on hb2);simp only at x0 x1 x2 x3 x4;have hwl:wr.heap.size<w2.heap.size:=by have:=hb2.size; simp at this; omega
   rcases hg:Xw b xn with _|⟨yn,yk⟩
   ·rw [hg] at he2 GC;subst he2;have R:=J (show r=aD by rw [CO.out]; exact NO.out GC.out);clear hb2 G B1 BX ix p0 p1 p2 p3 p4 hg;unfold ofV;go_wp2;go_ret;exact⟨eD R.out.symm,B2.out.alloc B2.out.size _⟩
   ·obtain⟨hm1,hm2⟩:=SG hg;obtain rfl:yn=xn:=hm2;rw [hg] at he2 GC;subst he2;have WC:=J (fun W=>Qt yn xk yk W GX.out (GB.out _ hm1));simp only [r5] at WC;clear hb2 G B1 BX ix p0 p1 p2 p3 p4 hg hm1;unfold ofV;simp only [r5];go_wp2_with fail;refine (WC.out _).mono ?_;rintro e3 w3 ⟨rfl,hb3⟩;have B3:=J ((B2.out.alloc B2.out.size (V #[O yn,K L (kN yk),K L (jG yk),K L (jH yk),O (kT yk)] 70)).trans (hb3.mono (B2.out.alloc B2.out.size (V #[O yn,K L (kN yk),K L (jG yk),K L (jH yk),O (kT yk)] 70)).size));rw [<- GC.out];clear hb3 B2 x0 x1 x2 x3 x4 hwl WC;cases gg
    ·have R:=J (show r=aD by rw [CO.out]; exact NO.out rfl);go_wp2;go_ret;exact⟨eD R.out.symm,B3.out⟩
    ·go_wp2
     go_roundw
     case rel=>exact⟨k+1,by omega,by go_num,B3.out,by rw [MO.out,AL.out]; rfl⟩
     case measure=>simp [intOf]; omega
  ·obtain rfl:k=m:=by omega
   have R:=J (show r=au by rw [CO.out,<- Yp _ p _ HM.out]; exact AL.out);go_wp2;go_ret;exact⟨eD R.out.symm,HB.out⟩
end Rl
namespace Bk
open Go.RowKit Go.Sort Rw YtmklifheakemeaaGreat.Nm Pr
noncomputable def acr:Code:=((Tryz.f23.body.bind (jM 0)).getD .skip)
theorem Yq (Q:Exit->Act->World->Prop) (W:World) (b2 b3:Nat) (me c d:Int) (y1 y2 y3 y4:Value) (so:Option Addr) (n sc:Nat) (l:List rz) (u0 u1 u2 u5 u6 u7 u9 u10 u11 u12 u13 u14 u15 u16 u17 u18 u19 u20 u21 u22 u23 u24 u25 u26 u27 u28 u29 u30 u31 u32 u33 u34 u35 u36 u37 u38 u39 u40 u41 u42 u43 u44 u45 u46 u47 u48 u49 u50 u51 u52 u53 u54 u55 u56 u57 u58 u59 u60 u61 u62 u63 u64 u65 u66 u67 u68 u69 u70 u71 u72 u73 u74 u75 u76 u77 u78 u79 u80 u81 u82 u83 u84 u85 u86 u87 u88 u89 u90 u91 u92 u93 u94 u95 u96 u97 u98:Value)
  (h2:dJ W b2 #[K L me,y1,y2,y3,y4,D so n sc] 28) (h3:dJ W b3 #[K L c,K L d] 31) (hs:Pq W (D so n sc) l) (hn:n=l.length) (hm:n<=1000000)
  (hQ:∀ (wr:World) (v14 v15 v16 v17 v18 v19 v20 v21 v22 v23 v24 v25 v26 v27 v28 v29 v30:Value),Below W.heap.size W wr->Q .normal ⟨(u0::u1::u2::bf (aK ⟨b2,0,ah⟩)::bf (aK ⟨b3,0,ah⟩)::u5::u6::u7::K L (fM (l.map fun y=>(y.1,y.2.1)) (c,d):Nat)::u9::u10::u11::u12::u13::v14::v15::v16::v17::v18::v19::v20::v21::v22::v23::v24::v25::v26::v27::v28::v29::v30::u31::u32::u33::u34::u35::u36::u37::u38::u39::u40::u41::u42::u43::u44::u45::u46::u47::u48::u49::u50::u51::u52::u53::u54::u55::u56::u57::u58::u59::u60::u61::u62::u63::u64::u65::u66::u67::u68::u69::u70::u71::u72::u73::u74::u75::u76::u77::u78::u79::u80::u81::u82::u83::u84::u85::u86::u87::u88::u89::u90::u91::u92::u93::u94::u95::u96::u97::u98::[]).toArray,[]⟩ wr) :
  Code.wp aF acr Q ⟨(u0::u1::u2::bf (aK ⟨b2,0,ah⟩)::bf (aK ⟨b3,0,ah⟩)::u5::u6::u7::K L 0::u9::u10::u11::u12::u13::u14::u15::u16::u17::u18::u19::u20::u21::u22::u23::u24::u25::u26::u27::u28::u29::u30::u31::u32::u33::u34::u35::u36::u37::u38::u39::u40::u41::u42::u43::u44::u45::u46::u47::u48::u49::u50::u51::u52::u53::u54::u55::u56::u57::u58::u59::u60::u61::u62::u63::u64::u65::u66::u67::u68::u69::u70::u71::u72::u73::u74::u75::u76::u77::u78::u79::u80::u81::u82::u83::u84::u85::u86::u87::u88::u89::u90::u91::u92::u93::u94::u95::u96::u97::u98::[]).toArray,[]⟩ W:=by
 have HQ:=J hQ;have H2:=J h2;have H3:=J h3;have HS:=J hs;have HN:=J hn;clear hQ h2 h3 hs hn
 conv=>arg 2; whnf
 go_wp2
 go_loopw [8] (fun i wr=>∃ k:Nat,k<=n/\i=K L k/\Below W.heap.size W wr/\∀ (j:Nat) (y:Id),j<k->(l.map fun y=>(y.1,y.2.1))[j]?=aK y->eP y (c,d)=au) (fun i _=>n-(intOf i).toNat)
 case atStart=>exact⟨0,aY _,rfl,aG _ _,fun j y h=>by omega⟩
 case round =>
  obtain⟨k,hk,rfl,hbe,hall⟩:=hrel;have BE:=J hbe;have AL:=J hall;clear hbe hall;have q0:=cell_regrown (show wr.cell? ⟨b2,5,ah⟩=aK (D so n sc) from (H2.out.on BE.out).cell 5);have r0:=cell_regrown (show wr.cell? ⟨b3,0,ah⟩=aK (K L c) from (H3.out.on BE.out).cell 0);have r1:=cell_regrown (show wr.cell? ⟨b3,1,ah⟩=aK (K L d) from (H3.out.on BE.out).cell 1);have hw3:IntKind.i64.wrap ((k:Int)+1)=(k:Int)+1:=IntWalk.i64_in _ (by omega);by_cases hlt:k<n
  ·obtain⟨y,hy⟩:∃ y,l[k]?=aK y:=⟨_,U (by rw [<- HN.out]; exact hlt)⟩;obtain⟨p,ix,px⟩:=elW HS.out rfl HN.out.symm hy;have yO:=px wr BE.out;obtain⟨y1,y2,⟨yo,yn,yc⟩⟩:=y;simp only at yO;have p0:=cell_regrown yO.1;have p1:=cell_regrown yO.2.1;have yu:decide ((k:Int)<(n:Int))=au:=decide_eq_true (by omega);have Cm:decide (k<n)=au:=decide_eq_true hlt;obtain⟨r,hr⟩:∃ r,eP (y1,y2) (c,d)=r:=⟨_,rfl⟩;have LS:=J (fun d' os=>Calls.regrown_of (d:=d') (os:=os) ((sF (y1,y2) (c,d) (grow (redrawn wr d') os)).mono fun _ _ h=>⟨by rw [h.1,hr],h.2⟩));have HY:=J (show (l.map fun y=>(y.1,y.2.1))[k]?=aK (y1,y2) by rw [ak,hy]; rfl);have HR:=J hr;clear px yO hy hr;cases r
   ·go_wp2_with fail;refine wp_region_quiet_below (by kernel_rfl) (by kernel_rfl) ?_
    repeat (go_big_quiet_step (first | (with_reducible exact LS.out _ _)))
    refine wpQuiet_nil ?_;intro _ hw';obtain⟨⟨dq,osq⟩,hw''⟩:=hw';subst hw'';have Z6:=below_regrown wr dq osq;have HF:=J (fun v14 v15 v16 v17 v18 v19 v20 v21 v22 v23 v24 v25 v26 v27 v28 v29 v30=>HQ.out (grow (redrawn wr dq) osq) v14 v15 v16 v17 v18 v19 v20 v21 v22 v23 v24 v25 v26 v27 v28 v29 v30 (BE.out.trans (Z6.mono BE.out.size)));rw [oq (l.map fun y=>(y.1,y.2.1)) (c,d) k AL.out (aL ⟨_,HY.out,HR.out⟩)] at HF;clear ix HQ q0 r0 r1 LS yu Cm p0 p1;go_wp2;exact HF.out _ _ _ _ _ _ _ _ _ _ _ _ _ _ _ _ _
   ·go_wp2_with fail;refine wp_region_quiet_below (by kernel_rfl) (by kernel_rfl) ?_
    repeat (go_big_quiet_step (first | (with_reducible exact LS.out _ _)))
    refine wpQuiet_nil ?_;intro _ hw';obtain⟨⟨dq,osq⟩,hw''⟩:=hw';subst hw'';have Z6:=J (below_regrown wr dq osq);clear ix q0 r0 r1 LS yu Cm p0 p1;go_wp2
    go_roundw
    case rel=>exact⟨k+1,by omega,by go_num,BE.out.trans (Z6.out.mono BE.out.size),fun j y' hj h1=>by
     rcases bH j k with h3|h3
     ·exact AL.out j y' h3 h1
     ·obtain rfl:j=k:=by omega
      have e1:=HY.out;rw [h1] at e1;rw [aM e1];exact HR.out⟩
    case measure=>simp [intOf]; omega
  ·obtain rfl:k=n:=by omega
   have yu:decide ((k:Int)<(k:Int))=aD:=by simp
   have Cm:decide (k<k)=aD:=by simp
   go_wp2_with fail;refine wp_region_quiet_below (by kernel_rfl) (by kernel_rfl) ?_
   repeat (go_big_quiet_step (fail))
   refine wpQuiet_nil ?_;intro _ hw';obtain⟨⟨dq,osq⟩,hw''⟩:=hw';subst hw'';have Z6:=below_regrown wr dq osq;have HF:=J (fun v14 v15 v16 v17 v18 v19 v20 v21 v22 v23 v24 v25 v26 v27 v28 v29 v30=>HQ.out (grow (redrawn wr dq) osq) v14 v15 v16 v17 v18 v19 v20 v21 v22 v23 v24 v25 v26 v27 v28 v29 v30 (BE.out.trans (Z6.mono BE.out.size)));rw [oq (l.map fun y=>(y.1,y.2.1)) (c,d) k AL.out (aI (by simpa using HN.out))] at HF;clear HQ q0 r0 r1 yu Cm;go_wp2;exact HF.out _ _ _ _ _ _ _ _ _ _ _ _ _ _ _ _ _
def wE (near:List Int) (n:Int):Int:=(near[(Wi.within n 0 near.length).toNat]?).getD (-1)
theorem Ic (me n:Int) (nv:Sl) (av sv ev ov:Value) (l:List Int) (w:World) (hs:qA w (dX nv) l) (hl:l.length<=900) (h1:-9223372036854775808<=n) (h2:n<=9223372036854775807) :
  Calls aF 12 #[bI #[K L me,dX nv,av,sv,ev,ov],K L n] w fun e w'=>e=.returned (K L (wE l n))/\Below w.heap.size w w':=by
 obtain⟨no,nn,nc⟩:=nv;obtain⟨q1,q2,hq⟩:=hs.len;obtain⟨rfl,rfl,rfl⟩:no=q1/\nn=l.length/\nc=q2:=by
  have:D no nn nc=D q1 l.length q2:=hq;simpa using this
 obtain⟨nn,hnn⟩:∃ n,n=l.length:=⟨_,rfl⟩;simp only [<- hnn] at hs ⊢;have NB:=gu w (V #[K L me,D no nn nc,av,sv,ev,ov] 28);have B0:=J NB;have X2:=J (dO w #[K L me,D no nn nc,av,sv,ev,ov] 28);have HS:=J (hs.on NB);have HN:=J hnn;have nl:nn<=900:=by omega
 clear NB hs hq hnn hl;show Calls aF 12 #[bI #[K L me,D no nn nc,av,sv,ev,ov],K L n] w _;go_enter Tryz.func12,Tryz.ntmps12;go_upto_region 1 with fail;generalize w.alloc (V #[K L me,D no nn nc,av,sv,ev,ov] 28)=W at *;have x1:=X2.out.cell 1;simp only [Z,X,Y] at x1;have WI:=Wi.jy n 0 (nn:Int) W (by omega) (by decide) (by omega) h1 h2;have WB:=Wi.jo n 0 (nn:Int) (by omega);have SD:=J (show wE l n=(l[(Wi.within n 0 (nn:Int)).toNat]?).getD (-1) from by unfold wE; rw [HN.out]);generalize Wi.within n 0 (nn:Int)=y at *;obtain⟨m,rfl⟩:∃ m:Nat,y=m:=⟨y.toNat,by omega⟩;rw [Int.toNat_natCast] at SD;go_wp2_with fail;refine WI.mono ?_;rintro e2 w2 ⟨rfl,rfl⟩;clear WI;by_cases hm:m<nn
 ·have hm2:(m:Int)<(nn:Int):=by omega
  obtain⟨z,hz⟩:∃ z,l[m]?=aK z:=⟨_,U (by rw [<- HN.out]; exact hm)⟩;obtain⟨p,ix,px⟩:=elI HS.out rfl HN.out.symm hz;have p0:=px.2 W (aG _ _);rw [hz] at SD;clear px hz;go_wp2_with fail;go_ret;exact⟨by rw [SD.out]; rfl,B0.out⟩
 ·have hm2:¬ ((m:Int)<(nn:Int)):=by omega
  rw [List.getElem?_eq_none (by have:=HN.out; omega)] at SD;go_wp2_with fail;go_ret;exact⟨by rw [SD.out]; rfl,B0.out⟩
end Bk
end Go.Proofs.YtmklifheakemeaaGreat
