/-
  Forget of package ad. Conditions as told.
-/
import Derived.Test.YtmklifheakemeaaGreatCQ023
import Derived.Test.YtmklifheakemeaaGreatCQ021
import Derived.Test.YtmklifheakemeaaGreatCQ018
set_option maxRecDepth 100000
set_option maxHeartbeats 64000000
open _root_.Bool renaming false->aD,true->aP
open _root_.Go renaming Calls->aG,World->aI
open Go.Ending renaming returned->au
open Go.IntKind renaming i64->L
open Go.Lib renaming hid->J
open Go.Obj renaming cells->Q
open Go.Proofs.Tryz renaming prog->ah,results37->aJ,ntmps68->aR,func68->aS
open Go.Value renaming slice->D,int->K,bool->aB,pointer->aK,agg->aU
open _root_.List renaming getElem?_eq_some_iff->O,mem_of_getElem?->U,getElem?_cons_zero->V,getElem?_cons_succ->Z,mem_iff_getElem?->aj,getElem?_toArray->ak,getElem?_eq_getElem->ay,all_eq_false->aF,all_eq_true->aH,filter_eq_self->aM,getElem?_map->aN,filter_cons->aO,map_cons->aQ,map->aT
open _root_.Option renaming none->aA,some->aL
open Option.some renaming inj->aC
namespace Go.Proofs.YtmklifheakemeaaGreat.Av
open Go.RowKit Go.Sort Rw YtmklifheakemeaaGreat.Nm Pr Bk
def gW (b:Br) (x:fD) (f:Int):Br×Bool:=match gG b.dP x with
 | none=>(b,aD)
 | some a=>if a.par=f then ({ b with dP:=b.dP.filter fun e=>decide (e.id≠x),ent:=b.ent.filter fun e=>decide (e.tree≠x) },aP) else (b,aD)
theorem Cm {al:List Ad} (hr:ql al) {k:Nat} {a:Ad} {x:fD} (hk:al[k]?=aL a) (hx:a.id=x):al.filter (fun e=>decide (e.id≠x))=cutAt al k:=by
 subst hx;unfold cutAt;have h1:al=al.take k++(a::al.drop (k+1)):=by
  have hlt:=(O.1 hk).1;have he:=(O.1 hk).2;rw [<- he,List.getElem_cons_drop,List.take_append_drop]
 conv=>lhs; rw [h1]
 rw [List.filter_append,List.filter_cons_of_neg (by simp)];have hp:=List.pairwise_iff_getElem.1 hr;have e1:(al.take k).filter (fun e=>decide (e.id≠a.id))=al.take k:=by
  rw [aM];intro y hy;obtain⟨j,hj⟩:=aj.1 hy;have hjl:=(O.1 hj).1;rw [List.length_take] at hjl;rw [List.getElem?_take_of_lt (by omega)] at hj;have:=mG hr (show j<k by omega) hj hk;refine decide_eq_true fun e=>?_;rw [e,kX] at this;cases this
 have e2:(al.drop (k+1)).filter (fun e=>decide (e.id≠a.id))=al.drop (k+1):=by
  rw [aM];intro y hy;obtain⟨j,hj⟩:=aj.1 hy;rw [List.getElem?_drop] at hj;have:=mG hr (show k<k+1+j by omega) hk hj;refine decide_eq_true fun e=>?_;rw [e,kX] at this;cases this
 rw [e1,e2]
theorem nu {b:Br} (hr:ql b.dP) (x:fD) (f:Int):gW b x f=iD b x f:=by
 unfold gW iD;by_cases h:fM (b.dP.map Ad.id) x=-1
 ·have hn:gG b.dP x=aA:=pR fun j a hj=>uX (key:=Ad.id) h j a hj;rw [hn];cases b.dP[(fM (b.dP.map Ad.id) x).toNat]? with
  | none=>rfl
  | some a=>simp only; rw [if_pos h]
 ·obtain⟨k,hk⟩:∃ k:Nat,fM (b.dP.map Ad.id) x=k:=⟨(fM (b.dP.map Ad.id) x).toNat,by have:=nK (b.dP.map Ad.id) x; omega⟩;obtain⟨g1,g2⟩:=qZ hk;rw [aN] at g1;cases ha:b.dP[k]? with
  | none=>rw [ha] at g1; cases g1
  | some a =>
   rw [ha] at g1;have hx:a.id=x:=aC g1;have hf:gG b.dP x=aL a:=qY ha hx fun j z hj hz=>g2 j z.id hj (by rw [aN,hz]; rfl);rw [hf,hk,Int.toNat_natCast,ha];simp only;rw [if_neg (show ¬ ((k:Int)=-1) by omega)]
   split
   ·rw [Cm hr ha hx]
   ·rfl
theorem xH {α β:Type} {R:α->β->Prop} (p:α->Bool) (q:β->Bool):∀ {l:List α} {m:List β},eY R l m->(∀ a b,R a b->p a=q b)->eY R (l.filter p) (m.filter q)
 | _,_,.nil,_=>.nil
 | _,_,.cons (a:=a) (b:=b) x t,h=>by
  have e:=h a b x;rw [aO,aO,e];cases q b
  ·exact xH p q t h
  ·exact .cons x (xH p q t h)
theorem Ni (b:Br) (x:fD) (f:Int) (nv av sv ev ov:Sl) (w:aI) (h:iN w b nv av sv ev ov) (hf:Hq b) (hp:Af b) :
  aG ah 37 #[mo b.me nv av sv ev ov,mW x,K L f] w (Ib w (oD w nv b.near) (qm w b nv av sv ev ov) (gW b x f)):=by
 obtain⟨no,nn,nc⟩:=nv;obtain⟨ao,an,ac⟩:=av;obtain⟨so,sn,sc⟩:=sv;obtain⟨eo,en,ec⟩:=ev;obtain⟨oo,dU,oc⟩:=ov;obtain⟨c,d⟩:=x;obtain⟨h0,h1,h2⟩:=gM w #[K L b.me,D no nn nc,D ao an ac,D so sn sc,D eo en ec,D oo dU oc] #[K L c,K L d] 28 31;have h3:=fF ((w.alloc (Q #[K L b.me,D no nn nc,D ao an ac,D so sn sc,D eo en ec,D oo dU oc] 28)).alloc (Q #[K L c,K L d] 31)) (Q #[K L 0,D aA 0 0,D aA 0 0,D aA 0 0,D aA 0 0,D aA 0 0] 28);have h4:=dO ((w.alloc (Q #[K L b.me,D no nn nc,D ao an ac,D so sn sc,D eo en ec,D oo dU oc] 28)).alloc (Q #[K L c,K L d] 31)) #[K L 0,D aA 0 0,D aA 0 0,D aA 0 0,D aA 0 0,D aA 0 0] 28;have hsz:((w.alloc (Q #[K L b.me,D no nn nc,D ao an ac,D so sn sc,D eo en ec,D oo dU oc] 28)).alloc (Q #[K L c,K L d] 31)).heap.size=w.heap.size+1+1:=by simp
 rw [hsz] at h4;have BB:=J (h0.trans (h3.mono h0.size));have X1:=J (h1.on h3);have X2:=J (h2.on h3);have X3:=J h4;have HH:=J h;have HF:=J hf;have HP:=J hp;obtain⟨la,ha1,ha2⟩:=h.dP;have SW:=J (JO b.me (D no nn nc) (D so sn sc) (D eo en ec) (D oo dU oc) (ao,an,ac) la b.dP (c,d) _ (ha1.on BB.out) (ha2.mono fun _ _ q=>q.on BB.out) hp.dP);obtain⟨fa,hfa⟩:∃ fa,gG b.dP (c,d)=fa:=⟨_,rfl⟩;rw [hfa] at SW;have FA:=J hfa;obtain⟨x0,x1,x2,x3,x4,x5⟩:=X1.out.eX;obtain⟨d0,d1⟩:=X2.out.cs2;clear h0 h1 h2 h3 h4 hsz h hf hp hfa ha1 ha2 la;go_enter Tryz.func37,Tryz.ntmps37;go_wp2_with fail;generalize ((w.alloc (Q #[K L b.me,D no nn nc,D ao an ac,D so sn sc,D eo en ec,D oo dU oc] 28)).alloc (Q #[K L c,K L d] 31)).alloc (Q #[K L 0,D aA 0 0,D aA 0 0,D aA 0 0,D aA 0 0,D aA 0 0] 28)=W at *;refine SW.out.mono ?_;rintro e1 w1 ⟨hq,hb⟩;have B1:=J (BB.out.trans (hb.mono BB.out.size));have Z1:=J (X1.out.on hb);have Z2:=J (X2.out.on hb);have Z3:=J (X3.out.on hb);clear SW hb x0 x1 x2 x3 x4 x5 d0 d1 X1 X2 X3;cases fa with
 | none =>
  have LQ:=J (show gW b (c,d) f=(b,aD) by unfold gW; rw [FA.out]);subst hq;have nb:=fF w1 (Q #[K L 0,K L 0,D aA 0 0,K L 0] 74);have B2:=J (B1.out.trans (nb.mono B1.out.size));have Y1:=Z1.out.on nb;have Y3:=Z3.out.on nb;obtain⟨x0,x1,x2,x3,x4,x5⟩:=Y1.eX;obtain⟨z0,z1,z2,z3,z4,z5⟩:=Y3.eX;obtain⟨t0,t1,t2,t3,t4,t5⟩:=Y3.kI;have zz:=Y3.lt;have FB:=J (dK Y3 (K L b.me) (D no nn nc) (D ao an ac) (D so sn sc) (D eo en ec) (D oo dU oc));have FL:=J (dG (b:=w.heap.size+1+1) B2.out (by omega) (K L b.me) (D no nn nc) (D ao an ac) (D so sn sc) (D eo en ec) (D oo dU oc));clear Y1 Y3 nb;go_wp2_with fail;obtain⟨v0,v1,v2,v3,v4,v5⟩:=FB.out.eX;refine bodyPost_ret (v:=.tuple #[aU #[K L b.me,D no nn nc,D ao an ac,D so sn sc,D eo en ec,D oo dU oc],aB aD]) (by simp [results,aJ,go_sem,v0,v1,v2,v3,v4,v5]) rfl ?_;rw [LQ.out];exact⟨⟨(no,nn,nc),(ao,an,ac),(so,sn,sc),(eo,en,ec),(oo,dU,oc),rfl,HH.out.on FL.out,fun h=>h.on FL.out,fun h=>(h.resolve_right (by simp)).on FL.out⟩,FL.out⟩
 | some a =>
  obtain⟨⟨r1,r2,⟨ro,rn,rc⟩,r4⟩,rfl,hr1,hr2,hr3⟩:=hq;have nb:=fF w1 (Q #[K L r1,K L r2,D ro rn rc,K L r4] 74);have bx:=dO w1 #[K L r1,K L r2,D ro rn rc,K L r4] 74;have b3:=bx.cell 3;have B2:=J (B1.out.trans (nb.mono B1.out.size));have Y1:=Z1.out.on nb;have Y2:=Z2.out.on nb;have Y3:=Z3.out.on nb;have AP:=J (show a.par=r4 from hr2.symm);obtain⟨x0,x1,x2,x3,x4,x5⟩:=Y1.eX;obtain⟨z0,z1,z2,z3,z4,z5⟩:=Y3.eX;obtain⟨t0,t1,t2,t3,t4,t5⟩:=Y3.kI;simp only [ak,V,Z] at b3;have zz:=Y3.lt;by_cases hpf:r4=f
  ·have LQ:=J (show gW b (c,d) f=({ b with dP:=b.dP.filter fun e=>decide (e.id≠(c,d)),ent:=b.ent.filter fun e=>decide (e.tree≠(c,d)) },aP) by unfold gW; rw [FA.out]; simp only; rw [if_pos (by rw [AP.out]; exact hpf)]);have hne:(r4 != f)=aD:=by simp [hpf]
   have Z1:=J Y1;have Z2:=J Y2;have Z3:=J Y3;have L1:=J Y1.lt;have L3:=J (show w.heap.size+1<(w1.alloc (Q #[K L r1,K L r2,D ro rn rc,K L r4] 74)).heap.size from Y2.lt);clear Y1 Y2 Y3 nb bx z0 z1 z2 z3 z4 z5 t0 t1 t2 t3 t4 t5 zz hr1 hr2 hr3 hpf;go_wp2_with fail;clear b3 x0 x1 x2 x3 x4 x5 hne;generalize w1.alloc (Q #[K L r1,K L r2,D ro rn rc,K L r4] 74)=w1a at *;refine (uU b (no,nn,nc) (ao,an,ac) (so,sn,sc) (eo,en,ec) (oo,dU,oc) w w1a B2.out HH.out HF.out HP.out).mono ?_;rintro e2 w2 ⟨⟨⟨p1,q1,s1⟩,⟨p2,q2,s2⟩,⟨p3,q3,s3⟩,⟨p4,q4,s4⟩,⟨p5,q5,s5⟩,rfl,cp⟩,hb2⟩;have V1:=Z1.out.on hb2;have V2:=J (Z2.out.on hb2);have V3:=J (Z3.out.on hb2);obtain⟨x0,x1,x2,x3,x4,x5⟩:=V1.eX;obtain⟨t0,t1,t2,t3,t4,t5⟩:=V1.kI;have zz:=V1.lt;have FB:=J (dK V1 (K L b.me) (D p1 q1 s1) (D p2 q2 s2) (D p3 q3 s3) (D p4 q4 s4) (D p5 q5 s5));have FC:=J (cp.but (eU w2 w.heap.size (K L b.me) (D p1 q1 s1) (D p2 q2 s2) (D p3 q3 s3) (D p4 q4 s4) (D p5 q5 s5)) V1);have FL:=J (dG (b:=w.heap.size) (B2.out.trans (hb2.mono B2.out.size)) (Nat.le_refl _) (K L b.me) (D p1 q1 s1) (D p2 q2 s2) (D p3 q3 s3) (D p4 q4 s4) (D p5 q5 s5));have F2:=J ((eU w2 w.heap.size (K L b.me) (D p1 q1 s1) (D p2 q2 s2) (D p3 q3 s3) (D p4 q4 s4) (D p5 q5 s5)).box V2.out (by omega));have F3:=J ((eU w2 w.heap.size (K L b.me) (D p1 q1 s1) (D p2 q2 s2) (D p3 q3 s3) (D p4 q4 s4) (D p5 q5 s5)).box V3.out (by omega));have SZ:=J (show w1a.heap.size<=(gN w2 w.heap.size (K L b.me) (D p1 q1 s1) (D p2 q2 s2) (D p3 q3 s3) (D p4 q4 s4) (D p5 q5 s5)).heap.size by have:=hb2.size; simp; omega);have L2:=J (show w.heap.size<w1a.heap.size from L1.out);clear V1 V2 V3 cp hb2 Z1 Z2 Z3 L1;go_upto_region 5 with fail;clear x0 x1 x2 x3 x4 x5 t0 t1 t2 t3 t4 t5 zz;unfold gN at FB FC FL F2 F3 SZ;generalize ((((((w2).setCell ⟨w.heap.size,0,aA⟩ (K L b.me)).setCell ⟨w.heap.size,1,aA⟩ (D p1 q1 s1)).setCell ⟨w.heap.size,2,aA⟩ (D p2 q2 s2)).setCell ⟨w.heap.size,3,aA⟩ (D p3 q3 s3)).setCell ⟨w.heap.size,4,aA⟩ (D p4 q4 s4)).setCell ⟨w.heap.size,5,aA⟩ (D p5 q5 s5)=w3 at *;obtain⟨la,RX,RY⟩:=FC.out.dP;have DL:=J (Vr w1a.heap.size (p2,q2,s2) la (w.heap.size+1) c d w3 RX F2.out SZ.out);have TG:=J (kK RX);have HL2:=J RY;have x2:=FB.out.cell 2;simp only [ak,V,Z] at x2;clear RX RY;go_wp2_with fail;refine DL.out.mono ?_;rintro e4 w4 ⟨⟨⟨t1,t2,t3⟩,rfl,hown⟩,hbel,hoff⟩;have CP2:=J (FC.out.air (Ac:=(t1,t2,t3)) (al:=b.dP.filter fun e=>decide (e.id≠(c,d))) hoff ⟨_,hown,xH _ _ (HL2.out.mono fun _ _ q=>q.off hoff TG.out (by decide)) fun y z q=>by
    show decide (jw y≠(c,d))=decide (z.id≠(c,d));rw [show jw y=z.id from q.1]⟩)
   have G1:=hoff.box FB.out TG.out (by decide);have G2:=hoff.box F2.out TG.out (by decide);have G3:=hoff.box F3.out TG.out (by decide);have M1:=J (show dJ (w4.setCell ⟨w.heap.size,2,aA⟩ (D t1 t2 t3)) w.heap.size #[K L b.me,D p1 q1 s1,D t1 t2 t3,D p3 q3 s3,D p4 q4 s4,D p5 q5 s5] 28 by simpa using dZ (k:=2) G1 (D t1 t2 t3));have M2:=J ((dQ w4 w.heap.size 2 (D t1 t2 t3)).box G2 (by omega));have M3:=J ((dQ w4 w.heap.size 2 (D t1 t2 t3)).box G3 (by omega));have MC:=J (CP2.out.but (dQ w4 w.heap.size 2 (D t1 t2 t3)) G1);have ML:=J (show Below w.heap.size w (w4.setCell ⟨w.heap.size,2,aA⟩ (D t1 t2 t3)) from (FL.out.trans (hbel.mono (Nat.le_of_lt L2.out))).setCell (p:=⟨w.heap.size,2,aA⟩) (Nat.le_refl _) _);have MZ:=J (show w1a.heap.size<=(w4.setCell ⟨w.heap.size,2,aA⟩ (D t1 t2 t3)).heap.size by have:=SZ.out; have:=hbel.size; simp; omega);clear x2;have x2:=G1.cell 2;have f2:=G1.fr 2;have zz:=G1.lt;simp only [ak,V,Z] at x2;clear hown hbel hoff G1 G2 G3 CP2 FB FC F2 F3 FL SZ HL2 TG DL la;go_upto_region 6 with fail;clear x2 f2 zz;generalize w4.setCell ⟨w.heap.size,2,aA⟩ (D t1 t2 t3)=w5 at *;obtain⟨le,hle1,hle2⟩:=MC.out.ent
   replace hle2:eY (Mc (vw w) w1a.heap.size w5) le b.ent:=hle2
   have DL:=J (Vt w1a.heap.size (p4,q4,s4) le (w.heap.size+1) c d w5 hle1 M2.out MZ.out);have TG:=J (kK hle1);have HL2:=J hle2;have x4:=M1.out.cell 4;simp only [ak,V,Z] at x4;clear hle1 hle2;go_wp2_with fail;refine DL.out.mono ?_;rintro e5 w6 ⟨⟨⟨r1,r2,r3⟩,rfl,hown⟩,hbel,hoff⟩;have CP4:=J (MC.out.af7 (ev':=(r1,r2,r3)) (el:=b.ent.filter fun e=>decide (e.tree≠(c,d))) hoff ⟨_,hown,xH _ _ (HL2.out.mono fun _ _ q=>q.off hoff TG.out (by decide)) fun y z q=>by
    show decide (xG y≠(c,d))=decide (z.tree≠(c,d));rw [show xG y=z.tree from q.1]⟩)
   have K1:=hoff.box M1.out TG.out (by decide);have K3:=hoff.box M3.out TG.out (by decide);have KL:=ML.out.trans (hbel.mono (Nat.le_of_lt L2.out));have U1:=J (show dJ (w6.setCell ⟨w.heap.size,4,aA⟩ (D r1 r2 r3)) w.heap.size #[K L b.me,D p1 q1 s1,D t1 t2 t3,D p3 q3 s3,D r1 r2 r3,D p5 q5 s5] 28 by simpa using dZ (k:=4) K1 (D r1 r2 r3));have U3:=J ((dQ w6 w.heap.size 4 (D r1 r2 r3)).box K3 (by omega));have UC:=J (CP4.out.but (dQ w6 w.heap.size 4 (D r1 r2 r3)) K1);have UL:=J (show Below w.heap.size w (w6.setCell ⟨w.heap.size,4,aA⟩ (D r1 r2 r3)) from KL.setCell (p:=⟨w.heap.size,4,aA⟩) (Nat.le_refl _) _);clear x4;have x4:=K1.cell 4;have f4:=K1.fr 4;have zz:=K1.lt;simp only [ak,V,Z] at x4;clear hown hbel hoff K1 K3 KL CP4 MC M1 M2 M3 ML MZ HL2 TG DL le;go_upto_region 7 with fail;clear x4 f4 zz;generalize w6.setCell ⟨w.heap.size,4,aA⟩ (D r1 r2 r3)=w7 at *;have Q1:=U1.out;have Q3:=U3.out;obtain⟨x0,x1,x2,x3,x4,x5⟩:=Q1.eX;obtain⟨z0,z1,z2,z3,z4,z5⟩:=Q3.eX;obtain⟨f0,f1,f2,f3,f4,f5⟩:=Q3.kI;have zz:=Q3.lt;have FB:=J (dK Q3 (K L b.me) (D p1 q1 s1) (D t1 t2 t3) (D p3 q3 s3) (D r1 r2 r3) (D p5 q5 s5));have FC:=J (UC.out.but (eU w7 (w.heap.size+1+1) (K L b.me) (D p1 q1 s1) (D t1 t2 t3) (D p3 q3 s3) (D r1 r2 r3) (D p5 q5 s5)) Q3);have FL:=J (dG (b:=w.heap.size+1+1) UL.out (by omega) (K L b.me) (D p1 q1 s1) (D t1 t2 t3) (D p3 q3 s3) (D r1 r2 r3) (D p5 q5 s5));clear Q1 Q3 U1 U3 UC UL;go_wp2_with fail;obtain⟨v0,v1,v2,v3,v4,v5⟩:=FB.out.eX;refine bodyPost_ret (v:=.tuple #[aU #[K L b.me,D p1 q1 s1,D t1 t2 t3,D p3 q3 s3,D r1 r2 r3,D p5 q5 s5],aB aP]) (by simp [results,aJ,go_sem,v0,v1,v2,v3,v4,v5]) rfl ?_;rw [LQ.out];exact⟨⟨(p1,q1,s1),(t1,t2,t3),(p3,q3,s3),(r1,r2,r3),(p5,q5,s5),rfl,FC.out.vbr,fun _=>⟨_,FC.out.near⟩,fun _=>⟨_,_,FC.out⟩⟩,FL.out⟩
  ·have LQ:=J (show gW b (c,d) f=(b,aD) by unfold gW; rw [FA.out]; simp only; rw [if_neg (by rw [AP.out]; exact hpf)]);have hne:(r4 != f)=aP:=by simp [hpf]
   have FB:=J (dK Y3 (K L b.me) (D no nn nc) (D ao an ac) (D so sn sc) (D eo en ec) (D oo dU oc));have FL:=J (dG (b:=w.heap.size+1+1) B2.out (by omega) (K L b.me) (D no nn nc) (D ao an ac) (D so sn sc) (D eo en ec) (D oo dU oc));clear Y1 Y2 Y3 nb bx hr1 hr2 hr3 hpf;go_wp2_with fail;obtain⟨v0,v1,v2,v3,v4,v5⟩:=FB.out.eX;refine bodyPost_ret (v:=.tuple #[aU #[K L b.me,D no nn nc,D ao an ac,D so sn sc,D eo en ec,D oo dU oc],aB aD]) (by simp [results,aJ,go_sem,v0,v1,v2,v3,v4,v5]) rfl ?_;rw [LQ.out];exact⟨⟨(no,nn,nc),(ao,an,ac),(so,sn,sc),(eo,en,ec),(oo,dU,oc),rfl,HH.out.on FL.out,fun h=>h.on FL.out,fun h=>(h.resolve_right (by simp)).on FL.out⟩,FL.out⟩
abbrev Ic (p:List C5):Prop:=∀ x∈p,x.1.size<=maxLen/\x.2.2.2.2.size<=maxLen
def Ag (b:Br) (a:Ad):Bool:=decide (a.id∈b.seen) && (iL b.near a.par && Wr.fU a.p)
theorem aaN (b:Br) (a:Ad) (nv av sv ev ov:Sl) (x:jv) (w:aI) (h:iN w b nv av sv ev ov) (ha:sF w x a) (hf:Hq b) (hn:b.near.Pairwise (·<=·)) (hr:Fq b.seen) (ht:Ic a.p) :
  aG ah 65 #[mo b.me nv av sv ev ov,lX x] w fun e w'=>e=au (aB (Ag b a))/\Below w.heap.size w w':=by
 obtain⟨no,nn,nc⟩:=nv;obtain⟨ao,an,ac⟩:=av;obtain⟨so,sn,sc⟩:=sv;obtain⟨eo,en,ec⟩:=ev;obtain⟨oo,dU,oc⟩:=ov;obtain⟨x1,x2,⟨xo,xn,xc⟩,x4⟩:=x;obtain⟨h0,X,Y⟩:=gM w #[K L b.me,D no nn nc,D ao an ac,D so sn sc,D eo en ec,D oo dU oc] #[K L x1,K L x2,D xo xn xc,K L x4] 28 74;have B0:=J h0;have HX:=J X;have HY:=J Y;have C1:=J (Ph (D so sn sc) b.seen (x1,x2) _ (h.seen.on h0) hr hf.seen);have C2:=J (fun W' (q:Below w.heap.size w W')=>Fa b.me (no,nn,nc) (D ao an ac) (D so sn sc) (D eo en ec) (D oo dU oc) b.near x4 W' (h.near.on q) hn hf.near);have C3:=J (fun W' (q:Below w.heap.size w W')=>Avp.wH (D xo xn xc) a.p W' (ha.2.2.on q) ht);rw [yX hr] at C1;have RS:=J (show Ag b a=(decide ((x1,x2)∈b.seen) && (iL b.near x4 && Wr.fU a.p)) by unfold Ag; rw [<- ha.1,<- ha.2.1]);generalize Ag b a=res at *;have em:decide ((x1,x2)∈aT sI b.seen)=decide ((x1,x2)∈b.seen):=by rw [show aT sI b.seen=b.seen from List.map_id' _]
 rw [em] at C1;generalize decide ((x1,x2)∈b.seen)=r1 at *;generalize iL b.near x4=r2 at *;generalize Wr.fU a.p=r3 at *;generalize gF sI b.seen (x1,x2)=pk at *;obtain⟨zB,zC,zD,zF,zG,zH⟩:=X.eX;obtain⟨IL,IQ,IU,JW⟩:=Y.Ak;clear h0 X Y h ha hf hn hr ht em;go_enter Tryz.func65,Tryz.ntmps65;go_wp2_with fail;refine C1.out.mono ?_;rintro e1 w1 ⟨rfl,hb⟩;have B1:=J (B0.out.trans (hb.mono B0.out.size));have X1:=J (HX.out.on hb);have Y1:=J (HY.out.on hb);clear hb zB zC zD zF zG zH IL IQ IU JW HX HY;obtain⟨zB,zC,zD,zF,zG,zH⟩:=X1.out.eX;obtain⟨IL,IQ,IU,JW⟩:=Y1.out.Ak;cases r1
 ·go_wp2_with fail;go_ret;exact⟨by rw [RS.out]; rfl,B1.out⟩
 ·go_wp2_with fail;refine (C2.out _ B1.out).mono ?_;rintro e2 w2 ⟨rfl,hb⟩;have B2:=J (B1.out.trans (hb.mono B1.out.size));have Y2:=J (Y1.out.on hb);clear hb zB zC zD zF zG zH IL IQ IU JW;obtain⟨IL,IQ,IU,JW⟩:=Y2.out.Ak;cases r2
  ·go_wp2_with fail;go_ret;exact⟨by rw [RS.out]; rfl,B2.out⟩
  ·go_wp2_with fail;refine (C3.out _ B2.out).mono ?_;rintro e3 w3 ⟨rfl,hb⟩;have B3:=J (B2.out.trans (hb.mono B2.out.size));clear hb IL IQ IU JW;go_wp2;go_ret;exact⟨by rw [RS.out]; rfl,B3.out⟩
def pU (b:Br) (e:En):Bool:=match gG b.dP e.tree with
 | none=>aD
 | some a=>!(e.from_ == a.par && !(a.par == -1)) && (iL b.near e.from_ && (!(e.up && a.par == -1) && Wr.fU e.p))
theorem Vv {W:aI} {l:List jv} {al:List Ad} (hA:eY (sF W) l al) (hr:lC jw l) (t:fD):(kZ jw l t=aD/\gG al t=aA)\/(kZ jw l t=aP/\∃ (y:jv) (a:Ad),l[gF jw l t]?=aL y/\gG al t=aL a/\sF W y a):=by
 cases ht:kZ jw l t with
 | false =>
  refine Or.inl ⟨rfl,pR fun j a hj e=>?_⟩;obtain⟨y,hy,hya⟩:=hA.at j a hj;have hm:t∈l.map jw:=List.mem_map.2 ⟨y,U hy,by rw [<- e]; exact hya.1⟩;rw [yX hr,decide_eq_true hm] at ht;cases ht
 | true =>
  right;refine⟨rfl,?_⟩;unfold kZ at ht;cases hy:l[gF jw l t]? with
  | none=>rw [hy] at ht; cases ht
  | some y =>
   rw [hy] at ht;have hk:jw y=t:=of_decide_eq_true ht;have hlt:=(O.1 hy).1;obtain⟨a,ha⟩:∃ a,al[gF jw l t]?=aL a:=⟨_,ay (by rw [<- hA.len]; exact hlt)⟩;obtain⟨y',hy',hya⟩:=hA.at _ a ha;rw [hy] at hy';obtain rfl:=aC hy';refine⟨y,a,rfl,qY ha (by rw [<- hya.1]; exact hk) (fun j z hj hz e=>?_),hya⟩;obtain⟨u,hu,huz⟩:=hA.at j z hz;have h1:=mG hr hj hu hy;rw [show jw u=t from huz.1.trans e,hk,kX] at h1;cases h1
theorem aaO (b:Br) (e:En) (nv av sv ev ov:Sl) (x:iH) (w:aI) (h:iN w b nv av sv ev ov) (he:jD w x e) (hf:Hq b) (hn:b.near.Pairwise (·<=·)) (hr:ql b.dP) (ht:Ic e.p) :
  aG ah 68 #[mo b.me nv av sv ev ov,nW x] w fun r w'=>r=au (aB (pU b e))/\Below w.heap.size w w':=by
 obtain⟨no,nn,nc⟩:=nv;obtain⟨ao,an,ac⟩:=av;obtain⟨so,sn,sc⟩:=sv;obtain⟨eo,en,ec⟩:=ev;obtain⟨oo,dU,oc⟩:=ov;obtain⟨x1,x2,x3,x4,⟨xo,xn,xc⟩,x6,x7⟩:=x;obtain⟨h0,X,Y⟩:=gM w #[K L b.me,D no nn nc,D ao an ac,D so sn sc,D eo en ec,D oo dU oc] #[K L x1,K L x2,K L x3,K L x4,D xo xn xc,K L x6,aB x7] 28 66;have B0:=J h0;have HX:=J X;have HY:=J Y;obtain⟨la,ha1,ha2⟩:=h.dP;have hrl:lC jw la:=by
  have:=(uW Ad.id b.dP).1 hr;rw [uW,show la.map jw=b.dP.map Ad.id from by
   clear ha1 this hr hf h;generalize b.dP=al at ha2
   induction ha2 with
   | nil=>rfl
   | cons q _ ih=>rw [aQ,aQ,ih]; exact congrArg (·::_) q.1]
  exact this
 have hla:la.length<=900:=by rw [ha2.len]; exact hf.dP
 have C1:=J (Pm (D ao an ac) la (x1,x2,(aA,0,0),0) _ (ha1.on h0) hrl hla);have C2:=J (fun W' (q:Below w.heap.size w W')=>Fa b.me (no,nn,nc) (D ao an ac) (D so sn sc) (D eo en ec) (D oo dU oc) b.near x6 W' (h.near.on q) hn hf.near);have C3:=J (fun W' (q:Below w.heap.size w W')=>Avp.wH (D xo xn xc) e.p W' (he.2.2.2.2.on q) ht);have FF:=Vv ha2 hrl (x1,x2);have HT:=he.1;have HFR:=he.2.2.1;have HUP:=he.2.2.2.1;have HA1:=J ha1;have LL:=J hla;have RS:=J (show pU b e=match gG b.dP (x1,x2) with | none=>aD | some a=>!(x6 == a.par && !(a.par == -1)) && (iL b.near x6 && (!(x7 && a.par == -1) && Wr.fU e.p)) by unfold pU; rw [<- HT,<- HFR,<- HUP]);generalize pU b e=res at *;generalize iL b.near x6=r2 at *;generalize Wr.fU e.p=r3 at *;obtain⟨zB,zC,zD,zF,zG,zH⟩:=X.eX;obtain⟨IL,IQ,IU,JW,ZU,ZV,ZW⟩:=Y.nJ;clear h0 X Y h he hf hn hr ht hrl hla HT HFR HUP;rcases FF with⟨t0,f0⟩|⟨t0,y,a,hy,f0,hya⟩
 ·have C1:Hid (aG ah 115 #[D ao an ac,aU #[K L x1,K L x2,D aA 0 0,K L 0],.func (.func 58) #[] #[]] ((w.alloc (Q #[K L b.me,D no nn nc,D ao an ac,D so sn sc,D eo en ec,D oo dU oc] 28)).alloc (Q #[K L x1,K L x2,K L x3,K L x4,D xo xn xc,K L x6,aB x7] 66)) fun e1 w'=>e1=au (.tuple #[K L (gF jw la (x1,x2)),aB aD])/\Below ((w.alloc (Q #[K L b.me,D no nn nc,D ao an ac,D so sn sc,D eo en ec,D oo dU oc] 28)).alloc (Q #[K L x1,K L x2,K L x3,K L x4,D xo xn xc,K L x6,aB x7] 66)).heap.size ((w.alloc (Q #[K L b.me,D no nn nc,D ao an ac,D so sn sc,D eo en ec,D oo dU oc] 28)).alloc (Q #[K L x1,K L x2,K L x3,K L x4,D xo xn xc,K L x6,aB x7] 66)) w'):=by rw [<- t0]; exact C1
  have RF:=J (show res=aD by rw [RS.out,f0]);clear RS t0 f0 HA1 ha1 ha2;go_enter aS,aR;go_wp2_with fail;refine C1.out.mono ?_;rintro e1 w1 ⟨rfl,hb⟩;have B1:=J (B0.out.trans (hb.mono B0.out.size));clear hb;go_wp2_with fail;go_ret;exact⟨by rw [RF.out]; rfl,B1.out⟩
 ·have C1:Hid (aG ah 115 #[D ao an ac,aU #[K L x1,K L x2,D aA 0 0,K L 0],.func (.func 58) #[] #[]] ((w.alloc (Q #[K L b.me,D no nn nc,D ao an ac,D so sn sc,D eo en ec,D oo dU oc] 28)).alloc (Q #[K L x1,K L x2,K L x3,K L x4,D xo xn xc,K L x6,aB x7] 66)) fun e1 w'=>e1=au (.tuple #[K L (gF jw la (x1,x2)),aB aP])/\Below ((w.alloc (Q #[K L b.me,D no nn nc,D ao an ac,D so sn sc,D eo en ec,D oo dU oc] 28)).alloc (Q #[K L x1,K L x2,K L x3,K L x4,D xo xn xc,K L x6,aB x7] 66)).heap.size ((w.alloc (Q #[K L b.me,D no nn nc,D ao an ac,D so sn sc,D eo en ec,D oo dU oc] 28)).alloc (Q #[K L x1,K L x2,K L x3,K L x4,D xo xn xc,K L x6,aB x7] 66)) w'):=by rw [<- t0]; exact C1
  obtain⟨uo,uc,hv⟩:=ha1.len;have hv:D ao an ac=D uo la.length uc:=hv;obtain⟨rfl,rfl,rfl⟩:ao=uo/\an=la.length/\ac=uc:=by simpa using hv
  obtain⟨p,ix,px⟩:=IJ HA1.out rfl rfl hy;obtain⟨y1,y2,⟨yo,yn,yc⟩,y4⟩:=y;have hpar:a.par=y4:=hya.2.1.symm;have RS:=J (show res=(!(x6 == y4 && !(y4 == -1)) && (r2 && (!(x7 && y4 == -1) && r3))) by rw [RS.out,f0]; simp only; rw [hpar]);obtain⟨q1,hq1⟩:∃ q,(x6 == y4)=q:=⟨_,rfl⟩;obtain⟨q2,hq2⟩:∃ q,(y4 == -1)=q:=⟨_,rfl⟩;rw [hq1,hq2] at RS;generalize gF jw la (x1,x2)=pk at *;generalize la.length=n at *;clear t0 f0 HA1 ha1 ha2 hy hya hpar hv;have PX:=J px;clear px;go_enter aS,aR;go_wp2_with fail;refine C1.out.mono ?_;rintro e1 w1 ⟨rfl,hb⟩;have B1:=J (B0.out.trans (hb.mono B0.out.size));have X1:=J (HX.out.on hb);have Y1:=J (HY.out.on hb);clear hb zB zC zD zF zG zH IL IQ IU JW ZU ZV ZW HX HY C1;obtain⟨zB,zC,zD,zF,zG,zH⟩:=X1.out.eX;obtain⟨IL,IQ,IU,JW,ZU,ZV,ZW⟩:=Y1.out.nJ;have p3:=(PX.out w1 B1.out).2.2.2;cases q1
  ·go_wp2_with fail
   go_quiet (fail)
   go_wp2_with fail;have BQ:=J (show Below w.heap.size w (w1.drewN nq) from ⟨B1.out.os,B1.out.tape,B1.out.output,B1.out.size,B1.out.block⟩);have YQ:=J (show dJ (w1.drewN nq) (w.heap.size+1) #[K L x1,K L x2,K L x3,K L x4,D xo xn xc,K L x6,aB x7] 66 from Y1.out);clear zB zC zD zF zG zH IL IQ IU JW ZU ZV ZW p3 ix X1 Y1 hq1;refine (C2.out _ BQ.out).mono ?_;rintro e2 w2 ⟨rfl,hb⟩;have B2:=J (BQ.out.trans (hb.mono BQ.out.size));have Y2:=J (YQ.out.on hb);clear hb BQ YQ B1;obtain⟨IL,IQ,IU,JW,ZU,ZV,ZW⟩:=Y2.out.nJ;cases r2
   ·go_wp2_with fail;go_ret;exact⟨by rw [RS.out]; simp,B2.out⟩
   cases x7
   ·go_wp2_with fail;refine (C3.out _ B2.out).mono ?_;rintro e3 w3 ⟨rfl,hb⟩;have B3:=J (B2.out.trans (hb.mono B2.out.size));clear hb IL IQ IU JW ZU ZV ZW;go_wp2;go_ret;exact⟨by rw [RS.out]; simp,B3.out⟩
   cases q2
   ·go_wp2_with fail;refine (C3.out _ B2.out).mono ?_;rintro e3 w3 ⟨rfl,hb⟩;have B3:=J (B2.out.trans (hb.mono B2.out.size));clear hb IL IQ IU JW ZU ZV ZW;go_wp2;go_ret;exact⟨by rw [RS.out]; simp,B3.out⟩
   ·go_wp2_with fail;go_ret;exact⟨by rw [RS.out]; simp,B2.out⟩
  ·cases q2
   ·go_wp2_with fail
    go_quiet (fail)
    go_wp2_with fail;go_ret;exact⟨by rw [RS.out]; simp,⟨B1.out.os,B1.out.tape,B1.out.output,B1.out.size,B1.out.block⟩⟩
   ·go_wp2_with fail
    go_quiet (fail)
    go_wp2_with fail;have BQ:=J (show Below w.heap.size w (w1.drewN nq) from ⟨B1.out.os,B1.out.tape,B1.out.output,B1.out.size,B1.out.block⟩);have YQ:=J (show dJ (w1.drewN nq) (w.heap.size+1) #[K L x1,K L x2,K L x3,K L x4,D xo xn xc,K L x6,aB x7] 66 from Y1.out);clear zB zC zD zF zG zH IL IQ IU JW ZU ZV ZW p3 ix X1 Y1 hq1;refine (C2.out _ BQ.out).mono ?_;rintro e2 w2 ⟨rfl,hb⟩;have B2:=J (BQ.out.trans (hb.mono BQ.out.size));have Y2:=J (YQ.out.on hb);clear hb BQ YQ B1;obtain⟨IL,IQ,IU,JW,ZU,ZV,ZW⟩:=Y2.out.nJ;cases r2
    ·go_wp2_with fail;go_ret;exact⟨by rw [RS.out]; simp,B2.out⟩
    cases x7
    ·go_wp2_with fail;refine (C3.out _ B2.out).mono ?_;rintro e3 w3 ⟨rfl,hb⟩;have B3:=J (B2.out.trans (hb.mono B2.out.size));clear hb IL IQ IU JW ZU ZV ZW;go_wp2;go_ret;exact⟨by rw [RS.out]; simp,B3.out⟩
    ·go_wp2_with fail;go_ret;exact⟨by rw [RS.out]; simp,B2.out⟩
theorem Vw (b:Br) (a:Ad) (nv av sv ev ov:Sl) (x:jv) (b1:Nat) (w:aI) (hb1:dJ w b1 (jo b.me nv av sv ev ov) 28) (h:iN w b nv av sv ev ov) (hx:sF w x a) (hf:Hq b) (hn:b.near.Pairwise (·<=·)) (hr:Fq b.seen) (ht:Ic a.p) :
  aG ah 64 #[lX x,aK (aL ⟨b1,0,aA⟩)] w fun e w'=>e=au (aB (Ag b a))/\Below w.heap.size w w':=by
 obtain⟨no,nn,nc⟩:=nv;obtain⟨ao,an,ac⟩:=av;obtain⟨so,sn,sc⟩:=sv;obtain⟨eo,en,ec⟩:=ev;obtain⟨oo,dU,oc⟩:=ov;obtain⟨x1,x2,⟨xo,xn,xc⟩,x4⟩:=x;have q:=fF w (Q #[K L x1,K L x2,D xo xn xc,K L x4] 74);have Y:=dO w #[K L x1,K L x2,D xo xn xc,K L x4] 74;have X:=hb1.on q;have C:=J (aaN b a (no,nn,nc) (ao,an,ac) (so,sn,sc) (eo,en,ec) (oo,dU,oc) (x1,x2,(xo,xn,xc),x4) _ (h.on q) (hx.on q) hf hn hr ht);generalize Ag b a=r at *;have B0:=J q;obtain⟨zB,zC,zD,zF,zG,zH⟩:=X.eX;obtain⟨IL,IQ,IU,JW⟩:=Y.Ak;clear q X Y h hx hf hn hr ht hb1;go_enter Tryz.func64,Tryz.ntmps64;go_wp2_with fail;refine C.out.mono ?_;rintro e w1 ⟨rfl,hb⟩;have B1:=J (B0.out.trans (hb.mono B0.out.size));clear hb;go_wp2;go_ret;exact⟨rfl,B1.out⟩
theorem Vx (b:Br) (a:En) (nv av sv ev ov:Sl) (x:iH) (b1:Nat) (w:aI) (hb1:dJ w b1 (jo b.me nv av sv ev ov) 28) (h:iN w b nv av sv ev ov) (hx:jD w x a) (hf:Hq b) (hn:b.near.Pairwise (·<=·)) (hr:ql b.dP) (ht:Ic a.p) :
  aG ah 67 #[nW x,aK (aL ⟨b1,0,aA⟩)] w fun e w'=>e=au (aB (pU b a))/\Below w.heap.size w w':=by
 obtain⟨no,nn,nc⟩:=nv;obtain⟨ao,an,ac⟩:=av;obtain⟨so,sn,sc⟩:=sv;obtain⟨eo,en,ec⟩:=ev;obtain⟨oo,dU,oc⟩:=ov;obtain⟨x1,x2,x3,x4,⟨xo,xn,xc⟩,x6,x7⟩:=x;have q:=fF w (Q #[K L x1,K L x2,K L x3,K L x4,D xo xn xc,K L x6,aB x7] 66);have Y:=dO w #[K L x1,K L x2,K L x3,K L x4,D xo xn xc,K L x6,aB x7] 66;have X:=hb1.on q;have C:=J (aaO b a (no,nn,nc) (ao,an,ac) (so,sn,sc) (eo,en,ec) (oo,dU,oc) (x1,x2,x3,x4,(xo,xn,xc),x6,x7) _ (h.on q) (hx.on q) hf hn hr ht);generalize pU b a=r at *;have B0:=J q;obtain⟨zB,zC,zD,zF,zG,zH⟩:=X.eX;obtain⟨IL,IQ,IU,JW,ZU,ZV,ZW⟩:=Y.nJ;clear q X Y h hx hf hn hr ht hb1;go_enter Tryz.func67,Tryz.ntmps67;go_wp2_with fail;refine C.out.mono ?_;rintro e w1 ⟨rfl,hb⟩;have B1:=J (B0.out.trans (hb.mono B0.out.size));clear hb;go_wp2;go_ret;exact⟨rfl,B1.out⟩
theorem Vy (a:Ow) (x:oq) (w:aI) (hx:yI w x a) (ht:Ic a.p) :
  aG ah 70 #[Bb x] w fun e w'=>e=au (aB (Wr.fU a.p))/\Below w.heap.size w w':=by
 obtain⟨x1,x2,⟨xo,xn,xc⟩⟩:=x;have q:=fF w (Q #[K L x1,K L x2,D xo xn xc] 34);have Y:=dO w #[K L x1,K L x2,D xo xn xc] 34;have C:=J (Avp.wH (D xo xn xc) a.p _ (hx.2.on q) ht);generalize Wr.fU a.p=r at *;have B0:=J q;obtain⟨IL,IQ,IU⟩:=Y.cs3;clear q Y hx ht;go_enter Tryz.func70,Tryz.ntmps70;go_wp2_with fail;refine C.out.mono ?_;rintro e w1 ⟨rfl,hb⟩;have B1:=J (B0.out.trans (hb.mono B0.out.size));clear hb;go_wp2;go_ret;exact⟨rfl,B1.out⟩
theorem Vz (b1:Nat) (v:Sl) (l:List jv) (al:List Ad) (ok:Ad->Bool) (w:aI) (hv:Row ED w (dY v) l) (hA:eY (sF w) l al)
  (hC:∀ (x:jv) (a:Ad) (W':aI),a∈al->Below w.heap.size w W'->sF W' x a->aG ah 64 #[lX x,aK (aL ⟨b1,0,aA⟩)] W' fun e w'=>e=au (aB (ok a))/\Below W'.heap.size W' w') :
  aG ah 63 #[dY v,.func (.func 64) #[] #[aK (aL ⟨b1,0,aA⟩)]] w fun e w'=>e=au (aB (al.all ok))/\Below w.heap.size w w':=by
 obtain⟨so,sn,sc⟩:=v;obtain⟨ao,ac,hs⟩:=hv.len;have hs:D so sn sc=D ao l.length ac:=hs;obtain⟨rfl,rfl,rfl⟩:so=ao/\sn=l.length/\sc=ac:=by simpa using hs
 have HL:=J hv;have HA:=J hA;have HC:=J hC;have lm:=hv.most;unfold maxLen at lm;obtain⟨n,hn⟩:∃ n,n=l.length:=⟨_,rfl⟩;rw [<- hn] at HL lm ⊢;have HN:=J hn.symm;obtain⟨res,hres⟩:∃ r,al.all ok=r:=⟨_,rfl⟩;rw [hres];have RS:=J hres;clear hv hA hC hs hn hres;go_enter Tryz.func63,Tryz.ntmps63;go_wp2
 go_loopw [9] (fun i wr=>∃ k:Nat,k<=n/\i=K L k/\Below w.heap.size w wr/\∀ (j:Nat) (a:Ad),j<k->al[j]?=aL a->ok a=aP) (fun i _=>n-(intOf i).toNat)
 case atStart=>exact⟨0,Nat.zero_le _,rfl,Below.refl _ _,fun j y h=>by omega⟩
 case round =>
  obtain⟨k,hk,rfl,hbe,hall⟩:=hrel;have BE:=J hbe;have AL:=J hall;clear hbe hall;by_cases hlt:k<n
  ·obtain⟨a,hak⟩:∃ a,al[k]?=aL a:=⟨_,ay (by rw [<- HA.out.len,HN.out]; exact hlt)⟩;obtain⟨x,hx,hxa⟩:=HA.out.at k a hak;obtain⟨p,ix,px⟩:=IJ HL.out rfl HN.out hx;obtain⟨p0,p1,p2,p3⟩:=px wr BE.out;have CC:=fun W' (q:Below w.heap.size w W')=>HC.out x a W' (U hak) q (hxa.on q);have Cj:=J hak;obtain⟨r,hr⟩:∃ r,ok a=r:=⟨_,rfl⟩;rw [hr] at CC;have HR:=J hr;clear hx hak hxa px hr;obtain⟨x1,x2,⟨xo,xn,xc⟩,x4⟩:=x;simp only at p0 p1 p2 p3;have NB:=fF wr (Q #[K L x1,K L x2,D xo xn xc,K L x4] 74);have C:=J (CC _ (BE.out.trans (NB.mono BE.out.size)));have BN:=J (BE.out.trans (NB.mono BE.out.size));have hw3:IntKind.i64.wrap ((k:Int)+1)=(k:Int)+1:=IntWalk.i64_in _ (by omega);clear CC NB;go_wp2_with fail;refine C.out.mono ?_;rintro e w1 ⟨rfl,hb⟩;have B1:=J (BN.out.trans (hb.mono BN.out.size));clear hb C ix p0 p1 p2 p3;cases r
   ·have R:=J (show res=aD by
     rw [<- RS.out];exact aF.2 ⟨a,U Cj.out,by rw [HR.out]; simp⟩)
    go_wp2;go_ret;exact⟨by rw [R.out]; rfl,B1.out⟩
   ·go_wp2
    go_roundw
    case rel=>exact⟨k+1,by omega,by go_num,B1.out,fun j y hj h1=>by
     rcases Nat.lt_or_ge j k with h3|h3
     ·exact AL.out j y h3 h1
     ·obtain rfl:j=k:=by omega
      have e1:=Cj.out;rw [h1] at e1;rw [aC e1];exact HR.out⟩
    case measure=>simp [intOf]; omega
  ·obtain rfl:k=n:=by omega
   have R:=J (show res=aP by
    rw [<- RS.out];refine aH.2 fun y hy=>?_;obtain⟨j,hj⟩:=aj.1 hy;exact AL.out j y (by have:=(O.1 hj).1; have:=HA.out.len; have:=HN.out; omega) hj)
   go_wp2;go_ret;exact⟨by rw [R.out]; rfl,BE.out⟩
theorem VA (b1:Nat) (v:Sl) (l:List iH) (al:List En) (ok:En->Bool) (w:aI) (hv:Row EN w (dY v) l) (hA:eY (jD w) l al)
  (hC:∀ (x:iH) (a:En) (W':aI),a∈al->Below w.heap.size w W'->jD W' x a->aG ah 67 #[nW x,aK (aL ⟨b1,0,aA⟩)] W' fun e w'=>e=au (aB (ok a))/\Below W'.heap.size W' w') :
  aG ah 66 #[dY v,.func (.func 67) #[] #[aK (aL ⟨b1,0,aA⟩)]] w fun e w'=>e=au (aB (al.all ok))/\Below w.heap.size w w':=by
 obtain⟨so,sn,sc⟩:=v;obtain⟨ao,ac,hs⟩:=hv.len;have hs:D so sn sc=D ao l.length ac:=hs;obtain⟨rfl,rfl,rfl⟩:so=ao/\sn=l.length/\sc=ac:=by simpa using hs
 have HL:=J hv;have HA:=J hA;have HC:=J hC;have lm:=hv.most;unfold maxLen at lm;obtain⟨n,hn⟩:∃ n,n=l.length:=⟨_,rfl⟩;rw [<- hn] at HL lm ⊢;have HN:=J hn.symm;obtain⟨res,hres⟩:∃ r,al.all ok=r:=⟨_,rfl⟩;rw [hres];have RS:=J hres;clear hv hA hC hs hn hres;go_enter Tryz.func66,Tryz.ntmps66;go_wp2
 go_loopw [9] (fun i wr=>∃ k:Nat,k<=n/\i=K L k/\Below w.heap.size w wr/\∀ (j:Nat) (a:En),j<k->al[j]?=aL a->ok a=aP) (fun i _=>n-(intOf i).toNat)
 case atStart=>exact⟨0,Nat.zero_le _,rfl,Below.refl _ _,fun j y h=>by omega⟩
 case round =>
  obtain⟨k,hk,rfl,hbe,hall⟩:=hrel;have BE:=J hbe;have AL:=J hall;clear hbe hall;by_cases hlt:k<n
  ·obtain⟨a,hak⟩:∃ a,al[k]?=aL a:=⟨_,ay (by rw [<- HA.out.len,HN.out]; exact hlt)⟩;obtain⟨x,hx,hxa⟩:=HA.out.at k a hak;obtain⟨p,ix,px⟩:=LK HL.out rfl HN.out hx;obtain⟨p0,p1,p2,p3,p4,p5,p6⟩:=px wr BE.out;have CC:=fun W' (q:Below w.heap.size w W')=>HC.out x a W' (U hak) q (hxa.on q);have Cj:=J hak;obtain⟨r,hr⟩:∃ r,ok a=r:=⟨_,rfl⟩;rw [hr] at CC;have HR:=J hr;clear hx hak hxa px hr;obtain⟨x1,x2,x3,x4,⟨xo,xn,xc⟩,x6,x7⟩:=x;simp only at p0 p1 p2 p3 p4 p5 p6;have NB:=fF wr (Q #[K L x1,K L x2,K L x3,K L x4,D xo xn xc,K L x6,aB x7] 66);have C:=J (CC _ (BE.out.trans (NB.mono BE.out.size)));have BN:=J (BE.out.trans (NB.mono BE.out.size));have hw3:IntKind.i64.wrap ((k:Int)+1)=(k:Int)+1:=IntWalk.i64_in _ (by omega);clear CC NB;go_wp2_with fail;refine C.out.mono ?_;rintro e w1 ⟨rfl,hb⟩;have B1:=J (BN.out.trans (hb.mono BN.out.size));clear hb C ix p0 p1 p2 p3 p4 p5 p6;cases r
   ·have R:=J (show res=aD by
     rw [<- RS.out];exact aF.2 ⟨a,U Cj.out,by rw [HR.out]; simp⟩)
    go_wp2;go_ret;exact⟨by rw [R.out]; rfl,B1.out⟩
   ·go_wp2
    go_roundw
    case rel=>exact⟨k+1,by omega,by go_num,B1.out,fun j y hj h1=>by
     rcases Nat.lt_or_ge j k with h3|h3
     ·exact AL.out j y h3 h1
     ·obtain rfl:j=k:=by omega
      have e1:=Cj.out;rw [h1] at e1;rw [aC e1];exact HR.out⟩
    case measure=>simp [intOf]; omega
  ·obtain rfl:k=n:=by omega
   have R:=J (show res=aP by
    rw [<- RS.out];refine aH.2 fun y hy=>?_;obtain⟨j,hj⟩:=aj.1 hy;exact AL.out j y (by have:=(O.1 hj).1; have:=HA.out.len; have:=HN.out; omega) hj)
   go_wp2;go_ret;exact⟨by rw [R.out]; rfl,BE.out⟩
theorem VB (v:Sl) (l:List oq) (al:List Ow) (ok:Ow->Bool) (w:aI) (hv:Row EW w (dY v) l) (hA:eY (yI w) l al)
  (hC:∀ (x:oq) (a:Ow) (W':aI),a∈al->Below w.heap.size w W'->yI W' x a->aG ah 70 #[Bb x] W' fun e w'=>e=au (aB (ok a))/\Below W'.heap.size W' w') :
  aG ah 69 #[dY v,.func (.func 70) #[] #[]] w fun e w'=>e=au (aB (al.all ok))/\Below w.heap.size w w':=by
 obtain⟨so,sn,sc⟩:=v;obtain⟨ao,ac,hs⟩:=hv.len;have hs:D so sn sc=D ao l.length ac:=hs;obtain⟨rfl,rfl,rfl⟩:so=ao/\sn=l.length/\sc=ac:=by simpa using hs
 have HL:=J hv;have HA:=J hA;have HC:=J hC;have lm:=hv.most;unfold maxLen at lm;obtain⟨n,hn⟩:∃ n,n=l.length:=⟨_,rfl⟩;rw [<- hn] at HL lm ⊢;have HN:=J hn.symm;obtain⟨res,hres⟩:∃ r,al.all ok=r:=⟨_,rfl⟩;rw [hres];have RS:=J hres;clear hv hA hC hs hn hres;go_enter Tryz.func69,Tryz.ntmps69;go_wp2
 go_loopw [9] (fun i wr=>∃ k:Nat,k<=n/\i=K L k/\Below w.heap.size w wr/\∀ (j:Nat) (a:Ow),j<k->al[j]?=aL a->ok a=aP) (fun i _=>n-(intOf i).toNat)
 case atStart=>exact⟨0,Nat.zero_le _,rfl,Below.refl _ _,fun j y h=>by omega⟩
 case round =>
  obtain⟨k,hk,rfl,hbe,hall⟩:=hrel;have BE:=J hbe;have AL:=J hall;clear hbe hall;by_cases hlt:k<n
  ·obtain⟨a,hak⟩:∃ a,al[k]?=aL a:=⟨_,ay (by rw [<- HA.out.len,HN.out]; exact hlt)⟩;obtain⟨x,hx,hxa⟩:=HA.out.at k a hak;obtain⟨p,ix,px⟩:=elW HL.out rfl HN.out hx;obtain⟨p0,p1,p2⟩:=px wr BE.out;have CC:=fun W' (q:Below w.heap.size w W')=>HC.out x a W' (U hak) q (hxa.on q);have Cj:=J hak;obtain⟨r,hr⟩:∃ r,ok a=r:=⟨_,rfl⟩;rw [hr] at CC;have HR:=J hr;clear hx hak hxa px hr;obtain⟨x1,x2,⟨xo,xn,xc⟩⟩:=x;simp only at p0 p1 p2;have NB:=fF wr (Q #[K L x1,K L x2,D xo xn xc] 34);have C:=J (CC _ (BE.out.trans (NB.mono BE.out.size)));have BN:=J (BE.out.trans (NB.mono BE.out.size));have hw3:IntKind.i64.wrap ((k:Int)+1)=(k:Int)+1:=IntWalk.i64_in _ (by omega);clear CC NB;go_wp2_with fail;refine C.out.mono ?_;rintro e w1 ⟨rfl,hb⟩;have B1:=J (BN.out.trans (hb.mono BN.out.size));clear hb C ix p0 p1 p2;cases r
   ·have R:=J (show res=aD by
     rw [<- RS.out];exact aF.2 ⟨a,U Cj.out,by rw [HR.out]; simp⟩)
    go_wp2;go_ret;exact⟨by rw [R.out]; rfl,B1.out⟩
   ·go_wp2
    go_roundw
    case rel=>exact⟨k+1,by omega,by go_num,B1.out,fun j y hj h1=>by
     rcases Nat.lt_or_ge j k with h3|h3
     ·exact AL.out j y h3 h1
     ·obtain rfl:j=k:=by omega
      have e1:=Cj.out;rw [h1] at e1;rw [aC e1];exact HR.out⟩
    case measure=>simp [intOf]; omega
  ·obtain rfl:k=n:=by omega
   have R:=J (show res=aP by
    rw [<- RS.out];refine aH.2 fun y hy=>?_;obtain⟨j,hj⟩:=aj.1 hy;exact AL.out j y (by have:=(O.1 hj).1; have:=HA.out.len; have:=HN.out; omega) hj)
   go_wp2;go_ret;exact⟨by rw [R.out]; rfl,BE.out⟩
end Go.Proofs.YtmklifheakemeaaGreat.Av
