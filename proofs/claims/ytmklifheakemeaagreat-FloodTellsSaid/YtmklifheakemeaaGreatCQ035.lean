/-
  The document's own M. Conditions as told.
-/
import Derived.Test.YtmklifheakemeaaGreatCQ034
import Derived.Test.YtmklifheakemeaaGreatCQ029
import Derived.Test.YtmklifheakemeaaGreatCQ027
set_option maxRecDepth 100000
set_option maxHeartbeats 64000000
open _root_.Bool renaming false->Q
open _root_.Go renaming World->Y,Value->aB,Calls->aD
open Go.IntKind renaming i64->L
open Go.Lib renaming hid->J
open Go.Obj renaming cells->Z
open Go.Proofs.Tryz renaming prog->X,results101->ay
open Go.Value renaming slice->D,int->K,agg->aG,bool->aH
open _root_.List renaming length_append->V,length_map->ah,length_take->ak,length_drop->au,mem_append->aA
open _root_.Nat renaming le_succ->U,le_refl->aj,le_trans->aC
open _root_.Option renaming none->O,some->aF
namespace Go.Proofs.YtmklifheakemeaaGreat
namespace Rl
open Go.RowKit Go.Sort Pu Rw Pr Va
theorem Sv {W:Y} {nU bv:aB} {a b:List Cn} (ha:fK W nU (a.map r5)) (hb:fK W bv (b.map r5)) (la:a.length<=5) (lb:b.length<=5) :
  ∃ v1 w1 v2 w2,(Builtin.append_ #[32,32] 32 #[D (aF ⟨W.heap.size,0,O⟩) 0 0,nU]).run X (W.alloc (Z #[] 70))=.ok v1 w1 /\
   (Builtin.append_ #[32,32] 32 #[v1,bv]).run X w1=.ok v2 w2/\fK w2 v2 ((a++b).map r5)/\Below W.heap.size W w2:=by
 have b0:=(Below.refl W.heap.size W).alloc (aj _) (Z #[] 70);obtain⟨v1,w1,r1,o1,g1⟩:=DJ W.heap.size (pF W) (ha.on b0) (by simp) (by rw [ah]; omega) (by simp);have b1:=b0.grown g1 b0.size (fun j hj=>((pF W).lt j hj).1);obtain⟨v2,w2,r2,o2,g2⟩:=DJ W.heap.size o1 (hb.on b1) (by simp; omega) (by rw [ah]; omega) b1.size;have b2:=b1.grown g2 b1.size (fun j hj=>(o1.lt j hj).1);exact⟨v1,w1,v2,w2,r1,r2,by rw [List.map_append]; exact Row.dH (by simpa using o2),b2⟩
theorem Kl (nU bv:aB) (a b:List Cn) (w:Y) (ha:fK w nU (a.map r5)) (hb:fK w bv (b.map r5)) (na:NF a) (nb:NF b):aD X 46 #[nU,bv] w fun e w'=>e=.returned (aH (tQ a b))/\Below w.heap.size w w':=by
 obtain⟨v1,w1,v2,w2,r1,r2,ro,b2⟩:=Sv ha hb na.five nb.five;have B2:=J b2;have MK:=J (Sr v2 (a++b) w2 ro (by have:=na.five; have:=nb.five; simp; omega));have RB:=J (Ug (b:=b) na.rise);have MR:=J (Uh (b:=b) na.rise na.five);rw [RB.out] at MK;generalize jS a b=res at *;generalize tQ a b=r at *;clear ha hb na nb ro b2 RB;go_enter Tryz.func46,Tryz.ntmps46;go_wp2_with (first | (at_builtin; refine wpList_append_run rfl _ _ 32 rfl rfl rfl r1 ?_) | (at_builtin; refine wpList_append_run rfl _ _ 32 rfl rfl rfl r2 ?_) | fail);refine MK.out.mono ?_;rintro e3 w3 ⟨hb3,h3⟩;have B3:=J (B2.out.trans (hb3.mono B2.out.size));clear hb3 MK r1 r2;rcases res with _|p
 ·have R:=J (show r=Q from MR.out);obtain rfl:=h3;clear MR;go_wp2;go_ret;exact⟨eu R.out.symm,B3.out⟩
 ·obtain⟨v,rfl,hp⟩:=h3;obtain⟨po,pc,rfl⟩:=hp.len;have R:=J (show r=decide (p.length<=5) from MR.out);rw [ah];clear MR hp;by_cases h5:p.length<=5
  ·have d1:decide ((p.length:Int)<=5)=true:=by simp; omega
   have R2:=J (show r=true by rw [R.out]; simpa using h5);clear R h5;go_wp2;go_ret;exact⟨eu R2.out.symm,B3.out⟩
  ·have d1:decide ((p.length:Int)<=5)=Q:=by simp; omega
   have R2:=J (show r=Q by rw [R.out]; simpa using h5);clear R h5;go_wp2;go_ret;exact⟨eu R2.out.symm,B3.out⟩
end Rl
namespace Bk
open Go.RowKit Go.Sort Rw YtmklifheakemeaaGreat.Nm Pr Rl
def jH (p q:List C5):Bool:=tQ (p.map unR) (q.map unR)
theorem Ip (nU bv:aB) (p q:List C5) (w:Y) (ha:fK w nU p) (hb:fK w bv q) (hp:eD p) (hq:eD q) :
  aD X 46 #[nU,bv] w fun e w'=>e=.returned (aH (jH p q))/\Below w.heap.size w w':=by
 obtain⟨a,na,rfl⟩:=hp;obtain⟨b,nb,rfl⟩:=hq;unfold jH;rw [qw,qw];exact Kl nU bv a b w ha hb na nb
abbrev mgv (k:Int) (t x:Id) (pv qv:Sl):aB:=aG #[K L k,K L t.1,K L t.2,K L x.1,K L x.2,dY pv,dY qv]
theorem Iq (b:Br) (nv av sv ev ov:Sl) (f mk:Int) (t x:Id) (pv qv:Sl) (w:Y) (h:iN w b nv av sv ev ov) (l2:b.dP.length<=900) (l3:b.ent.length<=900) (hok:∀ e∈b.ent,eD e.p) (hkn:∀ e∈b.ent,e.tree∈b.dP.map Ad.id) :
  aD X 102 #[mo b.me nv av sv ev ov,K L f,mgv mk t x pv qv] w fun e w'=>(∃ ev' lo:Sl,e=.returned (.tuple #[mo b.me nv av sv ev' ov,dY lo])/\iN w' (kU b t x f).1 nv av sv ev' ov/\iW w' lo (kU b t x f).2)/\Below w.heap.size w w':=by
 obtain⟨no,nn,nc⟩:=nv;obtain⟨ao,an,ac⟩:=av;obtain⟨so,sn,sc⟩:=sv;obtain⟨eo,en,ec⟩:=ev;obtain⟨oo,dU,oc⟩:=ov;obtain⟨po,pn,pc⟩:=pv;obtain⟨qo,qn,qc⟩:=qv;obtain⟨c,d⟩:=t;obtain⟨c2,d2⟩:=x;have DP:=J (fun W hb'=>FR b (no,nn,nc) (ao,an,ac) (so,sn,sc) (eo,en,ec) (oo,dU,oc) (c,d) (c2,d2) f W (h.on (show Below w.heap.size w W from hb')) l2 l3 hok hkn);have yE:=J h.near;obtain⟨h0,h1,h2,h3⟩:=gV w #[K L b.me,D no nn nc,D ao an ac,D so sn sc,D eo en ec,D oo dU oc] #[K L mk,K L c,K L d,K L c2,K L d2,D po pn pc,D qo qn qc] #[K L 0,D O 0 0,D O 0 0,D O 0 0,D O 0 0,D O 0 0] 28 41 28;obtain⟨me,hme⟩:∃ me,me=b.me:=⟨_,rfl⟩;simp only [<- hme] at h0 h1 h2 h3 DP ⊢;have gP:=J (h0);have rH:=J (h1);have nD:=J (h2);have mH:=J (h3);clear h0 h1 h2 h3 h l2 hme hok hkn;show aD X 102 #[aG #[K L me,D no nn nc,D ao an ac,D so sn sc,D eo en ec,D oo dU oc],K L f,aG #[K L mk,K L c,K L d,K L c2,K L d2,D po pn pc,D qo qn qc]] w _;go_enter Tryz.func102,Tryz.ntmps102;go_upto_region 1 with fail;generalize (((w.alloc (Z #[K L me,D no nn nc,D ao an ac,D so sn sc,D eo en ec,D oo dU oc] 28)).alloc (Z #[K L mk,K L c,K L d,K L c2,K L d2,D po pn pc,D qo qn qc] 41)).alloc (Z #[K L 0,D O 0 0,D O 0 0,D O 0 0,D O 0 0,D O 0 0] 28))=W at *;have SW:=J (DP.out W gP.out);clear DP;obtain⟨x0,x1,x2,x3,x4,x5⟩:=rH.out.eX;obtain⟨y0,y1,y2,y3,y4,y5,y6⟩:=nD.out.nJ;go_wp2_with fail;refine SW.out.mono ?_;rintro e1 w1 ⟨⟨⟨ea,iI,iJ⟩,⟨la,ln,lc⟩,rfl,hbr,hou⟩,hb⟩;clear SW;clear x0 x1 x2 x3 x4 x5 y0 y1 y2 y3 y4 y5 y6;have lM:=J (gP.out.trans (hb.mono gP.out.size));have lF:=J (rH.out.on hb);have Nv:=J (nD.out.on hb);have mh:=J (mH.out.on hb);clear gP rH nD mH;obtain⟨r0,r1,r2,r3,r4,r5⟩:=mh.out.eX;obtain⟨xM,vL,Ah,Cq,Cr,Ct⟩:=mh.out.kI;have zz:=mh.out.lt;have GG:=J (dK mh.out (K L me) (D no nn nc) (D ao an ac) (D so sn sc) (D ea iI iJ) (D oo dU oc));have BL:=J (dG (b:=w.heap.size+1+1) lM.out (by omega) (K L me) (D no nn nc) (D ao an ac) (D so sn sc) (D ea iI iJ) (D oo dU oc));have HK:=J (fun j (_:j<w1.heap.size) (hj:j≠w.heap.size+1+1)=>dN w1 (w.heap.size+1+1) (K L me) (D no nn nc) (D ao an ac) (D so sn sc) (D ea iI iJ) (D oo dU oc) j hj);have HC:=J (fJ (s1:=(O,0,0)) (s2:=(O,0,0)) (s3:=(O,0,0)) (s4:=(O,0,0)) (s5:=(O,0,0)) hbr mh.out HK.out (by rw [jB,(kg b (c,d) (c2,d2) f).2.1]; exact yE.out.on BL.out));have HO:=J (gu (s1:=(O,0,0)) (s2:=(O,0,0)) (s3:=(O,0,0)) (s4:=(O,0,0)) (s5:=(O,0,0)) hou mh.out HK.out);go_wp2_with fail;obtain⟨v0,v1,v2,v3,v4,v5⟩:=GG.out.eX;refine bodyPost_ret (v:=.tuple #[aG #[K L me,D no nn nc,D ao an ac,D so sn sc,D ea iI iJ,D oo dU oc],D la ln lc]) (by simp [results,Tryz.results102,go_sem,v0,v1,v2,v3,v4,v5]) rfl ?_;exact⟨⟨(ea,iI,iJ),(la,ln,lc),rfl,HC.out,HO.out⟩,BL.out⟩
def og (b:Br) (f:Int) (t x:Id) (p:List C5):Br×List Ou:=if (iK b ⟨t,x,p,f,Q⟩).2=Q then ((iK b ⟨t,x,p,f,Q⟩).1,[]) else
 match b.dP[(fM (b.dP.map Ad.id) t).toNat]? with
 | none=>((iK b ⟨t,x,p,f,Q⟩).1,[])
 | some a=>((iK b ⟨t,x,p,f,Q⟩).1,[xS a.par ⟨t,x,p,f,Q⟩])
theorem rJ (b:Br) (f:Int) (t x:Id) (p:List C5):(og b f t x p).1=(iK b ⟨t,x,p,f,Q⟩).1:=by
 unfold og
 split
 ·rfl
 ·split <;> rfl
theorem Sw {b:Br} {e:En} (h:(iK b e).2=true):∃ (k:Nat) (a:Ad),fM (b.dP.map Ad.id) e.tree=k/\b.dP[k]?=aF a:=by
 unfold iK at h
 split at h
 ·cases h
 ·rename_i a ha
  split at h
  ·cases h
  ·rename_i h1
   have h2:=nK (b.dP.map Ad.id) e.tree;exact⟨(fM (b.dP.map Ad.id) e.tree).toNat,a,by omega,ha⟩
theorem Nw (b:Br) (nv av sv ev ov:Sl) (f mk:Int) (t x:Id) (pv qv:Sl) (p:List C5) (w:Y) (h:iN w b nv av sv ev ov) (hp:fK w (dY pv) p) (l2:b.dP.length<=900) (l3:b.ent.length<=900) (hok:∀ e∈b.ent,eD e.p) (hop:eD p) :
  aD X 101 #[mo b.me nv av sv ev ov,K L f,mgv mk t x pv qv] w fun e w'=>(∃ ev' lo:Sl,e=.returned (.tuple #[mo b.me nv av sv ev' ov,dY lo])/\iN w' (og b f t x p).1 nv av sv ev' ov/\iW w' lo (og b f t x p).2)/\Below w.heap.size w w':=by
 obtain⟨no,nn,nc⟩:=nv;obtain⟨ao,an,ac⟩:=av;obtain⟨so,sn,sc⟩:=sv;obtain⟨eo,en,ec⟩:=ev;obtain⟨oo,dU,oc⟩:=ov;obtain⟨po,pn,pc⟩:=pv;obtain⟨qo,qn,qc⟩:=qv;obtain⟨c,d⟩:=t;obtain⟨c2,d2⟩:=x;have AD:=J (fun W hb'=>VQ b (no,nn,nc) (ao,an,ac) (so,sn,sc) (eo,en,ec) (oo,dU,oc) (c,d,c2,d2,(po,pn,pc),f,Q) ⟨(c,d),(c2,d2),p,f,Q⟩ W (h.on (show Below w.heap.size w W from hb')) ⟨rfl,rfl,rfl,rfl,hp.on hb'⟩ l2 l3 hok hop);have yE:=J h.near;have HP:=J hp;obtain⟨h0,h1,h2,h3⟩:=gV w #[K L b.me,D no nn nc,D ao an ac,D so sn sc,D eo en ec,D oo dU oc] #[K L mk,K L c,K L d,K L c2,K L d2,D po pn pc,D qo qn qc] #[K L 0,D O 0 0,D O 0 0,D O 0 0,D O 0 0,D O 0 0] 28 41 28;obtain⟨me,hme⟩:∃ me,me=b.me:=⟨_,rfl⟩;simp only [<- hme] at h0 h1 h2 h3 AD ⊢;have gP:=J (h0);have rH:=J (h1);have nD:=J (h2);have mH:=J (h3);clear h0 h1 h2 h3 h l2 hme hok hp;show aD X 101 #[aG #[K L me,D no nn nc,D ao an ac,D so sn sc,D eo en ec,D oo dU oc],K L f,aG #[K L mk,K L c,K L d,K L c2,K L d2,D po pn pc,D qo qn qc]] w _;go_enter Tryz.func101,Tryz.ntmps101;go_upto_region 1 with fail;generalize (((w.alloc (Z #[K L me,D no nn nc,D ao an ac,D so sn sc,D eo en ec,D oo dU oc] 28)).alloc (Z #[K L mk,K L c,K L d,K L c2,K L d2,D po pn pc,D qo qn qc] 41)).alloc (Z #[K L 0,D O 0 0,D O 0 0,D O 0 0,D O 0 0,D O 0 0] 28))=W at *;obtain⟨y0,y1,y2,y3,y4,y5,y6⟩:=nD.out.nJ;go_upto_region 2 with fail;clear y0 y1 y2 y3 y4 y5 y6;have W4:=J (show w.heap.size+3<=W.heap.size from by have:=mH.out.lt; omega);have NN:=fF W (Z #[K L c,K L d,K L c2,K L d2,D po pn pc,K L f,aH Q] 66);have lM:=J (gP.out.trans (NN.mono gP.out.size));have lF:=J (rH.out.on NN);have Nv:=J (nD.out.on NN);have mh:=J (mH.out.on NN);clear gP rH nD mH;clear NN;have Sg:=J (dO W #[K L c,K L d,K L c2,K L d2,D po pn pc,K L f,aH Q] 66);generalize W.alloc (Z #[K L c,K L d,K L c2,K L d2,D po pn pc,K L f,aH Q] 66)=Wa at *;have SW:=J (AD.out Wa lM.out);clear AD;obtain⟨x0,x1,x2,x3,x4,x5⟩:=lF.out.eX;obtain⟨z0,z1,z2,z3,z4,z5,z6⟩:=Sg.out.nJ;go_wp2_with fail;refine SW.out.mono ?_;rintro e1 w1 ⟨⟨⟨ea,iI,iJ⟩,rfl,hbr⟩,hb⟩;clear SW;clear x0 x1 x2 x3 x4 x5 z0 z1 z2 z3 z4 z5 z6;have mP:=J (lM.out.trans (hb.mono lM.out.size));have qb:=J (lF.out.on hb);have Sc:=J (Nv.out.on hb);have pW:=J (mh.out.on hb);have qK:=J (Sg.out.on hb);clear lM lF Nv mh Sg;obtain⟨fb,Nc⟩:∃ r,(iK b ⟨(c,d),(c2,d2),p,f,Q⟩).2=r:=⟨_,rfl⟩;have LB:=J Nc;rw [Nc];have w4:=W4.out;obtain⟨k0,k1,k2,k3,k4,k5⟩:=qb.out.eX;obtain⟨oI,oJ,oK,oL,oM,oN⟩:=qb.out.kI;have zz:=qb.out.lt;have FB:=J (dK qb.out (K L me) (D no nn nc) (D ao an ac) (D so sn sc) (D ea iI iJ) (D oo dU oc));have B2:=J (dG (b:=w.heap.size) mP.out (aj _) (K L me) (D no nn nc) (D ao an ac) (D so sn sc) (D ea iI iJ) (D oo dU oc));have D7:=J (fun j (_:j<w1.heap.size) (hj:j≠w.heap.size)=>dN w1 (w.heap.size) (K L me) (D no nn nc) (D ao an ac) (D so sn sc) (D ea iI iJ) (D oo dU oc) j hj);have FX5:=J (show dJ _ _ _ _ from (dN w1 (w.heap.size) (K L me) (D no nn nc) (D ao an ac) (D so sn sc) (D ea iI iJ) (D oo dU oc) (w.heap.size+1) (by omega)).trans Sc.out);have Cx:=J (show dJ _ _ _ _ from (dN w1 (w.heap.size) (K L me) (D no nn nc) (D ao an ac) (D so sn sc) (D ea iI iJ) (D oo dU oc) (w.heap.size+1+1) (by omega)).trans pW.out);have FX8:=J (show dJ _ _ _ _ from (dN w1 (w.heap.size) (K L me) (D no nn nc) (D ao an ac) (D so sn sc) (D ea iI iJ) (D oo dU oc) (W.heap.size) (by omega)).trans qK.out);have HB:=J (fJ (s1:=(no,nn,nc)) (s2:=(ao,an,ac)) (s3:=(so,sn,sc)) (s4:=(eo,en,ec)) (s5:=(oo,dU,oc)) hbr qb.out D7.out (by rw [(jK b ⟨(c,d),(c2,d2),p,f,Q⟩).2.1]; exact yE.out.on B2.out));clear Nc mP qb Sc pW qK;go_upto_region 3 with fail;clear zz D7 k0 k1 k2 k3 k4 k5 oI oJ oK oL oM oN;unfold gN at FB B2 HB FX5 Cx FX8;generalize ((((((w1.setCell ⟨w.heap.size,0,O⟩ (K L me)).setCell ⟨w.heap.size,1,O⟩ (D no nn nc)).setCell ⟨w.heap.size,2,O⟩ (D ao an ac)).setCell ⟨w.heap.size,3,O⟩ (D so sn sc)).setCell ⟨w.heap.size,4,O⟩ (D ea iI iJ)).setCell ⟨w.heap.size,5,O⟩ (D oo dU oc))=w2 at *;have nY:=J (B2.out);have p9:=J (FB.out);have Pv:=J (FX5.out);have mQ:=J (Cx.out);have qy:=J (FX8.out);clear B2 FB FX5 Cx FX8;cases fb
 ·have x0:=p9.out.cell 0;have x1:=p9.out.cell 1;have x2:=p9.out.cell 2;have x3:=p9.out.cell 3;have x4:=p9.out.cell 4;have x5:=p9.out.cell 5;simp only [List.getElem?_toArray,List.getElem?_cons_zero,List.getElem?_cons_succ] at x0 x1 x2 x3 x4 x5;obtain⟨r0,r1,r2,r3,r4,r5⟩:=mQ.out.eX;obtain⟨xM,vL,Ah,Cq,Cr,Ct⟩:=mQ.out.kI;have zz:=mQ.out.lt;have GG:=J (dK mQ.out (K L me) (D no nn nc) (D ao an ac) (D so sn sc) (D ea iI iJ) (D oo dU oc));have BL:=J (dG (b:=w.heap.size+1+1) nY.out (by omega) (K L me) (D no nn nc) (D ao an ac) (D so sn sc) (D ea iI iJ) (D oo dU oc));have HK:=J (fun j (_:j<w2.heap.size) (hj:j≠w.heap.size+1+1)=>dN w2 (w.heap.size+1+1) (K L me) (D no nn nc) (D ao an ac) (D so sn sc) (D ea iI iJ) (D oo dU oc) j hj);have HC:=J (fJ (s1:=(O,0,0)) (s2:=(O,0,0)) (s3:=(O,0,0)) (s4:=(O,0,0)) (s5:=(O,0,0)) HB.out mQ.out HK.out (by rw [(jK b ⟨(c,d),(c2,d2),p,f,Q⟩).2.1]; exact yE.out.on BL.out));go_wp2_with fail;obtain⟨v0,v1,v2,v3,v4,v5⟩:=GG.out.eX;refine bodyPost_ret (v:=.tuple #[aG #[K L me,D no nn nc,D ao an ac,D so sn sc,D ea iI iJ,D oo dU oc],D O 0 0]) (by simp [results,ay,go_sem,v0,v1,v2,v3,v4,v5]) rfl ?_;have hd:og b f (c,d) (c2,d2) p=((iK b ⟨(c,d),(c2,d2),p,f,Q⟩).1,[]):=by unfold og; rw [if_pos LB.out]
  rw [hd];exact⟨⟨(ea,iI,iJ),(O,0,0),rfl,HC.out,rE _⟩,BL.out⟩
 ·obtain⟨k,a,hk1,hak⟩:=Sw LB.out;have hk1:fM (b.dP.map Ad.id) (c,d)=k:=hk1;have DB:=J (show og b f (c,d) (c2,d2) p=((iK b ⟨(c,d),(c2,d2),p,f,Q⟩).1,[xS a.par ⟨(c,d),(c2,d2),p,f,Q⟩]) from by
   unfold og;rw [if_neg (by rw [LB.out]; simp),hk1,Int.toNat_natCast,hak])
  obtain⟨ad,Ai,xV⟩:=HB.out.dP;rw [(jK b ⟨(c,d),(c2,d2),p,f,Q⟩).2.2.1] at xV;obtain⟨z,hz1,hz2⟩:=xV.at k a hak;have FK:=Bj xV;rw [<- FK] at hk1;obtain⟨q1,q2,hq⟩:=Ai.len;obtain⟨pa,ix,pl,px⟩:=nV okD Ai hq rfl hz1;have ix2:∀ w,(Instr.indexAt 23 (D ao an ac) (K L (k:Int))).run X w=.ok (.pointer (aF pa)) w:=fun w=>by have h1:(D ao an ac)=D q1 ad.length q2:=hq; rw [h1]; exact ix w
  have pb:=px w2 (Below.refl _ _);have p3:w2.cell? ⟨pa.block,pa.off+3,O⟩=aF (K L z.2.2.2):=by simpa [Addr.add] using pb 3 _ rfl
  rw [hz2.2.1] at p3;have pn6:pa.block≠w.heap.size+1+1:=lG (E:=ED) (show dJ w2 (w.heap.size+1+1) (jo 0 (O,0,0) (O,0,0) (O,0,0) (O,0,0) (O,0,0)) 28 from mQ.out) (fun c=>⟨_,_,rfl,rfl⟩) (mD 0 (O,0,0) (O,0,0) (O,0,0) (O,0,0) (O,0,0)) pa z pb;clear hq ix pb px hz1 hz2 hak FK xV;go_upto_region 5 with fail;refine agm _ w2 w.heap.size (w.heap.size+1) (w.heap.size+1+1) W.heap.size me mk c d c2 d2 f a.par Q no ao so ea oo nn nc an ac sn sc iI iJ dU oc po qo pn pc qn qc ad k pa _ _ _ _ _ _ _ _ _ _ _ _ _ _ _ _ _ _ _ _ _ _ _ _ _ _ _ _ _ _ _ _ _ _ _ _ _ _ _ _ _ _ _ p9.out Pv.out mQ.out qy.out (by omega) (by omega) (by omega) Ai hk1 ix2 p3 pl pn6 ?_;intro a9 x9 sl JJ h69 h79 hbx ho hblk hbl;have BL:=J (show Below w.heap.size w x9 from nY.out.trans (hbl w.heap.size (by omega)));have HC:=J (fJ (s1:=(O,0,0)) (s2:=(O,0,0)) (s3:=(O,0,0)) (s4:=(O,0,0)) (s5:=(O,0,0)) HB.out mQ.out hblk (by rw [(jK b ⟨(c,d),(c2,d2),p,f,Q⟩).2.1]; exact yE.out.on BL.out));have HU:=J (Row.dH ho);obtain⟨v0,v1,v2,v3,v4,v5⟩:=hbx.eX;clear hbx ho hblk hbl HB Ai ix2 p3 pl pn6 hk1;simp only [Exit.then]
  apply_assumption
  go_wp2_with fail;refine bodyPost_ret (v:=.tuple #[aG #[K L me,D no nn nc,D ao an ac,D so sn sc,D ea iI iJ,D oo dU oc],dY sl]) (by simp [results,ay,go_sem,h69,h79,v0,v1,v2,v3,v4,v5]) JJ ?_;rw [DB.out];exact⟨⟨ea,iI,iJ,sl.1,sl.2.1,sl.2.2,rfl,HC.out,_,HU.out,.cons ⟨rfl,rfl,rfl,rfl,HP.out.on BL.out,rfl⟩ .nil⟩,BL.out⟩
def fZ (s:Br×List Ou) (mt:Bool) (e:En) (iM:Int):Br×List Ou:=if mt=Q then s else ((iK s.1 e).1,if (iK s.1 e).2=true then s.2++[xS iM e] else s.2)
theorem Km {b:Br} {e:En} (R:En->Prop) (h:∀ q∈b.ent,R q) (he:∀ u,R { e with up:=u }):∀ q∈(iK b e).1.ent,R q:=by
 unfold iK
 split
 ·exact h
 ·split
  ·exact h
  ·split
   ·exact h
   ·split
    ·exact h
    ·intro q hq;rcases aA.1 hq with h1|h1
     ·rcases aA.1 h1 with h2|h2
      ·exact h q (List.mem_of_mem_take h2)
      ·rw [List.mem_singleton.1 h2];exact he _
     ·exact h q (List.mem_of_mem_drop h1)
theorem Kn (b:Br) (e:En):(iK b e).1.ent.length<=b.ent.length+1:=by
 unfold iK
 split
 ·exact U _
 ·split
  ·exact U _
  ·split
   ·exact U _
   ·split
    ·exact U _
    ·show (gT _ _ _).length<=_;unfold gT;rw [V,V,ak,au];simp;omega
structure Ny (b0 b:Br) (k:Nat):Prop where
 me:b.me=b0.me
 near:b.near=b0.near
 dP:b.dP=b0.dP
 seen:b.seen=b0.seen
 own:b.own=b0.own
 len:b.ent.length<=b0.ent.length+k
theorem Ny.add {b0 b:Br} {k:Nat} (h:Ny b0 b k) (e:En):Ny b0 (iK b e).1 (k+1):=by
 obtain⟨h1,h2,h3,h4,h5⟩:=jK b e;exact⟨h1.trans h.me,h2.trans h.near,h3.trans h.dP,h4.trans h.seen,h5.trans h.own,by have:=Kn b e; have:=h.len; omega⟩
theorem Ny.succ {b0 b:Br} {k:Nat} (h:Ny b0 b k):Ny b0 b (k+1):=⟨h.me,h.near,h.dP,h.seen,h.own,by have:=h.len; omega⟩
theorem Ny.step {b0:Br} {s:Br×List Ou} {k:Nat} (h:Ny b0 s.1 k) (mt:Bool) (e:En) (t:Int):Ny b0 (fZ s mt e t).1 (k+1):=by
 unfold fZ
 split
 ·exact h.succ
 ·exact h.add e
theorem WR {s:Br×List Ou} (mt:Bool) (e:En) (t:Int) (R:En->Prop) (h:∀ q∈s.1.ent,R q) (he:∀ u,R { e with up:=u }):∀ q∈(fZ s mt e t).1.ent,R q:=by
 unfold fZ
 split
 ·exact h
 ·exact Km R h he
theorem WT {s:Br×List Ou} (mt:Bool) (e:En) (t:Int):(fZ s mt e t).2.length<=s.2.length+1:=by
 unfold fZ
 split
 ·exact U _
 ·show (if _ then _ else _:List Ou).length<=_
  split
  ·simp
  ·exact U _
def eF {α:Type} (l:List α) (f:Br×List Ou->α->Br×List Ou) (s0:Br×List Ou) (k:Nat):Br×List Ou:=(l.take k).foldl f s0
theorem kM {α:Type} {l:List α} {k:Nat} {a:α} (f:Br×List Ou->α->Br×List Ou) (s0:Br×List Ou) (h:l[k]?=aF a):eF l f s0 (k+1)=f (eF l f s0 k) a:=by
 unfold eF;rw [List.take_add_one,h,List.foldl_append]
 rfl
theorem lU {α:Type} {l:List α} {b0:Br} {o0:List Ou} (mt:α->Bool) (e:α->En) (t:α->Int) (R:En->Prop) (h0:∀ q∈b0.ent,R q) (hR:∀ a∈l,∀ u,R { e a with up:=u }):∀ k,k<=l.length->Ny b0 (eF l (fun s a=>fZ s (mt a) (e a) (t a)) (b0,o0) k).1 k/\(∀ q∈(eF l (fun s a=>fZ s (mt a) (e a) (t a)) (b0,o0) k).1.ent,R q)/\(eF l (fun s a=>fZ s (mt a) (e a) (t a)) (b0,o0) k).2.length<=o0.length+k
 | 0,_=>⟨⟨rfl,rfl,rfl,rfl,rfl,aj _⟩,h0,aj _⟩
 | k+1,hk=>by
  obtain⟨a,ha⟩:∃ a,l[k]?=aF a:=⟨_,List.getElem?_eq_getElem hk⟩;obtain⟨h1,h2,h3⟩:=lU mt e t R h0 hR k (by omega) (o0:=o0);rw [kM _ _ ha];exact⟨h1.step _ _ _,WR _ _ _ R h2 (hR a (List.mem_of_getElem? ha)),aC (WT _ _ _) (by omega)⟩
def fC (near:List Int) (but kind:Int) (t x:Id) (p:List C5):List Ou:=(near.filter fun n=>n != but).map fun n=>⟨n,kind,t,x,p⟩
abbrev oO (x:Id) (o:Ow):En:=⟨x,o.id,o.p,-1,Q⟩
abbrev iX (f:Int) (x:Id) (p:List C5) (s:Br×List Ou) (o:Ow):Br×List Ou:=fZ s (jH o.p p) (oO x o) f
def gy (b:Br) (f:Int) (x:Id) (p:List C5):Br×List Ou:=if (eP b ⟨x,p,f⟩).2=Q then ((eP b ⟨x,p,f⟩).1,[]) else
 eF (eP b ⟨x,p,f⟩).1.own (iX f x p) ((eP b ⟨x,p,f⟩).1,fC b.near f 1 x (0,0) p) (eP b ⟨x,p,f⟩).1.own.length
abbrev oh (x:Id) (p:List C5) (a:Ad):En:=⟨a.id,x,p,-1,Q⟩
abbrev kr (x:Id) (p:List C5) (s:Br×List Ou) (a:Ad):Br×List Ou:=fZ s (jH p a.p) (oh x p a) a.par
def ownIn (b:Br) (x:Id) (p:List C5):Br:={ b with own:=gT b.own (gq (b.own.map Ow.id) x) ⟨x,p⟩ }
def lN (b:Br) (x:Id) (p:List C5):Br×List Ou:=if (b.own[gq (b.own.map Ow.id) x]?).map Ow.id=aF x then (b,[]) else
 eF b.dP (kr x p) (ownIn b x p,[]) b.dP.length
theorem iP (b:Br) (a:Ad):(eP b a).1.me=b.me/\(eP b a).1.near=b.near/\(eP b a).1.ent=b.ent/\(eP b a).1.own=b.own:=by
 unfold eP
 split <;> exact⟨rfl,rfl,rfl,rfl⟩
theorem zh (b:Br) (a:Ad):(eP b a).1.dP.length<=b.dP.length+1/\(eP b a).1.seen.length<=b.seen.length+1:=by
 unfold eP
 split
 ·exact⟨U _,U _⟩
 ·constructor <;> (show (gT _ _ _).length<=_; unfold gT; rw [V,V,ak,au]; simp; omega)
theorem F7 {W:Y} {near:List Int} {f k:Int} {t x:Id} {pv:Sl} {p:List C5} (hp:fK W (dY pv) p):eY (rD W) (mF near f fun n=>(n,k,t.1,t.2,x.1,x.2,pv,(O,0,0))) (fC near f k t x p):=by
 unfold mF fC
 induction near.filter (fun n=>n != f) with
 | nil=>exact .nil
 | cons a l ih=>exact .cons ⟨rfl,rfl,rfl,rfl,hp,rfl⟩ ih
end Bk
namespace Bk
open Go.RowKit Go.Sort Rw YtmklifheakemeaaGreat.Nm Pr
open Av
def um (W1 W:Y) (PY ev:Sl) (yG lx:List iH):Prop:=(ev=PY/\lx=yG)\/kY W W1.heap.size (dY ev) lx
theorem rM {W1 W:Y} {k:Nat} {me:Int} {s1 s2 s3 s4 s5:Sl} {v:aB} {p:List C5} (hb:dJ W1 k (jo me s1 s2 s3 s4 s5) 28) (hk:But k W1 W) (h:fK W1 v p):fK W v p:=iT vI h hk.1 (sG hb (sH me s1 s2 s3 s4 s5))
theorem xY {W1 W:Y} {k:Nat} {me:Int} {s1 s2 s3 s4 s5:Sl} {l:List iH} {m:List En} (hb:dJ W1 k (jo me s1 s2 s3 s4 s5) 28) (hk:But k W1 W) (h:eY (jD W1) l m):eY (jD W) l m:=h.mono fun _ _ hx=>⟨hx.1,hx.2.1,hx.2.2.1,hx.2.2.2.1,rM hb hk hx.2.2.2.2⟩
theorem Cy {W1 W:Y} {k:Nat} {me:Int} {s1 s2 s3 s4 s5:Sl} {l:List mE} {m:List Ou} (hb:dJ W1 k (jo me s1 s2 s3 s4 s5) 28) (hk:But k W1 W) (h:eY (rD W1) l m):eY (rD W) l m:=Cv h hb hk.1
theorem um.row {W1 W:Y} {k:Nat} {me:Int} {s1 s2 s3 s4 s5:Sl} {PY ev:Sl} {yG lx:List iH} (hb:dJ W1 k (jo me s1 s2 s3 s4 s5) 28) (hk:But k W1 W) (h1:lS W1 (dY PY) yG) (h:um W1 W PY ev yG lx):lS W (dY ev) lx:=by
 rcases h with⟨rfl,rfl⟩|h
 ·exact iT nX h1 hk.1 (lG hb (fun c=>⟨_,_,rfl,rfl⟩) (mD me s1 s2 s3 s4 s5))
 ·exact Row.dH h
theorem rO {W1 W:Y} {k:Nat} {me:Int} {s1 s2 s3 s4 s5:Sl} {b1 b:Br} {q:Nat} {nv av sv PY ov ev:Sl} {yG lx:List iH} (hb:dJ W1 k (jo me s1 s2 s3 s4 s5) 28) (hk:But k W1 W) (hI:iN W1 b1 nv av sv PY ov) (hn:qF W (dY nv) b1.near) (h1:lS W1 (dY PY) yG) (h:um W1 W PY ev yG lx) (ha:eY (jD W1) lx b.ent) (hs:Ny b1 b q):iN W b nv av sv ev ov:=by
 have h2:=fJ hI hb hk.1 hn;exact⟨by rw [hs.near]; exact h2.near,by rw [hs.dP]; exact h2.dP,by rw [hs.seen]; exact h2.seen,⟨lx,h.row hb hk h1,xY hb hk ha⟩,by rw [hs.own]; exact h2.own⟩
theorem But.below {k:Nat} {a b c:Y} (h:But k a b) (hb:Below b.heap.size b c):But k a c:=h.trans (But.of_below hb)
theorem um.on {W1 W W':Y} {PY ev:Sl} {yG lx:List iH} (h:um W1 W PY ev yG lx) (hb:Below W.heap.size W W'):um W1 W' PY ev yG lx:=h.imp id fun h=>Bk.dI h hb
theorem eU (w:Y) (b:Nat) (a0 a1 a2 a3 a4 a5:aB):But b w (gN w b a0 a1 a2 a3 a4 a5):=⟨fun j _ hj=>dN w b a0 a1 a2 a3 a4 a5 j hj,by simp [gN]⟩
theorem Ir {W1 W W':Y} {k B:Nat} {PY ev:Sl} {yG lx:List iH} {v:aB} {lo:List mE} (hF:B=W1.heap.size) (ho:jT W B v lo) (gr:W.grownBy W' v.ownBlock) (hk:But k W1 W) (h:um W1 W PY ev yG lx):But k W1 W'/\um W1 W' PY ev yG lx/\(∀ bb cs t,bb<B->dJ W bb cs t->dJ W' bb cs t):=by
 subst hF;have hne:∀ j,j<W1.heap.size->aF j≠v.ownBlock:=fun j hj e=>by have:=(ho.lt j e.symm).1; omega
 refine⟨⟨fun j hj hn=>(gr.block j (Nat.lt_of_lt_of_le hj hk.2) (hne j hj)).trans (hk.1 j hj hn),aC hk.2 gr.size⟩,h.imp id fun h=>AA ho gr h (by decide),fun bb cs t hl hb=>(gr.block bb hb.lt (hne bb hl)).trans hb⟩
end Bk
end Go.Proofs.YtmklifheakemeaaGreat
