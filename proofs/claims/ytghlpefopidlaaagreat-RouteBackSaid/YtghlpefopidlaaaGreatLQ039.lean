/-
  The document's own M. Conditions as told.
-/
import Derived.Test.YtghlpefopidlaaaGreatLQ038
import Derived.Test.YtghlpefopidlaaaGreatLQ035
import Derived.Test.YtghlpefopidlaaaGreatLQ030
set_option maxRecDepth 100000
set_option maxHeartbeats 64000000
open _root_.Bool renaming false->Q
open _root_.Go renaming World->Y,Value->aB,Calls->aD
open Go.IntKind renaming i64->L
open Go.Lib renaming hid->J
open Go.Obj renaming cells->Z
open Go.Proofs.Tryz renaming prog->X,results19->aA
open Go.Value renaming slice->D,int->K,agg->aG,bool->aH
open _root_.List renaming length_append->V,length_map->ah,length_take->ak,length_drop->au,mem_append->ay
open _root_.Nat renaming le_succ->U,le_refl->aj,le_trans->aC
open _root_.Option renaming none->O,some->aF
namespace Go.Proofs.YtghlpefopidlaaaGreat
namespace Rl
open Go.RowKit Go.Sort Pu Rw Pr Va
theorem Vf {W:Y} {pO bv:aB} {a b:List Cn} (ha:fI W pO (a.map r5)) (hb:fI W bv (b.map r5)) (la:a.length<=5) (lb:b.length<=5) :
  ∃ T w1 a0 w2,(Builtin.append_ #[34,34] 34 #[D (aF ⟨W.heap.size,0,O⟩) 0 0,pO]).run X (W.alloc (Z #[] 91))=.ok T w1 /\
   (Builtin.append_ #[34,34] 34 #[T,bv]).run X w1=.ok a0 w2/\fI w2 a0 ((a++b).map r5)/\Below W.heap.size W w2:=by
 have b0:=(Below.refl W.heap.size W).alloc (aj _) (Z #[] 91);obtain⟨T,w1,r1,o1,g1⟩:=EK W.heap.size (qE W) (ha.on b0) (by simp) (by rw [ah]; omega) (by simp);have b1:=b0.grown g1 b0.size (fun j hj=>((qE W).lt j hj).1);obtain⟨a0,w2,r2,o2,g2⟩:=EK W.heap.size o1 (hb.on b1) (by simp; omega) (by rw [ah]; omega) b1.size;have b2:=b1.grown g2 b1.size (fun j hj=>(o1.lt j hj).1);exact⟨T,w1,a0,w2,r1,r2,by rw [List.map_append]; exact Row.dJ (by simpa using o2),b2⟩
theorem Ls (pO bv:aB) (a b:List Cn) (w:Y) (ha:fI w pO (a.map r5)) (hb:fI w bv (b.map r5)) (na:NF a) (nb:NF b):aD X 56 #[pO,bv] w fun e w'=>e=.returned (aH (pI a b))/\Below w.heap.size w w':=by
 obtain⟨v1,w1,T,w2,r1,r2,ro,b2⟩:=Vf ha hb na.five nb.five;have B2:=J b2;have MK:=J (Ve T (a++b) w2 ro (by have:=na.five; have:=nb.five; simp; omega));have RB:=J (WJ (b:=b) na.rise);have MR:=J (WK (b:=b) na.rise na.five);rw [RB.out] at MK;generalize kJ a b=res at *;generalize pI a b=r at *;clear ha hb na nb ro b2 RB;go_enter Tryz.func56,Tryz.ntmps56;go_wp2_with (first | (at_builtin; refine wpList_append_run rfl _ _ 34 rfl rfl rfl r1 ?_) | (at_builtin; refine wpList_append_run rfl _ _ 34 rfl rfl rfl r2 ?_) | fail);refine MK.out.mono ?_;rintro e3 w3 ⟨hb3,h3⟩;have B3:=J (B2.out.trans (hb3.mono B2.out.size));clear hb3 MK r1 r2;rcases res with _|p
 ·have R:=J (show r=Q from MR.out);obtain rfl:=h3;clear MR;go_wp2;go_ret;exact⟨eX R.out.symm,B3.out⟩
 ·obtain⟨v,rfl,hp⟩:=h3;obtain⟨po,pc,rfl⟩:=hp.len;have R:=J (show r=decide (p.length<=5) from MR.out);rw [ah];clear MR hp;by_cases h5:p.length<=5
  ·have d1:decide ((p.length:Int)<=5)=true:=by simp; omega
   have R2:=J (show r=true by rw [R.out]; simpa using h5);clear R h5;go_wp2;go_ret;exact⟨eX R2.out.symm,B3.out⟩
  ·have d1:decide ((p.length:Int)<=5)=Q:=by simp; omega
   have R2:=J (show r=Q by rw [R.out]; simpa using h5);clear R h5;go_wp2;go_ret;exact⟨eX R2.out.symm,B3.out⟩
end Rl
namespace Bk
open Go.RowKit Go.Sort Rw YtghlpefopidlaaaGreat.Nm Pr Rl
def fU (p q:List C5):Bool:=pI (p.map unR) (q.map unR)
theorem JA (pO bv:aB) (p q:List C5) (w:Y) (ha:fI w pO p) (hb:fI w bv q) (hp:dR p) (hq:dR q) :
  aD X 56 #[pO,bv] w fun e w'=>e=.returned (aH (fU p q))/\Below w.heap.size w w':=by
 obtain⟨a,na,rfl⟩:=hp;obtain⟨b,nb,rfl⟩:=hq;unfold fU;rw [oG,oG];exact Ls pO bv a b w ha hb na nb
abbrev mgv (k:Int) (t x:Id) (pv qv:Sl):aB:=aG #[K L k,K L t.1,K L t.2,K L x.1,K L x.2,dX pv,dX qv]
theorem JB (b:Br) (nv av sv ev ov:Sl) (f mk:Int) (t x:Id) (pv qv:Sl) (w:Y) (h:jq w b nv av sv ev ov) (l2:b.dO.length<=900) (l3:b.ent.length<=900) (hok:∀ e∈b.ent,dR e.p) (hkn:∀ e∈b.ent,e.tree∈b.dO.map Ad.id) :
  aD X 21 #[mG b.me nv av sv ev ov,K L f,mgv mk t x pv qv] w fun e w'=>(∃ ev' lo:Sl,e=.returned (.tuple #[mG b.me nv av sv ev' ov,dX lo])/\jq w' (jI b t x f).1 nv av sv ev' ov/\kG w' lo (jI b t x f).2)/\Below w.heap.size w w':=by
 obtain⟨no,nn,nc⟩:=nv;obtain⟨ao,an,ac⟩:=av;obtain⟨so,sn,sc⟩:=sv;obtain⟨eo,en,ec⟩:=ev;obtain⟨oo,eG,oc⟩:=ov;obtain⟨po,pn,pc⟩:=pv;obtain⟨qo,qn,qc⟩:=qv;obtain⟨c,d⟩:=t;obtain⟨c2,d2⟩:=x;have DP:=J (fun W hb'=>Hl b (no,nn,nc) (ao,an,ac) (so,sn,sc) (eo,en,ec) (oo,eG,oc) (c,d) (c2,d2) f W (h.on (show Below w.heap.size w W from hb')) l2 l3 hok hkn);have yS:=J h.near;obtain⟨h0,h1,h2,h3⟩:=gT w #[K L b.me,D no nn nc,D ao an ac,D so sn sc,D eo en ec,D oo eG oc] #[K L mk,K L c,K L d,K L c2,K L d2,D po pn pc,D qo qn qc] #[K L 0,D O 0 0,D O 0 0,D O 0 0,D O 0 0,D O 0 0] 30 43 30;obtain⟨me,hme⟩:∃ me,me=b.me:=⟨_,rfl⟩;simp only [<- hme] at h0 h1 h2 h3 DP ⊢;have gG:=J (h0);have p8:=J (h1);have mQ:=J (h2);have nJ:=J (h3);clear h0 h1 h2 h3 h l2 hme hok hkn;show aD X 21 #[aG #[K L me,D no nn nc,D ao an ac,D so sn sc,D eo en ec,D oo eG oc],K L f,aG #[K L mk,K L c,K L d,K L c2,K L d2,D po pn pc,D qo qn qc]] w _;go_enter Tryz.func21,Tryz.ntmps21;go_upto_region 1 with fail;generalize (((w.alloc (Z #[K L me,D no nn nc,D ao an ac,D so sn sc,D eo en ec,D oo eG oc] 30)).alloc (Z #[K L mk,K L c,K L d,K L c2,K L d2,D po pn pc,D qo qn qc] 43)).alloc (Z #[K L 0,D O 0 0,D O 0 0,D O 0 0,D O 0 0,D O 0 0] 30))=W at *;have SW:=J (DP.out W gG.out);clear DP;obtain⟨x0,x1,x2,x3,x4,x5⟩:=p8.out.fD;obtain⟨y0,y1,y2,y3,y4,y5,y6⟩:=mQ.out.pG;go_wp2_with fail;refine SW.out.mono ?_;rintro e1 w1 ⟨⟨⟨ea,jd,je⟩,⟨la,ln,lc⟩,rfl,hbr,hou⟩,hb⟩;clear SW;clear x0 x1 x2 x3 x4 x5 y0 y1 y2 y3 y4 y5 y6;have nN:=J (gG.out.trans (hb.mono gG.out.size));have jS:=J (p8.out.on hb);have Fu:=J (mQ.out.on hb);have p9:=J (nJ.out.on hb);clear gG p8 mQ nJ;obtain⟨r0,r1,r2,r3,r4,r5⟩:=p9.out.fD;obtain⟨zW,zX,zY,zZ,z8,Aa⟩:=p9.out.kK;have zz:=p9.out.lt;have GG:=J (dL p9.out (K L me) (D no nn nc) (D ao an ac) (D so sn sc) (D ea jd je) (D oo eG oc));have BL:=J (dH (b:=w.heap.size+1+1) nN.out (by omega) (K L me) (D no nn nc) (D ao an ac) (D so sn sc) (D ea jd je) (D oo eG oc));have HK:=J (fun j (_:j<w1.heap.size) (hj:j≠w.heap.size+1+1)=>dN w1 (w.heap.size+1+1) (K L me) (D no nn nc) (D ao an ac) (D so sn sc) (D ea jd je) (D oo eG oc) j hj);have HC:=J (fK (s1:=(O,0,0)) (s2:=(O,0,0)) (s3:=(O,0,0)) (s4:=(O,0,0)) (s5:=(O,0,0)) hbr p9.out HK.out (by rw [jR,(jP b (c,d) (c2,d2) f).2.1]; exact yS.out.on BL.out));have HO:=J (iT (s1:=(O,0,0)) (s2:=(O,0,0)) (s3:=(O,0,0)) (s4:=(O,0,0)) (s5:=(O,0,0)) hou p9.out HK.out);go_wp2_with fail;obtain⟨T,a0,a3,a4,a5,a6⟩:=GG.out.fD;refine bodyPost_ret (v:=.tuple #[aG #[K L me,D no nn nc,D ao an ac,D so sn sc,D ea jd je,D oo eG oc],D la ln lc]) (by simp [results,Tryz.results21,go_sem,T,a0,a3,a4,a5,a6]) rfl ?_;exact⟨⟨(ea,jd,je),(la,ln,lc),rfl,HC.out,HO.out⟩,BL.out⟩
def mE (b:Br) (f:Int) (t x:Id) (p:List C5):Br×List Ou:=if (iB b ⟨t,x,p,f,Q⟩).2=Q then ((iB b ⟨t,x,p,f,Q⟩).1,[]) else
 match b.dO[(fO (b.dO.map Ad.id) t).toNat]? with
 | none=>((iB b ⟨t,x,p,f,Q⟩).1,[])
 | some a=>((iB b ⟨t,x,p,f,Q⟩).1,[qJ a.par ⟨t,x,p,f,Q⟩])
theorem sH (b:Br) (f:Int) (t x:Id) (p:List C5):(mE b f t x p).1=(iB b ⟨t,x,p,f,Q⟩).1:=by
 unfold mE
 split
 ·rfl
 ·split <;> rfl
theorem Vg {b:Br} {e:En} (h:(iB b e).2=true):∃ (k:Nat) (a:Ad),fO (b.dO.map Ad.id) e.tree=k/\b.dO[k]?=aF a:=by
 unfold iB at h
 split at h
 ·cases h
 ·rename_i a ha
  split at h
  ·cases h
  ·rename_i h1
   have h2:=rX (b.dO.map Ad.id) e.tree;exact⟨(fO (b.dO.map Ad.id) e.tree).toNat,a,by omega,ha⟩
theorem Pj (b:Br) (nv av sv ev ov:Sl) (f mk:Int) (t x:Id) (pv qv:Sl) (p:List C5) (w:Y) (h:jq w b nv av sv ev ov) (hp:fI w (dX pv) p) (l2:b.dO.length<=900) (l3:b.ent.length<=900) (hok:∀ e∈b.ent,dR e.p) (hop:dR p) :
  aD X 19 #[mG b.me nv av sv ev ov,K L f,mgv mk t x pv qv] w fun e w'=>(∃ ev' lo:Sl,e=.returned (.tuple #[mG b.me nv av sv ev' ov,dX lo])/\jq w' (mE b f t x p).1 nv av sv ev' ov/\kG w' lo (mE b f t x p).2)/\Below w.heap.size w w':=by
 obtain⟨no,nn,nc⟩:=nv;obtain⟨ao,an,ac⟩:=av;obtain⟨so,sn,sc⟩:=sv;obtain⟨eo,en,ec⟩:=ev;obtain⟨oo,eG,oc⟩:=ov;obtain⟨po,pn,pc⟩:=pv;obtain⟨qo,qn,qc⟩:=qv;obtain⟨c,d⟩:=t;obtain⟨c2,d2⟩:=x;have AD:=J (fun W hb'=>Yc b (no,nn,nc) (ao,an,ac) (so,sn,sc) (eo,en,ec) (oo,eG,oc) (c,d,c2,d2,(po,pn,pc),f,Q) ⟨(c,d),(c2,d2),p,f,Q⟩ W (h.on (show Below w.heap.size w W from hb')) ⟨rfl,rfl,rfl,rfl,hp.on hb'⟩ l2 l3 hok hop);have yS:=J h.near;have HP:=J hp;obtain⟨h0,h1,h2,h3⟩:=gT w #[K L b.me,D no nn nc,D ao an ac,D so sn sc,D eo en ec,D oo eG oc] #[K L mk,K L c,K L d,K L c2,K L d2,D po pn pc,D qo qn qc] #[K L 0,D O 0 0,D O 0 0,D O 0 0,D O 0 0,D O 0 0] 30 43 30;obtain⟨me,hme⟩:∃ me,me=b.me:=⟨_,rfl⟩;simp only [<- hme] at h0 h1 h2 h3 AD ⊢;have gG:=J (h0);have p8:=J (h1);have mQ:=J (h2);have nJ:=J (h3);clear h0 h1 h2 h3 h l2 hme hok hp;show aD X 19 #[aG #[K L me,D no nn nc,D ao an ac,D so sn sc,D eo en ec,D oo eG oc],K L f,aG #[K L mk,K L c,K L d,K L c2,K L d2,D po pn pc,D qo qn qc]] w _;go_enter Tryz.func19,Tryz.ntmps19;go_upto_region 1 with fail;generalize (((w.alloc (Z #[K L me,D no nn nc,D ao an ac,D so sn sc,D eo en ec,D oo eG oc] 30)).alloc (Z #[K L mk,K L c,K L d,K L c2,K L d2,D po pn pc,D qo qn qc] 43)).alloc (Z #[K L 0,D O 0 0,D O 0 0,D O 0 0,D O 0 0,D O 0 0] 30))=W at *;obtain⟨y0,y1,y2,y3,y4,y5,y6⟩:=mQ.out.pG;go_upto_region 2 with fail;clear y0 y1 y2 y3 y4 y5 y6;have W4:=J (show w.heap.size+3<=W.heap.size from by have:=nJ.out.lt; omega);have NN:=gN W (Z #[K L c,K L d,K L c2,K L d2,D po pn pc,K L f,aH Q] 67);have nN:=J (gG.out.trans (NN.mono gG.out.size));have jS:=J (p8.out.on NN);have Fu:=J (mQ.out.on NN);have p9:=J (nJ.out.on NN);clear gG p8 mQ nJ;clear NN;have Jl:=J (dQ W #[K L c,K L d,K L c2,K L d2,D po pn pc,K L f,aH Q] 67);generalize W.alloc (Z #[K L c,K L d,K L c2,K L d2,D po pn pc,K L f,aH Q] 67)=Wa at *;have SW:=J (AD.out Wa nN.out);clear AD;obtain⟨x0,x1,x2,x3,x4,x5⟩:=jS.out.fD;obtain⟨z0,z1,z2,z3,z4,z5,z6⟩:=Jl.out.pG;go_wp2_with fail;refine SW.out.mono ?_;rintro e1 w1 ⟨⟨⟨ea,jd,je⟩,rfl,hbr⟩,hb⟩;clear SW;clear x0 x1 x2 x3 x4 x5 z0 z1 z2 z3 z4 z5 z6;have lU:=J (nN.out.trans (hb.mono nN.out.size));have qR:=J (jS.out.on hb);have KJ:=J (Fu.out.on hb);have uG:=J (p9.out.on hb);have uH:=J (Jl.out.on hb);clear nN jS Fu p9 Jl;obtain⟨fb,OX⟩:∃ r,(iB b ⟨(c,d),(c2,d2),p,f,Q⟩).2=r:=⟨_,rfl⟩;have LB:=J OX;rw [OX];have w4:=W4.out;obtain⟨k0,k1,k2,k3,k4,k5⟩:=qR.out.fD;obtain⟨oP,oQ,oU,oW,oZ,o7⟩:=qR.out.kK;have zz:=qR.out.lt;have FB:=J (dL qR.out (K L me) (D no nn nc) (D ao an ac) (D so sn sc) (D ea jd je) (D oo eG oc));have B2:=J (dH (b:=w.heap.size) lU.out (aj _) (K L me) (D no nn nc) (D ao an ac) (D so sn sc) (D ea jd je) (D oo eG oc));have Fv:=J (fun j (_:j<w1.heap.size) (hj:j≠w.heap.size)=>dN w1 (w.heap.size) (K L me) (D no nn nc) (D ao an ac) (D so sn sc) (D ea jd je) (D oo eG oc) j hj);have FX5:=J (show dK _ _ _ _ from (dN w1 (w.heap.size) (K L me) (D no nn nc) (D ao an ac) (D so sn sc) (D ea jd je) (D oo eG oc) (w.heap.size+1) (by omega)).trans KJ.out);have Du:=J (show dK _ _ _ _ from (dN w1 (w.heap.size) (K L me) (D no nn nc) (D ao an ac) (D so sn sc) (D ea jd je) (D oo eG oc) (w.heap.size+1+1) (by omega)).trans uG.out);have FX8:=J (show dK _ _ _ _ from (dN w1 (w.heap.size) (K L me) (D no nn nc) (D ao an ac) (D so sn sc) (D ea jd je) (D oo eG oc) (W.heap.size) (by omega)).trans uH.out);have HB:=J (fK (s1:=(no,nn,nc)) (s2:=(ao,an,ac)) (s3:=(so,sn,sc)) (s4:=(eo,en,ec)) (s5:=(oo,eG,oc)) hbr qR.out Fv.out (by rw [(jO b ⟨(c,d),(c2,d2),p,f,Q⟩).2.1]; exact yS.out.on B2.out));clear OX lU qR KJ uG uH;go_upto_region 3 with fail;clear zz Fv k0 k1 k2 k3 k4 k5 oP oQ oU oW oZ o7;unfold gV at FB B2 HB FX5 Du FX8;generalize ((((((w1.setCell ⟨w.heap.size,0,O⟩ (K L me)).setCell ⟨w.heap.size,1,O⟩ (D no nn nc)).setCell ⟨w.heap.size,2,O⟩ (D ao an ac)).setCell ⟨w.heap.size,3,O⟩ (D so sn sc)).setCell ⟨w.heap.size,4,O⟩ (D ea jd je)).setCell ⟨w.heap.size,5,O⟩ (D oo eG oc))=w2 at *;have mR:=J (B2.out);have qQ:=J (FB.out);have QA:=J (FX5.out);have nO:=J (Du.out);have qX:=J (FX8.out);clear B2 FB FX5 Du FX8;cases fb
 ·have x0:=qQ.out.cell 0;have x1:=qQ.out.cell 1;have x2:=qQ.out.cell 2;have x3:=qQ.out.cell 3;have x4:=qQ.out.cell 4;have x5:=qQ.out.cell 5;simp only [List.getElem?_toArray,List.getElem?_cons_zero,List.getElem?_cons_succ] at x0 x1 x2 x3 x4 x5;obtain⟨r0,r1,r2,r3,r4,r5⟩:=nO.out.fD;obtain⟨zW,zX,zY,zZ,z8,Aa⟩:=nO.out.kK;have zz:=nO.out.lt;have GG:=J (dL nO.out (K L me) (D no nn nc) (D ao an ac) (D so sn sc) (D ea jd je) (D oo eG oc));have BL:=J (dH (b:=w.heap.size+1+1) mR.out (by omega) (K L me) (D no nn nc) (D ao an ac) (D so sn sc) (D ea jd je) (D oo eG oc));have HK:=J (fun j (_:j<w2.heap.size) (hj:j≠w.heap.size+1+1)=>dN w2 (w.heap.size+1+1) (K L me) (D no nn nc) (D ao an ac) (D so sn sc) (D ea jd je) (D oo eG oc) j hj);have HC:=J (fK (s1:=(O,0,0)) (s2:=(O,0,0)) (s3:=(O,0,0)) (s4:=(O,0,0)) (s5:=(O,0,0)) HB.out nO.out HK.out (by rw [(jO b ⟨(c,d),(c2,d2),p,f,Q⟩).2.1]; exact yS.out.on BL.out));go_wp2_with fail;obtain⟨T,a0,a3,a4,a5,a6⟩:=GG.out.fD;refine bodyPost_ret (v:=.tuple #[aG #[K L me,D no nn nc,D ao an ac,D so sn sc,D ea jd je,D oo eG oc],D O 0 0]) (by simp [results,aA,go_sem,T,a0,a3,a4,a5,a6]) rfl ?_;have hd:mE b f (c,d) (c2,d2) p=((iB b ⟨(c,d),(c2,d2),p,f,Q⟩).1,[]):=by unfold mE; rw [if_pos LB.out]
  rw [hd];exact⟨⟨(ea,jd,je),(O,0,0),rfl,HC.out,sw _⟩,BL.out⟩
 ·obtain⟨k,a,hk1,hak⟩:=Vg LB.out;have hk1:fO (b.dO.map Ad.id) (c,d)=k:=hk1;have DB:=J (show mE b f (c,d) (c2,d2) p=((iB b ⟨(c,d),(c2,d2),p,f,Q⟩).1,[qJ a.par ⟨(c,d),(c2,d2),p,f,Q⟩]) from by
   unfold mE;rw [if_neg (by rw [LB.out]; simp),hk1,Int.toNat_natCast,hak])
  obtain⟨ad,AO,yE⟩:=HB.out.dO;rw [(jO b ⟨(c,d),(c2,d2),p,f,Q⟩).2.2.1] at yE;obtain⟨z,hz1,hz2⟩:=yE.at k a hak;have FK:=Cc yE;rw [<- FK] at hk1;obtain⟨q1,q2,hq⟩:=AO.len;obtain⟨pa,ix,pl,px⟩:=qA okD AO hq rfl hz1;have ix2:∀ w,(Instr.indexAt 25 (D ao an ac) (K L (k:Int))).run X w=.ok (.pointer (aF pa)) w:=fun w=>by have h1:(D ao an ac)=D q1 ad.length q2:=hq; rw [h1]; exact ix w
  have pb:=px w2 (Below.refl _ _);have p3:w2.cell? ⟨pa.block,pa.off+3,O⟩=aF (K L z.2.2.2):=by simpa [Addr.add] using pb 3 _ rfl
  rw [hz2.2.1] at p3;have pn6:pa.block≠w.heap.size+1+1:=lS (E:=ED) (show dK w2 (w.heap.size+1+1) (ko 0 (O,0,0) (O,0,0) (O,0,0) (O,0,0) (O,0,0)) 30 from nO.out) (fun c=>⟨_,_,rfl,rfl⟩) (nI 0 (O,0,0) (O,0,0) (O,0,0) (O,0,0) (O,0,0)) pa z pb;clear hq ix pb px hz1 hz2 hak FK yE;go_upto_region 5 with fail;refine aiu _ w2 w.heap.size (w.heap.size+1) (w.heap.size+1+1) W.heap.size me mk c d c2 d2 f a.par Q no ao so ea oo nn nc an ac sn sc jd je eG oc po qo pn pc qn qc ad k pa _ _ _ _ _ _ _ _ _ _ _ _ _ _ _ _ _ _ _ _ _ _ _ _ _ _ _ _ _ _ _ _ _ _ _ _ _ _ _ _ _ _ _ qQ.out QA.out nO.out qX.out (by omega) (by omega) (by omega) AO hk1 ix2 p3 pl pn6 ?_;intro a9 x9 sl Kz h69 h79 hbx ho hblk hbl;have BL:=J (show Below w.heap.size w x9 from mR.out.trans (hbl w.heap.size (by omega)));have HC:=J (fK (s1:=(O,0,0)) (s2:=(O,0,0)) (s3:=(O,0,0)) (s4:=(O,0,0)) (s5:=(O,0,0)) HB.out nO.out hblk (by rw [(jO b ⟨(c,d),(c2,d2),p,f,Q⟩).2.1]; exact yS.out.on BL.out));have HU:=J (Row.dJ ho);obtain⟨T,a0,a3,a4,a5,a6⟩:=hbx.fD;clear hbx ho hblk hbl HB AO ix2 p3 pl pn6 hk1;simp only [Exit.then]
  apply_assumption
  go_wp2_with fail;refine bodyPost_ret (v:=.tuple #[aG #[K L me,D no nn nc,D ao an ac,D so sn sc,D ea jd je,D oo eG oc],dX sl]) (by simp [results,aA,go_sem,h69,h79,T,a0,a3,a4,a5,a6]) Kz ?_;rw [DB.out];exact⟨⟨ea,jd,je,sl.1,sl.2.1,sl.2.2,rfl,HC.out,_,HU.out,.cons ⟨rfl,rfl,rfl,rfl,HP.out.on BL.out,rfl⟩ .nil⟩,BL.out⟩
def gW (s:Br×List Ou) (mt:Bool) (e:En) (jh:Int):Br×List Ou:=if mt=Q then s else ((iB s.1 e).1,if (iB s.1 e).2=true then s.2++[qJ jh e] else s.2)
theorem Dv {b:Br} {e:En} (R:En->Prop) (h:∀ q∈b.ent,R q) (he:∀ u,R { e with up:=u }):∀ q∈(iB b e).1.ent,R q:=by
 unfold iB
 split
 ·exact h
 ·split
  ·exact h
  ·split
   ·exact h
   ·split
    ·exact h
    ·intro q hq;rcases ay.1 hq with h1|h1
     ·rcases ay.1 h1 with h2|h2
      ·exact h q (List.mem_of_mem_take h2)
      ·rw [List.mem_singleton.1 h2];exact he _
     ·exact h q (List.mem_of_mem_drop h1)
theorem Lu (b:Br) (e:En):(iB b e).1.ent.length<=b.ent.length+1:=by
 unfold iB
 split
 ·exact U _
 ·split
  ·exact U _
  ·split
   ·exact U _
   ·split
    ·exact U _
    ·show (fM _ _ _).length<=_;unfold fM;rw [V,V,ak,au];simp;omega
structure Nu (b0 b:Br) (k:Nat):Prop where
 me:b.me=b0.me
 near:b.near=b0.near
 dO:b.dO=b0.dO
 seen:b.seen=b0.seen
 own:b.own=b0.own
 len:b.ent.length<=b0.ent.length+k
theorem Nu.add {b0 b:Br} {k:Nat} (h:Nu b0 b k) (e:En):Nu b0 (iB b e).1 (k+1):=by
 obtain⟨h1,h2,h3,h4,h5⟩:=jO b e;exact⟨h1.trans h.me,h2.trans h.near,h3.trans h.dO,h4.trans h.seen,h5.trans h.own,by have:=Lu b e; have:=h.len; omega⟩
theorem Nu.succ {b0 b:Br} {k:Nat} (h:Nu b0 b k):Nu b0 b (k+1):=⟨h.me,h.near,h.dO,h.seen,h.own,by have:=h.len; omega⟩
theorem Nu.step {b0:Br} {s:Br×List Ou} {k:Nat} (h:Nu b0 s.1 k) (mt:Bool) (e:En) (t:Int):Nu b0 (gW s mt e t).1 (k+1):=by
 unfold gW
 split
 ·exact h.succ
 ·exact h.add e
theorem Zi {s:Br×List Ou} (mt:Bool) (e:En) (t:Int) (R:En->Prop) (h:∀ q∈s.1.ent,R q) (he:∀ u,R { e with up:=u }):∀ q∈(gW s mt e t).1.ent,R q:=by
 unfold gW
 split
 ·exact h
 ·exact Dv R h he
theorem Zj {s:Br×List Ou} (mt:Bool) (e:En) (t:Int):(gW s mt e t).2.length<=s.2.length+1:=by
 unfold gW
 split
 ·exact U _
 ·show (if _ then _ else _:List Ou).length<=_
  split
  ·simp
  ·exact U _
def eT {α:Type} (l:List α) (f:Br×List Ou->α->Br×List Ou) (s0:Br×List Ou) (k:Nat):Br×List Ou:=(l.take k).foldl f s0
theorem lW {α:Type} {l:List α} {k:Nat} {a:α} (f:Br×List Ou->α->Br×List Ou) (s0:Br×List Ou) (h:l[k]?=aF a):eT l f s0 (k+1)=f (eT l f s0 k) a:=by
 unfold eT;rw [List.take_add_one,h,List.foldl_append]
 rfl
theorem kW {α:Type} {l:List α} {b0:Br} {o0:List Ou} (mt:α->Bool) (e:α->En) (t:α->Int) (R:En->Prop) (h0:∀ q∈b0.ent,R q) (hR:∀ a∈l,∀ u,R { e a with up:=u }):∀ k,k<=l.length->Nu b0 (eT l (fun s a=>gW s (mt a) (e a) (t a)) (b0,o0) k).1 k/\(∀ q∈(eT l (fun s a=>gW s (mt a) (e a) (t a)) (b0,o0) k).1.ent,R q)/\(eT l (fun s a=>gW s (mt a) (e a) (t a)) (b0,o0) k).2.length<=o0.length+k
 | 0,_=>⟨⟨rfl,rfl,rfl,rfl,rfl,aj _⟩,h0,aj _⟩
 | k+1,hk=>by
  obtain⟨a,ha⟩:∃ a,l[k]?=aF a:=⟨_,List.getElem?_eq_getElem hk⟩;obtain⟨h1,h2,h3⟩:=kW mt e t R h0 hR k (by omega) (o0:=o0);rw [lW _ _ ha];exact⟨h1.step _ _ _,Zi _ _ _ R h2 (hR a (List.mem_of_getElem? ha)),aC (Zj _ _ _) (by omega)⟩
def iq (near:List Int) (but kind:Int) (t x:Id) (p:List C5):List Ou:=(near.filter fun n=>n != but).map fun n=>⟨n,kind,t,x,p⟩
abbrev Dw (x:Id) (o:Ow):En:=⟨x,o.id,o.p,-1,Q⟩
abbrev o8 (f:Int) (x:Id) (p:List C5) (s:Br×List Ou) (o:Ow):Br×List Ou:=gW s (fU o.p p) (Dw x o) f
def mI (b:Br) (f:Int) (x:Id) (p:List C5):Br×List Ou:=if (fQ b ⟨x,p,f⟩).2=Q then ((fQ b ⟨x,p,f⟩).1,[]) else
 eT (fQ b ⟨x,p,f⟩).1.own (o8 f x p) ((fQ b ⟨x,p,f⟩).1,iq b.near f 1 x (0,0) p) (fQ b ⟨x,p,f⟩).1.own.length
abbrev jm (x:Id) (p:List C5) (a:Ad):En:=⟨a.id,x,p,-1,Q⟩
abbrev iA (x:Id) (p:List C5) (s:Br×List Ou) (a:Ad):Br×List Ou:=gW s (fU p a.p) (jm x p a) a.par
def ownIn (b:Br) (x:Id) (p:List C5):Br:={ b with own:=fM b.own (fC (b.own.map Ow.id) x) ⟨x,p⟩ }
def fF (b:Br) (x:Id) (p:List C5):Br×List Ou:=if (b.own[fC (b.own.map Ow.id) x]?).map Ow.id=aF x then (b,[]) else
 eT b.dO (iA x p) (ownIn b x p,[]) b.dO.length
theorem lI (b:Br) (a:Ad):(fQ b a).1.me=b.me/\(fQ b a).1.near=b.near/\(fQ b a).1.ent=b.ent/\(fQ b a).1.own=b.own:=by
 unfold fQ
 split <;> exact⟨rfl,rfl,rfl,rfl⟩
theorem Ic (b:Br) (a:Ad):(fQ b a).1.dO.length<=b.dO.length+1/\(fQ b a).1.seen.length<=b.seen.length+1:=by
 unfold fQ
 split
 ·exact⟨U _,U _⟩
 ·constructor <;> (show (fM _ _ _).length<=_; unfold fM; rw [V,V,ak,au]; simp; omega)
theorem Ie {W:Y} {near:List Int} {f k:Int} {t x:Id} {pv:Sl} {p:List C5} (hp:fI W (dX pv) p):eY (uI W) (nH near f fun n=>(n,k,t.1,t.2,x.1,x.2,pv,(O,0,0))) (iq near f k t x p):=by
 unfold nH iq
 induction near.filter (fun n=>n != f) with
 | nil=>exact .nil
 | cons a l ih=>exact .cons ⟨rfl,rfl,rfl,rfl,hp,rfl⟩ ih
end Bk
namespace Bk
open Go.RowKit Go.Sort Rw YtghlpefopidlaaaGreat.Nm Pr
open Av
def vK (W1 W:Y) (Q9 ev:Sl) (yT lx:List jk):Prop:=(ev=Q9/\lx=yT)\/jH W W1.heap.size (dX ev) lx
theorem vL {W1 W:Y} {k:Nat} {me:Int} {s1 s2 s3 s4 s5:Sl} {v:aB} {p:List C5} (hb:dK W1 k (ko me s1 s2 s3 s4 s5) 30) (hk:But k W1 W) (h:fI W1 v p):fI W v p:=jv wF h hk.1 (tF hb (tH me s1 s2 s3 s4 s5))
theorem yH {W1 W:Y} {k:Nat} {me:Int} {s1 s2 s3 s4 s5:Sl} {l:List jk} {m:List En} (hb:dK W1 k (ko me s1 s2 s3 s4 s5) 30) (hk:But k W1 W) (h:eY (jJ W1) l m):eY (jJ W) l m:=h.mono fun _ _ hx=>⟨hx.1,hx.2.1,hx.2.2.1,hx.2.2.2.1,vL hb hk hx.2.2.2.2⟩
theorem Dx {W1 W:Y} {k:Nat} {me:Int} {s1 s2 s3 s4 s5:Sl} {l:List mX} {m:List Ou} (hb:dK W1 k (ko me s1 s2 s3 s4 s5) 30) (hk:But k W1 W) (h:eY (uI W1) l m):eY (uI W) l m:=Dk h hb hk.1
theorem vK.row {W1 W:Y} {k:Nat} {me:Int} {s1 s2 s3 s4 s5:Sl} {Q9 ev:Sl} {yT lx:List jk} (hb:dK W1 k (ko me s1 s2 s3 s4 s5) 30) (hk:But k W1 W) (h1:mh W1 (dX Q9) yT) (h:vK W1 W Q9 ev yT lx):mh W (dX ev) lx:=by
 rcases h with⟨rfl,rfl⟩|h
 ·exact jv mM h1 hk.1 (lS hb (fun c=>⟨_,_,rfl,rfl⟩) (nI me s1 s2 s3 s4 s5))
 ·exact Row.dJ h
theorem sI {W1 W:Y} {k:Nat} {me:Int} {s1 s2 s3 s4 s5:Sl} {b1 b:Br} {q:Nat} {nv av sv Q9 ov ev:Sl} {yT lx:List jk} (hb:dK W1 k (ko me s1 s2 s3 s4 s5) 30) (hk:But k W1 W) (hI:jq W1 b1 nv av sv Q9 ov) (hn:uR W (dX nv) b1.near) (h1:mh W1 (dX Q9) yT) (h:vK W1 W Q9 ev yT lx) (ha:eY (jJ W1) lx b.ent) (hs:Nu b1 b q):jq W b nv av sv ev ov:=by
 have h2:=fK hI hb hk.1 hn;exact⟨by rw [hs.near]; exact h2.near,by rw [hs.dO]; exact h2.dO,by rw [hs.seen]; exact h2.seen,⟨lx,h.row hb hk h1,yH hb hk ha⟩,by rw [hs.own]; exact h2.own⟩
theorem But.below {k:Nat} {a b c:Y} (h:But k a b) (hb:Below b.heap.size b c):But k a c:=h.trans (But.of_below hb)
theorem vK.on {W1 W W':Y} {Q9 ev:Sl} {yT lx:List jk} (h:vK W1 W Q9 ev yT lx) (hb:Below W.heap.size W W'):vK W1 W' Q9 ev yT lx:=h.imp id fun h=>Bk.dI h hb
theorem fu (w:Y) (b:Nat) (a0 a1 a2 a3 a4 a5:aB):But b w (gV w b a0 a1 a2 a3 a4 a5):=⟨fun j _ hj=>dN w b a0 a1 a2 a3 a4 a5 j hj,by simp [gV]⟩
theorem JC {W1 W W':Y} {k B:Nat} {Q9 ev:Sl} {yT lx:List jk} {v:aB} {lo:List mX} (hF:B=W1.heap.size) (ho:jX W B v lo) (gr:W.grownBy W' v.ownBlock) (hk:But k W1 W) (h:vK W1 W Q9 ev yT lx):But k W1 W'/\vK W1 W' Q9 ev yT lx/\(∀ bb cs t,bb<B->dK W bb cs t->dK W' bb cs t):=by
 subst hF;have hne:∀ j,j<W1.heap.size->aF j≠v.ownBlock:=fun j hj e=>by have:=(ho.lt j e.symm).1; omega
 refine⟨⟨fun j hj hn=>(gr.block j (Nat.lt_of_lt_of_le hj hk.2) (hne j hj)).trans (hk.1 j hj hn),aC hk.2 gr.size⟩,h.imp id fun h=>Jp ho gr h (by decide),fun bb cs t hl hb=>(gr.block bb hb.lt (hne bb hl)).trans hb⟩
end Bk
end Go.Proofs.YtghlpefopidlaaaGreat
