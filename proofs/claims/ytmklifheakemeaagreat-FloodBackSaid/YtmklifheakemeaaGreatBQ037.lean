/-
  The document's own M. Conditions as told.
-/
import Derived.Test.YtmklifheakemeaaGreatBQ036
import Derived.Test.YtmklifheakemeaaGreatBQ032
import Derived.Test.YtmklifheakemeaaGreatBQ027
set_option maxRecDepth 100000
set_option maxHeartbeats 64000000
open _root_.Bool renaming false->Q
open _root_.Go renaming World->Y,Value->aB,Calls->aD
open Go.IntKind renaming i64->L
open Go.Lib renaming hid->J
open Go.Obj renaming cells->Z
open Go.Proofs.Tryz renaming prog->X,results101->ay
open Go.Value renaming slice->D,int->K,agg->aG,bool->aH
open _root_.List renaming length_append->V,length_map->ah,length_take->ak,length_drop->au,mem_append->aA
open _root_.Nat renaming le_succ->U,le_refl->aj,le_trans->aC
open _root_.Option renaming none->O,some->aF
namespace Go.Proofs.YtmklifheakemeaaGreat
namespace Rl
open Go.RowKit Go.Sort Pu Rw Pr Va
theorem QL {W:Y} {oL bv:aB} {a b:List Cn} (ha:fH W oL (a.map r5)) (hb:fH W bv (b.map r5)) (la:a.length<=5) (lb:b.length<=5) :
  ∃ v1 w1 v2 w2,(Builtin.append_ #[32,32] 32 #[D (aF ⟨W.heap.size,0,O⟩) 0 0,oL]).run X (W.alloc (Z #[] 70))=.ok v1 w1 /\
   (Builtin.append_ #[32,32] 32 #[v1,bv]).run X w1=.ok v2 w2/\fH w2 v2 ((a++b).map r5)/\Below W.heap.size W w2:=by
 have b0:=(Below.refl W.heap.size W).alloc (aj _) (Z #[] 70);obtain⟨v1,w1,r1,o1,g1⟩:=Ce W.heap.size (oh W) (ha.on b0) (by simp) (by rw [ah]; omega) (by simp);have b1:=b0.grown g1 b0.size (fun j hj=>((oh W).lt j hj).1);obtain⟨v2,w2,r2,o2,g2⟩:=Ce W.heap.size o1 (hb.on b1) (by simp; omega) (by rw [ah]; omega) b1.size;have b2:=b1.grown g2 b1.size (fun j hj=>(o1.lt j hj).1);exact⟨v1,w1,v2,w2,r1,r2,by rw [List.map_append]; exact Row.dH (by simpa using o2),b2⟩
theorem II (oL bv:aB) (a b:List Cn) (w:Y) (ha:fH w oL (a.map r5)) (hb:fH w bv (b.map r5)) (na:NF a) (nb:NF b):aD X 46 #[oL,bv] w fun e w'=>e=.returned (aH (sD a b))/\Below w.heap.size w w':=by
 obtain⟨v1,w1,v2,w2,r1,r2,ro,b2⟩:=QL ha hb na.five nb.five;have B2:=J b2;have MK:=J (QK v2 (a++b) w2 ro (by have:=na.five; have:=nb.five; simp; omega));have RB:=J (R6 (b:=b) na.rise);have MR:=J (R7 (b:=b) na.rise na.five);rw [RB.out] at MK;generalize jJ a b=res at *;generalize sD a b=r at *;clear ha hb na nb ro b2 RB;go_enter Tryz.func46,Tryz.ntmps46;go_wp2_with (first | (at_builtin; refine wpList_append_run rfl _ _ 32 rfl rfl rfl r1 ?_) | (at_builtin; refine wpList_append_run rfl _ _ 32 rfl rfl rfl r2 ?_) | fail);refine MK.out.mono ?_;rintro e3 w3 ⟨hb3,h3⟩;have B3:=J (B2.out.trans (hb3.mono B2.out.size));clear hb3 MK r1 r2;rcases res with _|p
 ·have R:=J (show r=Q from MR.out);obtain rfl:=h3;clear MR;go_wp2;go_ret;exact⟨eD R.out.symm,B3.out⟩
 ·obtain⟨v,rfl,hp⟩:=h3;obtain⟨po,pc,rfl⟩:=hp.len;have R:=J (show r=decide (p.length<=5) from MR.out);rw [ah];clear MR hp;by_cases h5:p.length<=5
  ·have d1:decide ((p.length:Int)<=5)=true:=by simp; omega
   have R2:=J (show r=true by rw [R.out]; simpa using h5);clear R h5;go_wp2;go_ret;exact⟨eD R2.out.symm,B3.out⟩
  ·have d1:decide ((p.length:Int)<=5)=Q:=by simp; omega
   have R2:=J (show r=Q by rw [R.out]; simpa using h5);clear R h5;go_wp2;go_ret;exact⟨eD R2.out.symm,B3.out⟩
end Rl
namespace Bk
open Go.RowKit Go.Sort Rw YtmklifheakemeaaGreat.Nm Pr Rl
def jh (p q:List C5):Bool:=sD (p.map Zz) (q.map Zz)
theorem Fu (oL bv:aB) (p q:List C5) (w:Y) (ha:fH w oL p) (hb:fH w bv q) (hp:dZ p) (hq:dZ q) :
  aD X 46 #[oL,bv] w fun e w'=>e=.returned (aH (jh p q))/\Below w.heap.size w w':=by
 obtain⟨a,na,rfl⟩:=hp;obtain⟨b,nb,rfl⟩:=hq;unfold jh;rw [pO,pO];exact II oL bv a b w ha hb na nb
abbrev mgv (k:Int) (t x:Id) (pv qv:Sl):aB:=aG #[K L k,K L t.1,K L t.2,K L x.1,K L x.2,dX pv,dX qv]
theorem Fv (b:Br) (nv av sv ev ov:Sl) (f mk:Int) (t x:Id) (pv qv:Sl) (w:Y) (h:iZ w b nv av sv ev ov) (l2:b.dQ.length<=900) (l3:b.ent.length<=900) (hok:∀ e∈b.ent,dZ e.p) (hkn:∀ e∈b.ent,e.tree∈b.dQ.map Ad.id) :
  aD X 102 #[oK b.me nv av sv ev ov,K L f,mgv mk t x pv qv] w fun e w'=>(∃ ev' lo:Sl,e=.returned (.tuple #[oK b.me nv av sv ev' ov,dX lo])/\iZ w' (kH b t x f).1 nv av sv ev' ov/\jE w' lo (kH b t x f).2)/\Below w.heap.size w w':=by
 obtain⟨no,nn,nc⟩:=nv;obtain⟨ao,an,ac⟩:=av;obtain⟨so,sn,sc⟩:=sv;obtain⟨eo,en,ec⟩:=ev;obtain⟨oo,dY,oc⟩:=ov;obtain⟨po,pn,pc⟩:=pv;obtain⟨qo,qn,qc⟩:=qv;obtain⟨c,d⟩:=t;obtain⟨c2,d2⟩:=x;have DP:=J (fun W hb'=>DK b (no,nn,nc) (ao,an,ac) (so,sn,sc) (eo,en,ec) (oo,dY,oc) (c,d) (c2,d2) f W (h.on (show Below w.heap.size w W from hb')) l2 l3 hok hkn);have wW:=J h.near;obtain⟨h0,h1,h2,h3⟩:=gJ w #[K L b.me,D no nn nc,D ao an ac,D so sn sc,D eo en ec,D oo dY oc] #[K L mk,K L c,K L d,K L c2,K L d2,D po pn pc,D qo qn qc] #[K L 0,D O 0 0,D O 0 0,D O 0 0,D O 0 0,D O 0 0] 28 41 28;obtain⟨me,hme⟩:∃ me,me=b.me:=⟨_,rfl⟩;simp only [<- hme] at h0 h1 h2 h3 DP ⊢;have gB:=J (h0);have qO:=J (h1);have mR:=J (h2);have lW:=J (h3);clear h0 h1 h2 h3 h l2 hme hok hkn;show aD X 102 #[aG #[K L me,D no nn nc,D ao an ac,D so sn sc,D eo en ec,D oo dY oc],K L f,aG #[K L mk,K L c,K L d,K L c2,K L d2,D po pn pc,D qo qn qc]] w _;go_enter Tryz.func102,Tryz.ntmps102;go_upto_region 1 with fail;generalize (((w.alloc (Z #[K L me,D no nn nc,D ao an ac,D so sn sc,D eo en ec,D oo dY oc] 28)).alloc (Z #[K L mk,K L c,K L d,K L c2,K L d2,D po pn pc,D qo qn qc] 41)).alloc (Z #[K L 0,D O 0 0,D O 0 0,D O 0 0,D O 0 0,D O 0 0] 28))=W at *;have SW:=J (DP.out W gB.out);clear DP;obtain⟨x0,x1,x2,x3,x4,x5⟩:=qO.out.fu;obtain⟨y0,y1,y2,y3,y4,y5,y6⟩:=mR.out.oJ;go_wp2_with fail;refine SW.out.mono ?_;rintro e1 w1 ⟨⟨⟨ea,iA,iB⟩,⟨la,ln,lc⟩,rfl,hbr,hou⟩,hb⟩;clear SW;clear x0 x1 x2 x3 x4 x5 y0 y1 y2 y3 y4 y5 y6;have lg:=J (gB.out.trans (hb.mono gB.out.size));have kR:=J (qO.out.on hb);have Ll:=J (mR.out.on hb);have lQ:=J (lW.out.on hb);clear gB qO mR lW;obtain⟨r0,r1,r2,r3,r4,r5⟩:=lQ.out.fu;obtain⟨wG,uD,yR,Ae,Af,Ag⟩:=lQ.out.kD;have zz:=lQ.out.lt;have GG:=J (dL lQ.out (K L me) (D no nn nc) (D ao an ac) (D so sn sc) (D ea iA iB) (D oo dY oc));have BL:=J (dG (b:=w.heap.size+1+1) lg.out (by omega) (K L me) (D no nn nc) (D ao an ac) (D so sn sc) (D ea iA iB) (D oo dY oc));have HK:=J (fun j (_:j<w1.heap.size) (hj:j≠w.heap.size+1+1)=>dK w1 (w.heap.size+1+1) (K L me) (D no nn nc) (D ao an ac) (D so sn sc) (D ea iA iB) (D oo dY oc) j hj);have HC:=J (fF (s1:=(O,0,0)) (s2:=(O,0,0)) (s3:=(O,0,0)) (s4:=(O,0,0)) (s5:=(O,0,0)) hbr lQ.out HK.out (by rw [jg,(jQ b (c,d) (c2,d2) f).2.1]; exact wW.out.on BL.out));have HO:=J (iw (s1:=(O,0,0)) (s2:=(O,0,0)) (s3:=(O,0,0)) (s4:=(O,0,0)) (s5:=(O,0,0)) hou lQ.out HK.out);go_wp2_with fail;obtain⟨v0,v1,v2,v3,v4,v5⟩:=GG.out.fu;refine bodyPost_ret (v:=.tuple #[aG #[K L me,D no nn nc,D ao an ac,D so sn sc,D ea iA iB,D oo dY oc],D la ln lc]) (by simp [results,Tryz.results102,go_sem,v0,v1,v2,v3,v4,v5]) rfl ?_;exact⟨⟨(ea,iA,iB),(la,ln,lc),rfl,HC.out,HO.out⟩,BL.out⟩
def nK (b:Br) (f:Int) (t x:Id) (p:List C5):Br×List Ou:=if (gQ b ⟨t,x,p,f,Q⟩).2=Q then ((gQ b ⟨t,x,p,f,Q⟩).1,[]) else
 match b.dQ[(fI (b.dQ.map Ad.id) t).toNat]? with
 | none=>((gQ b ⟨t,x,p,f,Q⟩).1,[])
 | some a=>((gQ b ⟨t,x,p,f,Q⟩).1,[vG a.par ⟨t,x,p,f,Q⟩])
theorem qP (b:Br) (f:Int) (t x:Id) (p:List C5):(nK b f t x p).1=(gQ b ⟨t,x,p,f,Q⟩).1:=by
 unfold nK
 split
 ·rfl
 ·split <;> rfl
theorem QM {b:Br} {e:En} (h:(gQ b e).2=true):∃ (k:Nat) (a:Ad),fI (b.dQ.map Ad.id) e.tree=k/\b.dQ[k]?=aF a:=by
 unfold gQ at h
 split at h
 ·cases h
 ·rename_i a ha
  split at h
  ·cases h
  ·rename_i h1
   have h2:=ng (b.dQ.map Ad.id) e.tree;exact⟨(fI (b.dQ.map Ad.id) e.tree).toNat,a,by omega,ha⟩
theorem Lm (b:Br) (nv av sv ev ov:Sl) (f mk:Int) (t x:Id) (pv qv:Sl) (p:List C5) (w:Y) (h:iZ w b nv av sv ev ov) (hp:fH w (dX pv) p) (l2:b.dQ.length<=900) (l3:b.ent.length<=900) (hok:∀ e∈b.ent,dZ e.p) (hop:dZ p) :
  aD X 101 #[oK b.me nv av sv ev ov,K L f,mgv mk t x pv qv] w fun e w'=>(∃ ev' lo:Sl,e=.returned (.tuple #[oK b.me nv av sv ev' ov,dX lo])/\iZ w' (nK b f t x p).1 nv av sv ev' ov/\jE w' lo (nK b f t x p).2)/\Below w.heap.size w w':=by
 obtain⟨no,nn,nc⟩:=nv;obtain⟨ao,an,ac⟩:=av;obtain⟨so,sn,sc⟩:=sv;obtain⟨eo,en,ec⟩:=ev;obtain⟨oo,dY,oc⟩:=ov;obtain⟨po,pn,pc⟩:=pv;obtain⟨qo,qn,qc⟩:=qv;obtain⟨c,d⟩:=t;obtain⟨c2,d2⟩:=x;have AD:=J (fun W hb'=>TV b (no,nn,nc) (ao,an,ac) (so,sn,sc) (eo,en,ec) (oo,dY,oc) (c,d,c2,d2,(po,pn,pc),f,Q) ⟨(c,d),(c2,d2),p,f,Q⟩ W (h.on (show Below w.heap.size w W from hb')) ⟨rfl,rfl,rfl,rfl,hp.on hb'⟩ l2 l3 hok hop);have wW:=J h.near;have HP:=J hp;obtain⟨h0,h1,h2,h3⟩:=gJ w #[K L b.me,D no nn nc,D ao an ac,D so sn sc,D eo en ec,D oo dY oc] #[K L mk,K L c,K L d,K L c2,K L d2,D po pn pc,D qo qn qc] #[K L 0,D O 0 0,D O 0 0,D O 0 0,D O 0 0,D O 0 0] 28 41 28;obtain⟨me,hme⟩:∃ me,me=b.me:=⟨_,rfl⟩;simp only [<- hme] at h0 h1 h2 h3 AD ⊢;have gB:=J (h0);have qO:=J (h1);have mR:=J (h2);have lW:=J (h3);clear h0 h1 h2 h3 h l2 hme hok hp;show aD X 101 #[aG #[K L me,D no nn nc,D ao an ac,D so sn sc,D eo en ec,D oo dY oc],K L f,aG #[K L mk,K L c,K L d,K L c2,K L d2,D po pn pc,D qo qn qc]] w _;go_enter Tryz.func101,Tryz.ntmps101;go_upto_region 1 with fail;generalize (((w.alloc (Z #[K L me,D no nn nc,D ao an ac,D so sn sc,D eo en ec,D oo dY oc] 28)).alloc (Z #[K L mk,K L c,K L d,K L c2,K L d2,D po pn pc,D qo qn qc] 41)).alloc (Z #[K L 0,D O 0 0,D O 0 0,D O 0 0,D O 0 0,D O 0 0] 28))=W at *;obtain⟨y0,y1,y2,y3,y4,y5,y6⟩:=mR.out.oJ;go_upto_region 2 with fail;clear y0 y1 y2 y3 y4 y5 y6;have W4:=J (show w.heap.size+3<=W.heap.size from by have:=lW.out.lt; omega);have NN:=gu W (Z #[K L c,K L d,K L c2,K L d2,D po pn pc,K L f,aH Q] 66);have lg:=J (gB.out.trans (NN.mono gB.out.size));have kR:=J (qO.out.on NN);have Ll:=J (mR.out.on NN);have lQ:=J (lW.out.on NN);clear gB qO mR lW;clear NN;have QF:=J (dO W #[K L c,K L d,K L c2,K L d2,D po pn pc,K L f,aH Q] 66);generalize W.alloc (Z #[K L c,K L d,K L c2,K L d2,D po pn pc,K L f,aH Q] 66)=Wa at *;have SW:=J (AD.out Wa lg.out);clear AD;obtain⟨x0,x1,x2,x3,x4,x5⟩:=kR.out.fu;obtain⟨z0,z1,z2,z3,z4,z5,z6⟩:=QF.out.oJ;go_wp2_with fail;refine SW.out.mono ?_;rintro e1 w1 ⟨⟨⟨ea,iA,iB⟩,rfl,hbr⟩,hb⟩;clear SW;clear x0 x1 x2 x3 x4 x5 z0 z1 z2 z3 z4 z5 z6;have mq:=J (lg.out.trans (hb.mono lg.out.size));have o7:=J (kR.out.on hb);have Qw:=J (Ll.out.on hb);have oG:=J (lQ.out.on hb);have qh:=J (QF.out.on hb);clear lg kR Ll lQ QF;obtain⟨fb,Ky⟩:∃ r,(gQ b ⟨(c,d),(c2,d2),p,f,Q⟩).2=r:=⟨_,rfl⟩;have LB:=J Ky;rw [Ky];have w4:=W4.out;obtain⟨k0,k1,k2,k3,k4,k5⟩:=o7.out.fu;obtain⟨oN,oO,oP,oQ,oU,oW⟩:=o7.out.kD;have zz:=o7.out.lt;have FB:=J (dL o7.out (K L me) (D no nn nc) (D ao an ac) (D so sn sc) (D ea iA iB) (D oo dY oc));have B2:=J (dG (b:=w.heap.size) mq.out (aj _) (K L me) (D no nn nc) (D ao an ac) (D so sn sc) (D ea iA iB) (D oo dY oc));have Ct:=J (fun j (_:j<w1.heap.size) (hj:j≠w.heap.size)=>dK w1 (w.heap.size) (K L me) (D no nn nc) (D ao an ac) (D so sn sc) (D ea iA iB) (D oo dY oc) j hj);have FX5:=J (show dJ _ _ _ _ from (dK w1 (w.heap.size) (K L me) (D no nn nc) (D ao an ac) (D so sn sc) (D ea iA iB) (D oo dY oc) (w.heap.size+1) (by omega)).trans Qw.out);have Au:=J (show dJ _ _ _ _ from (dK w1 (w.heap.size) (K L me) (D no nn nc) (D ao an ac) (D so sn sc) (D ea iA iB) (D oo dY oc) (w.heap.size+1+1) (by omega)).trans oG.out);have FX8:=J (show dJ _ _ _ _ from (dK w1 (w.heap.size) (K L me) (D no nn nc) (D ao an ac) (D so sn sc) (D ea iA iB) (D oo dY oc) (W.heap.size) (by omega)).trans qh.out);have HB:=J (fF (s1:=(no,nn,nc)) (s2:=(ao,an,ac)) (s3:=(so,sn,sc)) (s4:=(eo,en,ec)) (s5:=(oo,dY,oc)) hbr o7.out Ct.out (by rw [(jq b ⟨(c,d),(c2,d2),p,f,Q⟩).2.1]; exact wW.out.on B2.out));clear Ky mq o7 Qw oG qh;go_upto_region 3 with fail;clear zz Ct k0 k1 k2 k3 k4 k5 oN oO oP oQ oU oW;unfold gF at FB B2 HB FX5 Au FX8;generalize ((((((w1.setCell ⟨w.heap.size,0,O⟩ (K L me)).setCell ⟨w.heap.size,1,O⟩ (D no nn nc)).setCell ⟨w.heap.size,2,O⟩ (D ao an ac)).setCell ⟨w.heap.size,3,O⟩ (D so sn sc)).setCell ⟨w.heap.size,4,O⟩ (D ea iA iB)).setCell ⟨w.heap.size,5,O⟩ (D oo dY oc))=w2 at *;have nI:=J (B2.out);have oZ:=J (FB.out);have M7:=J (FX5.out);have mE:=J (Au.out);have pQ:=J (FX8.out);clear B2 FB FX5 Au FX8;cases fb
 ·have x0:=oZ.out.cell 0;have x1:=oZ.out.cell 1;have x2:=oZ.out.cell 2;have x3:=oZ.out.cell 3;have x4:=oZ.out.cell 4;have x5:=oZ.out.cell 5;simp only [List.getElem?_toArray,List.getElem?_cons_zero,List.getElem?_cons_succ] at x0 x1 x2 x3 x4 x5;obtain⟨r0,r1,r2,r3,r4,r5⟩:=mE.out.fu;obtain⟨wG,uD,yR,Ae,Af,Ag⟩:=mE.out.kD;have zz:=mE.out.lt;have GG:=J (dL mE.out (K L me) (D no nn nc) (D ao an ac) (D so sn sc) (D ea iA iB) (D oo dY oc));have BL:=J (dG (b:=w.heap.size+1+1) nI.out (by omega) (K L me) (D no nn nc) (D ao an ac) (D so sn sc) (D ea iA iB) (D oo dY oc));have HK:=J (fun j (_:j<w2.heap.size) (hj:j≠w.heap.size+1+1)=>dK w2 (w.heap.size+1+1) (K L me) (D no nn nc) (D ao an ac) (D so sn sc) (D ea iA iB) (D oo dY oc) j hj);have HC:=J (fF (s1:=(O,0,0)) (s2:=(O,0,0)) (s3:=(O,0,0)) (s4:=(O,0,0)) (s5:=(O,0,0)) HB.out mE.out HK.out (by rw [(jq b ⟨(c,d),(c2,d2),p,f,Q⟩).2.1]; exact wW.out.on BL.out));go_wp2_with fail;obtain⟨v0,v1,v2,v3,v4,v5⟩:=GG.out.fu;refine bodyPost_ret (v:=.tuple #[aG #[K L me,D no nn nc,D ao an ac,D so sn sc,D ea iA iB,D oo dY oc],D O 0 0]) (by simp [results,ay,go_sem,v0,v1,v2,v3,v4,v5]) rfl ?_;have hd:nK b f (c,d) (c2,d2) p=((gQ b ⟨(c,d),(c2,d2),p,f,Q⟩).1,[]):=by unfold nK; rw [if_pos LB.out]
  rw [hd];exact⟨⟨(ea,iA,iB),(O,0,0),rfl,HC.out,qK _⟩,BL.out⟩
 ·obtain⟨k,a,hk1,hak⟩:=QM LB.out;have hk1:fI (b.dQ.map Ad.id) (c,d)=k:=hk1;have DB:=J (show nK b f (c,d) (c2,d2) p=((gQ b ⟨(c,d),(c2,d2),p,f,Q⟩).1,[vG a.par ⟨(c,d),(c2,d2),p,f,Q⟩]) from by
   unfold nK;rw [if_neg (by rw [LB.out]; simp),hk1,Int.toNat_natCast,hak])
  obtain⟨ad,yT,wM⟩:=HB.out.dQ;rw [(jq b ⟨(c,d),(c2,d2),p,f,Q⟩).2.2.1] at wM;obtain⟨z,hz1,hz2⟩:=wM.at k a hak;have FK:=zI wM;rw [<- FK] at hk1;obtain⟨q1,q2,hq⟩:=yT.len;obtain⟨pa,ix,pl,px⟩:=mH okD yT hq rfl hz1;have ix2:∀ w,(Instr.indexAt 23 (D ao an ac) (K L (k:Int))).run X w=.ok (.pointer (aF pa)) w:=fun w=>by have h1:(D ao an ac)=D q1 ad.length q2:=hq; rw [h1]; exact ix w
  have pb:=px w2 (Below.refl _ _);have p3:w2.cell? ⟨pa.block,pa.off+3,O⟩=aF (K L z.2.2.2):=by simpa [Addr.add] using pb 3 _ rfl
  rw [hz2.2.1] at p3;have pn6:pa.block≠w.heap.size+1+1:=kS (E:=ED) (show dJ w2 (w.heap.size+1+1) (jr 0 (O,0,0) (O,0,0) (O,0,0) (O,0,0) (O,0,0)) 28 from mE.out) (fun c=>⟨_,_,rfl,rfl⟩) (lT 0 (O,0,0) (O,0,0) (O,0,0) (O,0,0) (O,0,0)) pa z pb;clear hq ix pb px hz1 hz2 hak FK wM;go_upto_region 5 with fail;refine acK _ w2 w.heap.size (w.heap.size+1) (w.heap.size+1+1) W.heap.size me mk c d c2 d2 f a.par Q no ao so ea oo nn nc an ac sn sc iA iB dY oc po qo pn pc qn qc ad k pa _ _ _ _ _ _ _ _ _ _ _ _ _ _ _ _ _ _ _ _ _ _ _ _ _ _ _ _ _ _ _ _ _ _ _ _ _ _ _ _ _ _ _ oZ.out M7.out mE.out pQ.out (by omega) (by omega) (by omega) yT hk1 ix2 p3 pl pn6 ?_;intro a9 x9 sl Ho h69 h79 hbx ho hblk hbl;have BL:=J (show Below w.heap.size w x9 from nI.out.trans (hbl w.heap.size (by omega)));have HC:=J (fF (s1:=(O,0,0)) (s2:=(O,0,0)) (s3:=(O,0,0)) (s4:=(O,0,0)) (s5:=(O,0,0)) HB.out mE.out hblk (by rw [(jq b ⟨(c,d),(c2,d2),p,f,Q⟩).2.1]; exact wW.out.on BL.out));have HU:=J (Row.dH ho);obtain⟨v0,v1,v2,v3,v4,v5⟩:=hbx.fu;clear hbx ho hblk hbl HB yT ix2 p3 pl pn6 hk1;simp only [Exit.then]
  apply_assumption
  go_wp2_with fail;refine bodyPost_ret (v:=.tuple #[aG #[K L me,D no nn nc,D ao an ac,D so sn sc,D ea iA iB,D oo dY oc],dX sl]) (by simp [results,ay,go_sem,h69,h79,v0,v1,v2,v3,v4,v5]) Ho ?_;rw [DB.out];exact⟨⟨ea,iA,iB,sl.1,sl.2.1,sl.2.2,rfl,HC.out,_,HU.out,.cons ⟨rfl,rfl,rfl,rfl,HP.out.on BL.out,rfl⟩ .nil⟩,BL.out⟩
def fO (s:Br×List Ou) (mt:Bool) (e:En) (iq:Int):Br×List Ou:=if mt=Q then s else ((gQ s.1 e).1,if (gQ s.1 e).2=true then s.2++[vG iq e] else s.2)
theorem IJ {b:Br} {e:En} (R:En->Prop) (h:∀ q∈b.ent,R q) (he:∀ u,R { e with up:=u }):∀ q∈(gQ b e).1.ent,R q:=by
 unfold gQ
 split
 ·exact h
 ·split
  ·exact h
  ·split
   ·exact h
   ·split
    ·exact h
    ·intro q hq;rcases aA.1 hq with h1|h1
     ·rcases aA.1 h1 with h2|h2
      ·exact h q (List.mem_of_mem_take h2)
      ·rw [List.mem_singleton.1 h2];exact he _
     ·exact h q (List.mem_of_mem_drop h1)
theorem IK (b:Br) (e:En):(gQ b e).1.ent.length<=b.ent.length+1:=by
 unfold gQ
 split
 ·exact U _
 ·split
  ·exact U _
  ·split
   ·exact U _
   ·split
    ·exact U _
    ·show (fU _ _ _).length<=_;unfold fU;rw [V,V,ak,au];simp;omega
structure Lp (b0 b:Br) (k:Nat):Prop where
 me:b.me=b0.me
 near:b.near=b0.near
 dQ:b.dQ=b0.dQ
 seen:b.seen=b0.seen
 own:b.own=b0.own
 len:b.ent.length<=b0.ent.length+k
theorem Lp.add {b0 b:Br} {k:Nat} (h:Lp b0 b k) (e:En):Lp b0 (gQ b e).1 (k+1):=by
 obtain⟨h1,h2,h3,h4,h5⟩:=jq b e;exact⟨h1.trans h.me,h2.trans h.near,h3.trans h.dQ,h4.trans h.seen,h5.trans h.own,by have:=IK b e; have:=h.len; omega⟩
theorem Lp.succ {b0 b:Br} {k:Nat} (h:Lp b0 b k):Lp b0 b (k+1):=⟨h.me,h.near,h.dQ,h.seen,h.own,by have:=h.len; omega⟩
theorem Lp.step {b0:Br} {s:Br×List Ou} {k:Nat} (h:Lp b0 s.1 k) (mt:Bool) (e:En) (t:Int):Lp b0 (fO s mt e t).1 (k+1):=by
 unfold fO
 split
 ·exact h.succ
 ·exact h.add e
theorem Vd {s:Br×List Ou} (mt:Bool) (e:En) (t:Int) (R:En->Prop) (h:∀ q∈s.1.ent,R q) (he:∀ u,R { e with up:=u }):∀ q∈(fO s mt e t).1.ent,R q:=by
 unfold fO
 split
 ·exact h
 ·exact IJ R h he
theorem Ve {s:Br×List Ou} (mt:Bool) (e:En) (t:Int):(fO s mt e t).2.length<=s.2.length+1:=by
 unfold fO
 split
 ·exact U _
 ·show (if _ then _ else _:List Ou).length<=_
  split
  ·simp
  ·exact U _
def eu {α:Type} (l:List α) (f:Br×List Ou->α->Br×List Ou) (s0:Br×List Ou) (k:Nat):Br×List Ou:=(l.take k).foldl f s0
theorem jF {α:Type} {l:List α} {k:Nat} {a:α} (f:Br×List Ou->α->Br×List Ou) (s0:Br×List Ou) (h:l[k]?=aF a):eu l f s0 (k+1)=f (eu l f s0 k) a:=by
 unfold eu;rw [List.take_add_one,h,List.foldl_append]
 rfl
theorem lH {α:Type} {l:List α} {b0:Br} {o0:List Ou} (mt:α->Bool) (e:α->En) (t:α->Int) (R:En->Prop) (h0:∀ q∈b0.ent,R q) (hR:∀ a∈l,∀ u,R { e a with up:=u }):∀ k,k<=l.length->Lp b0 (eu l (fun s a=>fO s (mt a) (e a) (t a)) (b0,o0) k).1 k/\(∀ q∈(eu l (fun s a=>fO s (mt a) (e a) (t a)) (b0,o0) k).1.ent,R q)/\(eu l (fun s a=>fO s (mt a) (e a) (t a)) (b0,o0) k).2.length<=o0.length+k
 | 0,_=>⟨⟨rfl,rfl,rfl,rfl,rfl,aj _⟩,h0,aj _⟩
 | k+1,hk=>by
  obtain⟨a,ha⟩:∃ a,l[k]?=aF a:=⟨_,List.getElem?_eq_getElem hk⟩;obtain⟨h1,h2,h3⟩:=lH mt e t R h0 hR k (by omega) (o0:=o0);rw [jF _ _ ha];exact⟨h1.step _ _ _,Vd _ _ _ R h2 (hR a (List.mem_of_getElem? ha)),aC (Ve _ _ _) (by omega)⟩
def eB (near:List Int) (but kind:Int) (t x:Id) (p:List C5):List Ou:=(near.filter fun n=>n != but).map fun n=>⟨n,kind,t,x,p⟩
abbrev mD (x:Id) (o:Ow):En:=⟨x,o.id,o.p,-1,Q⟩
abbrev iG (f:Int) (x:Id) (p:List C5) (s:Br×List Ou) (o:Ow):Br×List Ou:=fO s (jh o.p p) (mD x o) f
def gy (b:Br) (f:Int) (x:Id) (p:List C5):Br×List Ou:=if (eF b ⟨x,p,f⟩).2=Q then ((eF b ⟨x,p,f⟩).1,[]) else
 eu (eF b ⟨x,p,f⟩).1.own (iG f x p) ((eF b ⟨x,p,f⟩).1,eB b.near f 1 x (0,0) p) (eF b ⟨x,p,f⟩).1.own.length
abbrev nO (x:Id) (p:List C5) (a:Ad):En:=⟨a.id,x,p,-1,Q⟩
abbrev jS (x:Id) (p:List C5) (s:Br×List Ou) (a:Ad):Br×List Ou:=fO s (jh p a.p) (nO x p a) a.par
def ownIn (b:Br) (x:Id) (p:List C5):Br:={ b with own:=fU b.own (fM (b.own.map Ow.id) x) ⟨x,p⟩ }
def lu (b:Br) (x:Id) (p:List C5):Br×List Ou:=if (b.own[fM (b.own.map Ow.id) x]?).map Ow.id=aF x then (b,[]) else
 eu b.dQ (jS x p) (ownIn b x p,[]) b.dQ.length
theorem iH (b:Br) (a:Ad):(eF b a).1.me=b.me/\(eF b a).1.near=b.near/\(eF b a).1.ent=b.ent/\(eF b a).1.own=b.own:=by
 unfold eF
 split <;> exact⟨rfl,rfl,rfl,rfl⟩
theorem xZ (b:Br) (a:Ad):(eF b a).1.dQ.length<=b.dQ.length+1/\(eF b a).1.seen.length<=b.seen.length+1:=by
 unfold eF
 split
 ·exact⟨U _,U _⟩
 ·constructor <;> (show (fU _ _ _).length<=_; unfold fU; rw [V,V,ak,au]; simp; omega)
theorem DW {W:Y} {near:List Int} {f k:Int} {t x:Id} {pv:Sl} {p:List C5} (hp:fH W (dX pv) p):fA (rZ W) (lU near f fun n=>(n,k,t.1,t.2,x.1,x.2,pv,(O,0,0))) (eB near f k t x p):=by
 unfold lU eB
 induction near.filter (fun n=>n != f) with
 | nil=>exact .nil
 | cons a l ih=>exact .cons ⟨rfl,rfl,rfl,rfl,hp,rfl⟩ ih
end Bk
namespace Bk
open Go.RowKit Go.Sort Rw YtmklifheakemeaaGreat.Nm Pr
open Av
def sP (W1 W:Y) (Nw ev:Sl) (wY lx:List iL):Prop:=(ev=Nw/\lx=wY)\/kQ W W1.heap.size (dX ev) lx
theorem qQ {W1 W:Y} {k:Nat} {me:Int} {s1 s2 s3 s4 s5:Sl} {v:aB} {p:List C5} (hb:dJ W1 k (jr me s1 s2 s3 s4 s5) 28) (hk:But k W1 W) (h:fH W1 v p):fH W v p:=iJ uq h hk.1 (rD hb (rE me s1 s2 s3 s4 s5))
theorem wO {W1 W:Y} {k:Nat} {me:Int} {s1 s2 s3 s4 s5:Sl} {l:List iL} {m:List En} (hb:dJ W1 k (jr me s1 s2 s3 s4 s5) 28) (hk:But k W1 W) (h:fA (kr W1) l m):fA (kr W) l m:=h.mono fun _ _ hx=>⟨hx.1,hx.2.1,hx.2.2.1,hx.2.2.2.1,qQ hb hk hx.2.2.2.2⟩
theorem Aw {W1 W:Y} {k:Nat} {me:Int} {s1 s2 s3 s4 s5:Sl} {l:List mh} {m:List Ou} (hb:dJ W1 k (jr me s1 s2 s3 s4 s5) 28) (hk:But k W1 W) (h:fA (rZ W1) l m):fA (rZ W) l m:=Aq h hb hk.1
theorem sP.row {W1 W:Y} {k:Nat} {me:Int} {s1 s2 s3 s4 s5:Sl} {Nw ev:Sl} {wY lx:List iL} (hb:dJ W1 k (jr me s1 s2 s3 s4 s5) 28) (hk:But k W1 W) (h1:lF W1 (dX Nw) wY) (h:sP W1 W Nw ev wY lx):lF W (dX ev) lx:=by
 rcases h with⟨rfl,rfl⟩|h
 ·exact iJ nN h1 hk.1 (kS hb (fun c=>⟨_,_,rfl,rfl⟩) (lT me s1 s2 s3 s4 s5))
 ·exact Row.dH h
theorem qR {W1 W:Y} {k:Nat} {me:Int} {s1 s2 s3 s4 s5:Sl} {b1 b:Br} {q:Nat} {nv av sv Nw ov ev:Sl} {wY lx:List iL} (hb:dJ W1 k (jr me s1 s2 s3 s4 s5) 28) (hk:But k W1 W) (hI:iZ W1 b1 nv av sv Nw ov) (hn:qA W (dX nv) b1.near) (h1:lF W1 (dX Nw) wY) (h:sP W1 W Nw ev wY lx) (ha:fA (kr W1) lx b.ent) (hs:Lp b1 b q):iZ W b nv av sv ev ov:=by
 have h2:=fF hI hb hk.1 hn;exact⟨by rw [hs.near]; exact h2.near,by rw [hs.dQ]; exact h2.dQ,by rw [hs.seen]; exact h2.seen,⟨lx,h.row hb hk h1,wO hb hk ha⟩,by rw [hs.own]; exact h2.own⟩
theorem But.below {k:Nat} {a b c:Y} (h:But k a b) (hb:Below b.heap.size b c):But k a c:=h.trans (But.of_below hb)
theorem sP.on {W1 W W':Y} {Nw ev:Sl} {wY lx:List iL} (h:sP W1 W Nw ev wY lx) (hb:Below W.heap.size W W'):sP W1 W' Nw ev wY lx:=h.imp id fun h=>Bk.dI h hb
theorem eX (w:Y) (b:Nat) (a0 a1 a2 a3 a4 a5:aB):But b w (gF w b a0 a1 a2 a3 a4 a5):=⟨fun j _ hj=>dK w b a0 a1 a2 a3 a4 a5 j hj,by simp [gF]⟩
theorem Fw {W1 W W':Y} {k B:Nat} {Nw ev:Sl} {wY lx:List iL} {v:aB} {lo:List mh} (hF:B=W1.heap.size) (ho:jK W B v lo) (gr:W.grownBy W' v.ownBlock) (hk:But k W1 W) (h:sP W1 W Nw ev wY lx):But k W1 W'/\sP W1 W' Nw ev wY lx/\(∀ bb cs t,bb<B->dJ W bb cs t->dJ W' bb cs t):=by
 subst hF;have hne:∀ j,j<W1.heap.size->aF j≠v.ownBlock:=fun j hj e=>by have:=(ho.lt j e.symm).1; omega
 refine⟨⟨fun j hj hn=>(gr.block j (Nat.lt_of_lt_of_le hj hk.2) (hne j hj)).trans (hk.1 j hj hn),aC hk.2 gr.size⟩,h.imp id fun h=>zh ho gr h (by decide),fun bb cs t hl hb=>(gr.block bb hb.lt (hne bb hl)).trans hb⟩
end Bk
end Go.Proofs.YtmklifheakemeaaGreat
