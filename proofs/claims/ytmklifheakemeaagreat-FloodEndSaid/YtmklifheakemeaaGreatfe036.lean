/-
  The document's own M. Conditions as told.
-/
import Derived.Test.YtmklifheakemeaaGreatfe035
import Derived.Test.YtmklifheakemeaaGreatfe029
import Derived.Test.YtmklifheakemeaaGreatfe030
set_option maxRecDepth 100000
set_option maxHeartbeats 64000000
open _root_.Bool renaming false->Q
open _root_.Go renaming World->Y,Value->aB,Calls->aD
open Go.IntKind renaming i64->L
open Go.Lib renaming hid->J
open Go.Obj renaming cells->Z
open Go.Proofs.Tryz renaming prog->X,results101->ay
open Go.Value renaming slice->D,int->K,agg->aG,bool->aH
open _root_.List renaming length_append->V,length_map->ah,length_take->ak,length_drop->au,mem_append->aA
open _root_.Nat renaming le_succ->U,le_refl->aj,le_trans->aC
open _root_.Option renaming none->O,some->aF
namespace Go.Proofs.YtmklifheakemeaaGreat
namespace Rl
open Go.RowKit Go.Sort Pu Rw Pr Va
theorem QK {W:Y} {nW bv:aB} {a b:List Cn} (ha:fI W nW (a.map r5)) (hb:fI W bv (b.map r5)) (la:a.length<=5) (lb:b.length<=5) :
  ∃ v1 w1 v2 w2,(Builtin.append_ #[32,32] 32 #[D (aF ⟨W.heap.size,0,O⟩) 0 0,nW]).run X (W.alloc (Z #[] 70))=.ok v1 w1 /\
   (Builtin.append_ #[32,32] 32 #[v1,bv]).run X w1=.ok v2 w2/\fI w2 v2 ((a++b).map r5)/\Below W.heap.size W w2:=by
 have b0:=(Below.refl W.heap.size W).alloc (aj _) (Z #[] 70);obtain⟨v1,w1,r1,o1,g1⟩:=Da W.heap.size (oN W) (ha.on b0) (by simp) (by rw [ah]; omega) (by simp);have b1:=b0.grown g1 b0.size (fun j hj=>((oN W).lt j hj).1);obtain⟨v2,w2,r2,o2,g2⟩:=Da W.heap.size o1 (hb.on b1) (by simp; omega) (by rw [ah]; omega) b1.size;have b2:=b1.grown g2 b1.size (fun j hj=>(o1.lt j hj).1);exact⟨v1,w1,v2,w2,r1,r2,by rw [List.map_append]; exact Row.dH (by simpa using o2),b2⟩
theorem Jj (nW bv:aB) (a b:List Cn) (w:Y) (ha:fI w nW (a.map r5)) (hb:fI w bv (b.map r5)) (na:NF a) (nb:NF b):aD X 46 #[nW,bv] w fun e w'=>e=.returned (aH (sQ a b))/\Below w.heap.size w w':=by
 obtain⟨v1,w1,v2,w2,r1,r2,ro,b2⟩:=QK ha hb na.five nb.five;have B2:=J b2;have MK:=J (QJ v2 (a++b) w2 ro (by have:=na.five; have:=nb.five; simp; omega));have RB:=J (Si (b:=b) na.rise);have MR:=J (Sj (b:=b) na.rise na.five);rw [RB.out] at MK;generalize jH a b=res at *;generalize sQ a b=r at *;clear ha hb na nb ro b2 RB;go_enter Tryz.func46,Tryz.ntmps46;go_wp2_with (first | (at_builtin; refine wpList_append_run rfl _ _ 32 rfl rfl rfl r1 ?_) | (at_builtin; refine wpList_append_run rfl _ _ 32 rfl rfl rfl r2 ?_) | fail);refine MK.out.mono ?_;rintro e3 w3 ⟨hb3,h3⟩;have B3:=J (B2.out.trans (hb3.mono B2.out.size));clear hb3 MK r1 r2;rcases res with _|p
 ·have R:=J (show r=Q from MR.out);obtain rfl:=h3;clear MR;go_wp2;go_ret;exact⟨eG R.out.symm,B3.out⟩
 ·obtain⟨v,rfl,hp⟩:=h3;obtain⟨po,pc,rfl⟩:=hp.len;have R:=J (show r=decide (p.length<=5) from MR.out);rw [ah];clear MR hp;by_cases h5:p.length<=5
  ·have d1:decide ((p.length:Int)<=5)=true:=by simp; omega
   have R2:=J (show r=true by rw [R.out]; simpa using h5);clear R h5;go_wp2;go_ret;exact⟨eG R2.out.symm,B3.out⟩
  ·have d1:decide ((p.length:Int)<=5)=Q:=by simp; omega
   have R2:=J (show r=Q by rw [R.out]; simpa using h5);clear R h5;go_wp2;go_ret;exact⟨eG R2.out.symm,B3.out⟩
end Rl
namespace Bk
open Go.RowKit Go.Sort Rw YtmklifheakemeaaGreat.Nm Pr Rl
def jr (p q:List C5):Bool:=sQ (p.map unR) (q.map unR)
theorem Gq (nW bv:aB) (p q:List C5) (w:Y) (ha:fI w nW p) (hb:fI w bv q) (hp:dZ p) (hq:dZ q) :
  aD X 46 #[nW,bv] w fun e w'=>e=.returned (aH (jr p q))/\Below w.heap.size w w':=by
 obtain⟨a,na,rfl⟩:=hp;obtain⟨b,nb,rfl⟩:=hq;unfold jr;rw [qd,qd];exact Jj nW bv a b w ha hb na nb
abbrev mgv (k:Int) (t x:Id) (pv qv:Sl):aB:=aG #[K L k,K L t.1,K L t.2,K L x.1,K L x.2,dU pv,dU qv]
theorem Gr (b:Br) (nv av sv ev ov:Sl) (f mk:Int) (t x:Id) (pv qv:Sl) (w:Y) (h:iZ w b nv av sv ev ov) (l2:b.dQ.length<=900) (l3:b.ent.length<=900) (hok:∀ e∈b.ent,dZ e.p) (hkn:∀ e∈b.ent,e.tree∈b.dQ.map Ad.id) :
  aD X 102 #[rP b.me nv av sv ev ov,K L f,mgv mk t x pv qv] w fun e w'=>(∃ ev' lo:Sl,e=.returned (.tuple #[rP b.me nv av sv ev' ov,dU lo])/\iZ w' (kI b t x f).1 nv av sv ev' ov/\lW w' lo (kI b t x f).2)/\Below w.heap.size w w':=by
 obtain⟨no,nn,nc⟩:=nv;obtain⟨ao,an,ac⟩:=av;obtain⟨so,sn,sc⟩:=sv;obtain⟨eo,en,ec⟩:=ev;obtain⟨oo,dY,oc⟩:=ov;obtain⟨po,pn,pc⟩:=pv;obtain⟨qo,qn,qc⟩:=qv;obtain⟨c,d⟩:=t;obtain⟨c2,d2⟩:=x;have DP:=J (fun W hb'=>Eu b (no,nn,nc) (ao,an,ac) (so,sn,sc) (eo,en,ec) (oo,dY,oc) (c,d) (c2,d2) f W (h.on (show Below w.heap.size w W from hb')) l2 l3 hok hkn);have xU:=J h.near;obtain⟨h0,h1,h2,h3⟩:=gK w #[K L b.me,D no nn nc,D ao an ac,D so sn sc,D eo en ec,D oo dY oc] #[K L mk,K L c,K L d,K L c2,K L d2,D po pn pc,D qo qn qc] #[K L 0,D O 0 0,D O 0 0,D O 0 0,D O 0 0,D O 0 0] 28 41 28;obtain⟨me,hme⟩:∃ me,me=b.me:=⟨_,rfl⟩;simp only [<- hme] at h0 h1 h2 h3 DP ⊢;have gB:=J (h0);have o8:=J (h1);have nu:=J (h2);have mE:=J (h3);clear h0 h1 h2 h3 h l2 hme hok hkn;show aD X 102 #[aG #[K L me,D no nn nc,D ao an ac,D so sn sc,D eo en ec,D oo dY oc],K L f,aG #[K L mk,K L c,K L d,K L c2,K L d2,D po pn pc,D qo qn qc]] w _;go_enter Tryz.func102,Tryz.ntmps102;go_upto_region 1 with fail;generalize (((w.alloc (Z #[K L me,D no nn nc,D ao an ac,D so sn sc,D eo en ec,D oo dY oc] 28)).alloc (Z #[K L mk,K L c,K L d,K L c2,K L d2,D po pn pc,D qo qn qc] 41)).alloc (Z #[K L 0,D O 0 0,D O 0 0,D O 0 0,D O 0 0,D O 0 0] 28))=W at *;have SW:=J (DP.out W gB.out);clear DP;obtain⟨x0,x1,x2,x3,x4,x5⟩:=o8.out.eZ;obtain⟨y0,y1,y2,y3,y4,y5,y6⟩:=nu.out.mI;go_wp2_with fail;refine SW.out.mono ?_;rintro e1 w1 ⟨⟨⟨ea,iB,iC⟩,⟨la,ln,lc⟩,rfl,hbr,hou⟩,hb⟩;clear SW;clear x0 x1 x2 x3 x4 x5 y0 y1 y2 y3 y4 y5 y6;have kJ:=J (gB.out.trans (hb.mono gB.out.size));have kS:=J (o8.out.on hb);have Mg:=J (nu.out.on hb);have l7:=J (mE.out.on hb);clear gB o8 nu mE;obtain⟨r0,r1,r2,r3,r4,r5⟩:=l7.out.eZ;obtain⟨wW,vg,zN,Bl,Bn,Bo⟩:=l7.out.kL;have zz:=l7.out.lt;have GG:=J (dM l7.out (K L me) (D no nn nc) (D ao an ac) (D so sn sc) (D ea iB iC) (D oo dY oc));have BL:=J (dG (b:=w.heap.size+1+1) kJ.out (by omega) (K L me) (D no nn nc) (D ao an ac) (D so sn sc) (D ea iB iC) (D oo dY oc));have HK:=J (fun j (_:j<w1.heap.size) (hj:j≠w.heap.size+1+1)=>dL w1 (w.heap.size+1+1) (K L me) (D no nn nc) (D ao an ac) (D so sn sc) (D ea iB iC) (D oo dY oc) j hj);have HC:=J (fF (s1:=(O,0,0)) (s2:=(O,0,0)) (s3:=(O,0,0)) (s4:=(O,0,0)) (s5:=(O,0,0)) hbr l7.out HK.out (by rw [jh,(jQ b (c,d) (c2,d2) f).2.1]; exact xU.out.on BL.out));have HO:=J (jd (s1:=(O,0,0)) (s2:=(O,0,0)) (s3:=(O,0,0)) (s4:=(O,0,0)) (s5:=(O,0,0)) hou l7.out HK.out);go_wp2_with fail;obtain⟨v0,v1,v2,v3,v4,v5⟩:=GG.out.eZ;refine bodyPost_ret (v:=.tuple #[aG #[K L me,D no nn nc,D ao an ac,D so sn sc,D ea iB iC,D oo dY oc],D la ln lc]) (by simp [results,Tryz.results102,go_sem,v0,v1,v2,v3,v4,v5]) rfl ?_;exact⟨⟨(ea,iB,iC),(la,ln,lc),rfl,HC.out,HO.out⟩,BL.out⟩
def nU (b:Br) (f:Int) (t x:Id) (p:List C5):Br×List Ou:=if (ig b ⟨t,x,p,f,Q⟩).2=Q then ((ig b ⟨t,x,p,f,Q⟩).1,[]) else
 match b.dQ[(fJ (b.dQ.map Ad.id) t).toNat]? with
 | none=>((ig b ⟨t,x,p,f,Q⟩).1,[])
 | some a=>((ig b ⟨t,x,p,f,Q⟩).1,[xq a.par ⟨t,x,p,f,Q⟩])
theorem ru (b:Br) (f:Int) (t x:Id) (p:List C5):(nU b f t x p).1=(ig b ⟨t,x,p,f,Q⟩).1:=by
 unfold nU
 split
 ·rfl
 ·split <;> rfl
theorem QL {b:Br} {e:En} (h:(ig b e).2=true):∃ (k:Nat) (a:Ad),fJ (b.dQ.map Ad.id) e.tree=k/\b.dQ[k]?=aF a:=by
 unfold ig at h
 split at h
 ·cases h
 ·rename_i a ha
  split at h
  ·cases h
  ·rename_i h1
   have h2:=nG (b.dQ.map Ad.id) e.tree;exact⟨(fJ (b.dQ.map Ad.id) e.tree).toNat,a,by omega,ha⟩
theorem Mh (b:Br) (nv av sv ev ov:Sl) (f mk:Int) (t x:Id) (pv qv:Sl) (p:List C5) (w:Y) (h:iZ w b nv av sv ev ov) (hp:fI w (dU pv) p) (l2:b.dQ.length<=900) (l3:b.ent.length<=900) (hok:∀ e∈b.ent,dZ e.p) (hop:dZ p) :
  aD X 101 #[rP b.me nv av sv ev ov,K L f,mgv mk t x pv qv] w fun e w'=>(∃ ev' lo:Sl,e=.returned (.tuple #[rP b.me nv av sv ev' ov,dU lo])/\iZ w' (nU b f t x p).1 nv av sv ev' ov/\lW w' lo (nU b f t x p).2)/\Below w.heap.size w w':=by
 obtain⟨no,nn,nc⟩:=nv;obtain⟨ao,an,ac⟩:=av;obtain⟨so,sn,sc⟩:=sv;obtain⟨eo,en,ec⟩:=ev;obtain⟨oo,dY,oc⟩:=ov;obtain⟨po,pn,pc⟩:=pv;obtain⟨qo,qn,qc⟩:=qv;obtain⟨c,d⟩:=t;obtain⟨c2,d2⟩:=x;have AD:=J (fun W hb'=>Ue b (no,nn,nc) (ao,an,ac) (so,sn,sc) (eo,en,ec) (oo,dY,oc) (c,d,c2,d2,(po,pn,pc),f,Q) ⟨(c,d),(c2,d2),p,f,Q⟩ W (h.on (show Below w.heap.size w W from hb')) ⟨rfl,rfl,rfl,rfl,hp.on hb'⟩ l2 l3 hok hop);have xU:=J h.near;have HP:=J hp;obtain⟨h0,h1,h2,h3⟩:=gK w #[K L b.me,D no nn nc,D ao an ac,D so sn sc,D eo en ec,D oo dY oc] #[K L mk,K L c,K L d,K L c2,K L d2,D po pn pc,D qo qn qc] #[K L 0,D O 0 0,D O 0 0,D O 0 0,D O 0 0,D O 0 0] 28 41 28;obtain⟨me,hme⟩:∃ me,me=b.me:=⟨_,rfl⟩;simp only [<- hme] at h0 h1 h2 h3 AD ⊢;have gB:=J (h0);have o8:=J (h1);have nu:=J (h2);have mE:=J (h3);clear h0 h1 h2 h3 h l2 hme hok hp;show aD X 101 #[aG #[K L me,D no nn nc,D ao an ac,D so sn sc,D eo en ec,D oo dY oc],K L f,aG #[K L mk,K L c,K L d,K L c2,K L d2,D po pn pc,D qo qn qc]] w _;go_enter Tryz.func101,Tryz.ntmps101;go_upto_region 1 with fail;generalize (((w.alloc (Z #[K L me,D no nn nc,D ao an ac,D so sn sc,D eo en ec,D oo dY oc] 28)).alloc (Z #[K L mk,K L c,K L d,K L c2,K L d2,D po pn pc,D qo qn qc] 41)).alloc (Z #[K L 0,D O 0 0,D O 0 0,D O 0 0,D O 0 0,D O 0 0] 28))=W at *;obtain⟨y0,y1,y2,y3,y4,y5,y6⟩:=nu.out.mI;go_upto_region 2 with fail;clear y0 y1 y2 y3 y4 y5 y6;have W4:=J (show w.heap.size+3<=W.heap.size from by have:=mE.out.lt; omega);have NN:=fM W (Z #[K L c,K L d,K L c2,K L d2,D po pn pc,K L f,aH Q] 66);have kJ:=J (gB.out.trans (NN.mono gB.out.size));have kS:=J (o8.out.on NN);have Mg:=J (nu.out.on NN);have l7:=J (mE.out.on NN);clear gB o8 nu mE;clear NN;have QF:=J (dJ W #[K L c,K L d,K L c2,K L d2,D po pn pc,K L f,aH Q] 66);generalize W.alloc (Z #[K L c,K L d,K L c2,K L d2,D po pn pc,K L f,aH Q] 66)=Wa at *;have SW:=J (AD.out Wa kJ.out);clear AD;obtain⟨x0,x1,x2,x3,x4,x5⟩:=kS.out.eZ;obtain⟨z0,z1,z2,z3,z4,z5,z6⟩:=QF.out.mI;go_wp2_with fail;refine SW.out.mono ?_;rintro e1 w1 ⟨⟨⟨ea,iB,iC⟩,rfl,hbr⟩,hb⟩;clear SW;clear x0 x1 x2 x3 x4 x5 z0 z1 z2 z3 z4 z5 z6;have lS:=J (kJ.out.trans (hb.mono kJ.out.size));have pU:=J (kS.out.on hb);have QB:=J (Mg.out.on hb);have oW:=J (l7.out.on hb);have qA:=J (QF.out.on hb);clear kJ kS Mg l7 QF;obtain⟨fb,Lm⟩:∃ r,(ig b ⟨(c,d),(c2,d2),p,f,Q⟩).2=r:=⟨_,rfl⟩;have LB:=J Lm;rw [Lm];have w4:=W4.out;obtain⟨k0,k1,k2,k3,k4,k5⟩:=pU.out.eZ;obtain⟨pG,pI,pJ,pK,pO,pQ⟩:=pU.out.kL;have zz:=pU.out.lt;have FB:=J (dM pU.out (K L me) (D no nn nc) (D ao an ac) (D so sn sc) (D ea iB iC) (D oo dY oc));have B2:=J (dG (b:=w.heap.size) lS.out (aj _) (K L me) (D no nn nc) (D ao an ac) (D so sn sc) (D ea iB iC) (D oo dY oc));have Dl:=J (fun j (_:j<w1.heap.size) (hj:j≠w.heap.size)=>dL w1 (w.heap.size) (K L me) (D no nn nc) (D ao an ac) (D so sn sc) (D ea iB iC) (D oo dY oc) j hj);have FX5:=J (show dK _ _ _ _ from (dL w1 (w.heap.size) (K L me) (D no nn nc) (D ao an ac) (D so sn sc) (D ea iB iC) (D oo dY oc) (w.heap.size+1) (by omega)).trans QB.out);have Ch:=J (show dK _ _ _ _ from (dL w1 (w.heap.size) (K L me) (D no nn nc) (D ao an ac) (D so sn sc) (D ea iB iC) (D oo dY oc) (w.heap.size+1+1) (by omega)).trans oW.out);have FX8:=J (show dK _ _ _ _ from (dL w1 (w.heap.size) (K L me) (D no nn nc) (D ao an ac) (D so sn sc) (D ea iB iC) (D oo dY oc) (W.heap.size) (by omega)).trans qA.out);have HB:=J (fF (s1:=(no,nn,nc)) (s2:=(ao,an,ac)) (s3:=(so,sn,sc)) (s4:=(eo,en,ec)) (s5:=(oo,dY,oc)) hbr pU.out Dl.out (by rw [(jw b ⟨(c,d),(c2,d2),p,f,Q⟩).2.1]; exact xU.out.on B2.out));clear Lm lS pU QB oW qA;go_upto_region 3 with fail;clear zz Dl k0 k1 k2 k3 k4 k5 pG pI pJ pK pO pQ;unfold gH at FB B2 HB FX5 Ch FX8;generalize ((((((w1.setCell ⟨w.heap.size,0,O⟩ (K L me)).setCell ⟨w.heap.size,1,O⟩ (D no nn nc)).setCell ⟨w.heap.size,2,O⟩ (D ao an ac)).setCell ⟨w.heap.size,3,O⟩ (D so sn sc)).setCell ⟨w.heap.size,4,O⟩ (D ea iB iC)).setCell ⟨w.heap.size,5,O⟩ (D oo dY oc))=w2 at *;have qB:=J (B2.out);have pR:=J (FB.out);have NJ:=J (FX5.out);have mP:=J (Ch.out);have qg:=J (FX8.out);clear B2 FB FX5 Ch FX8;cases fb
 ·have x0:=pR.out.cell 0;have x1:=pR.out.cell 1;have x2:=pR.out.cell 2;have x3:=pR.out.cell 3;have x4:=pR.out.cell 4;have x5:=pR.out.cell 5;simp only [List.getElem?_toArray,List.getElem?_cons_zero,List.getElem?_cons_succ] at x0 x1 x2 x3 x4 x5;obtain⟨r0,r1,r2,r3,r4,r5⟩:=mP.out.eZ;obtain⟨wW,vg,zN,Bl,Bn,Bo⟩:=mP.out.kL;have zz:=mP.out.lt;have GG:=J (dM mP.out (K L me) (D no nn nc) (D ao an ac) (D so sn sc) (D ea iB iC) (D oo dY oc));have BL:=J (dG (b:=w.heap.size+1+1) qB.out (by omega) (K L me) (D no nn nc) (D ao an ac) (D so sn sc) (D ea iB iC) (D oo dY oc));have HK:=J (fun j (_:j<w2.heap.size) (hj:j≠w.heap.size+1+1)=>dL w2 (w.heap.size+1+1) (K L me) (D no nn nc) (D ao an ac) (D so sn sc) (D ea iB iC) (D oo dY oc) j hj);have HC:=J (fF (s1:=(O,0,0)) (s2:=(O,0,0)) (s3:=(O,0,0)) (s4:=(O,0,0)) (s5:=(O,0,0)) HB.out mP.out HK.out (by rw [(jw b ⟨(c,d),(c2,d2),p,f,Q⟩).2.1]; exact xU.out.on BL.out));go_wp2_with fail;obtain⟨v0,v1,v2,v3,v4,v5⟩:=GG.out.eZ;refine bodyPost_ret (v:=.tuple #[aG #[K L me,D no nn nc,D ao an ac,D so sn sc,D ea iB iC,D oo dY oc],D O 0 0]) (by simp [results,ay,go_sem,v0,v1,v2,v3,v4,v5]) rfl ?_;have hd:nU b f (c,d) (c2,d2) p=((ig b ⟨(c,d),(c2,d2),p,f,Q⟩).1,[]):=by unfold nU; rw [if_pos LB.out]
  rw [hd];exact⟨⟨(ea,iB,iC),(O,0,0),rfl,HC.out,qV _⟩,BL.out⟩
 ·obtain⟨k,a,hk1,hak⟩:=QL LB.out;have hk1:fJ (b.dQ.map Ad.id) (c,d)=k:=hk1;have DB:=J (show nU b f (c,d) (c2,d2) p=((ig b ⟨(c,d),(c2,d2),p,f,Q⟩).1,[xq a.par ⟨(c,d),(c2,d2),p,f,Q⟩]) from by
   unfold nU;rw [if_neg (by rw [LB.out]; simp),hk1,Int.toNat_natCast,hak])
  obtain⟨ad,zO,xB⟩:=HB.out.dQ;rw [(jw b ⟨(c,d),(c2,d2),p,f,Q⟩).2.2.1] at xB;obtain⟨z,hz1,hz2⟩:=xB.at k a hak;have FK:=Au xB;rw [<- FK] at hk1;obtain⟨q1,q2,hq⟩:=zO.len;obtain⟨pa,ix,pl,px⟩:=nP okD zO hq rfl hz1;have ix2:∀ w,(Instr.indexAt 23 (D ao an ac) (K L (k:Int))).run X w=.ok (.pointer (aF pa)) w:=fun w=>by have h1:(D ao an ac)=D q1 ad.length q2:=hq; rw [h1]; exact ix w
  have pb:=px w2 (Below.refl _ _);have p3:w2.cell? ⟨pa.block,pa.off+3,O⟩=aF (K L z.2.2.2):=by simpa [Addr.add] using pb 3 _ rfl
  rw [hz2.2.1] at p3;have pn6:pa.block≠w.heap.size+1+1:=kU (E:=ED) (show dK w2 (w.heap.size+1+1) (jA 0 (O,0,0) (O,0,0) (O,0,0) (O,0,0) (O,0,0)) 28 from mP.out) (fun c=>⟨_,_,rfl,rfl⟩) (mh 0 (O,0,0) (O,0,0) (O,0,0) (O,0,0) (O,0,0)) pa z pb;clear hq ix pb px hz1 hz2 hak FK xB;go_upto_region 5 with fail;refine acZ _ w2 w.heap.size (w.heap.size+1) (w.heap.size+1+1) W.heap.size me mk c d c2 d2 f a.par Q no ao so ea oo nn nc an ac sn sc iB iC dY oc po qo pn pc qn qc ad k pa _ _ _ _ _ _ _ _ _ _ _ _ _ _ _ _ _ _ _ _ _ _ _ _ _ _ _ _ _ _ _ _ _ _ _ _ _ _ _ _ _ _ _ pR.out NJ.out mP.out qg.out (by omega) (by omega) (by omega) zO hk1 ix2 p3 pl pn6 ?_;intro a9 x9 sl IW h69 h79 hbx ho hblk hbl;have BL:=J (show Below w.heap.size w x9 from qB.out.trans (hbl w.heap.size (by omega)));have HC:=J (fF (s1:=(O,0,0)) (s2:=(O,0,0)) (s3:=(O,0,0)) (s4:=(O,0,0)) (s5:=(O,0,0)) HB.out mP.out hblk (by rw [(jw b ⟨(c,d),(c2,d2),p,f,Q⟩).2.1]; exact xU.out.on BL.out));have HU:=J (Row.dH ho);obtain⟨v0,v1,v2,v3,v4,v5⟩:=hbx.eZ;clear hbx ho hblk hbl HB zO ix2 p3 pl pn6 hk1;simp only [Exit.then]
  apply_assumption
  go_wp2_with fail;refine bodyPost_ret (v:=.tuple #[aG #[K L me,D no nn nc,D ao an ac,D so sn sc,D ea iB iC,D oo dY oc],dU sl]) (by simp [results,ay,go_sem,h69,h79,v0,v1,v2,v3,v4,v5]) IW ?_;rw [DB.out];exact⟨⟨ea,iB,iC,sl.1,sl.2.1,sl.2.2,rfl,HC.out,_,HU.out,.cons ⟨rfl,rfl,rfl,rfl,HP.out.on BL.out,rfl⟩ .nil⟩,BL.out⟩
def gu (s:Br×List Ou) (mt:Bool) (e:En) (iD:Int):Br×List Ou:=if mt=Q then s else ((ig s.1 e).1,if (ig s.1 e).2=true then s.2++[xq iD e] else s.2)
theorem Jk {b:Br} {e:En} (R:En->Prop) (h:∀ q∈b.ent,R q) (he:∀ u,R { e with up:=u }):∀ q∈(ig b e).1.ent,R q:=by
 unfold ig
 split
 ·exact h
 ·split
  ·exact h
  ·split
   ·exact h
   ·split
    ·exact h
    ·intro q hq;rcases aA.1 hq with h1|h1
     ·rcases aA.1 h1 with h2|h2
      ·exact h q (List.mem_of_mem_take h2)
      ·rw [List.mem_singleton.1 h2];exact he _
     ·exact h q (List.mem_of_mem_drop h1)
theorem Jl (b:Br) (e:En):(ig b e).1.ent.length<=b.ent.length+1:=by
 unfold ig
 split
 ·exact U _
 ·split
  ·exact U _
  ·split
   ·exact U _
   ·split
    ·exact U _
    ·show (gG _ _ _).length<=_;unfold gG;rw [V,V,ak,au];simp;omega
structure Mi (b0 b:Br) (k:Nat):Prop where
 me:b.me=b0.me
 near:b.near=b0.near
 dQ:b.dQ=b0.dQ
 seen:b.seen=b0.seen
 own:b.own=b0.own
 len:b.ent.length<=b0.ent.length+k
theorem Mi.add {b0 b:Br} {k:Nat} (h:Mi b0 b k) (e:En):Mi b0 (ig b e).1 (k+1):=by
 obtain⟨h1,h2,h3,h4,h5⟩:=jw b e;exact⟨h1.trans h.me,h2.trans h.near,h3.trans h.dQ,h4.trans h.seen,h5.trans h.own,by have:=Jl b e; have:=h.len; omega⟩
theorem Mi.succ {b0 b:Br} {k:Nat} (h:Mi b0 b k):Mi b0 b (k+1):=⟨h.me,h.near,h.dQ,h.seen,h.own,by have:=h.len; omega⟩
theorem Mi.step {b0:Br} {s:Br×List Ou} {k:Nat} (h:Mi b0 s.1 k) (mt:Bool) (e:En) (t:Int):Mi b0 (gu s mt e t).1 (k+1):=by
 unfold gu
 split
 ·exact h.succ
 ·exact h.add e
theorem Vf {s:Br×List Ou} (mt:Bool) (e:En) (t:Int) (R:En->Prop) (h:∀ q∈s.1.ent,R q) (he:∀ u,R { e with up:=u }):∀ q∈(gu s mt e t).1.ent,R q:=by
 unfold gu
 split
 ·exact h
 ·exact Jk R h he
theorem Vg {s:Br×List Ou} (mt:Bool) (e:En) (t:Int):(gu s mt e t).2.length<=s.2.length+1:=by
 unfold gu
 split
 ·exact U _
 ·show (if _ then _ else _:List Ou).length<=_
  split
  ·simp
  ·exact U _
def eu {α:Type} (l:List α) (f:Br×List Ou->α->Br×List Ou) (s0:Br×List Ou) (k:Nat):Br×List Ou:=(l.take k).foldl f s0
theorem lq {α:Type} {l:List α} {k:Nat} {a:α} (f:Br×List Ou->α->Br×List Ou) (s0:Br×List Ou) (h:l[k]?=aF a):eu l f s0 (k+1)=f (eu l f s0 k) a:=by
 unfold eu;rw [List.take_add_one,h,List.foldl_append]
 rfl
theorem lT {α:Type} {l:List α} {b0:Br} {o0:List Ou} (mt:α->Bool) (e:α->En) (t:α->Int) (R:En->Prop) (h0:∀ q∈b0.ent,R q) (hR:∀ a∈l,∀ u,R { e a with up:=u }):∀ k,k<=l.length->Mi b0 (eu l (fun s a=>gu s (mt a) (e a) (t a)) (b0,o0) k).1 k/\(∀ q∈(eu l (fun s a=>gu s (mt a) (e a) (t a)) (b0,o0) k).1.ent,R q)/\(eu l (fun s a=>gu s (mt a) (e a) (t a)) (b0,o0) k).2.length<=o0.length+k
 | 0,_=>⟨⟨rfl,rfl,rfl,rfl,rfl,aj _⟩,h0,aj _⟩
 | k+1,hk=>by
  obtain⟨a,ha⟩:∃ a,l[k]?=aF a:=⟨_,List.getElem?_eq_getElem hk⟩;obtain⟨h1,h2,h3⟩:=lT mt e t R h0 hR k (by omega) (o0:=o0);rw [lq _ _ ha];exact⟨h1.step _ _ _,Vf _ _ _ R h2 (hR a (List.mem_of_getElem? ha)),aC (Vg _ _ _) (by omega)⟩
def fG (near:List Int) (but kind:Int) (t x:Id) (p:List C5):List Ou:=(near.filter fun n=>n != but).map fun n=>⟨n,kind,t,x,p⟩
abbrev ou (x:Id) (o:Ow):En:=⟨x,o.id,o.p,-1,Q⟩
abbrev iT (f:Int) (x:Id) (p:List C5) (s:Br×List Ou) (o:Ow):Br×List Ou:=gu s (jr o.p p) (ou x o) f
def kK (b:Br) (f:Int) (x:Id) (p:List C5):Br×List Ou:=if (eX b ⟨x,p,f⟩).2=Q then ((eX b ⟨x,p,f⟩).1,[]) else
 eu (eX b ⟨x,p,f⟩).1.own (iT f x p) ((eX b ⟨x,p,f⟩).1,fG b.near f 1 x (0,0) p) (eX b ⟨x,p,f⟩).1.own.length
abbrev nX (x:Id) (p:List C5) (a:Ad):En:=⟨a.id,x,p,-1,Q⟩
abbrev jT (x:Id) (p:List C5) (s:Br×List Ou) (a:Ad):Br×List Ou:=gu s (jr p a.p) (nX x p a) a.par
def ownIn (b:Br) (x:Id) (p:List C5):Br:={ b with own:=gG b.own (fT (b.own.map Ow.id) x) ⟨x,p⟩ }
def lG (b:Br) (x:Id) (p:List C5):Br×List Ou:=if (b.own[fT (b.own.map Ow.id) x]?).map Ow.id=aF x then (b,[]) else
 eu b.dQ (jT x p) (ownIn b x p,[]) b.dQ.length
theorem ji (b:Br) (a:Ad):(eX b a).1.me=b.me/\(eX b a).1.near=b.near/\(eX b a).1.ent=b.ent/\(eX b a).1.own=b.own:=by
 unfold eX
 split <;> exact⟨rfl,rfl,rfl,rfl⟩
theorem yR (b:Br) (a:Ad):(eX b a).1.dQ.length<=b.dQ.length+1/\(eX b a).1.seen.length<=b.seen.length+1:=by
 unfold eX
 split
 ·exact⟨U _,U _⟩
 ·constructor <;> (show (gG _ _ _).length<=_; unfold gG; rw [V,V,ak,au]; simp; omega)
theorem EG {W:Y} {near:List Int} {f k:Int} {t x:Id} {pv:Sl} {p:List C5} (hp:fI W (dU pv) p):eP (tC W) (mD near f fun n=>(n,k,t.1,t.2,x.1,x.2,pv,(O,0,0))) (fG near f k t x p):=by
 unfold mD fG
 induction near.filter (fun n=>n != f) with
 | nil=>exact .nil
 | cons a l ih=>exact .cons ⟨rfl,rfl,rfl,rfl,hp,rfl⟩ ih
end Bk
namespace Bk
open Go.RowKit Go.Sort Rw YtmklifheakemeaaGreat.Nm Pr
open Av
def tJ (W1 W:Y) (Om ev:Sl) (xV lx:List iq):Prop:=(ev=Om/\lx=xV)\/jV W W1.heap.size (dU ev) lx
theorem rz {W1 W:Y} {k:Nat} {me:Int} {s1 s2 s3 s4 s5:Sl} {v:aB} {p:List C5} (hb:dK W1 k (jA me s1 s2 s3 s4 s5) 28) (hk:But k W1 W) (h:fI W1 v p):fI W v p:=iI uW h hk.1 (rW hb (rX me s1 s2 s3 s4 s5))
theorem xD {W1 W:Y} {k:Nat} {me:Int} {s1 s2 s3 s4 s5:Sl} {l:List iq} {m:List En} (hb:dK W1 k (jA me s1 s2 s3 s4 s5) 28) (hk:But k W1 W) (h:eP (jm W1) l m):eP (jm W) l m:=h.mono fun _ _ hx=>⟨hx.1,hx.2.1,hx.2.2.1,hx.2.2.2.1,rz hb hk hx.2.2.2.2⟩
theorem Ci {W1 W:Y} {k:Nat} {me:Int} {s1 s2 s3 s4 s5:Sl} {l:List mO} {m:List Ou} (hb:dK W1 k (jA me s1 s2 s3 s4 s5) 28) (hk:But k W1 W) (h:eP (tC W1) l m):eP (tC W) l m:=Cg h hb hk.1
theorem tJ.row {W1 W:Y} {k:Nat} {me:Int} {s1 s2 s3 s4 s5:Sl} {Om ev:Sl} {xV lx:List iq} (hb:dK W1 k (jA me s1 s2 s3 s4 s5) 28) (hk:But k W1 W) (h1:lI W1 (dU Om) xV) (h:tJ W1 W Om ev xV lx):lI W (dU ev) lx:=by
 rcases h with⟨rfl,rfl⟩|h
 ·exact iI nO h1 hk.1 (kU hb (fun c=>⟨_,_,rfl,rfl⟩) (mh me s1 s2 s3 s4 s5))
 ·exact Row.dH h
theorem rA {W1 W:Y} {k:Nat} {me:Int} {s1 s2 s3 s4 s5:Sl} {b1 b:Br} {q:Nat} {nv av sv Om ov ev:Sl} {xV lx:List iq} (hb:dK W1 k (jA me s1 s2 s3 s4 s5) 28) (hk:But k W1 W) (hI:iZ W1 b1 nv av sv Om ov) (hn:qJ W (dU nv) b1.near) (h1:lI W1 (dU Om) xV) (h:tJ W1 W Om ev xV lx) (ha:eP (jm W1) lx b.ent) (hs:Mi b1 b q):iZ W b nv av sv ev ov:=by
 have h2:=fF hI hb hk.1 hn;exact⟨by rw [hs.near]; exact h2.near,by rw [hs.dQ]; exact h2.dQ,by rw [hs.seen]; exact h2.seen,⟨lx,h.row hb hk h1,xD hb hk ha⟩,by rw [hs.own]; exact h2.own⟩
theorem But.below {k:Nat} {a b c:Y} (h:But k a b) (hb:Below b.heap.size b c):But k a c:=h.trans (But.of_below hb)
theorem tJ.on {W1 W W':Y} {Om ev:Sl} {xV lx:List iq} (h:tJ W1 W Om ev xV lx) (hb:Below W.heap.size W W'):tJ W1 W' Om ev xV lx:=h.imp id fun h=>Bk.dI h hb
theorem eY (w:Y) (b:Nat) (a0 a1 a2 a3 a4 a5:aB):But b w (gH w b a0 a1 a2 a3 a4 a5):=⟨fun j _ hj=>dL w b a0 a1 a2 a3 a4 a5 j hj,by simp [gH]⟩
theorem Gs {W1 W W':Y} {k B:Nat} {Om ev:Sl} {xV lx:List iq} {v:aB} {lo:List mO} (hF:B=W1.heap.size) (ho:jI W B v lo) (gr:W.grownBy W' v.ownBlock) (hk:But k W1 W) (h:tJ W1 W Om ev xV lx):But k W1 W'/\tJ W1 W' Om ev xV lx/\(∀ bb cs t,bb<B->dK W bb cs t->dK W' bb cs t):=by
 subst hF;have hne:∀ j,j<W1.heap.size->aF j≠v.ownBlock:=fun j hj e=>by have:=(ho.lt j e.symm).1; omega
 refine⟨⟨fun j hj hn=>(gr.block j (Nat.lt_of_lt_of_le hj hk.2) (hne j hj)).trans (hk.1 j hj hn),aC hk.2 gr.size⟩,h.imp id fun h=>Ac ho gr h (by decide),fun bb cs t hl hb=>(gr.block bb hb.lt (hne bb hl)).trans hb⟩
end Bk
end Go.Proofs.YtmklifheakemeaaGreat
