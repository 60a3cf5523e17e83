/-
  OnUnsub and OnSub of. Conditions as told.
-/
import Derived.Test.YtncogjpmboglhaaGreatF031
import Derived.Test.YtncogjpmboglhaaGreatF041
set_option maxRecDepth 100000
set_option maxHeartbeats 64000000
namespace Go.Proofs.YtncogjpmboglhaaGreat.Bk
open Go.RowKit Go.Sort Rw YtncogjpmboglhaaGreat.Nm Pr Rl
def meetsC (p q:List C5):Bool:=meetsB (p.map unR) (q.map unR)
theorem meets_c (av_ bv:Value) (p q:List C5) (w:World) (ha:RowC w av_ p) (hb:RowC w bv q) (hp:PredOk p) (hq:PredOk q) :
  Calls Tryz.prog 95 #[av_,bv] w fun e w'=>e=.returned (.bool (meetsC p q))∧Below w.heap.size w w':=by
 obtain⟨a,na,rfl⟩:=hp
 obtain⟨b,nb,rfl⟩:=hq
 unfold meetsC
 rw [unR_map,unR_map]
 exact rmeetsR_any av_ bv a b w ha hb na nb
abbrev mgv (k:Int) (t x:Id) (pv qv:Sl):Value:=.agg #[.int .i64 k,.int .i64 t.1,.int .i64 t.2,.int .i64 x.1,.int .i64 x.2,slv pv,slv qv]
theorem ronunsub_any (b:Br) (nv av sv ev ov:Sl) (f mk:Int) (t x:Id) (pv qv:Sl) (w:World) (h:BrIn w b nv av sv ev ov) (l2:b.adv.length≤900) (l3:b.ent.length≤900) (hok:∀ e∈b.ent,PredOk e.p) (hkn:∀ e∈b.ent,e.tree∈b.adv.map Ad.id) :
  Calls Tryz.prog 101 #[brv b.me nv av sv ev ov,.int .i64 f,mgv mk t x pv qv] w fun e w'=>(∃ ev' lo:Sl,e=.returned (.tuple #[brv b.me nv av sv ev' ov,slv lo])∧BrIn w' (dropB b t x f).1 nv av sv ev' ov∧OutsIn w' lo (dropB b t x f).2)∧Below w.heap.size w w':=by
 obtain⟨no,nn,nc⟩:=nv
 obtain⟨ao,an,ac⟩:=av
 obtain⟨so,sn,sc⟩:=sv
 obtain⟨eo,en,ec⟩:=ev
 obtain⟨oo,on_,oc⟩:=ov
 obtain⟨po,pn,pc⟩:=pv
 obtain⟨qo,qn,qc⟩:=qv
 obtain⟨c,d⟩:=t
 obtain⟨c2,d2⟩:=x
 have DP:=Lib.hid (fun W hb'=>rdrop_any b (no,nn,nc) (ao,an,ac) (so,sn,sc) (eo,en,ec) (oo,on_,oc) (c,d) (c2,d2) f W (h.on (show Below w.heap.size w W from hb')) l2 l3 hok hkn)
 have HNR:=Lib.hid h.near
 obtain⟨h0,h1,h2,h3⟩:=three_new w #[.int .i64 b.me,.slice no nn nc,.slice ao an ac,.slice so sn sc,.slice eo en ec,.slice oo on_ oc] #[.int .i64 mk,.int .i64 c,.int .i64 d,.int .i64 c2,.int .i64 d2,.slice po pn pc,.slice qo qn qc] #[.int .i64 0,.slice none 0 0,.slice none 0 0,.slice none 0 0,.slice none 0 0,.slice none 0 0] 31 77 31
 obtain⟨me,hme⟩:∃ me,me=b.me:=⟨_,rfl⟩
 simp only [← hme] at h0 h1 h2 h3 DP ⊢
 have GB_1:=Lib.hid (h0)
 have X3_2:=Lib.hid (h1)
 have X5_3:=Lib.hid (h2)
 have X6_4:=Lib.hid (h3)
 clear h0 h1 h2 h3 h l2 hme hok hkn
 show Calls Tryz.prog 101 #[.agg #[.int .i64 me,.slice no nn nc,.slice ao an ac,.slice so sn sc,.slice eo en ec,.slice oo on_ oc],.int .i64 f,.agg #[.int .i64 mk,.int .i64 c,.int .i64 d,.int .i64 c2,.int .i64 d2,.slice po pn pc,.slice qo qn qc]] w _
 go_enter Tryz.func101,Tryz.ntmps101
 go_upto_region 1 with fail
 generalize (((w.alloc (.cells #[.int .i64 me,.slice no nn nc,.slice ao an ac,.slice so sn sc,.slice eo en ec,.slice oo on_ oc] 31)).alloc (.cells #[.int .i64 mk,.int .i64 c,.int .i64 d,.int .i64 c2,.int .i64 d2,.slice po pn pc,.slice qo qn qc] 77)).alloc (.cells #[.int .i64 0,.slice none 0 0,.slice none 0 0,.slice none 0 0,.slice none 0 0,.slice none 0 0] 31))=W at *
 have SW:=Lib.hid (DP.out W GB_1.out)
 clear DP
 obtain⟨x0,x1,x2,x3,x4,x5⟩:=X3_2.out.cs6
 obtain⟨y0,y1,y2,y3,y4,y5,y6⟩:=X5_3.out.cs7
 go_wp2_with fail
 refine SW.out.mono ?_
 rintro e1 w1 ⟨⟨⟨ea,en2,ec2⟩,⟨la,ln,lc⟩,rfl,hbr,hou⟩,hb⟩
 clear SW
 clear x0 x1 x2 x3 x4 x5 y0 y1 y2 y3 y4 y5 y6
 have GB_5:=Lib.hid (GB_1.out.trans (hb.mono GB_1.out.size))
 have X3_5:=Lib.hid (X3_2.out.on hb)
 have X5_5:=Lib.hid (X5_3.out.on hb)
 have X6_5:=Lib.hid (X6_4.out.on hb)
 clear GB_1 X3_2 X5_3 X6_4
 obtain⟨r0,r1,r2,r3,r4,r5⟩:=X6_5.out.cs6
 obtain⟨rf0,rf1,rf2,rf3,rf4,rf5⟩:=X6_5.out.fs6
 have zz:=X6_5.out.lt
 have GG:=Lib.hid (setB_box X6_5.out (.int .i64 me) (.slice no nn nc) (.slice ao an ac) (.slice so sn sc) (.slice ea en2 ec2) (.slice oo on_ oc))
 have BL:=Lib.hid (setB_below (b:=w.heap.size+1+1) GB_5.out (by omega) (.int .i64 me) (.slice no nn nc) (.slice ao an ac) (.slice so sn sc) (.slice ea en2 ec2) (.slice oo on_ oc))
 have HK:=Lib.hid (fun j (_:j<w1.heap.size) (hj:j≠w.heap.size+1+1)=>setB_heap w1 (w.heap.size+1+1) (.int .i64 me) (.slice no nn nc) (.slice ao an ac) (.slice so sn sc) (.slice ea en2 ec2) (.slice oo on_ oc) j hj)
 have HC:=Lib.hid (brin_keep (s1:=(none,0,0)) (s2:=(none,0,0)) (s3:=(none,0,0)) (s4:=(none,0,0)) (s5:=(none,0,0)) hbr X6_5.out HK.out (by rw [dropB_near,(takeB_adv b (c,d) (c2,d2) f).2.1]; exact HNR.out.on BL.out))
 have HO:=Lib.hid (outs_keep (s1:=(none,0,0)) (s2:=(none,0,0)) (s3:=(none,0,0)) (s4:=(none,0,0)) (s5:=(none,0,0)) hou X6_5.out HK.out)
 go_wp2_with fail
 obtain⟨v0,v1,v2,v3,v4,v5⟩:=GG.out.cs6
 refine bodyPost_ret (v:=.tuple #[.agg #[.int .i64 me,.slice no nn nc,.slice ao an ac,.slice so sn sc,.slice ea en2 ec2,.slice oo on_ oc],.slice la ln lc]) (by simp [results,Tryz.results101,go_sem,v0,v1,v2,v3,v4,v5]) rfl ?_
 exact⟨⟨(ea,en2,ec2),(la,ln,lc),rfl,HC.out,HO.out⟩,BL.out⟩
def onSubB (b:Br) (f:Int) (t x:Id) (p:List C5):Br×List Ou:=if (addB b ⟨t,x,p,f,false⟩).2=false then ((addB b ⟨t,x,p,f,false⟩).1,[]) else
 match b.adv[(findI (b.adv.map Ad.id) t).toNat]? with
 | none=>((addB b ⟨t,x,p,f,false⟩).1,[])
 | some a=>((addB b ⟨t,x,p,f,false⟩).1,[subE a.par ⟨t,x,p,f,false⟩])
theorem onSubB_br (b:Br) (f:Int) (t x:Id) (p:List C5):(onSubB b f t x p).1=(addB b ⟨t,x,p,f,false⟩).1:=by
 unfold onSubB
 split
 ·rfl
 ·split <;> rfl
theorem addB_true {b:Br} {e:En} (h:(addB b e).2=true):∃ (k:Nat) (a:Ad),findI (b.adv.map Ad.id) e.tree=k∧b.adv[k]?=some a:=by
 unfold addB at h
 split at h
 ·cases h
 ·rename_i a ha
  split at h
  ·cases h
  ·rename_i h1
   have h2:=findI_bd (b.adv.map Ad.id) e.tree
   exact⟨(findI (b.adv.map Ad.id) e.tree).toNat,a,by omega,ha⟩
theorem ronsub_any (b:Br) (nv av sv ev ov:Sl) (f mk:Int) (t x:Id) (pv qv:Sl) (p:List C5) (w:World) (h:BrIn w b nv av sv ev ov) (hp:RowC w (slv pv) p) (l2:b.adv.length≤900) (l3:b.ent.length≤900) (hok:∀ e∈b.ent,PredOk e.p) (hop:PredOk p) :
  Calls Tryz.prog 100 #[brv b.me nv av sv ev ov,.int .i64 f,mgv mk t x pv qv] w fun e w'=>(∃ ev' lo:Sl,e=.returned (.tuple #[brv b.me nv av sv ev' ov,slv lo])∧BrIn w' (onSubB b f t x p).1 nv av sv ev' ov∧OutsIn w' lo (onSubB b f t x p).2)∧Below w.heap.size w w':=by
 obtain⟨no,nn,nc⟩:=nv
 obtain⟨ao,an,ac⟩:=av
 obtain⟨so,sn,sc⟩:=sv
 obtain⟨eo,en,ec⟩:=ev
 obtain⟨oo,on_,oc⟩:=ov
 obtain⟨po,pn,pc⟩:=pv
 obtain⟨qo,qn,qc⟩:=qv
 obtain⟨c,d⟩:=t
 obtain⟨c2,d2⟩:=x
 have AD:=Lib.hid (fun W hb'=>radd_any b (no,nn,nc) (ao,an,ac) (so,sn,sc) (eo,en,ec) (oo,on_,oc) (c,d,c2,d2,(po,pn,pc),f,false) ⟨(c,d),(c2,d2),p,f,false⟩ W (h.on (show Below w.heap.size w W from hb')) ⟨rfl,rfl,rfl,rfl,hp.on hb'⟩ l2 l3 hok hop)
 have HNR:=Lib.hid h.near
 have HP:=Lib.hid hp
 obtain⟨h0,h1,h2,h3⟩:=three_new w #[.int .i64 b.me,.slice no nn nc,.slice ao an ac,.slice so sn sc,.slice eo en ec,.slice oo on_ oc] #[.int .i64 mk,.int .i64 c,.int .i64 d,.int .i64 c2,.int .i64 d2,.slice po pn pc,.slice qo qn qc] #[.int .i64 0,.slice none 0 0,.slice none 0 0,.slice none 0 0,.slice none 0 0,.slice none 0 0] 31 77 31
 obtain⟨me,hme⟩:∃ me,me=b.me:=⟨_,rfl⟩
 simp only [← hme] at h0 h1 h2 h3 AD ⊢
 have GB_1:=Lib.hid (h0)
 have X3_2:=Lib.hid (h1)
 have X5_3:=Lib.hid (h2)
 have X6_4:=Lib.hid (h3)
 clear h0 h1 h2 h3 h l2 hme hok hp
 show Calls Tryz.prog 100 #[.agg #[.int .i64 me,.slice no nn nc,.slice ao an ac,.slice so sn sc,.slice eo en ec,.slice oo on_ oc],.int .i64 f,.agg #[.int .i64 mk,.int .i64 c,.int .i64 d,.int .i64 c2,.int .i64 d2,.slice po pn pc,.slice qo qn qc]] w _
 go_enter Tryz.func100,Tryz.ntmps100
 go_upto_region 1 with fail
 generalize (((w.alloc (.cells #[.int .i64 me,.slice no nn nc,.slice ao an ac,.slice so sn sc,.slice eo en ec,.slice oo on_ oc] 31)).alloc (.cells #[.int .i64 mk,.int .i64 c,.int .i64 d,.int .i64 c2,.int .i64 d2,.slice po pn pc,.slice qo qn qc] 77)).alloc (.cells #[.int .i64 0,.slice none 0 0,.slice none 0 0,.slice none 0 0,.slice none 0 0,.slice none 0 0] 31))=W at *
 obtain⟨y0,y1,y2,y3,y4,y5,y6⟩:=X5_3.out.cs7
 go_upto_region 2 with fail
 clear y0 y1 y2 y3 y4 y5 y6
 have W4:=Lib.hid (show w.heap.size+3≤W.heap.size from by have:=X6_4.out.lt; omega)
 have NN:=newB W (.cells #[.int .i64 c,.int .i64 d,.int .i64 c2,.int .i64 d2,.slice po pn pc,.int .i64 f,.bool false] 43)
 have GB_5:=Lib.hid (GB_1.out.trans (NN.mono GB_1.out.size))
 have X3_5:=Lib.hid (X3_2.out.on NN)
 have X5_5:=Lib.hid (X5_3.out.on NN)
 have X6_5:=Lib.hid (X6_4.out.on NN)
 clear GB_1 X3_2 X5_3 X6_4
 clear NN
 have X8_6:=Lib.hid (box_new W #[.int .i64 c,.int .i64 d,.int .i64 c2,.int .i64 d2,.slice po pn pc,.int .i64 f,.bool false] 43)
 generalize W.alloc (.cells #[.int .i64 c,.int .i64 d,.int .i64 c2,.int .i64 d2,.slice po pn pc,.int .i64 f,.bool false] 43)=Wa at *
 have SW:=Lib.hid (AD.out Wa GB_5.out)
 clear AD
 obtain⟨x0,x1,x2,x3,x4,x5⟩:=X3_5.out.cs6
 obtain⟨z0,z1,z2,z3,z4,z5,z6⟩:=X8_6.out.cs7
 go_wp2_with fail
 refine SW.out.mono ?_
 rintro e1 w1 ⟨⟨⟨ea,en2,ec2⟩,rfl,hbr⟩,hb⟩
 clear SW
 clear x0 x1 x2 x3 x4 x5 z0 z1 z2 z3 z4 z5 z6
 have GB_7:=Lib.hid (GB_5.out.trans (hb.mono GB_5.out.size))
 have X3_7:=Lib.hid (X3_5.out.on hb)
 have X5_7:=Lib.hid (X5_5.out.on hb)
 have X6_7:=Lib.hid (X6_5.out.on hb)
 have X8_7:=Lib.hid (X8_6.out.on hb)
 clear GB_5 X3_5 X5_5 X6_5 X8_6
 obtain⟨fb,hfb⟩:∃ r,(addB b ⟨(c,d),(c2,d2),p,f,false⟩).2=r:=⟨_,rfl⟩
 have LB:=Lib.hid hfb
 rw [hfb]
 have w4:=W4.out
 obtain⟨k0,k1,k2,k3,k4,k5⟩:=X3_7.out.cs6
 obtain⟨kf0,kf1,kf2,kf3,kf4,kf5⟩:=X3_7.out.fs6
 have zz:=X3_7.out.lt
 have FB:=Lib.hid (setB_box X3_7.out (.int .i64 me) (.slice no nn nc) (.slice ao an ac) (.slice so sn sc) (.slice ea en2 ec2) (.slice oo on_ oc))
 have B2:=Lib.hid (setB_below (b:=w.heap.size) GB_7.out (Nat.le_refl _) (.int .i64 me) (.slice no nn nc) (.slice ao an ac) (.slice so sn sc) (.slice ea en2 ec2) (.slice oo on_ oc))
 have HKs:=Lib.hid (fun j (_:j<w1.heap.size) (hj:j≠w.heap.size)=>setB_heap w1 (w.heap.size) (.int .i64 me) (.slice no nn nc) (.slice ao an ac) (.slice so sn sc) (.slice ea en2 ec2) (.slice oo on_ oc) j hj)
 have FX5:=Lib.hid (show Box _ _ _ _ from (setB_heap w1 (w.heap.size) (.int .i64 me) (.slice no nn nc) (.slice ao an ac) (.slice so sn sc) (.slice ea en2 ec2) (.slice oo on_ oc) (w.heap.size+1) (by omega)).trans X5_7.out)
 have FX6:=Lib.hid (show Box _ _ _ _ from (setB_heap w1 (w.heap.size) (.int .i64 me) (.slice no nn nc) (.slice ao an ac) (.slice so sn sc) (.slice ea en2 ec2) (.slice oo on_ oc) (w.heap.size+1+1) (by omega)).trans X6_7.out)
 have FX8:=Lib.hid (show Box _ _ _ _ from (setB_heap w1 (w.heap.size) (.int .i64 me) (.slice no nn nc) (.slice ao an ac) (.slice so sn sc) (.slice ea en2 ec2) (.slice oo on_ oc) (W.heap.size) (by omega)).trans X8_7.out)
 have HB:=Lib.hid (brin_keep (s1:=(no,nn,nc)) (s2:=(ao,an,ac)) (s3:=(so,sn,sc)) (s4:=(eo,en,ec)) (s5:=(oo,on_,oc)) hbr X3_7.out HKs.out (by rw [(addB_same b ⟨(c,d),(c2,d2),p,f,false⟩).2.1]; exact HNR.out.on B2.out))
 clear hfb GB_7 X3_7 X5_7 X6_7 X8_7
 go_upto_region 3 with fail
 clear zz HKs k0 k1 k2 k3 k4 k5 kf0 kf1 kf2 kf3 kf4 kf5
 unfold setB at FB B2 HB FX5 FX6 FX8
 generalize ((((((w1.setCell ⟨w.heap.size,0,none⟩ (.int .i64 me)).setCell ⟨w.heap.size,1,none⟩ (.slice no nn nc)).setCell ⟨w.heap.size,2,none⟩ (.slice ao an ac)).setCell ⟨w.heap.size,3,none⟩ (.slice so sn sc)).setCell ⟨w.heap.size,4,none⟩ (.slice ea en2 ec2)).setCell ⟨w.heap.size,5,none⟩ (.slice oo on_ oc))=w2 at *
 have GB_8:=Lib.hid (B2.out)
 have X3_9:=Lib.hid (FB.out)
 have X5_10:=Lib.hid (FX5.out)
 have X6_11:=Lib.hid (FX6.out)
 have X8_12:=Lib.hid (FX8.out)
 clear B2 FB FX5 FX6 FX8
 cases fb
 ·have x0:=X3_9.out.cell 0
  have x1:=X3_9.out.cell 1
  have x2:=X3_9.out.cell 2
  have x3:=X3_9.out.cell 3
  have x4:=X3_9.out.cell 4
  have x5:=X3_9.out.cell 5
  simp only [List.getElem?_toArray,List.getElem?_cons_zero,List.getElem?_cons_succ] at x0 x1 x2 x3 x4 x5
  obtain⟨r0,r1,r2,r3,r4,r5⟩:=X6_11.out.cs6
  obtain⟨rf0,rf1,rf2,rf3,rf4,rf5⟩:=X6_11.out.fs6
  have zz:=X6_11.out.lt
  have GG:=Lib.hid (setB_box X6_11.out (.int .i64 me) (.slice no nn nc) (.slice ao an ac) (.slice so sn sc) (.slice ea en2 ec2) (.slice oo on_ oc))
  have BL:=Lib.hid (setB_below (b:=w.heap.size+1+1) GB_8.out (by omega) (.int .i64 me) (.slice no nn nc) (.slice ao an ac) (.slice so sn sc) (.slice ea en2 ec2) (.slice oo on_ oc))
  have HK:=Lib.hid (fun j (_:j<w2.heap.size) (hj:j≠w.heap.size+1+1)=>setB_heap w2 (w.heap.size+1+1) (.int .i64 me) (.slice no nn nc) (.slice ao an ac) (.slice so sn sc) (.slice ea en2 ec2) (.slice oo on_ oc) j hj)
  have HC:=Lib.hid (brin_keep (s1:=(none,0,0)) (s2:=(none,0,0)) (s3:=(none,0,0)) (s4:=(none,0,0)) (s5:=(none,0,0)) HB.out X6_11.out HK.out (by rw [(addB_same b ⟨(c,d),(c2,d2),p,f,false⟩).2.1]; exact HNR.out.on BL.out))
  go_wp2_with fail
  obtain⟨v0,v1,v2,v3,v4,v5⟩:=GG.out.cs6
  refine bodyPost_ret (v:=.tuple #[.agg #[.int .i64 me,.slice no nn nc,.slice ao an ac,.slice so sn sc,.slice ea en2 ec2,.slice oo on_ oc],.slice none 0 0]) (by simp [results,Tryz.results100,go_sem,v0,v1,v2,v3,v4,v5]) rfl ?_
  have hd:onSubB b f (c,d) (c2,d2) p=((addB b ⟨(c,d),(c2,d2),p,f,false⟩).1,[]):=by unfold onSubB; rw [if_pos LB.out]
  rw [hd]
  exact⟨⟨(ea,en2,ec2),(none,0,0),rfl,HC.out,outs_nil _⟩,BL.out⟩
 ·obtain⟨k,a,hk1,hak⟩:=addB_true LB.out
  have hk1:findI (b.adv.map Ad.id) (c,d)=k:=hk1
  have DB:=Lib.hid (show onSubB b f (c,d) (c2,d2) p=((addB b ⟨(c,d),(c2,d2),p,f,false⟩).1,[subE a.par ⟨(c,d),(c2,d2),p,f,false⟩]) from by
   unfold onSubB
   rw [if_neg (by rw [LB.out]; simp),hk1,Int.toNat_natCast,hak])
  obtain⟨ad,had1,had2⟩:=HB.out.adv
  rw [(addB_same b ⟨(c,d),(c2,d2),p,f,false⟩).2.2.1] at had2
  obtain⟨z,hz1,hz2⟩:=had2.at k a hak
  have FK:=ids_eq had2
  rw [← FK] at hk1
  obtain⟨q1,q2,hq⟩:=had1.len
  obtain⟨pa,ix,pl,px⟩:=row_el okD had1 hq rfl hz1
  have ix2:∀ w,(Instr.indexAt 26 (.slice ao an ac) (.int .i64 (k:Int))).run Tryz.prog w=.ok (.pointer (some pa)) w:=fun w=>by have h1:(Value.slice ao an ac)=.slice q1 ad.length q2:=hq; rw [h1]; exact ix w
  have pb:=px w2 (Below.refl _ _)
  have p3:w2.cell? ⟨pa.block,pa.off+3,none⟩=some (.int .i64 z.2.2.2):=by simpa [Addr.add] using pb 3 _ rfl
  rw [hz2.2.1] at p3
  have pn6:pa.block≠w.heap.size+1+1:=two_ints (E:=ED) (show Box w2 (w.heap.size+1+1) (brcells 0 (none,0,0) (none,0,0) (none,0,0) (none,0,0) (none,0,0)) 31 from X6_11.out) (fun c=>⟨_,_,rfl,rfl⟩) (br_ints 0 (none,0,0) (none,0,0) (none,0,0) (none,0,0) (none,0,0)) pa z pb
  clear hq ix pb px hz1 hz2 hak FK had2
  go_upto_region 5 with fail
  refine ons_r5 _ w2 w.heap.size (w.heap.size+1) (w.heap.size+1+1) W.heap.size me mk c d c2 d2 f a.par false no ao so ea oo nn nc an ac sn sc en2 ec2 on_ oc po qo pn pc qn qc ad k pa _ _ _ _ _ _ _ _ _ _ _ _ _ _ _ _ _ _ _ _ _ _ _ _ _ _ _ _ _ _ _ _ _ _ _ _ _ _ _ _ _ _ _ X3_9.out X5_10.out X6_11.out X8_12.out (by omega) (by omega) (by omega) had1 hk1 ix2 p3 pl pn6 ?_
  intro a9 x9 sl hd9 h69 h79 hbx ho hblk hbl
  have BL:=Lib.hid (show Below w.heap.size w x9 from GB_8.out.trans (hbl w.heap.size (by omega)))
  have HC:=Lib.hid (brin_keep (s1:=(none,0,0)) (s2:=(none,0,0)) (s3:=(none,0,0)) (s4:=(none,0,0)) (s5:=(none,0,0)) HB.out X6_11.out hblk (by rw [(addB_same b ⟨(c,d),(c2,d2),p,f,false⟩).2.1]; exact HNR.out.on BL.out))
  have HU:=Lib.hid (Row.of_own ho)
  obtain⟨v0,v1,v2,v3,v4,v5⟩:=hbx.cs6
  clear hbx ho hblk hbl HB had1 ix2 p3 pl pn6 hk1
  simp only [Exit.then]
  apply_assumption
  go_wp2_with fail
  refine bodyPost_ret (v:=.tuple #[.agg #[.int .i64 me,.slice no nn nc,.slice ao an ac,.slice so sn sc,.slice ea en2 ec2,.slice oo on_ oc],slv sl]) (by simp [results,Tryz.results100,go_sem,h69,h79,v0,v1,v2,v3,v4,v5]) hd9 ?_
  rw [DB.out]
  exact⟨⟨ea,en2,ec2,sl.1,sl.2.1,sl.2.2,rfl,HC.out,_,HU.out,.cons ⟨rfl,rfl,rfl,rfl,HP.out.on BL.out,rfl⟩ .nil⟩,BL.out⟩
end Go.Proofs.YtncogjpmboglhaaGreat.Bk
