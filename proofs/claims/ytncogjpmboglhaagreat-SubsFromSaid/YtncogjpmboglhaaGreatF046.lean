/-
  Step of broadsideref. Conditions as told.
-/
import Derived.Test.YtncogjpmboglhaaGreatF045
import Derived.Test.YtncogjpmboglhaaGreatF032
set_option maxRecDepth 100000
set_option maxHeartbeats 64000000
namespace Go.Proofs.YtncogjpmboglhaaGreat.Bk
open Go.RowKit Go.Sort Rw YtncogjpmboglhaaGreat.Nm Pr
def unadvB (b:Br) (f:Int) (x:Id):Br×List Ou:=((forgetB b x f).1,if (forgetB b x f).2=true then othersO b.near f 2 x (0,0) [] else [])
theorem unadv_in {W:World} {b:Br} {f:Int} {x:Id} {s:Sl} (h:RowU W (slv s) (unadvL b f x)):OutsIn W s (unadvB b f x).2:=by
 refine⟨_,h,?_⟩
 unfold unadvL unadvB
 split
 ·exact others_in (p:=[]) (x:=(0,0)) (row_nil _)
 ·exact .nil
def stepB (b:Br) (f mk:Int) (t x:Id) (p:List C5):Br×List Ou:=if mk=1 then advB b f t p else if mk=2 then unadvB b f t else if mk=3 then onSubB b f t x p else dropB b t x f
theorem advB_near (b:Br) (f:Int) (x:Id) (p:List C5) (_:∀ o∈b.own,PredOk o.p) (_:∀ e∈b.ent,PredOk e.p):(advB b f x p).1.near=b.near:=by
 unfold advB
 split
 ·exact (learn_same b ⟨x,p,f⟩).2.1
 ·have h4:=learn_same b ⟨x,p,f⟩
  have hk:=(foldK_ok (l:=(learnB b ⟨x,p,f⟩).1.own) (b0:=(learnB b ⟨x,p,f⟩).1) (o0:=othersO b.near f 1 x (0,0) p) (fun o=>meetsC o.p p) (fun o=>advE x o) (fun _=>f) (fun _=>True) (fun _ _=>trivial) (fun _ _ _=>trivial) _ (Nat.le_refl _)).1.near
  exact hk.trans h4.2.1
theorem onSubB_near (b:Br) (f:Int) (t x:Id) (p:List C5):(onSubB b f t x p).1.near=b.near:=by
 rw [onSubB_br]
 exact (addB_same b _).2.1
theorem dropB_near2 (b:Br) (t x:Id) (f:Int):(dropB b t x f).1.near=b.near:=by
 rw [dropB_near]
 exact (takeB_adv b t x f).2.1
theorem rstep_any (b:Br) (nv av sv ev ov:Sl) (f mk:Int) (t x:Id) (pv qv:Sl) (p:List C5) (w:World) (h:BrIn w b nv av sv ev ov) (hp:RowC w (slv pv) p) (hmk:1≤mk∧mk≤4) (l0:b.near.length≤900) (l1:b.seen.length≤899) (l2:b.adv.length≤899) (l3:b.ent.length+b.own.length≤900) (hok:∀ e∈b.ent,PredOk e.p) (hoo:∀ o∈b.own,PredOk o.p) (hop:PredOk p) (hkn:∀ e∈b.ent,e.tree∈b.adv.map Ad.id) :
  Calls Tryz.prog 35 #[brv b.me nv av sv ev ov,.int .i64 f,mgv mk t x pv qv] w fun e w'=>(∃ av' sv' ev' lo:Sl,e=.returned (.tuple #[brv b.me nv av' sv' ev' ov,slv lo,.slice none 0 0])∧BrIn w' (stepB b f mk t x p).1 nv av' sv' ev' ov∧OutsIn w' lo (stepB b f mk t x p).2)∧Below w.heap.size w w':=by
 obtain⟨no,nn,nc⟩:=nv
 obtain⟨ao,an,ac⟩:=av
 obtain⟨so,sn,sc⟩:=sv
 obtain⟨eo,en,ec⟩:=ev
 obtain⟨oo,on_,oc⟩:=ov
 obtain⟨po,pn,pc⟩:=pv
 obtain⟨qo,qn,qc⟩:=qv
 obtain⟨c,d⟩:=t
 obtain⟨c2,d2⟩:=x
 have C1:=Lib.hid (fun W hb'=>radv_any b (no,nn,nc) (ao,an,ac) (so,sn,sc) (eo,en,ec) (oo,on_,oc) f (c,d) (po,pn,pc) p W (h.on (show Below w.heap.size w W from hb')) (hp.on hb') l0 l1 l2 l3 hok hoo hop)
 have C2:=Lib.hid (fun W hb'=>runadv_any b (no,nn,nc) (ao,an,ac) (so,sn,sc) (eo,en,ec) (oo,on_,oc) (c,d) f W (h.on (show Below w.heap.size w W from hb')) l0 (by omega) (by omega))
 have C3:=Lib.hid (fun W hb'=>ronsub_any b (no,nn,nc) (ao,an,ac) (so,sn,sc) (eo,en,ec) (oo,on_,oc) f mk (c,d) (c2,d2) (po,pn,pc) (qo,qn,qc) p W (h.on (show Below w.heap.size w W from hb')) (hp.on hb') (by omega) (by omega) hok hop)
 have C4:=Lib.hid (fun W hb'=>ronunsub_any b (no,nn,nc) (ao,an,ac) (so,sn,sc) (eo,en,ec) (oo,on_,oc) f mk (c,d) (c2,d2) (po,pn,pc) (qo,qn,qc) W (h.on (show Below w.heap.size w W from hb')) (by omega) (by omega) hok hkn)
 have HNR:=Lib.hid h.near
 have AN:=Lib.hid (advB_near b f (c,d) p hoo hok)
 obtain⟨h0,h1,h2,h3⟩:=three_new w #[.int .i64 b.me,.slice no nn nc,.slice ao an ac,.slice so sn sc,.slice eo en ec,.slice oo on_ oc] #[.int .i64 mk,.int .i64 c,.int .i64 d,.int .i64 c2,.int .i64 d2,.slice po pn pc,.slice qo qn qc] #[.int .i64 0,.slice none 0 0,.slice none 0 0,.slice none 0 0,.slice none 0 0,.slice none 0 0] 31 77 31
 obtain⟨me,hme⟩:∃ me,me=b.me:=⟨_,rfl⟩
 simp only [← hme] at h0 h1 h2 h3 C1 C2 C3 C4 ⊢
 have GB_1:=Lib.hid (h0)
 have X3_2:=Lib.hid (h1)
 have X5_3:=Lib.hid (h2)
 have X6_4:=Lib.hid (h3)
 clear h0 h1 h2 h3 h hp l0 l1 l2 l3 hme hok hoo hop hkn
 show Calls Tryz.prog 35 #[.agg #[.int .i64 me,.slice no nn nc,.slice ao an ac,.slice so sn sc,.slice eo en ec,.slice oo on_ oc],.int .i64 f,.agg #[.int .i64 mk,.int .i64 c,.int .i64 d,.int .i64 c2,.int .i64 d2,.slice po pn pc,.slice qo qn qc]] w _
 go_enter Tryz.func35,Tryz.ntmps35
 go_upto_region 1 with fail
 generalize (((w.alloc (.cells #[.int .i64 me,.slice no nn nc,.slice ao an ac,.slice so sn sc,.slice eo en ec,.slice oo on_ oc] 31)).alloc (.cells #[.int .i64 mk,.int .i64 c,.int .i64 d,.int .i64 c2,.int .i64 d2,.slice po pn pc,.slice qo qn qc] 77)).alloc (.cells #[.int .i64 0,.slice none 0 0,.slice none 0 0,.slice none 0 0,.slice none 0 0,.slice none 0 0] 31))=W at *
 have K1:=C1.out W GB_1.out
 have K2:=C2.out W GB_1.out
 have K3:=C3.out W GB_1.out
 have K4:=C4.out W GB_1.out
 have D1:=Lib.hid K1
 have D2:=Lib.hid K2
 have D3:=Lib.hid K3
 have D4:=Lib.hid K4
 clear K1 K2 K3 K4 C1 C2 C3 C4
 obtain⟨x0,x1,x2,x3,x4,x5⟩:=X3_2.out.cs6
 obtain⟨y0,y1,y2,y3,y4,y5,y6⟩:=X5_3.out.cs7
 rcases (by omega:mk=1∨mk=2∨mk=3∨mk=4) with rfl|rfl|rfl|rfl
 ·go_wp2_with fail
  refine D1.out.mono ?_
  rintro e1 w1 ⟨⟨⟨aa,an2,ac2⟩,⟨sa,sn2,sc2⟩,⟨ea,en2,ec2⟩,⟨la,ln,lc⟩,rfl,hbr,hou⟩,hb⟩
  clear D1 D2 D3 D4
  clear x0 x1 x2 x3 x4 x5 y0 y1 y2 y3 y4 y5 y6
  have GB_5:=Lib.hid (GB_1.out.trans (hb.mono GB_1.out.size))
  have X3_5:=Lib.hid (X3_2.out.on hb)
  have X5_5:=Lib.hid (X5_3.out.on hb)
  have X6_5:=Lib.hid (X6_4.out.on hb)
  clear GB_1 X3_2 X5_3 X6_4
  obtain⟨k0,k1,k2,k3,k4,k5⟩:=X3_5.out.cs6
  obtain⟨kf0,kf1,kf2,kf3,kf4,kf5⟩:=X3_5.out.fs6
  have zz:=X3_5.out.lt
  have FB:=Lib.hid (setB_box X3_5.out (.int .i64 me) (.slice no nn nc) (.slice aa an2 ac2) (.slice sa sn2 sc2) (.slice ea en2 ec2) (.slice oo on_ oc))
  have B2:=Lib.hid (setB_below (b:=w.heap.size) GB_5.out (Nat.le_refl _) (.int .i64 me) (.slice no nn nc) (.slice aa an2 ac2) (.slice sa sn2 sc2) (.slice ea en2 ec2) (.slice oo on_ oc))
  have HKs:=Lib.hid (fun j (_:j<w1.heap.size) (hj:j≠w.heap.size)=>setB_heap w1 (w.heap.size) (.int .i64 me) (.slice no nn nc) (.slice aa an2 ac2) (.slice sa sn2 sc2) (.slice ea en2 ec2) (.slice oo on_ oc) j hj)
  have FX6:=Lib.hid (show Box _ _ _ _ from (setB_heap w1 (w.heap.size) (.int .i64 me) (.slice no nn nc) (.slice aa an2 ac2) (.slice sa sn2 sc2) (.slice ea en2 ec2) (.slice oo on_ oc) (w.heap.size+1+1) (by omega)).trans X6_5.out)
  have HB:=Lib.hid (brin_keep (s1:=(no,nn,nc)) (s2:=(ao,an,ac)) (s3:=(so,sn,sc)) (s4:=(eo,en,ec)) (s5:=(oo,on_,oc)) hbr X3_5.out HKs.out (by rw [AN.out]; exact HNR.out.on B2.out))
  have HO:=Lib.hid (outs_keep (s1:=(no,nn,nc)) (s2:=(ao,an,ac)) (s3:=(so,sn,sc)) (s4:=(eo,en,ec)) (s5:=(oo,on_,oc)) hou X3_5.out HKs.out)
  clear hbr hou hb GB_5 X3_5 X6_5
  go_upto_region 14 with fail
  clear zz HKs k0 k1 k2 k3 k4 k5 kf0 kf1 kf2 kf3 kf4 kf5
  unfold setB at FB B2 HB FX6 HO
  generalize ((((((w1.setCell ⟨w.heap.size,0,none⟩ (.int .i64 me)).setCell ⟨w.heap.size,1,none⟩ (.slice no nn nc)).setCell ⟨w.heap.size,2,none⟩ (.slice aa an2 ac2)).setCell ⟨w.heap.size,3,none⟩ (.slice sa sn2 sc2)).setCell ⟨w.heap.size,4,none⟩ (.slice ea en2 ec2)).setCell ⟨w.heap.size,5,none⟩ (.slice oo on_ oc))=w2 at *
  have GB_6:=Lib.hid (B2.out)
  have X3_7:=Lib.hid (FB.out)
  have X6_8:=Lib.hid (FX6.out)
  clear B2 FB FX6
  obtain⟨x0,x1,x2,x3,x4,x5⟩:=X3_7.out.cs6
  obtain⟨r0,r1,r2,r3,r4,r5⟩:=X6_8.out.cs6
  obtain⟨rf0,rf1,rf2,rf3,rf4,rf5⟩:=X6_8.out.fs6
  have zz:=X6_8.out.lt
  have GG:=Lib.hid (setB_box X6_8.out (.int .i64 me) (.slice no nn nc) (.slice aa an2 ac2) (.slice sa sn2 sc2) (.slice ea en2 ec2) (.slice oo on_ oc))
  have BL:=Lib.hid (setB_below (b:=w.heap.size+1+1) GB_6.out (by omega) (.int .i64 me) (.slice no nn nc) (.slice aa an2 ac2) (.slice sa sn2 sc2) (.slice ea en2 ec2) (.slice oo on_ oc))
  have HK:=Lib.hid (fun j (_:j<w2.heap.size) (hj:j≠w.heap.size+1+1)=>setB_heap w2 (w.heap.size+1+1) (.int .i64 me) (.slice no nn nc) (.slice aa an2 ac2) (.slice sa sn2 sc2) (.slice ea en2 ec2) (.slice oo on_ oc) j hj)
  have HC:=Lib.hid (brin_keep (s1:=(none,0,0)) (s2:=(none,0,0)) (s3:=(none,0,0)) (s4:=(none,0,0)) (s5:=(none,0,0)) HB.out X6_8.out HK.out (by rw [AN.out]; exact HNR.out.on BL.out))
  have HO2:=Lib.hid (outs_keep (s1:=(none,0,0)) (s2:=(none,0,0)) (s3:=(none,0,0)) (s4:=(none,0,0)) (s5:=(none,0,0)) HO.out X6_8.out HK.out)
  go_wp2_with fail
  obtain⟨v0,v1,v2,v3,v4,v5⟩:=GG.out.cs6
  refine bodyPost_ret (v:=.tuple #[.agg #[.int .i64 me,.slice no nn nc,.slice aa an2 ac2,.slice sa sn2 sc2,.slice ea en2 ec2,.slice oo on_ oc],.slice la ln lc,.slice none 0 0]) (by simp [results,Tryz.results35,go_sem,v0,v1,v2,v3,v4,v5]) rfl ?_
  exact⟨⟨(aa,an2,ac2),(sa,sn2,sc2),(ea,en2,ec2),(la,ln,lc),rfl,HC.out,HO2.out⟩,BL.out⟩
 ·go_wp2_with fail
  refine D2.out.mono ?_
  rintro e1 w1 ⟨⟨⟨aa,an2,ac2⟩,⟨ea,en2,ec2⟩,⟨la,ln,lc⟩,rfl,hbr,hou_⟩,hb⟩
  have hou:=unadv_in hou_
  clear hou_
  clear D1 D2 D3 D4
  clear x0 x1 x2 x3 x4 x5 y0 y1 y2 y3 y4 y5 y6
  have GB_5:=Lib.hid (GB_1.out.trans (hb.mono GB_1.out.size))
  have X3_5:=Lib.hid (X3_2.out.on hb)
  have X5_5:=Lib.hid (X5_3.out.on hb)
  have X6_5:=Lib.hid (X6_4.out.on hb)
  clear GB_1 X3_2 X5_3 X6_4
  obtain⟨k0,k1,k2,k3,k4,k5⟩:=X3_5.out.cs6
  obtain⟨kf0,kf1,kf2,kf3,kf4,kf5⟩:=X3_5.out.fs6
  have zz:=X3_5.out.lt
  have FB:=Lib.hid (setB_box X3_5.out (.int .i64 me) (.slice no nn nc) (.slice aa an2 ac2) (.slice so sn sc) (.slice ea en2 ec2) (.slice oo on_ oc))
  have B2:=Lib.hid (setB_below (b:=w.heap.size) GB_5.out (Nat.le_refl _) (.int .i64 me) (.slice no nn nc) (.slice aa an2 ac2) (.slice so sn sc) (.slice ea en2 ec2) (.slice oo on_ oc))
  have HKs:=Lib.hid (fun j (_:j<w1.heap.size) (hj:j≠w.heap.size)=>setB_heap w1 (w.heap.size) (.int .i64 me) (.slice no nn nc) (.slice aa an2 ac2) (.slice so sn sc) (.slice ea en2 ec2) (.slice oo on_ oc) j hj)
  have FX6:=Lib.hid (show Box _ _ _ _ from (setB_heap w1 (w.heap.size) (.int .i64 me) (.slice no nn nc) (.slice aa an2 ac2) (.slice so sn sc) (.slice ea en2 ec2) (.slice oo on_ oc) (w.heap.size+1+1) (by omega)).trans X6_5.out)
  have HB:=Lib.hid (brin_keep (s1:=(no,nn,nc)) (s2:=(ao,an,ac)) (s3:=(so,sn,sc)) (s4:=(eo,en,ec)) (s5:=(oo,on_,oc)) hbr X3_5.out HKs.out (by rw [(forget_near b (c,d) f).1]; exact HNR.out.on B2.out))
  have HO:=Lib.hid (outs_keep (s1:=(no,nn,nc)) (s2:=(ao,an,ac)) (s3:=(so,sn,sc)) (s4:=(eo,en,ec)) (s5:=(oo,on_,oc)) hou X3_5.out HKs.out)
  clear hbr hou hb GB_5 X3_5 X6_5
  go_upto_region 14 with fail
  clear zz HKs k0 k1 k2 k3 k4 k5 kf0 kf1 kf2 kf3 kf4 kf5
  unfold setB at FB B2 HB FX6 HO
  generalize ((((((w1.setCell ⟨w.heap.size,0,none⟩ (.int .i64 me)).setCell ⟨w.heap.size,1,none⟩ (.slice no nn nc)).setCell ⟨w.heap.size,2,none⟩ (.slice aa an2 ac2)).setCell ⟨w.heap.size,3,none⟩ (.slice so sn sc)).setCell ⟨w.heap.size,4,none⟩ (.slice ea en2 ec2)).setCell ⟨w.heap.size,5,none⟩ (.slice oo on_ oc))=w2 at *
  have GB_6:=Lib.hid (B2.out)
  have X3_7:=Lib.hid (FB.out)
  have X6_8:=Lib.hid (FX6.out)
  clear B2 FB FX6
  obtain⟨x0,x1,x2,x3,x4,x5⟩:=X3_7.out.cs6
  obtain⟨r0,r1,r2,r3,r4,r5⟩:=X6_8.out.cs6
  obtain⟨rf0,rf1,rf2,rf3,rf4,rf5⟩:=X6_8.out.fs6
  have zz:=X6_8.out.lt
  have GG:=Lib.hid (setB_box X6_8.out (.int .i64 me) (.slice no nn nc) (.slice aa an2 ac2) (.slice so sn sc) (.slice ea en2 ec2) (.slice oo on_ oc))
  have BL:=Lib.hid (setB_below (b:=w.heap.size+1+1) GB_6.out (by omega) (.int .i64 me) (.slice no nn nc) (.slice aa an2 ac2) (.slice so sn sc) (.slice ea en2 ec2) (.slice oo on_ oc))
  have HK:=Lib.hid (fun j (_:j<w2.heap.size) (hj:j≠w.heap.size+1+1)=>setB_heap w2 (w.heap.size+1+1) (.int .i64 me) (.slice no nn nc) (.slice aa an2 ac2) (.slice so sn sc) (.slice ea en2 ec2) (.slice oo on_ oc) j hj)
  have HC:=Lib.hid (brin_keep (s1:=(none,0,0)) (s2:=(none,0,0)) (s3:=(none,0,0)) (s4:=(none,0,0)) (s5:=(none,0,0)) HB.out X6_8.out HK.out (by rw [(forget_near b (c,d) f).1]; exact HNR.out.on BL.out))
  have HO2:=Lib.hid (outs_keep (s1:=(none,0,0)) (s2:=(none,0,0)) (s3:=(none,0,0)) (s4:=(none,0,0)) (s5:=(none,0,0)) HO.out X6_8.out HK.out)
  go_wp2_with fail
  obtain⟨v0,v1,v2,v3,v4,v5⟩:=GG.out.cs6
  refine bodyPost_ret (v:=.tuple #[.agg #[.int .i64 me,.slice no nn nc,.slice aa an2 ac2,.slice so sn sc,.slice ea en2 ec2,.slice oo on_ oc],.slice la ln lc,.slice none 0 0]) (by simp [results,Tryz.results35,go_sem,v0,v1,v2,v3,v4,v5]) rfl ?_
  exact⟨⟨(aa,an2,ac2),(so,sn,sc),(ea,en2,ec2),(la,ln,lc),rfl,HC.out,HO2.out⟩,BL.out⟩
 ·go_wp2_with fail
  refine D3.out.mono ?_
  rintro e1 w1 ⟨⟨⟨ea,en2,ec2⟩,⟨la,ln,lc⟩,rfl,hbr,hou⟩,hb⟩
  clear D1 D2 D3 D4
  clear x0 x1 x2 x3 x4 x5 y0 y1 y2 y3 y4 y5 y6
  have GB_5:=Lib.hid (GB_1.out.trans (hb.mono GB_1.out.size))
  have X3_5:=Lib.hid (X3_2.out.on hb)
  have X5_5:=Lib.hid (X5_3.out.on hb)
  have X6_5:=Lib.hid (X6_4.out.on hb)
  clear GB_1 X3_2 X5_3 X6_4
  obtain⟨k0,k1,k2,k3,k4,k5⟩:=X3_5.out.cs6
  obtain⟨kf0,kf1,kf2,kf3,kf4,kf5⟩:=X3_5.out.fs6
  have zz:=X3_5.out.lt
  have FB:=Lib.hid (setB_box X3_5.out (.int .i64 me) (.slice no nn nc) (.slice ao an ac) (.slice so sn sc) (.slice ea en2 ec2) (.slice oo on_ oc))
  have B2:=Lib.hid (setB_below (b:=w.heap.size) GB_5.out (Nat.le_refl _) (.int .i64 me) (.slice no nn nc) (.slice ao an ac) (.slice so sn sc) (.slice ea en2 ec2) (.slice oo on_ oc))
  have HKs:=Lib.hid (fun j (_:j<w1.heap.size) (hj:j≠w.heap.size)=>setB_heap w1 (w.heap.size) (.int .i64 me) (.slice no nn nc) (.slice ao an ac) (.slice so sn sc) (.slice ea en2 ec2) (.slice oo on_ oc) j hj)
  have FX6:=Lib.hid (show Box _ _ _ _ from (setB_heap w1 (w.heap.size) (.int .i64 me) (.slice no nn nc) (.slice ao an ac) (.slice so sn sc) (.slice ea en2 ec2) (.slice oo on_ oc) (w.heap.size+1+1) (by omega)).trans X6_5.out)
  have HB:=Lib.hid (brin_keep (s1:=(no,nn,nc)) (s2:=(ao,an,ac)) (s3:=(so,sn,sc)) (s4:=(eo,en,ec)) (s5:=(oo,on_,oc)) hbr X3_5.out HKs.out (by rw [onSubB_near b f (c,d) (c2,d2) p]; exact HNR.out.on B2.out))
  have HO:=Lib.hid (outs_keep (s1:=(no,nn,nc)) (s2:=(ao,an,ac)) (s3:=(so,sn,sc)) (s4:=(eo,en,ec)) (s5:=(oo,on_,oc)) hou X3_5.out HKs.out)
  clear hbr hou hb GB_5 X3_5 X6_5
  go_upto_region 14 with fail
  clear zz HKs k0 k1 k2 k3 k4 k5 kf0 kf1 kf2 kf3 kf4 kf5
  unfold setB at FB B2 HB FX6 HO
  generalize ((((((w1.setCell ⟨w.heap.size,0,none⟩ (.int .i64 me)).setCell ⟨w.heap.size,1,none⟩ (.slice no nn nc)).setCell ⟨w.heap.size,2,none⟩ (.slice ao an ac)).setCell ⟨w.heap.size,3,none⟩ (.slice so sn sc)).setCell ⟨w.heap.size,4,none⟩ (.slice ea en2 ec2)).setCell ⟨w.heap.size,5,none⟩ (.slice oo on_ oc))=w2 at *
  have GB_6:=Lib.hid (B2.out)
  have X3_7:=Lib.hid (FB.out)
  have X6_8:=Lib.hid (FX6.out)
  clear B2 FB FX6
  obtain⟨x0,x1,x2,x3,x4,x5⟩:=X3_7.out.cs6
  obtain⟨r0,r1,r2,r3,r4,r5⟩:=X6_8.out.cs6
  obtain⟨rf0,rf1,rf2,rf3,rf4,rf5⟩:=X6_8.out.fs6
  have zz:=X6_8.out.lt
  have GG:=Lib.hid (setB_box X6_8.out (.int .i64 me) (.slice no nn nc) (.slice ao an ac) (.slice so sn sc) (.slice ea en2 ec2) (.slice oo on_ oc))
  have BL:=Lib.hid (setB_below (b:=w.heap.size+1+1) GB_6.out (by omega) (.int .i64 me) (.slice no nn nc) (.slice ao an ac) (.slice so sn sc) (.slice ea en2 ec2) (.slice oo on_ oc))
  have HK:=Lib.hid (fun j (_:j<w2.heap.size) (hj:j≠w.heap.size+1+1)=>setB_heap w2 (w.heap.size+1+1) (.int .i64 me) (.slice no nn nc) (.slice ao an ac) (.slice so sn sc) (.slice ea en2 ec2) (.slice oo on_ oc) j hj)
  have HC:=Lib.hid (brin_keep (s1:=(none,0,0)) (s2:=(none,0,0)) (s3:=(none,0,0)) (s4:=(none,0,0)) (s5:=(none,0,0)) HB.out X6_8.out HK.out (by rw [onSubB_near b f (c,d) (c2,d2) p]; exact HNR.out.on BL.out))
  have HO2:=Lib.hid (outs_keep (s1:=(none,0,0)) (s2:=(none,0,0)) (s3:=(none,0,0)) (s4:=(none,0,0)) (s5:=(none,0,0)) HO.out X6_8.out HK.out)
  go_wp2_with fail
  obtain⟨v0,v1,v2,v3,v4,v5⟩:=GG.out.cs6
  refine bodyPost_ret (v:=.tuple #[.agg #[.int .i64 me,.slice no nn nc,.slice ao an ac,.slice so sn sc,.slice ea en2 ec2,.slice oo on_ oc],.slice la ln lc,.slice none 0 0]) (by simp [results,Tryz.results35,go_sem,v0,v1,v2,v3,v4,v5]) rfl ?_
  exact⟨⟨(ao,an,ac),(so,sn,sc),(ea,en2,ec2),(la,ln,lc),rfl,HC.out,HO2.out⟩,BL.out⟩
 ·go_wp2_with fail
  refine D4.out.mono ?_
  rintro e1 w1 ⟨⟨⟨ea,en2,ec2⟩,⟨la,ln,lc⟩,rfl,hbr,hou⟩,hb⟩
  clear D1 D2 D3 D4
  clear x0 x1 x2 x3 x4 x5 y0 y1 y2 y3 y4 y5 y6
  have GB_5:=Lib.hid (GB_1.out.trans (hb.mono GB_1.out.size))
  have X3_5:=Lib.hid (X3_2.out.on hb)
  have X5_5:=Lib.hid (X5_3.out.on hb)
  have X6_5:=Lib.hid (X6_4.out.on hb)
  clear GB_1 X3_2 X5_3 X6_4
  obtain⟨k0,k1,k2,k3,k4,k5⟩:=X3_5.out.cs6
  obtain⟨kf0,kf1,kf2,kf3,kf4,kf5⟩:=X3_5.out.fs6
  have zz:=X3_5.out.lt
  have FB:=Lib.hid (setB_box X3_5.out (.int .i64 me) (.slice no nn nc) (.slice ao an ac) (.slice so sn sc) (.slice ea en2 ec2) (.slice oo on_ oc))
  have B2:=Lib.hid (setB_below (b:=w.heap.size) GB_5.out (Nat.le_refl _) (.int .i64 me) (.slice no nn nc) (.slice ao an ac) (.slice so sn sc) (.slice ea en2 ec2) (.slice oo on_ oc))
  have HKs:=Lib.hid (fun j (_:j<w1.heap.size) (hj:j≠w.heap.size)=>setB_heap w1 (w.heap.size) (.int .i64 me) (.slice no nn nc) (.slice ao an ac) (.slice so sn sc) (.slice ea en2 ec2) (.slice oo on_ oc) j hj)
  have FX6:=Lib.hid (show Box _ _ _ _ from (setB_heap w1 (w.heap.size) (.int .i64 me) (.slice no nn nc) (.slice ao an ac) (.slice so sn sc) (.slice ea en2 ec2) (.slice oo on_ oc) (w.heap.size+1+1) (by omega)).trans X6_5.out)
  have HB:=Lib.hid (brin_keep (s1:=(no,nn,nc)) (s2:=(ao,an,ac)) (s3:=(so,sn,sc)) (s4:=(eo,en,ec)) (s5:=(oo,on_,oc)) hbr X3_5.out HKs.out (by rw [dropB_near2 b (c,d) (c2,d2) f]; exact HNR.out.on B2.out))
  have HO:=Lib.hid (outs_keep (s1:=(no,nn,nc)) (s2:=(ao,an,ac)) (s3:=(so,sn,sc)) (s4:=(eo,en,ec)) (s5:=(oo,on_,oc)) hou X3_5.out HKs.out)
  clear hbr hou hb GB_5 X3_5 X6_5
  go_upto_region 14 with fail
  clear zz HKs k0 k1 k2 k3 k4 k5 kf0 kf1 kf2 kf3 kf4 kf5
  unfold setB at FB B2 HB FX6 HO
  generalize ((((((w1.setCell ⟨w.heap.size,0,none⟩ (.int .i64 me)).setCell ⟨w.heap.size,1,none⟩ (.slice no nn nc)).setCell ⟨w.heap.size,2,none⟩ (.slice ao an ac)).setCell ⟨w.heap.size,3,none⟩ (.slice so sn sc)).setCell ⟨w.heap.size,4,none⟩ (.slice ea en2 ec2)).setCell ⟨w.heap.size,5,none⟩ (.slice oo on_ oc))=w2 at *
  have GB_6:=Lib.hid (B2.out)
  have X3_7:=Lib.hid (FB.out)
  have X6_8:=Lib.hid (FX6.out)
  clear B2 FB FX6
  obtain⟨x0,x1,x2,x3,x4,x5⟩:=X3_7.out.cs6
  obtain⟨r0,r1,r2,r3,r4,r5⟩:=X6_8.out.cs6
  obtain⟨rf0,rf1,rf2,rf3,rf4,rf5⟩:=X6_8.out.fs6
  have zz:=X6_8.out.lt
  have GG:=Lib.hid (setB_box X6_8.out (.int .i64 me) (.slice no nn nc) (.slice ao an ac) (.slice so sn sc) (.slice ea en2 ec2) (.slice oo on_ oc))
  have BL:=Lib.hid (setB_below (b:=w.heap.size+1+1) GB_6.out (by omega) (.int .i64 me) (.slice no nn nc) (.slice ao an ac) (.slice so sn sc) (.slice ea en2 ec2) (.slice oo on_ oc))
  have HK:=Lib.hid (fun j (_:j<w2.heap.size) (hj:j≠w.heap.size+1+1)=>setB_heap w2 (w.heap.size+1+1) (.int .i64 me) (.slice no nn nc) (.slice ao an ac) (.slice so sn sc) (.slice ea en2 ec2) (.slice oo on_ oc) j hj)
  have HC:=Lib.hid (brin_keep (s1:=(none,0,0)) (s2:=(none,0,0)) (s3:=(none,0,0)) (s4:=(none,0,0)) (s5:=(none,0,0)) HB.out X6_8.out HK.out (by rw [dropB_near2 b (c,d) (c2,d2) f]; exact HNR.out.on BL.out))
  have HO2:=Lib.hid (outs_keep (s1:=(none,0,0)) (s2:=(none,0,0)) (s3:=(none,0,0)) (s4:=(none,0,0)) (s5:=(none,0,0)) HO.out X6_8.out HK.out)
  go_wp2_with fail
  obtain⟨v0,v1,v2,v3,v4,v5⟩:=GG.out.cs6
  refine bodyPost_ret (v:=.tuple #[.agg #[.int .i64 me,.slice no nn nc,.slice ao an ac,.slice so sn sc,.slice ea en2 ec2,.slice oo on_ oc],.slice la ln lc,.slice none 0 0]) (by simp [results,Tryz.results35,go_sem,v0,v1,v2,v3,v4,v5]) rfl ?_
  exact⟨⟨(ao,an,ac),(so,sn,sc),(ea,en2,ec2),(la,ln,lc),rfl,HC.out,HO2.out⟩,BL.out⟩
end Go.Proofs.YtncogjpmboglhaaGreat.Bk
