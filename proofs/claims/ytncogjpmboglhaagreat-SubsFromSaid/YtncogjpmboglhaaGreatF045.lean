/-
  Advertise of broadsi. Conditions as told.
-/
import Derived.Test.YtncogjpmboglhaaGreatF044
set_option maxRecDepth 100000
set_option maxHeartbeats 64000000
namespace Go.Proofs.YtncogjpmboglhaaGreat.Bk
open Go.RowKit Go.Sort Rw YtncogjpmboglhaaGreat.Nm Pr
open Av
theorem radv_any (b:Br) (nv av sv ev ov:Sl) (f:Int) (x:Id) (pv:Sl) (p:List C5) (w:World) (h:BrIn w b nv av sv ev ov) (hp:RowC w (slv pv) p) (l0:b.near.length≤900) (l1:b.seen.length≤899) (l2:b.adv.length≤899) (l3:b.ent.length+b.own.length≤900) (hok:∀ e∈b.ent,PredOk e.p) (hoo:∀ o∈b.own,PredOk o.p) (hop:PredOk p) :
  Calls Tryz.prog 34 #[brv b.me nv av sv ev ov,.int .i64 f,idv x,slv pv] w fun e w'=>(∃ av' sv' ev' lo:Sl,e=.returned (.tuple #[brv b.me nv av' sv' ev' ov,slv lo])∧BrIn w' (advB b f x p).1 nv av' sv' ev' ov∧OutsIn w' lo (advB b f x p).2)∧Below w.heap.size w w':=by
 obtain⟨no,nn,nc⟩:=nv
 obtain⟨ao,an,ac⟩:=av
 obtain⟨so,sn,sc⟩:=sv
 obtain⟨eo,en,ec⟩:=ev
 obtain⟨oo,on_,oc⟩:=ov
 obtain⟨c,d⟩:=x
 obtain⟨po,pn,pc⟩:=pv
 have LE:=Lib.hid (fun W hb'=>rlearn_any b (no,nn,nc) (ao,an,ac) (so,sn,sc) (eo,en,ec) (oo,on_,oc) (c,d,(po,pn,pc),f) ⟨(c,d),p,f⟩ W (h.on (show Below w.heap.size w W from hb')) ⟨rfl,rfl,hp.on hb'⟩ (by omega) (by omega))
 have HNR:=Lib.hid h.near
 have HP:=Lib.hid hp
 have L0:=Lib.hid l0
 have L2:=Lib.hid (show b.adv.length≤899 from l2)
 have L3:=Lib.hid l3
 have OK:=Lib.hid hok
 have OO:=Lib.hid hoo
 have OP:=Lib.hid hop
 obtain⟨h0,h1,h2,h3⟩:=three_new w #[.int .i64 b.me,.slice no nn nc,.slice ao an ac,.slice so sn sc,.slice eo en ec,.slice oo on_ oc] #[.int .i64 c,.int .i64 d] #[.int .i64 0,.slice none 0 0,.slice none 0 0,.slice none 0 0,.slice none 0 0,.slice none 0 0] 31 38 31
 obtain⟨me,hme⟩:∃ me,me=b.me:=⟨_,rfl⟩
 simp only [← hme] at h0 h1 h2 h3 LE ⊢
 have GB_1:=Lib.hid (h0)
 have X4_2:=Lib.hid (h1)
 have X6_3:=Lib.hid (h2)
 have X8_4:=Lib.hid (h3)
 have ME:=Lib.hid hme
 clear h0 h1 h2 h3 h l0 l1 l2 l3 hme hok hoo hop hp
 show Calls Tryz.prog 34 #[.agg #[.int .i64 me,.slice no nn nc,.slice ao an ac,.slice so sn sc,.slice eo en ec,.slice oo on_ oc],.int .i64 f,.agg #[.int .i64 c,.int .i64 d],.slice po pn pc] w _
 go_enter Tryz.func34,Tryz.ntmps34
 go_upto_region 1 with fail
 generalize (((w.alloc (.cells #[.int .i64 me,.slice no nn nc,.slice ao an ac,.slice so sn sc,.slice eo en ec,.slice oo on_ oc] 31)).alloc (.cells #[.int .i64 c,.int .i64 d] 38)).alloc (.cells #[.int .i64 0,.slice none 0 0,.slice none 0 0,.slice none 0 0,.slice none 0 0,.slice none 0 0] 31))=W at *
 have SW:=Lib.hid (LE.out W GB_1.out)
 clear LE
 obtain⟨x0,x1,x2,x3,x4,x5⟩:=X4_2.out.cs6
 obtain⟨y0,y1⟩:=X6_3.out.cs2
 go_wp2_with fail
 refine SW.out.mono ?_
 rintro e1 w1 ⟨⟨⟨aa,an2,ac2⟩,⟨sa,sn2,sc2⟩,rfl,hbr⟩,hb⟩
 clear SW
 clear x0 x1 x2 x3 x4 x5 y0 y1
 have GB_5:=Lib.hid (GB_1.out.trans (hb.mono GB_1.out.size))
 have X4_5:=Lib.hid (X4_2.out.on hb)
 have X6_5:=Lib.hid (X6_3.out.on hb)
 have X8_5:=Lib.hid (X8_4.out.on hb)
 clear GB_1 X4_2 X6_3 X8_4
 obtain⟨fb,hfb⟩:∃ r,(learnB b ⟨(c,d),p,f⟩).2=r:=⟨_,rfl⟩
 have LB:=Lib.hid hfb
 rw [hfb]
 obtain⟨k0,k1,k2,k3,k4,k5⟩:=X4_5.out.cs6
 obtain⟨kf0,kf1,kf2,kf3,kf4,kf5⟩:=X4_5.out.fs6
 have zz:=X4_5.out.lt
 have FB:=Lib.hid (setB_box X4_5.out (.int .i64 me) (.slice no nn nc) (.slice aa an2 ac2) (.slice sa sn2 sc2) (.slice eo en ec) (.slice oo on_ oc))
 have B2:=Lib.hid (setB_below (b:=w.heap.size) GB_5.out (Nat.le_refl _) (.int .i64 me) (.slice no nn nc) (.slice aa an2 ac2) (.slice sa sn2 sc2) (.slice eo en ec) (.slice oo on_ oc))
 have HKs:=Lib.hid (fun j (_:j<w1.heap.size) (hj:j≠w.heap.size)=>setB_heap w1 (w.heap.size) (.int .i64 me) (.slice no nn nc) (.slice aa an2 ac2) (.slice sa sn2 sc2) (.slice eo en ec) (.slice oo on_ oc) j hj)
 have FX6:=Lib.hid (show Box _ _ _ _ from (setB_heap w1 (w.heap.size) (.int .i64 me) (.slice no nn nc) (.slice aa an2 ac2) (.slice sa sn2 sc2) (.slice eo en ec) (.slice oo on_ oc) (w.heap.size+1) (by omega)).trans X6_5.out)
 have FX8:=Lib.hid (show Box _ _ _ _ from (setB_heap w1 (w.heap.size) (.int .i64 me) (.slice no nn nc) (.slice aa an2 ac2) (.slice sa sn2 sc2) (.slice eo en ec) (.slice oo on_ oc) (w.heap.size+1+1) (by omega)).trans X8_5.out)
 have HB:=Lib.hid (brin_keep (s1:=(no,nn,nc)) (s2:=(ao,an,ac)) (s3:=(so,sn,sc)) (s4:=(eo,en,ec)) (s5:=(oo,on_,oc)) hbr X4_5.out HKs.out (by rw [(learn_same b ⟨(c,d),p,f⟩).2.1]; exact HNR.out.on B2.out))
 clear hfb hbr hb GB_5 X4_5 X6_5 X8_5
 go_upto_region 2 with fail
 clear zz HKs k0 k1 k2 k3 k4 k5 kf0 kf1 kf2 kf3 kf4 kf5
 unfold setB at FB B2 HB FX6 FX8
 generalize ((((((w1.setCell ⟨w.heap.size,0,none⟩ (.int .i64 me)).setCell ⟨w.heap.size,1,none⟩ (.slice no nn nc)).setCell ⟨w.heap.size,2,none⟩ (.slice aa an2 ac2)).setCell ⟨w.heap.size,3,none⟩ (.slice sa sn2 sc2)).setCell ⟨w.heap.size,4,none⟩ (.slice eo en ec)).setCell ⟨w.heap.size,5,none⟩ (.slice oo on_ oc))=w2 at *
 have GB_6:=Lib.hid (B2.out)
 have X4_7:=Lib.hid (FB.out)
 have X6_8:=Lib.hid (FX6.out)
 have X8_9:=Lib.hid (FX8.out)
 clear B2 FB FX6 FX8
 cases fb
 ·have x0:=X4_7.out.cell 0
  have x1:=X4_7.out.cell 1
  have x2:=X4_7.out.cell 2
  have x3:=X4_7.out.cell 3
  have x4:=X4_7.out.cell 4
  have x5:=X4_7.out.cell 5
  simp only [List.getElem?_toArray,List.getElem?_cons_zero,List.getElem?_cons_succ] at x0 x1 x2 x3 x4 x5
  obtain⟨r0,r1,r2,r3,r4,r5⟩:=X8_9.out.cs6
  obtain⟨rf0,rf1,rf2,rf3,rf4,rf5⟩:=X8_9.out.fs6
  have zz:=X8_9.out.lt
  have GG:=Lib.hid (setB_box X8_9.out (.int .i64 me) (.slice no nn nc) (.slice aa an2 ac2) (.slice sa sn2 sc2) (.slice eo en ec) (.slice oo on_ oc))
  have BL:=Lib.hid (setB_below (b:=w.heap.size+1+1) GB_6.out (by omega) (.int .i64 me) (.slice no nn nc) (.slice aa an2 ac2) (.slice sa sn2 sc2) (.slice eo en ec) (.slice oo on_ oc))
  have HK:=Lib.hid (fun j (_:j<w2.heap.size) (hj:j≠w.heap.size+1+1)=>setB_heap w2 (w.heap.size+1+1) (.int .i64 me) (.slice no nn nc) (.slice aa an2 ac2) (.slice sa sn2 sc2) (.slice eo en ec) (.slice oo on_ oc) j hj)
  have HC:=Lib.hid (brin_keep (s1:=(none,0,0)) (s2:=(none,0,0)) (s3:=(none,0,0)) (s4:=(none,0,0)) (s5:=(none,0,0)) HB.out X8_9.out HK.out (by rw [(learn_same b ⟨(c,d),p,f⟩).2.1]; exact HNR.out.on BL.out))
  go_wp2_with fail
  obtain⟨v0,v1,v2,v3,v4,v5⟩:=GG.out.cs6
  refine bodyPost_ret (v:=.tuple #[.agg #[.int .i64 me,.slice no nn nc,.slice aa an2 ac2,.slice sa sn2 sc2,.slice eo en ec,.slice oo on_ oc],.slice none 0 0]) (by simp [results,Tryz.results34,go_sem,v0,v1,v2,v3,v4,v5]) rfl ?_
  have hd:advB b f (c,d) p=((learnB b ⟨(c,d),p,f⟩).1,[]):=by unfold advB; rw [if_pos LB.out]
  rw [hd]
  exact⟨⟨(aa,an2,ac2),(sa,sn2,sc2),(eo,en,ec),(none,0,0),rfl,HC.out,outs_nil _⟩,BL.out⟩
 ·have DB:=Lib.hid (show advB b f (c,d) p=foldK (learnB b ⟨(c,d),p,f⟩).1.own (advF f (c,d) p) ((learnB b ⟨(c,d),p,f⟩).1,othersO b.near f 1 (c,d) (0,0) p) (learnB b ⟨(c,d),p,f⟩).1.own.length from by unfold advB; rw [if_neg (by rw [LB.out]; simp)])
  obtain⟨m1,m2,m3,m4⟩:=learn_same b ⟨(c,d),p,f⟩
  have m5:=(learn_len b ⟨(c,d),p,f⟩).1
  have NR:=Lib.hid m2
  have EN3:=Lib.hid m3
  have ON:=Lib.hid m4
  have AL:=Lib.hid (show (learnB b ⟨(c,d),p,f⟩).1.adv.length≤900 from Nat.le_trans m5 (by have:=L2.out; omega))
  have M1:=Lib.hid m1
  clear m1 m2 m3 m4 m5
  generalize (learnB b ⟨(c,d),p,f⟩).1=b1 at *
  have LO3:=Lib.hid (show b1.ent.length+b1.own.length≤900 from by rw [EN3.out,ON.out]; exact L3.out)
  have OK1:=Lib.hid (show ∀ e∈b1.ent,PredOk e.p from by rw [EN3.out]; exact OK.out)
  have OO1:=Lib.hid (show ∀ o∈b1.own,PredOk o.p from by rw [ON.out]; exact OO.out)
  have HN1:=Lib.hid (show ∀ W,Below w.heap.size w W→RowI W (.slice no nn nc) b1.near from fun W hb=>by rw [NR.out]; exact HNR.out.on hb)
  have FO:=Lib.hid (show ∀ k,k≤b1.own.length→AdI b1 (foldK b1.own (advF f (c,d) p) (b1,othersO b.near f 1 (c,d) (0,0) p) k).1 k∧(∀ q∈(foldK b1.own (advF f (c,d) p) (b1,othersO b.near f 1 (c,d) (0,0) p) k).1.ent,PredOk q.p)∧(foldK b1.own (advF f (c,d) p) (b1,othersO b.near f 1 (c,d) (0,0) p) k).2.length≤(othersO b.near f 1 (c,d) (0,0) p).length+k from fun k hk=>foldK_ok (l:=b1.own) (b0:=b1) (o0:=othersO b.near f 1 (c,d) (0,0) p) (fun o=>meetsC o.p p) (fun o=>advE (c,d) o) (fun _=>f) (fun e=>PredOk e.p) OK1.out (fun a ha _=>OO1.out a ha) k hk)
  obtain⟨ws,hw1,hw2⟩:=HB.out.own
  obtain⟨q1,q2,hq⟩:=hw1.len
  obtain⟨rfl,rfl,rfl⟩:oo=q1∧on_=ws.length∧oc=q2:=by
   have:Value.slice oo on_ oc=.slice q1 ws.length q2:=hq
   simpa using this
  obtain⟨lx1,hl1,hl2⟩:=HB.out.ent
  obtain⟨n5,hn5⟩:∃ n,n=ws.length:=⟨_,rfl⟩
  simp only [← hn5] at HB hw1 X4_7 ⊢
  have HW1:=Lib.hid hw1
  have HW2:=Lib.hid hw2
  have HL1:=Lib.hid hl1
  have HL2:=Lib.hid hl2
  have N5:=Lib.hid hn5
  have L6:=Lib.hid X6_8.out.lt
  have L8:=Lib.hid X8_9.out.lt
  have B4:=Lib.hid (show Box w2 w.heap.size (brcells me (no,nn,nc) (aa,an2,ac2) (sa,sn2,sc2) (eo,en,ec) (oo,n5,oc)) 31 from X4_7.out)
  have NO:=Lib.hid (show b1.own.length=n5 from by rw [N5.out,HW2.out.len])
  clear hw1 hw2 hl1 hl2 hn5 hq
  have OT:=Lib.hid (others_any me f 1 c d 0 0 (no,nn,nc) (.slice aa an2 ac2) (.slice sa sn2 sc2) (.slice eo en ec) (.slice oo n5 oc) (po,pn,pc) (none,0,0) b.near w2 (HNR.out.on GB_6.out) L0.out)
  obtain⟨x0,x1,x2,x3,x4,x5⟩:=X4_7.out.cs6
  obtain⟨y0,y1⟩:=X6_8.out.cs2
  go_wp2_with fail
  refine OT.out.mono ?_
  rintro e3 w3 ⟨⟨⟨oa,on3,oc3⟩,rfl,ho⟩,hb⟩
  clear OT
  clear x0 x1 x2 x3 x4 x5 y0 y1
  have BK:=Lib.hid (show But w.heap.size w2 w3 from But.of_below hb)
  have OT:=Lib.hid ho
  have PW2:=Lib.hid (HP.out.on GB_6.out)
  have GB_10:=Lib.hid (GB_6.out.trans (hb.mono GB_6.out.size))
  have X4_10:=Lib.hid (X4_7.out.on hb)
  have X6_10:=Lib.hid (X6_8.out.on hb)
  have X8_10:=Lib.hid (X8_9.out.on hb)
  clear GB_6 X4_7 X6_8 X8_9
  clear hb ho
  obtain⟨x0,x1,x2,x3,x4,x5⟩:=X4_10.out.cs6
  go_wp2_with fail
  clear x0 x1 x2 x3 x4 x5
  go_loopw [11,37] (fun v i wr=>∃ (k:Nat) (ea:Option Addr) (en3 ec3:Nat) (lx:List XEn) (lo:List XOu),k≤n5∧i=.int .i64 k∧Below w.heap.size w wr∧But w.heap.size w2 wr∧Box wr w.heap.size #[.int .i64 me,.slice no nn nc,.slice aa an2 ac2,.slice sa sn2 sc2,.slice ea en3 ec3,.slice oo n5 oc] 31∧Box wr (w.heap.size+1) #[.int .i64 c,.int .i64 d] 38∧Box wr (w.heap.size+1+1) #[.int .i64 0,.slice none 0 0,.slice none 0 0,.slice none 0 0,.slice none 0 0,.slice none 0 0] 31∧EntR w2 wr (eo,en,ec) (ea,en3,ec3) lx1 lx∧OwnU wr w2.heap.size v lo∧All2 (EnIn w2) lx (foldK b1.own (advF f (c,d) p) (b1,othersO b.near f 1 (c,d) (0,0) p) k).1.ent∧All2 (OuIn w2) lo (foldK b1.own (advF f (c,d) p) (b1,othersO b.near f 1 (c,d) (0,0) p) k).2) (fun _ i _=>n5-(intOf i).toNat)
  case atStart=>exact⟨0,eo,en,ec,lx1,_,Nat.zero_le _,rfl,GB_10.out,BK.out,X4_10.out,X6_10.out,X8_10.out,Or.inl ⟨rfl,rfl⟩,OT.out,HL2.out,others_in (near:=b.near) (f:=f) (k:=1) (t:=(c,d)) (x:=(0,0)) PW2.out⟩
  case round =>
   clear BK OT GB_10 X4_10 X6_10 X8_10
   obtain⟨k,ea,en3,ec3,lx,lo,hk,rfl,hgb,hbk,hx4,hx6,hx8,her,hoe,hen,hlo⟩:=hrel
   have GB_31:=Lib.hid (hgb)
   have BK_32:=Lib.hid (hbk)
   have X4_33:=Lib.hid (hx4)
   have X6_34:=Lib.hid (hx6)
   have X8_35:=Lib.hid (hx8)
   have ER_36:=Lib.hid (her)
   have OE_37:=Lib.hid (hoe)
   have EN:=Lib.hid hen
   have LO:=Lib.hid hlo
   clear hgb hbk hx4 hx6 hx8 her hoe hen hlo
   have FK:=Lib.hid (FO.out k (by rw [NO.out]; exact hk))
   have l9:n5≤900:=by have h1:=LO3.out; rw [NO.out] at h1; omega
   by_cases hlt:k<n5
   ·have hlt':(k:Int)<(n5:Int):=by omega
    have hw:IntKind.i64.wrap ((k:Int)+1)=(k:Int)+1:=IntWalk.i64_in _ (by omega)
    obtain⟨o,hok_⟩:∃ o,b1.own[k]?=some o:=⟨_,List.getElem?_eq_getElem (by rw [NO.out]; exact hlt)⟩
    have US:=Lib.hid (foldK_succ (advF f (c,d) p) (b1,othersO b.near f 1 (c,d) (0,0) p) hok_)
    have OKO:=Lib.hid (OO1.out o (List.mem_of_getElem? hok_))
    obtain⟨z,hz1,hz2⟩:=HW2.out.at k o hok_
    have RWW:=row_keep okW HW1.out BK_32.out.1 (two_ints B4.out (fun c=>⟨_,_,rfl,rfl⟩) (br_ints me (no,nn,nc) (aa,an2,ac2) (sa,sn2,sc2) (eo,en,ec) (oo,n5,oc)))
    obtain⟨pa,ix,px⟩:=elW RWW rfl N5.out.symm hz1
    obtain⟨p0,p1,p2⟩:=px wr (Below.refl _ _)
    obtain⟨y1,y2,⟨yo,yn,yc⟩⟩:=z
    have ZI:=Lib.hid (show o.id=(y1,y2) from hz2.1.symm)
    have ZP:=Lib.hid (show RowC w2 (.slice yo yn yc) o.p from hz2.2)
    simp only at p0 p1 p2
    clear px hz1 hz2 RWW hok_
    go_upto_region 8 with fail
    clear p0 p1 p2 ix
    have NN:=newB wr (.cells #[.int .i64 y1,.int .i64 y2,.slice yo yn yc] 45)
    have GB_38:=Lib.hid (GB_31.out.trans (NN.mono GB_31.out.size))
    have BK_38:=Lib.hid (Go.Proofs.YtncogjpmboglhaaGreat.Bk.But.below BK_32.out NN)
    have X4_38:=Lib.hid (X4_33.out.on NN)
    have X6_38:=Lib.hid (X6_34.out.on NN)
    have X8_38:=Lib.hid (X8_35.out.on NN)
    have ER_38:=Lib.hid (ER_36.out.on NN)
    have OE_38:=Lib.hid (Bk.own_on OE_37.out NN)
    clear GB_31 BK_32 X4_33 X6_34 X8_35 ER_36 OE_37
    have XO_39:=Lib.hid (box_new wr #[.int .i64 y1,.int .i64 y2,.slice yo yn yc] 45)
    clear NN
    generalize wr.alloc (.cells #[.int .i64 y1,.int .i64 y2,.slice yo yn yc] 45)=wa at *
    obtain⟨mt,hmt⟩:∃ r,meetsC o.p p=r:=⟨_,rfl⟩
    have MT:=Lib.hid (meets_c (.slice yo yn yc) (.slice po pn pc) o.p p wa (mid_pred B4.out BK_38.out ZP.out) (HP.out.on GB_38.out) OKO.out OP.out)
    rw [hmt] at MT
    have US2:=Lib.hid (show (foldK b1.own (advF f (c,d) p) (b1,othersO b.near f 1 (c,d) (0,0) p) (k+1))=addStep (foldK b1.own (advF f (c,d) p) (b1,othersO b.near f 1 (c,d) (0,0) p) k) mt (advE (c,d) o) f from by rw [← hmt]; exact US.out)
    clear hmt US
    obtain⟨z0,z1,z2⟩:=XO_39.out.cs3
    obtain⟨y_0,y_1⟩:=X6_38.out.cs2
    go_wp2_with fail
    refine MT.out.mono ?_
    rintro e4 wb ⟨rfl,hb⟩
    clear MT
    clear z0 z1 z2 y_0 y_1
    have GB_40:=Lib.hid (GB_38.out.trans (hb.mono GB_38.out.size))
    have BK_40:=Lib.hid (Go.Proofs.YtncogjpmboglhaaGreat.Bk.But.below BK_38.out hb)
    have X4_40:=Lib.hid (X4_38.out.on hb)
    have X6_40:=Lib.hid (X6_38.out.on hb)
    have X8_40:=Lib.hid (X8_38.out.on hb)
    have ER_40:=Lib.hid (ER_38.out.on hb)
    have OE_40:=Lib.hid (Bk.own_on OE_38.out hb)
    have XO_40:=Lib.hid (XO_39.out.on hb)
    clear GB_38 BK_38 X4_38 X6_38 X8_38 ER_38 OE_38 XO_39
    clear hb
    cases mt
    ·go_wp2_with fail
     go_roundw
     case rel=>exact⟨k+1,ea,en3,ec3,lx,lo,hlt,by go_num,GB_40.out,BK_40.out,X4_40.out,X6_40.out,X8_40.out,ER_40.out,OE_40.out,by rw [US2.out]; exact EN.out,by rw [US2.out]; exact LO.out⟩
     case measure=>simp [intOf]; omega
    ·have z0:=XO_40.out.cell 0
     have z1:=XO_40.out.cell 1
     have z2:=XO_40.out.cell 2
     simp only [List.getElem?_toArray,List.getElem?_cons_zero,List.getElem?_cons_succ] at z0 z1 z2
     obtain⟨y_0,y_1⟩:=X6_40.out.cs2
     go_upto_region 11 with fail
     clear z0 z1 z2 y_0 y_1
     have NN:=newB wb (.cells #[.int .i64 c,.int .i64 d,.int .i64 y1,.int .i64 y2,.slice yo yn yc,.int .i64 (-1),.bool false] 43)
     have GB_41:=Lib.hid (GB_40.out.trans (NN.mono GB_40.out.size))
     have BK_41:=Lib.hid (Go.Proofs.YtncogjpmboglhaaGreat.Bk.But.below BK_40.out NN)
     have X4_41:=Lib.hid (X4_40.out.on NN)
     have X6_41:=Lib.hid (X6_40.out.on NN)
     have X8_41:=Lib.hid (X8_40.out.on NN)
     have ER_41:=Lib.hid (ER_40.out.on NN)
     have OE_41:=Lib.hid (Bk.own_on OE_40.out NN)
     have XO_41:=Lib.hid (XO_40.out.on NN)
     clear GB_40 BK_40 X4_40 X6_40 X8_40 ER_40 OE_40 XO_40
     have XE_42:=Lib.hid (box_new wb #[.int .i64 c,.int .i64 d,.int .i64 y1,.int .i64 y2,.slice yo yn yc,.int .i64 (-1),.bool false] 43)
     clear NN
     generalize wb.alloc (.cells #[.int .i64 c,.int .i64 d,.int .i64 y1,.int .i64 y2,.slice yo yn yc,.int .i64 (-1),.bool false] 43)=wc at *
     have AD:=Lib.hid (radd2_any (foldK b1.own (advF f (c,d) p) (b1,othersO b.near f 1 (c,d) (0,0) p) k).1 (no,nn,nc) (aa,an2,ac2) (sa,sn2,sc2) (ea,en3,ec3) (oo,n5,oc) (c,d,y1,y2,(yo,yn,yc),-1,false) (advE (c,d) o) wc lx (EnIn w2) (brin_mid B4.out BK_41.out HB.out (HN1.out _ GB_41.out) HL1.out ER_41.out EN.out FK.out.1) (ER_41.out.row B4.out BK_41.out HL1.out) (mid_ents B4.out BK_41.out EN.out) EN.out (fun u=>⟨rfl,ZI.out.symm,rfl,rfl,ZP.out⟩) ⟨rfl,ZI.out.symm,rfl,rfl,mid_pred B4.out BK_41.out ZP.out⟩ (by rw [FK.out.1.adv]; exact AL.out) (by have h1:=FK.out.1.len; have h2:=LO3.out; rw [NO.out] at h2; omega) FK.out.2.1 OKO.out)
     rw [FK.out.1.me,M1.out,← ME.out] at AD
     obtain⟨x0,x1,x2,x3,x4,x5⟩:=X4_41.out.cs6
     obtain⟨z0,z1,z2,z3,z4,z5,z6⟩:=XE_42.out.cs7
     go_wp2_with fail
     refine AD.out.mono ?_
     rintro e5 wd ⟨⟨⟨ea2,en4,ec4⟩,xs,rfl,hr,hx⟩,hb⟩
     clear AD
     clear x0 x1 x2 x3 x4 x5 z0 z1 z2 z3 z4 z5 z6
     have EX:=Lib.hid hx
     have ERD:=Lib.hid (show EntR w2 wd (eo,en,ec) (ea2,en4,ec4) lx1 xs from by
      rcases hr with⟨h1,h2,_⟩|hr
      ·rw [h1,h2]
       exact ER_41.out.on hb
      ·exact Or.inr (own_fewer hr BK_41.out.2))
     clear hr hx
     have GB_43:=Lib.hid (GB_41.out.trans (hb.mono GB_41.out.size))
     have BK_43:=Lib.hid (Go.Proofs.YtncogjpmboglhaaGreat.Bk.But.below BK_41.out hb)
     have X4_43:=Lib.hid (X4_41.out.on hb)
     have X6_43:=Lib.hid (X6_41.out.on hb)
     have X8_43:=Lib.hid (X8_41.out.on hb)
     have ER_43:=Lib.hid (ER_41.out.on hb)
     have OE_43:=Lib.hid (Bk.own_on OE_41.out hb)
     have XO_43:=Lib.hid (XO_41.out.on hb)
     have XE_43:=Lib.hid (XE_42.out.on hb)
     clear GB_41 BK_41 X4_41 X6_41 X8_41 ER_41 OE_41 XO_41 XE_42
     clear hb ER_43
     obtain⟨up,hup⟩:∃ r,(addB (foldK b1.own (advF f (c,d) p) (b1,othersO b.near f 1 (c,d) (0,0) p) k).1 (advE (c,d) o)).2=r:=⟨_,rfl⟩
     rw [hup]
     have US3:=Lib.hid (show (foldK b1.own (advF f (c,d) p) (b1,othersO b.near f 1 (c,d) (0,0) p) (k+1))=((addB (foldK b1.own (advF f (c,d) p) (b1,othersO b.near f 1 (c,d) (0,0) p) k).1 (advE (c,d) o)).1,if up=true then (foldK b1.own (advF f (c,d) p) (b1,othersO b.near f 1 (c,d) (0,0) p) k).2++[subE f (advE (c,d) o)] else (foldK b1.own (advF f (c,d) p) (b1,othersO b.near f 1 (c,d) (0,0) p) k).2) from by rw [US2.out]; unfold addStep; rw [if_neg (by simp),hup])
     clear hup US2
     obtain⟨k0,k1,k2,k3,k4,k5⟩:=X4_43.out.cs6
     obtain⟨kf0,kf1,kf2,kf3,kf4,kf5⟩:=X4_43.out.fs6
     have zz:=X4_43.out.lt
     have NEB:=Lib.hid (show wb.heap.size≠w.heap.size from fun e=>by have h1:=XE_43.out; have h2:=X4_43.out; unfold Box at h1 h2; rw [e] at h1; rw [h1] at h2; injection h2 with h2; injection h2 with h2; simp at h2)
     have G1:=Lib.hid (setB_below (b:=w.heap.size) GB_43.out (Nat.le_refl _) (.int .i64 me) (.slice no nn nc) (.slice aa an2 ac2) (.slice sa sn2 sc2) (.slice ea2 en4 ec4) (.slice oo n5 oc))
     have G2:=Lib.hid (BK_43.out.trans (but_setB wd w.heap.size (.int .i64 me) (.slice no nn nc) (.slice aa an2 ac2) (.slice sa sn2 sc2) (.slice ea2 en4 ec4) (.slice oo n5 oc)))
     have G4:=Lib.hid (setB_box X4_43.out (.int .i64 me) (.slice no nn nc) (.slice aa an2 ac2) (.slice sa sn2 sc2) (.slice ea2 en4 ec4) (.slice oo n5 oc))
     have G6:=Lib.hid (show Box _ _ _ _ from (setB_heap wd w.heap.size (.int .i64 me) (.slice no nn nc) (.slice aa an2 ac2) (.slice sa sn2 sc2) (.slice ea2 en4 ec4) (.slice oo n5 oc) (w.heap.size+1) (by omega)).trans X6_43.out)
     have G8:=Lib.hid (show Box _ _ _ _ from (setB_heap wd w.heap.size (.int .i64 me) (.slice no nn nc) (.slice aa an2 ac2) (.slice sa sn2 sc2) (.slice ea2 en4 ec4) (.slice oo n5 oc) (w.heap.size+1+1) (by omega)).trans X8_43.out)
     have GE:=Lib.hid (show Box _ _ _ _ from (setB_heap wd w.heap.size (.int .i64 me) (.slice no nn nc) (.slice aa an2 ac2) (.slice sa sn2 sc2) (.slice ea2 en4 ec4) (.slice oo n5 oc) wb.heap.size NEB.out).trans XE_43.out)
     have GO:=Lib.hid (setB_ownA OE_43.out w.heap.size B4.out.lt (.int .i64 me) (.slice no nn nc) (.slice aa an2 ac2) (.slice sa sn2 sc2) (.slice ea2 en4 ec4) (.slice oo n5 oc))
     have GR:=Lib.hid (show EntR w2 _ (eo,en,ec) (ea2,en4,ec4) lx1 xs from ERD.out.imp id fun h=>setB_ownA h w.heap.size B4.out.lt (.int .i64 me) (.slice no nn nc) (.slice aa an2 ac2) (.slice sa sn2 sc2) (.slice ea2 en4 ec4) (.slice oo n5 oc))
     clear ERD GB_43 BK_43 X4_43 X6_43 X8_43 XE_43 OE_43 XO_43
     go_upto_region 12 with fail
     clear zz k0 k1 k2 k3 k4 k5 kf0 kf1 kf2 kf3 kf4 kf5
     unfold setB at G1 G2 G4 G6 G8 GE GO GR
     generalize ((((((wd.setCell ⟨w.heap.size,0,none⟩ (.int .i64 me)).setCell ⟨w.heap.size,1,none⟩ (.slice no nn nc)).setCell ⟨w.heap.size,2,none⟩ (.slice aa an2 ac2)).setCell ⟨w.heap.size,3,none⟩ (.slice sa sn2 sc2)).setCell ⟨w.heap.size,4,none⟩ (.slice ea2 en4 ec4)).setCell ⟨w.heap.size,5,none⟩ (.slice oo n5 oc))=we at *
     have GB_44:=Lib.hid (G1.out)
     have BK_45:=Lib.hid (G2.out)
     have X4_46:=Lib.hid (G4.out)
     have X6_47:=Lib.hid (G6.out)
     have X8_48:=Lib.hid (G8.out)
     have XE_49:=Lib.hid (GE.out)
     have OE_50:=Lib.hid (GO.out)
     have ER_51:=Lib.hid (GR.out)
     clear G1 G2 G4 G6 G8 GE GO GR
     cases up
     ·go_wp2_with fail
      go_roundw
      case rel=>exact⟨k+1,ea2,en4,ec4,xs,lo,hlt,by go_num,GB_44.out,BK_45.out,X4_46.out,X6_47.out,X8_48.out,ER_51.out,OE_50.out,by rw [US3.out]; exact EX.out,by rw [US3.out]; exact LO.out⟩
      case measure=>simp [intOf]; omega
     ·have SB:=sub_any (c,d,y1,y2,(yo,yn,yc),-1,false) we
      obtain⟨z0,z1,z2,z3,z4,z5,z6⟩:=XE_49.out.cs7
      go_wp2_with fail
      refine SB.mono ?_
      rintro e6 wf ⟨rfl,hb⟩
      clear SB
      clear z0 z1 z2 z3 z4 z5 z6
      have GB_52:=Lib.hid (GB_44.out.trans (hb.mono GB_44.out.size))
      have BK_52:=Lib.hid (Go.Proofs.YtncogjpmboglhaaGreat.Bk.But.below BK_45.out hb)
      have X4_52:=Lib.hid (X4_46.out.on hb)
      have X6_52:=Lib.hid (X6_47.out.on hb)
      have X8_52:=Lib.hid (X8_48.out.on hb)
      have XE_52:=Lib.hid (XE_49.out.on hb)
      have OE_52:=Lib.hid (Bk.own_on OE_50.out hb)
      have ER_52:=Lib.hid (ER_51.out.on hb)
      clear GB_44 BK_45 X4_46 X6_47 X8_48 XE_49 OE_50 ER_51
      clear hb
      have hl:=row_lit okU wf [((f,3,c,d,y1,y2,(yo,yn,yc),(none,0,0)):XOu)] 1 rfl (by simp) #[.int .i64 f,.int .i64 3,.int .i64 c,.int .i64 d,.int .i64 y1,.int .i64 y2,.slice yo yn yc,.slice none 0 0] (by rfl)
      have NB:=newB wf (.cells #[.int .i64 f,.int .i64 3,.int .i64 c,.int .i64 d,.int .i64 y1,.int .i64 y2,.slice yo yn yc,.slice none 0 0] 141)
      have GB_53:=Lib.hid (GB_52.out.trans (NB.mono GB_52.out.size))
      have BK_53:=Lib.hid (Go.Proofs.YtncogjpmboglhaaGreat.Bk.But.below BK_52.out NB)
      have X4_53:=Lib.hid (X4_52.out.on NB)
      have X6_53:=Lib.hid (X6_52.out.on NB)
      have X8_53:=Lib.hid (X8_52.out.on NB)
      have XE_53:=Lib.hid (XE_52.out.on NB)
      have OE_53:=Lib.hid (Bk.own_on OE_52.out NB)
      have ER_53:=Lib.hid (ER_52.out.on NB)
      clear GB_52 BK_52 X4_52 X6_52 X8_52 XE_52 OE_52 ER_52
      have LL:lo.length≤1000000:=by
       have h1:=FK.out.2.2
       have h2:=L0.out
       have h3:(othersO b.near f 1 (c,d) (0,0) p).length≤b.near.length:=by
        unfold othersO
        rw [List.length_map]
        exact List.length_filter_le _ _
       rw [LO.out.len]
       omega
      obtain⟨v',x5,q2,o2,g2⟩:=app_rowL okU w2.heap.size OE_53.out (Row.of_own hl) LL (by simp) BK_53.out.2 78
      have q2:(Builtin.append_ #[78,78] 78 #[u11,.slice (some ⟨wf.heap.size,0,none⟩) 1 1]).run Tryz.prog (wf.alloc (.cells #[.int .i64 f,.int .i64 3,.int .i64 c,.int .i64 d,.int .i64 y1,.int .i64 y2,.slice yo yn yc,.slice none 0 0] 141))=.ok v' x5:=q2
      obtain⟨m1,m2,m3⟩:=mid_app rfl OE_53.out g2 BK_53.out ER_53.out
      have V4:=Lib.hid (m3 _ _ _ B4.out.lt X4_53.out)
      have V6:=Lib.hid (m3 _ _ _ L6.out X6_53.out)
      have V8:=Lib.hid (m3 _ _ _ L8.out X8_53.out)
      have VG:=Lib.hid (GB_53.out.grown g2 (Nat.le_trans (Nat.le_of_lt B4.out.lt) BK_53.out.2) fun j hj=>Nat.le_trans (Nat.le_of_lt B4.out.lt) (OE_53.out.lt j hj).1)
      have VK:=Lib.hid m1
      have VR:=Lib.hid m2
      have VO:=Lib.hid o2
      clear m1 m2 m3 hl NB o2 g2 LL GB_53 BK_53 X4_53 X6_53 X8_53 ER_53 OE_53 XE_53
      go_wp2_with (first | (at_builtin; refine wpList_append_run rfl _ _ 78 rfl rfl rfl q2 ?_) | fail)
      go_roundw
      case rel=>exact⟨k+1,ea2,en4,ec4,xs,_,hlt,by go_num,VG.out,VK.out,V4.out,V6.out,V8.out,VR.out,VO.out,by rw [US3.out]; exact EX.out,by rw [US3.out]; exact LO.out.append (.cons ⟨rfl,rfl,rfl,ZI.out.symm,ZP.out,rfl⟩ .nil)⟩
      case measure=>simp [intOf]; omega
   ·obtain rfl:k=n5:=by omega
    obtain⟨x0,x1,x2,x3,x4,x5⟩:=X4_33.out.cs6
    have HI:=Lib.hid (brin_mid B4.out BK_32.out HB.out (HN1.out _ GB_31.out) HL1.out ER_36.out EN.out FK.out.1)
    have HU:=Lib.hid (show All2 (OuIn wr) lo _ from mid_outs B4.out BK_32.out LO.out)
    obtain⟨va,vc,hv⟩:=(Row.of_own OE_37.out).len
    obtain⟨vn,hvn⟩:∃ n,n=lo.length:=⟨_,rfl⟩
    rw [← hvn] at hv
    have RU:=Lib.hid (Row.of_own OE_37.out)
    subst hv
    clear hvn
    obtain⟨r0,r1,r2,r3,r4,r5⟩:=X8_35.out.cs6
    obtain⟨rf0,rf1,rf2,rf3,rf4,rf5⟩:=X8_35.out.fs6
    have zz:=X8_35.out.lt
    have GG:=Lib.hid (setB_box X8_35.out (.int .i64 me) (.slice no nn nc) (.slice aa an2 ac2) (.slice sa sn2 sc2) (.slice ea en3 ec3) (.slice oo k oc))
    have BL:=Lib.hid (setB_below (b:=w.heap.size+1+1) GB_31.out (by omega) (.int .i64 me) (.slice no nn nc) (.slice aa an2 ac2) (.slice sa sn2 sc2) (.slice ea en3 ec3) (.slice oo k oc))
    have HK:=Lib.hid (fun j (_:j<wr.heap.size) (hj:j≠w.heap.size+1+1)=>setB_heap wr (w.heap.size+1+1) (.int .i64 me) (.slice no nn nc) (.slice aa an2 ac2) (.slice sa sn2 sc2) (.slice ea en3 ec3) (.slice oo k oc) j hj)
    have HC:=Lib.hid (brin_keep (s1:=(none,0,0)) (s2:=(none,0,0)) (s3:=(none,0,0)) (s4:=(none,0,0)) (s5:=(none,0,0)) HI.out X8_35.out HK.out (by rw [FK.out.1.near]; exact HN1.out _ BL.out))
    have HO:=Lib.hid (outs_keep (s1:=(none,0,0)) (s2:=(none,0,0)) (s3:=(none,0,0)) (s4:=(none,0,0)) (s5:=(none,0,0)) (s:=(va,vn,vc)) ⟨lo,RU.out,HU.out⟩ X8_35.out HK.out)
    go_wp2_with fail
    obtain⟨v0,v1,v2,v3,v4,v5⟩:=GG.out.cs6
    refine bodyPost_ret (v:=.tuple #[.agg #[.int .i64 me,.slice no nn nc,.slice aa an2 ac2,.slice sa sn2 sc2,.slice ea en3 ec3,.slice oo k oc],.slice va vn vc]) (by simp [results,Tryz.results34,go_sem,v0,v1,v2,v3,v4,v5]) rfl ?_
    have NO2:=NO.out
    have h9:=N5.out
    rw [DB.out,NO2]
    subst h9
    exact⟨⟨(aa,an2,ac2),(sa,sn2,sc2),(ea,en3,ec3),(va,vn,vc),rfl,HC.out,HO.out⟩,BL.out⟩
end Go.Proofs.YtncogjpmboglhaaGreat.Bk
