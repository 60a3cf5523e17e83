/-
  Subscribe of broadsi. Conditions as told.
-/
import Derived.Test.YtncogjpmboglhaaGreatF044
import Derived.Test.YtncogjpmboglhaaGreatF024
import Derived.Test.YtncogjpmboglhaaGreatF018
import Derived.Test.YtncogjpmboglhaaGreatF032
set_option maxRecDepth 100000
set_option maxHeartbeats 64000000
namespace Go.Proofs.YtncogjpmboglhaaGreat.Bk
open Go.RowKit Go.Sort Rw YtncogjpmboglhaaGreat.Nm Pr
open Av
theorem ows_eq {W:World} {l:List XOw} {m:List Ow} (h:All2 (OwIn W) l m):(l.map fun y=>(y.1,y.2.1))=m.map Ow.id:=by
 induction h with
 | nil=>rfl
 | cons x t ih=>rw [List.map_cons,List.map_cons,ih]; exact congrArg (·::_) x.1
theorem box_idJ {W:World} {b:Nat} {c d:Int} (h:Box W b #[.int .i64 c,.int .i64 d] 38):∀ x,Below W.heap.size W x→∀ j u,(cellsJ (c,d))[j]?=some u→x.cell? ((⟨b,0,none⟩:Addr).add j)=some u:=fun _ hb=>box_J (h.on hb)
theorem rsubs_any (b:Br) (nv av sv ev ov:Sl) (x:Id) (pv:Sl) (p:List C5) (w:World) (h:BrIn w b nv av sv ev ov) (hp:RowC w (slv pv) p) (l2:b.adv.length≤900) (l3:b.ent.length+b.adv.length≤900) (l4:b.own.length≤899) (hok:∀ e∈b.ent,PredOk e.p) (hoa:∀ a∈b.adv,PredOk a.p) (hop:PredOk p) :
  Calls Tryz.prog 32 #[brv b.me nv av sv ev ov,idv x,slv pv] w fun e w'=>(∃ ev' ov' lo:Sl,e=.returned (.tuple #[brv b.me nv av sv ev' ov',slv lo])∧BrIn w' (subsB b x p).1 nv av sv ev' ov'∧OutsIn w' lo (subsB b x p).2)∧Below w.heap.size w w':=by
 obtain⟨no,nn,nc⟩:=nv
 obtain⟨ao,an,ac⟩:=av
 obtain⟨so,sn,sc⟩:=sv
 obtain⟨eo,en,ec⟩:=ev
 obtain⟨oo,on_,oc⟩:=ov
 obtain⟨c,d⟩:=x
 obtain⟨po,pn,pc⟩:=pv
 obtain⟨ws,hw1,hw2⟩:=h.own
 obtain⟨q1,q2,hq⟩:=hw1.len
 obtain⟨rfl,rfl,rfl⟩:oo=q1∧on_=ws.length∧oc=q2:=by
  have:Value.slice oo on_ oc=.slice q1 ws.length q2:=hq
  simpa using this
 have HH:=Lib.hid h
 have HP:=Lib.hid hp
 have L2:=Lib.hid l2
 have L3:=Lib.hid l3
 have WL:=Lib.hid (show ws.length≤899 from by rw [hw2.len]; exact l4)
 have HW2:=Lib.hid hw2
 have KY:=Lib.hid (ows_eq hw2)
 have OK:=Lib.hid hok
 have OA:=Lib.hid hoa
 have OP:=Lib.hid hop
 obtain⟨on_,hon⟩:∃ n,n=ws.length:=⟨_,rfl⟩
 simp only [← hon] at HH hw1 ⊢
 have N5:=Lib.hid hon
 obtain⟨h0,h1,h2,h3⟩:=three_new w #[.int .i64 b.me,.slice no nn nc,.slice ao an ac,.slice so sn sc,.slice eo en ec,.slice oo on_ oc] #[.int .i64 c,.int .i64 d] #[.int .i64 0,.slice none 0 0,.slice none 0 0,.slice none 0 0,.slice none 0 0,.slice none 0 0] 31 38 31
 obtain⟨me,hme⟩:∃ me,me=b.me:=⟨_,rfl⟩
 simp only [← hme] at h0 h1 h2 h3 ⊢
 have GB_1:=Lib.hid (h0)
 have X3_2:=Lib.hid (h1)
 have X4_3:=Lib.hid (h2)
 have X6_4:=Lib.hid (h3)
 have HW_5:=Lib.hid (hw1.on h0)
 have ME:=Lib.hid hme
 clear h0 h1 h2 h3 h l2 l3 l4 hme hok hoa hop hp hw1 hw2 hq hon
 show Calls Tryz.prog 32 #[.agg #[.int .i64 me,.slice no nn nc,.slice ao an ac,.slice so sn sc,.slice eo en ec,.slice oo on_ oc],.agg #[.int .i64 c,.int .i64 d],.slice po pn pc] w _
 go_enter Tryz.func32,Tryz.ntmps32
 go_upto_region 1 with fail
 generalize (((w.alloc (.cells #[.int .i64 me,.slice no nn nc,.slice ao an ac,.slice so sn sc,.slice eo en ec,.slice oo on_ oc] 31)).alloc (.cells #[.int .i64 c,.int .i64 d] 38)).alloc (.cells #[.int .i64 0,.slice none 0 0,.slice none 0 0,.slice none 0 0,.slice none 0 0,.slice none 0 0] 31))=W at *
 have W4:=Lib.hid (show w.heap.size+3≤W.heap.size from by have:=X6_4.out.lt; omega)
 go_upto_block 0 with (fail)
 refine subs_l0 _ W w.heap.size (w.heap.size+1) me c d _ _ _ _ oo on_ oc ws _ _ _ _ _ _ _ _ _ _ _ _ _ _ _ _ _ _ _ _ _ _ _ _ _ _ _ _ _ _ _ _ _ _ _ _ _ _ _ _ _ _ _ _ _ _ _ _ _ _ _ _ _ _ _ _ _ _ _ _ _ _ _ _ _ _ _ _ _ _ _ _ _ _ _ _ _ _ _ _ _ _ _ _ _ _ _ _ _ _ _ _ _ _ _ _ X3_2.out X4_3.out HW_5.out N5.out (by rw [N5.out]; exact Nat.le_trans WL.out (by decide)) ?_
 intro wr v14 v15 v16 v17 v18 v19 v20 v21 v22 v23 v24 v25 v26 v27 v28 v29 v30 hbe
 have GB_6:=Lib.hid (GB_1.out.trans (hbe.mono GB_1.out.size))
 have X3_6:=Lib.hid (X3_2.out.on hbe)
 have X4_6:=Lib.hid (X4_3.out.on hbe)
 have X6_6:=Lib.hid (X6_4.out.on hbe)
 have HW_6:=Lib.hid (HW_5.out.on hbe)
 clear GB_1 X3_2 X4_3 X6_4 HW_5
 clear hbe
 have PLN:=Lib.hid (show (placeI (ws.map fun y=>(y.1,y.2.1)) (c,d))≤ws.length from by have h1:=place_le (ws.map fun y=>(y.1,y.2.1)) (c,d); rw [List.length_map] at h1; exact h1)
 have PKY:=Lib.hid (show (placeI (ws.map fun y=>(y.1,y.2.1)) (c,d))=placeI (b.own.map Ow.id) (c,d) from by rw [KY.out])
 generalize (placeI (ws.map fun y=>(y.1,y.2.1)) (c,d))=at_ at *
 have a0:=cell_regrown (show wr.cell? ⟨w.heap.size,0,none⟩=some (.int .i64 me) from X3_6.out.cell 0)
 have a1:=cell_regrown (show wr.cell? ⟨w.heap.size,1,none⟩=some (.slice no nn nc) from X3_6.out.cell 1)
 have a2:=cell_regrown (show wr.cell? ⟨w.heap.size,2,none⟩=some (.slice ao an ac) from X3_6.out.cell 2)
 have a3:=cell_regrown (show wr.cell? ⟨w.heap.size,3,none⟩=some (.slice so sn sc) from X3_6.out.cell 3)
 have a4:=cell_regrown (show wr.cell? ⟨w.heap.size,4,none⟩=some (.slice eo en ec) from X3_6.out.cell 4)
 have a5:=cell_regrown (show wr.cell? ⟨w.heap.size,5,none⟩=some (.slice oo on_ oc) from X3_6.out.cell 5)
 have b0:=cell_regrown (show wr.cell? ⟨w.heap.size+1,0,none⟩=some (.int .i64 c) from X4_6.out.cell 0)
 have b1:=cell_regrown (show wr.cell? ⟨w.heap.size+1,1,none⟩=some (.int .i64 d) from X4_6.out.cell 1)
 have on9:on_≤899:=by rw [N5.out]; exact WL.out
 rcases hin:decide (at_<on_) with _|_
 ·have hin2:¬ at_<on_:=of_decide_eq_false hin
  have he:at_=on_:=by have:=PLN.out; rw [← N5.out] at this; omega
  have NF:=Lib.hid (show ¬ (b.own[placeI (b.own.map Ow.id) (c,d)]?).map Ow.id=some (c,d) from by
   rw [← PKY.out,List.getElem?_eq_none (by rw [← HW2.out.len,← N5.out]; omega)]
   simp)
  have dlt:decide ((at_:Int)<(on_:Int))=false:=decide_eq_false (by omega)
  clear hin2 he
  go_upto_region 4 with fail
  refine wp_region_quiet_below (by kernel_rfl) (by kernel_rfl) ?_
  repeat (go_big_quiet_step (fail))
  refine wpQuiet_nil ?_
  intro _ hw'
  obtain⟨⟨dq,osq⟩,hw''⟩:=hw'
  subst hw''
  have Z6:=below_regrown wr dq osq
  have GB_7:=Lib.hid (GB_6.out.trans (Z6.mono GB_6.out.size))
  have X3_7:=Lib.hid (X3_6.out.on Z6)
  have X4_7:=Lib.hid (X4_6.out.on Z6)
  have X6_7:=Lib.hid (X6_6.out.on Z6)
  have HW_7:=Lib.hid (HW_6.out.on Z6)
  clear GB_6 X3_6 X4_6 X6_6 HW_6
  clear Z6 a0 a1 a2 a3 a4 a5 b0 b1
  generalize grow (redrawn wr dq) osq=wx at *
  clear dlt hin
  have DB:=Lib.hid (show subsB b (c,d) p=foldK b.adv (subF (c,d) p) (ownIn b (c,d) p,[]) b.adv.length from by unfold subsB; rw [if_neg NF.out])
  have PL2:at_≤ws.length:=PLN.out
  go_upto_region 6 with fail
  refine subs6 _ wx w.heap.size (w.heap.size+1) me _ _ _ _ oo on_ oc at_ ws ((c,d,(po,pn,pc)):XOw) _ _ _ _ _ _ _ _ _ _ _ _ _ _ _ _ _ _ _ _ _ _ _ _ _ _ _ _ _ _ _ _ _ _ _ _ _ _ _ _ _ _ _ _ _ _ _ _ _ _ _ _ _ _ _ _ _ _ _ _ _ _ _ _ _ _ _ _ _ _ _ _ _ _ _ _ _ _ _ _ _ _ _ _ _ _ _ _ _ _ _ _ _ _ _ X3_7.out (box_idJ X4_7.out) HW_7.out PL2 (Nat.le_trans WL.out (by decide)) ?_
  intro w2 v47 v48 v49 v50 v51 v52 v53 v54 v55 v56 v57 v58 v59 v60 v61 v62 v63 hbx ho hbl hoth hblk
  obtain⟨oa,on3,hov⟩:=(Row.of_own ho).len
  obtain⟨on2,hon2⟩:∃ n,n=(ws.take at_++[((c,d,(po,pn,pc)):XOw)]++ws.drop at_).length:=⟨_,rfl⟩
  rw [← hon2] at hov
  subst hov
  clear hon2 PL2
  have G2:=Lib.hid (GB_7.out.trans (hbl _ (Nat.le_refl _)))
  have Y3:=Lib.hid hbx
  have Y4:=Lib.hid (hoth _ _ _ (by omega) X4_7.out)
  have Y6:=Lib.hid (hoth _ _ _ (by omega) X6_7.out)
  have HB:=Lib.hid (show BrIn w2 (ownIn b (c,d) p) (no,nn,nc) (ao,an,ac) (so,sn,sc) (eo,en,ec) (oa,on2,on3) from by
   have hI:=HH.out.on G2.out
   refine⟨hI.near,hI.adv,hI.seen,hI.ent,⟨_,Row.of_own ho,?_⟩⟩
   have hW:=HW2.out.mono fun _ _ h=>OwIn.on h G2.out
   show All2 _ _ (insAt b.own (placeI (b.own.map Ow.id) (c,d)) ⟨(c,d),p⟩)
   rw [← PKY.out]
   exact ((hW.take _).append (.cons ⟨rfl,HP.out.on G2.out⟩ .nil)).append (hW.drop _))
  clear hbx ho hbl hoth hblk GB_7 X3_7 X4_7 X6_7 HW_7
  have GB_8:=Lib.hid (G2.out)
  have X3_9:=Lib.hid (Y3.out)
  have X4_10:=Lib.hid (Y4.out)
  have X6_11:=Lib.hid (Y6.out)
  clear G2 Y3 Y4 Y6
  have FO:=Lib.hid (show ∀ k,k≤b.adv.length→AdI (ownIn b (c,d) p) (foldK b.adv (subF (c,d) p) (ownIn b (c,d) p,[]) k).1 k∧(∀ q∈(foldK b.adv (subF (c,d) p) (ownIn b (c,d) p,[]) k).1.ent,PredOk q.p)∧(foldK b.adv (subF (c,d) p) (ownIn b (c,d) p,[]) k).2.length≤([]:List Ou).length+k from fun k hk=>foldK_ok (l:=b.adv) (b0:=ownIn b (c,d) p) (o0:=[]) (fun a=>meetsC p a.p) (fun a=>subE' (c,d) p a) (fun a=>a.par) (fun e=>PredOk e.p) OK.out (fun _ _ _=>OP.out) k hk)
  obtain⟨ad,hd1,hd2⟩:=HB.out.adv
  obtain⟨q1,q2,hq⟩:=hd1.len
  obtain⟨rfl,rfl,rfl⟩:ao=q1∧an=ad.length∧ac=q2:=by
   have:Value.slice ao an ac=.slice q1 ad.length q2:=hq
   simpa using this
  obtain⟨lx1,hl1,hl2⟩:=HB.out.ent
  obtain⟨n2,hn2⟩:∃ n,n=ad.length:=⟨_,rfl⟩
  simp only [← hn2] at HB hd1 X3_9 ⊢
  have HD1:=Lib.hid hd1
  have HD2:=Lib.hid (show All2 (AdIn w2) ad b.adv from hd2)
  have HL1:=Lib.hid hl1
  have HL2:=Lib.hid hl2
  have N2:=Lib.hid hn2
  have B4:=Lib.hid (show Box w2 w.heap.size (brcells me (no,nn,nc) (ao,n2,ac) (so,sn,sc) (eo,en,ec) (oa,on2,on3)) 31 from X3_9.out)
  have L4:=Lib.hid X4_10.out.lt
  have L6:=Lib.hid X6_11.out.lt
  have NO:=Lib.hid (show b.adv.length=n2 from by rw [N2.out,HD2.out.len])
  clear hd1 hd2 hl1 hl2 hn2 hq
  have HN1:=Lib.hid (show ∀ W,Below w.heap.size w W→RowI W (.slice no nn nc) (ownIn b (c,d) p).near from fun W hb=>HH.out.near.on hb)
  have PW2:=Lib.hid (HP.out.on GB_8.out)
  obtain⟨x0,x1,x2,x3,x4,x5⟩:=X3_9.out.cs6
  go_wp2_with fail
  clear x0 x1 x2 x3 x4 x5
  go_loopw [9,67] (fun v i wr=>∃ (k:Nat) (ea:Option Addr) (en3 ec3:Nat) (lx:List XEn) (lo:List XOu),k≤n2∧i=.int .i64 k∧Below w.heap.size w wr∧But w.heap.size w2 wr∧Box wr w.heap.size #[.int .i64 me,.slice no nn nc,.slice ao n2 ac,.slice so sn sc,.slice ea en3 ec3,.slice oa on2 on3] 31∧Box wr (w.heap.size+1) #[.int .i64 c,.int .i64 d] 38∧Box wr (w.heap.size+1+1) #[.int .i64 0,.slice none 0 0,.slice none 0 0,.slice none 0 0,.slice none 0 0,.slice none 0 0] 31∧EntR w2 wr (eo,en,ec) (ea,en3,ec3) lx1 lx∧OwnU wr w2.heap.size v lo∧All2 (EnIn w2) lx (foldK b.adv (subF (c,d) p) (ownIn b (c,d) p,[]) k).1.ent∧All2 (OuIn w2) lo (foldK b.adv (subF (c,d) p) (ownIn b (c,d) p,[]) k).2) (fun _ i _=>n2-(intOf i).toNat)
  case atStart=>exact⟨0,eo,en,ec,lx1,[],Nat.zero_le _,rfl,GB_8.out,But.of_below (Below.refl _ _),X3_9.out,X4_10.out,X6_11.out,Or.inl ⟨rfl,rfl⟩,own_nil _ _,HL2.out,.nil⟩
  case round =>
   clear GB_8 X3_9 X4_10 X6_11
   obtain⟨k,ea,en3,ec3,lx,lo,hk,rfl,hgb,hbk,hx4,hx6,hx8,her,hoe,hen,hlo⟩:=hrel
   have GB_32:=Lib.hid (hgb)
   have BK_33:=Lib.hid (hbk)
   have X3_34:=Lib.hid (hx4)
   have X4_35:=Lib.hid (hx6)
   have X6_36:=Lib.hid (hx8)
   have ER_37:=Lib.hid (her)
   have OE_38:=Lib.hid (hoe)
   have EN:=Lib.hid hen
   have LO:=Lib.hid hlo
   clear hgb hbk hx4 hx6 hx8 her hoe hen hlo
   have FK:=Lib.hid (FO.out k (by rw [NO.out]; exact hk))
   have l9:n2≤900:=by have h1:=L2.out; rw [NO.out] at h1; exact h1
   by_cases hlt:k<n2
   ·have hlt':(k:Int)<(n2:Int):=by omega
    have hw:IntKind.i64.wrap ((k:Int)+1)=(k:Int)+1:=IntWalk.i64_in _ (by omega)
    obtain⟨a,hak⟩:∃ a,b.adv[k]?=some a:=⟨_,List.getElem?_eq_getElem (by rw [NO.out]; exact hlt)⟩
    have US:=Lib.hid (foldK_succ (subF (c,d) p) (ownIn b (c,d) p,[]) hak)
    have OKO:=Lib.hid (OA.out a (List.mem_of_getElem? hak))
    obtain⟨z,hz1,hz2⟩:=HD2.out.at k a hak
    have RWW:=row_keep okD HD1.out BK_33.out.1 (two_ints B4.out (fun c=>⟨_,_,rfl,rfl⟩) (br_ints me (no,nn,nc) (ao,n2,ac) (so,sn,sc) (eo,en,ec) (oa,on2,on3)))
    obtain⟨pa,ix,px⟩:=elD RWW rfl N2.out.symm hz1
    obtain⟨p0,p1,p2,p3⟩:=px wr (Below.refl _ _)
    obtain⟨z1,z2,⟨z3,z4,z5⟩,z6⟩:=z
    have ZI:=Lib.hid (show a.id=(z1,z2) from hz2.1.symm)
    have ZQ:=Lib.hid (show a.par=z6 from hz2.2.1.symm)
    have ZP:=Lib.hid (show RowC w2 (.slice z3 z4 z5) a.p from hz2.2.2)
    simp only at p0 p1 p2 p3
    clear px hz1 hz2 RWW hak
    go_upto_region 11 with fail
    clear p0 p1 p2 p3 ix
    have NN:=newB wr (.cells #[.int .i64 z1,.int .i64 z2,.slice z3 z4 z5,.int .i64 z6] 41)
    have GB_39:=Lib.hid (GB_32.out.trans (NN.mono GB_32.out.size))
    have BK_39:=Lib.hid (Go.Proofs.YtncogjpmboglhaaGreat.Bk.But.below BK_33.out NN)
    have X3_39:=Lib.hid (X3_34.out.on NN)
    have X4_39:=Lib.hid (X4_35.out.on NN)
    have X6_39:=Lib.hid (X6_36.out.on NN)
    have ER_39:=Lib.hid (ER_37.out.on NN)
    have OE_39:=Lib.hid (Bk.own_on OE_38.out NN)
    clear GB_32 BK_33 X3_34 X4_35 X6_36 ER_37 OE_38
    have XO_40:=Lib.hid (box_new wr #[.int .i64 z1,.int .i64 z2,.slice z3 z4 z5,.int .i64 z6] 41)
    clear NN
    generalize wr.alloc (.cells #[.int .i64 z1,.int .i64 z2,.slice z3 z4 z5,.int .i64 z6] 41)=wa at *
    obtain⟨mt,hmt⟩:∃ r,meetsC p a.p=r:=⟨_,rfl⟩
    have MT:=Lib.hid (meets_c (.slice po pn pc) (.slice z3 z4 z5) p a.p wa (HP.out.on GB_39.out) (mid_pred B4.out BK_39.out ZP.out) OP.out OKO.out)
    rw [hmt] at MT
    have US2:=Lib.hid (show (foldK b.adv (subF (c,d) p) (ownIn b (c,d) p,[]) (k+1))=addStep (foldK b.adv (subF (c,d) p) (ownIn b (c,d) p,[]) k) mt (subE' (c,d) p a) a.par from by rw [← hmt]; exact US.out)
    clear hmt US
    obtain⟨z0,z1,z2,z3⟩:=XO_40.out.cs4
    go_wp2_with fail
    refine MT.out.mono ?_
    rintro e4 wb ⟨rfl,hb⟩
    clear MT
    clear z0 z1 z2 z3
    have GB_41:=Lib.hid (GB_39.out.trans (hb.mono GB_39.out.size))
    have BK_41:=Lib.hid (Go.Proofs.YtncogjpmboglhaaGreat.Bk.But.below BK_39.out hb)
    have X3_41:=Lib.hid (X3_39.out.on hb)
    have X4_41:=Lib.hid (X4_39.out.on hb)
    have X6_41:=Lib.hid (X6_39.out.on hb)
    have ER_41:=Lib.hid (ER_39.out.on hb)
    have OE_41:=Lib.hid (Bk.own_on OE_39.out hb)
    have XO_41:=Lib.hid (XO_40.out.on hb)
    clear GB_39 BK_39 X3_39 X4_39 X6_39 ER_39 OE_39 XO_40
    clear hb
    cases mt
    ·go_wp2_with fail
     go_roundw
     case rel=>exact⟨k+1,ea,en3,ec3,lx,lo,hlt,by go_num,GB_41.out,BK_41.out,X3_41.out,X4_41.out,X6_41.out,ER_41.out,OE_41.out,by rw [US2.out]; exact EN.out,by rw [US2.out]; exact LO.out⟩
     case measure=>simp [intOf]; omega
    ·have z0:=XO_41.out.cell 0
     have z1:=XO_41.out.cell 1
     have z2:=XO_41.out.cell 2
     have z3:=XO_41.out.cell 3
     simp only [List.getElem?_toArray,List.getElem?_cons_zero,List.getElem?_cons_succ] at z0 z1 z2 z3
     obtain⟨y_0,y_1⟩:=X4_41.out.cs2
     go_upto_region 14 with fail
     clear z0 z1 z2 z3 y_0 y_1
     have NN:=newB wb (.cells #[.int .i64 z1,.int .i64 z2,.int .i64 c,.int .i64 d,.slice po pn pc,.int .i64 (-1),.bool false] 43)
     have GB_42:=Lib.hid (GB_41.out.trans (NN.mono GB_41.out.size))
     have BK_42:=Lib.hid (Go.Proofs.YtncogjpmboglhaaGreat.Bk.But.below BK_41.out NN)
     have X3_42:=Lib.hid (X3_41.out.on NN)
     have X4_42:=Lib.hid (X4_41.out.on NN)
     have X6_42:=Lib.hid (X6_41.out.on NN)
     have ER_42:=Lib.hid (ER_41.out.on NN)
     have OE_42:=Lib.hid (Bk.own_on OE_41.out NN)
     have XO_42:=Lib.hid (XO_41.out.on NN)
     clear GB_41 BK_41 X3_41 X4_41 X6_41 ER_41 OE_41 XO_41
     have XE_43:=Lib.hid (box_new wb #[.int .i64 z1,.int .i64 z2,.int .i64 c,.int .i64 d,.slice po pn pc,.int .i64 (-1),.bool false] 43)
     clear NN
     generalize wb.alloc (.cells #[.int .i64 z1,.int .i64 z2,.int .i64 c,.int .i64 d,.slice po pn pc,.int .i64 (-1),.bool false] 43)=wc at *
     have AD:=Lib.hid (radd2_any (foldK b.adv (subF (c,d) p) (ownIn b (c,d) p,[]) k).1 (no,nn,nc) (ao,n2,ac) (so,sn,sc) (ea,en3,ec3) (oa,on2,on3) (z1,z2,c,d,(po,pn,pc),-1,false) (subE' (c,d) p a) wc lx (EnIn w2) (brin_mid B4.out BK_42.out HB.out (HN1.out _ GB_42.out) HL1.out ER_42.out EN.out FK.out.1) (ER_42.out.row B4.out BK_42.out HL1.out) (mid_ents B4.out BK_42.out EN.out) EN.out (fun u=>⟨ZI.out.symm,rfl,rfl,rfl,PW2.out⟩) ⟨ZI.out.symm,rfl,rfl,rfl,HP.out.on GB_42.out⟩ (by rw [FK.out.1.adv]; exact L2.out) (by have h1:=FK.out.1.len; have h2:=L3.out; rw [NO.out] at h2; have h3:(ownIn b (c,d) p).ent.length=b.ent.length:=rfl; omega) FK.out.2.1 OP.out)
     rw [FK.out.1.me,show (ownIn b (c,d) p).me=b.me from rfl,← ME.out] at AD
     obtain⟨x0,x1,x2,x3,x4,x5⟩:=X3_42.out.cs6
     obtain⟨z0,z1,z2,z3,z4,z5,z6⟩:=XE_43.out.cs7
     go_wp2_with fail
     refine AD.out.mono ?_
     rintro e5 wd ⟨⟨⟨ea2,en4,ec4⟩,xs,rfl,hr,hx⟩,hb⟩
     clear AD
     clear x0 x1 x2 x3 x4 x5 z0 z1 z2 z3 z4 z5 z6
     have EX:=Lib.hid hx
     have ERD:=Lib.hid (show EntR w2 wd (eo,en,ec) (ea2,en4,ec4) lx1 xs from by
      rcases hr with⟨h1,h2,_⟩|hr
      ·rw [h1,h2]
       exact ER_42.out.on hb
      ·exact Or.inr (own_fewer hr BK_42.out.2))
     clear hr hx
     have GB_44:=Lib.hid (GB_42.out.trans (hb.mono GB_42.out.size))
     have BK_44:=Lib.hid (Go.Proofs.YtncogjpmboglhaaGreat.Bk.But.below BK_42.out hb)
     have X3_44:=Lib.hid (X3_42.out.on hb)
     have X4_44:=Lib.hid (X4_42.out.on hb)
     have X6_44:=Lib.hid (X6_42.out.on hb)
     have ER_44:=Lib.hid (ER_42.out.on hb)
     have OE_44:=Lib.hid (Bk.own_on OE_42.out hb)
     have XO_44:=Lib.hid (XO_42.out.on hb)
     have XE_44:=Lib.hid (XE_43.out.on hb)
     clear GB_42 BK_42 X3_42 X4_42 X6_42 ER_42 OE_42 XO_42 XE_43
     clear hb ER_44
     obtain⟨up,hup⟩:∃ r,(addB (foldK b.adv (subF (c,d) p) (ownIn b (c,d) p,[]) k).1 (subE' (c,d) p a)).2=r:=⟨_,rfl⟩
     rw [hup]
     have US3:=Lib.hid (show (foldK b.adv (subF (c,d) p) (ownIn b (c,d) p,[]) (k+1))=((addB (foldK b.adv (subF (c,d) p) (ownIn b (c,d) p,[]) k).1 (subE' (c,d) p a)).1,if up=true then (foldK b.adv (subF (c,d) p) (ownIn b (c,d) p,[]) k).2++[subE a.par (subE' (c,d) p a)] else (foldK b.adv (subF (c,d) p) (ownIn b (c,d) p,[]) k).2) from by rw [US2.out]; unfold addStep; rw [if_neg (by simp),hup])
     clear hup US2
     obtain⟨k0,k1,k2,k3,k4,k5⟩:=X3_44.out.cs6
     obtain⟨kf0,kf1,kf2,kf3,kf4,kf5⟩:=X3_44.out.fs6
     have zz:=X3_44.out.lt
     have NEB:=Lib.hid (show wb.heap.size≠w.heap.size from fun e=>by have h1:=XE_44.out; have h2:=X3_44.out; unfold Box at h1 h2; rw [e] at h1; rw [h1] at h2; injection h2 with h2; injection h2 with h2; simp at h2)
     have NEA:=Lib.hid (show wr.heap.size≠w.heap.size from fun e=>by have h1:=XO_44.out; have h2:=X3_44.out; unfold Box at h1 h2; rw [e] at h1; rw [h1] at h2; injection h2 with h2; injection h2 with h2; simp at h2)
     have G1:=Lib.hid (setB_below (b:=w.heap.size) GB_44.out (Nat.le_refl _) (.int .i64 me) (.slice no nn nc) (.slice ao n2 ac) (.slice so sn sc) (.slice ea2 en4 ec4) (.slice oa on2 on3))
     have G2:=Lib.hid (BK_44.out.trans (but_setB wd w.heap.size (.int .i64 me) (.slice no nn nc) (.slice ao n2 ac) (.slice so sn sc) (.slice ea2 en4 ec4) (.slice oa on2 on3)))
     have G4:=Lib.hid (setB_box X3_44.out (.int .i64 me) (.slice no nn nc) (.slice ao n2 ac) (.slice so sn sc) (.slice ea2 en4 ec4) (.slice oa on2 on3))
     have G6:=Lib.hid (show Box _ _ _ _ from (setB_heap wd w.heap.size (.int .i64 me) (.slice no nn nc) (.slice ao n2 ac) (.slice so sn sc) (.slice ea2 en4 ec4) (.slice oa on2 on3) (w.heap.size+1) (by omega)).trans X4_44.out)
     have G8:=Lib.hid (show Box _ _ _ _ from (setB_heap wd w.heap.size (.int .i64 me) (.slice no nn nc) (.slice ao n2 ac) (.slice so sn sc) (.slice ea2 en4 ec4) (.slice oa on2 on3) (w.heap.size+1+1) (by omega)).trans X6_44.out)
     have GE:=Lib.hid (show Box _ _ _ _ from (setB_heap wd w.heap.size (.int .i64 me) (.slice no nn nc) (.slice ao n2 ac) (.slice so sn sc) (.slice ea2 en4 ec4) (.slice oa on2 on3) wb.heap.size NEB.out).trans XE_44.out)
     have GA:=Lib.hid (show Box _ _ _ _ from (setB_heap wd w.heap.size (.int .i64 me) (.slice no nn nc) (.slice ao n2 ac) (.slice so sn sc) (.slice ea2 en4 ec4) (.slice oa on2 on3) wr.heap.size NEA.out).trans XO_44.out)
     have GO:=Lib.hid (setB_ownA OE_44.out w.heap.size B4.out.lt (.int .i64 me) (.slice no nn nc) (.slice ao n2 ac) (.slice so sn sc) (.slice ea2 en4 ec4) (.slice oa on2 on3))
     have GR:=Lib.hid (show EntR w2 _ (eo,en,ec) (ea2,en4,ec4) lx1 xs from ERD.out.imp id fun h=>setB_ownA h w.heap.size B4.out.lt (.int .i64 me) (.slice no nn nc) (.slice ao n2 ac) (.slice so sn sc) (.slice ea2 en4 ec4) (.slice oa on2 on3))
     clear ERD GB_44 BK_44 X3_44 X4_44 X6_44 XE_44 OE_44 XO_44
     go_upto_region 15 with fail
     clear zz k0 k1 k2 k3 k4 k5 kf0 kf1 kf2 kf3 kf4 kf5
     unfold setB at G1 G2 G4 G6 G8 GE GA GO GR
     generalize ((((((wd.setCell ⟨w.heap.size,0,none⟩ (.int .i64 me)).setCell ⟨w.heap.size,1,none⟩ (.slice no nn nc)).setCell ⟨w.heap.size,2,none⟩ (.slice ao n2 ac)).setCell ⟨w.heap.size,3,none⟩ (.slice so sn sc)).setCell ⟨w.heap.size,4,none⟩ (.slice ea2 en4 ec4)).setCell ⟨w.heap.size,5,none⟩ (.slice oa on2 on3))=we at *
     have GB_45:=Lib.hid (G1.out)
     have BK_46:=Lib.hid (G2.out)
     have X3_47:=Lib.hid (G4.out)
     have X4_48:=Lib.hid (G6.out)
     have X6_49:=Lib.hid (G8.out)
     have XE_50:=Lib.hid (GE.out)
     have XO_51:=Lib.hid (GA.out)
     have OE_52:=Lib.hid (GO.out)
     have ER_53:=Lib.hid (GR.out)
     clear G1 G2 G4 G6 G8 GE GA GO GR
     cases up
     ·go_wp2_with fail
      go_roundw
      case rel=>exact⟨k+1,ea2,en4,ec4,xs,lo,hlt,by go_num,GB_45.out,BK_46.out,X3_47.out,X4_48.out,X6_49.out,ER_53.out,OE_52.out,by rw [US3.out]; exact EX.out,by rw [US3.out]; exact LO.out⟩
      case measure=>simp [intOf]; omega
     ·have LL:lo.length≤1000000:=by
       have h1:=FK.out.2.2
       rw [LO.out.len]
       rw [List.length_nil] at h1
       omega
      go_upto_region 16 with fail
      refine subs16 _ we wr.heap.size wb.heap.size w2.heap.size z1 z2 z6 z1 z2 c d (-1) false z3 po z4 z5 pn pc u9 lo _ _ _ _ _ _ _ _ _ _ _ _ _ _ _ _ _ _ _ _ _ _ _ _ _ _ _ _ _ _ _ _ _ _ _ _ _ _ _ _ _ _ _ _ _ _ _ _ _ _ _ _ _ _ _ _ _ _ _ _ _ _ _ _ _ _ _ _ _ _ _ _ _ _ _ _ _ _ _ _ _ _ _ _ _ _ _ _ _ _ _ _ _ _ _ _ XO_51.out XE_50.out BK_46.out.2 OE_52.out LL ?_
      intro x0 x5 w9 v88 v89 v90 v91 v92 v93 v94 v95 hb0 g2 o2
      have GB_54:=Lib.hid (GB_45.out.trans (hb0.mono GB_45.out.size))
      have BK_54:=Lib.hid (Go.Proofs.YtncogjpmboglhaaGreat.Bk.But.below BK_46.out hb0)
      have X3_54:=Lib.hid (X3_47.out.on hb0)
      have X4_54:=Lib.hid (X4_48.out.on hb0)
      have X6_54:=Lib.hid (X6_49.out.on hb0)
      have XE_54:=Lib.hid (XE_50.out.on hb0)
      have XO_54:=Lib.hid (XO_51.out.on hb0)
      have OE_54:=Lib.hid (Bk.own_on OE_52.out hb0)
      have ER_54:=Lib.hid (ER_53.out.on hb0)
      clear GB_45 BK_46 X3_47 X4_48 X6_49 XE_50 XO_51 OE_52 ER_53
      obtain⟨m1,m2,m3⟩:=mid_app rfl OE_54.out g2 BK_54.out ER_54.out
      have V3:=Lib.hid (m3 _ _ _ B4.out.lt X3_54.out)
      have V4:=Lib.hid (m3 _ _ _ L4.out X4_54.out)
      have V6:=Lib.hid (m3 _ _ _ L6.out X6_54.out)
      have VG:=Lib.hid (GB_54.out.grown g2 (Nat.le_trans (Nat.le_of_lt B4.out.lt) BK_54.out.2) fun j hj=>Nat.le_trans (Nat.le_of_lt B4.out.lt) (OE_54.out.lt j hj).1)
      have VK:=Lib.hid m1
      have VR:=Lib.hid m2
      have VO:=Lib.hid o2
      clear m1 m2 m3 hb0 g2 o2 LL GB_54 BK_54 X3_54 X4_54 X6_54 ER_54 OE_54 XE_54 XO_54
      go_wp2_with fail
      go_roundw
      case rel=>exact⟨k+1,ea2,en4,ec4,xs,_,hlt,by go_num,VG.out,VK.out,V3.out,V4.out,V6.out,VR.out,VO.out,by rw [US3.out]; exact EX.out,by rw [US3.out]; exact LO.out.append (.cons ⟨ZQ.out.symm,rfl,ZI.out.symm,rfl,PW2.out,rfl⟩ .nil)⟩
      case measure=>simp [intOf]; omega
   ·obtain rfl:k=n2:=by omega
    obtain⟨x0,x1,x2,x3,x4,x5⟩:=X3_34.out.cs6
    have HI:=Lib.hid (brin_mid B4.out BK_33.out HB.out (HN1.out _ GB_32.out) HL1.out ER_37.out EN.out FK.out.1)
    have HU:=Lib.hid (show All2 (OuIn wr) lo _ from mid_outs B4.out BK_33.out LO.out)
    obtain⟨va,vc,hv⟩:=(Row.of_own OE_38.out).len
    obtain⟨vn,hvn⟩:∃ n,n=lo.length:=⟨_,rfl⟩
    rw [← hvn] at hv
    have RU:=Lib.hid (Row.of_own OE_38.out)
    subst hv
    clear hvn
    obtain⟨r0,r1,r2,r3,r4,r5⟩:=X6_36.out.cs6
    obtain⟨rf0,rf1,rf2,rf3,rf4,rf5⟩:=X6_36.out.fs6
    have zz:=X6_36.out.lt
    have GG:=Lib.hid (setB_box X6_36.out (.int .i64 me) (.slice no nn nc) (.slice ao k ac) (.slice so sn sc) (.slice ea en3 ec3) (.slice oa on2 on3))
    have BL:=Lib.hid (setB_below (b:=w.heap.size+1+1) GB_32.out (by omega) (.int .i64 me) (.slice no nn nc) (.slice ao k ac) (.slice so sn sc) (.slice ea en3 ec3) (.slice oa on2 on3))
    have HK:=Lib.hid (fun j (_:j<wr.heap.size) (hj:j≠w.heap.size+1+1)=>setB_heap wr (w.heap.size+1+1) (.int .i64 me) (.slice no nn nc) (.slice ao k ac) (.slice so sn sc) (.slice ea en3 ec3) (.slice oa on2 on3) j hj)
    have HC:=Lib.hid (brin_keep (s1:=(none,0,0)) (s2:=(none,0,0)) (s3:=(none,0,0)) (s4:=(none,0,0)) (s5:=(none,0,0)) HI.out X6_36.out HK.out (by rw [FK.out.1.near]; exact HN1.out _ BL.out))
    have HO:=Lib.hid (outs_keep (s1:=(none,0,0)) (s2:=(none,0,0)) (s3:=(none,0,0)) (s4:=(none,0,0)) (s5:=(none,0,0)) (s:=(va,vn,vc)) ⟨lo,RU.out,HU.out⟩ X6_36.out HK.out)
    go_wp2_with fail
    obtain⟨v0,v1,v2,v3,v4,v5⟩:=GG.out.cs6
    refine bodyPost_ret (v:=.tuple #[.agg #[.int .i64 me,.slice no nn nc,.slice ao k ac,.slice so sn sc,.slice ea en3 ec3,.slice oa on2 on3],.slice va vn vc]) (by simp [results,Tryz.results32,go_sem,v0,v1,v2,v3,v4,v5]) rfl ?_
    have NO2:=NO.out
    have h9:=N2.out
    rw [DB.out,NO2]
    subst h9
    exact⟨⟨(ea,en3,ec3),(oa,on2,on3),(va,vn,vc),rfl,HC.out,HO.out⟩,BL.out⟩
 ·have hin2:at_<on_:=of_decide_eq_true hin
  obtain⟨z,hz⟩:∃ z,ws[at_]?=some z:=⟨_,List.getElem?_eq_getElem (by rw [← N5.out]; exact hin2)⟩
  obtain⟨ob,hob⟩:∃ o,b.own[at_]?=some o:=⟨_,List.getElem?_eq_getElem (by rw [← HW2.out.len,← N5.out]; exact hin2)⟩
  obtain⟨z_,hz_,hzo⟩:=HW2.out.at at_ ob hob
  obtain rfl:z=z_:=Option.some.inj (hz.symm.trans hz_)
  obtain⟨pa,ix,px⟩:=elW HW_6.out rfl N5.out.symm hz
  obtain⟨p0,p1,p2⟩:=px wr (Below.refl _ _)
  obtain⟨y1,y2,⟨yo,yn,yc⟩⟩:=z
  simp only at p0 p1 p2
  have s0:=cell_regrown p0
  have s1:=cell_regrown p1
  have OI:=Lib.hid (show ob.id=(y1,y2) from hzo.1.symm)
  obtain⟨r,hr⟩:∃ r,(y1 == c && y2 == d)=r:=⟨_,rfl⟩
  have heq:=eqId y1 y2 c d r hr
  have dlt:decide ((at_:Int)<(on_:Int))=true:=decide_eq_true (by omega)
  have FD:=Lib.hid (show ((b.own[placeI (b.own.map Ow.id) (c,d)]?).map Ow.id=some (c,d))=(r=true) from by
   rw [← PKY.out,hob,Option.map_some,OI.out,← hr]
   simp)
  clear px p0 p1 p2 hz_ hz hob hzo hr
  cases r
  ·have NF:=Lib.hid (show ¬ (b.own[placeI (b.own.map Ow.id) (c,d)]?).map Ow.id=some (c,d) from by rw [FD.out]; simp)
   go_upto_region 4 with fail
   refine wp_region_quiet_below (by kernel_rfl) (by kernel_rfl) ?_
   repeat (go_big_quiet_step (fail))
   refine wpQuiet_nil ?_
   intro _ hw'
   obtain⟨⟨dq,osq⟩,hw''⟩:=hw'
   subst hw''
   have Z6:=below_regrown wr dq osq
   have GB_7:=Lib.hid (GB_6.out.trans (Z6.mono GB_6.out.size))
   have X3_7:=Lib.hid (X3_6.out.on Z6)
   have X4_7:=Lib.hid (X4_6.out.on Z6)
   have X6_7:=Lib.hid (X6_6.out.on Z6)
   have HW_7:=Lib.hid (HW_6.out.on Z6)
   clear GB_6 X3_6 X4_6 X6_6 HW_6
   clear Z6 a0 a1 a2 a3 a4 a5 b0 b1
   generalize grow (redrawn wr dq) osq=wx at *
   clear dlt hin ix s0 s1 heq hin2
   have DB:=Lib.hid (show subsB b (c,d) p=foldK b.adv (subF (c,d) p) (ownIn b (c,d) p,[]) b.adv.length from by unfold subsB; rw [if_neg NF.out])
   have PL2:at_≤ws.length:=PLN.out
   go_upto_region 6 with fail
   refine subs6 _ wx w.heap.size (w.heap.size+1) me _ _ _ _ oo on_ oc at_ ws ((c,d,(po,pn,pc)):XOw) _ _ _ _ _ _ _ _ _ _ _ _ _ _ _ _ _ _ _ _ _ _ _ _ _ _ _ _ _ _ _ _ _ _ _ _ _ _ _ _ _ _ _ _ _ _ _ _ _ _ _ _ _ _ _ _ _ _ _ _ _ _ _ _ _ _ _ _ _ _ _ _ _ _ _ _ _ _ _ _ _ _ _ _ _ _ _ _ _ _ _ _ _ _ _ X3_7.out (box_idJ X4_7.out) HW_7.out PL2 (Nat.le_trans WL.out (by decide)) ?_
   intro w2 v47 v48 v49 v50 v51 v52 v53 v54 v55 v56 v57 v58 v59 v60 v61 v62 v63 hbx ho hbl hoth hblk
   obtain⟨oa,on3,hov⟩:=(Row.of_own ho).len
   obtain⟨on2,hon2⟩:∃ n,n=(ws.take at_++[((c,d,(po,pn,pc)):XOw)]++ws.drop at_).length:=⟨_,rfl⟩
   rw [← hon2] at hov
   subst hov
   clear hon2 PL2
   have G2:=Lib.hid (GB_7.out.trans (hbl _ (Nat.le_refl _)))
   have Y3:=Lib.hid hbx
   have Y4:=Lib.hid (hoth _ _ _ (by omega) X4_7.out)
   have Y6:=Lib.hid (hoth _ _ _ (by omega) X6_7.out)
   have HB:=Lib.hid (show BrIn w2 (ownIn b (c,d) p) (no,nn,nc) (ao,an,ac) (so,sn,sc) (eo,en,ec) (oa,on2,on3) from by
    have hI:=HH.out.on G2.out
    refine⟨hI.near,hI.adv,hI.seen,hI.ent,⟨_,Row.of_own ho,?_⟩⟩
    have hW:=HW2.out.mono fun _ _ h=>OwIn.on h G2.out
    show All2 _ _ (insAt b.own (placeI (b.own.map Ow.id) (c,d)) ⟨(c,d),p⟩)
    rw [← PKY.out]
    exact ((hW.take _).append (.cons ⟨rfl,HP.out.on G2.out⟩ .nil)).append (hW.drop _))
   clear hbx ho hbl hoth hblk GB_7 X3_7 X4_7 X6_7 HW_7
   have GB_8:=Lib.hid (G2.out)
   have X3_9:=Lib.hid (Y3.out)
   have X4_10:=Lib.hid (Y4.out)
   have X6_11:=Lib.hid (Y6.out)
   clear G2 Y3 Y4 Y6
   have FO:=Lib.hid (show ∀ k,k≤b.adv.length→AdI (ownIn b (c,d) p) (foldK b.adv (subF (c,d) p) (ownIn b (c,d) p,[]) k).1 k∧(∀ q∈(foldK b.adv (subF (c,d) p) (ownIn b (c,d) p,[]) k).1.ent,PredOk q.p)∧(foldK b.adv (subF (c,d) p) (ownIn b (c,d) p,[]) k).2.length≤([]:List Ou).length+k from fun k hk=>foldK_ok (l:=b.adv) (b0:=ownIn b (c,d) p) (o0:=[]) (fun a=>meetsC p a.p) (fun a=>subE' (c,d) p a) (fun a=>a.par) (fun e=>PredOk e.p) OK.out (fun _ _ _=>OP.out) k hk)
   obtain⟨ad,hd1,hd2⟩:=HB.out.adv
   obtain⟨q1,q2,hq⟩:=hd1.len
   obtain⟨rfl,rfl,rfl⟩:ao=q1∧an=ad.length∧ac=q2:=by
    have:Value.slice ao an ac=.slice q1 ad.length q2:=hq
    simpa using this
   obtain⟨lx1,hl1,hl2⟩:=HB.out.ent
   obtain⟨n2,hn2⟩:∃ n,n=ad.length:=⟨_,rfl⟩
   simp only [← hn2] at HB hd1 X3_9 ⊢
   have HD1:=Lib.hid hd1
   have HD2:=Lib.hid (show All2 (AdIn w2) ad b.adv from hd2)
   have HL1:=Lib.hid hl1
   have HL2:=Lib.hid hl2
   have N2:=Lib.hid hn2
   have B4:=Lib.hid (show Box w2 w.heap.size (brcells me (no,nn,nc) (ao,n2,ac) (so,sn,sc) (eo,en,ec) (oa,on2,on3)) 31 from X3_9.out)
   have L4:=Lib.hid X4_10.out.lt
   have L6:=Lib.hid X6_11.out.lt
   have NO:=Lib.hid (show b.adv.length=n2 from by rw [N2.out,HD2.out.len])
   clear hd1 hd2 hl1 hl2 hn2 hq
   have HN1:=Lib.hid (show ∀ W,Below w.heap.size w W→RowI W (.slice no nn nc) (ownIn b (c,d) p).near from fun W hb=>HH.out.near.on hb)
   have PW2:=Lib.hid (HP.out.on GB_8.out)
   obtain⟨x0,x1,x2,x3,x4,x5⟩:=X3_9.out.cs6
   go_wp2_with fail
   clear x0 x1 x2 x3 x4 x5
   go_loopw [9,67] (fun v i wr=>∃ (k:Nat) (ea:Option Addr) (en3 ec3:Nat) (lx:List XEn) (lo:List XOu),k≤n2∧i=.int .i64 k∧Below w.heap.size w wr∧But w.heap.size w2 wr∧Box wr w.heap.size #[.int .i64 me,.slice no nn nc,.slice ao n2 ac,.slice so sn sc,.slice ea en3 ec3,.slice oa on2 on3] 31∧Box wr (w.heap.size+1) #[.int .i64 c,.int .i64 d] 38∧Box wr (w.heap.size+1+1) #[.int .i64 0,.slice none 0 0,.slice none 0 0,.slice none 0 0,.slice none 0 0,.slice none 0 0] 31∧EntR w2 wr (eo,en,ec) (ea,en3,ec3) lx1 lx∧OwnU wr w2.heap.size v lo∧All2 (EnIn w2) lx (foldK b.adv (subF (c,d) p) (ownIn b (c,d) p,[]) k).1.ent∧All2 (OuIn w2) lo (foldK b.adv (subF (c,d) p) (ownIn b (c,d) p,[]) k).2) (fun _ i _=>n2-(intOf i).toNat)
   case atStart=>exact⟨0,eo,en,ec,lx1,[],Nat.zero_le _,rfl,GB_8.out,But.of_below (Below.refl _ _),X3_9.out,X4_10.out,X6_11.out,Or.inl ⟨rfl,rfl⟩,own_nil _ _,HL2.out,.nil⟩
   case round =>
    clear GB_8 X3_9 X4_10 X6_11
    obtain⟨k,ea,en3,ec3,lx,lo,hk,rfl,hgb,hbk,hx4,hx6,hx8,her,hoe,hen,hlo⟩:=hrel
    have GB_32:=Lib.hid (hgb)
    have BK_33:=Lib.hid (hbk)
    have X3_34:=Lib.hid (hx4)
    have X4_35:=Lib.hid (hx6)
    have X6_36:=Lib.hid (hx8)
    have ER_37:=Lib.hid (her)
    have OE_38:=Lib.hid (hoe)
    have EN:=Lib.hid hen
    have LO:=Lib.hid hlo
    clear hgb hbk hx4 hx6 hx8 her hoe hen hlo
    have FK:=Lib.hid (FO.out k (by rw [NO.out]; exact hk))
    have l9:n2≤900:=by have h1:=L2.out; rw [NO.out] at h1; exact h1
    by_cases hlt:k<n2
    ·have hlt':(k:Int)<(n2:Int):=by omega
     have hw:IntKind.i64.wrap ((k:Int)+1)=(k:Int)+1:=IntWalk.i64_in _ (by omega)
     obtain⟨a,hak⟩:∃ a,b.adv[k]?=some a:=⟨_,List.getElem?_eq_getElem (by rw [NO.out]; exact hlt)⟩
     have US:=Lib.hid (foldK_succ (subF (c,d) p) (ownIn b (c,d) p,[]) hak)
     have OKO:=Lib.hid (OA.out a (List.mem_of_getElem? hak))
     obtain⟨z,hz1,hz2⟩:=HD2.out.at k a hak
     have RWW:=row_keep okD HD1.out BK_33.out.1 (two_ints B4.out (fun c=>⟨_,_,rfl,rfl⟩) (br_ints me (no,nn,nc) (ao,n2,ac) (so,sn,sc) (eo,en,ec) (oa,on2,on3)))
     obtain⟨pa,ix,px⟩:=elD RWW rfl N2.out.symm hz1
     obtain⟨p0,p1,p2,p3⟩:=px wr (Below.refl _ _)
     obtain⟨z1,z2,⟨z3,z4,z5⟩,z6⟩:=z
     have ZI:=Lib.hid (show a.id=(z1,z2) from hz2.1.symm)
     have ZQ:=Lib.hid (show a.par=z6 from hz2.2.1.symm)
     have ZP:=Lib.hid (show RowC w2 (.slice z3 z4 z5) a.p from hz2.2.2)
     simp only at p0 p1 p2 p3
     clear px hz1 hz2 RWW hak
     go_upto_region 11 with fail
     clear p0 p1 p2 p3 ix
     have NN:=newB wr (.cells #[.int .i64 z1,.int .i64 z2,.slice z3 z4 z5,.int .i64 z6] 41)
     have GB_39:=Lib.hid (GB_32.out.trans (NN.mono GB_32.out.size))
     have BK_39:=Lib.hid (Go.Proofs.YtncogjpmboglhaaGreat.Bk.But.below BK_33.out NN)
     have X3_39:=Lib.hid (X3_34.out.on NN)
     have X4_39:=Lib.hid (X4_35.out.on NN)
     have X6_39:=Lib.hid (X6_36.out.on NN)
     have ER_39:=Lib.hid (ER_37.out.on NN)
     have OE_39:=Lib.hid (Bk.own_on OE_38.out NN)
     clear GB_32 BK_33 X3_34 X4_35 X6_36 ER_37 OE_38
     have XO_40:=Lib.hid (box_new wr #[.int .i64 z1,.int .i64 z2,.slice z3 z4 z5,.int .i64 z6] 41)
     clear NN
     generalize wr.alloc (.cells #[.int .i64 z1,.int .i64 z2,.slice z3 z4 z5,.int .i64 z6] 41)=wa at *
     obtain⟨mt,hmt⟩:∃ r,meetsC p a.p=r:=⟨_,rfl⟩
     have MT:=Lib.hid (meets_c (.slice po pn pc) (.slice z3 z4 z5) p a.p wa (HP.out.on GB_39.out) (mid_pred B4.out BK_39.out ZP.out) OP.out OKO.out)
     rw [hmt] at MT
     have US2:=Lib.hid (show (foldK b.adv (subF (c,d) p) (ownIn b (c,d) p,[]) (k+1))=addStep (foldK b.adv (subF (c,d) p) (ownIn b (c,d) p,[]) k) mt (subE' (c,d) p a) a.par from by rw [← hmt]; exact US.out)
     clear hmt US
     obtain⟨z0,z1,z2,z3⟩:=XO_40.out.cs4
     go_wp2_with fail
     refine MT.out.mono ?_
     rintro e4 wb ⟨rfl,hb⟩
     clear MT
     clear z0 z1 z2 z3
     have GB_41:=Lib.hid (GB_39.out.trans (hb.mono GB_39.out.size))
     have BK_41:=Lib.hid (Go.Proofs.YtncogjpmboglhaaGreat.Bk.But.below BK_39.out hb)
     have X3_41:=Lib.hid (X3_39.out.on hb)
     have X4_41:=Lib.hid (X4_39.out.on hb)
     have X6_41:=Lib.hid (X6_39.out.on hb)
     have ER_41:=Lib.hid (ER_39.out.on hb)
     have OE_41:=Lib.hid (Bk.own_on OE_39.out hb)
     have XO_41:=Lib.hid (XO_40.out.on hb)
     clear GB_39 BK_39 X3_39 X4_39 X6_39 ER_39 OE_39 XO_40
     clear hb
     cases mt
     ·go_wp2_with fail
      go_roundw
      case rel=>exact⟨k+1,ea,en3,ec3,lx,lo,hlt,by go_num,GB_41.out,BK_41.out,X3_41.out,X4_41.out,X6_41.out,ER_41.out,OE_41.out,by rw [US2.out]; exact EN.out,by rw [US2.out]; exact LO.out⟩
      case measure=>simp [intOf]; omega
     ·have z0:=XO_41.out.cell 0
      have z1:=XO_41.out.cell 1
      have z2:=XO_41.out.cell 2
      have z3:=XO_41.out.cell 3
      simp only [List.getElem?_toArray,List.getElem?_cons_zero,List.getElem?_cons_succ] at z0 z1 z2 z3
      obtain⟨y_0,y_1⟩:=X4_41.out.cs2
      go_upto_region 14 with fail
      clear z0 z1 z2 z3 y_0 y_1
      have NN:=newB wb (.cells #[.int .i64 z1,.int .i64 z2,.int .i64 c,.int .i64 d,.slice po pn pc,.int .i64 (-1),.bool false] 43)
      have GB_42:=Lib.hid (GB_41.out.trans (NN.mono GB_41.out.size))
      have BK_42:=Lib.hid (Go.Proofs.YtncogjpmboglhaaGreat.Bk.But.below BK_41.out NN)
      have X3_42:=Lib.hid (X3_41.out.on NN)
      have X4_42:=Lib.hid (X4_41.out.on NN)
      have X6_42:=Lib.hid (X6_41.out.on NN)
      have ER_42:=Lib.hid (ER_41.out.on NN)
      have OE_42:=Lib.hid (Bk.own_on OE_41.out NN)
      have XO_42:=Lib.hid (XO_41.out.on NN)
      clear GB_41 BK_41 X3_41 X4_41 X6_41 ER_41 OE_41 XO_41
      have XE_43:=Lib.hid (box_new wb #[.int .i64 z1,.int .i64 z2,.int .i64 c,.int .i64 d,.slice po pn pc,.int .i64 (-1),.bool false] 43)
      clear NN
      generalize wb.alloc (.cells #[.int .i64 z1,.int .i64 z2,.int .i64 c,.int .i64 d,.slice po pn pc,.int .i64 (-1),.bool false] 43)=wc at *
      have AD:=Lib.hid (radd2_any (foldK b.adv (subF (c,d) p) (ownIn b (c,d) p,[]) k).1 (no,nn,nc) (ao,n2,ac) (so,sn,sc) (ea,en3,ec3) (oa,on2,on3) (z1,z2,c,d,(po,pn,pc),-1,false) (subE' (c,d) p a) wc lx (EnIn w2) (brin_mid B4.out BK_42.out HB.out (HN1.out _ GB_42.out) HL1.out ER_42.out EN.out FK.out.1) (ER_42.out.row B4.out BK_42.out HL1.out) (mid_ents B4.out BK_42.out EN.out) EN.out (fun u=>⟨ZI.out.symm,rfl,rfl,rfl,PW2.out⟩) ⟨ZI.out.symm,rfl,rfl,rfl,HP.out.on GB_42.out⟩ (by rw [FK.out.1.adv]; exact L2.out) (by have h1:=FK.out.1.len; have h2:=L3.out; rw [NO.out] at h2; have h3:(ownIn b (c,d) p).ent.length=b.ent.length:=rfl; omega) FK.out.2.1 OP.out)
      rw [FK.out.1.me,show (ownIn b (c,d) p).me=b.me from rfl,← ME.out] at AD
      obtain⟨x0,x1,x2,x3,x4,x5⟩:=X3_42.out.cs6
      obtain⟨z0,z1,z2,z3,z4,z5,z6⟩:=XE_43.out.cs7
      go_wp2_with fail
      refine AD.out.mono ?_
      rintro e5 wd ⟨⟨⟨ea2,en4,ec4⟩,xs,rfl,hr,hx⟩,hb⟩
      clear AD
      clear x0 x1 x2 x3 x4 x5 z0 z1 z2 z3 z4 z5 z6
      have EX:=Lib.hid hx
      have ERD:=Lib.hid (show EntR w2 wd (eo,en,ec) (ea2,en4,ec4) lx1 xs from by
       rcases hr with⟨h1,h2,_⟩|hr
       ·rw [h1,h2]
        exact ER_42.out.on hb
       ·exact Or.inr (own_fewer hr BK_42.out.2))
      clear hr hx
      have GB_44:=Lib.hid (GB_42.out.trans (hb.mono GB_42.out.size))
      have BK_44:=Lib.hid (Go.Proofs.YtncogjpmboglhaaGreat.Bk.But.below BK_42.out hb)
      have X3_44:=Lib.hid (X3_42.out.on hb)
      have X4_44:=Lib.hid (X4_42.out.on hb)
      have X6_44:=Lib.hid (X6_42.out.on hb)
      have ER_44:=Lib.hid (ER_42.out.on hb)
      have OE_44:=Lib.hid (Bk.own_on OE_42.out hb)
      have XO_44:=Lib.hid (XO_42.out.on hb)
      have XE_44:=Lib.hid (XE_43.out.on hb)
      clear GB_42 BK_42 X3_42 X4_42 X6_42 ER_42 OE_42 XO_42 XE_43
      clear hb ER_44
      obtain⟨up,hup⟩:∃ r,(addB (foldK b.adv (subF (c,d) p) (ownIn b (c,d) p,[]) k).1 (subE' (c,d) p a)).2=r:=⟨_,rfl⟩
      rw [hup]
      have US3:=Lib.hid (show (foldK b.adv (subF (c,d) p) (ownIn b (c,d) p,[]) (k+1))=((addB (foldK b.adv (subF (c,d) p) (ownIn b (c,d) p,[]) k).1 (subE' (c,d) p a)).1,if up=true then (foldK b.adv (subF (c,d) p) (ownIn b (c,d) p,[]) k).2++[subE a.par (subE' (c,d) p a)] else (foldK b.adv (subF (c,d) p) (ownIn b (c,d) p,[]) k).2) from by rw [US2.out]; unfold addStep; rw [if_neg (by simp),hup])
      clear hup US2
      obtain⟨k0,k1,k2,k3,k4,k5⟩:=X3_44.out.cs6
      obtain⟨kf0,kf1,kf2,kf3,kf4,kf5⟩:=X3_44.out.fs6
      have zz:=X3_44.out.lt
      have NEB:=Lib.hid (show wb.heap.size≠w.heap.size from fun e=>by have h1:=XE_44.out; have h2:=X3_44.out; unfold Box at h1 h2; rw [e] at h1; rw [h1] at h2; injection h2 with h2; injection h2 with h2; simp at h2)
      have NEA:=Lib.hid (show wr.heap.size≠w.heap.size from fun e=>by have h1:=XO_44.out; have h2:=X3_44.out; unfold Box at h1 h2; rw [e] at h1; rw [h1] at h2; injection h2 with h2; injection h2 with h2; simp at h2)
      have G1:=Lib.hid (setB_below (b:=w.heap.size) GB_44.out (Nat.le_refl _) (.int .i64 me) (.slice no nn nc) (.slice ao n2 ac) (.slice so sn sc) (.slice ea2 en4 ec4) (.slice oa on2 on3))
      have G2:=Lib.hid (BK_44.out.trans (but_setB wd w.heap.size (.int .i64 me) (.slice no nn nc) (.slice ao n2 ac) (.slice so sn sc) (.slice ea2 en4 ec4) (.slice oa on2 on3)))
      have G4:=Lib.hid (setB_box X3_44.out (.int .i64 me) (.slice no nn nc) (.slice ao n2 ac) (.slice so sn sc) (.slice ea2 en4 ec4) (.slice oa on2 on3))
      have G6:=Lib.hid (show Box _ _ _ _ from (setB_heap wd w.heap.size (.int .i64 me) (.slice no nn nc) (.slice ao n2 ac) (.slice so sn sc) (.slice ea2 en4 ec4) (.slice oa on2 on3) (w.heap.size+1) (by omega)).trans X4_44.out)
      have G8:=Lib.hid (show Box _ _ _ _ from (setB_heap wd w.heap.size (.int .i64 me) (.slice no nn nc) (.slice ao n2 ac) (.slice so sn sc) (.slice ea2 en4 ec4) (.slice oa on2 on3) (w.heap.size+1+1) (by omega)).trans X6_44.out)
      have GE:=Lib.hid (show Box _ _ _ _ from (setB_heap wd w.heap.size (.int .i64 me) (.slice no nn nc) (.slice ao n2 ac) (.slice so sn sc) (.slice ea2 en4 ec4) (.slice oa on2 on3) wb.heap.size NEB.out).trans XE_44.out)
      have GA:=Lib.hid (show Box _ _ _ _ from (setB_heap wd w.heap.size (.int .i64 me) (.slice no nn nc) (.slice ao n2 ac) (.slice so sn sc) (.slice ea2 en4 ec4) (.slice oa on2 on3) wr.heap.size NEA.out).trans XO_44.out)
      have GO:=Lib.hid (setB_ownA OE_44.out w.heap.size B4.out.lt (.int .i64 me) (.slice no nn nc) (.slice ao n2 ac) (.slice so sn sc) (.slice ea2 en4 ec4) (.slice oa on2 on3))
      have GR:=Lib.hid (show EntR w2 _ (eo,en,ec) (ea2,en4,ec4) lx1 xs from ERD.out.imp id fun h=>setB_ownA h w.heap.size B4.out.lt (.int .i64 me) (.slice no nn nc) (.slice ao n2 ac) (.slice so sn sc) (.slice ea2 en4 ec4) (.slice oa on2 on3))
      clear ERD GB_44 BK_44 X3_44 X4_44 X6_44 XE_44 OE_44 XO_44
      go_upto_region 15 with fail
      clear zz k0 k1 k2 k3 k4 k5 kf0 kf1 kf2 kf3 kf4 kf5
      unfold setB at G1 G2 G4 G6 G8 GE GA GO GR
      generalize ((((((wd.setCell ⟨w.heap.size,0,none⟩ (.int .i64 me)).setCell ⟨w.heap.size,1,none⟩ (.slice no nn nc)).setCell ⟨w.heap.size,2,none⟩ (.slice ao n2 ac)).setCell ⟨w.heap.size,3,none⟩ (.slice so sn sc)).setCell ⟨w.heap.size,4,none⟩ (.slice ea2 en4 ec4)).setCell ⟨w.heap.size,5,none⟩ (.slice oa on2 on3))=we at *
      have GB_45:=Lib.hid (G1.out)
      have BK_46:=Lib.hid (G2.out)
      have X3_47:=Lib.hid (G4.out)
      have X4_48:=Lib.hid (G6.out)
      have X6_49:=Lib.hid (G8.out)
      have XE_50:=Lib.hid (GE.out)
      have XO_51:=Lib.hid (GA.out)
      have OE_52:=Lib.hid (GO.out)
      have ER_53:=Lib.hid (GR.out)
      clear G1 G2 G4 G6 G8 GE GA GO GR
      cases up
      ·go_wp2_with fail
       go_roundw
       case rel=>exact⟨k+1,ea2,en4,ec4,xs,lo,hlt,by go_num,GB_45.out,BK_46.out,X3_47.out,X4_48.out,X6_49.out,ER_53.out,OE_52.out,by rw [US3.out]; exact EX.out,by rw [US3.out]; exact LO.out⟩
       case measure=>simp [intOf]; omega
      ·have LL:lo.length≤1000000:=by
        have h1:=FK.out.2.2
        rw [LO.out.len]
        rw [List.length_nil] at h1
        omega
       go_upto_region 16 with fail
       refine subs16 _ we wr.heap.size wb.heap.size w2.heap.size z1 z2 z6 z1 z2 c d (-1) false z3 po z4 z5 pn pc u9 lo _ _ _ _ _ _ _ _ _ _ _ _ _ _ _ _ _ _ _ _ _ _ _ _ _ _ _ _ _ _ _ _ _ _ _ _ _ _ _ _ _ _ _ _ _ _ _ _ _ _ _ _ _ _ _ _ _ _ _ _ _ _ _ _ _ _ _ _ _ _ _ _ _ _ _ _ _ _ _ _ _ _ _ _ _ _ _ _ _ _ _ _ _ _ _ _ XO_51.out XE_50.out BK_46.out.2 OE_52.out LL ?_
       intro x0 x5 w9 v88 v89 v90 v91 v92 v93 v94 v95 hb0 g2 o2
       have GB_54:=Lib.hid (GB_45.out.trans (hb0.mono GB_45.out.size))
       have BK_54:=Lib.hid (Go.Proofs.YtncogjpmboglhaaGreat.Bk.But.below BK_46.out hb0)
       have X3_54:=Lib.hid (X3_47.out.on hb0)
       have X4_54:=Lib.hid (X4_48.out.on hb0)
       have X6_54:=Lib.hid (X6_49.out.on hb0)
       have XE_54:=Lib.hid (XE_50.out.on hb0)
       have XO_54:=Lib.hid (XO_51.out.on hb0)
       have OE_54:=Lib.hid (Bk.own_on OE_52.out hb0)
       have ER_54:=Lib.hid (ER_53.out.on hb0)
       clear GB_45 BK_46 X3_47 X4_48 X6_49 XE_50 XO_51 OE_52 ER_53
       obtain⟨m1,m2,m3⟩:=mid_app rfl OE_54.out g2 BK_54.out ER_54.out
       have V3:=Lib.hid (m3 _ _ _ B4.out.lt X3_54.out)
       have V4:=Lib.hid (m3 _ _ _ L4.out X4_54.out)
       have V6:=Lib.hid (m3 _ _ _ L6.out X6_54.out)
       have VG:=Lib.hid (GB_54.out.grown g2 (Nat.le_trans (Nat.le_of_lt B4.out.lt) BK_54.out.2) fun j hj=>Nat.le_trans (Nat.le_of_lt B4.out.lt) (OE_54.out.lt j hj).1)
       have VK:=Lib.hid m1
       have VR:=Lib.hid m2
       have VO:=Lib.hid o2
       clear m1 m2 m3 hb0 g2 o2 LL GB_54 BK_54 X3_54 X4_54 X6_54 ER_54 OE_54 XE_54 XO_54
       go_wp2_with fail
       go_roundw
       case rel=>exact⟨k+1,ea2,en4,ec4,xs,_,hlt,by go_num,VG.out,VK.out,V3.out,V4.out,V6.out,VR.out,VO.out,by rw [US3.out]; exact EX.out,by rw [US3.out]; exact LO.out.append (.cons ⟨ZQ.out.symm,rfl,ZI.out.symm,rfl,PW2.out,rfl⟩ .nil)⟩
       case measure=>simp [intOf]; omega
    ·obtain rfl:k=n2:=by omega
     obtain⟨x0,x1,x2,x3,x4,x5⟩:=X3_34.out.cs6
     have HI:=Lib.hid (brin_mid B4.out BK_33.out HB.out (HN1.out _ GB_32.out) HL1.out ER_37.out EN.out FK.out.1)
     have HU:=Lib.hid (show All2 (OuIn wr) lo _ from mid_outs B4.out BK_33.out LO.out)
     obtain⟨va,vc,hv⟩:=(Row.of_own OE_38.out).len
     obtain⟨vn,hvn⟩:∃ n,n=lo.length:=⟨_,rfl⟩
     rw [← hvn] at hv
     have RU:=Lib.hid (Row.of_own OE_38.out)
     subst hv
     clear hvn
     obtain⟨r0,r1,r2,r3,r4,r5⟩:=X6_36.out.cs6
     obtain⟨rf0,rf1,rf2,rf3,rf4,rf5⟩:=X6_36.out.fs6
     have zz:=X6_36.out.lt
     have GG:=Lib.hid (setB_box X6_36.out (.int .i64 me) (.slice no nn nc) (.slice ao k ac) (.slice so sn sc) (.slice ea en3 ec3) (.slice oa on2 on3))
     have BL:=Lib.hid (setB_below (b:=w.heap.size+1+1) GB_32.out (by omega) (.int .i64 me) (.slice no nn nc) (.slice ao k ac) (.slice so sn sc) (.slice ea en3 ec3) (.slice oa on2 on3))
     have HK:=Lib.hid (fun j (_:j<wr.heap.size) (hj:j≠w.heap.size+1+1)=>setB_heap wr (w.heap.size+1+1) (.int .i64 me) (.slice no nn nc) (.slice ao k ac) (.slice so sn sc) (.slice ea en3 ec3) (.slice oa on2 on3) j hj)
     have HC:=Lib.hid (brin_keep (s1:=(none,0,0)) (s2:=(none,0,0)) (s3:=(none,0,0)) (s4:=(none,0,0)) (s5:=(none,0,0)) HI.out X6_36.out HK.out (by rw [FK.out.1.near]; exact HN1.out _ BL.out))
     have HO:=Lib.hid (outs_keep (s1:=(none,0,0)) (s2:=(none,0,0)) (s3:=(none,0,0)) (s4:=(none,0,0)) (s5:=(none,0,0)) (s:=(va,vn,vc)) ⟨lo,RU.out,HU.out⟩ X6_36.out HK.out)
     go_wp2_with fail
     obtain⟨v0,v1,v2,v3,v4,v5⟩:=GG.out.cs6
     refine bodyPost_ret (v:=.tuple #[.agg #[.int .i64 me,.slice no nn nc,.slice ao k ac,.slice so sn sc,.slice ea en3 ec3,.slice oa on2 on3],.slice va vn vc]) (by simp [results,Tryz.results32,go_sem,v0,v1,v2,v3,v4,v5]) rfl ?_
     have NO2:=NO.out
     have h9:=N2.out
     rw [DB.out,NO2]
     subst h9
     exact⟨⟨(ea,en3,ec3),(oa,on2,on3),(va,vn,vc),rfl,HC.out,HO.out⟩,BL.out⟩
  ·go_upto_region 4 with fail
   refine wp_region_quiet_below (by kernel_rfl) (by kernel_rfl) ?_
   repeat (go_big_quiet_step (fail))
   refine wpQuiet_nil ?_
   intro _ hw'
   obtain⟨⟨dq,osq⟩,hw''⟩:=hw'
   subst hw''
   have Z6:=below_regrown wr dq osq
   have GB_7:=Lib.hid (GB_6.out.trans (Z6.mono GB_6.out.size))
   have X3_7:=Lib.hid (X3_6.out.on Z6)
   have X4_7:=Lib.hid (X4_6.out.on Z6)
   have X6_7:=Lib.hid (X6_6.out.on Z6)
   have HW_7:=Lib.hid (HW_6.out.on Z6)
   clear GB_6 X3_6 X4_6 X6_6 HW_6
   clear Z6 a0 a1 a2 a3 a4 a5 b0 b1
   generalize grow (redrawn wr dq) osq=wx at *
   clear dlt hin ix s0 s1 heq hin2
   obtain⟨x0,x1,x2,x3,x4,x5⟩:=X3_7.out.cs6
   have HI:=Lib.hid (HH.out.on GB_7.out)
   obtain⟨r0,r1,r2,r3,r4,r5⟩:=X6_7.out.cs6
   obtain⟨rf0,rf1,rf2,rf3,rf4,rf5⟩:=X6_7.out.fs6
   have zz:=X6_7.out.lt
   have GG:=Lib.hid (setB_box X6_7.out (.int .i64 me) (.slice no nn nc) (.slice ao an ac) (.slice so sn sc) (.slice eo en ec) (.slice oo on_ oc))
   have BL:=Lib.hid (setB_below (b:=w.heap.size+1+1) GB_7.out (by omega) (.int .i64 me) (.slice no nn nc) (.slice ao an ac) (.slice so sn sc) (.slice eo en ec) (.slice oo on_ oc))
   have HK:=Lib.hid (fun j (_:j<wx.heap.size) (hj:j≠w.heap.size+1+1)=>setB_heap wx (w.heap.size+1+1) (.int .i64 me) (.slice no nn nc) (.slice ao an ac) (.slice so sn sc) (.slice eo en ec) (.slice oo on_ oc) j hj)
   have HC:=Lib.hid (brin_keep (s1:=(none,0,0)) (s2:=(none,0,0)) (s3:=(none,0,0)) (s4:=(none,0,0)) (s5:=(none,0,0)) HI.out X6_7.out HK.out (HH.out.near.on BL.out))
   go_wp2_with fail
   obtain⟨v0,v1,v2,v3,v4,v5⟩:=GG.out.cs6
   refine bodyPost_ret (v:=.tuple #[.agg #[.int .i64 me,.slice no nn nc,.slice ao an ac,.slice so sn sc,.slice eo en ec,.slice oo on_ oc],.slice none 0 0]) (by simp [results,Tryz.results32,go_sem,v0,v1,v2,v3,v4,v5]) rfl ?_
   have hd:subsB b (c,d) p=(b,[]):=by unfold subsB; rw [if_pos (cast FD.out.symm trivial)]
   rw [hd]
   exact⟨⟨eo,en,ec,oo,on_,oc,none,0,0,rfl,HC.out,outs_nil _⟩,BL.out⟩
end Go.Proofs.YtncogjpmboglhaaGreat.Bk
