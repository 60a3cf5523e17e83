/-
  broadsidekeep.Broker. Conditions as told.
-/
import Derived.Test.YtncogjpmboglhaaGreatF048
import Derived.Test.YtncogjpmboglhaaGreatF049
import Derived.Test.YtncogjpmboglhaaGreatF033
import Derived.Test.YtncogjpmboglhaaGreatF031
import Derived.Test.YtncogjpmboglhaaGreatF017
set_option maxRecDepth 100000
set_option maxHeartbeats 64000000
namespace Go.Proofs.YtncogjpmboglhaaGreat.Av
open Go.RowKit Go.Sort Rw YtncogjpmboglhaaGreat.Nm Pr Bk
def KM (t:XID) (b c:Br):Prop:=c.me=b.me∧c.near=b.near∧∀ x∈c.seen,x∈b.seen∨x=t
theorem learn_seen (b:Br) (a:Ad):∀ y∈(learnB b a).1.seen,y∈b.seen∨y=a.id:=by
 unfold learnB
 split
 ·exact fun y hy=>Or.inl hy
 ·exact fun y hy=>((mem_ins _ _ _ _).1 hy).symm
theorem km_adv (b:Br) (f:Int) (x:XID) (p:List C5):KM x b (advB b f x p).1:=by
 obtain⟨m1,m2,_,_⟩:=learn_same b ⟨x,p,f⟩
 have m5:=learn_seen b ⟨x,p,f⟩
 unfold advB
 split
 ·exact⟨m1,m2,m5⟩
 ·have q:=(foldK_ok (l:=(learnB b ⟨x,p,f⟩).1.own) (b0:=(learnB b ⟨x,p,f⟩).1) (o0:=othersO b.near f 1 x (0,0) p) (fun o=>meetsC o.p p) (fun o=>advE x o) (fun _=>f) (fun _=>True) (fun _ _=>trivial) (fun _ _ _=>trivial) _ (Nat.le_refl _)).1
  exact⟨(show (foldK _ (advF f x p) _ _).1.me=_ from q.me).trans m1,(show (foldK _ (advF f x p) _ _).1.near=_ from q.near).trans m2,by rw [show (foldK _ (advF f x p) _ _).1.seen=_ from q.seen]; exact m5⟩
theorem km_subs (t:XID) (b:Br) (x:XID) (p:List C5):KM t b (subsB b x p).1:=by
 unfold subsB
 split
 ·exact⟨rfl,rfl,fun _ h=>Or.inl h⟩
 ·have q:=(foldK_ok (l:=b.adv) (b0:=ownIn b x p) (o0:=[]) (fun a=>meetsC p a.p) (fun a=>subE' x p a) (fun a=>a.par) (fun _=>True) (fun _ _=>trivial) (fun _ _ _=>trivial) _ (Nat.le_refl _)).1
  exact⟨(show (foldK _ (subF x p) _ _).1.me=_ from q.me),(show (foldK _ (subF x p) _ _).1.near=_ from q.near),by rw [show (foldK _ (subF x p) _ _).1.seen=_ from q.seen]; exact fun _ h=>Or.inl h⟩
theorem km_unsubs (t:XID) (b:Br) (x:XID):KM t b (unsubsB b x).1:=by
 unfold unsubsB
 split
 ·exact⟨rfl,rfl,fun _ h=>Or.inl h⟩
 ·have q:=(unsubK_ok b x _ (Nat.le_refl _)).1
  exact⟨q.me,q.near,by rw [q.seen]; exact fun _ h=>Or.inl h⟩
theorem km_drop (b:Br) (t x:XID) (f:Int):KM t b (dropB b t x f).1:=by
 rw [dropB_near]
 exact⟨(takeB_adv b t x f).2.2.1,(takeB_adv b t x f).2.1,by rw [(takeB_adv b t x f).2.2.2.1]; exact fun _ h=>Or.inl h⟩
theorem km_onsub (b:Br) (f:Int) (t x:XID) (p:List C5):KM t b (onSubB b f t x p).1:=by
 rw [onSubB_br]
 exact⟨(addB_same b _).1,(addB_same b _).2.1,by rw [(addB_same b _).2.2.2.1]; exact fun _ h=>Or.inl h⟩
theorem forget_seen (b:Br) (x:XID) (f:Int):(forgetB b x f).1.seen=b.seen:=by
 unfold forgetB
 split
 ·rfl
 ·split
  ·rfl
  ·split <;> rfl
theorem km_step (b:Br) (f mk:Int) (t x:XID) (p:List C5):KM t b (stepB b f mk t x p).1:=by
 unfold stepB
 split
 ·exact km_adv b f t p
 ·split
  ·exact⟨(forget_near b t f).2,(forget_near b t f).1,by rw [show (unadvB b f t).1.seen=b.seen from forget_seen b t f]; exact fun _ h=>Or.inl h⟩
  ·split
   ·exact km_onsub b f t x p
   ·exact km_drop b t x f
theorem KI.step {i:Nat} {b:Br} (h:KI i b) (hi:i<12) (f mk:Int) (t x:XID) (p:List C5) (hc:comesB b.near f=true) (hq:Wr.rightP p=true) (hp:PredOk p):KI (i+1) (stepB b f mk t x p).1:=by
 unfold stepB
 split
 ·exact h.adv hi f t p hc hq hp
 ·split
  ·exact h.forget t f
  ·split
   ·exact h.onsub f t x p hc hq hp
   ·exact h.drop t x f
def nearL (k:Nat):List Int:=(List.range k).map fun (j:Nat)=>(j:Int)+1
theorem nearL_succ (k:Nat):nearL (k+1)=nearL k++[(k:Int)+1]:=by simp [nearL,List.range_succ]
theorem nearL_len (k:Nat):(nearL k).length=k:=by simp [nearL]
theorem nearL_rise:∀ k,(nearL k).Pairwise (·<·)
 | 0=>List.Pairwise.nil
 | k+1=>by
  rw [nearL_succ,List.pairwise_append]
  refine⟨nearL_rise k,by simp,fun a ha b hb=>?_⟩
  rw [List.mem_singleton.1 hb]
  obtain⟨j,hj,rfl⟩:=List.mem_map.1 ha
  have:=List.mem_range.1 hj
  omega
theorem ki_new (k:Nat) (hk:k≤4):KI 0 ⟨0,nearL k,[],[],[],[]⟩ :=
 ⟨⟨nearL_rise k,List.Pairwise.nil,List.Pairwise.nil,List.Pairwise.nil,List.Pairwise.nil,fun a h=>by simp at h,fun a h=>by simp at h,fun a h=>by simp at h⟩,fun a h=>by simp at h,fun a h=>by simp at h,fun a h=>by simp at h,by rw [nearL_len]; exact hk,Nat.le_refl _,Nat.le_refl _,Nat.le_refl _,Nat.le_refl _⟩
theorem prd_ok5 (has vals:List Int):PredOk ((prd has vals 7).map r5):=⟨_,prd_nf has vals,rfl⟩
theorem brk2_any (zn:Int) (v:Value) (n:Nat) (w:World) (h1:-9223372036854775808≤zn) (h2:zn≤9223372036854775807) (hs:InSt w v n) (hn:n≤maxLen) :
  Calls Tryz.prog 6 #[.agg #[.int .i64 zn,v]] w fun e w'=>(∃ (b:Br) (nv av sv ev ov:Sl),e=.returned (brv b.me nv av sv ev ov)∧BrN w' b nv av sv ev ov∧KI 12 b∧1≤b.near.length∧SnK b)∧Below w.heap.size w w':=by
 obtain⟨so,sc,rfl⟩:=hs.shape
 obtain⟨h0,g1,g2,g3⟩:=three_new w #[.int .i64 zn,.slice so n sc] #[.int .i64 0,.slice none 0 0,.slice none 0 0,.slice none 0 0,.slice none 0 0,.slice none 0 0] #[.int .i64 0,.slice none 0 0,.slice none 0 0,.slice none 0 0,.slice none 0 0,.slice none 0 0] 24 31 31
 have GB_1:=Lib.hid (h0)
 have X1_2:=Lib.hid (g1)
 have X2_3:=Lib.hid (g2)
 have X3_4:=Lib.hid (g3)
 have HS:=Lib.hid hs
 have HN:=Lib.hid hn
 clear h0 g1 g2 g3 hs hn
 go_enter Tryz.func6,Tryz.ntmps6
 go_upto_region 2 with fail
 generalize (((w.alloc (.cells #[.int .i64 zn,.slice so n sc] 24)).alloc (.cells #[.int .i64 0,.slice none 0 0,.slice none 0 0,.slice none 0 0,.slice none 0 0,.slice none 0 0] 31)).alloc (.cells #[.int .i64 0,.slice none 0 0,.slice none 0 0,.slice none 0 0,.slice none 0 0,.slice none 0 0] 31))=W at *
 have WI:=Wi.within_any zn 1 4 W (by decide) (by decide) (by decide) h1 h2
 have WB:=Wi.within_bd zn 1 4 (by decide)
 generalize Wi.within zn 1 4=y at *
 obtain⟨m,rfl⟩:∃ m:Nat,y=m:=⟨y.toNat,by omega⟩
 have M1:=Lib.hid (show 1≤m from by omega)
 have M4:m≤4:=by omega
 clear WB h1 h2
 obtain⟨x0,x1⟩:=X1_2.out.cs2
 go_wp2_with fail
 refine WI.mono ?_
 rintro e1 w1 ⟨rfl,rfl⟩
 clear WI
 clear x0 x1
 go_wp2_with fail
 go_loopw [15] (fun i wr=>∃ (k:Nat) (a:Option Addr) (c:Nat),k≤m∧i=.int .i64 k∧Below w.heap.size w wr∧Box wr w.heap.size #[.int .i64 zn,.slice so n sc] 24∧Box wr (w.heap.size+1) #[.int .i64 0,.slice none 0 0,.slice none 0 0,.slice none 0 0,.slice none 0 0,.slice none 0 0] 31∧Box wr (w.heap.size+1+1) #[.int .i64 0,.slice a k c,.slice none 0 0,.slice none 0 0,.slice none 0 0,.slice none 0 0] 31∧OwnI wr (w.heap.size+3) (.slice a k c) (nearL k)∧w.heap.size+3≤wr.heap.size) (fun i _=>m-(intOf i).toNat)
 case atStart=>exact⟨0,none,0,Nat.zero_le _,rfl,GB_1.out,X1_2.out,X2_3.out,X3_4.out,own_nil _ _,by have:=X3_4.out.lt; omega⟩
 case round =>
  clear GB_1 X1_2 X2_3 X3_4
  obtain⟨k,a,c,hk,rfl,hgb,hx1,hx2,hx3,hoe,hws⟩:=hrel
  have GB_10:=Lib.hid (hgb)
  have X1_11:=Lib.hid (hx1)
  have X2_12:=Lib.hid (hx2)
  have X3_13:=Lib.hid (hx3)
  have OE_14:=Lib.hid (hoe)
  have WS:=Lib.hid hws
  clear hgb hx1 hx2 hx3 hoe hws
  by_cases hlt:k<m
  ·have hlt':(k:Int)<(m:Int):=by omega
   have hw:IntKind.i64.wrap ((k:Int)+1)=(k:Int)+1:=IntWalk.i64_in _ (by omega)
   have c1:=X3_13.out.cell 1
   simp only [List.getElem?_toArray,List.getElem?_cons_zero,List.getElem?_cons_succ] at c1
   have hl:=row_lit Nm.okI wr [(k:Int)+1] 1 rfl (by simp) #[.int .i64 ((k:Int)+1)] (by rfl)
   have NB:=newB wr (.cells #[.int .i64 ((k:Int)+1)] 3)
   have d1:=(X3_13.out.on NB).cell 1
   simp only [List.getElem?_toArray,List.getElem?_cons_zero,List.getElem?_cons_succ] at d1
   have GB_15:=Lib.hid (GB_10.out.trans (NB.mono GB_10.out.size))
   have X1_15:=Lib.hid (X1_11.out.on NB)
   have X2_15:=Lib.hid (X2_12.out.on NB)
   have X3_15:=Lib.hid (X3_13.out.on NB)
   have OE_15:=Lib.hid (Bk.own_on OE_14.out NB)
   clear GB_10 X1_11 X2_12 X3_13 OE_14
   obtain⟨v',x1,q1,oa,ga⟩:=app_row Nm.okI (w.heap.size+3) OE_15.out (Row.of_own hl) (by rw [nearL_len]; omega) (by simp) (Nat.le_trans WS.out NB.size) 25
   have q1:(Builtin.append_ #[25,25] 25 #[.slice a k c,.slice (some ⟨wr.heap.size,0,none⟩) 1 1]).run Tryz.prog (wr.alloc (.cells #[.int .i64 ((k:Int)+1)] 3))=.ok v' x1:=q1
   rw [← nearL_succ] at oa
   obtain⟨a2,c2,hv⟩:=(Row.of_own oa).len
   rw [nearL_len] at hv
   subst hv
   have KX:=fun (bb:Nat) (cs:Array Value) (tt:TypeId) (hbb:bb<w.heap.size+3) (hb:Box (wr.alloc (.cells #[.int .i64 ((k:Int)+1)] 3)) bb cs tt)=>show Box x1 bb cs tt from (ga.block bb hb.lt (fun e=>by have:=(OE_15.out.lt bb e.symm).1; omega)).trans hb
   have V1:=Lib.hid (KX _ _ _ (by omega) X1_15.out)
   have V2:=Lib.hid (KX _ _ _ (by omega) X2_15.out)
   have V3:=Lib.hid (KX _ _ _ (by omega) X3_15.out)
   have VG:=Lib.hid (GB_15.out.grown ga (by have:=WS.out; have:=NB.size; omega) fun j hj=>by have:=(OE_15.out.lt j hj).1; omega)
   have VO:=Lib.hid oa
   have VS:=Lib.hid (Nat.le_trans (Nat.le_trans WS.out NB.size) ga.size)
   clear KX hl NB oa ga GB_15 X1_15 X2_15 X3_15 OE_15
   have e1:=V3.out.cell 1
   have f1:=V3.out.fr 1
   have zz:=V3.out.lt
   simp only [List.getElem?_toArray,List.getElem?_cons_zero,List.getElem?_cons_succ] at e1
   go_upto_region 6 with (first | (at_builtin; refine wpList_append_run rfl _ _ 25 rfl rfl rfl q1 ?_) | fail)
   clear zz e1 f1 c1 d1 q1
   have U3:=box_set (k:=1) V3.out (.slice a2 (k+1) c2)
   simp only [List.setIfInBounds_toArray,List.set_cons_zero,List.set_cons_succ] at U3
   have BK:=but_cell x1 (w.heap.size+1+1) 1 (.slice a2 (k+1) c2)
   have UG:=Lib.hid (VG.out.setCell (p:=⟨w.heap.size+1+1,1,none⟩) (by show w.heap.size≤w.heap.size+1+1; omega) (.slice a2 (k+1) c2))
   have U1:=Lib.hid (BK.box V1.out (by omega))
   have U2:=Lib.hid (BK.box V2.out (by omega))
   have U3:=Lib.hid U3
   have UO:=Lib.hid (own_cell VO.out (w.heap.size+1+1) 1 (.slice a2 (k+1) c2) (by omega))
   have US:=Lib.hid (show w.heap.size+3≤(x1.setCell ⟨w.heap.size+1+1,1,none⟩ (.slice a2 (k+1) c2)).heap.size from by have:=VS.out; simpa using this)
   clear BK V1 V2 V3 VG VO VS
   generalize x1.setCell ⟨w.heap.size+1+1,1,none⟩ (.slice a2 (k+1) c2)=x2 at *
   go_wp2_with fail
   go_roundw
   case rel=>exact⟨k+1,a2,c2,hlt,by go_num,UG.out,U1.out,U2.out,U3.out,UO.out,US.out⟩
   case measure=>simp [intOf]; omega
  ·obtain rfl:k=m:=by omega
   have BR:=Lib.hid (show BrN wr ⟨0,nearL k,[],[],[],[]⟩ (a,k,c) (none,0,0) (none,0,0) (none,0,0) (none,0,0) from ⟨brin_nil wr 0 (Row.of_own OE_14.out),_,OE_14.out⟩)
   have KK:=Lib.hid (ki_new k M4)
   have NL:=Lib.hid (show 1≤(nearL k).length from by rw [nearL_len]; exact M1.out)
   go_wp2_with fail
   go_loopw [5] (fun i wr=>∃ (k:Nat) (b:Br) (o1:Option Addr) (n1 c1:Nat) (o2:Option Addr) (n2 c2:Nat) (o3:Option Addr) (n3 c3:Nat) (o4:Option Addr) (n4 c4:Nat) (o5:Option Addr) (n5 c5:Nat),k≤n∧k≤12∧i=.int .i64 k∧Below w.heap.size w wr∧Box wr w.heap.size #[.int .i64 zn,.slice so n sc] 24∧Box wr (w.heap.size+1) #[.int .i64 0,.slice none 0 0,.slice none 0 0,.slice none 0 0,.slice none 0 0,.slice none 0 0] 31∧Box wr (w.heap.size+1+1) #[.int .i64 0,.slice o1 n1 c1,.slice o2 n2 c2,.slice o3 n3 c3,.slice o4 n4 c4,.slice o5 n5 c5] 31∧BrN wr b (o1,n1,c1) (o2,n2,c2) (o3,n3,c3) (o4,n4,c4) (o5,n5,c5)∧KI k b∧b.me=0∧1≤b.near.length∧SnK b) (fun i _=>12-(intOf i).toNat)
   case atStart=>exact⟨0,⟨0,nearL k,[],[],[],[]⟩,a,k,c,none,0,0,none,0,0,none,0,0,none,0,0,Nat.zero_le _,Nat.zero_le _,rfl,GB_10.out,X1_11.out,X2_12.out,X3_13.out,BR.out,KK.out,rfl,NL.out,⟨fun x h=>by simp at h,fun x h=>by simp at h,fun x h=>by simp at h⟩⟩
   case round =>
    clear WS BR KK NL GB_10 X1_11 X2_12 X3_13 OE_14
    obtain⟨i,b,o1,n1,c1,o2,n2,c2,o3,n3,c3,o4,n4,c4,o5,n5,c5,hin,hi12,rfl,hgb,hx1,hx2,hx3,hbr,hki,hme,hnl,hsn⟩:=hrel
    have GB_35:=Lib.hid (hgb)
    have X1_36:=Lib.hid (hx1)
    have X2_37:=Lib.hid (hx2)
    have X3_38:=Lib.hid (hx3)
    have BR_39:=Lib.hid (hbr)
    have KK:=Lib.hid hki
    have ME:=Lib.hid hme
    have NL:=Lib.hid hnl
    have SN:=Lib.hid hsn
    clear hgb hx1 hx2 hx3 hbr hki hme hnl hsn
    by_cases hlt:i<n∧i<12
    ·obtain⟨hc,h12⟩:=hlt
     have hc':(i:Int)<(n:Int):=by omega
     have h12':(i:Int)<12:=by omega
     have hw:IntKind.i64.wrap ((i:Int)+1)=(i:Int)+1:=IntWalk.i64_in _ (by omega)
     obtain⟨p,z0,z1,z2,z3,z4,h1,h2,h3,g1,g2,g3,has,vals,hpl,ix,pz,dz,ih,iv,hll⟩:=HS.out.at_ i hc
     have p0:=pz 0 _ rfl
     have p1:=pz 1 _ rfl
     have p2:=pz 2 _ rfl
     have p3:=pz 3 _ rfl
     have p4:=pz 4 _ rfl
     have p5:=pz 5 _ rfl
     have p6:=pz 6 _ rfl
     simp [Addr.add] at p0 p1 p2 p3 p4 p5 p6
     have r0:wr.cell? p=some (.int .i64 z0):=(GB_35.out.cell (show (p:Addr).block<w.heap.size from hpl)).trans p0
     have r1:wr.cell? ⟨p.block,p.off+1,none⟩=some (.int .i64 z1):=(GB_35.out.cell (show (⟨p.block,p.off+1,none⟩:Addr).block<w.heap.size from hpl)).trans p1
     have r2:wr.cell? ⟨p.block,p.off+2,none⟩=some (.int .i64 z2):=(GB_35.out.cell (show (⟨p.block,p.off+2,none⟩:Addr).block<w.heap.size from hpl)).trans p2
     have r3:wr.cell? ⟨p.block,p.off+3,none⟩=some (.int .i64 z3):=(GB_35.out.cell (show (⟨p.block,p.off+3,none⟩:Addr).block<w.heap.size from hpl)).trans p3
     have r4:wr.cell? ⟨p.block,p.off+4,none⟩=some (.int .i64 z4):=(GB_35.out.cell (show (⟨p.block,p.off+4,none⟩:Addr).block<w.heap.size from hpl)).trans p4
     have r5:wr.cell? ⟨p.block,p.off+5,none⟩=some (.slice h1 h2 h3):=(GB_35.out.cell (show (⟨p.block,p.off+5,none⟩:Addr).block<w.heap.size from hpl)).trans p5
     have r6:wr.cell? ⟨p.block,p.off+6,none⟩=some (.slice g1 g2 g3):=(GB_35.out.cell (show (⟨p.block,p.off+6,none⟩:Addr).block<w.heap.size from hpl)).trans p6
     have IH0:=Lib.hid ih
     have IV0:=Lib.hid iv
     have DZ:=Lib.hid dz
     have LL:=Lib.hid hll
     clear p0 p1 p2 p3 p4 p5 p6 pz ih iv dz hll
     obtain⟨x0,x1⟩:=X1_36.out.cs2
     go_upto_region 11 with fail
     clear r0 r1 r2 r3 r4 r5 r6 ix hpl
     clear x0 x1
     have NN:=newB wr (.cells #[.int .i64 z0,.int .i64 z1,.int .i64 z2,.int .i64 z3,.int .i64 z4,.slice h1 h2 h3,.slice g1 g2 g3] 74)
     have GB_40:=Lib.hid (GB_35.out.trans (NN.mono GB_35.out.size))
     have X1_40:=Lib.hid (X1_36.out.on NN)
     have X2_40:=Lib.hid (X2_37.out.on NN)
     have X3_40:=Lib.hid (X3_38.out.on NN)
     have BR_40:=Lib.hid (BR_39.out.on NN)
     clear GB_35 X1_36 X2_37 X3_38 BR_39
     have X6_41:=Lib.hid (box_new wr #[.int .i64 z0,.int .i64 z1,.int .i64 z2,.int .i64 z3,.int .i64 z4,.slice h1 h2 h3,.slice g1 g2 g3] 74)
     clear NN
     generalize wr.alloc (.cells #[.int .i64 z0,.int .i64 z1,.int .i64 z2,.int .i64 z3,.int .i64 z4,.slice h1 h2 h3,.slice g1 g2 g3] 74)=wa at *
     have WI:=Wi.within_any z2 0 2 wa (by decide) (by decide) (by decide) DZ.out.2.2.1.1 DZ.out.2.2.1.2
     have TB:=Lib.hid (Wi.within_bd z2 0 2 (by decide)).2
     generalize Wi.within z2 0 2=tt at *
     obtain⟨q0,q1,q2,q3,q4,q5,q6⟩:=X6_41.out.cs7
     go_wp2_with fail
     refine WI.mono ?_
     rintro e2 w2 ⟨rfl,rfl⟩
     clear WI
     go_upto_region 12 with fail
     clear q0 q1 q2 q3 q4 q5 q6
     have NN:=newB wa (.cells #[.int .i64 tt,.int .i64 0] 38)
     have GB_42:=Lib.hid (GB_40.out.trans (NN.mono GB_40.out.size))
     have X1_42:=Lib.hid (X1_40.out.on NN)
     have X2_42:=Lib.hid (X2_40.out.on NN)
     have X3_42:=Lib.hid (X3_40.out.on NN)
     have BR_42:=Lib.hid (BR_40.out.on NN)
     have X6_42:=Lib.hid (X6_41.out.on NN)
     clear GB_40 X1_40 X2_40 X3_40 BR_40 X6_41
     have X7_43:=Lib.hid (box_new wa #[.int .i64 tt,.int .i64 0] 38)
     clear NN
     generalize wa.alloc (.cells #[.int .i64 tt,.int .i64 0] 38)=wb at *
     refine bk12 _ wb wr.heap.size z0 z1 z2 z3 z4 h1 h2 h3 g1 g2 g3 _ _ _ _ _ _ _ _ _ _ _ _ _ _ _ _ _ _ _ _ _ _ _ _ _ _ _ _ _ _ _ _ _ _ _ _ _ _ _ _ _ _ _ _ _ _ _ _ _ _ _ _ _ _ _ _ _ _ _ _ _ _ _ _ _ _ _ _ _ _ _ _ _ _ _ _ _ _ _ _ _ _ _ _ _ _ _ _ _ _ _ _ _ _ _ _ _ _ _ _ _ _ _ _ _ _ _ _ _ _ _ _ _ _ _ _ _ _ _ _ _ _ _ X6_42.out DZ.out.2.2.2.1 DZ.out.2.2.2.2 ?_
     intro wc b8 v46 v47 v48 v49 v50 v51 v52 hb8 hbx hbel
     have GB_44:=Lib.hid (GB_42.out.trans (hbel.mono GB_42.out.size))
     have X1_44:=Lib.hid (X1_42.out.on hbel)
     have X2_44:=Lib.hid (X2_42.out.on hbel)
     have X3_44:=Lib.hid (X3_42.out.on hbel)
     have BR_44:=Lib.hid (BR_42.out.on hbel)
     have X6_44:=Lib.hid (X6_42.out.on hbel)
     have X7_44:=Lib.hid (X7_43.out.on hbel)
     clear GB_42 X1_42 X2_42 X3_42 BR_42 X6_42 X7_43
     have X8_45:=Lib.hid (hbx)
     clear hbx hbel
     have IB:=Lib.hid (Wi.within_bd z3 0 4 (by decide)).2
     generalize Wi.within z3 0 4=i1 at *
     generalize Wi.within z4 0 2=i2 at *
     have SD:=side_any 0 z1 (o1,n1,c1) (.slice o2 n2 c2) (.slice o3 n3 c3) (.slice o4 n4 c4) (.slice o5 n5 c5) b.near wc BR_44.out.br.near (by have:=KK.out.ln; omega) DZ.out.2.1.1 DZ.out.2.1.2
     have SC:=Lib.hid (side_comes b.near z1)
     generalize sideI b.near z1=f at *
     obtain⟨x0,x1,x2,x3,x4,x5⟩:=X3_44.out.cs6
     obtain⟨q0,q1,q2,q3,q4,q5,q6⟩:=X6_44.out.cs7
     go_wp2_with fail
     refine SD.mono ?_
     rintro e3 wd ⟨rfl,hb⟩
     clear SD
     clear x0 x1 x2 x3 x4 x5 q0 q1 q2 q3 q4 q5 q6
     have GB_46:=Lib.hid (GB_44.out.trans (hb.mono GB_44.out.size))
     have X1_46:=Lib.hid (X1_44.out.on hb)
     have X2_46:=Lib.hid (X2_44.out.on hb)
     have X3_46:=Lib.hid (X3_44.out.on hb)
     have BR_46:=Lib.hid (BR_44.out.on hb)
     have X6_46:=Lib.hid (X6_44.out.on hb)
     have X7_46:=Lib.hid (X7_44.out.on hb)
     have X8_46:=Lib.hid (X8_45.out.on hb)
     clear GB_44 X1_44 X2_44 X3_44 BR_44 X6_44 X7_44 X8_45
     clear hb
     go_upto_region 14 with fail
     refine bk14 _ wd wr.heap.size wa.heap.size b8 z0 z1 z2 z3 z4 tt 0 i1 i2 h1 h2 h3 g1 g2 g3 has vals _ _ _ _ _ _ _ _ _ _ _ _ _ _ _ _ _ _ _ _ _ _ _ _ _ _ _ _ _ _ _ _ _ _ _ _ _ _ _ _ _ _ _ _ _ _ _ _ _ _ _ _ _ _ _ _ _ _ _ _ _ _ _ _ _ _ _ _ _ _ _ _ _ _ _ _ _ _ _ _ _ _ _ _ _ _ _ _ _ _ _ _ _ _ _ _ _ _ _ _ _ _ _ _ _ _ _ _ _ _ _ _ _ _ _ _ _ _ _ _ _ X6_46.out DZ.out.1 X7_46.out X8_46.out (IH0.out.on GB_46.out) (IV0.out.on GB_46.out) LL.out.1 LL.out.2 ?_
     intro we b10 v57 v58 v59 v60 v61 v62 v63 v64 v65 m1 m2 m3 hb10 hbx hown hbel
     have GB_47:=Lib.hid (GB_46.out.trans (hbel.mono GB_46.out.size))
     have X1_47:=Lib.hid (X1_46.out.on hbel)
     have X2_47:=Lib.hid (X2_46.out.on hbel)
     have X3_47:=Lib.hid (X3_46.out.on hbel)
     have BR_47:=Lib.hid (BR_46.out.on hbel)
     have X6_47:=Lib.hid (X6_46.out.on hbel)
     have X7_47:=Lib.hid (X7_46.out.on hbel)
     have X8_47:=Lib.hid (X8_46.out.on hbel)
     clear GB_46 X1_46 X2_46 X3_46 BR_46 X6_46 X7_46 X8_46
     have X10_48:=Lib.hid (hbx)
     have PR:=Lib.hid (Row.of_own hown)
     have RP:=Lib.hid (prd_right5 has vals)
     have OP:=Lib.hid (prd_ok5 has vals)
     clear hbx hown hbel
     have MB:=Wi.within_bd z0 1 7 (by decide)
     generalize Wi.within z0 1 7=mk at *
     generalize (prd has vals 7).map r5=pp at *
     have KA:=KK.out.ls
     have KB:=KK.out.la
     have KC:=KK.out.lo
     have KD:=KK.out.le
     have KE:=KK.out.ln
     have CS:=Lib.hid (fun mk2 h=>rstep_any b (o1,n1,c1) (o2,n2,c2) (o3,n3,c3) (o4,n4,c4) (o5,n5,c5) f mk2 (tt,0) (i1,i2) (m1,m2,m3) (none,0,0) pp we BR_47.out.br PR.out h (by omega) (by omega) (by omega) (by omega) KK.out.pe KK.out.po OP.out KK.out.kn)
     have CA:=Lib.hid (radv_any b (o1,n1,c1) (o2,n2,c2) (o3,n3,c3) (o4,n4,c4) (o5,n5,c5) f (tt,0) (m1,m2,m3) pp we BR_47.out.br PR.out (by omega) (by omega) (by omega) (by omega) KK.out.pe KK.out.po OP.out)
     have CB:=Lib.hid (rsubs_any b (o1,n1,c1) (o2,n2,c2) (o3,n3,c3) (o4,n4,c4) (o5,n5,c5) (i1,i2) (m1,m2,m3) pp we BR_47.out.br PR.out (by omega) (by omega) (by omega) KK.out.pe KK.out.pa OP.out)
     have CU:=Lib.hid (runsubs_any b (o1,n1,c1) (o2,n2,c2) (o3,n3,c3) (o4,n4,c4) (o5,n5,c5) (i1,i2) we BR_47.out.br (by omega) (by omega) (by omega) KK.out.pe KK.out.kn)
     rw [ME.out] at CS CA CB CU
     clear KA KB KC KD KE
     obtain⟨x0,x1,x2,x3,x4,x5⟩:=X3_47.out.cs6
     obtain⟨y_0,y_1⟩:=X8_47.out.cs2
     obtain⟨z0,z1⟩:=X7_47.out.cs2
     obtain⟨q0,q1,q2,q3,q4,q5,q6⟩:=X10_48.out.cs7
     rcases (by omega:mk=1∨mk=2∨mk=3∨mk=4∨mk=5∨mk=6∨mk=7) with rfl|rfl|rfl|rfl|rfl|rfl|rfl
     ·go_wp2_with fail
      refine (CS.out 1 (by decide)).mono ?_
      rintro e5 wf ⟨⟨⟨aa,an,ac⟩,⟨sa,sn,sc2⟩,⟨ea,en,ec⟩,_,rfl,hbr,_⟩,hb⟩
      clear CS CA CB CU
      clear x0 x1 x2 x3 x4 x5 y_0 y_1 z0 z1 q0 q1 q2 q3 q4 q5 q6
      have KMX:=Lib.hid (km_step b f 1 (tt,0) (i1,i2) pp)
      have KIX:=Lib.hid (KK.out.step h12 f 1 (tt,0) (i1,i2) pp SC.out RP.out OP.out)
      have BN:=Lib.hid (show BrN wf (stepB b f 1 (tt,0) (i1,i2) pp).1 (o1,n1,c1) (aa,an,ac) (sa,sn,sc2) (ea,en,ec) (o5,n5,c5) from ⟨hbr,by rw [KMX.out.2.1]; exact (BR_47.out.on hb).no⟩)
      clear hbr
      clear BR_47 X6_47 X7_47 X8_47 X10_48
      have GB_49:=Lib.hid (GB_47.out.trans (hb.mono GB_47.out.size))
      have X1_49:=Lib.hid (X1_47.out.on hb)
      have X2_49:=Lib.hid (X2_47.out.on hb)
      have X3_49:=Lib.hid (X3_47.out.on hb)
      clear GB_47 X1_47 X2_47 X3_47
      clear hb
      obtain⟨k0,k1,k2,k3,k4,k5⟩:=X3_49.out.cs6
      obtain⟨kf0,kf1,kf2,kf3,kf4,kf5⟩:=X3_49.out.fs6
      have zz:=X3_49.out.lt
      have G1:=Lib.hid (setB_below (b:=w.heap.size+1+1) GB_49.out (by omega) (.int .i64 0) (.slice o1 n1 c1) (.slice aa an ac) (.slice sa sn sc2) (.slice ea en ec) (.slice o5 n5 c5))
      have G3:=Lib.hid (setB_box X3_49.out (.int .i64 0) (.slice o1 n1 c1) (.slice aa an ac) (.slice sa sn sc2) (.slice ea en ec) (.slice o5 n5 c5))
      have Ga:=Lib.hid (show Box _ _ _ _ from (setB_heap wf (w.heap.size+1+1) (.int .i64 0) (.slice o1 n1 c1) (.slice aa an ac) (.slice sa sn sc2) (.slice ea en ec) (.slice o5 n5 c5) w.heap.size (by omega)).trans X1_49.out)
      have Gb:=Lib.hid (show Box _ _ _ _ from (setB_heap wf (w.heap.size+1+1) (.int .i64 0) (.slice o1 n1 c1) (.slice aa an ac) (.slice sa sn sc2) (.slice ea en ec) (.slice o5 n5 c5) (w.heap.size+1) (by omega)).trans X2_49.out)
      have GN:=Lib.hid (BN.out.keep (s1:=(o1,n1,c1)) (s2:=(o2,n2,c2)) (s3:=(o3,n3,c3)) (s4:=(o4,n4,c4)) (s5:=(o5,n5,c5)) X3_49.out (but_setB wf (w.heap.size+1+1) (.int .i64 0) (.slice o1 n1 c1) (.slice aa an ac) (.slice sa sn sc2) (.slice ea en ec) (.slice o5 n5 c5)))
      clear BN GB_49 X1_49 X2_49 X3_49
      go_upto_region 9 with fail
      clear zz k0 k1 k2 k3 k4 k5 kf0 kf1 kf2 kf3 kf4 kf5
      unfold setB at G1 G3 Ga Gb GN
      generalize ((((((wf.setCell ⟨w.heap.size+1+1,0,none⟩ (.int .i64 0)).setCell ⟨w.heap.size+1+1,1,none⟩ (.slice o1 n1 c1)).setCell ⟨w.heap.size+1+1,2,none⟩ (.slice aa an ac)).setCell ⟨w.heap.size+1+1,3,none⟩ (.slice sa sn sc2)).setCell ⟨w.heap.size+1+1,4,none⟩ (.slice ea en ec)).setCell ⟨w.heap.size+1+1,5,none⟩ (.slice o5 n5 c5))=wg at *
      have MX:=Lib.hid (KMX.out.1.trans ME.out)
      have NX:=Lib.hid (show 1≤((stepB b f 1 (tt,0) (i1,i2) pp).1).near.length from by rw [KMX.out.2.1]; exact NL.out)
      have SX:=Lib.hid (show SnK ((stepB b f 1 (tt,0) (i1,i2) pp).1) from ⟨fun x hx=>by rcases KMX.out.2.2 x hx with h | h; exact SN.out.1 x h; rw [h]; exact TB.out,ks_step SN.out.2 _ _ _ _ _ IB.out⟩)
      go_wp2_with fail
      go_roundw
      case rel=>exact⟨i+1,(stepB b f 1 (tt,0) (i1,i2) pp).1,o1,n1,c1,aa,an,ac,sa,sn,sc2,ea,en,ec,o5,n5,c5,hc,h12,by go_num,G1.out,Ga.out,Gb.out,G3.out,GN.out,KIX.out,MX.out,NX.out,SX.out⟩
      case measure=>simp [intOf]; omega
     ·go_wp2_with fail
      refine (CS.out 2 (by decide)).mono ?_
      rintro e5 wf ⟨⟨⟨aa,an,ac⟩,⟨sa,sn,sc2⟩,⟨ea,en,ec⟩,_,rfl,hbr,_⟩,hb⟩
      clear CS CA CB CU
      clear x0 x1 x2 x3 x4 x5 y_0 y_1 z0 z1 q0 q1 q2 q3 q4 q5 q6
      have KMX:=Lib.hid (km_step b f 2 (tt,0) (i1,i2) pp)
      have KIX:=Lib.hid (KK.out.step h12 f 2 (tt,0) (i1,i2) pp SC.out RP.out OP.out)
      have BN:=Lib.hid (show BrN wf (stepB b f 2 (tt,0) (i1,i2) pp).1 (o1,n1,c1) (aa,an,ac) (sa,sn,sc2) (ea,en,ec) (o5,n5,c5) from ⟨hbr,by rw [KMX.out.2.1]; exact (BR_47.out.on hb).no⟩)
      clear hbr
      clear BR_47 X6_47 X7_47 X8_47 X10_48
      have GB_49:=Lib.hid (GB_47.out.trans (hb.mono GB_47.out.size))
      have X1_49:=Lib.hid (X1_47.out.on hb)
      have X2_49:=Lib.hid (X2_47.out.on hb)
      have X3_49:=Lib.hid (X3_47.out.on hb)
      clear GB_47 X1_47 X2_47 X3_47
      clear hb
      obtain⟨k0,k1,k2,k3,k4,k5⟩:=X3_49.out.cs6
      obtain⟨kf0,kf1,kf2,kf3,kf4,kf5⟩:=X3_49.out.fs6
      have zz:=X3_49.out.lt
      have G1:=Lib.hid (setB_below (b:=w.heap.size+1+1) GB_49.out (by omega) (.int .i64 0) (.slice o1 n1 c1) (.slice aa an ac) (.slice sa sn sc2) (.slice ea en ec) (.slice o5 n5 c5))
      have G3:=Lib.hid (setB_box X3_49.out (.int .i64 0) (.slice o1 n1 c1) (.slice aa an ac) (.slice sa sn sc2) (.slice ea en ec) (.slice o5 n5 c5))
      have Ga:=Lib.hid (show Box _ _ _ _ from (setB_heap wf (w.heap.size+1+1) (.int .i64 0) (.slice o1 n1 c1) (.slice aa an ac) (.slice sa sn sc2) (.slice ea en ec) (.slice o5 n5 c5) w.heap.size (by omega)).trans X1_49.out)
      have Gb:=Lib.hid (show Box _ _ _ _ from (setB_heap wf (w.heap.size+1+1) (.int .i64 0) (.slice o1 n1 c1) (.slice aa an ac) (.slice sa sn sc2) (.slice ea en ec) (.slice o5 n5 c5) (w.heap.size+1) (by omega)).trans X2_49.out)
      have GN:=Lib.hid (BN.out.keep (s1:=(o1,n1,c1)) (s2:=(o2,n2,c2)) (s3:=(o3,n3,c3)) (s4:=(o4,n4,c4)) (s5:=(o5,n5,c5)) X3_49.out (but_setB wf (w.heap.size+1+1) (.int .i64 0) (.slice o1 n1 c1) (.slice aa an ac) (.slice sa sn sc2) (.slice ea en ec) (.slice o5 n5 c5)))
      clear BN GB_49 X1_49 X2_49 X3_49
      go_upto_region 9 with fail
      clear zz k0 k1 k2 k3 k4 k5 kf0 kf1 kf2 kf3 kf4 kf5
      unfold setB at G1 G3 Ga Gb GN
      generalize ((((((wf.setCell ⟨w.heap.size+1+1,0,none⟩ (.int .i64 0)).setCell ⟨w.heap.size+1+1,1,none⟩ (.slice o1 n1 c1)).setCell ⟨w.heap.size+1+1,2,none⟩ (.slice aa an ac)).setCell ⟨w.heap.size+1+1,3,none⟩ (.slice sa sn sc2)).setCell ⟨w.heap.size+1+1,4,none⟩ (.slice ea en ec)).setCell ⟨w.heap.size+1+1,5,none⟩ (.slice o5 n5 c5))=wg at *
      have MX:=Lib.hid (KMX.out.1.trans ME.out)
      have NX:=Lib.hid (show 1≤((stepB b f 2 (tt,0) (i1,i2) pp).1).near.length from by rw [KMX.out.2.1]; exact NL.out)
      have SX:=Lib.hid (show SnK ((stepB b f 2 (tt,0) (i1,i2) pp).1) from ⟨fun x hx=>by rcases KMX.out.2.2 x hx with h | h; exact SN.out.1 x h; rw [h]; exact TB.out,ks_step SN.out.2 _ _ _ _ _ IB.out⟩)
      go_wp2_with fail
      go_roundw
      case rel=>exact⟨i+1,(stepB b f 2 (tt,0) (i1,i2) pp).1,o1,n1,c1,aa,an,ac,sa,sn,sc2,ea,en,ec,o5,n5,c5,hc,h12,by go_num,G1.out,Ga.out,Gb.out,G3.out,GN.out,KIX.out,MX.out,NX.out,SX.out⟩
      case measure=>simp [intOf]; omega
     ·by_cases hf:f=-1
      ·subst hf
       go_wp2_with fail
       refine CA.out.mono ?_
       rintro e5 wf ⟨⟨⟨aa,an,ac⟩,⟨sa,sn,sc2⟩,⟨ea,en,ec⟩,_,rfl,hbr,_⟩,hb⟩
       clear CS CA CB CU
       clear x0 x1 x2 x3 x4 x5 y_0 y_1 z0 z1 q0 q1 q2 q3 q4 q5 q6
       have KMX:=Lib.hid (km_adv b (-1) (tt,0) pp)
       have KIX:=Lib.hid (KK.out.adv h12 (-1) (tt,0) pp SC.out RP.out OP.out)
       have BN:=Lib.hid (show BrN wf (advB b (-1) (tt,0) pp).1 (o1,n1,c1) (aa,an,ac) (sa,sn,sc2) (ea,en,ec) (o5,n5,c5) from ⟨hbr,by rw [KMX.out.2.1]; exact (BR_47.out.on hb).no⟩)
       clear hbr
       clear BR_47 X6_47 X7_47 X8_47 X10_48
       have GB_49:=Lib.hid (GB_47.out.trans (hb.mono GB_47.out.size))
       have X1_49:=Lib.hid (X1_47.out.on hb)
       have X2_49:=Lib.hid (X2_47.out.on hb)
       have X3_49:=Lib.hid (X3_47.out.on hb)
       clear GB_47 X1_47 X2_47 X3_47
       clear hb
       obtain⟨k0,k1,k2,k3,k4,k5⟩:=X3_49.out.cs6
       obtain⟨kf0,kf1,kf2,kf3,kf4,kf5⟩:=X3_49.out.fs6
       have zz:=X3_49.out.lt
       have G1:=Lib.hid (setB_below (b:=w.heap.size+1+1) GB_49.out (by omega) (.int .i64 0) (.slice o1 n1 c1) (.slice aa an ac) (.slice sa sn sc2) (.slice ea en ec) (.slice o5 n5 c5))
       have G3:=Lib.hid (setB_box X3_49.out (.int .i64 0) (.slice o1 n1 c1) (.slice aa an ac) (.slice sa sn sc2) (.slice ea en ec) (.slice o5 n5 c5))
       have Ga:=Lib.hid (show Box _ _ _ _ from (setB_heap wf (w.heap.size+1+1) (.int .i64 0) (.slice o1 n1 c1) (.slice aa an ac) (.slice sa sn sc2) (.slice ea en ec) (.slice o5 n5 c5) w.heap.size (by omega)).trans X1_49.out)
       have Gb:=Lib.hid (show Box _ _ _ _ from (setB_heap wf (w.heap.size+1+1) (.int .i64 0) (.slice o1 n1 c1) (.slice aa an ac) (.slice sa sn sc2) (.slice ea en ec) (.slice o5 n5 c5) (w.heap.size+1) (by omega)).trans X2_49.out)
       have GN:=Lib.hid (BN.out.keep (s1:=(o1,n1,c1)) (s2:=(o2,n2,c2)) (s3:=(o3,n3,c3)) (s4:=(o4,n4,c4)) (s5:=(o5,n5,c5)) X3_49.out (but_setB wf (w.heap.size+1+1) (.int .i64 0) (.slice o1 n1 c1) (.slice aa an ac) (.slice sa sn sc2) (.slice ea en ec) (.slice o5 n5 c5)))
       clear BN GB_49 X1_49 X2_49 X3_49
       go_upto_region 9 with fail
       clear zz k0 k1 k2 k3 k4 k5 kf0 kf1 kf2 kf3 kf4 kf5
       unfold setB at G1 G3 Ga Gb GN
       generalize ((((((wf.setCell ⟨w.heap.size+1+1,0,none⟩ (.int .i64 0)).setCell ⟨w.heap.size+1+1,1,none⟩ (.slice o1 n1 c1)).setCell ⟨w.heap.size+1+1,2,none⟩ (.slice aa an ac)).setCell ⟨w.heap.size+1+1,3,none⟩ (.slice sa sn sc2)).setCell ⟨w.heap.size+1+1,4,none⟩ (.slice ea en ec)).setCell ⟨w.heap.size+1+1,5,none⟩ (.slice o5 n5 c5))=wg at *
       have MX:=Lib.hid (KMX.out.1.trans ME.out)
       have NX:=Lib.hid (show 1≤((advB b (-1) (tt,0) pp).1).near.length from by rw [KMX.out.2.1]; exact NL.out)
       have SX:=Lib.hid (show SnK ((advB b (-1) (tt,0) pp).1) from ⟨fun x hx=>by rcases KMX.out.2.2 x hx with h | h; exact SN.out.1 x h; rw [h]; exact TB.out,ks_adv SN.out.2 _ _ _⟩)
       go_wp2_with fail
       go_roundw
       case rel=>exact⟨i+1,(advB b (-1) (tt,0) pp).1,o1,n1,c1,aa,an,ac,sa,sn,sc2,ea,en,ec,o5,n5,c5,hc,h12,by go_num,G1.out,Ga.out,Gb.out,G3.out,GN.out,KIX.out,MX.out,NX.out,SX.out⟩
       case measure=>simp [intOf]; omega
      ·have hfm:(f == -1)=false:=by simp [hf]
       go_wp2_with fail
       refine (CS.out 3 (by decide)).mono ?_
       rintro e5 wf ⟨⟨⟨aa,an,ac⟩,⟨sa,sn,sc2⟩,⟨ea,en,ec⟩,_,rfl,hbr,_⟩,hb⟩
       clear CS CA CB CU
       clear x0 x1 x2 x3 x4 x5 y_0 y_1 z0 z1 q0 q1 q2 q3 q4 q5 q6
       have KMX:=Lib.hid (km_step b f 3 (tt,0) (i1,i2) pp)
       have KIX:=Lib.hid (KK.out.step h12 f 3 (tt,0) (i1,i2) pp SC.out RP.out OP.out)
       have BN:=Lib.hid (show BrN wf (stepB b f 3 (tt,0) (i1,i2) pp).1 (o1,n1,c1) (aa,an,ac) (sa,sn,sc2) (ea,en,ec) (o5,n5,c5) from ⟨hbr,by rw [KMX.out.2.1]; exact (BR_47.out.on hb).no⟩)
       clear hbr
       clear BR_47 X6_47 X7_47 X8_47 X10_48
       have GB_49:=Lib.hid (GB_47.out.trans (hb.mono GB_47.out.size))
       have X1_49:=Lib.hid (X1_47.out.on hb)
       have X2_49:=Lib.hid (X2_47.out.on hb)
       have X3_49:=Lib.hid (X3_47.out.on hb)
       clear GB_47 X1_47 X2_47 X3_47
       clear hb
       obtain⟨k0,k1,k2,k3,k4,k5⟩:=X3_49.out.cs6
       obtain⟨kf0,kf1,kf2,kf3,kf4,kf5⟩:=X3_49.out.fs6
       have zz:=X3_49.out.lt
       have G1:=Lib.hid (setB_below (b:=w.heap.size+1+1) GB_49.out (by omega) (.int .i64 0) (.slice o1 n1 c1) (.slice aa an ac) (.slice sa sn sc2) (.slice ea en ec) (.slice o5 n5 c5))
       have G3:=Lib.hid (setB_box X3_49.out (.int .i64 0) (.slice o1 n1 c1) (.slice aa an ac) (.slice sa sn sc2) (.slice ea en ec) (.slice o5 n5 c5))
       have Ga:=Lib.hid (show Box _ _ _ _ from (setB_heap wf (w.heap.size+1+1) (.int .i64 0) (.slice o1 n1 c1) (.slice aa an ac) (.slice sa sn sc2) (.slice ea en ec) (.slice o5 n5 c5) w.heap.size (by omega)).trans X1_49.out)
       have Gb:=Lib.hid (show Box _ _ _ _ from (setB_heap wf (w.heap.size+1+1) (.int .i64 0) (.slice o1 n1 c1) (.slice aa an ac) (.slice sa sn sc2) (.slice ea en ec) (.slice o5 n5 c5) (w.heap.size+1) (by omega)).trans X2_49.out)
       have GN:=Lib.hid (BN.out.keep (s1:=(o1,n1,c1)) (s2:=(o2,n2,c2)) (s3:=(o3,n3,c3)) (s4:=(o4,n4,c4)) (s5:=(o5,n5,c5)) X3_49.out (but_setB wf (w.heap.size+1+1) (.int .i64 0) (.slice o1 n1 c1) (.slice aa an ac) (.slice sa sn sc2) (.slice ea en ec) (.slice o5 n5 c5)))
       clear BN GB_49 X1_49 X2_49 X3_49
       go_upto_region 9 with fail
       clear zz k0 k1 k2 k3 k4 k5 kf0 kf1 kf2 kf3 kf4 kf5
       unfold setB at G1 G3 Ga Gb GN
       generalize ((((((wf.setCell ⟨w.heap.size+1+1,0,none⟩ (.int .i64 0)).setCell ⟨w.heap.size+1+1,1,none⟩ (.slice o1 n1 c1)).setCell ⟨w.heap.size+1+1,2,none⟩ (.slice aa an ac)).setCell ⟨w.heap.size+1+1,3,none⟩ (.slice sa sn sc2)).setCell ⟨w.heap.size+1+1,4,none⟩ (.slice ea en ec)).setCell ⟨w.heap.size+1+1,5,none⟩ (.slice o5 n5 c5))=wg at *
       have MX:=Lib.hid (KMX.out.1.trans ME.out)
       have NX:=Lib.hid (show 1≤((stepB b f 3 (tt,0) (i1,i2) pp).1).near.length from by rw [KMX.out.2.1]; exact NL.out)
       have SX:=Lib.hid (show SnK ((stepB b f 3 (tt,0) (i1,i2) pp).1) from ⟨fun x hx=>by rcases KMX.out.2.2 x hx with h | h; exact SN.out.1 x h; rw [h]; exact TB.out,ks_step SN.out.2 _ _ _ _ _ IB.out⟩)
       go_wp2_with fail
       go_roundw
       case rel=>exact⟨i+1,(stepB b f 3 (tt,0) (i1,i2) pp).1,o1,n1,c1,aa,an,ac,sa,sn,sc2,ea,en,ec,o5,n5,c5,hc,h12,by go_num,G1.out,Ga.out,Gb.out,G3.out,GN.out,KIX.out,MX.out,NX.out,SX.out⟩
       case measure=>simp [intOf]; omega
     ·by_cases hf:f=-1
      ·subst hf
       go_wp2_with fail
       refine CA.out.mono ?_
       rintro e5 wf ⟨⟨⟨aa,an,ac⟩,⟨sa,sn,sc2⟩,⟨ea,en,ec⟩,_,rfl,hbr,_⟩,hb⟩
       clear CS CA CB CU
       clear x0 x1 x2 x3 x4 x5 y_0 y_1 z0 z1 q0 q1 q2 q3 q4 q5 q6
       have KMX:=Lib.hid (km_adv b (-1) (tt,0) pp)
       have KIX:=Lib.hid (KK.out.adv h12 (-1) (tt,0) pp SC.out RP.out OP.out)
       have BN:=Lib.hid (show BrN wf (advB b (-1) (tt,0) pp).1 (o1,n1,c1) (aa,an,ac) (sa,sn,sc2) (ea,en,ec) (o5,n5,c5) from ⟨hbr,by rw [KMX.out.2.1]; exact (BR_47.out.on hb).no⟩)
       clear hbr
       clear BR_47 X6_47 X7_47 X8_47 X10_48
       have GB_49:=Lib.hid (GB_47.out.trans (hb.mono GB_47.out.size))
       have X1_49:=Lib.hid (X1_47.out.on hb)
       have X2_49:=Lib.hid (X2_47.out.on hb)
       have X3_49:=Lib.hid (X3_47.out.on hb)
       clear GB_47 X1_47 X2_47 X3_47
       clear hb
       obtain⟨k0,k1,k2,k3,k4,k5⟩:=X3_49.out.cs6
       obtain⟨kf0,kf1,kf2,kf3,kf4,kf5⟩:=X3_49.out.fs6
       have zz:=X3_49.out.lt
       have G1:=Lib.hid (setB_below (b:=w.heap.size+1+1) GB_49.out (by omega) (.int .i64 0) (.slice o1 n1 c1) (.slice aa an ac) (.slice sa sn sc2) (.slice ea en ec) (.slice o5 n5 c5))
       have G3:=Lib.hid (setB_box X3_49.out (.int .i64 0) (.slice o1 n1 c1) (.slice aa an ac) (.slice sa sn sc2) (.slice ea en ec) (.slice o5 n5 c5))
       have Ga:=Lib.hid (show Box _ _ _ _ from (setB_heap wf (w.heap.size+1+1) (.int .i64 0) (.slice o1 n1 c1) (.slice aa an ac) (.slice sa sn sc2) (.slice ea en ec) (.slice o5 n5 c5) w.heap.size (by omega)).trans X1_49.out)
       have Gb:=Lib.hid (show Box _ _ _ _ from (setB_heap wf (w.heap.size+1+1) (.int .i64 0) (.slice o1 n1 c1) (.slice aa an ac) (.slice sa sn sc2) (.slice ea en ec) (.slice o5 n5 c5) (w.heap.size+1) (by omega)).trans X2_49.out)
       have GN:=Lib.hid (BN.out.keep (s1:=(o1,n1,c1)) (s2:=(o2,n2,c2)) (s3:=(o3,n3,c3)) (s4:=(o4,n4,c4)) (s5:=(o5,n5,c5)) X3_49.out (but_setB wf (w.heap.size+1+1) (.int .i64 0) (.slice o1 n1 c1) (.slice aa an ac) (.slice sa sn sc2) (.slice ea en ec) (.slice o5 n5 c5)))
       clear BN GB_49 X1_49 X2_49 X3_49
       go_upto_region 9 with fail
       clear zz k0 k1 k2 k3 k4 k5 kf0 kf1 kf2 kf3 kf4 kf5
       unfold setB at G1 G3 Ga Gb GN
       generalize ((((((wf.setCell ⟨w.heap.size+1+1,0,none⟩ (.int .i64 0)).setCell ⟨w.heap.size+1+1,1,none⟩ (.slice o1 n1 c1)).setCell ⟨w.heap.size+1+1,2,none⟩ (.slice aa an ac)).setCell ⟨w.heap.size+1+1,3,none⟩ (.slice sa sn sc2)).setCell ⟨w.heap.size+1+1,4,none⟩ (.slice ea en ec)).setCell ⟨w.heap.size+1+1,5,none⟩ (.slice o5 n5 c5))=wg at *
       have MX:=Lib.hid (KMX.out.1.trans ME.out)
       have NX:=Lib.hid (show 1≤((advB b (-1) (tt,0) pp).1).near.length from by rw [KMX.out.2.1]; exact NL.out)
       have SX:=Lib.hid (show SnK ((advB b (-1) (tt,0) pp).1) from ⟨fun x hx=>by rcases KMX.out.2.2 x hx with h | h; exact SN.out.1 x h; rw [h]; exact TB.out,ks_adv SN.out.2 _ _ _⟩)
       go_wp2_with fail
       go_roundw
       case rel=>exact⟨i+1,(advB b (-1) (tt,0) pp).1,o1,n1,c1,aa,an,ac,sa,sn,sc2,ea,en,ec,o5,n5,c5,hc,h12,by go_num,G1.out,Ga.out,Gb.out,G3.out,GN.out,KIX.out,MX.out,NX.out,SX.out⟩
       case measure=>simp [intOf]; omega
      ·have hfm:(f == -1)=false:=by simp [hf]
       go_wp2_with fail
       refine (CS.out 4 (by decide)).mono ?_
       rintro e5 wf ⟨⟨⟨aa,an,ac⟩,⟨sa,sn,sc2⟩,⟨ea,en,ec⟩,_,rfl,hbr,_⟩,hb⟩
       clear CS CA CB CU
       clear x0 x1 x2 x3 x4 x5 y_0 y_1 z0 z1 q0 q1 q2 q3 q4 q5 q6
       have KMX:=Lib.hid (km_step b f 4 (tt,0) (i1,i2) pp)
       have KIX:=Lib.hid (KK.out.step h12 f 4 (tt,0) (i1,i2) pp SC.out RP.out OP.out)
       have BN:=Lib.hid (show BrN wf (stepB b f 4 (tt,0) (i1,i2) pp).1 (o1,n1,c1) (aa,an,ac) (sa,sn,sc2) (ea,en,ec) (o5,n5,c5) from ⟨hbr,by rw [KMX.out.2.1]; exact (BR_47.out.on hb).no⟩)
       clear hbr
       clear BR_47 X6_47 X7_47 X8_47 X10_48
       have GB_49:=Lib.hid (GB_47.out.trans (hb.mono GB_47.out.size))
       have X1_49:=Lib.hid (X1_47.out.on hb)
       have X2_49:=Lib.hid (X2_47.out.on hb)
       have X3_49:=Lib.hid (X3_47.out.on hb)
       clear GB_47 X1_47 X2_47 X3_47
       clear hb
       obtain⟨k0,k1,k2,k3,k4,k5⟩:=X3_49.out.cs6
       obtain⟨kf0,kf1,kf2,kf3,kf4,kf5⟩:=X3_49.out.fs6
       have zz:=X3_49.out.lt
       have G1:=Lib.hid (setB_below (b:=w.heap.size+1+1) GB_49.out (by omega) (.int .i64 0) (.slice o1 n1 c1) (.slice aa an ac) (.slice sa sn sc2) (.slice ea en ec) (.slice o5 n5 c5))
       have G3:=Lib.hid (setB_box X3_49.out (.int .i64 0) (.slice o1 n1 c1) (.slice aa an ac) (.slice sa sn sc2) (.slice ea en ec) (.slice o5 n5 c5))
       have Ga:=Lib.hid (show Box _ _ _ _ from (setB_heap wf (w.heap.size+1+1) (.int .i64 0) (.slice o1 n1 c1) (.slice aa an ac) (.slice sa sn sc2) (.slice ea en ec) (.slice o5 n5 c5) w.heap.size (by omega)).trans X1_49.out)
       have Gb:=Lib.hid (show Box _ _ _ _ from (setB_heap wf (w.heap.size+1+1) (.int .i64 0) (.slice o1 n1 c1) (.slice aa an ac) (.slice sa sn sc2) (.slice ea en ec) (.slice o5 n5 c5) (w.heap.size+1) (by omega)).trans X2_49.out)
       have GN:=Lib.hid (BN.out.keep (s1:=(o1,n1,c1)) (s2:=(o2,n2,c2)) (s3:=(o3,n3,c3)) (s4:=(o4,n4,c4)) (s5:=(o5,n5,c5)) X3_49.out (but_setB wf (w.heap.size+1+1) (.int .i64 0) (.slice o1 n1 c1) (.slice aa an ac) (.slice sa sn sc2) (.slice ea en ec) (.slice o5 n5 c5)))
       clear BN GB_49 X1_49 X2_49 X3_49
       go_upto_region 9 with fail
       clear zz k0 k1 k2 k3 k4 k5 kf0 kf1 kf2 kf3 kf4 kf5
       unfold setB at G1 G3 Ga Gb GN
       generalize ((((((wf.setCell ⟨w.heap.size+1+1,0,none⟩ (.int .i64 0)).setCell ⟨w.heap.size+1+1,1,none⟩ (.slice o1 n1 c1)).setCell ⟨w.heap.size+1+1,2,none⟩ (.slice aa an ac)).setCell ⟨w.heap.size+1+1,3,none⟩ (.slice sa sn sc2)).setCell ⟨w.heap.size+1+1,4,none⟩ (.slice ea en ec)).setCell ⟨w.heap.size+1+1,5,none⟩ (.slice o5 n5 c5))=wg at *
       have MX:=Lib.hid (KMX.out.1.trans ME.out)
       have NX:=Lib.hid (show 1≤((stepB b f 4 (tt,0) (i1,i2) pp).1).near.length from by rw [KMX.out.2.1]; exact NL.out)
       have SX:=Lib.hid (show SnK ((stepB b f 4 (tt,0) (i1,i2) pp).1) from ⟨fun x hx=>by rcases KMX.out.2.2 x hx with h | h; exact SN.out.1 x h; rw [h]; exact TB.out,ks_step SN.out.2 _ _ _ _ _ IB.out⟩)
       go_wp2_with fail
       go_roundw
       case rel=>exact⟨i+1,(stepB b f 4 (tt,0) (i1,i2) pp).1,o1,n1,c1,aa,an,ac,sa,sn,sc2,ea,en,ec,o5,n5,c5,hc,h12,by go_num,G1.out,Ga.out,Gb.out,G3.out,GN.out,KIX.out,MX.out,NX.out,SX.out⟩
       case measure=>simp [intOf]; omega
     ·go_wp2_with fail
      refine CA.out.mono ?_
      rintro e5 wf ⟨⟨⟨aa,an,ac⟩,⟨sa,sn,sc2⟩,⟨ea,en,ec⟩,_,rfl,hbr,_⟩,hb⟩
      clear CS CA CB CU
      clear x0 x1 x2 x3 x4 x5 y_0 y_1 z0 z1 q0 q1 q2 q3 q4 q5 q6
      have KMX:=Lib.hid (km_adv b f (tt,0) pp)
      have KIX:=Lib.hid (KK.out.adv h12 f (tt,0) pp SC.out RP.out OP.out)
      have BN:=Lib.hid (show BrN wf (advB b f (tt,0) pp).1 (o1,n1,c1) (aa,an,ac) (sa,sn,sc2) (ea,en,ec) (o5,n5,c5) from ⟨hbr,by rw [KMX.out.2.1]; exact (BR_47.out.on hb).no⟩)
      clear hbr
      clear BR_47 X6_47 X7_47 X8_47 X10_48
      have GB_49:=Lib.hid (GB_47.out.trans (hb.mono GB_47.out.size))
      have X1_49:=Lib.hid (X1_47.out.on hb)
      have X2_49:=Lib.hid (X2_47.out.on hb)
      have X3_49:=Lib.hid (X3_47.out.on hb)
      clear GB_47 X1_47 X2_47 X3_47
      clear hb
      obtain⟨k0,k1,k2,k3,k4,k5⟩:=X3_49.out.cs6
      obtain⟨kf0,kf1,kf2,kf3,kf4,kf5⟩:=X3_49.out.fs6
      have zz:=X3_49.out.lt
      have G1:=Lib.hid (setB_below (b:=w.heap.size+1+1) GB_49.out (by omega) (.int .i64 0) (.slice o1 n1 c1) (.slice aa an ac) (.slice sa sn sc2) (.slice ea en ec) (.slice o5 n5 c5))
      have G3:=Lib.hid (setB_box X3_49.out (.int .i64 0) (.slice o1 n1 c1) (.slice aa an ac) (.slice sa sn sc2) (.slice ea en ec) (.slice o5 n5 c5))
      have Ga:=Lib.hid (show Box _ _ _ _ from (setB_heap wf (w.heap.size+1+1) (.int .i64 0) (.slice o1 n1 c1) (.slice aa an ac) (.slice sa sn sc2) (.slice ea en ec) (.slice o5 n5 c5) w.heap.size (by omega)).trans X1_49.out)
      have Gb:=Lib.hid (show Box _ _ _ _ from (setB_heap wf (w.heap.size+1+1) (.int .i64 0) (.slice o1 n1 c1) (.slice aa an ac) (.slice sa sn sc2) (.slice ea en ec) (.slice o5 n5 c5) (w.heap.size+1) (by omega)).trans X2_49.out)
      have GN:=Lib.hid (BN.out.keep (s1:=(o1,n1,c1)) (s2:=(o2,n2,c2)) (s3:=(o3,n3,c3)) (s4:=(o4,n4,c4)) (s5:=(o5,n5,c5)) X3_49.out (but_setB wf (w.heap.size+1+1) (.int .i64 0) (.slice o1 n1 c1) (.slice aa an ac) (.slice sa sn sc2) (.slice ea en ec) (.slice o5 n5 c5)))
      clear BN GB_49 X1_49 X2_49 X3_49
      go_upto_region 9 with fail
      clear zz k0 k1 k2 k3 k4 k5 kf0 kf1 kf2 kf3 kf4 kf5
      unfold setB at G1 G3 Ga Gb GN
      generalize ((((((wf.setCell ⟨w.heap.size+1+1,0,none⟩ (.int .i64 0)).setCell ⟨w.heap.size+1+1,1,none⟩ (.slice o1 n1 c1)).setCell ⟨w.heap.size+1+1,2,none⟩ (.slice aa an ac)).setCell ⟨w.heap.size+1+1,3,none⟩ (.slice sa sn sc2)).setCell ⟨w.heap.size+1+1,4,none⟩ (.slice ea en ec)).setCell ⟨w.heap.size+1+1,5,none⟩ (.slice o5 n5 c5))=wg at *
      have MX:=Lib.hid (KMX.out.1.trans ME.out)
      have NX:=Lib.hid (show 1≤((advB b f (tt,0) pp).1).near.length from by rw [KMX.out.2.1]; exact NL.out)
      have SX:=Lib.hid (show SnK ((advB b f (tt,0) pp).1) from ⟨fun x hx=>by rcases KMX.out.2.2 x hx with h | h; exact SN.out.1 x h; rw [h]; exact TB.out,ks_adv SN.out.2 _ _ _⟩)
      go_wp2_with fail
      go_roundw
      case rel=>exact⟨i+1,(advB b f (tt,0) pp).1,o1,n1,c1,aa,an,ac,sa,sn,sc2,ea,en,ec,o5,n5,c5,hc,h12,by go_num,G1.out,Ga.out,Gb.out,G3.out,GN.out,KIX.out,MX.out,NX.out,SX.out⟩
      case measure=>simp [intOf]; omega
     ·go_wp2_with fail
      refine CB.out.mono ?_
      rintro e5 wf ⟨⟨⟨ea,en,ec⟩,⟨oa,on2,oc⟩,_,rfl,hbr,_⟩,hb⟩
      clear CS CA CB CU
      clear x0 x1 x2 x3 x4 x5 y_0 y_1 z0 z1 q0 q1 q2 q3 q4 q5 q6
      have KMX:=Lib.hid (km_subs (tt,0) b (i1,i2) pp)
      have KIX:=Lib.hid (KK.out.subs h12 (i1,i2) pp RP.out OP.out)
      have BN:=Lib.hid (show BrN wf (subsB b (i1,i2) pp).1 (o1,n1,c1) (o2,n2,c2) (o3,n3,c3) (ea,en,ec) (oa,on2,oc) from ⟨hbr,by rw [KMX.out.2.1]; exact (BR_47.out.on hb).no⟩)
      clear hbr
      clear BR_47 X6_47 X7_47 X8_47 X10_48
      have GB_49:=Lib.hid (GB_47.out.trans (hb.mono GB_47.out.size))
      have X1_49:=Lib.hid (X1_47.out.on hb)
      have X2_49:=Lib.hid (X2_47.out.on hb)
      have X3_49:=Lib.hid (X3_47.out.on hb)
      clear GB_47 X1_47 X2_47 X3_47
      clear hb
      obtain⟨k0,k1,k2,k3,k4,k5⟩:=X3_49.out.cs6
      obtain⟨kf0,kf1,kf2,kf3,kf4,kf5⟩:=X3_49.out.fs6
      have zz:=X3_49.out.lt
      have G1:=Lib.hid (setB_below (b:=w.heap.size+1+1) GB_49.out (by omega) (.int .i64 0) (.slice o1 n1 c1) (.slice o2 n2 c2) (.slice o3 n3 c3) (.slice ea en ec) (.slice oa on2 oc))
      have G3:=Lib.hid (setB_box X3_49.out (.int .i64 0) (.slice o1 n1 c1) (.slice o2 n2 c2) (.slice o3 n3 c3) (.slice ea en ec) (.slice oa on2 oc))
      have Ga:=Lib.hid (show Box _ _ _ _ from (setB_heap wf (w.heap.size+1+1) (.int .i64 0) (.slice o1 n1 c1) (.slice o2 n2 c2) (.slice o3 n3 c3) (.slice ea en ec) (.slice oa on2 oc) w.heap.size (by omega)).trans X1_49.out)
      have Gb:=Lib.hid (show Box _ _ _ _ from (setB_heap wf (w.heap.size+1+1) (.int .i64 0) (.slice o1 n1 c1) (.slice o2 n2 c2) (.slice o3 n3 c3) (.slice ea en ec) (.slice oa on2 oc) (w.heap.size+1) (by omega)).trans X2_49.out)
      have GN:=Lib.hid (BN.out.keep (s1:=(o1,n1,c1)) (s2:=(o2,n2,c2)) (s3:=(o3,n3,c3)) (s4:=(o4,n4,c4)) (s5:=(o5,n5,c5)) X3_49.out (but_setB wf (w.heap.size+1+1) (.int .i64 0) (.slice o1 n1 c1) (.slice o2 n2 c2) (.slice o3 n3 c3) (.slice ea en ec) (.slice oa on2 oc)))
      clear BN GB_49 X1_49 X2_49 X3_49
      go_upto_region 9 with fail
      clear zz k0 k1 k2 k3 k4 k5 kf0 kf1 kf2 kf3 kf4 kf5
      unfold setB at G1 G3 Ga Gb GN
      generalize ((((((wf.setCell ⟨w.heap.size+1+1,0,none⟩ (.int .i64 0)).setCell ⟨w.heap.size+1+1,1,none⟩ (.slice o1 n1 c1)).setCell ⟨w.heap.size+1+1,2,none⟩ (.slice o2 n2 c2)).setCell ⟨w.heap.size+1+1,3,none⟩ (.slice o3 n3 c3)).setCell ⟨w.heap.size+1+1,4,none⟩ (.slice ea en ec)).setCell ⟨w.heap.size+1+1,5,none⟩ (.slice oa on2 oc))=wg at *
      have MX:=Lib.hid (KMX.out.1.trans ME.out)
      have NX:=Lib.hid (show 1≤((subsB b (i1,i2) pp).1).near.length from by rw [KMX.out.2.1]; exact NL.out)
      have SX:=Lib.hid (show SnK ((subsB b (i1,i2) pp).1) from ⟨fun x hx=>by rcases KMX.out.2.2 x hx with h | h; exact SN.out.1 x h; rw [h]; exact TB.out,ks_subs SN.out.2 _ _ IB.out⟩)
      go_wp2_with fail
      go_roundw
      case rel=>exact⟨i+1,(subsB b (i1,i2) pp).1,o1,n1,c1,o2,n2,c2,o3,n3,c3,ea,en,ec,oa,on2,oc,hc,h12,by go_num,G1.out,Ga.out,Gb.out,G3.out,GN.out,KIX.out,MX.out,NX.out,SX.out⟩
      case measure=>simp [intOf]; omega
     ·go_wp2_with fail
      refine CU.out.mono ?_
      rintro e5 wf ⟨⟨⟨ea,en,ec⟩,⟨oa,on2,oc⟩,_,rfl,hbr,_⟩,hb⟩
      clear CS CA CB CU
      clear x0 x1 x2 x3 x4 x5 y_0 y_1 z0 z1 q0 q1 q2 q3 q4 q5 q6
      have KMX:=Lib.hid (km_unsubs (tt,0) b (i1,i2))
      have KIX:=Lib.hid (KK.out.unsubs (i1,i2))
      have BN:=Lib.hid (show BrN wf (unsubsB b (i1,i2)).1 (o1,n1,c1) (o2,n2,c2) (o3,n3,c3) (ea,en,ec) (oa,on2,oc) from ⟨hbr,by rw [KMX.out.2.1]; exact (BR_47.out.on hb).no⟩)
      clear hbr
      clear BR_47 X6_47 X7_47 X8_47 X10_48
      have GB_49:=Lib.hid (GB_47.out.trans (hb.mono GB_47.out.size))
      have X1_49:=Lib.hid (X1_47.out.on hb)
      have X2_49:=Lib.hid (X2_47.out.on hb)
      have X3_49:=Lib.hid (X3_47.out.on hb)
      clear GB_47 X1_47 X2_47 X3_47
      clear hb
      obtain⟨k0,k1,k2,k3,k4,k5⟩:=X3_49.out.cs6
      obtain⟨kf0,kf1,kf2,kf3,kf4,kf5⟩:=X3_49.out.fs6
      have zz:=X3_49.out.lt
      have G1:=Lib.hid (setB_below (b:=w.heap.size+1+1) GB_49.out (by omega) (.int .i64 0) (.slice o1 n1 c1) (.slice o2 n2 c2) (.slice o3 n3 c3) (.slice ea en ec) (.slice oa on2 oc))
      have G3:=Lib.hid (setB_box X3_49.out (.int .i64 0) (.slice o1 n1 c1) (.slice o2 n2 c2) (.slice o3 n3 c3) (.slice ea en ec) (.slice oa on2 oc))
      have Ga:=Lib.hid (show Box _ _ _ _ from (setB_heap wf (w.heap.size+1+1) (.int .i64 0) (.slice o1 n1 c1) (.slice o2 n2 c2) (.slice o3 n3 c3) (.slice ea en ec) (.slice oa on2 oc) w.heap.size (by omega)).trans X1_49.out)
      have Gb:=Lib.hid (show Box _ _ _ _ from (setB_heap wf (w.heap.size+1+1) (.int .i64 0) (.slice o1 n1 c1) (.slice o2 n2 c2) (.slice o3 n3 c3) (.slice ea en ec) (.slice oa on2 oc) (w.heap.size+1) (by omega)).trans X2_49.out)
      have GN:=Lib.hid (BN.out.keep (s1:=(o1,n1,c1)) (s2:=(o2,n2,c2)) (s3:=(o3,n3,c3)) (s4:=(o4,n4,c4)) (s5:=(o5,n5,c5)) X3_49.out (but_setB wf (w.heap.size+1+1) (.int .i64 0) (.slice o1 n1 c1) (.slice o2 n2 c2) (.slice o3 n3 c3) (.slice ea en ec) (.slice oa on2 oc)))
      clear BN GB_49 X1_49 X2_49 X3_49
      go_upto_region 9 with fail
      clear zz k0 k1 k2 k3 k4 k5 kf0 kf1 kf2 kf3 kf4 kf5
      unfold setB at G1 G3 Ga Gb GN
      generalize ((((((wf.setCell ⟨w.heap.size+1+1,0,none⟩ (.int .i64 0)).setCell ⟨w.heap.size+1+1,1,none⟩ (.slice o1 n1 c1)).setCell ⟨w.heap.size+1+1,2,none⟩ (.slice o2 n2 c2)).setCell ⟨w.heap.size+1+1,3,none⟩ (.slice o3 n3 c3)).setCell ⟨w.heap.size+1+1,4,none⟩ (.slice ea en ec)).setCell ⟨w.heap.size+1+1,5,none⟩ (.slice oa on2 oc))=wg at *
      have MX:=Lib.hid (KMX.out.1.trans ME.out)
      have NX:=Lib.hid (show 1≤((unsubsB b (i1,i2)).1).near.length from by rw [KMX.out.2.1]; exact NL.out)
      have SX:=Lib.hid (show SnK ((unsubsB b (i1,i2)).1) from ⟨fun x hx=>by rcases KMX.out.2.2 x hx with h | h; exact SN.out.1 x h; rw [h]; exact TB.out,ks_unsubs SN.out.2 _⟩)
      go_wp2_with fail
      go_roundw
      case rel=>exact⟨i+1,(unsubsB b (i1,i2)).1,o1,n1,c1,o2,n2,c2,o3,n3,c3,ea,en,ec,oa,on2,oc,hc,h12,by go_num,G1.out,Ga.out,Gb.out,G3.out,GN.out,KIX.out,MX.out,NX.out,SX.out⟩
      case measure=>simp [intOf]; omega
    ·have hx:n≤i∨(i<n∧12≤i):=by omega
     rcases hx with hx|⟨hx,hy⟩
     all_goals
      first | (have q1:¬ ((i:Int)<(n:Int)):=(by omega)) | (have q1:(i:Int)<(n:Int):=(by omega); have q2:¬ ((i:Int)<12):=(by omega))
      obtain⟨x0,x1⟩:=X1_36.out.cs2
      obtain⟨k0,k1,k2,k3,k4,k5⟩:=X3_38.out.cs6
      obtain⟨r0,r1,r2,r3,r4,r5⟩:=X2_37.out.cs6
      obtain⟨rf0,rf1,rf2,rf3,rf4,rf5⟩:=X2_37.out.fs6
      have zz:=X2_37.out.lt
      have GG:=Lib.hid (setB_box X2_37.out (.int .i64 0) (.slice o1 n1 c1) (.slice o2 n2 c2) (.slice o3 n3 c3) (.slice o4 n4 c4) (.slice o5 n5 c5))
      have BL:=Lib.hid (setB_below (b:=w.heap.size+1) GB_35.out (by omega) (.int .i64 0) (.slice o1 n1 c1) (.slice o2 n2 c2) (.slice o3 n3 c3) (.slice o4 n4 c4) (.slice o5 n5 c5))
      have GN:=Lib.hid (BR_39.out.keep (s1:=(none,0,0)) (s2:=(none,0,0)) (s3:=(none,0,0)) (s4:=(none,0,0)) (s5:=(none,0,0)) X2_37.out (but_setB wr (w.heap.size+1) (.int .i64 0) (.slice o1 n1 c1) (.slice o2 n2 c2) (.slice o3 n3 c3) (.slice o4 n4 c4) (.slice o5 n5 c5)))
      have K12:KI 12 b:=⟨KK.out.ok,KK.out.pa,KK.out.pe,KK.out.po,KK.out.ln,Nat.le_trans KK.out.ls hi12,Nat.le_trans KK.out.la hi12,Nat.le_trans KK.out.lo hi12,Nat.le_trans KK.out.le (Nat.mul_le_mul_right 12 hi12)⟩
      have KH:=Lib.hid K12
      clear K12
      go_wp2_with fail
      obtain⟨v0,v1,v2,v3,v4,v5⟩:=GG.out.cs6
      refine bodyPost_ret (v:=.agg #[.int .i64 0,.slice o1 n1 c1,.slice o2 n2 c2,.slice o3 n3 c3,.slice o4 n4 c4,.slice o5 n5 c5]) (by simp [results,Tryz.results6,go_sem,v0,v1,v2,v3,v4,v5]) rfl ?_
      refine⟨⟨b,o1,n1,c1,o2,n2,c2,o3,n3,c3,o4,n4,c4,o5,n5,c5,by rw [ME.out],GN.out,KH.out,NL.out,SN.out⟩,BL.out⟩
end Go.Proofs.YtncogjpmboglhaaGreat.Av
