/-
  AdvertsWrong: a broker that calls made is right; turned in one thing i. Conditions as told.
-/
import Derived.Test.YtncogjpmboglhaaGreatQ049
import Derived.Test.YtncogjpmboglhaaGreatQ050
import Derived.Test.YtncogjpmboglhaaGreatQ023
set_option maxRecDepth 100000
set_option maxHeartbeats 64000000
namespace Go.Proofs.YtncogjpmboglhaaGreat.Av
open Go.RowKit Go.Sort Rw YtncogjpmboglhaaGreat.Nm Pr Bk
abbrev litC : Array Value := #[.string ⟨#[]⟩,.int .i64 0,.int .i64 0,.int .i64 0,.string ⟨#[]⟩]
noncomputable def wrTailC : Code := afterN 5 (Tryz.f3.body.getD .skip)
theorem wr_tail (w W : World) (b c : Br) (b5 b6 : Nat) (o1 : Option Addr) (n1 k1 : Nat) (o2 : Option Addr) (n2 k2 : Nat) (o3 : Option Addr) (n3 k3 : Nat) (o4 : Option Addr) (n4 k4 : Nat) (o5 : Option Addr) (n5 k5 : Nat) (p1 : Option Addr) (q1 r1 : Nat) (p2 : Option Addr) (q2 r2 : Nat) (p3 : Option Addr) (q3 r3 : Nat) (p4 : Option Addr) (q4 r4 : Nat) (p5 : Option Addr) (q5 r5 : Nat) (gb : Below w.heap.size w W) (x5 : Box W b5 #[.int .i64 b.me,.slice o1 n1 k1,.slice o2 n2 k2,.slice o3 n3 k3,.slice o4 n4 k4,.slice o5 n5 k5] 31) (x6 : Box W b6 #[.int .i64 b.me,.slice p1 q1 r1,.slice p2 q2 r2,.slice p3 q3 r3,.slice p4 q4 r4,.slice p5 q5 r5] 31) (bi : BrIn W b (o1,n1,k1) (o2,n2,k2) (o3,n3,k3) (o4,n4,k4) (o5,n5,k5)) (ci : BrIn W c (p1,q1,r1) (p2,q2,r2) (p3,q3,r3) (p4,q4,r4) (p5,q5,r5)) (kk : KI 12 b) (tr : Trn b c) (hm : c.me = b.me) (u0 u1 u2 u3 u4 u7 u8 u9 u10 u11 u12 u13 u14 u15 u16 u17 u18 u19 u20 u21 u22 u23 u24 u25 u26 u27 u28 u29 u30 u31 u32 u33 u34 u35 u36 u37 u38 u39 u40 u41 u42 u43 u44 u45 u46 u47 u48 u49 u50 u51 u52 u53 u54 u55 u56 u57 u58 u59 u60 u61 u62 u63 u64 u65 u66 u67 u68 u69 u70 u71 u72 u73 u74 u75 u76 u77 u78 u79 u80 u81 u82 u83 u84 u85 u86 u87 u88 u89 u90 u91 u92 u93 u94 u95 u96 u97 : Value) :
  Code.wp Tryz.prog wrTailC (bodyPost Tryz.prog Tryz.f3 (fun e w' => e = .returned (.bool true) ∧ Below w.heap.size w w')) ⟨(u0 :: u1 :: u2 :: u3 :: u4 :: .pointer (some ⟨b5,0,none⟩) :: .pointer (some ⟨b6,0,none⟩) :: u7 :: u8 :: u9 :: u10 :: u11 :: u12 :: u13 :: u14 :: u15 :: u16 :: u17 :: u18 :: u19 :: u20 :: u21 :: u22 :: u23 :: u24 :: u25 :: u26 :: u27 :: u28 :: u29 :: u30 :: u31 :: u32 :: u33 :: u34 :: u35 :: u36 :: u37 :: u38 :: u39 :: u40 :: u41 :: u42 :: u43 :: u44 :: u45 :: u46 :: u47 :: u48 :: u49 :: u50 :: u51 :: u52 :: u53 :: u54 :: u55 :: u56 :: u57 :: u58 :: u59 :: u60 :: u61 :: u62 :: u63 :: u64 :: u65 :: u66 :: u67 :: u68 :: u69 :: u70 :: u71 :: u72 :: u73 :: u74 :: u75 :: u76 :: u77 :: u78 :: u79 :: u80 :: u81 :: u82 :: u83 :: u84 :: u85 :: u86 :: u87 :: u88 :: u89 :: u90 :: u91 :: u92 :: u93 :: u94 :: u95 :: u96 :: u97 :: []).toArray,[]⟩ W := by
 have GB_1 := Lib.hid (gb)
 have X5_2 := Lib.hid (x5)
 have X6_3 := Lib.hid (x6)
 have BI_4 := Lib.hid (bi)
 have CI_5 := Lib.hid (ci)
 have KK := Lib.hid kk
 have TR := Lib.hid tr
 have HM := Lib.hid hm
 clear gb x5 x6 bi ci kk tr hm
 unfold wrTailC
 conv => arg 2; whnf
 have RR := Lib.hid (aright_any c (p1,q1,r1) (p2,q2,r2) (p3,q3,r3) (p4,q4,r4) (p5,q5,r5) W CI_5.out TR.out.few TR.out.tame)
 rw [TR.out.bad,HM.out] at RR
 obtain ⟨x0,x1,x2,x3,x4,x5⟩ := X6_3.out.cs6
 go_wp2_with fail
 refine RR.out.mono ?_
 rintro e6 wx ⟨rfl,hb⟩
 clear RR
 clear x0 x1 x2 x3 x4 x5
 have GB_6 := Lib.hid (GB_1.out.trans (hb.mono GB_1.out.size))
 have X5_6 := Lib.hid (X5_2.out.on hb)
 have X6_6 := Lib.hid (X6_3.out.on hb)
 have BI_6 := Lib.hid (BI_4.out.on hb)
 have CI_6 := Lib.hid (CI_5.out.on hb)
 clear GB_1 X5_2 X6_3 BI_4 CI_5
 clear hb
 have RR := Lib.hid (asame_any c b (p1,q1,r1) (p2,q2,r2) (p3,q3,r3) (p4,q4,r4) (p5,q5,r5) (o1,n1,k1) (o2,n2,k2) (o3,n3,k3) (o4,n4,k4) (o5,n5,k5) wx CI_6.out BI_6.out TR.out.few TR.out.fewp.pa)
 rw [TR.out.s1,HM.out] at RR
 obtain ⟨x0,x1,x2,x3,x4,x5⟩ := X6_6.out.cs6
 obtain ⟨y_0,y_1,y_2,y_3,y_4,y_5⟩ := X5_6.out.cs6
 go_wp2_with fail
 refine RR.out.mono ?_
 rintro e6 wy ⟨rfl,hb⟩
 clear RR
 clear x0 x1 x2 x3 x4 x5 y_0 y_1 y_2 y_3 y_4 y_5
 have GB_7 := Lib.hid (GB_6.out.trans (hb.mono GB_6.out.size))
 have X5_7 := Lib.hid (X5_6.out.on hb)
 have X6_7 := Lib.hid (X6_6.out.on hb)
 have BI_7 := Lib.hid (BI_6.out.on hb)
 have CI_7 := Lib.hid (CI_6.out.on hb)
 clear GB_6 X5_6 X6_6 BI_6 CI_6
 clear hb
 have RR := Lib.hid (asame_any b c (o1,n1,k1) (o2,n2,k2) (o3,n3,k3) (o4,n4,k4) (o5,n5,k5) (p1,q1,r1) (p2,q2,r2) (p3,q3,r3) (p4,q4,r4) (p5,q5,r5) wy BI_7.out CI_7.out KK.out.few KK.out.fewp.pa)
 rw [TR.out.s2,HM.out] at RR
 obtain ⟨x0,x1,x2,x3,x4,x5⟩ := X6_7.out.cs6
 obtain ⟨y_0,y_1,y_2,y_3,y_4,y_5⟩ := X5_7.out.cs6
 go_wp2_with fail
 refine RR.out.mono ?_
 rintro e6 wz ⟨rfl,hb⟩
 clear RR
 clear x0 x1 x2 x3 x4 x5 y_0 y_1 y_2 y_3 y_4 y_5
 have GB_8 := Lib.hid (GB_7.out.trans (hb.mono GB_7.out.size))
 have X5_8 := Lib.hid (X5_7.out.on hb)
 have X6_8 := Lib.hid (X6_7.out.on hb)
 have BI_8 := Lib.hid (BI_7.out.on hb)
 have CI_8 := Lib.hid (CI_7.out.on hb)
 clear GB_7 X5_7 X6_7 BI_7 CI_7
 clear hb
 go_wp2_with fail
 refine (runs_any wz).mono ?_
 rintro e7 w9 ⟨rfl,hb⟩
 have GB_9 := Lib.hid (GB_8.out.trans (hb.mono GB_8.out.size))
 have X5_9 := Lib.hid (X5_8.out.on hb)
 have X6_9 := Lib.hid (X6_8.out.on hb)
 have BI_9 := Lib.hid (BI_8.out.on hb)
 have CI_9 := Lib.hid (CI_8.out.on hb)
 clear GB_8 X5_8 X6_8 BI_8 CI_8
 go_wp2
 go_ret
 exact ⟨rfl,GB_9.out⟩
theorem wrong_any (zn y : Int) (v : Value) (n : Nat) (w : World) (h1 : -9223372036854775808 ≤ zn) (h2 : zn ≤ 9223372036854775807) (h3 : -9223372036854775808 ≤ y) (h4 : y ≤ 9223372036854775807) (hs : InSt w v n) (hn : n ≤ maxLen) :
  Calls Tryz.prog 3 #[.agg #[.int .i64 zn,v],.int .i64 y] w fun e w' => e = .returned (.bool true) ∧ Below w.heap.size w w' := by
 have NB := newB w (.cells #[.int .i64 zn,v] 24)
 have BK := Lib.hid (brk_any zn v n _ h1 h2 (hs.on NB) hn)
 have GB_1 := Lib.hid (NB)
 have X2_2 := Lib.hid (box_new w #[.int .i64 zn,v] 24)
 clear NB hs hn h1 h2
 go_enter Tryz.func3,Tryz.ntmps3
 conv => enter [2,2,2,2,2,2]; change wrTailC
 go_upto_region 1 with fail
 generalize w.alloc (.cells #[.int .i64 zn,v] 24) = W at *
 obtain ⟨x0,x1⟩ := X2_2.out.cs2
 go_wp2_with fail
 refine BK.out.mono ?_
 rintro e1 w1 ⟨⟨b,⟨o1,n1,k1⟩,⟨o2,n2,k2⟩,⟨o3,n3,k3⟩,⟨o4,n4,k4⟩,⟨o5,n5,k5⟩,rfl,hbr,hki,hnl,hsn⟩,hb⟩
 clear BK
 clear x0 x1
 have GB_3 := Lib.hid (GB_1.out.trans (hb.mono GB_1.out.size))
 have X2_3 := Lib.hid (X2_2.out.on hb)
 clear GB_1 X2_2
 have HB := Lib.hid hbr
 have KK := Lib.hid hki
 have NL := Lib.hid hnl
 have SN := Lib.hid hsn
 clear hbr hki hnl hsn hb X2_3
 go_upto_region 2 with fail
 have NN := newB w1 (.cells #[.int .i64 b.me,.slice o1 n1 k1,.slice o2 n2 k2,.slice o3 n3 k3,.slice o4 n4 k4,.slice o5 n5 k5] 31)
 have HB1 := Lib.hid (HB.out.on NN)
 clear HB
 have GB_4 := Lib.hid (GB_3.out.trans (NN.mono GB_3.out.size))
 clear GB_3
 have X5_5 := Lib.hid (box_new w1 #[.int .i64 b.me,.slice o1 n1 k1,.slice o2 n2 k2,.slice o3 n3 k3,.slice o4 n4 k4,.slice o5 n5 k5] 31)
 clear NN
 generalize w1.alloc (.cells #[.int .i64 b.me,.slice o1 n1 k1,.slice o2 n2 k2,.slice o3 n3 k3,.slice o4 n4 k4,.slice o5 n5 k5] 31) = w2 at *
 have R1 := Lib.hid (aright_any b (o1,n1,k1) (o2,n2,k2) (o3,n3,k3) (o4,n4,k4) (o5,n5,k5) w2 HB1.out.br KK.out.few KK.out.tame)
 rw [(okBr_iff b).2 KK.out.ok] at R1
 obtain ⟨x0,x1,x2,x3,x4,x5⟩ := X5_5.out.cs6
 go_wp2_with fail
 refine R1.out.mono ?_
 rintro e2 w3 ⟨rfl,hb⟩
 clear R1
 clear x0 x1 x2 x3 x4 x5
 have HB2 := Lib.hid (HB1.out.on hb)
 clear HB1
 have GB_6 := Lib.hid (GB_4.out.trans (hb.mono GB_4.out.size))
 have X5_6 := Lib.hid (X5_5.out.on hb)
 clear GB_4 X5_5
 clear hb
 have R2 := Lib.hid (asame_any b b (o1,n1,k1) (o2,n2,k2) (o3,n3,k3) (o4,n4,k4) (o5,n5,k5) (o1,n1,k1) (o2,n2,k2) (o3,n3,k3) (o4,n4,k4) (o5,n5,k5) w3 HB2.out.br HB2.out.br KK.out.few KK.out.fewp.pa)
 rw [same_self] at R2
 obtain ⟨x0,x1,x2,x3,x4,x5⟩ := X5_6.out.cs6
 go_wp2_with fail
 refine R2.out.mono ?_
 rintro e3 w4 ⟨rfl,hb⟩
 clear R2
 clear x0 x1 x2 x3 x4 x5
 have HB3 := Lib.hid (HB2.out.on hb)
 clear HB2
 have GB_7 := Lib.hid (GB_6.out.trans (hb.mono GB_6.out.size))
 have X5_7 := Lib.hid (X5_6.out.on hb)
 clear GB_6 X5_6
 clear hb
 have G4 := Lib.hid GB_7.out.size
 have CP := Lib.hid (copy2_any b (o1,n1,k1) (o2,n2,k2) (o3,n3,k3) (o4,n4,k4) (o5,n5,k5) w4 HB3.out.br KK.out.few)
 obtain ⟨x0,x1,x2,x3,x4,x5⟩ := X5_7.out.cs6
 go_wp2_with fail
 refine CP.out.mono ?_
 rintro e4 w5 ⟨⟨⟨p1,q1,r1⟩,⟨p2,q2,r2⟩,⟨p3,q3,r3⟩,⟨p4,q4,r4⟩,⟨p5,q5,r5⟩,rfl,hc⟩,hb⟩
 clear CP
 clear x0 x1 x2 x3 x4 x5
 obtain ⟨hon,⟨la,hoa,hla⟩,hoj,⟨le,hoe,hle⟩,⟨lw,how,hlw⟩⟩ := hc
 have HLA := Lib.hid hla
 have HLE := Lib.hid hle
 have HLW := Lib.hid hlw
 clear hla hle hlw
 have GB_8 := Lib.hid (GB_7.out.trans (hb.mono GB_7.out.size))
 have X5_8 := Lib.hid (X5_7.out.on hb)
 clear GB_7 X5_7
 have B0_9 := Lib.hid (hb)
 have F6 := Lib.hid hb.size
 have N56 := Lib.hid (show w1.heap.size ≠ w5.heap.size from Nat.ne_of_lt X5_8.out.lt)
 have ON_10 := Lib.hid (hon)
 have OA_11 := Lib.hid (hoa)
 have OJ_12 := Lib.hid (hoj)
 have OE_13 := Lib.hid (hoe)
 have OW_14 := Lib.hid (how)
 clear hb hon hoa hoj hoe how
 go_upto_region 5 with fail
 have NN := newB w5 (.cells #[.int .i64 b.me,.slice p1 q1 r1,.slice p2 q2 r2,.slice p3 q3 r3,.slice p4 q4 r4,.slice p5 q5 r5] 31)
 have GB_15 := Lib.hid (GB_8.out.trans (NN.mono GB_8.out.size))
 have X5_15 := Lib.hid (X5_8.out.on NN)
 have B0_15 := Lib.hid (B0_9.out.trans (NN.mono B0_9.out.size))
 have ON_15 := Lib.hid (Bk.own_on ON_10.out NN)
 have OA_15 := Lib.hid (Bk.own_on OA_11.out NN)
 have OJ_15 := Lib.hid (Bk.own_on OJ_12.out NN)
 have OE_15 := Lib.hid (Bk.own_on OE_13.out NN)
 have OW_15 := Lib.hid (Bk.own_on OW_14.out NN)
 clear GB_8 X5_8 B0_9 ON_10 OA_11 OJ_12 OE_13 OW_14
 have X6_16 := Lib.hid (box_new w5 #[.int .i64 b.me,.slice p1 q1 r1,.slice p2 q2 r2,.slice p3 q3 r3,.slice p4 q4 r4,.slice p5 q5 r5] 31)
 clear NN
 have WI := Wi.within_any y 0 5 (w5.alloc (.cells #[.int .i64 b.me,.slice p1 q1 r1,.slice p2 q2 r2,.slice p3 q3 r3,.slice p4 q4 r4,.slice p5 q5 r5] 31)) (by decide) (by decide) (by decide) h3 h4
 have WB := Wi.within_bd y 0 5 (by decide)
 have G6 := Lib.hid (Nat.le_trans G4.out F6.out)
 generalize w5.alloc (.cells #[.int .i64 b.me,.slice p1 q1 r1,.slice p2 q2 r2,.slice p3 q3 r3,.slice p4 q4 r4,.slice p5 q5 r5] 31) = wa at *
 generalize Wi.within y 0 5 = u at *
 clear h3 h4
 go_wp2_with fail
 refine WI.mono ?_
 rintro e5 w6_ ⟨rfl,rfl⟩
 clear WI
 rcases (by omega : u = 0 ∨ u = 1 ∨ u = 2 ∨ u = 3 ∨ u = 4 ∨ u = 5) with rfl | rfl | rfl | rfl | rfl | rfl
 ·obtain ⟨z,hz⟩ : ∃ z,b.near[0]? = some z := ⟨_,List.getElem?_eq_getElem NL.out⟩
  obtain ⟨hn1,hn2,hnv⟩ := (Row.of_own ON_15.out).len
  obtain ⟨pp,ix,px⟩ := elI (Row.of_own ON_15.out) hnv rfl hz
  have ix2 : ∀ w,(Instr.indexAt 25 (.slice p1 q1 r1) (.int .i64 0)).run Tryz.prog w = .ok (.pointer (some pp)) w := fun w => by rw [show Value.slice p1 q1 r1 = .slice hn1 b.near.length hn2 from hnv]; exact ix w
  have ZM := Lib.hid (List.mem_of_getElem? hz)
  clear hz hnv ix
  go_upto_region 8 with fail
  refine wr8 _ wa w4.heap.size w5.heap.size b.me z p1 q1 r1 _ _ _ _ pp b.near _ _ _ _ _ _ _ _ _ _ _ _ _ _ _ _ _ _ _ _ _ _ _ _ _ _ _ _ _ _ _ _ _ _ _ _ _ _ _ _ _ _ _ _ _ _ _ _ _ _ _ _ _ _ _ _ _ _ _ _ _ _ _ _ _ _ _ _ _ _ _ _ _ _ _ _ _ _ _ _ _ _ _ _ _ _ _ _ _ _ _ _ _ _ _ _ _ X6_16.out ON_15.out (Nat.le_trans KK.out.ln (by decide)) B0_15.out.size ix2 px.2 ?_
  intro x0 wu v' v33 v34 v35 v36 v37 v38 v39 v40 v41 hb0 ga hbx oa
  clear ix2 px
  obtain ⟨e1_,e3_,hv⟩ := (Row.of_own oa).len
  obtain ⟨e2_,he2⟩ : ∃ n,n = (b.near ++ [z]).length := ⟨_,rfl⟩
  rw [← he2] at hv
  subst hv
  clear he2 hbx
  have GB_17 := Lib.hid (GB_15.out.trans (hb0.mono GB_15.out.size))
  have X5_17 := Lib.hid (X5_15.out.on hb0)
  have B0_17 := Lib.hid (B0_15.out.trans (hb0.mono B0_15.out.size))
  have ON_17 := Lib.hid (Bk.own_on ON_15.out hb0)
  have OA_17 := Lib.hid (Bk.own_on OA_15.out hb0)
  have OJ_17 := Lib.hid (Bk.own_on OJ_15.out hb0)
  have OE_17 := Lib.hid (Bk.own_on OE_15.out hb0)
  have OW_17 := Lib.hid (Bk.own_on OW_15.out hb0)
  have X6_17 := Lib.hid (X6_16.out.on hb0)
  clear GB_15 X5_15 B0_15 ON_15 OA_15 OJ_15 OE_15 OW_15 X6_16
  have YON := Lib.hid (oa)
  have YOA := Lib.hid (own_app ON_17.out ga OA_17.out (by decide))
  have YOJ := Lib.hid (own_app ON_17.out ga OJ_17.out (by decide))
  have YOE := Lib.hid (own_app ON_17.out ga OE_17.out (by decide))
  have YOW := Lib.hid (own_app ON_17.out ga OW_17.out (by decide))
  have YX5 := Lib.hid (box_app ON_17.out ga X5_17.out (by decide))
  have YX6 := Lib.hid (box_app ON_17.out ga X6_17.out (by decide))
  have YG := Lib.hid (GB_17.out.grown ga (Nat.le_trans G4.out B0_17.out.size) fun j hj => Nat.le_trans G4.out (ON_17.out.lt j hj).1)
  have YB := Lib.hid (B0_17.out.grown ga B0_17.out.size fun j hj => (ON_17.out.lt j hj).1)
  clear GB_17 B0_17 X5_17 X6_17 ON_17 OA_17 OJ_17 OE_17 OW_17
  have GB_18 := Lib.hid (YG.out)
  have B0_19 := Lib.hid (YB.out)
  have X5_20 := Lib.hid (YX5.out)
  have X6_21 := Lib.hid (YX6.out)
  have ON_22 := Lib.hid (YON.out)
  have OA_23 := Lib.hid (YOA.out)
  have OJ_24 := Lib.hid (YOJ.out)
  have OE_25 := Lib.hid (YOE.out)
  have OW_26 := Lib.hid (YOW.out)
  clear YG YB YX5 YX6 YON YOA YOJ YOE YOW 
  clear oa ga hb0
  have BT := but_cell wu w5.heap.size 1 (.slice e1_ e2_ e3_)
  have Z6 := box_set (k := 1) X6_21.out (.slice e1_ e2_ e3_)
  simp only [List.setIfInBounds_toArray,List.set_cons_zero,List.set_cons_succ] at Z6
  have ZON := Lib.hid (BT.own ON_22.out X6_21.out (by decide))
  have ZOA := Lib.hid (BT.own OA_23.out X6_21.out (by decide))
  have ZOJ := Lib.hid (BT.own OJ_24.out X6_21.out (by decide))
  have ZOE := Lib.hid (BT.own OE_25.out X6_21.out (by decide))
  have ZOW := Lib.hid (BT.own OW_26.out X6_21.out (by decide))
  have ZG := Lib.hid (GB_18.out.setCell (p := ⟨w5.heap.size,1,none⟩) G6.out (.slice e1_ e2_ e3_))
  have ZB := Lib.hid (B0_19.out.setCell (p := ⟨w5.heap.size,1,none⟩) F6.out (.slice e1_ e2_ e3_))
  have Z5 := Lib.hid (BT.box X5_20.out N56.out)
  clear BT GB_18 B0_19 X5_20 X6_21 ON_22 OA_23 OJ_24 OE_25 OW_26
  generalize wu.setCell ⟨w5.heap.size,1,none⟩ (.slice e1_ e2_ e3_) = wv at *
  have GB_27 := Lib.hid (ZG.out)
  have B0_28 := Lib.hid (ZB.out)
  have X5_29 := Lib.hid (Z5.out)
  have X6_30 := Lib.hid (Z6)
  have ON_31 := Lib.hid (ZON.out)
  have OA_32 := Lib.hid (ZOA.out)
  have OJ_33 := Lib.hid (ZOJ.out)
  have OE_34 := Lib.hid (ZOE.out)
  have OW_35 := Lib.hid (ZOW.out)
  clear ZG ZB Z5 Z6 ZON ZOA ZOJ ZOE ZOW 
  go_wp2_with fail
  exact wr_tail w wv b (c0 b z) w1.heap.size w5.heap.size o1 n1 k1 o2 n2 k2 o3 n3 k3 o4 n4 k4 o5 n5 k5 e1_ e2_ e3_ p2 q2 r2 p3 q3 r3 p4 q4 r4 p5 q5 r5 GB_27.out X5_29.out X6_30.out (HB3.out.br.on B0_28.out) ⟨Row.of_own ON_31.out,⟨_,Row.of_own OA_32.out,(HLA.out).mono fun _ _ h => h.on B0_28.out⟩,Row.of_own OJ_33.out,⟨_,Row.of_own OE_34.out,(HLE.out).mono fun _ _ h => h.on B0_28.out⟩,⟨_,Row.of_own OW_35.out,(HLW.out).mono fun _ _ h => h.on B0_28.out⟩⟩ KK.out (trn0 KK.out ZM.out) rfl _ _ _ _ _ _ _ _ _ _ _ _ _ _ _ _ _ _ _ _ _ _ _ _ _ _ _ _ _ _ _ _ _ _ _ _ _ _ _ _ _ _ _ _ _ _ _ _ _ _ _ _ _ _ _ _ _ _ _ _ _ _ _ _ _ _ _ _ _ _ _ _ _ _ _ _ _ _ _ _ _ _ _ _ _ _ _ _ _ _ _ _ _ _ _ _
 ·have hl := row_lit okD wa [((99,0,(none,0,0),-1) : XAd)] 1 rfl (by simp) #[.int .i64 99,.int .i64 0,.slice none 0 0,.int .i64 (-1)] (by rfl)
  have NB := newB wa (.cells #[.int .i64 99,.int .i64 0,.slice none 0 0,.int .i64 (-1)] 41)
  obtain ⟨x0,x1,x2,x3,x4,x5⟩ := X6_16.out.cs6
  have d_ := (X6_16.out.on NB).cell 2
  simp only [List.getElem?_toArray,List.getElem?_cons_zero,List.getElem?_cons_succ] at d_
  have GB_17 := Lib.hid (GB_15.out.trans (NB.mono GB_15.out.size))
  have X5_17 := Lib.hid (X5_15.out.on NB)
  have B0_17 := Lib.hid (B0_15.out.trans (NB.mono B0_15.out.size))
  have ON_17 := Lib.hid (Bk.own_on ON_15.out NB)
  have OA_17 := Lib.hid (Bk.own_on OA_15.out NB)
  have OJ_17 := Lib.hid (Bk.own_on OJ_15.out NB)
  have OE_17 := Lib.hid (Bk.own_on OE_15.out NB)
  have OW_17 := Lib.hid (Bk.own_on OW_15.out NB)
  have X6_17 := Lib.hid (X6_16.out.on NB)
  clear GB_15 X5_15 B0_15 ON_15 OA_15 OJ_15 OE_15 OW_15 X6_16
  obtain ⟨v',wu,q0_,oa,ga⟩ := app_row okD w4.heap.size OA_17.out (Row.of_own hl) (by rw [HLA.out.len]; exact Nat.le_trans KK.out.la (by decide)) (by simp) B0_17.out.size 26
  have q1_ : (Builtin.append_ #[26,26] 26 #[.slice p2 q2 r2,.slice (some ⟨wa.heap.size,0,none⟩) 1 1]).run Tryz.prog (wa.alloc (.cells #[.int .i64 99,.int .i64 0,.slice none 0 0,.int .i64 (-1)] 41)) = .ok v' wu := q0_
  obtain ⟨e1_,e3_,hv⟩ := (Row.of_own oa).len
  obtain ⟨e2_,he2⟩ : ∃ n,n = (la ++ [((99,0,(none,0,0),-1) : XAd)]).length := ⟨_,rfl⟩
  rw [← he2] at hv
  subst hv
  clear he2
  have YON := Lib.hid (own_app OA_17.out ga ON_17.out (by decide))
  have YOA := Lib.hid (oa)
  have YOJ := Lib.hid (own_app OA_17.out ga OJ_17.out (by decide))
  have YOE := Lib.hid (own_app OA_17.out ga OE_17.out (by decide))
  have YOW := Lib.hid (own_app OA_17.out ga OW_17.out (by decide))
  have YX5 := Lib.hid (box_app OA_17.out ga X5_17.out (by decide))
  have YX6 := Lib.hid (box_app OA_17.out ga X6_17.out (by decide))
  have YG := Lib.hid (GB_17.out.grown ga (Nat.le_trans G4.out B0_17.out.size) fun j hj => Nat.le_trans G4.out (OA_17.out.lt j hj).1)
  have YB := Lib.hid (B0_17.out.grown ga B0_17.out.size fun j hj => (OA_17.out.lt j hj).1)
  clear GB_17 B0_17 X5_17 X6_17 ON_17 OA_17 OJ_17 OE_17 OW_17
  have GB_18 := Lib.hid (YG.out)
  have B0_19 := Lib.hid (YB.out)
  have X5_20 := Lib.hid (YX5.out)
  have X6_21 := Lib.hid (YX6.out)
  have ON_22 := Lib.hid (YON.out)
  have OA_23 := Lib.hid (YOA.out)
  have OJ_24 := Lib.hid (YOJ.out)
  have OE_25 := Lib.hid (YOE.out)
  have OW_26 := Lib.hid (YOW.out)
  clear YG YB YX5 YX6 YON YOA YOJ YOE YOW 
  clear hl NB oa ga
  have e_ := X6_21.out.cell 2
  have f_ := X6_21.out.fr 2
  have zz := X6_21.out.lt
  simp only [List.getElem?_toArray,List.getElem?_cons_zero,List.getElem?_cons_succ] at e_
  go_wp2_with (first | (at_builtin; refine wpList_append_run rfl _ _ 26 rfl rfl rfl q1_ ?_) | fail)
  clear x0 x1 x2 x3 x4 x5
  clear zz e_ f_ d_ q1_ q0_
  have BT := but_cell wu w5.heap.size 2 (.slice e1_ e2_ e3_)
  have Z6 := box_set (k := 2) X6_21.out (.slice e1_ e2_ e3_)
  simp only [List.setIfInBounds_toArray,List.set_cons_zero,List.set_cons_succ] at Z6
  have ZON := Lib.hid (BT.own ON_22.out X6_21.out (by decide))
  have ZOA := Lib.hid (BT.own OA_23.out X6_21.out (by decide))
  have ZOJ := Lib.hid (BT.own OJ_24.out X6_21.out (by decide))
  have ZOE := Lib.hid (BT.own OE_25.out X6_21.out (by decide))
  have ZOW := Lib.hid (BT.own OW_26.out X6_21.out (by decide))
  have ZG := Lib.hid (GB_18.out.setCell (p := ⟨w5.heap.size,2,none⟩) G6.out (.slice e1_ e2_ e3_))
  have ZB := Lib.hid (B0_19.out.setCell (p := ⟨w5.heap.size,2,none⟩) F6.out (.slice e1_ e2_ e3_))
  have Z5 := Lib.hid (BT.box X5_20.out N56.out)
  clear BT GB_18 B0_19 X5_20 X6_21 ON_22 OA_23 OJ_24 OE_25 OW_26
  generalize wu.setCell ⟨w5.heap.size,2,none⟩ (.slice e1_ e2_ e3_) = wv at *
  have GB_27 := Lib.hid (ZG.out)
  have B0_28 := Lib.hid (ZB.out)
  have X5_29 := Lib.hid (Z5.out)
  have X6_30 := Lib.hid (Z6)
  have ON_31 := Lib.hid (ZON.out)
  have OA_32 := Lib.hid (ZOA.out)
  have OJ_33 := Lib.hid (ZOJ.out)
  have OE_34 := Lib.hid (ZOE.out)
  have OW_35 := Lib.hid (ZOW.out)
  clear ZG ZB Z5 Z6 ZON ZOA ZOJ ZOE ZOW 
  exact wr_tail w wv b (c1 b) w1.heap.size w5.heap.size o1 n1 k1 o2 n2 k2 o3 n3 k3 o4 n4 k4 o5 n5 k5 p1 q1 r1 e1_ e2_ e3_ p3 q3 r3 p4 q4 r4 p5 q5 r5 GB_27.out X5_29.out X6_30.out (HB3.out.br.on B0_28.out) ⟨Row.of_own ON_31.out,⟨_,Row.of_own OA_32.out,(HLA.out.append (.cons ⟨rfl,rfl,row_nil _⟩ .nil)).mono fun _ _ h => h.on B0_28.out⟩,Row.of_own OJ_33.out,⟨_,Row.of_own OE_34.out,(HLE.out).mono fun _ _ h => h.on B0_28.out⟩,⟨_,Row.of_own OW_35.out,(HLW.out).mono fun _ _ h => h.on B0_28.out⟩⟩ KK.out (trn1 KK.out SN.out) rfl _ _ _ _ _ _ _ _ _ _ _ _ _ _ _ _ _ _ _ _ _ _ _ _ _ _ _ _ _ _ _ _ _ _ _ _ _ _ _ _ _ _ _ _ _ _ _ _ _ _ _ _ _ _ _ _ _ _ _ _ _ _ _ _ _ _ _ _ _ _ _ _ _ _ _ _ _ _ _ _ _ _ _ _ _ _ _ _ _ _ _ _ _ _ _ _
 ·have hl := row_lit okN wa [((98,0,0,0,(none,0,0),-1,false) : XEn)] 1 rfl (by simp) #[.int .i64 98,.int .i64 0,.int .i64 0,.int .i64 0,.slice none 0 0,.int .i64 (-1),.bool false] (by rfl)
  have NB := newB wa (.cells #[.int .i64 98,.int .i64 0,.int .i64 0,.int .i64 0,.slice none 0 0,.int .i64 (-1),.bool false] 43)
  obtain ⟨x0,x1,x2,x3,x4,x5⟩ := X6_16.out.cs6
  have d_ := (X6_16.out.on NB).cell 4
  simp only [List.getElem?_toArray,List.getElem?_cons_zero,List.getElem?_cons_succ] at d_
  have GB_17 := Lib.hid (GB_15.out.trans (NB.mono GB_15.out.size))
  have X5_17 := Lib.hid (X5_15.out.on NB)
  have B0_17 := Lib.hid (B0_15.out.trans (NB.mono B0_15.out.size))
  have ON_17 := Lib.hid (Bk.own_on ON_15.out NB)
  have OA_17 := Lib.hid (Bk.own_on OA_15.out NB)
  have OJ_17 := Lib.hid (Bk.own_on OJ_15.out NB)
  have OE_17 := Lib.hid (Bk.own_on OE_15.out NB)
  have OW_17 := Lib.hid (Bk.own_on OW_15.out NB)
  have X6_17 := Lib.hid (X6_16.out.on NB)
  clear GB_15 X5_15 B0_15 ON_15 OA_15 OJ_15 OE_15 OW_15 X6_16
  obtain ⟨v',wu,q0_,oa,ga⟩ := app_row okN w4.heap.size OE_17.out (Row.of_own hl) (by rw [HLE.out.len]; exact Nat.le_trans KK.out.le (by decide)) (by simp) B0_17.out.size 28
  have q1_ : (Builtin.append_ #[28,28] 28 #[.slice p4 q4 r4,.slice (some ⟨wa.heap.size,0,none⟩) 1 1]).run Tryz.prog (wa.alloc (.cells #[.int .i64 98,.int .i64 0,.int .i64 0,.int .i64 0,.slice none 0 0,.int .i64 (-1),.bool false] 43)) = .ok v' wu := q0_
  obtain ⟨e1_,e3_,hv⟩ := (Row.of_own oa).len
  obtain ⟨e2_,he2⟩ : ∃ n,n = (le ++ [((98,0,0,0,(none,0,0),-1,false) : XEn)]).length := ⟨_,rfl⟩
  rw [← he2] at hv
  subst hv
  clear he2
  have YON := Lib.hid (own_app OE_17.out ga ON_17.out (by decide))
  have YOA := Lib.hid (own_app OE_17.out ga OA_17.out (by decide))
  have YOJ := Lib.hid (own_app OE_17.out ga OJ_17.out (by decide))
  have YOE := Lib.hid (oa)
  have YOW := Lib.hid (own_app OE_17.out ga OW_17.out (by decide))
  have YX5 := Lib.hid (box_app OE_17.out ga X5_17.out (by decide))
  have YX6 := Lib.hid (box_app OE_17.out ga X6_17.out (by decide))
  have YG := Lib.hid (GB_17.out.grown ga (Nat.le_trans G4.out B0_17.out.size) fun j hj => Nat.le_trans G4.out (OE_17.out.lt j hj).1)
  have YB := Lib.hid (B0_17.out.grown ga B0_17.out.size fun j hj => (OE_17.out.lt j hj).1)
  clear GB_17 B0_17 X5_17 X6_17 ON_17 OA_17 OJ_17 OE_17 OW_17
  have GB_18 := Lib.hid (YG.out)
  have B0_19 := Lib.hid (YB.out)
  have X5_20 := Lib.hid (YX5.out)
  have X6_21 := Lib.hid (YX6.out)
  have ON_22 := Lib.hid (YON.out)
  have OA_23 := Lib.hid (YOA.out)
  have OJ_24 := Lib.hid (YOJ.out)
  have OE_25 := Lib.hid (YOE.out)
  have OW_26 := Lib.hid (YOW.out)
  clear YG YB YX5 YX6 YON YOA YOJ YOE YOW 
  clear hl NB oa ga
  have e_ := X6_21.out.cell 4
  have f_ := X6_21.out.fr 4
  have zz := X6_21.out.lt
  simp only [List.getElem?_toArray,List.getElem?_cons_zero,List.getElem?_cons_succ] at e_
  go_wp2_with (first | (at_builtin; refine wpList_append_run rfl _ _ 28 rfl rfl rfl q1_ ?_) | fail)
  clear x0 x1 x2 x3 x4 x5
  clear zz e_ f_ d_ q1_ q0_
  have BT := but_cell wu w5.heap.size 4 (.slice e1_ e2_ e3_)
  have Z6 := box_set (k := 4) X6_21.out (.slice e1_ e2_ e3_)
  simp only [List.setIfInBounds_toArray,List.set_cons_zero,List.set_cons_succ] at Z6
  have ZON := Lib.hid (BT.own ON_22.out X6_21.out (by decide))
  have ZOA := Lib.hid (BT.own OA_23.out X6_21.out (by decide))
  have ZOJ := Lib.hid (BT.own OJ_24.out X6_21.out (by decide))
  have ZOE := Lib.hid (BT.own OE_25.out X6_21.out (by decide))
  have ZOW := Lib.hid (BT.own OW_26.out X6_21.out (by decide))
  have ZG := Lib.hid (GB_18.out.setCell (p := ⟨w5.heap.size,4,none⟩) G6.out (.slice e1_ e2_ e3_))
  have ZB := Lib.hid (B0_19.out.setCell (p := ⟨w5.heap.size,4,none⟩) F6.out (.slice e1_ e2_ e3_))
  have Z5 := Lib.hid (BT.box X5_20.out N56.out)
  clear BT GB_18 B0_19 X5_20 X6_21 ON_22 OA_23 OJ_24 OE_25 OW_26
  generalize wu.setCell ⟨w5.heap.size,4,none⟩ (.slice e1_ e2_ e3_) = wv at *
  have GB_27 := Lib.hid (ZG.out)
  have B0_28 := Lib.hid (ZB.out)
  have X5_29 := Lib.hid (Z5.out)
  have X6_30 := Lib.hid (Z6)
  have ON_31 := Lib.hid (ZON.out)
  have OA_32 := Lib.hid (ZOA.out)
  have OJ_33 := Lib.hid (ZOJ.out)
  have OE_34 := Lib.hid (ZOE.out)
  have OW_35 := Lib.hid (ZOW.out)
  clear ZG ZB Z5 Z6 ZON ZOA ZOJ ZOE ZOW 
  exact wr_tail w wv b (c2 b) w1.heap.size w5.heap.size o1 n1 k1 o2 n2 k2 o3 n3 k3 o4 n4 k4 o5 n5 k5 p1 q1 r1 p2 q2 r2 p3 q3 r3 e1_ e2_ e3_ p5 q5 r5 GB_27.out X5_29.out X6_30.out (HB3.out.br.on B0_28.out) ⟨Row.of_own ON_31.out,⟨_,Row.of_own OA_32.out,(HLA.out).mono fun _ _ h => h.on B0_28.out⟩,Row.of_own OJ_33.out,⟨_,Row.of_own OE_34.out,(HLE.out.append (.cons ⟨rfl,rfl,rfl,rfl,row_nil _⟩ .nil)).mono fun _ _ h => h.on B0_28.out⟩,⟨_,Row.of_own OW_35.out,(HLW.out).mono fun _ _ h => h.on B0_28.out⟩⟩ KK.out (trn2 KK.out SN.out) rfl _ _ _ _ _ _ _ _ _ _ _ _ _ _ _ _ _ _ _ _ _ _ _ _ _ _ _ _ _ _ _ _ _ _ _ _ _ _ _ _ _ _ _ _ _ _ _ _ _ _ _ _ _ _ _ _ _ _ _ _ _ _ _ _ _ _ _ _ _ _ _ _ _ _ _ _ _ _ _ _ _ _ _ _ _ _ _ _ _ _ _ _ _ _ _ _
 ·have hl := row_lit okW wa [((-1,0,(none,0,0)) : XOw),((-1,0,(none,0,0)) : XOw)] 2 rfl (by simp) #[.int .i64 (-1),.int .i64 0,.slice none 0 0,.int .i64 (-1),.int .i64 0,.slice none 0 0] (by rfl)
  have NB := newB wa (.cells #[.int .i64 (-1),.int .i64 0,.slice none 0 0,.int .i64 (-1),.int .i64 0,.slice none 0 0] 45)
  obtain ⟨x0,x1,x2,x3,x4,x5⟩ := X6_16.out.cs6
  have d_ := (X6_16.out.on NB).cell 5
  simp only [List.getElem?_toArray,List.getElem?_cons_zero,List.getElem?_cons_succ] at d_
  have GB_17 := Lib.hid (GB_15.out.trans (NB.mono GB_15.out.size))
  have X5_17 := Lib.hid (X5_15.out.on NB)
  have B0_17 := Lib.hid (B0_15.out.trans (NB.mono B0_15.out.size))
  have ON_17 := Lib.hid (Bk.own_on ON_15.out NB)
  have OA_17 := Lib.hid (Bk.own_on OA_15.out NB)
  have OJ_17 := Lib.hid (Bk.own_on OJ_15.out NB)
  have OE_17 := Lib.hid (Bk.own_on OE_15.out NB)
  have OW_17 := Lib.hid (Bk.own_on OW_15.out NB)
  have X6_17 := Lib.hid (X6_16.out.on NB)
  clear GB_15 X5_15 B0_15 ON_15 OA_15 OJ_15 OE_15 OW_15 X6_16
  obtain ⟨v',wu,q0_,oa,ga⟩ := app_row okW w4.heap.size OW_17.out (Row.of_own hl) (by rw [HLW.out.len]; exact Nat.le_trans KK.out.lo (by decide)) (by simp) B0_17.out.size 29
  have q1_ : (Builtin.append_ #[29,29] 29 #[.slice p5 q5 r5,.slice (some ⟨wa.heap.size,0,none⟩) 2 2]).run Tryz.prog (wa.alloc (.cells #[.int .i64 (-1),.int .i64 0,.slice none 0 0,.int .i64 (-1),.int .i64 0,.slice none 0 0] 45)) = .ok v' wu := q0_
  obtain ⟨e1_,e3_,hv⟩ := (Row.of_own oa).len
  obtain ⟨e2_,he2⟩ : ∃ n,n = (lw ++ [((-1,0,(none,0,0)) : XOw),((-1,0,(none,0,0)) : XOw)]).length := ⟨_,rfl⟩
  rw [← he2] at hv
  subst hv
  clear he2
  have YON := Lib.hid (own_app OW_17.out ga ON_17.out (by decide))
  have YOA := Lib.hid (own_app OW_17.out ga OA_17.out (by decide))
  have YOJ := Lib.hid (own_app OW_17.out ga OJ_17.out (by decide))
  have YOE := Lib.hid (own_app OW_17.out ga OE_17.out (by decide))
  have YOW := Lib.hid (oa)
  have YX5 := Lib.hid (box_app OW_17.out ga X5_17.out (by decide))
  have YX6 := Lib.hid (box_app OW_17.out ga X6_17.out (by decide))
  have YG := Lib.hid (GB_17.out.grown ga (Nat.le_trans G4.out B0_17.out.size) fun j hj => Nat.le_trans G4.out (OW_17.out.lt j hj).1)
  have YB := Lib.hid (B0_17.out.grown ga B0_17.out.size fun j hj => (OW_17.out.lt j hj).1)
  clear GB_17 B0_17 X5_17 X6_17 ON_17 OA_17 OJ_17 OE_17 OW_17
  have GB_18 := Lib.hid (YG.out)
  have B0_19 := Lib.hid (YB.out)
  have X5_20 := Lib.hid (YX5.out)
  have X6_21 := Lib.hid (YX6.out)
  have ON_22 := Lib.hid (YON.out)
  have OA_23 := Lib.hid (YOA.out)
  have OJ_24 := Lib.hid (YOJ.out)
  have OE_25 := Lib.hid (YOE.out)
  have OW_26 := Lib.hid (YOW.out)
  clear YG YB YX5 YX6 YON YOA YOJ YOE YOW 
  clear hl NB oa ga
  have e_ := X6_21.out.cell 5
  have f_ := X6_21.out.fr 5
  have zz := X6_21.out.lt
  simp only [List.getElem?_toArray,List.getElem?_cons_zero,List.getElem?_cons_succ] at e_
  go_wp2_with (first | (at_builtin; refine wpList_append_run rfl _ _ 29 rfl rfl rfl q1_ ?_) | fail)
  clear x0 x1 x2 x3 x4 x5
  clear zz e_ f_ d_ q1_ q0_
  have BT := but_cell wu w5.heap.size 5 (.slice e1_ e2_ e3_)
  have Z6 := box_set (k := 5) X6_21.out (.slice e1_ e2_ e3_)
  simp only [List.setIfInBounds_toArray,List.set_cons_zero,List.set_cons_succ] at Z6
  have ZON := Lib.hid (BT.own ON_22.out X6_21.out (by decide))
  have ZOA := Lib.hid (BT.own OA_23.out X6_21.out (by decide))
  have ZOJ := Lib.hid (BT.own OJ_24.out X6_21.out (by decide))
  have ZOE := Lib.hid (BT.own OE_25.out X6_21.out (by decide))
  have ZOW := Lib.hid (BT.own OW_26.out X6_21.out (by decide))
  have ZG := Lib.hid (GB_18.out.setCell (p := ⟨w5.heap.size,5,none⟩) G6.out (.slice e1_ e2_ e3_))
  have ZB := Lib.hid (B0_19.out.setCell (p := ⟨w5.heap.size,5,none⟩) F6.out (.slice e1_ e2_ e3_))
  have Z5 := Lib.hid (BT.box X5_20.out N56.out)
  clear BT GB_18 B0_19 X5_20 X6_21 ON_22 OA_23 OJ_24 OE_25 OW_26
  generalize wu.setCell ⟨w5.heap.size,5,none⟩ (.slice e1_ e2_ e3_) = wv at *
  have GB_27 := Lib.hid (ZG.out)
  have B0_28 := Lib.hid (ZB.out)
  have X5_29 := Lib.hid (Z5.out)
  have X6_30 := Lib.hid (Z6)
  have ON_31 := Lib.hid (ZON.out)
  have OA_32 := Lib.hid (ZOA.out)
  have OJ_33 := Lib.hid (ZOJ.out)
  have OE_34 := Lib.hid (ZOE.out)
  have OW_35 := Lib.hid (ZOW.out)
  clear ZG ZB Z5 Z6 ZON ZOA ZOJ ZOE ZOW 
  exact wr_tail w wv b (c3 b) w1.heap.size w5.heap.size o1 n1 k1 o2 n2 k2 o3 n3 k3 o4 n4 k4 o5 n5 k5 p1 q1 r1 p2 q2 r2 p3 q3 r3 p4 q4 r4 e1_ e2_ e3_ GB_27.out X5_29.out X6_30.out (HB3.out.br.on B0_28.out) ⟨Row.of_own ON_31.out,⟨_,Row.of_own OA_32.out,(HLA.out).mono fun _ _ h => h.on B0_28.out⟩,Row.of_own OJ_33.out,⟨_,Row.of_own OE_34.out,(HLE.out).mono fun _ _ h => h.on B0_28.out⟩,⟨_,Row.of_own OW_35.out,(HLW.out.append (.cons ⟨rfl,row_nil _⟩ (.cons ⟨rfl,row_nil _⟩ .nil))).mono fun _ _ h => h.on B0_28.out⟩⟩ KK.out (trn3 KK.out) rfl _ _ _ _ _ _ _ _ _ _ _ _ _ _ _ _ _ _ _ _ _ _ _ _ _ _ _ _ _ _ _ _ _ _ _ _ _ _ _ _ _ _ _ _ _ _ _ _ _ _ _ _ _ _ _ _ _ _ _ _ _ _ _ _ _ _ _ _ _ _ _ _ _ _ _ _ _ _ _ _ _ _ _ _ _ _ _ _ _ _ _ _ _ _ _ _
 ·have hl := row_lit okJ wa [((97,0) : XID),((97,0) : XID)] 2 rfl (by simp) #[.int .i64 97,.int .i64 0,.int .i64 97,.int .i64 0] (by rfl)
  have NB := newB wa (.cells #[.int .i64 97,.int .i64 0,.int .i64 97,.int .i64 0] 38)
  obtain ⟨x0,x1,x2,x3,x4,x5⟩ := X6_16.out.cs6
  have d_ := (X6_16.out.on NB).cell 3
  simp only [List.getElem?_toArray,List.getElem?_cons_zero,List.getElem?_cons_succ] at d_
  have GB_17 := Lib.hid (GB_15.out.trans (NB.mono GB_15.out.size))
  have X5_17 := Lib.hid (X5_15.out.on NB)
  have B0_17 := Lib.hid (B0_15.out.trans (NB.mono B0_15.out.size))
  have ON_17 := Lib.hid (Bk.own_on ON_15.out NB)
  have OA_17 := Lib.hid (Bk.own_on OA_15.out NB)
  have OJ_17 := Lib.hid (Bk.own_on OJ_15.out NB)
  have OE_17 := Lib.hid (Bk.own_on OE_15.out NB)
  have OW_17 := Lib.hid (Bk.own_on OW_15.out NB)
  have X6_17 := Lib.hid (X6_16.out.on NB)
  clear GB_15 X5_15 B0_15 ON_15 OA_15 OJ_15 OE_15 OW_15 X6_16
  obtain ⟨v',wu,q0_,oa,ga⟩ := app_row okJ w4.heap.size OJ_17.out (Row.of_own hl) (Nat.le_trans KK.out.ls (by decide)) (by simp) B0_17.out.size 27
  have q1_ : (Builtin.append_ #[27,27] 27 #[.slice p3 q3 r3,.slice (some ⟨wa.heap.size,0,none⟩) 2 2]).run Tryz.prog (wa.alloc (.cells #[.int .i64 97,.int .i64 0,.int .i64 97,.int .i64 0] 38)) = .ok v' wu := q0_
  obtain ⟨e1_,e3_,hv⟩ := (Row.of_own oa).len
  obtain ⟨e2_,he2⟩ : ∃ n,n = (b.seen ++ [((97,0) : XID),((97,0) : XID)]).length := ⟨_,rfl⟩
  rw [← he2] at hv
  subst hv
  clear he2
  have YON := Lib.hid (own_app OJ_17.out ga ON_17.out (by decide))
  have YOA := Lib.hid (own_app OJ_17.out ga OA_17.out (by decide))
  have YOJ := Lib.hid (oa)
  have YOE := Lib.hid (own_app OJ_17.out ga OE_17.out (by decide))
  have YOW := Lib.hid (own_app OJ_17.out ga OW_17.out (by decide))
  have YX5 := Lib.hid (box_app OJ_17.out ga X5_17.out (by decide))
  have YX6 := Lib.hid (box_app OJ_17.out ga X6_17.out (by decide))
  have YG := Lib.hid (GB_17.out.grown ga (Nat.le_trans G4.out B0_17.out.size) fun j hj => Nat.le_trans G4.out (OJ_17.out.lt j hj).1)
  have YB := Lib.hid (B0_17.out.grown ga B0_17.out.size fun j hj => (OJ_17.out.lt j hj).1)
  clear GB_17 B0_17 X5_17 X6_17 ON_17 OA_17 OJ_17 OE_17 OW_17
  have GB_18 := Lib.hid (YG.out)
  have B0_19 := Lib.hid (YB.out)
  have X5_20 := Lib.hid (YX5.out)
  have X6_21 := Lib.hid (YX6.out)
  have ON_22 := Lib.hid (YON.out)
  have OA_23 := Lib.hid (YOA.out)
  have OJ_24 := Lib.hid (YOJ.out)
  have OE_25 := Lib.hid (YOE.out)
  have OW_26 := Lib.hid (YOW.out)
  clear YG YB YX5 YX6 YON YOA YOJ YOE YOW 
  clear hl NB oa ga
  have e_ := X6_21.out.cell 3
  have f_ := X6_21.out.fr 3
  have zz := X6_21.out.lt
  simp only [List.getElem?_toArray,List.getElem?_cons_zero,List.getElem?_cons_succ] at e_
  go_wp2_with (first | (at_builtin; refine wpList_append_run rfl _ _ 27 rfl rfl rfl q1_ ?_) | fail)
  clear x0 x1 x2 x3 x4 x5
  clear zz e_ f_ d_ q1_ q0_
  have BT := but_cell wu w5.heap.size 3 (.slice e1_ e2_ e3_)
  have Z6 := box_set (k := 3) X6_21.out (.slice e1_ e2_ e3_)
  simp only [List.setIfInBounds_toArray,List.set_cons_zero,List.set_cons_succ] at Z6
  have ZON := Lib.hid (BT.own ON_22.out X6_21.out (by decide))
  have ZOA := Lib.hid (BT.own OA_23.out X6_21.out (by decide))
  have ZOJ := Lib.hid (BT.own OJ_24.out X6_21.out (by decide))
  have ZOE := Lib.hid (BT.own OE_25.out X6_21.out (by decide))
  have ZOW := Lib.hid (BT.own OW_26.out X6_21.out (by decide))
  have ZG := Lib.hid (GB_18.out.setCell (p := ⟨w5.heap.size,3,none⟩) G6.out (.slice e1_ e2_ e3_))
  have ZB := Lib.hid (B0_19.out.setCell (p := ⟨w5.heap.size,3,none⟩) F6.out (.slice e1_ e2_ e3_))
  have Z5 := Lib.hid (BT.box X5_20.out N56.out)
  clear BT GB_18 B0_19 X5_20 X6_21 ON_22 OA_23 OJ_24 OE_25 OW_26
  generalize wu.setCell ⟨w5.heap.size,3,none⟩ (.slice e1_ e2_ e3_) = wv at *
  have GB_27 := Lib.hid (ZG.out)
  have B0_28 := Lib.hid (ZB.out)
  have X5_29 := Lib.hid (Z5.out)
  have X6_30 := Lib.hid (Z6)
  have ON_31 := Lib.hid (ZON.out)
  have OA_32 := Lib.hid (ZOA.out)
  have OJ_33 := Lib.hid (ZOJ.out)
  have OE_34 := Lib.hid (ZOE.out)
  have OW_35 := Lib.hid (ZOW.out)
  clear ZG ZB Z5 Z6 ZON ZOA ZOJ ZOE ZOW 
  exact wr_tail w wv b (c4 b) w1.heap.size w5.heap.size o1 n1 k1 o2 n2 k2 o3 n3 k3 o4 n4 k4 o5 n5 k5 p1 q1 r1 p2 q2 r2 e1_ e2_ e3_ p4 q4 r4 p5 q5 r5 GB_27.out X5_29.out X6_30.out (HB3.out.br.on B0_28.out) ⟨Row.of_own ON_31.out,⟨_,Row.of_own OA_32.out,(HLA.out).mono fun _ _ h => h.on B0_28.out⟩,Row.of_own OJ_33.out,⟨_,Row.of_own OE_34.out,(HLE.out).mono fun _ _ h => h.on B0_28.out⟩,⟨_,Row.of_own OW_35.out,(HLW.out).mono fun _ _ h => h.on B0_28.out⟩⟩ KK.out (trn4 KK.out) rfl _ _ _ _ _ _ _ _ _ _ _ _ _ _ _ _ _ _ _ _ _ _ _ _ _ _ _ _ _ _ _ _ _ _ _ _ _ _ _ _ _ _ _ _ _ _ _ _ _ _ _ _ _ _ _ _ _ _ _ _ _ _ _ _ _ _ _ _ _ _ _ _ _ _ _ _ _ _ _ _ _ _ _ _ _ _ _ _ _ _ _ _ _ _ _ _
 ·have hlc := row_lit okC wa [z5] 1 rfl (by simp) litC (by rfl)
  have NC := newB wa (.cells litC 47)
  have GB_17 := Lib.hid (GB_15.out.trans (NC.mono GB_15.out.size))
  have X5_17 := Lib.hid (X5_15.out.on NC)
  have B0_17 := Lib.hid (B0_15.out.trans (NC.mono B0_15.out.size))
  have ON_17 := Lib.hid (Bk.own_on ON_15.out NC)
  have OA_17 := Lib.hid (Bk.own_on OA_15.out NC)
  have OJ_17 := Lib.hid (Bk.own_on OJ_15.out NC)
  have OE_17 := Lib.hid (Bk.own_on OE_15.out NC)
  have OW_17 := Lib.hid (Bk.own_on OW_15.out NC)
  have X6_17 := Lib.hid (X6_16.out.on NC)
  clear GB_15 X5_15 B0_15 ON_15 OA_15 OJ_15 OE_15 OW_15 X6_16
  have LC_18 := Lib.hid (hlc)
  clear hlc NC
  have hl := row_lit okW (wa.alloc (.cells litC 47)) [((-5,0,(some ⟨wa.heap.size,0,none⟩,1,1)) : XOw)] 1 rfl (by simp) #[.int .i64 (-5),.int .i64 0,.slice (some ⟨wa.heap.size,0,none⟩) 1 1] (by rfl)
  have NB := newB (wa.alloc (.cells litC 47)) (.cells #[.int .i64 (-5),.int .i64 0,.slice (some ⟨wa.heap.size,0,none⟩) 1 1] 45)
  have BS := B0_17.out.size
  have GB_19 := Lib.hid (GB_17.out.trans (NB.mono GB_17.out.size))
  have X5_19 := Lib.hid (X5_17.out.on NB)
  have B0_19 := Lib.hid (B0_17.out.trans (NB.mono B0_17.out.size))
  have ON_19 := Lib.hid (Bk.own_on ON_17.out NB)
  have OA_19 := Lib.hid (Bk.own_on OA_17.out NB)
  have OJ_19 := Lib.hid (Bk.own_on OJ_17.out NB)
  have OE_19 := Lib.hid (Bk.own_on OE_17.out NB)
  have OW_19 := Lib.hid (Bk.own_on OW_17.out NB)
  have X6_19 := Lib.hid (X6_17.out.on NB)
  have LC_19 := Lib.hid (Bk.own_on LC_18.out NB)
  clear GB_17 X5_17 B0_17 ON_17 OA_17 OJ_17 OE_17 OW_17 X6_17 LC_18
  have LW_20 := Lib.hid (own_fewer hl BS)
  have d_ := X6_19.out.cell 5
  simp only [List.getElem?_toArray,List.getElem?_cons_zero,List.getElem?_cons_succ] at d_
  obtain ⟨v',wu,q0_,oa,ga⟩ := app_row okW w4.heap.size LW_20.out (Row.of_own OW_19.out) (by simp) (by rw [HLW.out.len]; exact Nat.le_trans KK.out.lo (by decide)) B0_19.out.size 29
  have hs1 : (wa.alloc (.cells litC 47)).heap.size = wa.heap.size + 1 := by simp
  have q1_ : (Builtin.append_ #[29,29] 29 #[.slice (some ⟨wa.heap.size + 1,0,none⟩) 1 1,.slice p5 q5 r5]).run Tryz.prog ((wa.alloc (.cells litC 47)).alloc (.cells #[.int .i64 (-5),.int .i64 0,.slice (some ⟨wa.heap.size,0,none⟩) 1 1] 45)) = .ok v' wu := by rw [← hs1]; exact q0_
  obtain ⟨e1_,e3_,hv⟩ := (Row.of_own oa).len
  obtain ⟨e2_,he2⟩ : ∃ n,n = ([((-5,0,(some ⟨wa.heap.size,0,none⟩,1,1)) : XOw)] ++ lw).length := ⟨_,rfl⟩
  rw [← he2] at hv
  subst hv
  clear he2 hs1 BS
  have YLC := Lib.hid (own_app LW_20.out ga LC_19.out (by decide))
  have YON := Lib.hid (own_app LW_20.out ga ON_19.out (by decide))
  have YOA := Lib.hid (own_app LW_20.out ga OA_19.out (by decide))
  have YOJ := Lib.hid (own_app LW_20.out ga OJ_19.out (by decide))
  have YOE := Lib.hid (own_app LW_20.out ga OE_19.out (by decide))
  have YOW := Lib.hid (oa)
  have YX5 := Lib.hid (box_app LW_20.out ga X5_19.out (by decide))
  have YX6 := Lib.hid (box_app LW_20.out ga X6_19.out (by decide))
  have YG := Lib.hid (GB_19.out.grown ga (Nat.le_trans G4.out B0_19.out.size) fun j hj => Nat.le_trans G4.out (LW_20.out.lt j hj).1)
  have YB := Lib.hid (B0_19.out.grown ga B0_19.out.size fun j hj => (LW_20.out.lt j hj).1)
  clear GB_19 B0_19 X5_19 X6_19 ON_19 OA_19 OJ_19 OE_19 OW_19 LC_19
  have GB_21 := Lib.hid (YG.out)
  have B0_22 := Lib.hid (YB.out)
  have X5_23 := Lib.hid (YX5.out)
  have X6_24 := Lib.hid (YX6.out)
  have ON_25 := Lib.hid (YON.out)
  have OA_26 := Lib.hid (YOA.out)
  have OJ_27 := Lib.hid (YOJ.out)
  have OE_28 := Lib.hid (YOE.out)
  have OW_29 := Lib.hid (YOW.out)
  have LC_30 := Lib.hid (YLC.out)
  clear YG YB YX5 YX6 YON YOA YOJ YOE YOW YLC
  clear hl NB oa ga LW_20
  have e_ := X6_24.out.cell 5
  have f_ := X6_24.out.fr 5
  have zz := X6_24.out.lt
  simp only [List.getElem?_toArray,List.getElem?_cons_zero,List.getElem?_cons_succ] at e_
  go_wp2_with (first | (at_builtin; refine wpList_append_run rfl _ _ 29 rfl rfl rfl q1_ ?_) | fail)
  clear zz e_ f_ d_ q1_ q0_
  have BT := but_cell wu w5.heap.size 5 (.slice e1_ e2_ e3_)
  have Z6 := box_set (k := 5) X6_24.out (.slice e1_ e2_ e3_)
  simp only [List.setIfInBounds_toArray,List.set_cons_zero,List.set_cons_succ] at Z6
  have ZON := Lib.hid (BT.own ON_25.out X6_24.out (by decide))
  have ZOA := Lib.hid (BT.own OA_26.out X6_24.out (by decide))
  have ZOJ := Lib.hid (BT.own OJ_27.out X6_24.out (by decide))
  have ZOE := Lib.hid (BT.own OE_28.out X6_24.out (by decide))
  have ZOW := Lib.hid (BT.own OW_29.out X6_24.out (by decide))
  have ZLC := Lib.hid (BT.own LC_30.out X6_24.out (by decide))
  have ZG := Lib.hid (GB_21.out.setCell (p := ⟨w5.heap.size,5,none⟩) G6.out (.slice e1_ e2_ e3_))
  have ZB := Lib.hid (B0_22.out.setCell (p := ⟨w5.heap.size,5,none⟩) F6.out (.slice e1_ e2_ e3_))
  have Z5 := Lib.hid (BT.box X5_23.out N56.out)
  clear BT GB_21 B0_22 X5_23 X6_24 ON_25 OA_26 OJ_27 OE_28 OW_29 LC_30
  generalize wu.setCell ⟨w5.heap.size,5,none⟩ (.slice e1_ e2_ e3_) = wv at *
  have GB_31 := Lib.hid (ZG.out)
  have B0_32 := Lib.hid (ZB.out)
  have X5_33 := Lib.hid (Z5.out)
  have X6_34 := Lib.hid (Z6)
  have ON_35 := Lib.hid (ZON.out)
  have OA_36 := Lib.hid (ZOA.out)
  have OJ_37 := Lib.hid (ZOJ.out)
  have OE_38 := Lib.hid (ZOE.out)
  have OW_39 := Lib.hid (ZOW.out)
  have LC_40 := Lib.hid (ZLC.out)
  clear ZG ZB Z5 Z6 ZON ZOA ZOJ ZOE ZOW ZLC
  exact wr_tail w wv b (c5 b) w1.heap.size w5.heap.size o1 n1 k1 o2 n2 k2 o3 n3 k3 o4 n4 k4 o5 n5 k5 p1 q1 r1 p2 q2 r2 p3 q3 r3 p4 q4 r4 e1_ e2_ e3_ GB_31.out X5_33.out X6_34.out (HB3.out.br.on B0_32.out) ⟨Row.of_own ON_35.out,⟨_,Row.of_own OA_36.out,(HLA.out).mono fun _ _ h => h.on B0_32.out⟩,Row.of_own OJ_37.out,⟨_,Row.of_own OE_38.out,(HLE.out).mono fun _ _ h => h.on B0_32.out⟩,⟨_,Row.of_own OW_39.out,(All2.cons (R := OwIn wv) (a := ((-5,0,(some ⟨wa.heap.size,0,none⟩,1,1)) : XOw)) (b := ⟨(-5,0),[z5]⟩) ⟨rfl,Row.of_own LC_40.out⟩ .nil).append (HLW.out.mono fun _ _ h => h.on B0_32.out)⟩⟩ KK.out (trn5 KK.out) rfl _ _ _ _ _ _ _ _ _ _ _ _ _ _ _ _ _ _ _ _ _ _ _ _ _ _ _ _ _ _ _ _ _ _ _ _ _ _ _ _ _ _ _ _ _ _ _ _ _ _ _ _ _ _ _ _ _ _ _ _ _ _ _ _ _ _ _ _ _ _ _ _ _ _ _ _ _ _ _ _ _ _ _ _ _ _ _ _ _ _ _ _ _ _ _ _
end Go.Proofs.YtncogjpmboglhaaGreat.Av
