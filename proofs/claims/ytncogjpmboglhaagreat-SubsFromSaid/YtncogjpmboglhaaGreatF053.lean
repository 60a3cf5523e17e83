/-
  SubsFrom whole. Conditions as told.
-/
import Derived.Test.YtncogjpmboglhaaGreatF052
set_option maxRecDepth 100000
set_option maxHeartbeats 64000000
namespace Go.Proofs.YtncogjpmboglhaaGreat.Sb
open Go.RowKit Go.Sort Rw YtncogjpmboglhaaGreat.Nm Pr Bk Av Rl
theorem add_in {b:Br} (k:KI 12 b) (hs:KS b) {t1 t2 y2 f:Int} {p:List C5} (hp:PredOk p) :
  (findA b.adv (t1,t2)=none∧addB b ⟨(t1,t2),(9,y2),p,f,false⟩=(b,false))∨(∃ a,findA b.adv (t1,t2)=some a∧f=a.par∧(a.par == -1)=false∧addB b ⟨(t1,t2),(9,y2),p,f,false⟩=(b,false)) ∨
  (∃ a u c,findA b.adv (t1,t2)=some a∧((f == -1)=true∨((f == -1)=false∧(f != a.par)=true))∧(u=true→(a.par == -1)=false)∧addB b ⟨(t1,t2),(9,y2),p,f,false⟩=(c,u)∧Has c b.ent.length t1 t2 y2 f p u):=by
 have hn:=not_in hs t1 t2 y2
 rcases add_cases k.ok.ent ⟨(t1,t2),(9,y2),p,f,false⟩ hn with h|⟨a,h1,h2,h3,h4⟩|⟨a,u,h1,h2,h3,h4,_⟩
 ·exact Or.inl h
 ·exact Or.inr (Or.inl ⟨a,h1,h2,by simpa using h3,h4⟩)
 ·refine Or.inr (Or.inr ⟨a,u,_,h1,?_,fun q=>by simpa using h3 q,h4,has_ins k (Nat.le_trans k.le (by decide)) hp u hn⟩)
  rcases h2 with h2|h2
  ·exact Or.inl (by simpa using h2)
  ·by_cases q:f=-1
   ·exact Or.inl (by simpa using q)
   ·exact Or.inr ⟨by simpa using q,by simpa using h2⟩
theorem from_any (zn:Int) (v:Value) (n:Nat) (tree cl fr:Int) (h1:Option Addr) (h2 h3:Nat) (g1:Option Addr) (g2 g3:Nat) (has vals:List Int) (w:World) (b1:-9223372036854775808≤zn) (b2:zn≤9223372036854775807) (b3:-9223372036854775808≤tree) (b4:tree≤9223372036854775807) (b5:-9223372036854775808≤cl) (b6:cl≤9223372036854775807) (b7:-9223372036854775808≤fr) (b8:fr≤9223372036854775807) (hs:InSt w v n) (hn:n≤maxLen) (ih:In.InInts w (.slice h1 h2 h3) has) (iv:In.InInts w (.slice g1 g2 g3) vals) (lh:has.length≤maxLen) (lv:vals.length≤maxLen) :
  Calls Tryz.prog 5 #[.agg #[.int .i64 zn,v],.int .i64 tree,.int .i64 cl,.int .i64 fr,.agg #[.slice h1 h2 h3,.slice g1 g2 g3]] w fun e w'=>e=.returned (.bool true)∧Below w.heap.size w w':=by
 obtain⟨NB,K5,K9⟩:=two_new w #[.int .i64 zn,v] #[.slice h1 h2 h3,.slice g1 g2 g3] 24 53
 have BK:=Lib.hid (brk2_any zn v n _ b1 b2 (hs.on NB) hn)
 have GB_1:=Lib.hid (NB)
 have X5_2:=Lib.hid (K5)
 have X9_3:=Lib.hid (K9)
 have IH_4:=Lib.hid (ih.on NB)
 have IV_5:=Lib.hid (iv.on NB)
 have TB:=Lib.hid (And.intro b3 b4)
 have CB:=Lib.hid (And.intro b5 b6)
 have FB:=Lib.hid (And.intro b7 b8)
 have LH:=Lib.hid lh
 have LV:=Lib.hid lv
 have OE:=Lib.hid (prd_ok5 has vals)
 clear NB K5 K9 hs hn ih iv lh lv b1 b2 b3 b4 b5 b6 b7 b8
 go_enter Tryz.func5,Tryz.ntmps5
 conv=>enter [2,2,2,2,2,2,2,2,2,2]; change sfTailC
 go_upto_region 1 with fail
 generalize (w.alloc (.cells #[.int .i64 zn,v] 24)).alloc (.cells #[.slice h1 h2 h3,.slice g1 g2 g3] 53)=W at *
 generalize w.heap.size+1=bP at *
 obtain⟨k0,k1⟩:=X5_2.out.cs2
 go_wp2_with fail
 refine BK.out.mono ?_
 rintro e1 w1 ⟨⟨b,⟨s1,s2,s3⟩,⟨s4,s5,s6⟩,⟨s7,s8,s9⟩,⟨s10,s11,s12⟩,⟨s13,s14,s15⟩,rfl,hbr,hki,hnl,hsn⟩,hb⟩
 clear BK
 clear k0 k1
 clear X5_2
 have GB_6:=Lib.hid (GB_1.out.trans (hb.mono GB_1.out.size))
 have X9_6:=Lib.hid (X9_3.out.on hb)
 have IH_6:=Lib.hid (IH_4.out.on hb)
 have IV_6:=Lib.hid (IV_5.out.on hb)
 clear GB_1 X9_3 IH_4 IV_5
 have HB_7:=Lib.hid (hbr)
 have KK:=Lib.hid hki
 have SN:=Lib.hid hsn
 clear hbr hki hnl hsn hb
 go_upto_region 2 with fail
 have NN:=newB w1 (.cells #[.int .i64 b.me,.slice s1 s2 s3,.slice s4 s5 s6,.slice s7 s8 s9,.slice s10 s11 s12,.slice s13 s14 s15] 31)
 have GB_8:=Lib.hid (GB_6.out.trans (NN.mono GB_6.out.size))
 have X9_8:=Lib.hid (X9_6.out.on NN)
 have IH_8:=Lib.hid (IH_6.out.on NN)
 have IV_8:=Lib.hid (IV_6.out.on NN)
 have HB_8:=Lib.hid (HB_7.out.on NN)
 clear GB_6 X9_6 IH_6 IV_6 HB_7
 clear NN
 have XB_9:=Lib.hid (box_new w1 #[.int .i64 b.me,.slice s1 s2 s3,.slice s4 s5 s6,.slice s7 s8 s9,.slice s10 s11 s12,.slice s13 s14 s15] 31)
 generalize w1.alloc (.cells #[.int .i64 b.me,.slice s1 s2 s3,.slice s4 s5 s6,.slice s7 s8 s9,.slice s10 s11 s12,.slice s13 s14 s15] 31)=w2 at *
 generalize w1.heap.size=bB at *
 go_wp2_with fail
 refine (Wi.within_any tree 0 2 w2 (by decide) (by decide) (by decide) TB.out.1 TB.out.2).mono ?_
 rintro e2 w2_ ⟨rfl,rfl⟩
 generalize Wi.within tree 0 2=t1 at *
 go_wp2_with fail
 refine (Wi.within_any cl 0 9 w2 (by decide) (by decide) (by decide) CB.out.1 CB.out.2).mono ?_
 rintro e3 w2_ ⟨rfl,rfl⟩
 generalize Wi.within cl 0 9=y2 at *
 go_upto_region 3 with fail
 obtain⟨NB,KT,KS_⟩:=two_new w2 #[.int .i64 t1,.int .i64 0] #[.int .i64 9,.int .i64 y2] 38 38
 have GB_10:=Lib.hid (GB_8.out.trans (NB.mono GB_8.out.size))
 have X9_10:=Lib.hid (X9_8.out.on NB)
 have IH_10:=Lib.hid (IH_8.out.on NB)
 have IV_10:=Lib.hid (IV_8.out.on NB)
 have HB_10:=Lib.hid (HB_8.out.on NB)
 have XB_10:=Lib.hid (XB_9.out.on NB)
 clear GB_8 X9_8 IH_8 IV_8 HB_8 XB_9
 have XT_11:=Lib.hid (KT)
 have XS_12:=Lib.hid (KS_)
 clear NB KT KS_
 generalize (w2.alloc (.cells #[.int .i64 t1,.int .i64 0] 38)).alloc (.cells #[.int .i64 9,.int .i64 y2] 38)=w3 at *
 generalize w2.heap.size+1=bS at *
 generalize w2.heap.size=bT at *
 obtain⟨xb0,xb1,xb2,xb3,xb4,xb5⟩:=XB_10.out.cs6
 go_wp2_with fail
 refine (side_any b.me fr (s1,s2,s3) _ _ _ _ b.near w3 HB_10.out.br.near KK.out.few.near FB.out.1 FB.out.2).mono ?_
 rintro e4 w4 ⟨rfl,hb⟩
 clear xb0 xb1 xb2 xb3 xb4 xb5
 have GB_13:=Lib.hid (GB_10.out.trans (hb.mono GB_10.out.size))
 have X9_13:=Lib.hid (X9_10.out.on hb)
 have IH_13:=Lib.hid (IH_10.out.on hb)
 have IV_13:=Lib.hid (IV_10.out.on hb)
 have HB_13:=Lib.hid (HB_10.out.on hb)
 have XB_13:=Lib.hid (XB_10.out.on hb)
 have XT_13:=Lib.hid (XT_11.out.on hb)
 have XS_13:=Lib.hid (XS_12.out.on hb)
 clear GB_10 X9_10 IH_10 IV_10 HB_10 XB_10 XT_11 XS_12
 clear hb
 generalize sideI b.near fr=f at *
 rcases add_in (t1:=t1) (t2:=0) (y2:=y2) (f:=f) KK.out SN.out.2 OE.out with⟨hf,ha⟩|⟨a,hf,hq,hpar,ha⟩|⟨a,u,c,hf,hq,hpar,ha,hhas⟩
 ·have HA:=Lib.hid ha
  clear ha
  obtain⟨la,hla,hAa⟩:=HB_13.out.br.adv
  obtain⟨xb0,xb1,xb2,xb3,xb4,xb5⟩:=XB_13.out.cs6
  obtain⟨xt0,xt1⟩:=XT_13.out.cs2
  go_wp2_with fail
  refine (find_any b.me _ _ _ _ (s4,s5,s6) la b.adv (t1,0) w4 hla hAa KK.out.fewp.adv).mono ?_
  rw [hf]
  rintro e5 w5 ⟨rfl,hb⟩
  clear xb0 xb1 xb2 xb3 xb4 xb5 xt0 xt1
  have GB_14:=Lib.hid (GB_13.out.trans (hb.mono GB_13.out.size))
  have X9_14:=Lib.hid (X9_13.out.on hb)
  have IH_14:=Lib.hid (IH_13.out.on hb)
  have IV_14:=Lib.hid (IV_13.out.on hb)
  have HB_14:=Lib.hid (HB_13.out.on hb)
  have XB_14:=Lib.hid (XB_13.out.on hb)
  have XT_14:=Lib.hid (XT_13.out.on hb)
  have XS_14:=Lib.hid (XS_13.out.on hb)
  clear GB_13 X9_13 IH_13 IV_13 HB_13 XB_13 XT_13 XS_13
  clear hla hAa hb hf
  have NN:=newB w5 (.cells #[.int .i64 0,.int .i64 0,.slice none 0 0,.int .i64 0] 41)
  have GB_15:=Lib.hid (GB_14.out.trans (NN.mono GB_14.out.size))
  have X9_15:=Lib.hid (X9_14.out.on NN)
  have IH_15:=Lib.hid (IH_14.out.on NN)
  have IV_15:=Lib.hid (IV_14.out.on NN)
  have HB_15:=Lib.hid (HB_14.out.on NN)
  have XB_15:=Lib.hid (XB_14.out.on NN)
  have XT_15:=Lib.hid (XT_14.out.on NN)
  have XS_15:=Lib.hid (XS_14.out.on NN)
  clear GB_14 X9_14 IH_14 IV_14 HB_14 XB_14 XT_14 XS_14
  clear NN
  have XA_16:=Lib.hid (box_new w5 #[.int .i64 0,.int .i64 0,.slice none 0 0,.int .i64 0] 41)
  go_upto_region 5 with fail
  generalize w5.alloc (.cells #[.int .i64 0,.int .i64 0,.slice none 0 0,.int .i64 0] 41)=w6 at *
  generalize w5.heap.size=bA at *
  refine sf5 _ w6 bB bT bS bP b s1 s2 s3 s4 s5 s6 s7 s8 s9 s10 s11 s12 s13 s14 s15 t1 0 y2 f h1 h2 h3 g1 g2 g3 has vals _ _ _ _ _ _ _ _ _ _ _ _ _ _ _ _ _ _ _ _ _ _ _ _ _ _ _ _ _ _ _ _ _ _ _ _ _ _ _ _ _ _ _ _ _ _ _ _ _ _ _ _ _ _ _ _ _ _ _ _ _ _ _ _ _ _ _ _ _ _ _ _ _ _ _ _ _ _ _ _ _ _ _ _ _ _ _ _ _ _ _ _ _ _ _ _ _ _ _ _ _ _ _ _ _ _ _ _ _ _ _ _ _ _ _ _ _ _ _ _ _ _ _ _ _ _ _ _ _ _ _ _ _ _ _ _ _ _ _ _ _ _ _ _ _ _ _ _ _ _ _ _ _ _ _ _ _ _ _ _ _ _ _ _ _ _ _ _ _ _ _ _ _ _ _ _ _ _ _ _ _ _ _ _ XB_15.out HB_15.out KK.out.few KK.out.fewp KK.out.ok.ent KK.out.pe OE.out XT_15.out XS_15.out X9_15.out IH_15.out IV_15.out LH.out LV.out ?_
  intro x bb v48 v49 v50 v51 v52 v53 v54 v55 v56 v57 v58 m1 m2 m3 m4 m5 m6 m7 m8 m9 m10 m11 m12 m13 m14 m15 hbb hbox hbr hb
  rw [HA.out] at hbox hbr ⊢
  have GB_17:=Lib.hid (GB_15.out.trans (hb.mono GB_15.out.size))
  have X9_17:=Lib.hid (X9_15.out.on hb)
  have IH_17:=Lib.hid (IH_15.out.on hb)
  have IV_17:=Lib.hid (IV_15.out.on hb)
  have HB_17:=Lib.hid (HB_15.out.on hb)
  have XB_17:=Lib.hid (XB_15.out.on hb)
  have XT_17:=Lib.hid (XT_15.out.on hb)
  have XS_17:=Lib.hid (XS_15.out.on hb)
  have XA_17:=Lib.hid (XA_16.out.on hb)
  clear GB_15 X9_15 IH_15 IV_15 HB_15 XB_15 XT_15 XS_15 XA_16
  have XC_18:=Lib.hid (hbox)
  have HC_19:=Lib.hid (hbr)
  clear hbb hbox hbr hb HA
  obtain⟨le,hle,hEe⟩:=HC_19.out.br.ent
  obtain⟨xc0,xc1,xc2,xc3,xc4,xc5⟩:=XC_18.out.cs6
  obtain⟨xt0,xt1⟩:=XT_17.out.cs2
  obtain⟨xs0,xs1⟩:=XS_17.out.cs2
  have hll:=all2_len hEe
  have hfe:=KK.out.few.ent
  go_wp2_with fail
  refine (sfind_any b.me _ _ _ _ (m10,m11,m12) le b.ent (t1,0) (9,y2) x hle hEe KK.out.ok.ent (by omega) KK.out.fewp.ent).mono ?_
  rw [findE_out (not_in SN.out.2 t1 0 y2)]
  rintro e6 x2 ⟨rfl,hb⟩
  clear xc0 xc1 xc2 xc3 xc4 xc5 xt0 xt1 xs0 xs1
  have GB_20:=Lib.hid (GB_17.out.trans (hb.mono GB_17.out.size))
  have X9_20:=Lib.hid (X9_17.out.on hb)
  have IH_20:=Lib.hid (IH_17.out.on hb)
  have IV_20:=Lib.hid (IV_17.out.on hb)
  have HB_20:=Lib.hid (HB_17.out.on hb)
  have XB_20:=Lib.hid (XB_17.out.on hb)
  have XT_20:=Lib.hid (XT_17.out.on hb)
  have XS_20:=Lib.hid (XS_17.out.on hb)
  have XA_20:=Lib.hid (XA_17.out.on hb)
  have XC_20:=Lib.hid (XC_18.out.on hb)
  have HC_20:=Lib.hid (HC_19.out.on hb)
  clear GB_17 X9_17 IH_17 IV_17 HB_17 XB_17 XT_17 XS_17 XA_17 XC_18 HC_19
  clear hle hEe hll hfe hb
  have NN:=newB x2 (.cells #[.int .i64 0,.int .i64 0,.int .i64 0,.int .i64 0,.slice none 0 0,.int .i64 0,.bool false] 43)
  have GB_21:=Lib.hid (GB_20.out.trans (NN.mono GB_20.out.size))
  have X9_21:=Lib.hid (X9_20.out.on NN)
  have IH_21:=Lib.hid (IH_20.out.on NN)
  have IV_21:=Lib.hid (IV_20.out.on NN)
  have HB_21:=Lib.hid (HB_20.out.on NN)
  have XB_21:=Lib.hid (XB_20.out.on NN)
  have XT_21:=Lib.hid (XT_20.out.on NN)
  have XS_21:=Lib.hid (XS_20.out.on NN)
  have XA_21:=Lib.hid (XA_20.out.on NN)
  have XC_21:=Lib.hid (XC_20.out.on NN)
  have HC_21:=Lib.hid (HC_20.out.on NN)
  clear GB_20 X9_20 IH_20 IV_20 HB_20 XB_20 XT_20 XS_20 XA_20 XC_20 HC_20
  clear NN
  obtain⟨xc0,xc1,xc2,xc3,xc4,xc5⟩:=XC_21.out.cs6
  obtain⟨xb0,xb1,xb2,xb3,xb4,xb5⟩:=XB_21.out.cs6
  go_wp2_with fail
  refine (asame_any b b (m1,m2,m3) (m4,m5,m6) (m7,m8,m9) (m10,m11,m12) (m13,m14,m15) (s1,s2,s3) (s4,s5,s6) (s7,s8,s9) (s10,s11,s12) (s13,s14,s15) _ HC_21.out.br HB_21.out.br KK.out.few KK.out.fewp.pa).mono ?_
  rw [same_self]
  rintro e7 x3 ⟨rfl,hb⟩
  clear xc0 xc1 xc2 xc3 xc4 xc5 xb0 xb1 xb2 xb3 xb4 xb5
  have GB_22:=Lib.hid (GB_21.out.trans (hb.mono GB_21.out.size))
  have X9_22:=Lib.hid (X9_21.out.on hb)
  have IH_22:=Lib.hid (IH_21.out.on hb)
  have IV_22:=Lib.hid (IV_21.out.on hb)
  have HB_22:=Lib.hid (HB_21.out.on hb)
  have XB_22:=Lib.hid (XB_21.out.on hb)
  have XT_22:=Lib.hid (XT_21.out.on hb)
  have XS_22:=Lib.hid (XS_21.out.on hb)
  have XA_22:=Lib.hid (XA_21.out.on hb)
  have XC_22:=Lib.hid (XC_21.out.on hb)
  have HC_22:=Lib.hid (HC_21.out.on hb)
  clear GB_21 X9_21 IH_21 IV_21 HB_21 XB_21 XT_21 XS_21 XA_21 XC_21 HC_21
  go_wp2_with fail
  refine (sruns_any _).mono ?_
  rintro e8 x4 ⟨rfl,hb2⟩
  have GB_23:=Lib.hid (GB_22.out.trans (hb2.mono GB_22.out.size))
  have X9_23:=Lib.hid (X9_22.out.on hb2)
  have IH_23:=Lib.hid (IH_22.out.on hb2)
  have IV_23:=Lib.hid (IV_22.out.on hb2)
  have HB_23:=Lib.hid (HB_22.out.on hb2)
  have XB_23:=Lib.hid (XB_22.out.on hb2)
  have XT_23:=Lib.hid (XT_22.out.on hb2)
  have XS_23:=Lib.hid (XS_22.out.on hb2)
  have XA_23:=Lib.hid (XA_22.out.on hb2)
  have XC_23:=Lib.hid (XC_22.out.on hb2)
  have HC_23:=Lib.hid (HC_22.out.on hb2)
  clear GB_22 X9_22 IH_22 IV_22 HB_22 XB_22 XT_22 XS_22 XA_22 XC_22 HC_22
  go_wp2
  go_ret
  exact⟨rfl,GB_23.out⟩
 ·subst hq
  have HA:=Lib.hid ha
  clear ha
  skip
  have HP:=Lib.hid hpar
  clear hpar
  obtain⟨la,hla,hAa⟩:=HB_13.out.br.adv
  obtain⟨xb0,xb1,xb2,xb3,xb4,xb5⟩:=XB_13.out.cs6
  obtain⟨xt0,xt1⟩:=XT_13.out.cs2
  go_wp2_with fail
  refine (find_any b.me _ _ _ _ (s4,s5,s6) la b.adv (t1,0) w4 hla hAa KK.out.fewp.adv).mono ?_
  rw [hf]
  rintro e5 w5 ⟨⟨⟨z1,z2,⟨z3,z4,z5⟩,z6⟩,rfl,hr⟩,hb⟩
  have hz:z6=a.par:=hr.2.1
  subst hz
  clear xb0 xb1 xb2 xb3 xb4 xb5 xt0 xt1
  have GB_14:=Lib.hid (GB_13.out.trans (hb.mono GB_13.out.size))
  have X9_14:=Lib.hid (X9_13.out.on hb)
  have IH_14:=Lib.hid (IH_13.out.on hb)
  have IV_14:=Lib.hid (IV_13.out.on hb)
  have HB_14:=Lib.hid (HB_13.out.on hb)
  have XB_14:=Lib.hid (XB_13.out.on hb)
  have XT_14:=Lib.hid (XT_13.out.on hb)
  have XS_14:=Lib.hid (XS_13.out.on hb)
  clear GB_13 X9_13 IH_13 IV_13 HB_13 XB_13 XT_13 XS_13
  clear hla hAa hb hf hr
  have NN:=newB w5 (.cells #[.int .i64 z1,.int .i64 z2,.slice z3 z4 z5,.int .i64 a.par] 41)
  have GB_15:=Lib.hid (GB_14.out.trans (NN.mono GB_14.out.size))
  have X9_15:=Lib.hid (X9_14.out.on NN)
  have IH_15:=Lib.hid (IH_14.out.on NN)
  have IV_15:=Lib.hid (IV_14.out.on NN)
  have HB_15:=Lib.hid (HB_14.out.on NN)
  have XB_15:=Lib.hid (XB_14.out.on NN)
  have XT_15:=Lib.hid (XT_14.out.on NN)
  have XS_15:=Lib.hid (XS_14.out.on NN)
  clear GB_14 X9_14 IH_14 IV_14 HB_14 XB_14 XT_14 XS_14
  clear NN
  have XA_16:=Lib.hid (box_new w5 #[.int .i64 z1,.int .i64 z2,.slice z3 z4 z5,.int .i64 a.par] 41)
  go_upto_region 5 with fail
  generalize w5.alloc (.cells #[.int .i64 z1,.int .i64 z2,.slice z3 z4 z5,.int .i64 a.par] 41)=w6 at *
  generalize w5.heap.size=bA at *
  refine sf5 _ w6 bB bT bS bP b s1 s2 s3 s4 s5 s6 s7 s8 s9 s10 s11 s12 s13 s14 s15 t1 0 y2 a.par h1 h2 h3 g1 g2 g3 has vals _ _ _ _ _ _ _ _ _ _ _ _ _ _ _ _ _ _ _ _ _ _ _ _ _ _ _ _ _ _ _ _ _ _ _ _ _ _ _ _ _ _ _ _ _ _ _ _ _ _ _ _ _ _ _ _ _ _ _ _ _ _ _ _ _ _ _ _ _ _ _ _ _ _ _ _ _ _ _ _ _ _ _ _ _ _ _ _ _ _ _ _ _ _ _ _ _ _ _ _ _ _ _ _ _ _ _ _ _ _ _ _ _ _ _ _ _ _ _ _ _ _ _ _ _ _ _ _ _ _ _ _ _ _ _ _ _ _ _ _ _ _ _ _ _ _ _ _ _ _ _ _ _ _ _ _ _ _ _ _ _ _ _ _ _ _ _ _ _ _ _ _ _ _ _ _ _ _ _ _ _ _ _ _ XB_15.out HB_15.out KK.out.few KK.out.fewp KK.out.ok.ent KK.out.pe OE.out XT_15.out XS_15.out X9_15.out IH_15.out IV_15.out LH.out LV.out ?_
  intro x bb v48 v49 v50 v51 v52 v53 v54 v55 v56 v57 v58 m1 m2 m3 m4 m5 m6 m7 m8 m9 m10 m11 m12 m13 m14 m15 hbb hbox hbr hb
  rw [HA.out] at hbox hbr ⊢
  have GB_17:=Lib.hid (GB_15.out.trans (hb.mono GB_15.out.size))
  have X9_17:=Lib.hid (X9_15.out.on hb)
  have IH_17:=Lib.hid (IH_15.out.on hb)
  have IV_17:=Lib.hid (IV_15.out.on hb)
  have HB_17:=Lib.hid (HB_15.out.on hb)
  have XB_17:=Lib.hid (XB_15.out.on hb)
  have XT_17:=Lib.hid (XT_15.out.on hb)
  have XS_17:=Lib.hid (XS_15.out.on hb)
  have XA_17:=Lib.hid (XA_16.out.on hb)
  clear GB_15 X9_15 IH_15 IV_15 HB_15 XB_15 XT_15 XS_15 XA_16
  have XC_18:=Lib.hid (hbox)
  have HC_19:=Lib.hid (hbr)
  clear hbb hbox hbr hb HA
  obtain⟨le,hle,hEe⟩:=HC_19.out.br.ent
  obtain⟨xc0,xc1,xc2,xc3,xc4,xc5⟩:=XC_18.out.cs6
  obtain⟨xt0,xt1⟩:=XT_17.out.cs2
  obtain⟨xs0,xs1⟩:=XS_17.out.cs2
  have hll:=all2_len hEe
  have hfe:=KK.out.few.ent
  go_wp2_with fail
  refine (sfind_any b.me _ _ _ _ (m10,m11,m12) le b.ent (t1,0) (9,y2) x hle hEe KK.out.ok.ent (by omega) KK.out.fewp.ent).mono ?_
  rw [findE_out (not_in SN.out.2 t1 0 y2)]
  rintro e6 x2 ⟨rfl,hb⟩
  clear xc0 xc1 xc2 xc3 xc4 xc5 xt0 xt1 xs0 xs1
  have GB_20:=Lib.hid (GB_17.out.trans (hb.mono GB_17.out.size))
  have X9_20:=Lib.hid (X9_17.out.on hb)
  have IH_20:=Lib.hid (IH_17.out.on hb)
  have IV_20:=Lib.hid (IV_17.out.on hb)
  have HB_20:=Lib.hid (HB_17.out.on hb)
  have XB_20:=Lib.hid (XB_17.out.on hb)
  have XT_20:=Lib.hid (XT_17.out.on hb)
  have XS_20:=Lib.hid (XS_17.out.on hb)
  have XA_20:=Lib.hid (XA_17.out.on hb)
  have XC_20:=Lib.hid (XC_18.out.on hb)
  have HC_20:=Lib.hid (HC_19.out.on hb)
  clear GB_17 X9_17 IH_17 IV_17 HB_17 XB_17 XT_17 XS_17 XA_17 XC_18 HC_19
  clear hle hEe hll hfe hb
  have NN:=newB x2 (.cells #[.int .i64 0,.int .i64 0,.int .i64 0,.int .i64 0,.slice none 0 0,.int .i64 0,.bool false] 43)
  have GB_21:=Lib.hid (GB_20.out.trans (NN.mono GB_20.out.size))
  have X9_21:=Lib.hid (X9_20.out.on NN)
  have IH_21:=Lib.hid (IH_20.out.on NN)
  have IV_21:=Lib.hid (IV_20.out.on NN)
  have HB_21:=Lib.hid (HB_20.out.on NN)
  have XB_21:=Lib.hid (XB_20.out.on NN)
  have XT_21:=Lib.hid (XT_20.out.on NN)
  have XS_21:=Lib.hid (XS_20.out.on NN)
  have XA_21:=Lib.hid (XA_20.out.on NN)
  have XC_21:=Lib.hid (XC_20.out.on NN)
  have HC_21:=Lib.hid (HC_20.out.on NN)
  clear GB_20 X9_20 IH_20 IV_20 HB_20 XB_20 XT_20 XS_20 XA_20 XC_20 HC_20
  clear NN
  obtain⟨xc0,xc1,xc2,xc3,xc4,xc5⟩:=XC_21.out.cs6
  obtain⟨xb0,xb1,xb2,xb3,xb4,xb5⟩:=XB_21.out.cs6
  obtain⟨xa0,xa1,xa2,xa3⟩:=XA_21.out.cs4
  have hp1:=HP.out
  have hp2:(a.par != a.par)=false:=by simp
  go_wp2_with fail
  refine (asame_any b b (m1,m2,m3) (m4,m5,m6) (m7,m8,m9) (m10,m11,m12) (m13,m14,m15) (s1,s2,s3) (s4,s5,s6) (s7,s8,s9) (s10,s11,s12) (s13,s14,s15) _ HC_21.out.br HB_21.out.br KK.out.few KK.out.fewp.pa).mono ?_
  rw [same_self]
  rintro e7 x3 ⟨rfl,hb⟩
  clear xc0 xc1 xc2 xc3 xc4 xc5 xb0 xb1 xb2 xb3 xb4 xb5 xa0 xa1 xa2 xa3
  have GB_22:=Lib.hid (GB_21.out.trans (hb.mono GB_21.out.size))
  have X9_22:=Lib.hid (X9_21.out.on hb)
  have IH_22:=Lib.hid (IH_21.out.on hb)
  have IV_22:=Lib.hid (IV_21.out.on hb)
  have HB_22:=Lib.hid (HB_21.out.on hb)
  have XB_22:=Lib.hid (XB_21.out.on hb)
  have XT_22:=Lib.hid (XT_21.out.on hb)
  have XS_22:=Lib.hid (XS_21.out.on hb)
  have XA_22:=Lib.hid (XA_21.out.on hb)
  have XC_22:=Lib.hid (XC_21.out.on hb)
  have HC_22:=Lib.hid (HC_21.out.on hb)
  clear GB_21 X9_21 IH_21 IV_21 HB_21 XB_21 XT_21 XS_21 XA_21 XC_21 HC_21
  go_wp2_with fail
  refine (sruns_any _).mono ?_
  rintro e8 x4 ⟨rfl,hb2⟩
  have GB_23:=Lib.hid (GB_22.out.trans (hb2.mono GB_22.out.size))
  have X9_23:=Lib.hid (X9_22.out.on hb2)
  have IH_23:=Lib.hid (IH_22.out.on hb2)
  have IV_23:=Lib.hid (IV_22.out.on hb2)
  have HB_23:=Lib.hid (HB_22.out.on hb2)
  have XB_23:=Lib.hid (XB_22.out.on hb2)
  have XT_23:=Lib.hid (XT_22.out.on hb2)
  have XS_23:=Lib.hid (XS_22.out.on hb2)
  have XA_23:=Lib.hid (XA_22.out.on hb2)
  have XC_23:=Lib.hid (XC_22.out.on hb2)
  have HC_23:=Lib.hid (HC_22.out.on hb2)
  clear GB_22 X9_22 IH_22 IV_22 HB_22 XB_22 XT_22 XS_22 XA_22 XC_22 HC_22
  go_wp2
  go_ret
  exact⟨rfl,GB_23.out⟩
 ·have HA:=Lib.hid ha
  clear ha
  have HQ:=Lib.hid hq
  have HP:=Lib.hid hpar
  clear hpar hq
  have HS:=Lib.hid hhas
  clear hhas
  obtain⟨la,hla,hAa⟩:=HB_13.out.br.adv
  obtain⟨xb0,xb1,xb2,xb3,xb4,xb5⟩:=XB_13.out.cs6
  obtain⟨xt0,xt1⟩:=XT_13.out.cs2
  go_wp2_with fail
  refine (find_any b.me _ _ _ _ (s4,s5,s6) la b.adv (t1,0) w4 hla hAa KK.out.fewp.adv).mono ?_
  rw [hf]
  rintro e5 w5 ⟨⟨⟨z1,z2,⟨z3,z4,z5⟩,z6⟩,rfl,hr⟩,hb⟩
  have hz:z6=a.par:=hr.2.1
  subst hz
  clear xb0 xb1 xb2 xb3 xb4 xb5 xt0 xt1
  have GB_14:=Lib.hid (GB_13.out.trans (hb.mono GB_13.out.size))
  have X9_14:=Lib.hid (X9_13.out.on hb)
  have IH_14:=Lib.hid (IH_13.out.on hb)
  have IV_14:=Lib.hid (IV_13.out.on hb)
  have HB_14:=Lib.hid (HB_13.out.on hb)
  have XB_14:=Lib.hid (XB_13.out.on hb)
  have XT_14:=Lib.hid (XT_13.out.on hb)
  have XS_14:=Lib.hid (XS_13.out.on hb)
  clear GB_13 X9_13 IH_13 IV_13 HB_13 XB_13 XT_13 XS_13
  clear hla hAa hb hf hr
  have NN:=newB w5 (.cells #[.int .i64 z1,.int .i64 z2,.slice z3 z4 z5,.int .i64 a.par] 41)
  have GB_15:=Lib.hid (GB_14.out.trans (NN.mono GB_14.out.size))
  have X9_15:=Lib.hid (X9_14.out.on NN)
  have IH_15:=Lib.hid (IH_14.out.on NN)
  have IV_15:=Lib.hid (IV_14.out.on NN)
  have HB_15:=Lib.hid (HB_14.out.on NN)
  have XB_15:=Lib.hid (XB_14.out.on NN)
  have XT_15:=Lib.hid (XT_14.out.on NN)
  have XS_15:=Lib.hid (XS_14.out.on NN)
  clear GB_14 X9_14 IH_14 IV_14 HB_14 XB_14 XT_14 XS_14
  clear NN
  have XA_16:=Lib.hid (box_new w5 #[.int .i64 z1,.int .i64 z2,.slice z3 z4 z5,.int .i64 a.par] 41)
  go_upto_region 5 with fail
  generalize w5.alloc (.cells #[.int .i64 z1,.int .i64 z2,.slice z3 z4 z5,.int .i64 a.par] 41)=w6 at *
  generalize w5.heap.size=bA at *
  refine sf5 _ w6 bB bT bS bP b s1 s2 s3 s4 s5 s6 s7 s8 s9 s10 s11 s12 s13 s14 s15 t1 0 y2 f h1 h2 h3 g1 g2 g3 has vals _ _ _ _ _ _ _ _ _ _ _ _ _ _ _ _ _ _ _ _ _ _ _ _ _ _ _ _ _ _ _ _ _ _ _ _ _ _ _ _ _ _ _ _ _ _ _ _ _ _ _ _ _ _ _ _ _ _ _ _ _ _ _ _ _ _ _ _ _ _ _ _ _ _ _ _ _ _ _ _ _ _ _ _ _ _ _ _ _ _ _ _ _ _ _ _ _ _ _ _ _ _ _ _ _ _ _ _ _ _ _ _ _ _ _ _ _ _ _ _ _ _ _ _ _ _ _ _ _ _ _ _ _ _ _ _ _ _ _ _ _ _ _ _ _ _ _ _ _ _ _ _ _ _ _ _ _ _ _ _ _ _ _ _ _ _ _ _ _ _ _ _ _ _ _ _ _ _ _ _ _ _ _ _ XB_15.out HB_15.out KK.out.few KK.out.fewp KK.out.ok.ent KK.out.pe OE.out XT_15.out XS_15.out X9_15.out IH_15.out IV_15.out LH.out LV.out ?_
  intro x bb v48 v49 v50 v51 v52 v53 v54 v55 v56 v57 v58 m1 m2 m3 m4 m5 m6 m7 m8 m9 m10 m11 m12 m13 m14 m15 hbb hbox hbr hb
  rw [HA.out] at hbox hbr ⊢
  have GB_17:=Lib.hid (GB_15.out.trans (hb.mono GB_15.out.size))
  have X9_17:=Lib.hid (X9_15.out.on hb)
  have IH_17:=Lib.hid (IH_15.out.on hb)
  have IV_17:=Lib.hid (IV_15.out.on hb)
  have HB_17:=Lib.hid (HB_15.out.on hb)
  have XB_17:=Lib.hid (XB_15.out.on hb)
  have XT_17:=Lib.hid (XT_15.out.on hb)
  have XS_17:=Lib.hid (XS_15.out.on hb)
  have XA_17:=Lib.hid (XA_16.out.on hb)
  clear GB_15 X9_15 IH_15 IV_15 HB_15 XB_15 XT_15 XS_15 XA_16
  have XC_18:=Lib.hid (hbox)
  have HC_19:=Lib.hid (hbr)
  clear hbb hbox hbr hb HA
  obtain⟨le,hle,hEe⟩:=HC_19.out.br.ent
  obtain⟨xc0,xc1,xc2,xc3,xc4,xc5⟩:=XC_18.out.cs6
  obtain⟨xt0,xt1⟩:=XT_17.out.cs2
  obtain⟨xs0,xs1⟩:=XS_17.out.cs2
  have hll:=all2_len hEe
  have hfe:=HS.out.few.ent
  go_wp2_with fail
  refine (sfind_any c.me _ _ _ _ (m10,m11,m12) le c.ent (t1,0) (9,y2) x hle hEe HS.out.rise (by omega) HS.out.fewp.ent).mono ?_
  rw [show findE c.ent (t1,0) (9,y2)=some _ from (findE_mem HS.out.rise HS.out.mem).1]
  rintro e6 x2 ⟨⟨⟨z7,z8,z9,y1,⟨y3,y4,y5⟩,y6,y7⟩,rfl,hr⟩,hb⟩
  clear xc0 xc1 xc2 xc3 xc4 xc5 xt0 xt1 xs0 xs1
  have GB_20:=Lib.hid (GB_17.out.trans (hb.mono GB_17.out.size))
  have X9_20:=Lib.hid (X9_17.out.on hb)
  have IH_20:=Lib.hid (IH_17.out.on hb)
  have IV_20:=Lib.hid (IV_17.out.on hb)
  have HB_20:=Lib.hid (HB_17.out.on hb)
  have XB_20:=Lib.hid (XB_17.out.on hb)
  have XT_20:=Lib.hid (XT_17.out.on hb)
  have XS_20:=Lib.hid (XS_17.out.on hb)
  have XA_20:=Lib.hid (XA_17.out.on hb)
  have XC_20:=Lib.hid (XC_18.out.on hb)
  have HC_20:=Lib.hid (HC_19.out.on hb)
  clear GB_17 X9_17 IH_17 IV_17 HB_17 XB_17 XT_17 XS_17 XA_17 XC_18 HC_19
  clear hle hEe hll hfe hb hr
  have NN:=newB x2 (.cells #[.int .i64 z7,.int .i64 z8,.int .i64 z9,.int .i64 y1,.slice y3 y4 y5,.int .i64 y6,.bool y7] 43)
  have GB_21:=Lib.hid (GB_20.out.trans (NN.mono GB_20.out.size))
  have X9_21:=Lib.hid (X9_20.out.on NN)
  have IH_21:=Lib.hid (IH_20.out.on NN)
  have IV_21:=Lib.hid (IV_20.out.on NN)
  have HB_21:=Lib.hid (HB_20.out.on NN)
  have XB_21:=Lib.hid (XB_20.out.on NN)
  have XT_21:=Lib.hid (XT_20.out.on NN)
  have XS_21:=Lib.hid (XS_20.out.on NN)
  have XA_21:=Lib.hid (XA_20.out.on NN)
  have XC_21:=Lib.hid (XC_20.out.on NN)
  have HC_21:=Lib.hid (HC_20.out.on NN)
  clear GB_20 X9_20 IH_20 IV_20 HB_20 XB_20 XT_20 XS_20 XA_20 XC_20 HC_20
  clear NN
  obtain⟨xa0,xa1,xa2,xa3⟩:=XA_21.out.cs4
  have hp0:=HP.out
  rcases HQ.out with hp1|⟨hp1,hp2⟩
  ·cases u
   ·skip
    go_wp2
    exact sf_tail w _ b c bB bT bS bb s1 s2 s3 s4 s5 s6 s7 s8 s9 s10 s11 s12 s13 s14 s15 m1 m2 m3 m4 m5 m6 m7 m8 m9 m10 m11 m12 m13 m14 m15 t1 0 y2 f ((prd has vals 7).map r5) false GB_21.out XB_21.out XT_21.out XS_21.out XC_21.out HB_21.out.br HC_21.out.br HS.out _ _ _ _ _ _ _ _ _ _ _ _ _ _ _ _ _ _ _ _ _ _ _ _ _ _ _ _ _ _ _ _ _ _ _ _ _ _ _ _ _ _ _ _ _ _ _ _ _ _ _ _ _ _ _ _ _ _ _ _ _ _ _ _ _ _ _ _ _ _ _ _ _ _ _ _ _ _ _ _ _ _ _ _ _ _ _ _ _ _ _ _ _ _ _ _ _ _ _ _ _ _ _ _ _ _ _ _ _ _ _ _ _ _ _ _ _ _ _ _ _ _ _ _ _ _ _ _ _ _ _ _ _ _ _ _ _ _ _ _ _ _ _ _ _ _ _ _ _ _ _ _ _ _ _ _ _ _ _ _ _ _ _ _ _ _ _ _ _ _ _ _ _ _ _ _ _ _ _ _ _ _ _
   ·have hp3:=hp0 rfl
    go_wp2
    exact sf_tail w _ b c bB bT bS bb s1 s2 s3 s4 s5 s6 s7 s8 s9 s10 s11 s12 s13 s14 s15 m1 m2 m3 m4 m5 m6 m7 m8 m9 m10 m11 m12 m13 m14 m15 t1 0 y2 f ((prd has vals 7).map r5) true GB_21.out XB_21.out XT_21.out XS_21.out XC_21.out HB_21.out.br HC_21.out.br HS.out _ _ _ _ _ _ _ _ _ _ _ _ _ _ _ _ _ _ _ _ _ _ _ _ _ _ _ _ _ _ _ _ _ _ _ _ _ _ _ _ _ _ _ _ _ _ _ _ _ _ _ _ _ _ _ _ _ _ _ _ _ _ _ _ _ _ _ _ _ _ _ _ _ _ _ _ _ _ _ _ _ _ _ _ _ _ _ _ _ _ _ _ _ _ _ _ _ _ _ _ _ _ _ _ _ _ _ _ _ _ _ _ _ _ _ _ _ _ _ _ _ _ _ _ _ _ _ _ _ _ _ _ _ _ _ _ _ _ _ _ _ _ _ _ _ _ _ _ _ _ _ _ _ _ _ _ _ _ _ _ _ _ _ _ _ _ _ _ _ _ _ _ _ _ _ _ _ _ _ _ _ _ _
  ·cases u
   ·skip
    go_wp2
    exact sf_tail w _ b c bB bT bS bb s1 s2 s3 s4 s5 s6 s7 s8 s9 s10 s11 s12 s13 s14 s15 m1 m2 m3 m4 m5 m6 m7 m8 m9 m10 m11 m12 m13 m14 m15 t1 0 y2 f ((prd has vals 7).map r5) false GB_21.out XB_21.out XT_21.out XS_21.out XC_21.out HB_21.out.br HC_21.out.br HS.out _ _ _ _ _ _ _ _ _ _ _ _ _ _ _ _ _ _ _ _ _ _ _ _ _ _ _ _ _ _ _ _ _ _ _ _ _ _ _ _ _ _ _ _ _ _ _ _ _ _ _ _ _ _ _ _ _ _ _ _ _ _ _ _ _ _ _ _ _ _ _ _ _ _ _ _ _ _ _ _ _ _ _ _ _ _ _ _ _ _ _ _ _ _ _ _ _ _ _ _ _ _ _ _ _ _ _ _ _ _ _ _ _ _ _ _ _ _ _ _ _ _ _ _ _ _ _ _ _ _ _ _ _ _ _ _ _ _ _ _ _ _ _ _ _ _ _ _ _ _ _ _ _ _ _ _ _ _ _ _ _ _ _ _ _ _ _ _ _ _ _ _ _ _ _ _ _ _ _ _ _ _ _
   ·have hp3:=hp0 rfl
    go_wp2
    exact sf_tail w _ b c bB bT bS bb s1 s2 s3 s4 s5 s6 s7 s8 s9 s10 s11 s12 s13 s14 s15 m1 m2 m3 m4 m5 m6 m7 m8 m9 m10 m11 m12 m13 m14 m15 t1 0 y2 f ((prd has vals 7).map r5) true GB_21.out XB_21.out XT_21.out XS_21.out XC_21.out HB_21.out.br HC_21.out.br HS.out _ _ _ _ _ _ _ _ _ _ _ _ _ _ _ _ _ _ _ _ _ _ _ _ _ _ _ _ _ _ _ _ _ _ _ _ _ _ _ _ _ _ _ _ _ _ _ _ _ _ _ _ _ _ _ _ _ _ _ _ _ _ _ _ _ _ _ _ _ _ _ _ _ _ _ _ _ _ _ _ _ _ _ _ _ _ _ _ _ _ _ _ _ _ _ _ _ _ _ _ _ _ _ _ _ _ _ _ _ _ _ _ _ _ _ _ _ _ _ _ _ _ _ _ _ _ _ _ _ _ _ _ _ _ _ _ _ _ _ _ _ _ _ _ _ _ _ _ _ _ _ _ _ _ _ _ _ _ _ _ _ _ _ _ _ _ _ _ _ _ _ _ _ _ _ _ _ _ _ _ _ _ _
end Go.Proofs.YtncogjpmboglhaaGreat.Sb
