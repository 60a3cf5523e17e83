/-
  SubsFrom: an entry o. Conditions as told.
-/
import Derived.Test.YtncogjpmboglhaaGreatF034
import Derived.Test.YtncogjpmboglhaaGreatF035
import Derived.Test.YtncogjpmboglhaaGreatF032
import Derived.Test.YtncogjpmboglhaaGreatF031
import Derived.Test.YtncogjpmboglhaaGreatF050
import Derived.Test.YtncogjpmboglhaaGreatF051
set_option maxRecDepth 100000
set_option maxHeartbeats 64000000
namespace Go.Proofs.YtncogjpmboglhaaGreat.Sb
open Go.RowKit Go.Sort Rw YtncogjpmboglhaaGreat.Nm Pr Bk Av Rl
structure Has (c:Br) (n:Nat) (t1 t2 y2 f:Int) (p:List C5) (u:Bool):Prop where
 few:Few c
 fewp:FewP c
 rise:RiseE c.ent
 oke:∀ e∈c.ent,PredOk e.p
 mem:(⟨(t1,t2),(9,y2),p,f,u⟩:En)∈c.ent
 len:c.ent.length=n+1
theorem has_ins {b:Br} (k:KI 12 b) (kl:b.ent.length≤144) {t1 t2 y2 f:Int} {p:List C5} (hp:PredOk p) (u:Bool) (hn:∀ y∈b.ent,keyE y≠((t1,t2),(9,y2))) :
  Has { b with ent:=insAt b.ent (placeP (b.ent.map keyE) ((t1,t2),(9,y2))) ⟨(t1,t2),(9,y2),p,f,u⟩ } b.ent.length t1 t2 y2 f p u:=by
 have hr:RiseE b.ent:=k.ok.ent
 have hfp:=k.fewp
 have hl:(insAt b.ent (placeP (b.ent.map keyE) ((t1,t2),(9,y2))) ⟨(t1,t2),(9,y2),p,f,u⟩).length=b.ent.length+1:=by
  unfold insAt
  rw [List.length_append,List.length_append,List.length_take,List.length_drop,List.length_singleton]
  omega
 refine⟨⟨k.few.near,k.few.adv,k.few.seen,?_,k.few.own⟩,⟨hfp.adv,fun e he=>?_,hfp.own⟩,ins_rise2 hr ⟨(t1,t2),(9,y2),p,f,u⟩ hn,fun e he=>?_,(mem_ins _ _ _ _).2 (Or.inl rfl),hl⟩
 ·show (insAt _ _ _).length≤900
  rw [hl]; omega
 ·rcases (mem_ins _ _ _ _).1 he with rfl|he
  ·exact Nat.le_trans (predOk_len hp) (by decide)
  ·exact hfp.ent e he
 ·rcases (mem_ins _ _ _ _).1 he with rfl|he
  ·exact hp
  ·exact k.pe e he
theorem not_in {b:Br} (h:KS b) (t1 t2 y2:Int):∀ y∈b.ent,keyE y≠((t1,t2),(9,y2)):=fun y hy q=>by
 have h1:=h.1 y hy
 have h2:y.sub=(9,y2):=congrArg Prod.snd q
 rw [h2] at h1
 simp at h1
theorem row_n_len {W:World} {o:Option Addr} {n k:Nat} {l:List XEn} (h:RowN W (.slice o n k) l):n=l.length:=by
 obtain⟨_,_,hv⟩:=h.len
 simpa using congrArg (fun v=>match v with | Value.slice _ n _=>n | _=>0) hv
theorem all2_len {α β:Type} {R:α→β→Prop} {l:List α} {m:List β} (h:All2 R l m):l.length=m.length:=h.len
theorem okp_nil:PredOk []:=by
 have h:=prd_ok5 [] []
 exact⟨[],⟨List.Pairwise.nil,by simp,by simp,by simp⟩,rfl⟩
theorem wrap7 (f:Int):f≠wrap64 (f+7):=by
 intro h
 unfold wrap64 at h
 omega
noncomputable def sfTailC:Code:=afterN 9 (Tryz.f5.body.getD .skip)
theorem sf_tail (w W:World) (b c:Br) (bB bT bS bC:Nat) (s1:Option Addr) (s2 s3:Nat) (s4:Option Addr) (s5 s6:Nat) (s7:Option Addr) (s8 s9:Nat) (s10:Option Addr) (s11 s12:Nat) (s13:Option Addr) (s14 s15:Nat) (m1:Option Addr) (m2 m3:Nat) (m4:Option Addr) (m5 m6:Nat) (m7:Option Addr) (m8 m9:Nat) (m10:Option Addr) (m11 m12:Nat) (m13:Option Addr) (m14 m15:Nat) (t1 t2 y2 f:Int) (p:List C5) (u:Bool) (gb:Below w.heap.size w W) (qb:Box W bB #[.int .i64 b.me,.slice s1 s2 s3,.slice s4 s5 s6,.slice s7 s8 s9,.slice s10 s11 s12,.slice s13 s14 s15] 31) (qt:Box W bT #[.int .i64 t1,.int .i64 t2] 38) (qs:Box W bS #[.int .i64 9,.int .i64 y2] 38) (qc:Box W bC #[.int .i64 c.me,.slice m1 m2 m3,.slice m4 m5 m6,.slice m7 m8 m9,.slice m10 m11 m12,.slice m13 m14 m15] 31) (bi:BrIn W b (s1,s2,s3) (s4,s5,s6) (s7,s8,s9) (s10,s11,s12) (s13,s14,s15)) (ci:BrIn W c (m1,m2,m3) (m4,m5,m6) (m7,m8,m9) (m10,m11,m12) (m13,m14,m15)) (hs:Has c b.ent.length t1 t2 y2 f p u) (u0 u1 u2 u3 u4 u5 u6 u7 u8 u9 u10 u15 u16 u19 u20 u21 u22 u23 u24 u25 u26 u27 u28 u29 u30 u31 u32 u33 u34 u35 u36 u37 u38 u39 u40 u41 u42 u43 u44 u45 u46 u47 u48 u49 u50 u51 u52 u53 u54 u55 u56 u57 u58 u59 u60 u61 u62 u63 u64 u65 u66 u67 u68 u69 u70 u71 u72 u73 u74 u75 u76 u77 u78 u79 u80 u81 u82 u83 u84 u85 u86 u87 u88 u89 u90 u91 u92 u93 u94 u95 u96 u97 u98 u99 u100 u101 u102 u103 u104 u105 u106 u107 u108 u109 u110 u111 u112 u113 u114 u115 u116 u117 u118 u119 u120 u121 u122 u123 u124 u125 u126 u127 u128 u129 u130 u131 u132 u133 u134 u135 u136 u137 u138 u139 u140 u141 u142 u143 u144 u145 u146 u147 u148 u149 u150 u151 u152 u153 u154 u155 u156 u157 u158 u159 u160 u161 u162 u163 u164 u165 u166 u167 u168 u169 u170 u171 u172 u173 u174 u175 u176 u177 u178 u179 u180 u181 u182 u183 u184 u185 u186 u187 u188:Value) :
  Code.wp Tryz.prog sfTailC (bodyPost Tryz.prog Tryz.f5 (fun e w'=>e=.returned (.bool true)∧Below w.heap.size w w')) ⟨(u0::u1::u2::u3::u4::u5::u6::u7::u8::u9::u10::.pointer (some ⟨bB,0,none⟩)::.pointer (some ⟨bT,0,none⟩)::.pointer (some ⟨bS,0,none⟩)::.int .i64 f::u15::u16::.pointer (some ⟨bC,0,none⟩)::.bool u::u19::u20::u21::u22::u23::u24::u25::u26::u27::u28::u29::u30::u31::u32::u33::u34::u35::u36::u37::u38::u39::u40::u41::u42::u43::u44::u45::u46::u47::u48::u49::u50::u51::u52::u53::u54::u55::u56::u57::u58::u59::u60::u61::u62::u63::u64::u65::u66::u67::u68::u69::u70::u71::u72::u73::u74::u75::u76::u77::u78::u79::u80::u81::u82::u83::u84::u85::u86::u87::u88::u89::u90::u91::u92::u93::u94::u95::u96::u97::u98::u99::u100::u101::u102::u103::u104::u105::u106::u107::u108::u109::u110::u111::u112::u113::u114::u115::u116::u117::u118::u119::u120::u121::u122::u123::u124::u125::u126::u127::u128::u129::u130::u131::u132::u133::u134::u135::u136::u137::u138::u139::u140::u141::u142::u143::u144::u145::u146::u147::u148::u149::u150::u151::u152::u153::u154::u155::u156::u157::u158::u159::u160::u161::u162::u163::u164::u165::u166::u167::u168::u169::u170::u171::u172::u173::u174::u175::u176::u177::u178::u179::u180::u181::u182::u183::u184::u185::u186::u187::u188::[]).toArray,[]⟩ W:=by
 have GB_1:=Lib.hid (gb)
 have XB_2:=Lib.hid (qb)
 have XT_3:=Lib.hid (qt)
 have XS_4:=Lib.hid (qs)
 have XC_5:=Lib.hid (qc)
 have BI_6:=Lib.hid (bi)
 have CI_7:=Lib.hid (ci)
 have HS:=Lib.hid hs
 clear gb qb qt qs qc bi ci hs
 unfold sfTailC
 conv=>arg 2; whnf
 obtain⟨xc0,xc1,xc2,xc3,xc4,xc5⟩:=XC_5.out.cs6
 obtain⟨xt0,xt1⟩:=XT_3.out.cs2
 obtain⟨xs0,xs1⟩:=XS_4.out.cs2
 go_wp2_with fail
 refine (sadd_any c ⟨(t1,t2),(9,y2),[],f,false⟩ (m1,m2,m3) (m4,m5,m6) (m7,m8,m9) (m10,m11,m12) (m13,m14,m15) (t1,t2,9,y2,(none,0,0),f,false) W CI_7.out ⟨rfl,rfl,rfl,rfl,row_nil _⟩ HS.out.few HS.out.fewp HS.out.rise HS.out.oke okp_nil).mono ?_
 rw [show addB c ⟨(t1,t2),(9,y2),[],f,false⟩=(c,false) from add_twice HS.out.rise HS.out.mem [] f]
 rintro e1 x1 ⟨⟨⟨n1,n2,n3⟩,⟨n4,n5,n6⟩,⟨n7,n8,n9⟩,⟨n10,n11,n12⟩,⟨n13,n14,n15⟩,rfl,hd,_⟩,hb⟩
 clear xc0 xc1 xc2 xc3 xc4 xc5 xt0 xt1 xs0 xs1
 have GB_8:=Lib.hid (GB_1.out.trans (hb.mono GB_1.out.size))
 have XB_8:=Lib.hid (XB_2.out.on hb)
 have XT_8:=Lib.hid (XT_3.out.on hb)
 have XS_8:=Lib.hid (XS_4.out.on hb)
 have XC_8:=Lib.hid (XC_5.out.on hb)
 have BI_8:=Lib.hid (BI_6.out.on hb)
 have CI_8:=Lib.hid (CI_7.out.on hb)
 clear GB_1 XB_2 XT_3 XS_4 XC_5 BI_6 CI_7
 have DI_9:=Lib.hid (hd)
 clear hd hb
 have NN:=newB x1 (.cells #[.int .i64 c.me,.slice n1 n2 n3,.slice n4 n5 n6,.slice n7 n8 n9,.slice n10 n11 n12,.slice n13 n14 n15] 31)
 have GB_10:=Lib.hid (GB_8.out.trans (NN.mono GB_8.out.size))
 have XB_10:=Lib.hid (XB_8.out.on NN)
 have XT_10:=Lib.hid (XT_8.out.on NN)
 have XS_10:=Lib.hid (XS_8.out.on NN)
 have XC_10:=Lib.hid (XC_8.out.on NN)
 have BI_10:=Lib.hid (BI_8.out.on NN)
 have CI_10:=Lib.hid (CI_8.out.on NN)
 have DI_10:=Lib.hid (DI_9.out.on NN)
 clear GB_8 XB_8 XT_8 XS_8 XC_8 BI_8 CI_8 DI_9
 clear NN
 have XD_11:=Lib.hid (box_new x1 #[.int .i64 c.me,.slice n1 n2 n3,.slice n4 n5 n6,.slice n7 n8 n9,.slice n10 n11 n12,.slice n13 n14 n15] 31)
 obtain⟨xc0,xc1,xc2,xc3,xc4,xc5⟩:=XC_10.out.cs6
 obtain⟨xt0,xt1⟩:=XT_10.out.cs2
 obtain⟨xs0,xs1⟩:=XS_10.out.cs2
 go_wp2_with fail
 refine (stake_any c (m1,m2,m3) (m4,m5,m6) (m7,m8,m9) (m10,m11,m12) (m13,m14,m15) (t1,t2) (9,y2) _ _ CI_10.out HS.out.few HS.out.fewp HS.out.rise HS.out.oke).mono ?_
 rw [show takeB c (t1,t2) (9,y2) (wrap64 (f+7))=(c,[],false) from take_else HS.out.rise HS.out.mem (wrap7 f)]
 rintro e2 x2 ⟨⟨⟨k1,k2,k3⟩,⟨k4,k5,k6⟩,⟨k7,k8,k9⟩,⟨k10,k11,k12⟩,⟨k13,k14,k15⟩,⟨l1,l2,l3⟩,lu,rfl,hd,hr,ha,_⟩,hb⟩
 clear xc0 xc1 xc2 xc3 xc4 xc5 xt0 xt1 xs0 xs1
 have GB_12:=Lib.hid (GB_10.out.trans (hb.mono GB_10.out.size))
 have XB_12:=Lib.hid (XB_10.out.on hb)
 have XT_12:=Lib.hid (XT_10.out.on hb)
 have XS_12:=Lib.hid (XS_10.out.on hb)
 have XC_12:=Lib.hid (XC_10.out.on hb)
 have BI_12:=Lib.hid (BI_10.out.on hb)
 have CI_12:=Lib.hid (CI_10.out.on hb)
 have DI_12:=Lib.hid (DI_10.out.on hb)
 have XD_12:=Lib.hid (XD_11.out.on hb)
 clear GB_10 XB_10 XT_10 XS_10 XC_10 BI_10 CI_10 DI_10 XD_11
 have EI_13:=Lib.hid (hd)
 have hlu:=all2_len ha
 obtain rfl:l2=0:=(row_n_len hr).trans hlu
 clear hd hb hr ha hlu
 have NN:=newB x2 (.cells #[.int .i64 c.me,.slice k1 k2 k3,.slice k4 k5 k6,.slice k7 k8 k9,.slice k10 k11 k12,.slice k13 k14 k15] 31)
 have GB_14:=Lib.hid (GB_12.out.trans (NN.mono GB_12.out.size))
 have XB_14:=Lib.hid (XB_12.out.on NN)
 have XT_14:=Lib.hid (XT_12.out.on NN)
 have XS_14:=Lib.hid (XS_12.out.on NN)
 have XC_14:=Lib.hid (XC_12.out.on NN)
 have BI_14:=Lib.hid (BI_12.out.on NN)
 have CI_14:=Lib.hid (CI_12.out.on NN)
 have DI_14:=Lib.hid (DI_12.out.on NN)
 have XD_14:=Lib.hid (XD_12.out.on NN)
 have EI_14:=Lib.hid (EI_13.out.on NN)
 clear GB_12 XB_12 XT_12 XS_12 XC_12 BI_12 CI_12 DI_12 XD_12 EI_13
 clear NN
 have XE_15:=Lib.hid (box_new x2 #[.int .i64 c.me,.slice k1 k2 k3,.slice k4 k5 k6,.slice k7 k8 k9,.slice k10 k11 k12,.slice k13 k14 k15] 31)
 obtain⟨xc0,xc1,xc2,xc3,xc4,xc5⟩:=XC_14.out.cs6
 obtain⟨xt0,xt1⟩:=XT_14.out.cs2
 obtain⟨xs0,xs1⟩:=XS_14.out.cs2
 obtain⟨g,ups,hg,hg1,hg2,hg3,hg4,hg5⟩:=take_there HS.out.rise HS.out.mem
 have HG:=Lib.hid (And.intro hg1 (And.intro hg2 (And.intro hg4 (And.intro hg3 (hg5 (fun p=>p.length≤900) HS.out.fewp.ent)))))
 have hg:takeB c (t1,t2) (9,y2) f=(g,ups,u):=hg
 have HH:=Lib.hid hg
 clear hg hg1 hg2 hg3 hg4 hg5
 go_wp2_with fail
 refine (stake_any c (m1,m2,m3) (m4,m5,m6) (m7,m8,m9) (m10,m11,m12) (m13,m14,m15) (t1,t2) (9,y2) f _ CI_14.out HS.out.few HS.out.fewp HS.out.rise HS.out.oke).mono ?_
 rw [HH.out]
 rintro e3 x3 ⟨⟨⟨j1,j2,j3⟩,⟨j4,j5,j6⟩,⟨j7,j8,j9⟩,⟨j10,j11,j12⟩,⟨j13,j14,j15⟩,⟨r1,r2,r3⟩,lv,rfl,hd,hr,ha,_⟩,hb⟩
 clear xc0 xc1 xc2 xc3 xc4 xc5 xt0 xt1 xs0 xs1
 have GB_16:=Lib.hid (GB_14.out.trans (hb.mono GB_14.out.size))
 have XB_16:=Lib.hid (XB_14.out.on hb)
 have XT_16:=Lib.hid (XT_14.out.on hb)
 have XS_16:=Lib.hid (XS_14.out.on hb)
 have XC_16:=Lib.hid (XC_14.out.on hb)
 have BI_16:=Lib.hid (BI_14.out.on hb)
 have CI_16:=Lib.hid (CI_14.out.on hb)
 have DI_16:=Lib.hid (DI_14.out.on hb)
 have XD_16:=Lib.hid (XD_14.out.on hb)
 have EI_16:=Lib.hid (EI_14.out.on hb)
 have XE_16:=Lib.hid (XE_15.out.on hb)
 clear GB_14 XB_14 XT_14 XS_14 XC_14 BI_14 CI_14 DI_14 XD_14 EI_14 XE_15
 have GI_17:=Lib.hid (hd)
 have hlu:=all2_len ha
 have hr2:=(row_n_len hr).trans hlu
 have R2:=Lib.hid (show u=false→r2=0 from fun q=>hr2.trans (by rw [HG.out.2.2.2.1 q]; rfl))
 clear hd hb hr ha hlu hr2
 have NN:=newB x3 (.cells #[.int .i64 g.me,.slice j1 j2 j3,.slice j4 j5 j6,.slice j7 j8 j9,.slice j10 j11 j12,.slice j13 j14 j15] 31)
 have GB_18:=Lib.hid (GB_16.out.trans (NN.mono GB_16.out.size))
 have XB_18:=Lib.hid (XB_16.out.on NN)
 have XT_18:=Lib.hid (XT_16.out.on NN)
 have XS_18:=Lib.hid (XS_16.out.on NN)
 have XC_18:=Lib.hid (XC_16.out.on NN)
 have BI_18:=Lib.hid (BI_16.out.on NN)
 have CI_18:=Lib.hid (CI_16.out.on NN)
 have DI_18:=Lib.hid (DI_16.out.on NN)
 have XD_18:=Lib.hid (XD_16.out.on NN)
 have EI_18:=Lib.hid (EI_16.out.on NN)
 have XE_18:=Lib.hid (XE_16.out.on NN)
 have GI_18:=Lib.hid (GI_17.out.on NN)
 clear GB_16 XB_16 XT_16 XS_16 XC_16 BI_16 CI_16 DI_16 XD_16 EI_16 XE_16 GI_17
 clear NN
 have XG_19:=Lib.hid (box_new x3 #[.int .i64 g.me,.slice j1 j2 j3,.slice j4 j5 j6,.slice j7 j8 j9,.slice j10 j11 j12,.slice j13 j14 j15] 31)
 obtain⟨xg0,xg1,xg2,xg3,xg4,xg5⟩:=XG_19.out.cs6
 obtain⟨xt0,xt1⟩:=XT_18.out.cs2
 obtain⟨xs0,xs1⟩:=XS_18.out.cs2
 obtain⟨lg,hg1,hg2⟩:=GI_18.out.ent
 have hgl:=all2_len hg2
 have hc9:=HS.out.few.ent
 go_wp2_with fail
 refine (sfind_any g.me _ _ _ _ (j10,j11,j12) lg g.ent (t1,t2) (9,y2) _ hg1 hg2 HG.out.2.2.1 (by have:=HG.out.2.1; omega) HG.out.2.2.2.2).mono ?_
 rw [findE_out HG.out.1]
 rintro e4 x4 ⟨rfl,hb⟩
 clear xg0 xg1 xg2 xg3 xg4 xg5 xt0 xt1 xs0 xs1
 have GB_20:=Lib.hid (GB_18.out.trans (hb.mono GB_18.out.size))
 have XB_20:=Lib.hid (XB_18.out.on hb)
 have XT_20:=Lib.hid (XT_18.out.on hb)
 have XS_20:=Lib.hid (XS_18.out.on hb)
 have XC_20:=Lib.hid (XC_18.out.on hb)
 have BI_20:=Lib.hid (BI_18.out.on hb)
 have CI_20:=Lib.hid (CI_18.out.on hb)
 have DI_20:=Lib.hid (DI_18.out.on hb)
 have XD_20:=Lib.hid (XD_18.out.on hb)
 have EI_20:=Lib.hid (EI_18.out.on hb)
 have XE_20:=Lib.hid (XE_18.out.on hb)
 have GI_20:=Lib.hid (GI_18.out.on hb)
 have XG_20:=Lib.hid (XG_19.out.on hb)
 clear GB_18 XB_18 XT_18 XS_18 XC_18 BI_18 CI_18 DI_18 XD_18 EI_18 XE_18 GI_18 XG_19
 clear hb hg2
 have NN:=newB x4 (.cells #[.int .i64 0,.int .i64 0,.int .i64 0,.int .i64 0,.slice none 0 0,.int .i64 0,.bool false] 43)
 have GB_21:=Lib.hid (GB_20.out.trans (NN.mono GB_20.out.size))
 have XB_21:=Lib.hid (XB_20.out.on NN)
 have XT_21:=Lib.hid (XT_20.out.on NN)
 have XS_21:=Lib.hid (XS_20.out.on NN)
 have XC_21:=Lib.hid (XC_20.out.on NN)
 have BI_21:=Lib.hid (BI_20.out.on NN)
 have CI_21:=Lib.hid (CI_20.out.on NN)
 have DI_21:=Lib.hid (DI_20.out.on NN)
 have XD_21:=Lib.hid (XD_20.out.on NN)
 have EI_21:=Lib.hid (EI_20.out.on NN)
 have XE_21:=Lib.hid (XE_20.out.on NN)
 have GI_21:=Lib.hid (GI_20.out.on NN)
 have XG_21:=Lib.hid (XG_20.out.on NN)
 clear GB_20 XB_20 XT_20 XS_20 XC_20 BI_20 CI_20 DI_20 XD_20 EI_20 XE_20 GI_20 XG_20
 clear NN
 have L1:=Lib.hid (show (j11:Int)=(s11:Int) from by
  obtain⟨lb,hb1,hb2⟩:=BI_21.out.ent
  have h1:j11=g.ent.length:=(row_n_len hg1).trans hgl
  have h2:s11=b.ent.length:=(row_n_len hb1).trans (all2_len hb2)
  have h3:=HG.out.2.1
  have h4:=HS.out.len
  omega)
 clear hg1 hgl hc9
 obtain⟨xc0,xc1,xc2,xc3,xc4,xc5⟩:=XC_21.out.cs6
 obtain⟨xd0,xd1,xd2,xd3,xd4,xd5⟩:=XD_21.out.cs6
 obtain⟨xe0,xe1,xe2,xe3,xe4,xe5⟩:=XE_21.out.cs6
 obtain⟨xg0,xg1,xg2,xg3,xg4,xg5⟩:=XG_21.out.cs6
 obtain⟨xb0,xb1,xb2,xb3,xb4,xb5⟩:=XB_21.out.cs6
 cases u
 ·have R0:=Lib.hid (R2.out rfl)
  obtain rfl:=R0.out
  go_wp2_with fail
  refine (asame_any c c (n1,n2,n3) (n4,n5,n6) (n7,n8,n9) (n10,n11,n12) (n13,n14,n15) (m1,m2,m3) (m4,m5,m6) (m7,m8,m9) (m10,m11,m12) (m13,m14,m15) _ DI_21.out CI_21.out HS.out.few HS.out.fewp.pa).mono ?_
  rw [same_self]
  rintro e5 x5 ⟨rfl,hb⟩
  clear xc0 xc1 xc2 xc3 xc4 xc5 xd0 xd1 xd2 xd3 xd4 xd5 xe0 xe1 xe2 xe3 xe4 xe5 xg0 xg1 xg2 xg3 xg4 xg5 xb0 xb1 xb2 xb3 xb4 xb5
  have GB_22:=Lib.hid (GB_21.out.trans (hb.mono GB_21.out.size))
  have XB_22:=Lib.hid (XB_21.out.on hb)
  have XT_22:=Lib.hid (XT_21.out.on hb)
  have XS_22:=Lib.hid (XS_21.out.on hb)
  have XC_22:=Lib.hid (XC_21.out.on hb)
  have BI_22:=Lib.hid (BI_21.out.on hb)
  have CI_22:=Lib.hid (CI_21.out.on hb)
  have DI_22:=Lib.hid (DI_21.out.on hb)
  have XD_22:=Lib.hid (XD_21.out.on hb)
  have EI_22:=Lib.hid (EI_21.out.on hb)
  have XE_22:=Lib.hid (XE_21.out.on hb)
  have GI_22:=Lib.hid (GI_21.out.on hb)
  have XG_22:=Lib.hid (XG_21.out.on hb)
  clear GB_21 XB_21 XT_21 XS_21 XC_21 BI_21 CI_21 DI_21 XD_21 EI_21 XE_21 GI_21 XG_21
  clear hb
  obtain⟨xc0,xc1,xc2,xc3,xc4,xc5⟩:=XC_22.out.cs6
  obtain⟨xe0,xe1,xe2,xe3,xe4,xe5⟩:=XE_22.out.cs6
  obtain⟨xg0,xg1,xg2,xg3,xg4,xg5⟩:=XG_22.out.cs6
  obtain⟨xb0,xb1,xb2,xb3,xb4,xb5⟩:=XB_22.out.cs6
  go_wp2_with fail
  refine (asame_any c c (k1,k2,k3) (k4,k5,k6) (k7,k8,k9) (k10,k11,k12) (k13,k14,k15) (m1,m2,m3) (m4,m5,m6) (m7,m8,m9) (m10,m11,m12) (m13,m14,m15) _ EI_22.out CI_22.out HS.out.few HS.out.fewp.pa).mono ?_
  rw [same_self]
  rintro e6 x6 ⟨rfl,hb⟩
  clear xc0 xc1 xc2 xc3 xc4 xc5 xe0 xe1 xe2 xe3 xe4 xe5 xg0 xg1 xg2 xg3 xg4 xg5 xb0 xb1 xb2 xb3 xb4 xb5
  have GB_23:=Lib.hid (GB_22.out.trans (hb.mono GB_22.out.size))
  have XB_23:=Lib.hid (XB_22.out.on hb)
  have XT_23:=Lib.hid (XT_22.out.on hb)
  have XS_23:=Lib.hid (XS_22.out.on hb)
  have XC_23:=Lib.hid (XC_22.out.on hb)
  have BI_23:=Lib.hid (BI_22.out.on hb)
  have CI_23:=Lib.hid (CI_22.out.on hb)
  have DI_23:=Lib.hid (DI_22.out.on hb)
  have XD_23:=Lib.hid (XD_22.out.on hb)
  have EI_23:=Lib.hid (EI_22.out.on hb)
  have XE_23:=Lib.hid (XE_22.out.on hb)
  have GI_23:=Lib.hid (GI_22.out.on hb)
  have XG_23:=Lib.hid (XG_22.out.on hb)
  clear GB_22 XB_22 XT_22 XS_22 XC_22 BI_22 CI_22 DI_22 XD_22 EI_22 XE_22 GI_22 XG_22
  clear hb
  obtain⟨xg0,xg1,xg2,xg3,xg4,xg5⟩:=XG_23.out.cs6
  obtain⟨xb0,xb1,xb2,xb3,xb4,xb5⟩:=XB_23.out.cs6
  have L2:=L1.out
  go_wp2_with fail
  refine (sruns_any _).mono ?_
  rintro e7 x7 ⟨rfl,hb⟩
  clear xg0 xg1 xg2 xg3 xg4 xg5 xb0 xb1 xb2 xb3 xb4 xb5
  have GB_24:=Lib.hid (GB_23.out.trans (hb.mono GB_23.out.size))
  have XB_24:=Lib.hid (XB_23.out.on hb)
  have XT_24:=Lib.hid (XT_23.out.on hb)
  have XS_24:=Lib.hid (XS_23.out.on hb)
  have XC_24:=Lib.hid (XC_23.out.on hb)
  have BI_24:=Lib.hid (BI_23.out.on hb)
  have CI_24:=Lib.hid (CI_23.out.on hb)
  have DI_24:=Lib.hid (DI_23.out.on hb)
  have XD_24:=Lib.hid (XD_23.out.on hb)
  have EI_24:=Lib.hid (EI_23.out.on hb)
  have XE_24:=Lib.hid (XE_23.out.on hb)
  have GI_24:=Lib.hid (GI_23.out.on hb)
  have XG_24:=Lib.hid (XG_23.out.on hb)
  clear GB_23 XB_23 XT_23 XS_23 XC_23 BI_23 CI_23 DI_23 XD_23 EI_23 XE_23 GI_23 XG_23
  go_wp2
  go_ret
  exact⟨rfl,GB_24.out⟩
 ·go_wp2_with fail
  refine (asame_any c c (n1,n2,n3) (n4,n5,n6) (n7,n8,n9) (n10,n11,n12) (n13,n14,n15) (m1,m2,m3) (m4,m5,m6) (m7,m8,m9) (m10,m11,m12) (m13,m14,m15) _ DI_21.out CI_21.out HS.out.few HS.out.fewp.pa).mono ?_
  rw [same_self]
  rintro e5 x5 ⟨rfl,hb⟩
  clear xc0 xc1 xc2 xc3 xc4 xc5 xd0 xd1 xd2 xd3 xd4 xd5 xe0 xe1 xe2 xe3 xe4 xe5 xg0 xg1 xg2 xg3 xg4 xg5 xb0 xb1 xb2 xb3 xb4 xb5
  have GB_22:=Lib.hid (GB_21.out.trans (hb.mono GB_21.out.size))
  have XB_22:=Lib.hid (XB_21.out.on hb)
  have XT_22:=Lib.hid (XT_21.out.on hb)
  have XS_22:=Lib.hid (XS_21.out.on hb)
  have XC_22:=Lib.hid (XC_21.out.on hb)
  have BI_22:=Lib.hid (BI_21.out.on hb)
  have CI_22:=Lib.hid (CI_21.out.on hb)
  have DI_22:=Lib.hid (DI_21.out.on hb)
  have XD_22:=Lib.hid (XD_21.out.on hb)
  have EI_22:=Lib.hid (EI_21.out.on hb)
  have XE_22:=Lib.hid (XE_21.out.on hb)
  have GI_22:=Lib.hid (GI_21.out.on hb)
  have XG_22:=Lib.hid (XG_21.out.on hb)
  clear GB_21 XB_21 XT_21 XS_21 XC_21 BI_21 CI_21 DI_21 XD_21 EI_21 XE_21 GI_21 XG_21
  clear hb
  obtain⟨xc0,xc1,xc2,xc3,xc4,xc5⟩:=XC_22.out.cs6
  obtain⟨xe0,xe1,xe2,xe3,xe4,xe5⟩:=XE_22.out.cs6
  obtain⟨xg0,xg1,xg2,xg3,xg4,xg5⟩:=XG_22.out.cs6
  obtain⟨xb0,xb1,xb2,xb3,xb4,xb5⟩:=XB_22.out.cs6
  go_wp2_with fail
  refine (asame_any c c (k1,k2,k3) (k4,k5,k6) (k7,k8,k9) (k10,k11,k12) (k13,k14,k15) (m1,m2,m3) (m4,m5,m6) (m7,m8,m9) (m10,m11,m12) (m13,m14,m15) _ EI_22.out CI_22.out HS.out.few HS.out.fewp.pa).mono ?_
  rw [same_self]
  rintro e6 x6 ⟨rfl,hb⟩
  clear xc0 xc1 xc2 xc3 xc4 xc5 xe0 xe1 xe2 xe3 xe4 xe5 xg0 xg1 xg2 xg3 xg4 xg5 xb0 xb1 xb2 xb3 xb4 xb5
  have GB_23:=Lib.hid (GB_22.out.trans (hb.mono GB_22.out.size))
  have XB_23:=Lib.hid (XB_22.out.on hb)
  have XT_23:=Lib.hid (XT_22.out.on hb)
  have XS_23:=Lib.hid (XS_22.out.on hb)
  have XC_23:=Lib.hid (XC_22.out.on hb)
  have BI_23:=Lib.hid (BI_22.out.on hb)
  have CI_23:=Lib.hid (CI_22.out.on hb)
  have DI_23:=Lib.hid (DI_22.out.on hb)
  have XD_23:=Lib.hid (XD_22.out.on hb)
  have EI_23:=Lib.hid (EI_22.out.on hb)
  have XE_23:=Lib.hid (XE_22.out.on hb)
  have GI_23:=Lib.hid (GI_22.out.on hb)
  have XG_23:=Lib.hid (XG_22.out.on hb)
  clear GB_22 XB_22 XT_22 XS_22 XC_22 BI_22 CI_22 DI_22 XD_22 EI_22 XE_22 GI_22 XG_22
  clear hb
  obtain⟨xg0,xg1,xg2,xg3,xg4,xg5⟩:=XG_23.out.cs6
  obtain⟨xb0,xb1,xb2,xb3,xb4,xb5⟩:=XB_23.out.cs6
  have L2:=L1.out
  go_wp2_with fail
  refine (sruns_any _).mono ?_
  rintro e7 x7 ⟨rfl,hb⟩
  clear xg0 xg1 xg2 xg3 xg4 xg5 xb0 xb1 xb2 xb3 xb4 xb5
  have GB_24:=Lib.hid (GB_23.out.trans (hb.mono GB_23.out.size))
  have XB_24:=Lib.hid (XB_23.out.on hb)
  have XT_24:=Lib.hid (XT_23.out.on hb)
  have XS_24:=Lib.hid (XS_23.out.on hb)
  have XC_24:=Lib.hid (XC_23.out.on hb)
  have BI_24:=Lib.hid (BI_23.out.on hb)
  have CI_24:=Lib.hid (CI_23.out.on hb)
  have DI_24:=Lib.hid (DI_23.out.on hb)
  have XD_24:=Lib.hid (XD_23.out.on hb)
  have EI_24:=Lib.hid (EI_23.out.on hb)
  have XE_24:=Lib.hid (XE_23.out.on hb)
  have GI_24:=Lib.hid (GI_23.out.on hb)
  have XG_24:=Lib.hid (XG_23.out.on hb)
  clear GB_23 XB_23 XT_23 XS_23 XC_23 BI_23 CI_23 DI_23 XD_23 EI_23 XE_23 GI_23 XG_23
  go_wp2
  go_ret
  exact⟨rfl,GB_24.out⟩
end Go.Proofs.YtncogjpmboglhaaGreat.Sb
