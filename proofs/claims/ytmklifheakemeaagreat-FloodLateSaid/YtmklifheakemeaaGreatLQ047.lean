/-
  FloodLate's region 6. Conditions as told.
-/
import Derived.Test.YtmklifheakemeaaGreatLQ045
set_option maxRecDepth 100000
set_option maxHeartbeats 64000000
open _root_.Go renaming Addr->Y,World->aF,Value->aG
open Go.IntKind renaming i64->ah
open Go.Lib renaming hid->O
open Go.Operand renaming tmp->X
open Go.Proofs.Tryz renaming prog->aC,func16->aH,func23->aL
open Go.Proofs.YtmklifheakemeaaGreat.Av renaming fu->au
open Go.Proofs.YtmklifheakemeaaGreat.Rg renaming dF->aA,eu->aI,fM->aJ,fO->aK,gF->aO,gB->aP,jY->aQ
open Go.RowKit.Below renaming refl->U
open Go.Value renaming slice->J,pointer->L,int->Z,agg->aD,bool->aN
open _root_.List renaming getElem?_toArray->aB
open _root_.Option renaming none->aj,some->ak
open Option.some renaming inj->V
open _root_.Or renaming inr->ay,inl->aM
namespace Go.Proofs.YtmklifheakemeaaGreat.Fl
open Go.RowKit Go.Sort Rw YtmklifheakemeaaGreat.Nm Pr Bk Av Rl Sb
def ZW (_B:Nat) (_bB _bT _bP:Nat) (b:Br) (s1:Option Y) (s2 s3:Nat) (s4:Option Y) (s5 s6:Nat) (s7:Option Y) (s8 s9:Nat) (s10:Option Y) (s11 s12:Nat) (s13:Option Y) (s14 s15:Nat) (f:Int) (h1:Option Y) (h2 h3:Nat) (g1:Option Y) (g2 g3:Nat) (has vals:List Int) (i:Nat) (v:aG) (x:aF):Prop :=
 match i with
 | 0=>v=lN b.me (s1,s2,s3) (s4,s5,s6) (s7,s8,s9) (s10,s11,s12) (s13,s14,s15)
 | 1=>v=Z ah f
 | 2=>v=aD #[Z ah 20,Z ah 0]
 | 3=>v=aD #[J h1 h2 h3,J g1 g2 g3]
 | 4=>∃ sl:Sl,v=dO sl/\eY x v ((fZ has vals 7).map r5)
 | 5=>∃ nv av sv ev ov s:Sl,v=.tuple #[lN (fD b f (20,0) ((fZ has vals 7).map r5)).1.me nv av sv ev ov,dO s]/\mQ x (fD b f (20,0) ((fZ has vals 7).map r5)).1 nv av sv ev ov/\iZ x s (fD b f (20,0) ((fZ has vals 7).map r5)).2
 | 6=>∃ nv av sv ev ov s:Sl,v=.tuple #[lN (fD b f (20,0) ((fZ has vals 7).map r5)).1.me nv av sv ev ov,dO s]/\mQ x (fD b f (20,0) ((fZ has vals 7).map r5)).1 nv av sv ev ov/\iZ x s (fD b f (20,0) ((fZ has vals 7).map r5)).2
 | 7=>∃ nv av sv ev ov:Sl,v=lN (fD b f (20,0) ((fZ has vals 7).map r5)).1.me nv av sv ev ov/\mQ x (fD b f (20,0) ((fZ has vals 7).map r5)).1 nv av sv ev ov
 | 8=>∃ s:Sl,v=dO s/\iZ x s (fD b f (20,0) ((fZ has vals 7).map r5)).2
 | 9=>True
 | 10=>True
 | 11=>∃ s:Sl,v=dO s/\iZ x s (fD b f (20,0) ((fZ has vals 7).map r5)).2
 | _=>True
noncomputable def Uk:Code:=((Tryz.f6.body.bind (eT 6)).getD .skip)
theorem abR (Q:Exit->Act->aF->Prop) (W:aF) (bB bT bP:Nat) (b:Br) (s1:Option Y) (s2 s3:Nat) (s4:Option Y) (s5 s6:Nat) (s7:Option Y) (s8 s9:Nat) (s10:Option Y) (s11 s12:Nat) (s13:Option Y) (s14 s15:Nat) (f:Int) (h1:Option Y) (h2 h3:Nat) (g1:Option Y) (g2 g3:Nat) (has vals:List Int) (u0 u1 u2 u3 u5 u6 u10 u11 u12 u13 u14 u15 u16 u17 u18 u19 u20 u21 u22 u23 u24 u25 u26 u27 u28 u29 u30 u31 u32 u33 u34 u35 u36 u37 u38 u39 u40 u41 u42 u43 u44 u45 u46 u47 u48 u49 u50 u51 u52 u53 u54 u55 u56 u57 u58 u59 u60 u61 u62 u63 u64 u65 u66 u67 u68 u69 u70 u71 u72 u73 u74 u75 u76 u77 u78 u79 u80 u81 u82 u83 u84 u85 u86 u87 u88 u89 u90 u91 u92 u93 u94 u95 u96 u97 u98 u99 u100 u101 u102 u103 u104 u105 u106 u107 u108 u109 u110 u111 u112 u113 u114 u115 u116 u117 u118 u119 u120 u121 u122 u123 u124 u125 u126 u127 u128 u129 u130 u131 u132 u133 u134 u135 u136 u137 u138 u139 u140 u141 u142 u143 u144 u145 u146 u147 u148 u149 u150 u151 u152 u153 u154 u155 u156 u157 u158 u159 u160 u161 u162 u163 u164 u165 u166 u167 u168 u169 u170 u171 u172 u173:aG)
  (hx:dI W bB #[Z ah b.me,J s1 s2 s3,J s4 s5 s6,J s7 s8 s9,J s10 s11 s12,J s13 s14 s15] 28) (bn:mQ W b (s1,s2,s3) (s4,s5,s6) (s7,s8,s9) (s10,s11,s12) (s13,s14,s15)) (ao:nR b f ((fZ has vals 7).map r5)) (xt:dI W bT #[Z ah 20,Z ah 0] 31) (xp:dI W bP #[J h1 h2 h3,J g1 g2 g3] 49) (ih:In.gy W (J h1 h2 h3) has) (iv:In.gy W (J g1 g2 g3) vals) (lh:has.length<=maxLen) (lv:vals.length<=maxLen)
  (hQ:∀ (x:aF) (bb:Nat) (v27 v28 v29 v30 v31 v32 v33 v34 v35:aG) (m1:Option Y) (m2 m3:Nat) (m4:Option Y) (m5 m6:Nat) (m7:Option Y) (m8 m9:Nat) (m10:Option Y) (m11 m12:Nat) (m13:Option Y) (m14 m15:Nat) (o1:Option Y) (o2 o3:Nat),W.heap.size<=bb->dI x bb #[Z ah (fD b f (20,0) ((fZ has vals 7).map r5)).1.me,J m1 m2 m3,J m4 m5 m6,J m7 m8 m9,J m10 m11 m12,J m13 m14 m15] 28->mQ x (fD b f (20,0) ((fZ has vals 7).map r5)).1 (m1,m2,m3) (m4,m5,m6) (m7,m8,m9) (m10,m11,m12) (m13,m14,m15)->iZ x (o1,o2,o3) (fD b f (20,0) ((fZ has vals 7).map r5)).2->Below W.heap.size W x->Q .normal ⟨(u0::u1::u2::u3::L (ak ⟨bP,0,aj⟩)::u5::u6::Z ah f::L (ak ⟨bT,0,aj⟩)::L (ak ⟨bB,0,aj⟩)::L (ak ⟨bb,0,aj⟩)::dO (o1,o2,o3)::u12::u13::u14::u15::u16::u17::u18::u19::u20::u21::u22::u23::u24::u25::u26::v27::v28::v29::v30::v31::v32::v33::v34::v35::u36::u37::u38::u39::u40::u41::u42::u43::u44::u45::u46::u47::u48::u49::u50::u51::u52::u53::u54::u55::u56::u57::u58::u59::u60::u61::u62::u63::u64::u65::u66::u67::u68::u69::u70::u71::u72::u73::u74::u75::u76::u77::u78::u79::u80::u81::u82::u83::u84::u85::u86::u87::u88::u89::u90::u91::u92::u93::u94::u95::u96::u97::u98::u99::u100::u101::u102::u103::u104::u105::u106::u107::u108::u109::u110::u111::u112::u113::u114::u115::u116::u117::u118::u119::u120::u121::u122::u123::u124::u125::u126::u127::u128::u129::u130::u131::u132::u133::u134::u135::u136::u137::u138::u139::u140::u141::u142::u143::u144::u145::u146::u147::u148::u149::u150::u151::u152::u153::u154::u155::u156::u157::u158::u159::u160::u161::u162::u163::u164::u165::u166::u167::u168::u169::u170::u171::u172::u173::[]).toArray,[]⟩ x) :
  Code.wp aC Uk Q ⟨(u0::u1::u2::u3::L (ak ⟨bP,0,aj⟩)::u5::u6::Z ah f::L (ak ⟨bT,0,aj⟩)::L (ak ⟨bB,0,aj⟩)::u10::u11::u12::u13::u14::u15::u16::u17::u18::u19::u20::u21::u22::u23::u24::u25::u26::u27::u28::u29::u30::u31::u32::u33::u34::u35::u36::u37::u38::u39::u40::u41::u42::u43::u44::u45::u46::u47::u48::u49::u50::u51::u52::u53::u54::u55::u56::u57::u58::u59::u60::u61::u62::u63::u64::u65::u66::u67::u68::u69::u70::u71::u72::u73::u74::u75::u76::u77::u78::u79::u80::u81::u82::u83::u84::u85::u86::u87::u88::u89::u90::u91::u92::u93::u94::u95::u96::u97::u98::u99::u100::u101::u102::u103::u104::u105::u106::u107::u108::u109::u110::u111::u112::u113::u114::u115::u116::u117::u118::u119::u120::u121::u122::u123::u124::u125::u126::u127::u128::u129::u130::u131::u132::u133::u134::u135::u136::u137::u138::u139::u140::u141::u142::u143::u144::u145::u146::u147::u148::u149::u150::u151::u152::u153::u154::u155::u156::u157::u158::u159::u160::u161::u162::u163::u164::u165::u166::u167::u168::u169::u170::u171::u172::u173::[]).toArray,[]⟩ W:=by
 have HQ:=O hQ;have HX:=O hx;have BN:=O bn;have AO:=O ao;have HT:=O xt;have HP:=O xp;have IH:=O ih;have IV:=O iv;have LH:=O lh;have LV:=O lv;clear hQ hx bn ao xt xp ih iv lh lv;unfold Uk
 conv=>arg 2; whnf
 have nb4:∀ i,i<12->[28,29,30,31,32,33,27,34,35,10,10,11].getD i 0≠4:=by decide
 have nb7:∀ i,i<12->[28,29,30,31,32,33,27,34,35,10,10,11].getD i 0≠7:=by decide
 have nb8:∀ i,i<12->[28,29,30,31,32,33,27,34,35,10,10,11].getD i 0≠8:=by decide
 have Xm:∀ i,i<12->[28,29,30,31,32,33,27,34,35,10,10,11].getD i 0≠9:=by decide
 refine Rg.yR 12 9 10 7 (fun i=>[28,29,30,31,32,33,27,34,35,10,10,11].getD i 0) (fun i=>if i=4 then 5 else if i=5 then 6 else 12) (ZW W.heap.size bB bT bP b s1 s2 s3 s4 s5 s6 s7 s8 s9 s10 s11 s12 s13 s14 s15 f h1 h2 h3 g1 g2 g3 has vals) 28 #[Z ah 0,J aj 0 0,J aj 0 0,J aj 0 0,J aj 0 0,J aj 0 0] (fun v=>match v with | aD c=>c | _=>#[]) (by kernel_rfl) (by kernel_rfl) rfl (by decide) (by decide) (by decide) (by decide) (by decide) (by decide) (by decide) (fun i j hi hj h1 h2 h=>(by decide:∀ i,i<12->∀ j,j<12->i≠10->j≠10->[28,29,30,31,32,33,27,34,35,10,10,11].getD i 0=[28,29,30,31,32,33,27,34,35,10,10,11].getD j 0->i=j) i hi j hj h1 h2 h) (fun i hi=>(by decide:∀ i,i<12->[28,29,30,31,32,33,27,34,35,10,10,11].getD i 0<174) i hi) ?_ ?_ ?_ ?_ ?_ ?_
 ·intro i v x x' hi h hb;rcases (by omega:i=0\/i=1\/i=2\/i=3\/i=4\/i=5\/i=6\/i=7\/i=8\/i=9\/i=10\/i=11) with rfl|rfl|rfl|rfl|rfl|rfl|rfl|rfl|rfl|rfl|rfl|rfl
  ·exact h
  ·exact h
  ·exact h
  ·exact h
  ·obtain⟨s,h1,h2⟩:=h; exact⟨s,h1,h2.on hb⟩
  ·obtain⟨a1,a2,a3,a4,a5,a6,h1,h2,h3⟩:=h; exact⟨a1,a2,a3,a4,a5,a6,h1,h2.on hb,h3.on hb⟩
  ·obtain⟨a1,a2,a3,a4,a5,a6,h1,h2,h3⟩:=h; exact⟨a1,a2,a3,a4,a5,a6,h1,h2.on hb,h3.on hb⟩
  ·obtain⟨a1,a2,a3,a4,a5,h1,h2⟩:=h; exact⟨a1,a2,a3,a4,a5,h1,h2.on hb⟩
  ·obtain⟨s,h1,h2⟩:=h; exact⟨s,h1,h2.on hb⟩
  ·exact h
  ·exact h
  ·obtain⟨s,h1,h2⟩:=h; exact⟨s,h1,h2.on hb⟩
 ·intro o ho;cases ho;exact⟨⟨⟨9,.data⟩,by simp,rfl,rfl⟩,⟨⟨7,.data⟩,by simp,rfl,rfl⟩⟩
 ·intro i o hi Vk uP ho a x hb seen K hK;clear HQ;rcases (by omega:i=0\/i=1\/i=2\/i=3\/i=4\/i=5\/i=6\/i=7\/i=8\/i=11) with rfl|rfl|rfl|rfl|rfl|rfl|rfl|rfl|rfl|rfl
  ·cases ho;have e9:a.eval (X 9)=L (ak ⟨bB,0,aj⟩):=seen.kp 9 _ Xm rfl;exact aA rfl rfl (aI a.eval _ 28 (X 9) rfl (by rw [e9]; exact vG (HX.out.on hb))) (hK _ x rfl (U _ _))
  ·cases ho;have e7:a.eval (X 7)=Z ah f:=seen.kp 7 _ nb7 rfl;exact aA rfl rfl (aJ a.eval _ (X 7) rfl x) (hK _ x e7 (U _ _))
  ·cases ho;have e8:a.eval (X 8)=L (ak ⟨bT,0,aj⟩):=seen.kp 8 _ nb8 rfl;obtain⟨y0,y1⟩:=(HT.out.on hb).cs2;exact aA rfl rfl (aI a.eval _ 31 (X 8) rfl (by rw [e8]; simp [go_sem,y0,y1])) (hK _ x rfl (U _ _))
  ·cases ho;have e4:a.eval (X 4)=L (ak ⟨bP,0,aj⟩):=seen.kp 4 _ nb4 rfl;obtain⟨y0,y1⟩:=(HP.out.on hb).cs2;exact aA rfl rfl (aI a.eval _ 49 (X 4) rfl (by rw [e4]; simp [go_sem,y0,y1])) (hK _ x rfl (U _ _))
  ·cases ho;have e31:a.eval (X 31)=aD #[J h1 h2 h3,J g1 g2 g3]:=seen.at_ ⟨3,.data⟩ (by simp) rfl (by decide) (by decide) (ay (by decide));exact aK rfl rfl (Rw.gu a.eval _ (X 31) 49 16 rfl e31 rfl _ (fI aH rfl rfl _ _)) (mM (J h1 h2 h3) (J g1 g2 g3) has vals x (IH.out.on hb) (IV.out.on hb) LH.out LV.out) fun e w1 h=>by
    obtain⟨v,rfl,q1,q2⟩:=h;have q3:=Row.dG q1;obtain⟨a1,a2,hvv⟩:=q3.len;exact⟨_,rfl,hK _ _ ⟨(a1,_,a2),hvv,q3⟩ q2⟩
  ·cases ho;have e28:a.eval (X 28)=lN b.me (s1,s2,s3) (s4,s5,s6) (s7,s8,s9) (s10,s11,s12) (s13,s14,s15):=seen.at_ ⟨0,.data⟩ (by simp) rfl (by decide) (by decide) (ay (by decide));have e29:a.eval (X 29)=Z ah f:=seen.at_ ⟨1,.data⟩ (by simp) rfl (by decide) (by decide) (ay (by decide));have e30:a.eval (X 30)=aD #[Z ah 20,Z ah 0]:=seen.at_ ⟨2,.data⟩ (by simp) rfl (by decide) (by decide) (ay (by decide));have E32:=seen.at_ ⟨4,.data⟩ (by simp) rfl (by decide) (by decide) (aM rfl);obtain⟨⟨l1,l2,l3⟩,q0,q1⟩:=E32;have q0:a.eval (X 32)=J l1 l2 l3:=q0;have q2:eY x (J l1 l2 l3) ((fZ has vals 7).map r5):=by rw [<- q0]; exact q1
   exact aK rfl rfl (zm a.eval _ (X 28) (X 29) (X 30) (X 32) 28 3 31 32 9 rfl e28 e29 e30 q0 rfl _ (fI Tryz.func9 rfl rfl _ _)) (pK b s1 s2 s3 s4 s5 s6 s7 s8 s9 s10 s11 s12 s13 s14 s15 f 20 0 l1 l2 l3 ((fZ has vals 7).map r5) x (BN.out.on hb) q2 AO.out) fun e w1 h=>by
    obtain⟨⟨a1,a2,a3,a4,a5,a6,lx,rfl,h2,_,h3⟩,h5⟩:=h;exact⟨_,rfl,hK _ _ ⟨a1,a2,a3,a4,a5,a6,rfl,h2,h3.outs⟩ h5⟩
  ·cases ho;have E33:=seen.at_ ⟨5,.data⟩ (by simp) rfl (by decide) (by decide) (aM rfl);exact aA rfl rfl (aJ a.eval _ (X 33) rfl x) (hK _ x E33 (U _ _))
  ·cases ho;have E27:=seen.at_ ⟨6,.data⟩ (by simp) rfl (by decide) (by decide) (ay (by decide));obtain⟨a1,a2,a3,a4,a5,a6,h1,h2,_⟩:=E27;exact aA rfl rfl (jw a.eval _ (X 27) 0 rfl (c:=#[lN (fD b f (20,0) ((fZ has vals 7).map r5)).1.me a1 a2 a3 a4 a5,dO a6]) h1 rfl x) (hK _ x ⟨a1,a2,a3,a4,a5,rfl,h2⟩ (U _ _))
  ·cases ho;have E27:=seen.at_ ⟨6,.data⟩ (by simp) rfl (by decide) (by decide) (ay (by decide));obtain⟨a1,a2,a3,a4,a5,a6,h1,_,h3⟩:=E27;exact aA rfl rfl (jw a.eval _ (X 27) 1 rfl (c:=#[lN (fD b f (20,0) ((fZ has vals 7).map r5)).1.me a1 a2 a3 a4 a5,dO a6]) h1 rfl x) (hK _ x ⟨a6,rfl,h3⟩ (U _ _))
  ·cases ho;have E35:=seen.at_ ⟨8,.data⟩ (by simp) rfl (by decide) (by decide) (ay (by decide));exact aA rfl rfl (Rg.kD a.eval _ (X 35) rfl x) (hK _ x E35 (U _ _))
 ·intro o ho a x K hK;cases ho;exact aA rfl rfl (Rg.Aq a.eval _ 28 rfl (by simp [go_sem])) hK
 ·intro o ho a x bb v D hc hD hb hA hC F9 hbb jC K hK;clear HQ;cases ho;obtain⟨⟨m1,m2,m3⟩,⟨m4,m5,m6⟩,⟨m7,m8,m9⟩,⟨m10,m11,m12⟩,⟨m13,m14,m15⟩,hv1,hv2⟩:=F9;subst hv1;have mq:=au x bb (Z ah (fD b f (20,0) ((fZ has vals 7).map r5)).1.me) (J m1 m2 m3) (J m4 m5 m6) (J m7 m8 m9) (J m10 m11 m12) (J m13 m14 m15);refine aP 28 (X 10) (X 34) rfl rfl rfl rfl hA hC (w':=iF x bb (Z ah (fD b f (20,0) ((fZ has vals 7).map r5)).1.me) (J m1 m2 m3) (J m4 m5 m6) (J m7 m8 m9) (J m10 m11 m12) (J m13 m14 m15)) (nJ jC _ _ _ _ _ _ _ _ _ _ _ _ _ _ _ _) (hK _ (dN hb hbb _ _ _ _ _ _) (dZ jC _ _ _ _ _ _) ?_);exact fun j u hj hjA hjS hdj hnl hls h=>by
   rcases (by omega:j=0\/j=1\/j=2\/j=3\/j=4\/j=5\/j=6\/j=7\/j=8\/j=11) with rfl|rfl|rfl|rfl|rfl|rfl|rfl|rfl|rfl|rfl
   ·have h2:u=lN b.me (s1,s2,s3) (s4,s5,s6) (s7,s8,s9) (s10,s11,s12) (s13,s14,s15):=h; exact h2
   ·have h2:u=Z ah f:=h; exact h2
   ·have h2:u=aD #[Z ah 20,Z ah 0]:=h; exact h2
   ·have h2:u=aD #[J h1 h2 h3,J g1 g2 g3]:=h; exact h2
   ·exact absurd (hD ⟨5,.chain⟩ (by simp) rfl) hnl
   ·exact absurd (hD ⟨6,.phase⟩ (by simp) rfl) hnl
   ·obtain⟨a1,a2,a3,a4,a5,a6,h1,h2,h3⟩:=h; exact⟨a1,a2,a3,a4,a5,a6,h1,h2.keep (s1:=(aj,0,0)) (s2:=(aj,0,0)) (s3:=(aj,0,0)) (s4:=(aj,0,0)) (s5:=(aj,0,0)) (me:=0) jC mq,jX (s1:=(aj,0,0)) (s2:=(aj,0,0)) (s3:=(aj,0,0)) (s4:=(aj,0,0)) (s5:=(aj,0,0)) (me:=0) h3 jC mq.1⟩
   ·obtain⟨a1,a2,a3,a4,a5,h1,h2⟩:=h; exact⟨a1,a2,a3,a4,a5,h1,h2.keep (s1:=(aj,0,0)) (s2:=(aj,0,0)) (s3:=(aj,0,0)) (s4:=(aj,0,0)) (s5:=(aj,0,0)) (me:=0) jC mq⟩
   ·obtain⟨s,h1,h2⟩:=h; exact⟨s,h1,jX (s1:=(aj,0,0)) (s2:=(aj,0,0)) (s3:=(aj,0,0)) (s4:=(aj,0,0)) (s5:=(aj,0,0)) (me:=0) h2 jC mq.1⟩
   ·obtain⟨s,h1,h2⟩:=h; exact⟨s,h1,jX (s1:=(aj,0,0)) (s2:=(aj,0,0)) (s3:=(aj,0,0)) (s4:=(aj,0,0)) (s5:=(aj,0,0)) (me:=0) h2 jC mq.1⟩
 ·intro a x bb v df sz kp gA gC hbb jC F9 hbel ⟨vs,hv⟩;obtain⟨⟨m1,m2,m3⟩,⟨m4,m5,m6⟩,⟨m7,m8,m9⟩,⟨m10,m11,m12⟩,⟨m13,m14,m15⟩,hv1,hv2⟩:=F9;subst hv1;have g10:a.tmps[10]?=ak (L (ak ⟨bb,0,aj⟩)):=gA;obtain⟨⟨o1,o2,o3⟩,ho1,ho2⟩:=(hv 11 (by decide) (by decide) (by decide)).2 (by decide);have g11:a.tmps[11]?=ak (dO (o1,o2,o3)):=by
   rw [<- ho1];exact (hv 11 (by decide) (by decide) (by decide)).1
  have pQ:∀ j,(j<10\/36<=j)->a.tmps[j]?=(u0::u1::u2::u3::L (ak ⟨bP,0,aj⟩)::u5::u6::Z ah f::L (ak ⟨bT,0,aj⟩)::L (ak ⟨bB,0,aj⟩)::u10::u11::u12::u13::u14::u15::u16::u17::u18::u19::u20::u21::u22::u23::u24::u25::u26::u27::u28::u29::u30::u31::u32::u33::u34::u35::u36::u37::u38::u39::u40::u41::u42::u43::u44::u45::u46::u47::u48::u49::u50::u51::u52::u53::u54::u55::u56::u57::u58::u59::u60::u61::u62::u63::u64::u65::u66::u67::u68::u69::u70::u71::u72::u73::u74::u75::u76::u77::u78::u79::u80::u81::u82::u83::u84::u85::u86::u87::u88::u89::u90::u91::u92::u93::u94::u95::u96::u97::u98::u99::u100::u101::u102::u103::u104::u105::u106::u107::u108::u109::u110::u111::u112::u113::u114::u115::u116::u117::u118::u119::u120::u121::u122::u123::u124::u125::u126::u127::u128::u129::u130::u131::u132::u133::u134::u135::u136::u137::u138::u139::u140::u141::u142::u143::u144::u145::u146::u147::u148::u149::u150::u151::u152::u153::u154::u155::u156::u157::u158::u159::u160::u161::u162::u163::u164::u165::u166::u167::u168::u169::u170::u171::u172::u173::[])[j]?:=fun j hj=>(kp j (fun i hi h=>by have:=(by decide:∀ i,i<12->10<=[28,29,30,31,32,33,27,34,35,10,10,11].getD i 0/\[28,29,30,31,32,33,27,34,35,10,10,11].getD i 0<36) i hi; omega)).trans aB;obtain⟨mid,hmid,rfl⟩:=aO 10 26 df sz (by simp) pQ
  match mid,hmid with
  | [v10,v11,v12,v13,v14,v15,v16,v17,v18,v19,v20,v21,v22,v23,v24,v25,v26,v27,v28,v29,v30,v31,v32,v33,v34,v35],_ =>
   obtain rfl:v10=L (ak ⟨bb,0,aj⟩):=V g10;obtain rfl:v11=dO (o1,o2,o3):=V g11;obtain rfl:v12=u12:=V (kp 12 (fun i hi h=>(by decide:∀ i,i<12->[28,29,30,31,32,33,27,34,35,10,10,11].getD i 0≠12) i hi h));obtain rfl:v13=u13:=V (kp 13 (fun i hi h=>(by decide:∀ i,i<12->[28,29,30,31,32,33,27,34,35,10,10,11].getD i 0≠13) i hi h));obtain rfl:v14=u14:=V (kp 14 (fun i hi h=>(by decide:∀ i,i<12->[28,29,30,31,32,33,27,34,35,10,10,11].getD i 0≠14) i hi h));obtain rfl:v15=u15:=V (kp 15 (fun i hi h=>(by decide:∀ i,i<12->[28,29,30,31,32,33,27,34,35,10,10,11].getD i 0≠15) i hi h));obtain rfl:v16=u16:=V (kp 16 (fun i hi h=>(by decide:∀ i,i<12->[28,29,30,31,32,33,27,34,35,10,10,11].getD i 0≠16) i hi h));obtain rfl:v17=u17:=V (kp 17 (fun i hi h=>(by decide:∀ i,i<12->[28,29,30,31,32,33,27,34,35,10,10,11].getD i 0≠17) i hi h));obtain rfl:v18=u18:=V (kp 18 (fun i hi h=>(by decide:∀ i,i<12->[28,29,30,31,32,33,27,34,35,10,10,11].getD i 0≠18) i hi h));obtain rfl:v19=u19:=V (kp 19 (fun i hi h=>(by decide:∀ i,i<12->[28,29,30,31,32,33,27,34,35,10,10,11].getD i 0≠19) i hi h));obtain rfl:v20=u20:=V (kp 20 (fun i hi h=>(by decide:∀ i,i<12->[28,29,30,31,32,33,27,34,35,10,10,11].getD i 0≠20) i hi h));obtain rfl:v21=u21:=V (kp 21 (fun i hi h=>(by decide:∀ i,i<12->[28,29,30,31,32,33,27,34,35,10,10,11].getD i 0≠21) i hi h));obtain rfl:v22=u22:=V (kp 22 (fun i hi h=>(by decide:∀ i,i<12->[28,29,30,31,32,33,27,34,35,10,10,11].getD i 0≠22) i hi h));obtain rfl:v23=u23:=V (kp 23 (fun i hi h=>(by decide:∀ i,i<12->[28,29,30,31,32,33,27,34,35,10,10,11].getD i 0≠23) i hi h));obtain rfl:v24=u24:=V (kp 24 (fun i hi h=>(by decide:∀ i,i<12->[28,29,30,31,32,33,27,34,35,10,10,11].getD i 0≠24) i hi h));obtain rfl:v25=u25:=V (kp 25 (fun i hi h=>(by decide:∀ i,i<12->[28,29,30,31,32,33,27,34,35,10,10,11].getD i 0≠25) i hi h));obtain rfl:v26=u26:=V (kp 26 (fun i hi h=>(by decide:∀ i,i<12->[28,29,30,31,32,33,27,34,35,10,10,11].getD i 0≠26) i hi h));exact HQ.out x bb _ _ _ _ _ _ _ _ _ m1 m2 m3 m4 m5 m6 m7 m8 m9 m10 m11 m12 m13 m14 m15 o1 o2 o3 hbb jC hv2 ho2 hbel
theorem zA (b:Br) (x:fB) (p:List C5):(iE b x p).1.near=b.near:=(Rt x b x p).2.1
theorem P5 {W:aF} {pp:Y} {v u:aG} (h0:W.cell? (pp.add 0)=ak v) (h1:W.cell? (pp.add 1)=ak u):(Instr.loadAt 49 (L (ak pp))).run aC W=.ok (aD #[v,u]) W:=by
 rw [Rw.add_zero] at h0;simp [Addr.add] at h1;simp [go_sem,h0,h1]
def WB (_B:Nat) (_bb _bX:Nat) (b:Br) (s1:Option Y) (s2 s3:Nat) (s4:Option Y) (s5 s6:Nat) (s7:Option Y) (s8 s9:Nat) (s10:Option Y) (s11 s12:Nat) (s13:Option Y) (s14 s15:Nat) (x1 x2:Int) (po:Option Y) (pn pc kk:Nat) (pp:Y) (h1:Option Y) (h2 h3:Nat) (g1:Option Y) (g2 g3:Nat) (has vals:List Int) (i:Nat) (v:aG) (x:aF):Prop :=
 match i with
 | 0=>v=lN b.me (s1,s2,s3) (s4,s5,s6) (s7,s8,s9) (s10,s11,s12) (s13,s14,s15)
 | 1=>v=aD #[Z ah x1,Z ah x2]
 | 2=>v=J po pn pc
 | 3=>v=Z ah (kk:Int)
 | 4=>v=L (ak pp)
 | 5=>v=aD #[J h1 h2 h3,J g1 g2 g3]
 | 6=>∃ sl:Sl,v=dO sl/\eY x v ((fZ has vals 7).map r5)
 | 7=>∃ ev ov lo:Sl,v=.tuple #[lN b.me (s1,s2,s3) (s4,s5,s6) (s7,s8,s9) ev ov,dO lo]/\mQ x (iE b (x1,x2) ((fZ has vals 7).map r5)).1 (s1,s2,s3) (s4,s5,s6) (s7,s8,s9) ev ov
 | 8=>∃ ev ov lo:Sl,v=.tuple #[lN b.me (s1,s2,s3) (s4,s5,s6) (s7,s8,s9) ev ov,dO lo]/\mQ x (iE b (x1,x2) ((fZ has vals 7).map r5)).1 (s1,s2,s3) (s4,s5,s6) (s7,s8,s9) ev ov
 | 9=>∃ ev ov:Sl,v=lN b.me (s1,s2,s3) (s4,s5,s6) (s7,s8,s9) ev ov/\mQ x (iE b (x1,x2) ((fZ has vals 7).map r5)).1 (s1,s2,s3) (s4,s5,s6) (s7,s8,s9) ev ov
 | 10=>True
 | 11=>True
 | _=>True
noncomputable def P6:Code:=((Tryz.f6.body.bind (eT 12)).getD .skip)
theorem ZX (Q:Exit->Act->aF->Prop) (W:aF) (bb bX:Nat) (b:Br) (s1:Option Y) (s2 s3:Nat) (s4:Option Y) (s5 s6:Nat) (s7:Option Y) (s8 s9:Nat) (s10:Option Y) (s11 s12:Nat) (s13:Option Y) (s14 s15:Nat) (x1 x2:Int) (po:Option Y) (pn pc kk:Nat) (pp:Y) (h1:Option Y) (h2 h3:Nat) (g1:Option Y) (g2 g3:Nat) (has vals:List Int) (u1 u2 u3 u4 u5 u6 u7 u8 u10 u11 u12 u15 u16 u17 u18 u19 u20 u21 u22 u23 u24 u25 u26 u27 u28 u29 u30 u31 u32 u33 u34 u35 u36 u37 u38 u39 u40 u41 u42 u43 u44 u45 u46 u47 u48 u49 u50 u51 u52 u53 u54 u55 u56 u57 u58 u59 u60 u61 u62 u63 u64 u65 u66 u67 u68 u69 u70 u71 u72 u73 u74 u75 u76 u77 u78 u79 u80 u81 u82 u83 u84 u85 u86 u87 u88 u89 u90 u91 u92 u93 u94 u95 u96 u97 u98 u99 u100 u101 u102 u103 u104 u105 u106 u107 u108 u109 u110 u111 u112 u113 u114 u115 u116 u117 u118 u119 u120 u121 u122 u123 u124 u125 u126 u127 u128 u129 u130 u131 u132 u133 u134 u135 u136 u137 u138 u139 u140 u141 u142 u143 u144 u145 u146 u147 u148 u149 u150 u151 u152 u153 u154 u155 u156 u157 u158 u159 u160 u161 u162 u163 u164 u165 u166 u167 u168 u169 u170 u171 u172 u173:aG)
  (jC:dI W bb #[Z ah b.me,J s1 s2 s3,J s4 s5 s6,J s7 s8 s9,J s10 s11 s12,J s13 s14 s15] 28) (bn:mQ W b (s1,s2,s3) (s4,s5,s6) (s7,s8,s9) (s10,s11,s12) (s13,s14,s15)) (xx:dI W bX #[Z ah x1,Z ah x2] 31) (ix:∀ w,(Instr.indexAt 61 (J po pn pc) (Z ah (kk:Int))).run aC w=.ok (L (ak pp)) w) (pb:pp.block<W.heap.size) (Ul:∀ (j:Nat) u,#[(J h1 h2 h3:aG),J g1 g2 g3][j]?=ak u->W.cell? (pp.add j)=ak u) (ih:In.gy W (J h1 h2 h3) has) (iv:In.gy W (J g1 g2 g3) vals) (lh:has.length<=maxLen) (lv:vals.length<=maxLen) (la:b.dV.length<=900) (le:b.ent.length+b.dV.length<=900) (lo:b.own.length<=899) (pe:∀ e∈b.ent,dW e.p) (pa:∀ a∈b.dV,dW a.p) (pr:dW ((fZ has vals 7).map r5))
  (hQ:∀ (x:aF) (v50 v51 v52 v53 v54 v55 v56 v57 v58 v59 v60:aG) (m10:Option Y) (m11 m12:Nat) (m13:Option Y) (m14 m15:Nat),dI x bb #[Z ah b.me,J s1 s2 s3,J s4 s5 s6,J s7 s8 s9,J m10 m11 m12,J m13 m14 m15] 28->mQ x (iE b (x1,x2) ((fZ has vals 7).map r5)).1 (s1,s2,s3) (s4,s5,s6) (s7,s8,s9) (m10,m11,m12) (m13,m14,m15)->Rg.Vm bb W x->Q .normal ⟨(J po pn pc::u1::u2::u3::u4::u5::u6::u7::u8::L (ak ⟨bb,0,aj⟩)::u10::u11::u12::Z ah (kk:Int)::L (ak ⟨bX,0,aj⟩)::u15::u16::u17::u18::u19::u20::u21::u22::u23::u24::u25::u26::u27::u28::u29::u30::u31::u32::u33::u34::u35::u36::u37::u38::u39::u40::u41::u42::u43::u44::u45::u46::u47::u48::u49::v50::v51::v52::v53::v54::v55::v56::v57::v58::v59::v60::u61::u62::u63::u64::u65::u66::u67::u68::u69::u70::u71::u72::u73::u74::u75::u76::u77::u78::u79::u80::u81::u82::u83::u84::u85::u86::u87::u88::u89::u90::u91::u92::u93::u94::u95::u96::u97::u98::u99::u100::u101::u102::u103::u104::u105::u106::u107::u108::u109::u110::u111::u112::u113::u114::u115::u116::u117::u118::u119::u120::u121::u122::u123::u124::u125::u126::u127::u128::u129::u130::u131::u132::u133::u134::u135::u136::u137::u138::u139::u140::u141::u142::u143::u144::u145::u146::u147::u148::u149::u150::u151::u152::u153::u154::u155::u156::u157::u158::u159::u160::u161::u162::u163::u164::u165::u166::u167::u168::u169::u170::u171::u172::u173::[]).toArray,[]⟩ x) :
  Code.wp aC P6 Q ⟨(J po pn pc::u1::u2::u3::u4::u5::u6::u7::u8::L (ak ⟨bb,0,aj⟩)::u10::u11::u12::Z ah (kk:Int)::L (ak ⟨bX,0,aj⟩)::u15::u16::u17::u18::u19::u20::u21::u22::u23::u24::u25::u26::u27::u28::u29::u30::u31::u32::u33::u34::u35::u36::u37::u38::u39::u40::u41::u42::u43::u44::u45::u46::u47::u48::u49::u50::u51::u52::u53::u54::u55::u56::u57::u58::u59::u60::u61::u62::u63::u64::u65::u66::u67::u68::u69::u70::u71::u72::u73::u74::u75::u76::u77::u78::u79::u80::u81::u82::u83::u84::u85::u86::u87::u88::u89::u90::u91::u92::u93::u94::u95::u96::u97::u98::u99::u100::u101::u102::u103::u104::u105::u106::u107::u108::u109::u110::u111::u112::u113::u114::u115::u116::u117::u118::u119::u120::u121::u122::u123::u124::u125::u126::u127::u128::u129::u130::u131::u132::u133::u134::u135::u136::u137::u138::u139::u140::u141::u142::u143::u144::u145::u146::u147::u148::u149::u150::u151::u152::u153::u154::u155::u156::u157::u158::u159::u160::u161::u162::u163::u164::u165::u166::u167::u168::u169::u170::u171::u172::u173::[]).toArray,[]⟩ W:=by
 have HQ:=O hQ;have HB:=O jC;have BN:=O bn;have HXX:=O xx;have IX:=O ix;have PB:=O pb;have PC:=O Ul;have IH:=O ih;have IV:=O iv;have LH:=O lh;have LV:=O lv;have LA:=O la;have LE:=O le;have LO:=O lo;have PE:=O pe;have PA:=O pa;have PP:=O pr;clear hQ jC bn xx ix pb Ul ih iv lh lv la le lo pe pa pr;unfold P6
 conv=>arg 2; whnf
 have nb0:∀ i,i<12->[51,52,53,54,55,56,57,58,50,59,60,59].getD i 0≠0:=by decide
 have Xm:∀ i,i<12->[51,52,53,54,55,56,57,58,50,59,60,59].getD i 0≠9:=by decide
 have WE:∀ i,i<12->[51,52,53,54,55,56,57,58,50,59,60,59].getD i 0≠13:=by decide
 have WG:∀ i,i<12->[51,52,53,54,55,56,57,58,50,59,60,59].getD i 0≠14:=by decide
 refine Rg.yS 12 11 9 (fun i=>[51,52,53,54,55,56,57,58,50,59,60,59].getD i 0) (fun i=>if i=6 then 7 else 12) (WB W.heap.size bb bX b s1 s2 s3 s4 s5 s6 s7 s8 s9 s10 s11 s12 s13 s14 s15 x1 x2 po pn pc kk pp h1 h2 h3 g1 g2 g3 has vals) (fun i=>i == 10) 28 bb #[Z ah b.me,J s1 s2 s3,J s4 s5 s6,J s7 s8 s9,J s10 s11 s12,J s13 s14 s15] (fun v=>match v with | aD c=>c | _=>#[]) (by kernel_rfl) (by kernel_rfl) rfl (by decide) (by decide) (by decide) (by decide) HB.out (fun i j hi hj h1 h2 h=>(by decide:∀ i,i<12->∀ j,j<12->i≠11->j≠11->[51,52,53,54,55,56,57,58,50,59,60,59].getD i 0=[51,52,53,54,55,56,57,58,50,59,60,59].getD j 0->i=j) i hi j hj h1 h2 h) (fun i hi _=>(by decide:∀ i,i<12->[51,52,53,54,55,56,57,58,50,59,60,59].getD i 0<174) i hi) ?_ ?_ (by decide) ?_ ?_ (fun j h1 h2=>(by decide:∀ j,j<12->j≠11->12<=(fun i=>if i=6 then 7 else 12) j\/((fun i=>if i=6 then 7 else 12) j<12/\(fun i=>if i=6 then 7 else 12) j≠11/\(fun i=>i == 10) ((fun i=>if i=6 then 7 else 12) j)=false)) j h1 h2) ?_
 ·intro i v x x' hi h hb;rcases (by omega:i=0\/i=1\/i=2\/i=3\/i=4\/i=5\/i=6\/i=7\/i=8\/i=9\/i=10\/i=11) with rfl|rfl|rfl|rfl|rfl|rfl|rfl|rfl|rfl|rfl|rfl|rfl
  ·exact h
  ·exact h
  ·exact h
  ·exact h
  ·exact h
  ·exact h
  ·obtain⟨s,h1,h2⟩:=h; exact⟨s,h1,h2.on hb⟩
  ·obtain⟨a1,a2,a3,h1,h2⟩:=h; exact⟨a1,a2,a3,h1,h2.on hb⟩
  ·obtain⟨a1,a2,a3,h1,h2⟩:=h; exact⟨a1,a2,a3,h1,h2.on hb⟩
  ·obtain⟨a1,a2,h1,h2⟩:=h; exact⟨a1,a2,h1,h2.on hb⟩
  ·exact h
  ·exact h
 ·intro o ho i hi uP hfi;cases ho;have h10:i≠10:=fun e=>by rw [e] at hfi; simp at hfi
  rcases (by omega:i=0\/i=1\/i=2\/i=3\/i=4\/i=5\/i=6\/i=7\/i=8\/i=9) with rfl|rfl|rfl|rfl|rfl|rfl|rfl|rfl|rfl|rfl
  ·exact⟨⟨0,.phase⟩,by simp,rfl,rfl⟩
  ·exact⟨⟨1,.phase⟩,by simp,rfl,rfl⟩
  ·exact⟨⟨2,.phase⟩,by simp,rfl,rfl⟩
  ·exact⟨⟨3,.phase⟩,by simp,rfl,rfl⟩
  ·exact⟨⟨4,.phase⟩,by simp,rfl,rfl⟩
  ·exact⟨⟨5,.phase⟩,by simp,rfl,rfl⟩
  ·exact⟨⟨6,.phase⟩,by simp,rfl,rfl⟩
  ·exact⟨⟨7,.chain⟩,by simp,rfl,rfl⟩
  ·exact⟨⟨8,.phase⟩,by simp,rfl,rfl⟩
  ·exact⟨⟨9,.data⟩,by simp,rfl,rfl⟩
 ·intro i o hi uP ho a x hpre seen K hK;clear HQ;rcases (by omega:i=0\/i=1\/i=2\/i=3\/i=4\/i=5\/i=6\/i=7\/i=8\/i=9\/i=10) with rfl|rfl|rfl|rfl|rfl|rfl|rfl|rfl|rfl|rfl|rfl
  ·cases ho;obtain⟨hb,hbx⟩:=hpre rfl;have e9:a.eval (X 9)=L (ak ⟨bb,0,aj⟩):=seen.kp 9 _ Xm rfl;exact aA rfl rfl (aI a.eval _ 28 (X 9) rfl (by rw [e9]; exact vG (HB.out.on hb))) (hK _ x rfl (U _ _))
  ·cases ho;obtain⟨hb,hbx⟩:=hpre rfl;have e14:a.eval (X 14)=L (ak ⟨bX,0,aj⟩):=seen.kp 14 _ WG rfl;obtain⟨y0,y1⟩:=(HXX.out.on hb).cs2;exact aA rfl rfl (aI a.eval _ 31 (X 14) rfl (by rw [e14]; simp [go_sem,y0,y1])) (hK _ x rfl (U _ _))
  ·cases ho;obtain⟨hb,hbx⟩:=hpre rfl;have e0:a.eval (X 0)=J po pn pc:=seen.kp 0 _ nb0 rfl;exact aA rfl rfl (aJ a.eval _ (X 0) rfl x) (hK _ x e0 (U _ _))
  ·cases ho;obtain⟨hb,hbx⟩:=hpre rfl;have e13:a.eval (X 13)=Z ah (kk:Int):=seen.kp 13 _ WE rfl;exact aA rfl rfl (aJ a.eval _ (X 13) rfl x) (hK _ x e13 (U _ _))
  ·cases ho;obtain⟨hb,hbx⟩:=hpre rfl;have e53:a.eval (X 53)=J po pn pc:=seen.at_ ⟨2,.data⟩ (by simp) rfl (by decide) (ay (by decide));have e54:a.eval (X 54)=Z ah (kk:Int):=seen.at_ ⟨3,.data⟩ (by simp) rfl (by decide) (ay (by decide));exact aA rfl rfl (aQ a.eval _ 61 (X 53) (X 54) rfl (by rw [e53,e54]; exact IX.out x)) (hK _ x rfl (U _ _))
  ·cases ho;obtain⟨hb,hbx⟩:=hpre rfl;have e55:a.eval (X 55)=L (ak pp):=seen.at_ ⟨4,.data⟩ (by simp) rfl (by decide) (ay (by decide));have y0:=hb.cell (p:=pp.add 0) (by rw [jD]; exact PB.out);have y1:=hb.cell (p:=pp.add 1) (by rw [jD]; exact PB.out);rw [PC.out 0 _ rfl] at y0;rw [PC.out 1 _ rfl] at y1;exact aA rfl rfl (aI a.eval _ 49 (X 55) rfl (by rw [e55]; exact P5 y0 y1)) (hK _ x rfl (U _ _))
  ·cases ho;obtain⟨hb,hbx⟩:=hpre rfl;have e56:a.eval (X 56)=aD #[J h1 h2 h3,J g1 g2 g3]:=seen.at_ ⟨5,.data⟩ (by simp) rfl (by decide) (ay (by decide));exact aK rfl rfl (Rw.gu a.eval _ (X 56) 49 16 rfl e56 rfl _ (fI aH rfl rfl _ _)) (mM (J h1 h2 h3) (J g1 g2 g3) has vals x (IH.out.on hb) (IV.out.on hb) LH.out LV.out) fun e w1 h=>by
    obtain⟨v,rfl,q1,q2⟩:=h;have q3:=Row.dG q1;obtain⟨a1,a2,hvv⟩:=q3.len;exact⟨_,rfl,hK _ _ ⟨(a1,_,a2),hvv,q3⟩ q2⟩
  ·cases ho;obtain⟨hb,hbx⟩:=hpre rfl;have e51:a.eval (X 51)=lN b.me (s1,s2,s3) (s4,s5,s6) (s7,s8,s9) (s10,s11,s12) (s13,s14,s15):=seen.at_ ⟨0,.data⟩ (by simp) rfl (by decide) (ay (by decide));have e52:a.eval (X 52)=aD #[Z ah x1,Z ah x2]:=seen.at_ ⟨1,.data⟩ (by simp) rfl (by decide) (ay (by decide));have E57:=seen.at_ ⟨6,.data⟩ (by simp) rfl (by decide) (aM rfl);obtain⟨⟨l1,l2,l3⟩,q0,q1⟩:=E57;have q0:a.eval (X 57)=J l1 l2 l3:=q0;have q2:eY x (J l1 l2 l3) ((fZ has vals 7).map r5):=by rw [<- q0]; exact q1
   exact aK rfl rfl (oZ a.eval _ (X 51) (X 52) (X 57) 28 31 32 23 rfl e51 e52 q0 rfl _ (fI aL rfl rfl _ _)) (y8 b (s1,s2,s3) (s4,s5,s6) (s7,s8,s9) (s10,s11,s12) (s13,s14,s15) (x1,x2) (l1,l2,l3) ((fZ has vals 7).map r5) x (BN.out.on hb).br q2 LA.out LE.out LO.out PE.out PA.out PP.out) fun e w1 h=>by
    obtain⟨⟨a1,a2,a3,rfl,h2,_⟩,h5⟩:=h;exact⟨_,rfl,hK _ _ ⟨a1,a2,a3,rfl,⟨h2,by rw [zA]; exact (BN.out.on hb).no.on h5⟩⟩ h5⟩
  ·cases ho;obtain⟨hb,hbx⟩:=hpre rfl;have E58:=seen.at_ ⟨7,.data⟩ (by simp) rfl (by decide) (ay (by decide));exact aA rfl rfl (aJ a.eval _ (X 58) rfl x) (hK _ x E58 (U _ _))
  ·cases ho;obtain⟨hb,hbx⟩:=hpre rfl;have E50:=seen.at_ ⟨8,.data⟩ (by simp) rfl (by decide) (ay (by decide));obtain⟨a1,a2,a3,h1,h2⟩:=E50;exact aA rfl rfl (jw a.eval _ (X 50) 0 rfl (c:=#[lN b.me (s1,s2,s3) (s4,s5,s6) (s7,s8,s9) a1 a2,dO a3]) h1 rfl x) (hK _ x ⟨a1,a2,rfl,h2⟩ (U _ _))
  ·cases ho;have E50:=seen.at_ ⟨8,.data⟩ (by simp) rfl (by decide) (ay (by decide));obtain⟨a1,a2,a3,h1,h2⟩:=E50;exact aA rfl rfl (jw a.eval _ (X 50) 1 rfl (c:=#[lN b.me (s1,s2,s3) (s4,s5,s6) (s7,s8,s9) a1 a2,dO a3]) h1 rfl x) (hK _ x trivial (U _ _))
 ·intro o ho a x v hb hbx hC F9 hbase K hK;clear HQ;cases ho;have eB:a.eval (X 9)=L (ak ⟨bb,0,aj⟩):=hbase 9 _ rfl Xm;obtain⟨⟨m10,m11,m12⟩,⟨m13,m14,m15⟩,hv1,hv2⟩:=F9;subst hv1;have mq:=au x bb (Z ah b.me) (J s1 s2 s3) (J s4 s5 s6) (J s7 s8 s9) (J m10 m11 m12) (J m13 m14 m15);refine aP 28 (X 9) (X 59) rfl rfl rfl rfl eB hC (w':=iF x bb (Z ah b.me) (J s1 s2 s3) (J s4 s5 s6) (J s7 s8 s9) (J m10 m11 m12) (J m13 m14 m15)) (nJ hbx _ _ _ _ _ _ _ _ _ _ _ _ _ _ _ _) (hK _ mq (fun B w hB h=>dN h hB _ _ _ _ _ _) (dZ hbx _ _ _ _ _ _) ?_);exact fun j u hj hjS hl h=>by
   rcases (by omega:j=0\/j=1\/j=2\/j=3\/j=4\/j=5\/j=6\/j=7\/j=8\/j=9\/j=10) with rfl|rfl|rfl|rfl|rfl|rfl|rfl|rfl|rfl|rfl|rfl
   ·have h2:u=lN b.me (s1,s2,s3) (s4,s5,s6) (s7,s8,s9) (s10,s11,s12) (s13,s14,s15):=h; exact h2
   ·have h2:u=aD #[Z ah x1,Z ah x2]:=h; exact h2
   ·have h2:u=J po pn pc:=h; exact h2
   ·have h2:u=Z ah (kk:Int):=h; exact h2
   ·have h2:u=L (ak pp):=h; exact h2
   ·have h2:u=aD #[J h1 h2 h3,J g1 g2 g3]:=h; exact h2
   ·exact absurd hl (by decide)
   ·obtain⟨a1,a2,a3,h1,h2⟩:=h; exact⟨a1,a2,a3,h1,h2.keep (s1:=(s1,s2,s3)) (s2:=(s4,s5,s6)) (s3:=(s7,s8,s9)) (s4:=(s10,s11,s12)) (s5:=(s13,s14,s15)) (me:=b.me) hbx mq⟩
   ·obtain⟨a1,a2,a3,h1,h2⟩:=h; exact⟨a1,a2,a3,h1,h2.keep (s1:=(s1,s2,s3)) (s2:=(s4,s5,s6)) (s3:=(s7,s8,s9)) (s4:=(s10,s11,s12)) (s5:=(s13,s14,s15)) (me:=b.me) hbx mq⟩
   ·obtain⟨a1,a2,h1,h2⟩:=h; exact⟨a1,a2,h1,h2.keep (s1:=(s1,s2,s3)) (s2:=(s4,s5,s6)) (s3:=(s7,s8,s9)) (s4:=(s10,s11,s12)) (s5:=(s13,s14,s15)) (me:=b.me) hbx mq⟩
   ·trivial
 ·intro a x v df sz kp gC hbx F9 WH ⟨vs,hv⟩;obtain⟨⟨m10,m11,m12⟩,⟨m13,m14,m15⟩,hv1,hv2⟩:=F9;subst hv1;have pQ:∀ j,(j<50\/61<=j)->a.tmps[j]?=(J po pn pc::u1::u2::u3::u4::u5::u6::u7::u8::L (ak ⟨bb,0,aj⟩)::u10::u11::u12::Z ah (kk:Int)::L (ak ⟨bX,0,aj⟩)::u15::u16::u17::u18::u19::u20::u21::u22::u23::u24::u25::u26::u27::u28::u29::u30::u31::u32::u33::u34::u35::u36::u37::u38::u39::u40::u41::u42::u43::u44::u45::u46::u47::u48::u49::u50::u51::u52::u53::u54::u55::u56::u57::u58::u59::u60::u61::u62::u63::u64::u65::u66::u67::u68::u69::u70::u71::u72::u73::u74::u75::u76::u77::u78::u79::u80::u81::u82::u83::u84::u85::u86::u87::u88::u89::u90::u91::u92::u93::u94::u95::u96::u97::u98::u99::u100::u101::u102::u103::u104::u105::u106::u107::u108::u109::u110::u111::u112::u113::u114::u115::u116::u117::u118::u119::u120::u121::u122::u123::u124::u125::u126::u127::u128::u129::u130::u131::u132::u133::u134::u135::u136::u137::u138::u139::u140::u141::u142::u143::u144::u145::u146::u147::u148::u149::u150::u151::u152::u153::u154::u155::u156::u157::u158::u159::u160::u161::u162::u163::u164::u165::u166::u167::u168::u169::u170::u171::u172::u173::[])[j]?:=fun j hj=>(kp j (fun i hi h=>by have:=(by decide:∀ i,i<12->50<=[51,52,53,54,55,56,57,58,50,59,60,59].getD i 0/\[51,52,53,54,55,56,57,58,50,59,60,59].getD i 0<61) i hi; omega)).trans aB;obtain⟨mid,hmid,rfl⟩:=aO 50 11 df (by rw [sz]; rfl) (by simp) pQ
  match mid,hmid with
  | [v50,v51,v52,v53,v54,v55,v56,v57,v58,v59,v60],_ =>
   exact HQ.out x _ _ _ _ _ _ _ _ _ _ _ m10 m11 m12 m13 m14 m15 hbx hv2 WH
def WI (_B:Nat) (_bb _bX:Nat) (b:Br) (s1:Option Y) (s2 s3:Nat) (s4:Option Y) (s5 s6:Nat) (s7:Option Y) (s8 s9:Nat) (s10:Option Y) (s11 s12:Nat) (s13:Option Y) (s14 s15:Nat) (x1 x2:Int) (po:Option Y) (pn pc kk:Nat) (pp:Y) (h1:Option Y) (h2 h3:Nat) (g1:Option Y) (g2 g3:Nat) (has vals:List Int) (i:Nat) (v:aG) (x:aF):Prop :=
 match i with
 | 0=>v=lN b.me (s1,s2,s3) (s4,s5,s6) (s7,s8,s9) (s10,s11,s12) (s13,s14,s15)
 | 1=>v=aD #[Z ah x1,Z ah x2]
 | 2=>v=J po pn pc
 | 3=>v=Z ah (kk:Int)
 | 4=>v=L (ak pp)
 | 5=>v=aD #[J h1 h2 h3,J g1 g2 g3]
 | 6=>∃ sl:Sl,v=dO sl/\eY x v ((fZ has vals 7).map r5)
 | 7=>∃ ev ov lo:Sl,v=.tuple #[lN b.me (s1,s2,s3) (s4,s5,s6) (s7,s8,s9) ev ov,dO lo]/\mQ x (iE b (x1,x2) ((fZ has vals 7).map r5)).1 (s1,s2,s3) (s4,s5,s6) (s7,s8,s9) ev ov
 | 8=>∃ ev ov lo:Sl,v=.tuple #[lN b.me (s1,s2,s3) (s4,s5,s6) (s7,s8,s9) ev ov,dO lo]/\mQ x (iE b (x1,x2) ((fZ has vals 7).map r5)).1 (s1,s2,s3) (s4,s5,s6) (s7,s8,s9) ev ov
 | 9=>∃ ev ov:Sl,v=lN b.me (s1,s2,s3) (s4,s5,s6) (s7,s8,s9) ev ov/\mQ x (iE b (x1,x2) ((fZ has vals 7).map r5)).1 (s1,s2,s3) (s4,s5,s6) (s7,s8,s9) ev ov
 | 10=>True
 | 11=>True
 | _=>True
noncomputable def P7:Code:=((Tryz.f6.body.bind (eT 13)).getD .skip)
theorem ZY (Q:Exit->Act->aF->Prop) (W:aF) (bb bX:Nat) (b:Br) (s1:Option Y) (s2 s3:Nat) (s4:Option Y) (s5 s6:Nat) (s7:Option Y) (s8 s9:Nat) (s10:Option Y) (s11 s12:Nat) (s13:Option Y) (s14 s15:Nat) (x1 x2:Int) (po:Option Y) (pn pc kk:Nat) (pp:Y) (h1:Option Y) (h2 h3:Nat) (g1:Option Y) (g2 g3:Nat) (has vals:List Int) (u1 u2 u3 u4 u5 u6 u7 u8 u9 u11 u12 u15 u16 u17 u18 u19 u20 u21 u22 u23 u24 u25 u26 u27 u28 u29 u30 u31 u32 u33 u34 u35 u36 u37 u38 u39 u40 u41 u42 u43 u44 u45 u46 u47 u48 u49 u50 u51 u52 u53 u54 u55 u56 u57 u58 u59 u60 u61 u62 u63 u64 u65 u66 u67 u68 u69 u70 u71 u72 u73 u74 u75 u76 u77 u78 u79 u80 u81 u82 u83 u84 u85 u86 u87 u88 u89 u90 u91 u92 u93 u94 u95 u96 u97 u98 u99 u100 u101 u102 u103 u104 u105 u106 u107 u108 u109 u110 u111 u112 u113 u114 u115 u116 u117 u118 u119 u120 u121 u122 u123 u124 u125 u126 u127 u128 u129 u130 u131 u132 u133 u134 u135 u136 u137 u138 u139 u140 u141 u142 u143 u144 u145 u146 u147 u148 u149 u150 u151 u152 u153 u154 u155 u156 u157 u158 u159 u160 u161 u162 u163 u164 u165 u166 u167 u168 u169 u170 u171 u172 u173:aG)
  (jC:dI W bb #[Z ah b.me,J s1 s2 s3,J s4 s5 s6,J s7 s8 s9,J s10 s11 s12,J s13 s14 s15] 28) (bn:mQ W b (s1,s2,s3) (s4,s5,s6) (s7,s8,s9) (s10,s11,s12) (s13,s14,s15)) (xx:dI W bX #[Z ah x1,Z ah x2] 31) (ix:∀ w,(Instr.indexAt 61 (J po pn pc) (Z ah (kk:Int))).run aC w=.ok (L (ak pp)) w) (pb:pp.block<W.heap.size) (Ul:∀ (j:Nat) u,#[(J h1 h2 h3:aG),J g1 g2 g3][j]?=ak u->W.cell? (pp.add j)=ak u) (ih:In.gy W (J h1 h2 h3) has) (iv:In.gy W (J g1 g2 g3) vals) (lh:has.length<=maxLen) (lv:vals.length<=maxLen) (la:b.dV.length<=900) (le:b.ent.length+b.dV.length<=900) (lo:b.own.length<=899) (pe:∀ e∈b.ent,dW e.p) (pa:∀ a∈b.dV,dW a.p) (pr:dW ((fZ has vals 7).map r5))
  (hQ:∀ (x:aF) (v61 v62 v63 v64 v65 v66 v67 v68 v69 v70 v71:aG) (m10:Option Y) (m11 m12:Nat) (m13:Option Y) (m14 m15:Nat),dI x bb #[Z ah b.me,J s1 s2 s3,J s4 s5 s6,J s7 s8 s9,J m10 m11 m12,J m13 m14 m15] 28->mQ x (iE b (x1,x2) ((fZ has vals 7).map r5)).1 (s1,s2,s3) (s4,s5,s6) (s7,s8,s9) (m10,m11,m12) (m13,m14,m15)->Rg.Vm bb W x->Q .normal ⟨(J po pn pc::u1::u2::u3::u4::u5::u6::u7::u8::u9::L (ak ⟨bb,0,aj⟩)::u11::u12::Z ah (kk:Int)::L (ak ⟨bX,0,aj⟩)::u15::u16::u17::u18::u19::u20::u21::u22::u23::u24::u25::u26::u27::u28::u29::u30::u31::u32::u33::u34::u35::u36::u37::u38::u39::u40::u41::u42::u43::u44::u45::u46::u47::u48::u49::u50::u51::u52::u53::u54::u55::u56::u57::u58::u59::u60::v61::v62::v63::v64::v65::v66::v67::v68::v69::v70::v71::u72::u73::u74::u75::u76::u77::u78::u79::u80::u81::u82::u83::u84::u85::u86::u87::u88::u89::u90::u91::u92::u93::u94::u95::u96::u97::u98::u99::u100::u101::u102::u103::u104::u105::u106::u107::u108::u109::u110::u111::u112::u113::u114::u115::u116::u117::u118::u119::u120::u121::u122::u123::u124::u125::u126::u127::u128::u129::u130::u131::u132::u133::u134::u135::u136::u137::u138::u139::u140::u141::u142::u143::u144::u145::u146::u147::u148::u149::u150::u151::u152::u153::u154::u155::u156::u157::u158::u159::u160::u161::u162::u163::u164::u165::u166::u167::u168::u169::u170::u171::u172::u173::[]).toArray,[]⟩ x) :
  Code.wp aC P7 Q ⟨(J po pn pc::u1::u2::u3::u4::u5::u6::u7::u8::u9::L (ak ⟨bb,0,aj⟩)::u11::u12::Z ah (kk:Int)::L (ak ⟨bX,0,aj⟩)::u15::u16::u17::u18::u19::u20::u21::u22::u23::u24::u25::u26::u27::u28::u29::u30::u31::u32::u33::u34::u35::u36::u37::u38::u39::u40::u41::u42::u43::u44::u45::u46::u47::u48::u49::u50::u51::u52::u53::u54::u55::u56::u57::u58::u59::u60::u61::u62::u63::u64::u65::u66::u67::u68::u69::u70::u71::u72::u73::u74::u75::u76::u77::u78::u79::u80::u81::u82::u83::u84::u85::u86::u87::u88::u89::u90::u91::u92::u93::u94::u95::u96::u97::u98::u99::u100::u101::u102::u103::u104::u105::u106::u107::u108::u109::u110::u111::u112::u113::u114::u115::u116::u117::u118::u119::u120::u121::u122::u123::u124::u125::u126::u127::u128::u129::u130::u131::u132::u133::u134::u135::u136::u137::u138::u139::u140::u141::u142::u143::u144::u145::u146::u147::u148::u149::u150::u151::u152::u153::u154::u155::u156::u157::u158::u159::u160::u161::u162::u163::u164::u165::u166::u167::u168::u169::u170::u171::u172::u173::[]).toArray,[]⟩ W:=by
 have HQ:=O hQ;have HB:=O jC;have BN:=O bn;have HXX:=O xx;have IX:=O ix;have PB:=O pb;have PC:=O Ul;have IH:=O ih;have IV:=O iv;have LH:=O lh;have LV:=O lv;have LA:=O la;have LE:=O le;have LO:=O lo;have PE:=O pe;have PA:=O pa;have PP:=O pr;clear hQ jC bn xx ix pb Ul ih iv lh lv la le lo pe pa pr;unfold P7
 conv=>arg 2; whnf
 have nb0:∀ i,i<12->[62,63,64,65,66,67,68,69,61,70,71,70].getD i 0≠0:=by decide
 have Z7:∀ i,i<12->[62,63,64,65,66,67,68,69,61,70,71,70].getD i 0≠10:=by decide
 have WE:∀ i,i<12->[62,63,64,65,66,67,68,69,61,70,71,70].getD i 0≠13:=by decide
 have WG:∀ i,i<12->[62,63,64,65,66,67,68,69,61,70,71,70].getD i 0≠14:=by decide
 refine Rg.yS 12 11 9 (fun i=>[62,63,64,65,66,67,68,69,61,70,71,70].getD i 0) (fun i=>if i=6 then 7 else 12) (WI W.heap.size bb bX b s1 s2 s3 s4 s5 s6 s7 s8 s9 s10 s11 s12 s13 s14 s15 x1 x2 po pn pc kk pp h1 h2 h3 g1 g2 g3 has vals) (fun i=>i == 10) 28 bb #[Z ah b.me,J s1 s2 s3,J s4 s5 s6,J s7 s8 s9,J s10 s11 s12,J s13 s14 s15] (fun v=>match v with | aD c=>c | _=>#[]) (by kernel_rfl) (by kernel_rfl) rfl (by decide) (by decide) (by decide) (by decide) HB.out (fun i j hi hj h1 h2 h=>(by decide:∀ i,i<12->∀ j,j<12->i≠11->j≠11->[62,63,64,65,66,67,68,69,61,70,71,70].getD i 0=[62,63,64,65,66,67,68,69,61,70,71,70].getD j 0->i=j) i hi j hj h1 h2 h) (fun i hi _=>(by decide:∀ i,i<12->[62,63,64,65,66,67,68,69,61,70,71,70].getD i 0<174) i hi) ?_ ?_ (by decide) ?_ ?_ (fun j h1 h2=>(by decide:∀ j,j<12->j≠11->12<=(fun i=>if i=6 then 7 else 12) j\/((fun i=>if i=6 then 7 else 12) j<12/\(fun i=>if i=6 then 7 else 12) j≠11/\(fun i=>i == 10) ((fun i=>if i=6 then 7 else 12) j)=false)) j h1 h2) ?_
 ·intro i v x x' hi h hb;rcases (by omega:i=0\/i=1\/i=2\/i=3\/i=4\/i=5\/i=6\/i=7\/i=8\/i=9\/i=10\/i=11) with rfl|rfl|rfl|rfl|rfl|rfl|rfl|rfl|rfl|rfl|rfl|rfl
  ·exact h
  ·exact h
  ·exact h
  ·exact h
  ·exact h
  ·exact h
  ·obtain⟨s,h1,h2⟩:=h; exact⟨s,h1,h2.on hb⟩
  ·obtain⟨a1,a2,a3,h1,h2⟩:=h; exact⟨a1,a2,a3,h1,h2.on hb⟩
  ·obtain⟨a1,a2,a3,h1,h2⟩:=h; exact⟨a1,a2,a3,h1,h2.on hb⟩
  ·obtain⟨a1,a2,h1,h2⟩:=h; exact⟨a1,a2,h1,h2.on hb⟩
  ·exact h
  ·exact h
 ·intro o ho i hi uP hfi;cases ho;have h10:i≠10:=fun e=>by rw [e] at hfi; simp at hfi
  rcases (by omega:i=0\/i=1\/i=2\/i=3\/i=4\/i=5\/i=6\/i=7\/i=8\/i=9) with rfl|rfl|rfl|rfl|rfl|rfl|rfl|rfl|rfl|rfl
  ·exact⟨⟨0,.phase⟩,by simp,rfl,rfl⟩
  ·exact⟨⟨1,.phase⟩,by simp,rfl,rfl⟩
  ·exact⟨⟨2,.phase⟩,by simp,rfl,rfl⟩
  ·exact⟨⟨3,.phase⟩,by simp,rfl,rfl⟩
  ·exact⟨⟨4,.phase⟩,by simp,rfl,rfl⟩
  ·exact⟨⟨5,.phase⟩,by simp,rfl,rfl⟩
  ·exact⟨⟨6,.phase⟩,by simp,rfl,rfl⟩
  ·exact⟨⟨7,.chain⟩,by simp,rfl,rfl⟩
  ·exact⟨⟨8,.phase⟩,by simp,rfl,rfl⟩
  ·exact⟨⟨9,.data⟩,by simp,rfl,rfl⟩
 ·intro i o hi uP ho a x hpre seen K hK;clear HQ;rcases (by omega:i=0\/i=1\/i=2\/i=3\/i=4\/i=5\/i=6\/i=7\/i=8\/i=9\/i=10) with rfl|rfl|rfl|rfl|rfl|rfl|rfl|rfl|rfl|rfl|rfl
  ·cases ho;obtain⟨hb,hbx⟩:=hpre rfl;have e10:a.eval (X 10)=L (ak ⟨bb,0,aj⟩):=seen.kp 10 _ Z7 rfl;exact aA rfl rfl (aI a.eval _ 28 (X 10) rfl (by rw [e10]; exact vG (HB.out.on hb))) (hK _ x rfl (U _ _))
  ·cases ho;obtain⟨hb,hbx⟩:=hpre rfl;have e14:a.eval (X 14)=L (ak ⟨bX,0,aj⟩):=seen.kp 14 _ WG rfl;obtain⟨y0,y1⟩:=(HXX.out.on hb).cs2;exact aA rfl rfl (aI a.eval _ 31 (X 14) rfl (by rw [e14]; simp [go_sem,y0,y1])) (hK _ x rfl (U _ _))
  ·cases ho;obtain⟨hb,hbx⟩:=hpre rfl;have e0:a.eval (X 0)=J po pn pc:=seen.kp 0 _ nb0 rfl;exact aA rfl rfl (aJ a.eval _ (X 0) rfl x) (hK _ x e0 (U _ _))
  ·cases ho;obtain⟨hb,hbx⟩:=hpre rfl;have e13:a.eval (X 13)=Z ah (kk:Int):=seen.kp 13 _ WE rfl;exact aA rfl rfl (aJ a.eval _ (X 13) rfl x) (hK _ x e13 (U _ _))
  ·cases ho;obtain⟨hb,hbx⟩:=hpre rfl;have e64:a.eval (X 64)=J po pn pc:=seen.at_ ⟨2,.data⟩ (by simp) rfl (by decide) (ay (by decide));have e65:a.eval (X 65)=Z ah (kk:Int):=seen.at_ ⟨3,.data⟩ (by simp) rfl (by decide) (ay (by decide));exact aA rfl rfl (aQ a.eval _ 61 (X 64) (X 65) rfl (by rw [e64,e65]; exact IX.out x)) (hK _ x rfl (U _ _))
  ·cases ho;obtain⟨hb,hbx⟩:=hpre rfl;have e66:a.eval (X 66)=L (ak pp):=seen.at_ ⟨4,.data⟩ (by simp) rfl (by decide) (ay (by decide));have y0:=hb.cell (p:=pp.add 0) (by rw [jD]; exact PB.out);have y1:=hb.cell (p:=pp.add 1) (by rw [jD]; exact PB.out);rw [PC.out 0 _ rfl] at y0;rw [PC.out 1 _ rfl] at y1;exact aA rfl rfl (aI a.eval _ 49 (X 66) rfl (by rw [e66]; exact P5 y0 y1)) (hK _ x rfl (U _ _))
  ·cases ho;obtain⟨hb,hbx⟩:=hpre rfl;have e67:a.eval (X 67)=aD #[J h1 h2 h3,J g1 g2 g3]:=seen.at_ ⟨5,.data⟩ (by simp) rfl (by decide) (ay (by decide));exact aK rfl rfl (Rw.gu a.eval _ (X 67) 49 16 rfl e67 rfl _ (fI aH rfl rfl _ _)) (mM (J h1 h2 h3) (J g1 g2 g3) has vals x (IH.out.on hb) (IV.out.on hb) LH.out LV.out) fun e w1 h=>by
    obtain⟨v,rfl,q1,q2⟩:=h;have q3:=Row.dG q1;obtain⟨a1,a2,hvv⟩:=q3.len;exact⟨_,rfl,hK _ _ ⟨(a1,_,a2),hvv,q3⟩ q2⟩
  ·cases ho;obtain⟨hb,hbx⟩:=hpre rfl;have e62:a.eval (X 62)=lN b.me (s1,s2,s3) (s4,s5,s6) (s7,s8,s9) (s10,s11,s12) (s13,s14,s15):=seen.at_ ⟨0,.data⟩ (by simp) rfl (by decide) (ay (by decide));have e63:a.eval (X 63)=aD #[Z ah x1,Z ah x2]:=seen.at_ ⟨1,.data⟩ (by simp) rfl (by decide) (ay (by decide));have E68:=seen.at_ ⟨6,.data⟩ (by simp) rfl (by decide) (aM rfl);obtain⟨⟨l1,l2,l3⟩,q0,q1⟩:=E68;have q0:a.eval (X 68)=J l1 l2 l3:=q0;have q2:eY x (J l1 l2 l3) ((fZ has vals 7).map r5):=by rw [<- q0]; exact q1
   exact aK rfl rfl (oZ a.eval _ (X 62) (X 63) (X 68) 28 31 32 23 rfl e62 e63 q0 rfl _ (fI aL rfl rfl _ _)) (y8 b (s1,s2,s3) (s4,s5,s6) (s7,s8,s9) (s10,s11,s12) (s13,s14,s15) (x1,x2) (l1,l2,l3) ((fZ has vals 7).map r5) x (BN.out.on hb).br q2 LA.out LE.out LO.out PE.out PA.out PP.out) fun e w1 h=>by
    obtain⟨⟨a1,a2,a3,rfl,h2,_⟩,h5⟩:=h;exact⟨_,rfl,hK _ _ ⟨a1,a2,a3,rfl,⟨h2,by rw [zA]; exact (BN.out.on hb).no.on h5⟩⟩ h5⟩
  ·cases ho;obtain⟨hb,hbx⟩:=hpre rfl;have E69:=seen.at_ ⟨7,.data⟩ (by simp) rfl (by decide) (ay (by decide));exact aA rfl rfl (aJ a.eval _ (X 69) rfl x) (hK _ x E69 (U _ _))
  ·cases ho;obtain⟨hb,hbx⟩:=hpre rfl;have E61:=seen.at_ ⟨8,.data⟩ (by simp) rfl (by decide) (ay (by decide));obtain⟨a1,a2,a3,h1,h2⟩:=E61;exact aA rfl rfl (jw a.eval _ (X 61) 0 rfl (c:=#[lN b.me (s1,s2,s3) (s4,s5,s6) (s7,s8,s9) a1 a2,dO a3]) h1 rfl x) (hK _ x ⟨a1,a2,rfl,h2⟩ (U _ _))
  ·cases ho;have E61:=seen.at_ ⟨8,.data⟩ (by simp) rfl (by decide) (ay (by decide));obtain⟨a1,a2,a3,h1,h2⟩:=E61;exact aA rfl rfl (jw a.eval _ (X 61) 1 rfl (c:=#[lN b.me (s1,s2,s3) (s4,s5,s6) (s7,s8,s9) a1 a2,dO a3]) h1 rfl x) (hK _ x trivial (U _ _))
 ·intro o ho a x v hb hbx hC F9 hbase K hK;clear HQ;cases ho;have eB:a.eval (X 10)=L (ak ⟨bb,0,aj⟩):=hbase 10 _ rfl Z7;obtain⟨⟨m10,m11,m12⟩,⟨m13,m14,m15⟩,hv1,hv2⟩:=F9;subst hv1;have mq:=au x bb (Z ah b.me) (J s1 s2 s3) (J s4 s5 s6) (J s7 s8 s9) (J m10 m11 m12) (J m13 m14 m15);refine aP 28 (X 10) (X 70) rfl rfl rfl rfl eB hC (w':=iF x bb (Z ah b.me) (J s1 s2 s3) (J s4 s5 s6) (J s7 s8 s9) (J m10 m11 m12) (J m13 m14 m15)) (nJ hbx _ _ _ _ _ _ _ _ _ _ _ _ _ _ _ _) (hK _ mq (fun B w hB h=>dN h hB _ _ _ _ _ _) (dZ hbx _ _ _ _ _ _) ?_);exact fun j u hj hjS hl h=>by
   rcases (by omega:j=0\/j=1\/j=2\/j=3\/j=4\/j=5\/j=6\/j=7\/j=8\/j=9\/j=10) with rfl|rfl|rfl|rfl|rfl|rfl|rfl|rfl|rfl|rfl|rfl
   ·have h2:u=lN b.me (s1,s2,s3) (s4,s5,s6) (s7,s8,s9) (s10,s11,s12) (s13,s14,s15):=h; exact h2
   ·have h2:u=aD #[Z ah x1,Z ah x2]:=h; exact h2
   ·have h2:u=J po pn pc:=h; exact h2
   ·have h2:u=Z ah (kk:Int):=h; exact h2
   ·have h2:u=L (ak pp):=h; exact h2
   ·have h2:u=aD #[J h1 h2 h3,J g1 g2 g3]:=h; exact h2
   ·exact absurd hl (by decide)
   ·obtain⟨a1,a2,a3,h1,h2⟩:=h; exact⟨a1,a2,a3,h1,h2.keep (s1:=(s1,s2,s3)) (s2:=(s4,s5,s6)) (s3:=(s7,s8,s9)) (s4:=(s10,s11,s12)) (s5:=(s13,s14,s15)) (me:=b.me) hbx mq⟩
   ·obtain⟨a1,a2,a3,h1,h2⟩:=h; exact⟨a1,a2,a3,h1,h2.keep (s1:=(s1,s2,s3)) (s2:=(s4,s5,s6)) (s3:=(s7,s8,s9)) (s4:=(s10,s11,s12)) (s5:=(s13,s14,s15)) (me:=b.me) hbx mq⟩
   ·obtain⟨a1,a2,h1,h2⟩:=h; exact⟨a1,a2,h1,h2.keep (s1:=(s1,s2,s3)) (s2:=(s4,s5,s6)) (s3:=(s7,s8,s9)) (s4:=(s10,s11,s12)) (s5:=(s13,s14,s15)) (me:=b.me) hbx mq⟩
   ·trivial
 ·intro a x v df sz kp gC hbx F9 WH ⟨vs,hv⟩;obtain⟨⟨m10,m11,m12⟩,⟨m13,m14,m15⟩,hv1,hv2⟩:=F9;subst hv1;have pQ:∀ j,(j<61\/72<=j)->a.tmps[j]?=(J po pn pc::u1::u2::u3::u4::u5::u6::u7::u8::u9::L (ak ⟨bb,0,aj⟩)::u11::u12::Z ah (kk:Int)::L (ak ⟨bX,0,aj⟩)::u15::u16::u17::u18::u19::u20::u21::u22::u23::u24::u25::u26::u27::u28::u29::u30::u31::u32::u33::u34::u35::u36::u37::u38::u39::u40::u41::u42::u43::u44::u45::u46::u47::u48::u49::u50::u51::u52::u53::u54::u55::u56::u57::u58::u59::u60::u61::u62::u63::u64::u65::u66::u67::u68::u69::u70::u71::u72::u73::u74::u75::u76::u77::u78::u79::u80::u81::u82::u83::u84::u85::u86::u87::u88::u89::u90::u91::u92::u93::u94::u95::u96::u97::u98::u99::u100::u101::u102::u103::u104::u105::u106::u107::u108::u109::u110::u111::u112::u113::u114::u115::u116::u117::u118::u119::u120::u121::u122::u123::u124::u125::u126::u127::u128::u129::u130::u131::u132::u133::u134::u135::u136::u137::u138::u139::u140::u141::u142::u143::u144::u145::u146::u147::u148::u149::u150::u151::u152::u153::u154::u155::u156::u157::u158::u159::u160::u161::u162::u163::u164::u165::u166::u167::u168::u169::u170::u171::u172::u173::[])[j]?:=fun j hj=>(kp j (fun i hi h=>by have:=(by decide:∀ i,i<12->61<=[62,63,64,65,66,67,68,69,61,70,71,70].getD i 0/\[62,63,64,65,66,67,68,69,61,70,71,70].getD i 0<72) i hi; omega)).trans aB;obtain⟨mid,hmid,rfl⟩:=aO 61 11 df (by rw [sz]; rfl) (by simp) pQ
  match mid,hmid with
  | [v61,v62,v63,v64,v65,v66,v67,v68,v69,v70,v71],_ =>
   exact HQ.out x _ _ _ _ _ _ _ _ _ _ _ m10 m11 m12 m13 m14 m15 hbx hv2 WH
def P8 (_B:Nat) (_bP:Nat) (po:Option Y) (pn pc kk:Nat) (pp:Y) (h1:Option Y) (h2 h3:Nat) (g1:Option Y) (g2 g3:Nat) (has vals:List Int) (i1:Option Y) (i2 i3:Nat) (j1:Option Y) (j2 j3:Nat) (hat lT:List Int) (i:Nat) (v:aG) (x:aF):Prop :=
 match i with
 | 0=>v=J po pn pc
 | 1=>v=Z ah (kk:Int)
 | 2=>v=L (ak pp)
 | 3=>v=aD #[J h1 h2 h3,J g1 g2 g3]
 | 4=>∃ sl:Sl,v=dO sl/\eY x v ((fZ has vals 7).map r5)
 | 5=>v=aD #[J i1 i2 i3,J j1 j2 j3]
 | 6=>∃ sl:Sl,v=dO sl/\eY x v ((fZ hat lT 7).map r5)
 | 7=>v=aN (fJ ((fZ has vals 7).map r5) ((fZ hat lT 7).map r5))
 | _=>True
noncomputable def Qa:Code:=((Tryz.f6.body.bind (eT 14)).getD .skip)
theorem Z8 (Q:Exit->Act->aF->Prop) (W:aF) (bP:Nat) (po:Option Y) (pn pc kk:Nat) (pp:Y) (h1:Option Y) (h2 h3:Nat) (g1:Option Y) (g2 g3:Nat) (has vals:List Int) (i1:Option Y) (i2 i3:Nat) (j1:Option Y) (j2 j3:Nat) (hat lT:List Int) (u1 u2 u3 u5 u6 u7 u8 u9 u10 u11 u12 u14 u15 u16 u17 u18 u19 u20 u21 u22 u23 u24 u25 u26 u27 u28 u29 u30 u31 u32 u33 u34 u35 u36 u37 u38 u39 u40 u41 u42 u43 u44 u45 u46 u47 u48 u49 u50 u51 u52 u53 u54 u55 u56 u57 u58 u59 u60 u61 u62 u63 u64 u65 u66 u67 u68 u69 u70 u71 u72 u73 u74 u75 u76 u77 u78 u79 u80 u81 u82 u83 u84 u85 u86 u87 u88 u89 u90 u91 u92 u93 u94 u95 u96 u97 u98 u99 u100 u101 u102 u103 u104 u105 u106 u107 u108 u109 u110 u111 u112 u113 u114 u115 u116 u117 u118 u119 u120 u121 u122 u123 u124 u125 u126 u127 u128 u129 u130 u131 u132 u133 u134 u135 u136 u137 u138 u139 u140 u141 u142 u143 u144 u145 u146 u147 u148 u149 u150 u151 u152 u153 u154 u155 u156 u157 u158 u159 u160 u161 u162 u163 u164 u165 u166 u167 u168 u169 u170 u171 u172 u173:aG)
  (xp:dI W bP #[J i1 i2 i3,J j1 j2 j3] 49) (ix:∀ w,(Instr.indexAt 61 (J po pn pc) (Z ah (kk:Int))).run aC w=.ok (L (ak pp)) w) (pb:pp.block<W.heap.size) (Ul:∀ (j:Nat) u,#[(J h1 h2 h3:aG),J g1 g2 g3][j]?=ak u->W.cell? (pp.add j)=ak u) (ih:In.gy W (J h1 h2 h3) has) (iv:In.gy W (J g1 g2 g3) vals) (lh:has.length<=maxLen) (lv:vals.length<=maxLen) (jh:In.gy W (J i1 i2 i3) hat) (jv:In.gy W (J j1 j2 j3) lT) (mh:hat.length<=maxLen) (mv:lT.length<=maxLen)
  (hQ:∀ (x:aF) (v72 v73 v74 v75 v76 v77 v78:aG),Below W.heap.size W x->Q .normal ⟨(J po pn pc::u1::u2::u3::L (ak ⟨bP,0,aj⟩)::u5::u6::u7::u8::u9::u10::u11::u12::Z ah (kk:Int)::u14::u15::u16::u17::u18::u19::u20::u21::u22::u23::u24::u25::u26::u27::u28::u29::u30::u31::u32::u33::u34::u35::u36::u37::u38::u39::u40::u41::u42::u43::u44::u45::u46::u47::u48::u49::u50::u51::u52::u53::u54::u55::u56::u57::u58::u59::u60::u61::u62::u63::u64::u65::u66::u67::u68::u69::u70::u71::v72::v73::v74::v75::v76::v77::v78::aN (fJ ((fZ has vals 7).map r5) ((fZ hat lT 7).map r5))::u80::u81::u82::u83::u84::u85::u86::u87::u88::u89::u90::u91::u92::u93::u94::u95::u96::u97::u98::u99::u100::u101::u102::u103::u104::u105::u106::u107::u108::u109::u110::u111::u112::u113::u114::u115::u116::u117::u118::u119::u120::u121::u122::u123::u124::u125::u126::u127::u128::u129::u130::u131::u132::u133::u134::u135::u136::u137::u138::u139::u140::u141::u142::u143::u144::u145::u146::u147::u148::u149::u150::u151::u152::u153::u154::u155::u156::u157::u158::u159::u160::u161::u162::u163::u164::u165::u166::u167::u168::u169::u170::u171::u172::u173::[]).toArray,[]⟩ x) :
  Code.wp aC Qa Q ⟨(J po pn pc::u1::u2::u3::L (ak ⟨bP,0,aj⟩)::u5::u6::u7::u8::u9::u10::u11::u12::Z ah (kk:Int)::u14::u15::u16::u17::u18::u19::u20::u21::u22::u23::u24::u25::u26::u27::u28::u29::u30::u31::u32::u33::u34::u35::u36::u37::u38::u39::u40::u41::u42::u43::u44::u45::u46::u47::u48::u49::u50::u51::u52::u53::u54::u55::u56::u57::u58::u59::u60::u61::u62::u63::u64::u65::u66::u67::u68::u69::u70::u71::u72::u73::u74::u75::u76::u77::u78::u79::u80::u81::u82::u83::u84::u85::u86::u87::u88::u89::u90::u91::u92::u93::u94::u95::u96::u97::u98::u99::u100::u101::u102::u103::u104::u105::u106::u107::u108::u109::u110::u111::u112::u113::u114::u115::u116::u117::u118::u119::u120::u121::u122::u123::u124::u125::u126::u127::u128::u129::u130::u131::u132::u133::u134::u135::u136::u137::u138::u139::u140::u141::u142::u143::u144::u145::u146::u147::u148::u149::u150::u151::u152::u153::u154::u155::u156::u157::u158::u159::u160::u161::u162::u163::u164::u165::u166::u167::u168::u169::u170::u171::u172::u173::[]).toArray,[]⟩ W:=by
 have HQ:=O hQ;have HP:=O xp;have IX:=O ix;have PB:=O pb;have PC:=O Ul;have IH:=O ih;have IV:=O iv;have LH:=O lh;have LV:=O lv;have JH:=O jh;have JV:=O jv;have MH:=O mh;have MV:=O mv;clear hQ xp ix pb Ul ih iv lh lv jh jv mh mv;unfold Qa
 conv=>arg 2; whnf
 have nd:∀ j,(j<72\/80<=j)->∀ i,i<8->(fun i=>72+i) i≠j:=by
  intro j hj i hi h;simp only at h;omega
 refine Rg.DZ 8 (fun i=>72+i) (P8 W.heap.size bP po pn pc kk pp h1 h2 h3 g1 g2 g3 has vals i1 i2 i3 j1 j2 j3 hat lT) (by kernel_rfl) (by kernel_rfl) rfl ?_ (fun i j _ _ h=>by have h2:72+i=72+j:=h; omega) (fun i hi=>by show 72+i<174; omega) ?_ ?_ ?_
 ·intro i o ho;have hi:i<8:=(List.getElem?_eq_some_iff.1 ho).1;rcases (by omega:i=0\/i=1\/i=2\/i=3\/i=4\/i=5\/i=6\/i=7) with rfl|rfl|rfl|rfl|rfl|rfl|rfl|rfl
  all_goals (obtain rfl:=V ho; rfl)
 ·intro i v x x' h hb;by_cases hi:i<8
  ·rcases (by omega:i=0\/i=1\/i=2\/i=3\/i=4\/i=5\/i=6\/i=7) with rfl|rfl|rfl|rfl|rfl|rfl|rfl|rfl
   ·exact h
   ·exact h
   ·exact h
   ·exact h
   ·obtain⟨s,h1,h2⟩:=h; exact⟨s,h1,h2.on hb⟩
   ·exact h
   ·obtain⟨s,h1,h2⟩:=h; exact⟨s,h1,h2.on hb⟩
   ·exact h
  ·unfold P8
   split <;> first | omega | trivial
 ·intro i o hi ho a x hb seen K hK;clear HQ;rcases (by omega:i=0\/i=1\/i=2\/i=3\/i=4\/i=5\/i=6\/i=7) with rfl|rfl|rfl|rfl|rfl|rfl|rfl|rfl
  ·cases ho;have e0:a.eval (X 0)=J po pn pc:=seen.kp 0 _ (nd 0 (by omega)) rfl;exact aA rfl rfl (aJ a.eval _ (X 0) rfl x) (hK _ x e0 (U _ _))
  ·cases ho;have e13:a.eval (X 13)=Z ah (kk:Int):=seen.kp 13 _ (nd 13 (by omega)) rfl;exact aA rfl rfl (aJ a.eval _ (X 13) rfl x) (hK _ x e13 (U _ _))
  ·cases ho;have e72:a.eval (X 72)=J po pn pc:=seen.at_ ⟨0,.data⟩ (by simp) rfl;have e73:a.eval (X 73)=Z ah (kk:Int):=seen.at_ ⟨1,.data⟩ (by simp) rfl;exact aA rfl rfl (aQ a.eval _ 61 (X 72) (X 73) rfl (by rw [e72,e73]; exact IX.out x)) (hK _ x rfl (U _ _))
  ·cases ho;have e74:a.eval (X 74)=L (ak pp):=seen.at_ ⟨2,.data⟩ (by simp) rfl;have y0:=hb.cell (p:=pp.add 0) (by rw [jD]; exact PB.out);have y1:=hb.cell (p:=pp.add 1) (by rw [jD]; exact PB.out);rw [PC.out 0 _ rfl] at y0;rw [PC.out 1 _ rfl] at y1;exact aA rfl rfl (aI a.eval _ 49 (X 74) rfl (by rw [e74]; exact P5 y0 y1)) (hK _ x rfl (U _ _))
  ·cases ho;have e75:a.eval (X 75)=aD #[J h1 h2 h3,J g1 g2 g3]:=seen.at_ ⟨3,.data⟩ (by simp) rfl;exact aK rfl rfl (Rw.gu a.eval _ (X 75) 49 16 rfl e75 rfl _ (fI aH rfl rfl _ _)) (mM (J h1 h2 h3) (J g1 g2 g3) has vals x (IH.out.on hb) (IV.out.on hb) LH.out LV.out) fun e w1 h=>by
    obtain⟨v,rfl,q1,q2⟩:=h;have q3:=Row.dG q1;obtain⟨a1,a2,hvv⟩:=q3.len;exact⟨_,rfl,hK _ _ ⟨(a1,_,a2),hvv,q3⟩ q2⟩
  ·cases ho;have e4:a.eval (X 4)=L (ak ⟨bP,0,aj⟩):=seen.kp 4 _ (nd 4 (by omega)) rfl;obtain⟨y0,y1⟩:=(HP.out.on hb).cs2;exact aA rfl rfl (aI a.eval _ 49 (X 4) rfl (by rw [e4]; simp [go_sem,y0,y1])) (hK _ x rfl (U _ _))
  ·cases ho;have e77:a.eval (X 77)=aD #[J i1 i2 i3,J j1 j2 j3]:=seen.at_ ⟨5,.data⟩ (by simp) rfl;exact aK rfl rfl (Rw.gu a.eval _ (X 77) 49 16 rfl e77 rfl _ (fI aH rfl rfl _ _)) (mM (J i1 i2 i3) (J j1 j2 j3) hat lT x (JH.out.on hb) (JV.out.on hb) MH.out MV.out) fun e w1 h=>by
    obtain⟨v,rfl,q1,q2⟩:=h;have q3:=Row.dG q1;obtain⟨a1,a2,hvv⟩:=q3.len;exact⟨_,rfl,hK _ _ ⟨(a1,_,a2),hvv,q3⟩ q2⟩
  ·cases ho;have E76:=seen.at_ ⟨4,.data⟩ (by simp) rfl;have E78:=seen.at_ ⟨6,.data⟩ (by simp) rfl;obtain⟨⟨l1,l2,l3⟩,q0,q1⟩:=E76;obtain⟨⟨n1,n2,n3⟩,r0,r1⟩:=E78;have q0:a.eval (X 76)=J l1 l2 l3:=q0;have r0:a.eval (X 78)=J n1 n2 n3:=r0;have q2:eY x (J l1 l2 l3) ((fZ has vals 7).map r5):=by rw [<- q0]; exact q1
   have r2:eY x (J n1 n2 n3) ((fZ hat lT 7).map r5):=by rw [<- r0]; exact r1
   exact aK rfl rfl (Rw.uY a.eval _ (X 76) (X 78) 32 32 24 rfl q0 r0 rfl _ (fI Tryz.func24 rfl rfl _ _)) (Hu _ _ _ _ x q2 r2 (rO has vals) (rO hat lT)) fun e w1 h=>by
    obtain⟨rfl,h5⟩:=h;exact⟨_,rfl,hK _ _ rfl h5⟩
 ·intro a x df sz kp hv hbel;have g79:a.tmps[79]?=ak (aN (fJ ((fZ has vals 7).map r5) ((fZ hat lT 7).map r5))):=by
   obtain⟨v,h1,h2⟩:=hv 7 (by decide);have h3:v=aN (fJ ((fZ has vals 7).map r5) ((fZ hat lT 7).map r5)):=h2;rw [<- h3];exact h1
  have pQ:∀ j,(j<72\/80<=j)->a.tmps[j]?=(J po pn pc::u1::u2::u3::L (ak ⟨bP,0,aj⟩)::u5::u6::u7::u8::u9::u10::u11::u12::Z ah (kk:Int)::u14::u15::u16::u17::u18::u19::u20::u21::u22::u23::u24::u25::u26::u27::u28::u29::u30::u31::u32::u33::u34::u35::u36::u37::u38::u39::u40::u41::u42::u43::u44::u45::u46::u47::u48::u49::u50::u51::u52::u53::u54::u55::u56::u57::u58::u59::u60::u61::u62::u63::u64::u65::u66::u67::u68::u69::u70::u71::u72::u73::u74::u75::u76::u77::u78::u79::u80::u81::u82::u83::u84::u85::u86::u87::u88::u89::u90::u91::u92::u93::u94::u95::u96::u97::u98::u99::u100::u101::u102::u103::u104::u105::u106::u107::u108::u109::u110::u111::u112::u113::u114::u115::u116::u117::u118::u119::u120::u121::u122::u123::u124::u125::u126::u127::u128::u129::u130::u131::u132::u133::u134::u135::u136::u137::u138::u139::u140::u141::u142::u143::u144::u145::u146::u147::u148::u149::u150::u151::u152::u153::u154::u155::u156::u157::u158::u159::u160::u161::u162::u163::u164::u165::u166::u167::u168::u169::u170::u171::u172::u173::[])[j]?:=fun j hj=>(kp j (nd j hj)).trans aB;obtain⟨mid,hmid,rfl⟩:=aO 72 8 df sz (by simp) pQ
  match mid,hmid with
  | [v72,v73,v74,v75,v76,v77,v78,v79],_ =>
   obtain rfl:v79=aN (fJ ((fZ has vals 7).map r5) ((fZ hat lT 7).map r5)):=V g79;exact HQ.out x _ _ _ _ _ _ _ hbel
end Go.Proofs.YtmklifheakemeaaGreat.Fl
