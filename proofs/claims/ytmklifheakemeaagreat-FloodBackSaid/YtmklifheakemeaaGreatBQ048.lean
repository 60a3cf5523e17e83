/-
  FloodBack's region t. Conditions as told.
-/
import Derived.Test.YtmklifheakemeaaGreatBQ047
set_option maxRecDepth 100000
set_option maxHeartbeats 64000000
open _root_.Go renaming Addr->Z,World->ay
open Go.IntKind renaming i64->aj
open Go.Lib renaming hid->X
open Go.Operand renaming tmp->Y
open Go.RowKit.Below renaming refl->V
open Go.Value renaming slice->L,pointer->U,int->ah,agg->au
open _root_.Option renaming none->O,some->ak
open Option.some renaming inj->J
namespace Go.Proofs.YtmklifheakemeaaGreat.Fl
open Go.RowKit Go.Sort Rw YtmklifheakemeaaGreat.Nm Pr Bk Av Rl Sb
def ah8 (_B:Nat) (_bB _bT _bP:Nat) (b:Br) (s1:Option Z) (s2 s3:Nat) (s4:Option Z) (s5 s6:Nat) (s7:Option Z) (s8 s9:Nat) (s10:Option Z) (s11 s12:Nat) (s13:Option Z) (s14 s15:Nat) (f:Int) (h1:Option Z) (h2 h3:Nat) (g1:Option Z) (g2 g3:Nat) (has vals:List Int) (i:Nat) (v:Value) (x:ay):Prop :=
 match i with
 | 0=>v=oK b.me (s1,s2,s3) (s4,s5,s6) (s7,s8,s9) (s10,s11,s12) (s13,s14,s15)
 | 1=>v=ah aj f
 | 2=>v=au #[ah aj 31,ah aj 99]
 | 3=>v=au #[L h1 h2 h3,L g1 g2 g3]
 | 4=>∃ sl:Sl,v=dX sl/\fH x v ((lG has vals 7).map r5)
 | 5=>∃ nv av sv ev ov s:Sl,v=.tuple #[oK (gy b f (31,99) ((lG has vals 7).map r5)).1.me nv av sv ev ov,dX s]/\tY x (gy b f (31,99) ((lG has vals 7).map r5)).1 nv av sv ev ov/\jE x s (gy b f (31,99) ((lG has vals 7).map r5)).2
 | 6=>∃ nv av sv ev ov s:Sl,v=.tuple #[oK (gy b f (31,99) ((lG has vals 7).map r5)).1.me nv av sv ev ov,dX s]/\tY x (gy b f (31,99) ((lG has vals 7).map r5)).1 nv av sv ev ov/\jE x s (gy b f (31,99) ((lG has vals 7).map r5)).2
 | 7=>∃ nv av sv ev ov:Sl,v=oK (gy b f (31,99) ((lG has vals 7).map r5)).1.me nv av sv ev ov/\tY x (gy b f (31,99) ((lG has vals 7).map r5)).1 nv av sv ev ov
 | 8=>∃ s:Sl,v=dX s/\jE x s (gy b f (31,99) ((lG has vals 7).map r5)).2
 | 9=>True
 | 10=>True
 | 11=>∃ s:Sl,v=dX s/\jE x s (gy b f (31,99) ((lG has vals 7).map r5)).2
 | _=>True
noncomputable def afU:Code:=((Tryz.f5.body.bind (eT 4)).getD .skip)
theorem fb4 (Q:Exit->Act->ay->Prop) (W:ay) (bB bT bP:Nat) (b:Br) (s1:Option Z) (s2 s3:Nat) (s4:Option Z) (s5 s6:Nat) (s7:Option Z) (s8 s9:Nat) (s10:Option Z) (s11 s12:Nat) (s13:Option Z) (s14 s15:Nat) (f:Int) (h1:Option Z) (h2 h3:Nat) (g1:Option Z) (g2 g3:Nat) (has vals:List Int) (u0 u1 u2 u3 u4 u6 u10 u11 u12 u13 u14 u15 u16 u17 u18 u19 u20 u21 u22 u23 u24 u25 u26 u27 u28 u29 u30 u31 u32 u33 u34 u35 u36 u37 u38 u39 u40 u41 u42 u43 u44 u45 u46 u47 u48 u49 u50 u51 u52 u53 u54 u55 u56 u57 u58 u59 u60 u61 u62 u63 u64 u65 u66 u67 u68 u69 u70 u71 u72 u73 u74 u75 u76 u77 u78 u79 u80 u81 u82 u83 u84 u85 u86 u87 u88 u89 u90 u91 u92 u93 u94 u95 u96 u97 u98 u99 u100 u101 u102 u103 u104 u105 u106 u107 u108 u109 u110 u111 u112 u113 u114 u115 u116 u117 u118 u119 u120 u121 u122 u123 u124 u125 u126 u127 u128 u129 u130 u131 u132 u133 u134 u135 u136 u137 u138 u139 u140 u141:Value)
  (hx:dJ W bB #[ah aj b.me,L s1 s2 s3,L s4 s5 s6,L s7 s8 s9,L s10 s11 s12,L s13 s14 s15] 28) (bn:tY W b (s1,s2,s3) (s4,s5,s6) (s7,s8,s9) (s10,s11,s12) (s13,s14,s15)) (ao:uU b f ((lG has vals 7).map r5)) (xt:dJ W bT #[ah aj 31,ah aj 99] 31) (xp:dJ W bP #[L h1 h2 h3,L g1 g2 g3] 49) (ih:In.kK W (L h1 h2 h3) has) (iv:In.kK W (L g1 g2 g3) vals) (lh:has.length<=maxLen) (lv:vals.length<=maxLen)
  (hQ:∀ (x:ay) (bb:Nat) (v25 v26 v27 v28 v29 v30 v31 v32 v33:Value) (m1:Option Z) (m2 m3:Nat) (m4:Option Z) (m5 m6:Nat) (m7:Option Z) (m8 m9:Nat) (m10:Option Z) (m11 m12:Nat) (m13:Option Z) (m14 m15:Nat) (o1:Option Z) (o2 o3:Nat),W.heap.size<=bb->dJ x bb #[ah aj (gy b f (31,99) ((lG has vals 7).map r5)).1.me,L m1 m2 m3,L m4 m5 m6,L m7 m8 m9,L m10 m11 m12,L m13 m14 m15] 28->tY x (gy b f (31,99) ((lG has vals 7).map r5)).1 (m1,m2,m3) (m4,m5,m6) (m7,m8,m9) (m10,m11,m12) (m13,m14,m15)->jE x (o1,o2,o3) (gy b f (31,99) ((lG has vals 7).map r5)).2->Below W.heap.size W x->Q .normal ⟨(u0::u1::u2::u3::u4::U (ak ⟨bP,0,O⟩)::u6::U (ak ⟨bB,0,O⟩)::ah aj f::U (ak ⟨bT,0,O⟩)::U (ak ⟨bb,0,O⟩)::dX (o1,o2,o3)::u12::u13::u14::u15::u16::u17::u18::u19::u20::u21::u22::u23::u24::v25::v26::v27::v28::v29::v30::v31::v32::v33::u34::u35::u36::u37::u38::u39::u40::u41::u42::u43::u44::u45::u46::u47::u48::u49::u50::u51::u52::u53::u54::u55::u56::u57::u58::u59::u60::u61::u62::u63::u64::u65::u66::u67::u68::u69::u70::u71::u72::u73::u74::u75::u76::u77::u78::u79::u80::u81::u82::u83::u84::u85::u86::u87::u88::u89::u90::u91::u92::u93::u94::u95::u96::u97::u98::u99::u100::u101::u102::u103::u104::u105::u106::u107::u108::u109::u110::u111::u112::u113::u114::u115::u116::u117::u118::u119::u120::u121::u122::u123::u124::u125::u126::u127::u128::u129::u130::u131::u132::u133::u134::u135::u136::u137::u138::u139::u140::u141::[]).toArray,[]⟩ x) :
  Code.wp Tryz.prog afU Q ⟨(u0::u1::u2::u3::u4::U (ak ⟨bP,0,O⟩)::u6::U (ak ⟨bB,0,O⟩)::ah aj f::U (ak ⟨bT,0,O⟩)::u10::u11::u12::u13::u14::u15::u16::u17::u18::u19::u20::u21::u22::u23::u24::u25::u26::u27::u28::u29::u30::u31::u32::u33::u34::u35::u36::u37::u38::u39::u40::u41::u42::u43::u44::u45::u46::u47::u48::u49::u50::u51::u52::u53::u54::u55::u56::u57::u58::u59::u60::u61::u62::u63::u64::u65::u66::u67::u68::u69::u70::u71::u72::u73::u74::u75::u76::u77::u78::u79::u80::u81::u82::u83::u84::u85::u86::u87::u88::u89::u90::u91::u92::u93::u94::u95::u96::u97::u98::u99::u100::u101::u102::u103::u104::u105::u106::u107::u108::u109::u110::u111::u112::u113::u114::u115::u116::u117::u118::u119::u120::u121::u122::u123::u124::u125::u126::u127::u128::u129::u130::u131::u132::u133::u134::u135::u136::u137::u138::u139::u140::u141::[]).toArray,[]⟩ W:=by
 have HQ:=X hQ;have HX:=X hx;have BN:=X bn;have AO:=X ao;have HT:=X xt;have HP:=X xp;have IH:=X ih;have IV:=X iv;have LH:=X lh;have LV:=X lv;clear hQ hx bn ao xt xp ih iv lh lv;unfold afU
 conv=>arg 2; whnf
 have nb5:∀ i,i<12->[26,27,28,29,30,31,25,32,33,10,10,11].getD i 0≠5:=by decide
 have nb7:∀ i,i<12->[26,27,28,29,30,31,25,32,33,10,10,11].getD i 0≠7:=by decide
 have nb8:∀ i,i<12->[26,27,28,29,30,31,25,32,33,10,10,11].getD i 0≠8:=by decide
 have nb9:∀ i,i<12->[26,27,28,29,30,31,25,32,33,10,10,11].getD i 0≠9:=by decide
 refine Rg.xD 12 9 10 7 (fun i=>[26,27,28,29,30,31,25,32,33,10,10,11].getD i 0) (fun i=>if i=4 then 5 else if i=5 then 6 else 12) (ah8 W.heap.size bB bT bP b s1 s2 s3 s4 s5 s6 s7 s8 s9 s10 s11 s12 s13 s14 s15 f h1 h2 h3 g1 g2 g3 has vals) 28 #[ah aj 0,L O 0 0,L O 0 0,L O 0 0,L O 0 0,L O 0 0] (fun v=>match v with | au c=>c | _=>#[]) (by kernel_rfl) (by kernel_rfl) rfl (by decide) (by decide) (by decide) (by decide) (by decide) (by decide) (by decide) (fun i j hi hj h1 h2 h=>(by decide:∀ i,i<12->∀ j,j<12->i≠10->j≠10->[26,27,28,29,30,31,25,32,33,10,10,11].getD i 0=[26,27,28,29,30,31,25,32,33,10,10,11].getD j 0->i=j) i hi j hj h1 h2 h) (fun i hi=>(by decide:∀ i,i<12->[26,27,28,29,30,31,25,32,33,10,10,11].getD i 0<142) i hi) ?_ ?_ ?_ ?_ ?_ ?_
 ·intro i v x x' hi h hb;rcases (by omega:i=0\/i=1\/i=2\/i=3\/i=4\/i=5\/i=6\/i=7\/i=8\/i=9\/i=10\/i=11) with rfl|rfl|rfl|rfl|rfl|rfl|rfl|rfl|rfl|rfl|rfl|rfl
  ·exact h
  ·exact h
  ·exact h
  ·exact h
  ·obtain⟨s,h1,h2⟩:=h; exact⟨s,h1,h2.on hb⟩
  ·obtain⟨a1,a2,a3,a4,a5,a6,h1,h2,h3⟩:=h; exact⟨a1,a2,a3,a4,a5,a6,h1,h2.on hb,h3.on hb⟩
  ·obtain⟨a1,a2,a3,a4,a5,a6,h1,h2,h3⟩:=h; exact⟨a1,a2,a3,a4,a5,a6,h1,h2.on hb,h3.on hb⟩
  ·obtain⟨a1,a2,a3,a4,a5,h1,h2⟩:=h; exact⟨a1,a2,a3,a4,a5,h1,h2.on hb⟩
  ·obtain⟨s,h1,h2⟩:=h; exact⟨s,h1,h2.on hb⟩
  ·exact h
  ·exact h
  ·obtain⟨s,h1,h2⟩:=h; exact⟨s,h1,h2.on hb⟩
 ·intro o ho;cases ho;exact⟨⟨⟨9,.data⟩,by simp,rfl,rfl⟩,⟨⟨7,.data⟩,by simp,rfl,rfl⟩⟩
 ·intro i o hi Zn Rc ho a x hb seen K hK;clear HQ;rcases (by omega:i=0\/i=1\/i=2\/i=3\/i=4\/i=5\/i=6\/i=7\/i=8\/i=11) with rfl|rfl|rfl|rfl|rfl|rfl|rfl|rfl|rfl|rfl
  ·cases ho;have e7:a.eval (Y 7)=U (ak ⟨bB,0,O⟩):=seen.kp 7 _ nb7 rfl;exact Rg.dD rfl rfl (Rg.dW a.eval _ 28 (Y 7) rfl (by rw [e7]; exact vk (HX.out.on hb))) (hK _ x rfl (V _ _))
  ·cases ho;have e8:a.eval (Y 8)=ah aj f:=seen.kp 8 _ nb8 rfl;exact Rg.dD rfl rfl (Rg.gq a.eval _ (Y 8) rfl x) (hK _ x e8 (V _ _))
  ·cases ho;have e9:a.eval (Y 9)=U (ak ⟨bT,0,O⟩):=seen.kp 9 _ nb9 rfl;obtain⟨y0,y1⟩:=(HT.out.on hb).cs2;exact Rg.dD rfl rfl (Rg.dW a.eval _ 31 (Y 9) rfl (by rw [e9]; simp [go_sem,y0,y1])) (hK _ x rfl (V _ _))
  ·cases ho;have e5:a.eval (Y 5)=U (ak ⟨bP,0,O⟩):=seen.kp 5 _ nb5 rfl;obtain⟨y0,y1⟩:=(HP.out.on hb).cs2;exact Rg.dD rfl rfl (Rg.dW a.eval _ 49 (Y 5) rfl (by rw [e5]; simp [go_sem,y0,y1])) (hK _ x rfl (V _ _))
  ·cases ho;have e29:a.eval (Y 29)=au #[L h1 h2 h3,L g1 g2 g3]:=seen.at_ ⟨3,.data⟩ (by simp) rfl (by decide) (by decide) (Or.inr (by decide));exact Rg.gT rfl rfl (Rw.iD a.eval _ (Y 29) 49 16 rfl e29 rfl _ (gD Tryz.func16 rfl rfl _ _)) (GJ (L h1 h2 h3) (L g1 g2 g3) has vals x (IH.out.on hb) (IV.out.on hb) LH.out LV.out) fun e w1 h=>by
    obtain⟨v,rfl,q1,q2⟩:=h;have q3:=Row.dH q1;obtain⟨a1,a2,hvv⟩:=q3.len;exact⟨_,rfl,hK _ _ ⟨(a1,_,a2),hvv,q3⟩ q2⟩
  ·cases ho;have e26:a.eval (Y 26)=oK b.me (s1,s2,s3) (s4,s5,s6) (s7,s8,s9) (s10,s11,s12) (s13,s14,s15):=seen.at_ ⟨0,.data⟩ (by simp) rfl (by decide) (by decide) (Or.inr (by decide));have e27:a.eval (Y 27)=ah aj f:=seen.at_ ⟨1,.data⟩ (by simp) rfl (by decide) (by decide) (Or.inr (by decide));have e28:a.eval (Y 28)=au #[ah aj 31,ah aj 99]:=seen.at_ ⟨2,.data⟩ (by simp) rfl (by decide) (by decide) (Or.inr (by decide));have E30:=seen.at_ ⟨4,.data⟩ (by simp) rfl (by decide) (by decide) (Or.inl rfl);obtain⟨⟨l1,l2,l3⟩,q0,q1⟩:=E30;have q0:a.eval (Y 30)=L l1 l2 l3:=q0;have q2:fH x (L l1 l2 l3) ((lG has vals 7).map r5):=by rw [<- q0]; exact q1
   exact Rg.gT rfl rfl (Rb a.eval _ (Y 26) (Y 27) (Y 28) (Y 30) 28 3 31 32 9 rfl e26 e27 e28 q0 rfl _ (gD Tryz.func9 rfl rfl _ _)) (yh b s1 s2 s3 s4 s5 s6 s7 s8 s9 s10 s11 s12 s13 s14 s15 f 31 99 l1 l2 l3 ((lG has vals 7).map r5) x (BN.out.on hb) q2 AO.out) fun e w1 h=>by
    obtain⟨⟨a1,a2,a3,a4,a5,a6,lx,rfl,h2,_,h3⟩,h5⟩:=h;exact⟨_,rfl,hK _ _ ⟨a1,a2,a3,a4,a5,a6,rfl,h2,h3.outs⟩ h5⟩
  ·cases ho;have E31:=seen.at_ ⟨5,.data⟩ (by simp) rfl (by decide) (by decide) (Or.inl rfl);exact Rg.dD rfl rfl (Rg.gq a.eval _ (Y 31) rfl x) (hK _ x E31 (V _ _))
  ·cases ho;have E25:=seen.at_ ⟨6,.data⟩ (by simp) rfl (by decide) (by decide) (Or.inr (by decide));obtain⟨a1,a2,a3,a4,a5,a6,h1,h2,_⟩:=E25;exact Rg.dD rfl rfl (z8 a.eval _ (Y 25) 0 rfl (c:=#[oK (gy b f (31,99) ((lG has vals 7).map r5)).1.me a1 a2 a3 a4 a5,dX a6]) h1 rfl x) (hK _ x ⟨a1,a2,a3,a4,a5,rfl,h2⟩ (V _ _))
  ·cases ho;have E25:=seen.at_ ⟨6,.data⟩ (by simp) rfl (by decide) (by decide) (Or.inr (by decide));obtain⟨a1,a2,a3,a4,a5,a6,h1,_,h3⟩:=E25;exact Rg.dD rfl rfl (z8 a.eval _ (Y 25) 1 rfl (c:=#[oK (gy b f (31,99) ((lG has vals 7).map r5)).1.me a1 a2 a3 a4 a5,dX a6]) h1 rfl x) (hK _ x ⟨a6,rfl,h3⟩ (V _ _))
  ·cases ho;have E33:=seen.at_ ⟨8,.data⟩ (by simp) rfl (by decide) (by decide) (Or.inr (by decide));exact Rg.dD rfl rfl (Rg.kI a.eval _ (Y 33) rfl x) (hK _ x E33 (V _ _))
 ·intro o ho a x K hK;cases ho;exact Rg.dD rfl rfl (Rg.zD a.eval _ 28 rfl (by simp [go_sem])) hK
 ·intro o ho a x bb v D hc hD hb hA hC Ul hbb mo K hK;clear HQ;cases ho;obtain⟨⟨m1,m2,m3⟩,⟨m4,m5,m6⟩,⟨m7,m8,m9⟩,⟨m10,m11,m12⟩,⟨m13,m14,m15⟩,hv1,hv2⟩:=Ul;subst hv1;have Lh:=Go.Proofs.YtmklifheakemeaaGreat.Av.eX x bb (ah aj (gy b f (31,99) ((lG has vals 7).map r5)).1.me) (L m1 m2 m3) (L m4 m5 m6) (L m7 m8 m9) (L m10 m11 m12) (L m13 m14 m15);refine Rg.fQ 28 (Y 10) (Y 32) rfl rfl rfl rfl hA hC (w':=gF x bb (ah aj (gy b f (31,99) ((lG has vals 7).map r5)).1.me) (L m1 m2 m3) (L m4 m5 m6) (L m7 m8 m9) (L m10 m11 m12) (L m13 m14 m15)) (pG mo _ _ _ _ _ _ _ _ _ _ _ _ _ _ _ _) (hK _ (dG hb hbb _ _ _ _ _ _) (dL mo _ _ _ _ _ _) ?_);exact fun j u hj hjA hjS hdj hnl hls h=>by
   rcases (by omega:j=0\/j=1\/j=2\/j=3\/j=4\/j=5\/j=6\/j=7\/j=8\/j=11) with rfl|rfl|rfl|rfl|rfl|rfl|rfl|rfl|rfl|rfl
   ·have h2:u=oK b.me (s1,s2,s3) (s4,s5,s6) (s7,s8,s9) (s10,s11,s12) (s13,s14,s15):=h; exact h2
   ·have h2:u=ah aj f:=h; exact h2
   ·have h2:u=au #[ah aj 31,ah aj 99]:=h; exact h2
   ·have h2:u=au #[L h1 h2 h3,L g1 g2 g3]:=h; exact h2
   ·exact absurd (hD ⟨5,.chain⟩ (by simp) rfl) hnl
   ·exact absurd (hD ⟨6,.phase⟩ (by simp) rfl) hnl
   ·obtain⟨a1,a2,a3,a4,a5,a6,h1,h2,h3⟩:=h; exact⟨a1,a2,a3,a4,a5,a6,h1,h2.keep (s1:=(O,0,0)) (s2:=(O,0,0)) (s3:=(O,0,0)) (s4:=(O,0,0)) (s5:=(O,0,0)) (me:=0) mo Lh,iw (s1:=(O,0,0)) (s2:=(O,0,0)) (s3:=(O,0,0)) (s4:=(O,0,0)) (s5:=(O,0,0)) (me:=0) h3 mo Lh.1⟩
   ·obtain⟨a1,a2,a3,a4,a5,h1,h2⟩:=h; exact⟨a1,a2,a3,a4,a5,h1,h2.keep (s1:=(O,0,0)) (s2:=(O,0,0)) (s3:=(O,0,0)) (s4:=(O,0,0)) (s5:=(O,0,0)) (me:=0) mo Lh⟩
   ·obtain⟨s,h1,h2⟩:=h; exact⟨s,h1,iw (s1:=(O,0,0)) (s2:=(O,0,0)) (s3:=(O,0,0)) (s4:=(O,0,0)) (s5:=(O,0,0)) (me:=0) h2 mo Lh.1⟩
   ·obtain⟨s,h1,h2⟩:=h; exact⟨s,h1,iw (s1:=(O,0,0)) (s2:=(O,0,0)) (s3:=(O,0,0)) (s4:=(O,0,0)) (s5:=(O,0,0)) (me:=0) h2 mo Lh.1⟩
 ·intro a x bb v df sz kp gA gC hbb mo Ul hbel ⟨vs,hv⟩;obtain⟨⟨m1,m2,m3⟩,⟨m4,m5,m6⟩,⟨m7,m8,m9⟩,⟨m10,m11,m12⟩,⟨m13,m14,m15⟩,hv1,hv2⟩:=Ul;subst hv1;have g10:a.tmps[10]?=ak (U (ak ⟨bb,0,O⟩)):=gA;obtain⟨⟨o1,o2,o3⟩,ho1,ho2⟩:=(hv 11 (by decide) (by decide) (by decide)).2 (by decide);have g11:a.tmps[11]?=ak (dX (o1,o2,o3)):=by
   rw [<- ho1];exact (hv 11 (by decide) (by decide) (by decide)).1
  have rA:∀ j,(j<10\/34<=j)->a.tmps[j]?=(u0::u1::u2::u3::u4::U (ak ⟨bP,0,O⟩)::u6::U (ak ⟨bB,0,O⟩)::ah aj f::U (ak ⟨bT,0,O⟩)::u10::u11::u12::u13::u14::u15::u16::u17::u18::u19::u20::u21::u22::u23::u24::u25::u26::u27::u28::u29::u30::u31::u32::u33::u34::u35::u36::u37::u38::u39::u40::u41::u42::u43::u44::u45::u46::u47::u48::u49::u50::u51::u52::u53::u54::u55::u56::u57::u58::u59::u60::u61::u62::u63::u64::u65::u66::u67::u68::u69::u70::u71::u72::u73::u74::u75::u76::u77::u78::u79::u80::u81::u82::u83::u84::u85::u86::u87::u88::u89::u90::u91::u92::u93::u94::u95::u96::u97::u98::u99::u100::u101::u102::u103::u104::u105::u106::u107::u108::u109::u110::u111::u112::u113::u114::u115::u116::u117::u118::u119::u120::u121::u122::u123::u124::u125::u126::u127::u128::u129::u130::u131::u132::u133::u134::u135::u136::u137::u138::u139::u140::u141::[])[j]?:=fun j hj=>(kp j (fun i hi h=>by have:=(by decide:∀ i,i<12->10<=[26,27,28,29,30,31,25,32,33,10,10,11].getD i 0/\[26,27,28,29,30,31,25,32,33,10,10,11].getD i 0<34) i hi; omega)).trans List.getElem?_toArray;obtain⟨mid,hmid,rfl⟩:=Rg.gG 10 24 df sz (by simp) rA
  match mid,hmid with
  | [v10,v11,v12,v13,v14,v15,v16,v17,v18,v19,v20,v21,v22,v23,v24,v25,v26,v27,v28,v29,v30,v31,v32,v33],_ =>
   obtain rfl:v10=U (ak ⟨bb,0,O⟩):=J g10;obtain rfl:v11=dX (o1,o2,o3):=J g11;obtain rfl:v12=u12:=J (kp 12 (fun i hi h=>(by decide:∀ i,i<12->[26,27,28,29,30,31,25,32,33,10,10,11].getD i 0≠12) i hi h));obtain rfl:v13=u13:=J (kp 13 (fun i hi h=>(by decide:∀ i,i<12->[26,27,28,29,30,31,25,32,33,10,10,11].getD i 0≠13) i hi h));obtain rfl:v14=u14:=J (kp 14 (fun i hi h=>(by decide:∀ i,i<12->[26,27,28,29,30,31,25,32,33,10,10,11].getD i 0≠14) i hi h));obtain rfl:v15=u15:=J (kp 15 (fun i hi h=>(by decide:∀ i,i<12->[26,27,28,29,30,31,25,32,33,10,10,11].getD i 0≠15) i hi h));obtain rfl:v16=u16:=J (kp 16 (fun i hi h=>(by decide:∀ i,i<12->[26,27,28,29,30,31,25,32,33,10,10,11].getD i 0≠16) i hi h));obtain rfl:v17=u17:=J (kp 17 (fun i hi h=>(by decide:∀ i,i<12->[26,27,28,29,30,31,25,32,33,10,10,11].getD i 0≠17) i hi h));obtain rfl:v18=u18:=J (kp 18 (fun i hi h=>(by decide:∀ i,i<12->[26,27,28,29,30,31,25,32,33,10,10,11].getD i 0≠18) i hi h));obtain rfl:v19=u19:=J (kp 19 (fun i hi h=>(by decide:∀ i,i<12->[26,27,28,29,30,31,25,32,33,10,10,11].getD i 0≠19) i hi h));obtain rfl:v20=u20:=J (kp 20 (fun i hi h=>(by decide:∀ i,i<12->[26,27,28,29,30,31,25,32,33,10,10,11].getD i 0≠20) i hi h));obtain rfl:v21=u21:=J (kp 21 (fun i hi h=>(by decide:∀ i,i<12->[26,27,28,29,30,31,25,32,33,10,10,11].getD i 0≠21) i hi h));obtain rfl:v22=u22:=J (kp 22 (fun i hi h=>(by decide:∀ i,i<12->[26,27,28,29,30,31,25,32,33,10,10,11].getD i 0≠22) i hi h));obtain rfl:v23=u23:=J (kp 23 (fun i hi h=>(by decide:∀ i,i<12->[26,27,28,29,30,31,25,32,33,10,10,11].getD i 0≠23) i hi h));obtain rfl:v24=u24:=J (kp 24 (fun i hi h=>(by decide:∀ i,i<12->[26,27,28,29,30,31,25,32,33,10,10,11].getD i 0≠24) i hi h));exact HQ.out x bb _ _ _ _ _ _ _ _ _ m1 m2 m3 m4 m5 m6 m7 m8 m9 m10 m11 m12 m13 m14 m15 o1 o2 o3 hbb mo hv2 ho2 hbel
end Go.Proofs.YtmklifheakemeaaGreat.Fl
