/-
  CarryWant's region t. Conditions as told.
-/
import Derived.Test.YtkcfgbddlpomgaaGreatOQ046
set_option maxRecDepth 100000
set_option maxHeartbeats 64000000
open _root_.Bool renaming false->O
open _root_.Go renaming Addr->ak,World->aB
open Go.IntKind renaming i64->Z
open Go.Lib renaming hid->X
open Go.Operand renaming tmp->ah
open Go.RowKit.Below renaming refl->U
open Go.Value renaming slice->J,pointer->L,int->Y,bool->aj,agg->aA
open _root_.Option renaming none->V,some->au
open _root_.Or renaming inr->ay
namespace Go.Proofs.YtkcfgbddlpomgaaGreat.Ca
open Go.RowKit Go.Sort Rw YtkcfgbddlpomgaaGreat.Nm Pr Bk Av Rl Sb Fl
def ajj (_B:Nat) (_bB _bT _bP:Nat) (b:Br) (s1:Option ak) (s2 s3:Nat) (s4:Option ak) (s5 s6:Nat) (s7:Option ak) (s8 s9:Nat) (s10:Option ak) (s11 s12:Nat) (s13:Option ak) (s14 s15:Nat) (t1 f:Int) (h1:Option ak) (h2 h3:Nat) (g1:Option ak) (g2 g3:Nat) (has vals:List Int) (i:Nat) (v:Value) (x:aB):Prop :=
 match i with
 | 0=>v=mJ b.me (s1,s2,s3) (s4,s5,s6) (s7,s8,s9) (s10,s11,s12) (s13,s14,s15)
 | 1=>v=aA #[Y Z t1,Y Z 0]
 | 2=>v=aA #[Y Z 28,Y Z 0]
 | 3=>v=aA #[J h1 h2 h3,J g1 g2 g3]
 | 4=>∃ sl:Sl,v=dU sl/\gu x v ((jJ has vals 7).map r5)
 | 5=>v=Y Z f
 | 6=>∃ z:iH,v=qg z/\jd x z (⟨(t1,0),(28,0),((jJ has vals 7).map r5),f,O⟩:En)
 | 7=>∃ nv av sv ev ov:Sl,v=.tuple #[mJ (fG b (⟨(t1,0),(28,0),((jJ has vals 7).map r5),f,O⟩:En)).1.me nv av sv ev ov,aj (fG b (⟨(t1,0),(28,0),((jJ has vals 7).map r5),f,O⟩:En)).2]/\vY x (fG b (⟨(t1,0),(28,0),((jJ has vals 7).map r5),f,O⟩:En)).1 nv av sv ev ov
 | 8=>∃ nv av sv ev ov:Sl,v=.tuple #[mJ (fG b (⟨(t1,0),(28,0),((jJ has vals 7).map r5),f,O⟩:En)).1.me nv av sv ev ov,aj (fG b (⟨(t1,0),(28,0),((jJ has vals 7).map r5),f,O⟩:En)).2]/\vY x (fG b (⟨(t1,0),(28,0),((jJ has vals 7).map r5),f,O⟩:En)).1 nv av sv ev ov
 | 9=>∃ nv av sv ev ov:Sl,v=mJ (fG b (⟨(t1,0),(28,0),((jJ has vals 7).map r5),f,O⟩:En)).1.me nv av sv ev ov/\vY x (fG b (⟨(t1,0),(28,0),((jJ has vals 7).map r5),f,O⟩:En)).1 nv av sv ev ov
 | 10=>v=aj (fG b (⟨(t1,0),(28,0),((jJ has vals 7).map r5),f,O⟩:En)).2
 | 11=>True
 | 12=>True
 | 13=>v=aj (fG b (⟨(t1,0),(28,0),((jJ has vals 7).map r5),f,O⟩:En)).2
 | _=>True
noncomputable def ag3:Code:=((Tryz.f6.body.bind (eP 6)).getD .skip)
theorem cw6 (Q:Exit->Act->aB->Prop) (W:aB) (bB bT bP:Nat) (b:Br) (s1:Option ak) (s2 s3:Nat) (s4:Option ak) (s5 s6:Nat) (s7:Option ak) (s8 s9:Nat) (s10:Option ak) (s11 s12:Nat) (s13:Option ak) (s14 s15:Nat) (t1 f:Int) (h1:Option ak) (h2 h3:Nat) (g1:Option ak) (g2 g3:Nat) (has vals:List Int) (u0 u1 u2 u3 u4 u5 u6 u7 u9 u10 u13 u15 u16 u17 u18 u19 u20 u21 u22 u23 u24 u25 u26 u27 u28 u29 u30 u31 u32 u33 u34 u35 u36 u37 u38 u39 u40 u41 u42 u43 u44 u45 u46 u47 u48 u49 u50 u51 u52 u53 u54 u55 u56 u57 u58 u59 u60 u61 u62 u63 u64 u65 u66 u67 u68 u69 u70 u71 u72 u73 u74 u75 u76 u77 u78 u79 u80 u81 u82 u83 u84 u85 u86 u87 u88 u89 u90 u91 u92 u93 u94 u95 u96 u97 u98 u99 u100 u101 u102 u103 u104 u105 u106 u107 u108 u109 u110 u111 u112 u113 u114 u115 u116 u117 u118 u119 u120 u121 u122 u123 u124 u125 u126 u127 u128 u129 u130 u131 u132 u133 u134 u135 u136 u137 u138 u139 u140 u141 u142 u143 u144 u145 u146 u147 u148 u149 u150 u151 u152 u153 u154 u155 u156 u157 u158 u159 u160 u161:Value)
  (ku:dN W bB #[Y Z b.me,J s1 s2 s3,J s4 s5 s6,J s7 s8 s9,J s10 s11 s12,J s13 s14 s15] 33) (bn:vY W b (s1,s2,s3) (s4,s5,s6) (s7,s8,s9) (s10,s11,s12) (s13,s14,s15)) (fw:Kw b) (fp:wL b) (re:iB b.ent) (ok:∀ e∈b.ent,dW e.p) (oe:dW ((jJ has vals 7).map r5)) (xt:dN W bT #[Y Z t1,Y Z 0] 38) (xp:dN W bP #[J h1 h2 h3,J g1 g2 g3] 72) (ih:In.iC W (J h1 h2 h3) has) (iv:In.iC W (J g1 g2 g3) vals) (lh:has.length<=maxLen) (lv:vals.length<=maxLen)
  (hQ:∀ (x:aB) (bb:Nat) (v55 v56 v57 v58 v59 v60 v61 v62 v63 v64 v65:Value) (m1:Option ak) (m2 m3:Nat) (m4:Option ak) (m5 m6:Nat) (m7:Option ak) (m8 m9:Nat) (m10:Option ak) (m11 m12:Nat) (m13:Option ak) (m14 m15:Nat),W.heap.size<=bb->dN x bb #[Y Z (fG b (⟨(t1,0),(28,0),((jJ has vals 7).map r5),f,O⟩:En)).1.me,J m1 m2 m3,J m4 m5 m6,J m7 m8 m9,J m10 m11 m12,J m13 m14 m15] 33->vY x (fG b (⟨(t1,0),(28,0),((jJ has vals 7).map r5),f,O⟩:En)).1 (m1,m2,m3) (m4,m5,m6) (m7,m8,m9) (m10,m11,m12) (m13,m14,m15)->Below W.heap.size W x->Q .normal ⟨(u0::u1::u2::u3::u4::u5::u6::u7::L (au ⟨bP,0,V⟩)::u9::u10::L (au ⟨bB,0,V⟩)::L (au ⟨bT,0,V⟩)::u13::Y Z f::u15::u16::L (au ⟨bb,0,V⟩)::aj (fG b (⟨(t1,0),(28,0),((jJ has vals 7).map r5),f,O⟩:En)).2::u19::u20::u21::u22::u23::u24::u25::u26::u27::u28::u29::u30::u31::u32::u33::u34::u35::u36::u37::u38::u39::u40::u41::u42::u43::u44::u45::u46::u47::u48::u49::u50::u51::u52::u53::u54::v55::v56::v57::v58::v59::v60::v61::v62::v63::v64::v65::u66::u67::u68::u69::u70::u71::u72::u73::u74::u75::u76::u77::u78::u79::u80::u81::u82::u83::u84::u85::u86::u87::u88::u89::u90::u91::u92::u93::u94::u95::u96::u97::u98::u99::u100::u101::u102::u103::u104::u105::u106::u107::u108::u109::u110::u111::u112::u113::u114::u115::u116::u117::u118::u119::u120::u121::u122::u123::u124::u125::u126::u127::u128::u129::u130::u131::u132::u133::u134::u135::u136::u137::u138::u139::u140::u141::u142::u143::u144::u145::u146::u147::u148::u149::u150::u151::u152::u153::u154::u155::u156::u157::u158::u159::u160::u161::[]).toArray,[]⟩ x) :
  Code.wp Tryz.prog ag3 Q ⟨(u0::u1::u2::u3::u4::u5::u6::u7::L (au ⟨bP,0,V⟩)::u9::u10::L (au ⟨bB,0,V⟩)::L (au ⟨bT,0,V⟩)::u13::Y Z f::u15::u16::u17::u18::u19::u20::u21::u22::u23::u24::u25::u26::u27::u28::u29::u30::u31::u32::u33::u34::u35::u36::u37::u38::u39::u40::u41::u42::u43::u44::u45::u46::u47::u48::u49::u50::u51::u52::u53::u54::u55::u56::u57::u58::u59::u60::u61::u62::u63::u64::u65::u66::u67::u68::u69::u70::u71::u72::u73::u74::u75::u76::u77::u78::u79::u80::u81::u82::u83::u84::u85::u86::u87::u88::u89::u90::u91::u92::u93::u94::u95::u96::u97::u98::u99::u100::u101::u102::u103::u104::u105::u106::u107::u108::u109::u110::u111::u112::u113::u114::u115::u116::u117::u118::u119::u120::u121::u122::u123::u124::u125::u126::u127::u128::u129::u130::u131::u132::u133::u134::u135::u136::u137::u138::u139::u140::u141::u142::u143::u144::u145::u146::u147::u148::u149::u150::u151::u152::u153::u154::u155::u156::u157::u158::u159::u160::u161::[]).toArray,[]⟩ W:=by
 have HQ:=X hQ;have HB:=X ku;have BN:=X bn;have FW:=X fw;have FP:=X fp;have RE:=X re;have OK:=X ok;have OE:=X oe;have HT:=X xt;have HP:=X xp;have IH:=X ih;have IV:=X iv;have LH:=X lh;have LV:=X lv;clear hQ ku bn fw fp re ok oe xt xp ih iv lh lv;unfold ag3
 conv=>arg 2; whnf
 have nb8:∀ i,i<14->[56,57,58,59,60,61,62,63,55,64,65,17,17,18].getD i 0≠8:=by decide
 have ajk:∀ i,i<14->[56,57,58,59,60,61,62,63,55,64,65,17,17,18].getD i 0≠11:=by decide
 have ajl:∀ i,i<14->[56,57,58,59,60,61,62,63,55,64,65,17,17,18].getD i 0≠12:=by decide
 have ajm:∀ i,i<14->[56,57,58,59,60,61,62,63,55,64,65,17,17,18].getD i 0≠14:=by decide
 refine Rg.uJ 14 11 12 9 (fun i=>[56,57,58,59,60,61,62,63,55,64,65,17,17,18].getD i 0) (fun i=>if i=4 then 6 else if i=6 then 7 else 14) (ajj W.heap.size bB bT bP b s1 s2 s3 s4 s5 s6 s7 s8 s9 s10 s11 s12 s13 s14 s15 t1 f h1 h2 h3 g1 g2 g3 has vals) 33 #[Y Z 0,J V 0 0,J V 0 0,J V 0 0,J V 0 0,J V 0 0] (fun v=>match v with | aA c=>c | _=>#[]) (by kernel_rfl) (by kernel_rfl) rfl (by decide) (by decide) (by decide) (by decide) (by decide) (by decide) (by decide) (fun i j hi hj h1 h2 h=>(by decide:∀ i,i<14->∀ j,j<14->i≠12->j≠12->[56,57,58,59,60,61,62,63,55,64,65,17,17,18].getD i 0=[56,57,58,59,60,61,62,63,55,64,65,17,17,18].getD j 0->i=j) i hi j hj h1 h2 h) (fun i hi=>(by decide:∀ i,i<14->[56,57,58,59,60,61,62,63,55,64,65,17,17,18].getD i 0<162) i hi) ?_ ?_ ?_ ?_ ?_ ?_
 ·intro i v x x' hi h hb;rcases (by omega:i=0\/i=1\/i=2\/i=3\/i=4\/i=5\/i=6\/i=7\/i=8\/i=9\/i=10\/i=11\/i=12\/i=13) with rfl|rfl|rfl|rfl|rfl|rfl|rfl|rfl|rfl|rfl|rfl|rfl|rfl|rfl
  ·exact h
  ·exact h
  ·exact h
  ·exact h
  ·obtain⟨s,h1,h2⟩:=h; exact⟨s,h1,h2.on hb⟩
  ·exact h
  ·obtain⟨z,h1,h2⟩:=h; exact⟨z,h1,h2.on hb⟩
  ·obtain⟨a1,a2,a3,a4,a5,h1,h2⟩:=h; exact⟨a1,a2,a3,a4,a5,h1,h2.on hb⟩
  ·obtain⟨a1,a2,a3,a4,a5,h1,h2⟩:=h; exact⟨a1,a2,a3,a4,a5,h1,h2.on hb⟩
  ·obtain⟨a1,a2,a3,a4,a5,h1,h2⟩:=h; exact⟨a1,a2,a3,a4,a5,h1,h2.on hb⟩
  ·exact h
  ·exact h
  ·exact h
  ·exact h
 ·intro o ho;cases ho;exact⟨⟨⟨11,.data⟩,by simp,rfl,rfl⟩,⟨⟨9,.data⟩,by simp,rfl,rfl⟩⟩
 ·intro i o hi YC Qc ho a x hb seen K hK;clear HQ;rcases (by omega:i=0\/i=1\/i=2\/i=3\/i=4\/i=5\/i=6\/i=7\/i=8\/i=9\/i=10\/i=13) with rfl|rfl|rfl|rfl|rfl|rfl|rfl|rfl|rfl|rfl|rfl|rfl
  ·cases ho;have e11:a.eval (ah 11)=L (au ⟨bB,0,V⟩):=seen.kp 11 _ ajk rfl;exact Rg.dD rfl rfl (Rg.dZ a.eval _ 33 (ah 11) rfl (by rw [e11]; exact vP (HB.out.on hb))) (hK _ x rfl (U _ _))
  ·cases ho;have e12:a.eval (ah 12)=L (au ⟨bT,0,V⟩):=seen.kp 12 _ ajl rfl;obtain⟨y0,y1⟩:=(HT.out.on hb).cs2;exact Rg.dD rfl rfl (Rg.dZ a.eval _ 38 (ah 12) rfl (by rw [e12]; simp [go_sem,y0,y1])) (hK _ x rfl (U _ _))
  ·cases ho;exact Rg.dD rfl rfl (Rg.iW a.eval _ 38 #[(0,.const (Y Z 28))] rfl (ps:=#[(0,Y Z 28)]) (by simp only [List.map_toArray,List.map_cons,List.map_nil]; rfl) (by simp [go_sem])) (hK _ x rfl (U _ _))
  ·cases ho;have e8:a.eval (ah 8)=L (au ⟨bP,0,V⟩):=seen.kp 8 _ nb8 rfl;obtain⟨y0,y1⟩:=(HP.out.on hb).cs2;exact Rg.dD rfl rfl (Rg.dZ a.eval _ 72 (ah 8) rfl (by rw [e8]; simp [go_sem,y0,y1])) (hK _ x rfl (U _ _))
  ·cases ho;have e59:a.eval (ah 59)=aA #[J h1 h2 h3,J g1 g2 g3]:=seen.at_ ⟨3,.data⟩ (by simp) rfl (by decide) (by decide) (ay (by decide));exact Rg.gH rfl rfl (Rw.iG a.eval _ (ah 59) 72 23 rfl e59 rfl _ (fT Tryz.func23 rfl rfl _ _)) (wG (J h1 h2 h3) (J g1 g2 g3) has vals x (IH.out.on hb) (IV.out.on hb) LH.out LV.out) fun e w1 h=>by
    obtain⟨v,rfl,q1,q2⟩:=h;have q3:=Row.dH q1;obtain⟨a1,a2,hvv⟩:=q3.len;exact⟨_,rfl,hK _ _ ⟨(a1,_,a2),hvv,q3⟩ q2⟩
  ·cases ho;have e14:a.eval (ah 14)=Y Z f:=seen.kp 14 _ ajm rfl;exact Rg.dD rfl rfl (Rg.fQ a.eval _ (ah 14) rfl x) (hK _ x e14 (U _ _))
  ·cases ho;have e57:a.eval (ah 57)=aA #[Y Z t1,Y Z 0]:=seen.at_ ⟨1,.data⟩ (by simp) rfl (by decide) (by decide) (ay (by decide));have e58:a.eval (ah 58)=aA #[Y Z 28,Y Z 0]:=seen.at_ ⟨2,.data⟩ (by simp) rfl (by decide) (by decide) (ay (by decide));have E60:=seen.at_ ⟨4,.data⟩ (by simp) rfl (by decide) (by decide) (Or.inl rfl);have e61:a.eval (ah 61)=Y Z f:=seen.at_ ⟨5,.data⟩ (by simp) rfl (by decide) (by decide) (ay (by decide));obtain⟨⟨l1,l2,l3⟩,q0,q1⟩:=E60;have q0:a.eval (ah 60)=J l1 l2 l3:=q0;have q2:gu x (J l1 l2 l3) ((jJ has vals 7).map r5):=by rw [<- q0]; exact q1
   exact Rg.dD rfl rfl (Rg.iW a.eval _ 68 #[(0,ah 57),(1,ah 58),(2,ah 60),(3,ah 61)] rfl (by simp only [List.map_toArray,List.map_cons,List.map_nil,e57,e58,q0,e61]; rfl) (v:=aA #[Y Z t1,Y Z 0,Y Z 28,Y Z 0,J l1 l2 l3,Y Z f,aj O]) (by simp [go_sem])) (hK _ x ⟨(t1,0,28,0,(l1,l2,l3),f,O),rfl,rfl,rfl,rfl,rfl,q2⟩ (U _ _))
  ·cases ho;have e56:a.eval (ah 56)=mJ b.me (s1,s2,s3) (s4,s5,s6) (s7,s8,s9) (s10,s11,s12) (s13,s14,s15):=seen.at_ ⟨0,.data⟩ (by simp) rfl (by decide) (by decide) (ay (by decide));have E62:=seen.at_ ⟨6,.data⟩ (by simp) rfl (by decide) (by decide) (Or.inl rfl);obtain⟨z,q0,q1⟩:=E62;exact Rg.gH rfl rfl (Rw.pE a.eval _ (ah 56) (ah 62) 33 68 22 rfl e56 q0 rfl _ (fT Tryz.func22 rfl rfl _ _)) (Cj b (⟨(t1,0),(28,0),((jJ has vals 7).map r5),f,O⟩:En) (s1,s2,s3) (s4,s5,s6) (s7,s8,s9) (s10,s11,s12) (s13,s14,s15) z x (BN.out.on hb).br q1 FW.out FP.out RE.out OK.out OE.out) fun e w1 h=>by
    obtain⟨⟨a1,a2,a3,a4,a5,rfl,h2,h3⟩,h5⟩:=h;exact⟨_,rfl,hK _ _ ⟨a1,a2,a3,a4,a5,rfl,h2,h3 (BN.out.on hb).no⟩ h5⟩
  ·cases ho;have E63:=seen.at_ ⟨7,.data⟩ (by simp) rfl (by decide) (by decide) (ay (by decide));exact Rg.dD rfl rfl (Rg.fQ a.eval _ (ah 63) rfl x) (hK _ x E63 (U _ _))
  ·cases ho;have E55:=seen.at_ ⟨8,.data⟩ (by simp) rfl (by decide) (by decide) (ay (by decide));obtain⟨a1,a2,a3,a4,a5,h1,h2⟩:=E55;exact Rg.dD rfl rfl (sW a.eval _ (ah 55) 0 rfl (c:=#[mJ (fG b (⟨(t1,0),(28,0),((jJ has vals 7).map r5),f,O⟩:En)).1.me a1 a2 a3 a4 a5,aj (fG b (⟨(t1,0),(28,0),((jJ has vals 7).map r5),f,O⟩:En)).2]) h1 rfl x) (hK _ x ⟨a1,a2,a3,a4,a5,rfl,h2⟩ (U _ _))
  ·cases ho;have E55:=seen.at_ ⟨8,.data⟩ (by simp) rfl (by decide) (by decide) (ay (by decide));obtain⟨a1,a2,a3,a4,a5,h1,h2⟩:=E55;exact Rg.dD rfl rfl (sW a.eval _ (ah 55) 1 rfl (c:=#[mJ (fG b (⟨(t1,0),(28,0),((jJ has vals 7).map r5),f,O⟩:En)).1.me a1 a2 a3 a4 a5,aj (fG b (⟨(t1,0),(28,0),((jJ has vals 7).map r5),f,O⟩:En)).2]) h1 rfl x) (hK _ x rfl (U _ _))
  ·cases ho;have e65:a.eval (ah 65)=aj (fG b (⟨(t1,0),(28,0),((jJ has vals 7).map r5),f,O⟩:En)).2:=seen.at_ ⟨10,.data⟩ (by simp) rfl (by decide) (by decide) (ay (by decide));exact Rg.dD rfl rfl (Rg.jM a.eval _ (ah 65) rfl x) (hK _ x e65 (U _ _))
 ·intro o ho a x K hK;cases ho;exact Rg.dD rfl rfl (Rg.wD a.eval _ 33 rfl (by simp [go_sem])) hK
 ·intro o ho a x bb v D hc hD hb hA hC Mf hbb ku K hK;clear HQ;cases ho;obtain⟨⟨m1,m2,m3⟩,⟨m4,m5,m6⟩,⟨m7,m8,m9⟩,⟨m10,m11,m12⟩,⟨m13,m14,m15⟩,hv1,hv2⟩:=Mf;subst hv1;have nk:=fZ x bb (Y Z (fG b (⟨(t1,0),(28,0),((jJ has vals 7).map r5),f,O⟩:En)).1.me) (J m1 m2 m3) (J m4 m5 m6) (J m7 m8 m9) (J m10 m11 m12) (J m13 m14 m15);refine Rg.fP 33 (ah 17) (ah 64) rfl rfl rfl rfl hA hC (w':=gY x bb (Y Z (fG b (⟨(t1,0),(28,0),((jJ has vals 7).map r5),f,O⟩:En)).1.me) (J m1 m2 m3) (J m4 m5 m6) (J m7 m8 m9) (J m10 m11 m12) (J m13 m14 m15)) (sK ku _ _ _ _ _ _ _ _ _ _ _ _ _ _ _ _) (hK _ (dI hb hbb _ _ _ _ _ _) (dM ku _ _ _ _ _ _) ?_);exact fun j u hj hjA hjS hdj hnl hls h=>by
   rcases (by omega:j=0\/j=1\/j=2\/j=3\/j=4\/j=5\/j=6\/j=7\/j=8\/j=9\/j=10\/j=13) with rfl|rfl|rfl|rfl|rfl|rfl|rfl|rfl|rfl|rfl|rfl|rfl
   ·have h2:u=mJ b.me (s1,s2,s3) (s4,s5,s6) (s7,s8,s9) (s10,s11,s12) (s13,s14,s15):=h; exact h2
   ·have h2:u=aA #[Y Z t1,Y Z 0]:=h; exact h2
   ·have h2:u=aA #[Y Z 28,Y Z 0]:=h; exact h2
   ·have h2:u=aA #[J h1 h2 h3,J g1 g2 g3]:=h; exact h2
   ·exact absurd (hD ⟨6,.phase⟩ (by simp) rfl) hnl
   ·have h2:u=Y Z f:=h; exact h2
   ·exact absurd (hD ⟨7,.chain⟩ (by simp) rfl) hnl
   ·obtain⟨a1,a2,a3,a4,a5,h1,h2⟩:=h; exact⟨a1,a2,a3,a4,a5,h1,h2.keep (s1:=(V,0,0)) (s2:=(V,0,0)) (s3:=(V,0,0)) (s4:=(V,0,0)) (s5:=(V,0,0)) (me:=0) ku nk⟩
   ·obtain⟨a1,a2,a3,a4,a5,h1,h2⟩:=h; exact⟨a1,a2,a3,a4,a5,h1,h2.keep (s1:=(V,0,0)) (s2:=(V,0,0)) (s3:=(V,0,0)) (s4:=(V,0,0)) (s5:=(V,0,0)) (me:=0) ku nk⟩
   ·obtain⟨a1,a2,a3,a4,a5,h1,h2⟩:=h; exact⟨a1,a2,a3,a4,a5,h1,h2.keep (s1:=(V,0,0)) (s2:=(V,0,0)) (s3:=(V,0,0)) (s4:=(V,0,0)) (s5:=(V,0,0)) (me:=0) ku nk⟩
   ·have h2:u=aj (fG b (⟨(t1,0),(28,0),((jJ has vals 7).map r5),f,O⟩:En)).2:=h; exact h2
   ·have h2:u=aj (fG b (⟨(t1,0),(28,0),((jJ has vals 7).map r5),f,O⟩:En)).2:=h; exact h2
 ·intro a x bb v df sz kp gA gC hbb ku Mf hbel ⟨vs,hv⟩;obtain⟨⟨m1,m2,m3⟩,⟨m4,m5,m6⟩,⟨m7,m8,m9⟩,⟨m10,m11,m12⟩,⟨m13,m14,m15⟩,hv1,hv2⟩:=Mf;subst hv1;have g17:a.tmps[17]?=au (L (au ⟨bb,0,V⟩)):=gA;have g18:a.tmps[18]?=au (aj (fG b (⟨(t1,0),(28,0),((jJ has vals 7).map r5),f,O⟩:En)).2):=by
   have h:vs 13=aj (fG b (⟨(t1,0),(28,0),((jJ has vals 7).map r5),f,O⟩:En)).2:=(hv 13 (by decide) (by decide) (by decide)).2 (by decide);rw [<- h];exact (hv 13 (by decide) (by decide) (by decide)).1
  have Sm:a.tmps.size=162:=sz;obtain⟨v55,g55⟩:=Rg.jU Sm 55 (by decide);obtain⟨v56,g56⟩:=Rg.jU Sm 56 (by decide);obtain⟨v57,g57⟩:=Rg.jU Sm 57 (by decide);obtain⟨v58,g58⟩:=Rg.jU Sm 58 (by decide);obtain⟨v59,g59⟩:=Rg.jU Sm 59 (by decide);obtain⟨v60,g60⟩:=Rg.jU Sm 60 (by decide);obtain⟨v61,g61⟩:=Rg.jU Sm 61 (by decide);obtain⟨v62,g62⟩:=Rg.jU Sm 62 (by decide);obtain⟨v63,g63⟩:=Rg.jU Sm 63 (by decide);obtain⟨v64,g64⟩:=Rg.jU Sm 64 (by decide);obtain⟨v65,g65⟩:=Rg.jU Sm 65 (by decide);have hfr:=Rg.Ji [17,18,55,56,57,58,59,60,61,62,63,64,65] [L (au ⟨bb,0,V⟩),aj (fG b (⟨(t1,0),(28,0),((jJ has vals 7).map r5),f,O⟩:En)).2,v55,v56,v57,v58,v59,v60,v61,v62,v63,v64,v65] df sz (fun d hd=>(by decide:∀ d∈[17,18,55,56,57,58,59,60,61,62,63,64,65],d<162) d hd) (fun j hj=>(kp j (fun i hi h=>hj (h ▸ (by decide:∀ i,i<14->[56,57,58,59,60,61,62,63,55,64,65,17,17,18].getD i 0∈[17,18,55,56,57,58,59,60,61,62,63,64,65]) i hi))).trans List.getElem?_toArray) rfl ⟨g17,g18,g55,g56,g57,g58,g59,g60,g61,g62,g63,g64,g65,trivial⟩;rw [hfr];show Q .normal ⟨(u0::u1::u2::u3::u4::u5::u6::u7::L (au ⟨bP,0,V⟩)::u9::u10::L (au ⟨bB,0,V⟩)::L (au ⟨bT,0,V⟩)::u13::Y Z f::u15::u16::L (au ⟨bb,0,V⟩)::aj (fG b (⟨(t1,0),(28,0),((jJ has vals 7).map r5),f,O⟩:En)).2::u19::u20::u21::u22::u23::u24::u25::u26::u27::u28::u29::u30::u31::u32::u33::u34::u35::u36::u37::u38::u39::u40::u41::u42::u43::u44::u45::u46::u47::u48::u49::u50::u51::u52::u53::u54::v55::v56::v57::v58::v59::v60::v61::v62::v63::v64::v65::u66::u67::u68::u69::u70::u71::u72::u73::u74::u75::u76::u77::u78::u79::u80::u81::u82::u83::u84::u85::u86::u87::u88::u89::u90::u91::u92::u93::u94::u95::u96::u97::u98::u99::u100::u101::u102::u103::u104::u105::u106::u107::u108::u109::u110::u111::u112::u113::u114::u115::u116::u117::u118::u119::u120::u121::u122::u123::u124::u125::u126::u127::u128::u129::u130::u131::u132::u133::u134::u135::u136::u137::u138::u139::u140::u141::u142::u143::u144::u145::u146::u147::u148::u149::u150::u151::u152::u153::u154::u155::u156::u157::u158::u159::u160::u161::[]).toArray,[]⟩ x;exact HQ.out x bb _ _ _ _ _ _ _ _ _ _ _ m1 m2 m3 m4 m5 m6 m7 m8 m9 m10 m11 m12 m13 m14 m15 hbb ku hv2 hbel
end Go.Proofs.YtkcfgbddlpomgaaGreat.Ca
