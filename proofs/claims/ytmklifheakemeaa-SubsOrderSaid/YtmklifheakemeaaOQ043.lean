/-
  SubsOrder's regions . Conditions as told.
-/
import Derived.Test.YtmklifheakemeaaOQ040
import Derived.Test.YtmklifheakemeaaOQ041
set_option maxRecDepth 100000
set_option maxHeartbeats 64000000
open _root_.Bool renaming true->ak
open Go.IntKind renaming i64->U
open Go.Operand renaming tmp->Z
open Go.RowKit.Below renaming refl->V
open Go.Value renaming slice->J,int->O,bool->X,pointer->Y,agg->aF
open _root_.List renaming map_toArray->aj,map_cons->ay,map_nil->aB,getElem?_toArray->aD
open List.Pairwise renaming nil->ah
open _root_.Option renaming none->L,some->aA
open Option.some renaming inj->au
open _root_.Or renaming inr->aC,inl->aG
namespace Go.Proofs.Ytmklifheakemeaa.Sb
open Go.RowKit Go.Sort Rw Ytmklifheakemeaa.Nm Pr Bk Av Rl
abbrev Gm:Br:=⟨4,[0,1],[⟨(1,0),[],0⟩],[(1,0)],[],[]⟩
theorem rU:kH (jN 4 [0,1]) ⟨(1,0),[],0⟩=(Gm,ak):=rfl
theorem vk:uF (jN 4 [0,1]):=⟨by simp,by simp,by simp,by simp,by simp⟩
theorem rV:kL (jN 4 [0,1]):=⟨by simp,by simp,by simp⟩
def OD (_B:Nat) (_b1:Nat) (i:Nat) (v:Value) (x:World):Prop :=
 match i with
 | 0=>∃ sl:Sl,v=dO sl/\qz x v [0,1]
 | 1=>∃ nv:Sl,v=iJ 4 nv (L,0,0) (L,0,0) (L,0,0) (L,0,0)/\iW x (jN 4 [0,1]) nv (L,0,0) (L,0,0) (L,0,0) (L,0,0)
 | 2=>v=aF #[O U 1,O U 0]
 | 3=>v=aF #[O U 1,O U 0,J L 0 0,O U 0]
 | 4=>∃ nv av sv ev ov:Sl,v=.tuple #[iJ 4 nv av sv ev ov,X ak]/\iW x Gm nv av sv ev ov
 | 5=>∃ nv av sv ev ov:Sl,v=.tuple #[iJ 4 nv av sv ev ov,X ak]/\iW x Gm nv av sv ev ov
 | 6=>∃ nv av sv ev ov:Sl,v=iJ 4 nv av sv ev ov/\iW x Gm nv av sv ev ov
 | 7=>v=X ak
 | 8=>True
 | 9=>True
 | 10=>v=X ak
 | _=>True
noncomputable def Lp:Code:=((Try.f4.body.bind (dU 2)).getD .skip)
theorem Sv (Q:Exit->Act->World->Prop) (W:World) (b1:Nat) (u0 u1 u2 u3 u4 u6 u7 u8 u9 u10 u11 u12 u13 u14 u15 u16 u17 u18 u19 u20 u21 u22 u23 u24 u25 u26 u27 u28 u29 u30 u31 u32 u33 u34 u35 u36 u37 u38 u39 u40 u41 u42 u43 u44 u45 u46 u47 u48 u49 u50 u51 u52 u53 u54 u55 u56 u57 u58 u59 u60 u61 u62 u63 u64 u65 u66 u67 u68 u69 u70 u71 u72 u73 u74 u75 u76 u77 u78 u79 u80 u81 u82 u83 u84 u85 u86 u87 u88 u89 u90 u91 u92 u93 u94 u95 u96 u97 u98 u99 u100 u101 u102 u103 u104 u105 u106 u107 u108 u109 u110 u111 u112 u113 u114 u115 u116 u117 u118 u119 u120 u121 u122 u123 u124 u125 u126 u127 u128 u129 u130 u131 u132 u133 u134 u135 u136 u137 u138 u139 u140 u141 u142 u143 u144 u145 u146 u147 u148 u149 u150 u151 u152 u153 u154 u155 u156 u157 u158 u159 u160 u161 u162 u163 u164 u165 u166 u167 u168 u169 u170 u171 u172 u173 u174 u175 u176 u177 u178 u179 u180 u181 u182 u183 u184 u185 u186 u187 u188 u189 u190 u191 u192 u193 u194 u195 u196 u197 u198 u199 u200 u201 u202 u203 u204 u205 u206 u207 u208 u209 u210 u211 u212 u213 u214 u215 u216 u217 u218 u219:Value)
  (h1:dz W b1 #[O U 1,O U 0] 25)
  (hQ:∀ (x:World) (bb:Nat) (v29 v30 v31 v32 v33 v34 v35 v36:Value) (m1:Option Addr) (m2 m3:Nat) (m4:Option Addr) (m5 m6:Nat) (m7:Option Addr) (m8 m9:Nat) (m10:Option Addr) (m11 m12:Nat) (m13:Option Addr) (m14 m15:Nat),W.heap.size<=bb->dz x bb #[O U 4,J m1 m2 m3,J m4 m5 m6,J m7 m8 m9,J m10 m11 m12,J m13 m14 m15] 31->iW x Gm (m1,m2,m3) (m4,m5,m6) (m7,m8,m9) (m10,m11,m12) (m13,m14,m15)->Below W.heap.size W x->Q .normal ⟨(u0::u1::u2::u3::u4::Y (aA ⟨b1,0,L⟩)::Y (aA ⟨bb,0,L⟩)::X ak::u8::u9::u10::u11::u12::u13::u14::u15::u16::u17::u18::u19::u20::u21::u22::u23::u24::u25::u26::u27::u28::v29::v30::v31::v32::v33::v34::v35::v36::u37::u38::u39::u40::u41::u42::u43::u44::u45::u46::u47::u48::u49::u50::u51::u52::u53::u54::u55::u56::u57::u58::u59::u60::u61::u62::u63::u64::u65::u66::u67::u68::u69::u70::u71::u72::u73::u74::u75::u76::u77::u78::u79::u80::u81::u82::u83::u84::u85::u86::u87::u88::u89::u90::u91::u92::u93::u94::u95::u96::u97::u98::u99::u100::u101::u102::u103::u104::u105::u106::u107::u108::u109::u110::u111::u112::u113::u114::u115::u116::u117::u118::u119::u120::u121::u122::u123::u124::u125::u126::u127::u128::u129::u130::u131::u132::u133::u134::u135::u136::u137::u138::u139::u140::u141::u142::u143::u144::u145::u146::u147::u148::u149::u150::u151::u152::u153::u154::u155::u156::u157::u158::u159::u160::u161::u162::u163::u164::u165::u166::u167::u168::u169::u170::u171::u172::u173::u174::u175::u176::u177::u178::u179::u180::u181::u182::u183::u184::u185::u186::u187::u188::u189::u190::u191::u192::u193::u194::u195::u196::u197::u198::u199::u200::u201::u202::u203::u204::u205::u206::u207::u208::u209::u210::u211::u212::u213::u214::u215::u216::u217::u218::u219::[]).toArray,[]⟩ x) :
  Code.wp Try.prog Lp Q ⟨(u0::u1::u2::u3::u4::Y (aA ⟨b1,0,L⟩)::u6::u7::u8::u9::u10::u11::u12::u13::u14::u15::u16::u17::u18::u19::u20::u21::u22::u23::u24::u25::u26::u27::u28::u29::u30::u31::u32::u33::u34::u35::u36::u37::u38::u39::u40::u41::u42::u43::u44::u45::u46::u47::u48::u49::u50::u51::u52::u53::u54::u55::u56::u57::u58::u59::u60::u61::u62::u63::u64::u65::u66::u67::u68::u69::u70::u71::u72::u73::u74::u75::u76::u77::u78::u79::u80::u81::u82::u83::u84::u85::u86::u87::u88::u89::u90::u91::u92::u93::u94::u95::u96::u97::u98::u99::u100::u101::u102::u103::u104::u105::u106::u107::u108::u109::u110::u111::u112::u113::u114::u115::u116::u117::u118::u119::u120::u121::u122::u123::u124::u125::u126::u127::u128::u129::u130::u131::u132::u133::u134::u135::u136::u137::u138::u139::u140::u141::u142::u143::u144::u145::u146::u147::u148::u149::u150::u151::u152::u153::u154::u155::u156::u157::u158::u159::u160::u161::u162::u163::u164::u165::u166::u167::u168::u169::u170::u171::u172::u173::u174::u175::u176::u177::u178::u179::u180::u181::u182::u183::u184::u185::u186::u187::u188::u189::u190::u191::u192::u193::u194::u195::u196::u197::u198::u199::u200::u201::u202::u203::u204::u205::u206::u207::u208::u209::u210::u211::u212::u213::u214::u215::u216::u217::u218::u219::[]).toArray,[]⟩ W:=by
 have HQ:=Lib.hid hQ;have H1:=Lib.hid h1;clear hQ h1;unfold Lp
 conv=>arg 2; whnf
 have OG:∀ i,i<11->[30,31,32,33,34,29,35,36,6,6,7].getD i 0≠5:=by decide
 refine Rg.nI 11 8 9 6 (fun i=>[30,31,32,33,34,29,35,36,6,6,7].getD i 0) (fun i=>if i=0 then 1 else if i=1 then 4 else if i=4 then 5 else 11) (OD W.heap.size b1) 31 #[O U 0,J L 0 0,J L 0 0,J L 0 0,J L 0 0,J L 0 0] (fun v=>match v with | aF c=>c | _=>#[]) (by kernel_rfl) (by kernel_rfl) rfl (by decide) (by decide) (by decide) (by decide) (by decide) (by decide) (by decide) (fun i j hi hj h1 h2 h=>(by decide:∀ i,i<11->∀ j,j<11->i≠9->j≠9->[30,31,32,33,34,29,35,36,6,6,7].getD i 0=[30,31,32,33,34,29,35,36,6,6,7].getD j 0->i=j) i hi j hj h1 h2 h) (fun i hi=>(by decide:∀ i,i<11->[30,31,32,33,34,29,35,36,6,6,7].getD i 0<220) i hi) ?_ ?_ ?_ ?_ ?_ ?_
 ·intro i v x x' hi h hb;rcases (by omega:i=0\/i=1\/i=2\/i=3\/i=4\/i=5\/i=6\/i=7\/i=8\/i=9\/i=10) with rfl|rfl|rfl|rfl|rfl|rfl|rfl|rfl|rfl|rfl|rfl
  ·obtain⟨s,h1,h2⟩:=h; exact⟨s,h1,h2.on hb⟩
  ·obtain⟨s,h1,h2⟩:=h; exact⟨s,h1,h2.on hb⟩
  ·exact h
  ·exact h
  ·obtain⟨a1,a2,a3,a4,a5,h1,h2⟩:=h; exact⟨a1,a2,a3,a4,a5,h1,h2.on hb⟩
  ·obtain⟨a1,a2,a3,a4,a5,h1,h2⟩:=h; exact⟨a1,a2,a3,a4,a5,h1,h2.on hb⟩
  ·obtain⟨a1,a2,a3,a4,a5,h1,h2⟩:=h; exact⟨a1,a2,a3,a4,a5,h1,h2.on hb⟩
  ·exact h
  ·exact h
  ·exact h
  ·exact h
 ·intro o ho;cases ho;exact⟨⟨⟨8,.data⟩,by simp,rfl,rfl⟩,⟨⟨6,.data⟩,by simp,rfl,rfl⟩⟩
 ·intro i o hi Gx ou ho a x hb seen K hK;clear HQ;rcases (by omega:i=0\/i=1\/i=2\/i=3\/i=4\/i=5\/i=6\/i=7\/i=10) with rfl|rfl|rfl|rfl|rfl|rfl|rfl|rfl|rfl
  ·cases ho;have hl:=jw Nm.Ez x [0,1] 2 rfl (by simp) #[O U 0,O U 1] (by rfl);exact Rg.dw rfl rfl (Rg.jM a.eval _ 23 2 #[(0,.const (O U 0)),(1,.const (O U 1))] rfl (ps:=#[(0,O U 0),(1,O U 1)]) (by simp only [aj,ay,aB]; rfl) (by simp [go_sem])) (hK (J (aA ⟨x.heap.size,0,L⟩) 2 2) (x.alloc (.cells #[O U 0,O U 1] 3)) ⟨(aA ⟨x.heap.size,0,L⟩,2,2),rfl,Row.dG hl⟩ ((V _ _).alloc (Nat.le_refl _) _))
  ·cases ho;have Sw:=seen.at_ ⟨0,.data⟩ (by simp) rfl (by decide) (by decide) (aG rfl);obtain⟨sl,q0,q1⟩:=Sw;have q0:a.eval (Z 30)=dO sl:=q0;have q1:qz x (dO sl) [0,1]:=by rw [<- q0]; exact q1
   exact Rg.eZ rfl rfl (Rw.gN a.eval _ (.const (O U 4)) (Z 30) 3 23 6 rfl rfl q0 rfl _ (eG Try.func6 rfl rfl _ _)) (pG 4 sl [0,1] x q1 (by decide)) fun e w1 h=>by
    obtain⟨⟨l',nv,rfl,h1,h2,h3,h4⟩,h5⟩:=h;have e1:l'=[0,1]:=lN h3 (by decide) (fun y=>(h4 y).trans (by simp));subst e1;exact⟨_,rfl,hK _ _ ⟨nv,rfl,h1,h2⟩ h5⟩
  ·cases ho;have e5:a.eval (Z 5)=Y (aA ⟨b1,0,L⟩):=seen.kp 5 _ OG rfl;obtain⟨y0,y1⟩:=(H1.out.on hb).cs2;exact Rg.dw rfl rfl (Rg.eu a.eval _ 25 (Z 5) rfl (by rw [e5]; simp [go_sem,y0,y1])) (hK _ x rfl (V _ _))
  ·cases ho;have e32:a.eval (Z 32)=aF #[O U 1,O U 0]:=seen.at_ ⟨2,.data⟩ (by simp) rfl (by decide) (by decide) (aC (by decide));exact Rg.dw rfl rfl (Rg.gY a.eval _ 37 #[(0,Z 32),(2,.const (O U 0))] rfl (by simp only [aj,ay,aB,e32]; rfl) (by simp [go_sem])) (hK _ x rfl (V _ _))
  ·cases ho;have Sy:=seen.at_ ⟨1,.data⟩ (by simp) rfl (by decide) (by decide) (aG rfl);have e33:a.eval (Z 33)=aF #[O U 1,O U 0,J L 0 0,O U 0]:=seen.at_ ⟨3,.data⟩ (by simp) rfl (by decide) (by decide) (aC (by decide));obtain⟨nv,q0,q1⟩:=Sy;have hx:oQ x (1,0,(L,0,0),0) ⟨(1,0),[],0⟩:=⟨rfl,rfl,iK _⟩;exact Rg.eZ rfl rfl (Rw.gN a.eval _ (Z 31) (Z 33) 31 37 5 rfl q0 e33 rfl _ (eG Try.func5 rfl rfl _ _)) (nM (jN 4 [0,1]) ⟨(1,0),[],0⟩ nv (L,0,0) (L,0,0) (L,0,0) (L,0,0) (1,0,(L,0,0),0) x q1.br hx vk rV (by simp) ah ah) fun e w1 h=>by
    rw [rU] at h;obtain⟨⟨a1,a2,a3,a4,a5,rfl,h2,h3⟩,h5⟩:=h;exact⟨_,rfl,hK _ _ ⟨a1,a2,a3,a4,a5,rfl,h2,h3 q1.no⟩ h5⟩
  ·cases ho;have OH:=seen.at_ ⟨4,.data⟩ (by simp) rfl (by decide) (by decide) (aG rfl);exact Rg.dw rfl rfl (Rg.eD a.eval _ (Z 34) rfl x) (hK _ x OH (V _ _))
  ·cases ho;have JV:=seen.at_ ⟨5,.data⟩ (by simp) rfl (by decide) (by decide) (aC (by decide));obtain⟨a1,a2,a3,a4,a5,h1,h2⟩:=JV;exact Rg.dw rfl rfl (fu a.eval _ (Z 29) 0 rfl (c:=#[iJ 4 a1 a2 a3 a4 a5,X ak]) h1 rfl x) (hK _ x ⟨a1,a2,a3,a4,a5,rfl,h2⟩ (V _ _))
  ·cases ho;have JV:=seen.at_ ⟨5,.data⟩ (by simp) rfl (by decide) (by decide) (aC (by decide));obtain⟨a1,a2,a3,a4,a5,h1,h2⟩:=JV;exact Rg.dw rfl rfl (fu a.eval _ (Z 29) 1 rfl (c:=#[iJ 4 a1 a2 a3 a4 a5,X ak]) h1 rfl x) (hK _ x rfl (V _ _))
  ·cases ho;have e36:a.eval (Z 36)=X ak:=seen.at_ ⟨7,.data⟩ (by simp) rfl (by decide) (by decide) (aC (by decide));exact Rg.dw rfl rfl (Rg.iQ a.eval _ (Z 36) rfl x) (hK _ x e36 (V _ _))
 ·intro o ho a x K hK;cases ho;exact Rg.dw rfl rfl (Rg.oV a.eval _ 31 rfl (by simp [go_sem])) hK
 ·intro o ho a x bb v D hc hD hb hA hC nV hbb fG K hK;clear HQ;cases ho;obtain⟨⟨m1,m2,m3⟩,⟨m4,m5,m6⟩,⟨m7,m8,m9⟩,⟨m10,m11,m12⟩,⟨m13,m14,m15⟩,hv1,hv2⟩:=nV;subst hv1;have gG:=eT x bb (O U 4) (J m1 m2 m3) (J m4 m5 m6) (J m7 m8 m9) (J m10 m11 m12) (J m13 m14 m15);refine Rg.fI 31 (Z 6) (Z 35) rfl rfl rfl rfl hA hC (w':=jc x bb (O U 4) (J m1 m2 m3) (J m4 m5 m6) (J m7 m8 m9) (J m10 m11 m12) (J m13 m14 m15)) (jV fG _ _ _ _ _ _ _ _ _ _ _ _ _ _ _ _) (hK _ (dM hb hbb _ _ _ _ _ _) (dY fG _ _ _ _ _ _) ?_);exact fun j u hj Qt Nv hdj hnl hls h=>by
   rcases (by omega:j=0\/j=1\/j=2\/j=3\/j=4\/j=5\/j=6\/j=7\/j=10) with rfl|rfl|rfl|rfl|rfl|rfl|rfl|rfl|rfl
   ·exact absurd (hD ⟨1,.phase⟩ (by simp) rfl) hnl
   ·exact absurd (hD ⟨4,.chain⟩ (by simp) rfl) hnl
   ·have h2:u=aF #[O U 1,O U 0]:=h; exact h2
   ·have h2:u=aF #[O U 1,O U 0,J L 0 0,O U 0]:=h; exact h2
   ·exact absurd (hD ⟨5,.phase⟩ (by simp) rfl) hnl
   ·obtain⟨a1,a2,a3,a4,a5,h1,h2⟩:=h; exact⟨a1,a2,a3,a4,a5,h1,h2.keep (s1:=(L,0,0)) (s2:=(L,0,0)) (s3:=(L,0,0)) (s4:=(L,0,0)) (s5:=(L,0,0)) (me:=0) fG gG⟩
   ·obtain⟨a1,a2,a3,a4,a5,h1,h2⟩:=h; exact⟨a1,a2,a3,a4,a5,h1,h2.keep (s1:=(L,0,0)) (s2:=(L,0,0)) (s3:=(L,0,0)) (s4:=(L,0,0)) (s5:=(L,0,0)) (me:=0) fG gG⟩
   ·have h2:u=X ak:=h; exact h2
   ·have h2:u=X ak:=h; exact h2
 ·intro a x bb v df sz kp gA gC hbb fG nV hbel ⟨vs,hv⟩;obtain⟨⟨m1,m2,m3⟩,⟨m4,m5,m6⟩,⟨m7,m8,m9⟩,⟨m10,m11,m12⟩,⟨m13,m14,m15⟩,hv1,hv2⟩:=nV;subst hv1;have g6:a.tmps[6]?=aA (Y (aA ⟨bb,0,L⟩)):=gA;have g7:a.tmps[7]?=aA (X ak):=by
   have h:vs 10=X ak:=(hv 10 (by decide) (by decide) (by decide)).2 (by decide);rw [<- h];exact (hv 10 (by decide) (by decide) (by decide)).1
  obtain⟨mid,hmid,rfl⟩:=Rg.uJ [6,7,29,30,31,32,33,34,35,36] df sz (fun d hd=>(by decide:∀ d∈[6,7,29,30,31,32,33,34,35,36],d<220) d hd) (fun j hj=>(kp j (fun i hi h=>hj (h ▸ (by decide:∀ i,i<11->[30,31,32,33,34,29,35,36,6,6,7].getD i 0∈[6,7,29,30,31,32,33,34,35,36]) i hi))).trans aD)
  match mid,hmid with
  | [v6,v7,v29,v30,v31,v32,v33,v34,v35,v36],_ =>
   obtain rfl:v6=Y (aA ⟨bb,0,L⟩):=au g6;obtain rfl:v7=X ak:=au g7;exact HQ.out x bb _ _ _ _ _ _ _ _ m1 m2 m3 m4 m5 m6 m7 m8 m9 m10 m11 m12 m13 m14 m15 hbb fG hv2 hbel
def Lr (_B:Nat) (_b1:Nat) (i:Nat) (v:Value) (x:World):Prop :=
 match i with
 | 0=>∃ sl:Sl,v=dO sl/\qz x v [0,1]
 | 1=>∃ nv:Sl,v=iJ 4 nv (L,0,0) (L,0,0) (L,0,0) (L,0,0)/\iW x (jN 4 [0,1]) nv (L,0,0) (L,0,0) (L,0,0) (L,0,0)
 | 2=>v=aF #[O U 1,O U 0]
 | 3=>v=aF #[O U 1,O U 0,J L 0 0,O U 0]
 | 4=>∃ nv av sv ev ov:Sl,v=.tuple #[iJ 4 nv av sv ev ov,X ak]/\iW x Gm nv av sv ev ov
 | 5=>∃ nv av sv ev ov:Sl,v=.tuple #[iJ 4 nv av sv ev ov,X ak]/\iW x Gm nv av sv ev ov
 | 6=>∃ nv av sv ev ov:Sl,v=iJ 4 nv av sv ev ov/\iW x Gm nv av sv ev ov
 | 7=>v=X ak
 | 8=>True
 | 9=>True
 | 10=>v=X ak
 | _=>True
noncomputable def GU:Code:=((Try.f4.body.bind (dU 29)).getD .skip)
theorem OI (Q:Exit->Act->World->Prop) (W:World) (b1:Nat) (u0 u1 u2 u3 u4 u6 u7 u8 u9 u10 u11 u12 u13 u14 u15 u16 u17 u18 u19 u20 u21 u22 u23 u24 u25 u26 u27 u28 u29 u30 u31 u32 u33 u34 u35 u36 u37 u38 u39 u40 u41 u42 u43 u44 u45 u46 u47 u48 u49 u50 u51 u52 u53 u54 u55 u56 u57 u58 u59 u60 u61 u62 u63 u64 u65 u66 u67 u68 u69 u70 u71 u72 u73 u74 u75 u76 u77 u78 u79 u80 u81 u82 u83 u84 u85 u86 u87 u88 u89 u90 u91 u92 u93 u94 u95 u96 u97 u98 u99 u100 u101 u102 u103 u104 u105 u106 u107 u108 u109 u110 u111 u112 u113 u114 u115 u116 u117 u118 u119 u120 u121 u122 u123 u124 u125 u126 u127 u128 u129 u130 u131 u132 u133 u134 u135 u136 u137 u138 u139 u140 u141 u142 u143 u144 u145 u146 u147 u148 u149 u150 u151 u152 u153 u154 u155 u156 u157 u158 u159 u160 u161 u162 u163 u164 u165 u166 u167 u168 u169 u170 u171 u172 u173 u174 u175 u176 u177 u178 u179 u180 u181 u182 u183 u184 u185 u186 u187 u188 u189 u190 u191 u192 u193 u194 u195 u196 u197 u198 u199 u200 u201 u202 u203 u204 u205 u206 u207 u208 u209 u210 u211 u212 u213 u214 u215 u216 u217 u218 u219:Value)
  (h1:dz W b1 #[O U 1,O U 0] 25)
  (hQ:∀ (x:World) (bb:Nat) (v175 v176 v177 v178 v179 v180 v181 v182:Value) (m1:Option Addr) (m2 m3:Nat) (m4:Option Addr) (m5 m6:Nat) (m7:Option Addr) (m8 m9:Nat) (m10:Option Addr) (m11 m12:Nat) (m13:Option Addr) (m14 m15:Nat),W.heap.size<=bb->dz x bb #[O U 4,J m1 m2 m3,J m4 m5 m6,J m7 m8 m9,J m10 m11 m12,J m13 m14 m15] 31->iW x Gm (m1,m2,m3) (m4,m5,m6) (m7,m8,m9) (m10,m11,m12) (m13,m14,m15)->Below W.heap.size W x->Q .normal ⟨(u0::u1::u2::u3::u4::Y (aA ⟨b1,0,L⟩)::u6::u7::u8::u9::u10::u11::u12::u13::u14::u15::u16::u17::u18::u19::u20::Y (aA ⟨bb,0,L⟩)::X ak::u23::u24::u25::u26::u27::u28::u29::u30::u31::u32::u33::u34::u35::u36::u37::u38::u39::u40::u41::u42::u43::u44::u45::u46::u47::u48::u49::u50::u51::u52::u53::u54::u55::u56::u57::u58::u59::u60::u61::u62::u63::u64::u65::u66::u67::u68::u69::u70::u71::u72::u73::u74::u75::u76::u77::u78::u79::u80::u81::u82::u83::u84::u85::u86::u87::u88::u89::u90::u91::u92::u93::u94::u95::u96::u97::u98::u99::u100::u101::u102::u103::u104::u105::u106::u107::u108::u109::u110::u111::u112::u113::u114::u115::u116::u117::u118::u119::u120::u121::u122::u123::u124::u125::u126::u127::u128::u129::u130::u131::u132::u133::u134::u135::u136::u137::u138::u139::u140::u141::u142::u143::u144::u145::u146::u147::u148::u149::u150::u151::u152::u153::u154::u155::u156::u157::u158::u159::u160::u161::u162::u163::u164::u165::u166::u167::u168::u169::u170::u171::u172::u173::u174::v175::v176::v177::v178::v179::v180::v181::v182::u183::u184::u185::u186::u187::u188::u189::u190::u191::u192::u193::u194::u195::u196::u197::u198::u199::u200::u201::u202::u203::u204::u205::u206::u207::u208::u209::u210::u211::u212::u213::u214::u215::u216::u217::u218::u219::[]).toArray,[]⟩ x) :
  Code.wp Try.prog GU Q ⟨(u0::u1::u2::u3::u4::Y (aA ⟨b1,0,L⟩)::u6::u7::u8::u9::u10::u11::u12::u13::u14::u15::u16::u17::u18::u19::u20::u21::u22::u23::u24::u25::u26::u27::u28::u29::u30::u31::u32::u33::u34::u35::u36::u37::u38::u39::u40::u41::u42::u43::u44::u45::u46::u47::u48::u49::u50::u51::u52::u53::u54::u55::u56::u57::u58::u59::u60::u61::u62::u63::u64::u65::u66::u67::u68::u69::u70::u71::u72::u73::u74::u75::u76::u77::u78::u79::u80::u81::u82::u83::u84::u85::u86::u87::u88::u89::u90::u91::u92::u93::u94::u95::u96::u97::u98::u99::u100::u101::u102::u103::u104::u105::u106::u107::u108::u109::u110::u111::u112::u113::u114::u115::u116::u117::u118::u119::u120::u121::u122::u123::u124::u125::u126::u127::u128::u129::u130::u131::u132::u133::u134::u135::u136::u137::u138::u139::u140::u141::u142::u143::u144::u145::u146::u147::u148::u149::u150::u151::u152::u153::u154::u155::u156::u157::u158::u159::u160::u161::u162::u163::u164::u165::u166::u167::u168::u169::u170::u171::u172::u173::u174::u175::u176::u177::u178::u179::u180::u181::u182::u183::u184::u185::u186::u187::u188::u189::u190::u191::u192::u193::u194::u195::u196::u197::u198::u199::u200::u201::u202::u203::u204::u205::u206::u207::u208::u209::u210::u211::u212::u213::u214::u215::u216::u217::u218::u219::[]).toArray,[]⟩ W:=by
 have HQ:=Lib.hid hQ;have H1:=Lib.hid h1;clear hQ h1;unfold GU
 conv=>arg 2; whnf
 have OG:∀ i,i<11->[176,177,178,179,180,175,181,182,21,21,22].getD i 0≠5:=by decide
 refine Rg.nI 11 8 9 6 (fun i=>[176,177,178,179,180,175,181,182,21,21,22].getD i 0) (fun i=>if i=0 then 1 else if i=1 then 4 else if i=4 then 5 else 11) (Lr W.heap.size b1) 31 #[O U 0,J L 0 0,J L 0 0,J L 0 0,J L 0 0,J L 0 0] (fun v=>match v with | aF c=>c | _=>#[]) (by kernel_rfl) (by kernel_rfl) rfl (by decide) (by decide) (by decide) (by decide) (by decide) (by decide) (by decide) (fun i j hi hj h1 h2 h=>(by decide:∀ i,i<11->∀ j,j<11->i≠9->j≠9->[176,177,178,179,180,175,181,182,21,21,22].getD i 0=[176,177,178,179,180,175,181,182,21,21,22].getD j 0->i=j) i hi j hj h1 h2 h) (fun i hi=>(by decide:∀ i,i<11->[176,177,178,179,180,175,181,182,21,21,22].getD i 0<220) i hi) ?_ ?_ ?_ ?_ ?_ ?_
 ·intro i v x x' hi h hb;rcases (by omega:i=0\/i=1\/i=2\/i=3\/i=4\/i=5\/i=6\/i=7\/i=8\/i=9\/i=10) with rfl|rfl|rfl|rfl|rfl|rfl|rfl|rfl|rfl|rfl|rfl
  ·obtain⟨s,h1,h2⟩:=h; exact⟨s,h1,h2.on hb⟩
  ·obtain⟨s,h1,h2⟩:=h; exact⟨s,h1,h2.on hb⟩
  ·exact h
  ·exact h
  ·obtain⟨a1,a2,a3,a4,a5,h1,h2⟩:=h; exact⟨a1,a2,a3,a4,a5,h1,h2.on hb⟩
  ·obtain⟨a1,a2,a3,a4,a5,h1,h2⟩:=h; exact⟨a1,a2,a3,a4,a5,h1,h2.on hb⟩
  ·obtain⟨a1,a2,a3,a4,a5,h1,h2⟩:=h; exact⟨a1,a2,a3,a4,a5,h1,h2.on hb⟩
  ·exact h
  ·exact h
  ·exact h
  ·exact h
 ·intro o ho;cases ho;exact⟨⟨⟨8,.data⟩,by simp,rfl,rfl⟩,⟨⟨6,.data⟩,by simp,rfl,rfl⟩⟩
 ·intro i o hi Gx ou ho a x hb seen K hK;clear HQ;rcases (by omega:i=0\/i=1\/i=2\/i=3\/i=4\/i=5\/i=6\/i=7\/i=10) with rfl|rfl|rfl|rfl|rfl|rfl|rfl|rfl|rfl
  ·cases ho;have hl:=jw Nm.Ez x [0,1] 2 rfl (by simp) #[O U 0,O U 1] (by rfl);exact Rg.dw rfl rfl (Rg.jM a.eval _ 23 2 #[(0,.const (O U 0)),(1,.const (O U 1))] rfl (ps:=#[(0,O U 0),(1,O U 1)]) (by simp only [aj,ay,aB]; rfl) (by simp [go_sem])) (hK (J (aA ⟨x.heap.size,0,L⟩) 2 2) (x.alloc (.cells #[O U 0,O U 1] 3)) ⟨(aA ⟨x.heap.size,0,L⟩,2,2),rfl,Row.dG hl⟩ ((V _ _).alloc (Nat.le_refl _) _))
  ·cases ho;have OJ:=seen.at_ ⟨0,.data⟩ (by simp) rfl (by decide) (by decide) (aG rfl);obtain⟨sl,q0,q1⟩:=OJ;have q0:a.eval (Z 176)=dO sl:=q0;have q1:qz x (dO sl) [0,1]:=by rw [<- q0]; exact q1
   exact Rg.eZ rfl rfl (Rw.gN a.eval _ (.const (O U 4)) (Z 176) 3 23 6 rfl rfl q0 rfl _ (eG Try.func6 rfl rfl _ _)) (pG 4 sl [0,1] x q1 (by decide)) fun e w1 h=>by
    obtain⟨⟨l',nv,rfl,h1,h2,h3,h4⟩,h5⟩:=h;have e1:l'=[0,1]:=lN h3 (by decide) (fun y=>(h4 y).trans (by simp));subst e1;exact⟨_,rfl,hK _ _ ⟨nv,rfl,h1,h2⟩ h5⟩
  ·cases ho;have e5:a.eval (Z 5)=Y (aA ⟨b1,0,L⟩):=seen.kp 5 _ OG rfl;obtain⟨y0,y1⟩:=(H1.out.on hb).cs2;exact Rg.dw rfl rfl (Rg.eu a.eval _ 25 (Z 5) rfl (by rw [e5]; simp [go_sem,y0,y1])) (hK _ x rfl (V _ _))
  ·cases ho;have e178:a.eval (Z 178)=aF #[O U 1,O U 0]:=seen.at_ ⟨2,.data⟩ (by simp) rfl (by decide) (by decide) (aC (by decide));exact Rg.dw rfl rfl (Rg.gY a.eval _ 37 #[(0,Z 178),(2,.const (O U 0))] rfl (by simp only [aj,ay,aB,e178]; rfl) (by simp [go_sem])) (hK _ x rfl (V _ _))
  ·cases ho;have OL:=seen.at_ ⟨1,.data⟩ (by simp) rfl (by decide) (by decide) (aG rfl);have e179:a.eval (Z 179)=aF #[O U 1,O U 0,J L 0 0,O U 0]:=seen.at_ ⟨3,.data⟩ (by simp) rfl (by decide) (by decide) (aC (by decide));obtain⟨nv,q0,q1⟩:=OL;have hx:oQ x (1,0,(L,0,0),0) ⟨(1,0),[],0⟩:=⟨rfl,rfl,iK _⟩;exact Rg.eZ rfl rfl (Rw.gN a.eval _ (Z 177) (Z 179) 31 37 5 rfl q0 e179 rfl _ (eG Try.func5 rfl rfl _ _)) (nM (jN 4 [0,1]) ⟨(1,0),[],0⟩ nv (L,0,0) (L,0,0) (L,0,0) (L,0,0) (1,0,(L,0,0),0) x q1.br hx vk rV (by simp) ah ah) fun e w1 h=>by
    rw [rU] at h;obtain⟨⟨a1,a2,a3,a4,a5,rfl,h2,h3⟩,h5⟩:=h;exact⟨_,rfl,hK _ _ ⟨a1,a2,a3,a4,a5,rfl,h2,h3 q1.no⟩ h5⟩
  ·cases ho;have OO:=seen.at_ ⟨4,.data⟩ (by simp) rfl (by decide) (by decide) (aG rfl);exact Rg.dw rfl rfl (Rg.eD a.eval _ (Z 180) rfl x) (hK _ x OO (V _ _))
  ·cases ho;have JW:=seen.at_ ⟨5,.data⟩ (by simp) rfl (by decide) (by decide) (aC (by decide));obtain⟨a1,a2,a3,a4,a5,h1,h2⟩:=JW;exact Rg.dw rfl rfl (fu a.eval _ (Z 175) 0 rfl (c:=#[iJ 4 a1 a2 a3 a4 a5,X ak]) h1 rfl x) (hK _ x ⟨a1,a2,a3,a4,a5,rfl,h2⟩ (V _ _))
  ·cases ho;have JW:=seen.at_ ⟨5,.data⟩ (by simp) rfl (by decide) (by decide) (aC (by decide));obtain⟨a1,a2,a3,a4,a5,h1,h2⟩:=JW;exact Rg.dw rfl rfl (fu a.eval _ (Z 175) 1 rfl (c:=#[iJ 4 a1 a2 a3 a4 a5,X ak]) h1 rfl x) (hK _ x rfl (V _ _))
  ·cases ho;have e182:a.eval (Z 182)=X ak:=seen.at_ ⟨7,.data⟩ (by simp) rfl (by decide) (by decide) (aC (by decide));exact Rg.dw rfl rfl (Rg.iQ a.eval _ (Z 182) rfl x) (hK _ x e182 (V _ _))
 ·intro o ho a x K hK;cases ho;exact Rg.dw rfl rfl (Rg.oV a.eval _ 31 rfl (by simp [go_sem])) hK
 ·intro o ho a x bb v D hc hD hb hA hC nV hbb fG K hK;clear HQ;cases ho;obtain⟨⟨m1,m2,m3⟩,⟨m4,m5,m6⟩,⟨m7,m8,m9⟩,⟨m10,m11,m12⟩,⟨m13,m14,m15⟩,hv1,hv2⟩:=nV;subst hv1;have gG:=eT x bb (O U 4) (J m1 m2 m3) (J m4 m5 m6) (J m7 m8 m9) (J m10 m11 m12) (J m13 m14 m15);refine Rg.fI 31 (Z 21) (Z 181) rfl rfl rfl rfl hA hC (w':=jc x bb (O U 4) (J m1 m2 m3) (J m4 m5 m6) (J m7 m8 m9) (J m10 m11 m12) (J m13 m14 m15)) (jV fG _ _ _ _ _ _ _ _ _ _ _ _ _ _ _ _) (hK _ (dM hb hbb _ _ _ _ _ _) (dY fG _ _ _ _ _ _) ?_);exact fun j u hj Qt Nv hdj hnl hls h=>by
   rcases (by omega:j=0\/j=1\/j=2\/j=3\/j=4\/j=5\/j=6\/j=7\/j=10) with rfl|rfl|rfl|rfl|rfl|rfl|rfl|rfl|rfl
   ·exact absurd (hD ⟨1,.phase⟩ (by simp) rfl) hnl
   ·exact absurd (hD ⟨4,.chain⟩ (by simp) rfl) hnl
   ·have h2:u=aF #[O U 1,O U 0]:=h; exact h2
   ·have h2:u=aF #[O U 1,O U 0,J L 0 0,O U 0]:=h; exact h2
   ·exact absurd (hD ⟨5,.phase⟩ (by simp) rfl) hnl
   ·obtain⟨a1,a2,a3,a4,a5,h1,h2⟩:=h; exact⟨a1,a2,a3,a4,a5,h1,h2.keep (s1:=(L,0,0)) (s2:=(L,0,0)) (s3:=(L,0,0)) (s4:=(L,0,0)) (s5:=(L,0,0)) (me:=0) fG gG⟩
   ·obtain⟨a1,a2,a3,a4,a5,h1,h2⟩:=h; exact⟨a1,a2,a3,a4,a5,h1,h2.keep (s1:=(L,0,0)) (s2:=(L,0,0)) (s3:=(L,0,0)) (s4:=(L,0,0)) (s5:=(L,0,0)) (me:=0) fG gG⟩
   ·have h2:u=X ak:=h; exact h2
   ·have h2:u=X ak:=h; exact h2
 ·intro a x bb v df sz kp gA gC hbb fG nV hbel ⟨vs,hv⟩;obtain⟨⟨m1,m2,m3⟩,⟨m4,m5,m6⟩,⟨m7,m8,m9⟩,⟨m10,m11,m12⟩,⟨m13,m14,m15⟩,hv1,hv2⟩:=nV;subst hv1;have g21:a.tmps[21]?=aA (Y (aA ⟨bb,0,L⟩)):=gA;have g22:a.tmps[22]?=aA (X ak):=by
   have h:vs 10=X ak:=(hv 10 (by decide) (by decide) (by decide)).2 (by decide);rw [<- h];exact (hv 10 (by decide) (by decide) (by decide)).1
  obtain⟨mid,hmid,rfl⟩:=Rg.uJ [21,22,175,176,177,178,179,180,181,182] df sz (fun d hd=>(by decide:∀ d∈[21,22,175,176,177,178,179,180,181,182],d<220) d hd) (fun j hj=>(kp j (fun i hi h=>hj (h ▸ (by decide:∀ i,i<11->[176,177,178,179,180,175,181,182,21,21,22].getD i 0∈[21,22,175,176,177,178,179,180,181,182]) i hi))).trans aD)
  match mid,hmid with
  | [v21,v22,v175,v176,v177,v178,v179,v180,v181,v182],_ =>
   obtain rfl:v21=Y (aA ⟨bb,0,L⟩):=au g21;obtain rfl:v22=X ak:=au g22;exact HQ.out x bb _ _ _ _ _ _ _ _ m1 m2 m3 m4 m5 m6 m7 m8 m9 m10 m11 m12 m13 m14 m15 hbb fG hv2 hbel
end Go.Proofs.Ytmklifheakemeaa.Sb
