/-
  CarryOnce's loop ove. Conditions as told.
-/
import Derived.Test.YtkcfgbddlpomgaaGreatLQ041
set_option maxRecDepth 100000
set_option maxHeartbeats 64000000
open Go.Lib renaming hid->D
open Go.Value renaming slice->L,int->O,pointer->U
open _root_.List renaming getElem?_eq_getElem->J,mem_of_getElem?->K
namespace Go.Proofs.YtkcfgbddlpomgaaGreat.Ca
open Go.RowKit Go.Sort Rw YtkcfgbddlpomgaaGreat.Nm Pr Bk Av Rl Sb Fl
noncomputable def adO:Code:=((Tryz.f4.body.bind (gL 4)).getD .skip)
theorem aby (Q:Exit->Act->World->Prop) (W:World) (oo gH:Option Addr) (dL oc tn tc:Nat) (tl:List Int) (lx:List yX) (bm:Nat) (s:List Int) (u0 u1 u2 u3 u4 u5 u6 u7 u8 u9 u10 u11 u12 u14 u15 u17 u18 u19 u20 u21 u22 u23 u24 u25 u26 u27 u28 u29 u30 u31 u32 u33 u34 u35 u36 u37 u38 u39 u40 u41 u42 u43 u44 u45 u46 u47 u48 u49 u50 u51 u52 u53 u54 u55 u56 u57 u58 u59 u60 u61 u62 u63 u64 u65 u66 u67 u68 u69 u70 u71 u72 u73 u74 u75 u76 u77 u78 u79 u80 u81 u82 u83 u84 u85 u86 u87 u88 u89 u90 u91 u92 u93 u94 u95 u96 u97 u98 u99 u100 u101 u102 u103 u104 u105 u106 u107 u108 u109 u110 u111 u112 u113 u114 u115 u116 u117 u118 u119 u120 u121 u122 u123 u124 u128 u129 u130 u131 u132 u133 u134 u135 u136 u137 u138 u139 u140 u141 u142 u143 u144 u145 u146 u147 u148 u149 u150 u151 u152 u153 u154 u155 u156 u157 u158 u159 u160 u161 u162 u163 u164 u165 u166 u167 u168 u169 u170 u171 u172 u173 u174 u175 u176 u177 u178 u179 u180 u181 u182 u183 u184 u185 u186 u187 u188 u189 u190 u191 u192 u193 u194 u195 u196 u197 u198 u199 u200 u201 u202 u203 u204 u205 u206 u207 u208 u209 u210 u211 u212 u213 u214 u215 u216 u217 u218 u219 u220:Value)
  (hr:qH W (L gH tn tc) tl) (hl:tl.length=tn) (hx:aaM W (L oo dL oc) lx) (hxl:lx.length=dL) (he:lx.map (·.1)=tl) (hp:tl.Pairwise (·<·)) (hb:tn<=1000) (hm:jr W bm s) (hin:∀ y∈tl,y∈s/\Gc y)
  (hQ:∀ (wr:World) (v6 v19 v20 v127 v128 v129 v130 v131 v132 v133 v134 v135 v136 v137 v138 v139 v140 v141 v142 v143 v144 v145 v146 v147 v148 v149 v150 v151 v152 v153 v154 v155 v156 v157 v158 v159 v160 v161 v162 v163 v164 v165:Value),Below W.heap.size W wr->Q .normal ⟨(u0::u1::u2::u3::u4::u5::v6::u7::u8::u9::u10::u11::u12::L oo dL oc::u14::u15::.map (some bm)::u17::u18::v19::v20::u21::u22::u23::u24::u25::u26::u27::u28::u29::u30::u31::u32::u33::u34::u35::u36::u37::u38::u39::u40::u41::u42::u43::u44::u45::u46::u47::u48::u49::u50::u51::u52::u53::u54::u55::u56::u57::u58::u59::u60::u61::u62::u63::u64::u65::u66::u67::u68::u69::u70::u71::u72::u73::u74::u75::u76::u77::u78::u79::u80::u81::u82::u83::u84::u85::u86::u87::u88::u89::u90::u91::u92::u93::u94::u95::u96::u97::u98::u99::u100::u101::u102::u103::u104::u105::u106::u107::u108::u109::u110::u111::u112::u113::u114::u115::u116::u117::u118::u119::u120::u121::u122::u123::u124::L gH tn tc::O .i64 (tn:Int)::v127::v128::v129::v130::v131::v132::v133::v134::v135::v136::v137::v138::v139::v140::v141::v142::v143::v144::v145::v146::v147::v148::v149::v150::v151::v152::v153::v154::v155::v156::v157::v158::v159::v160::v161::v162::v163::v164::v165::u166::u167::u168::u169::u170::u171::u172::u173::u174::u175::u176::u177::u178::u179::u180::u181::u182::u183::u184::u185::u186::u187::u188::u189::u190::u191::u192::u193::u194::u195::u196::u197::u198::u199::u200::u201::u202::u203::u204::u205::u206::u207::u208::u209::u210::u211::u212::u213::u214::u215::u216::u217::u218::u219::u220::[]).toArray,[]⟩ wr) :
  Code.wp Tryz.prog adO Q ⟨(u0::u1::u2::u3::u4::u5::u6::u7::u8::u9::u10::u11::u12::L oo dL oc::u14::u15::.map (some bm)::u17::u18::u19::u20::u21::u22::u23::u24::u25::u26::u27::u28::u29::u30::u31::u32::u33::u34::u35::u36::u37::u38::u39::u40::u41::u42::u43::u44::u45::u46::u47::u48::u49::u50::u51::u52::u53::u54::u55::u56::u57::u58::u59::u60::u61::u62::u63::u64::u65::u66::u67::u68::u69::u70::u71::u72::u73::u74::u75::u76::u77::u78::u79::u80::u81::u82::u83::u84::u85::u86::u87::u88::u89::u90::u91::u92::u93::u94::u95::u96::u97::u98::u99::u100::u101::u102::u103::u104::u105::u106::u107::u108::u109::u110::u111::u112::u113::u114::u115::u116::u117::u118::u119::u120::u121::u122::u123::u124::L gH tn tc::O .i64 (tn:Int)::O .i64 0::u128::u129::u130::u131::u132::u133::u134::u135::u136::u137::u138::u139::u140::u141::u142::u143::u144::u145::u146::u147::u148::u149::u150::u151::u152::u153::u154::u155::u156::u157::u158::u159::u160::u161::u162::u163::u164::u165::u166::u167::u168::u169::u170::u171::u172::u173::u174::u175::u176::u177::u178::u179::u180::u181::u182::u183::u184::u185::u186::u187::u188::u189::u190::u191::u192::u193::u194::u195::u196::u197::u198::u199::u200::u201::u202::u203::u204::u205::u206::u207::u208::u209::u210::u211::u212::u213::u214::u215::u216::u217::u218::u219::u220::[]).toArray,[]⟩ W:=by
 have HQ:=D hQ;have HR:=D hr;have HL:=D hl;have HX:=D hx;have Ui:=D hxl;have HE:=D he;have HP:=D hp;have HB:=D hb;have ON:=D (show dL=tn from by rw [<- hxl,<- hl,<- he,List.length_map]);have HM:=D hm;have IN:=D hin;clear hQ hr hl hx hxl he hp hb hm hin
 conv=>arg 2; whnf
 go_wp2
 go_loopw [127] (fun i wr=>∃ k:Nat,k<=tn/\i=O .i64 k/\Below W.heap.size W wr) (fun i _=>tn-(intOf i).toNat)
 case atStart=>exact⟨0,Nat.zero_le _,rfl,Below.refl _ _⟩
 case round =>
  obtain⟨k,hk,rfl,hbe⟩:=hrel;have BE:=D hbe;clear hbe;by_cases hlt:k<tn
  ·obtain⟨y,hy⟩:∃ y,tl[k]?=some y:=⟨_,J (by rw [HL.out]; exact hlt)⟩;obtain⟨x,hx,hxy⟩:=Eu HE.out hy;obtain⟨p,ix,_,px⟩:=kX Nm.IL HR.out rfl HL.out hy;have p0:wr.cell? p=some (O .i64 y):=by simpa [Addr.add] using px wr BE.out 0 _ rfl
   have ix:∀ w,(Instr.indexAt 25 (L gH tn tc) (O .i64 k)).run Tryz.prog w=.ok (U (some p)) w:=ix;obtain⟨q,iq,qx⟩:=elG HX.out rfl Ui.out hx;have q0:=(qx wr BE.out).1;rw [hxy] at q0;have hon:k<dL:=by rw [ON.out]; exact hlt
   have hne:(y != y)=false:=by simp
   have hw3:IntKind.i64.wrap ((k:Int)+1)=(k:Int)+1:=IntWalk.i64_in _ (by have:=HB.out; omega);have lk:=(HM.out.on BE.out).look y (IN.out y (K hy)).2;rw [decide_eq_true (IN.out y (K hy)).1] at lk;by_cases hk0:¬ 0<k
   ·clear px qx hy hx hxy;go_wp2
    all_goals first | (exfalso; omega) | skip
    go_roundw
    case rel=>exact⟨k+1,by omega,by go_num,BE.out⟩
    case measure=>simp [intOf]; omega
   ·have hk0:0<k:=by omega
    obtain⟨z,hz⟩:∃ z,tl[k-1]?=some z:=⟨_,J (by rw [HL.out]; omega)⟩;obtain⟨x',hx',hxz⟩:=Eu HE.out hz;obtain⟨q',iq',qx'⟩:=elG HX.out rfl Ui.out hx';have q1:=(qx' wr BE.out).1;rw [hxz] at q1;have hbn:tn<=1000:=HB.out;have hm1:((k-1:Nat):Int)=(k:Int)-1:=by omega
    have iq':∀ w,(Instr.indexAt 45 (L oo dL oc) (O .i64 ((k:Int)-1))).run Tryz.prog w=.ok (U (some q')) w:=by rw [<- hm1]; exact iq'
    clear hm1;have hlz:decide (z ≥ y)=false:=decide_eq_false (by have:=Mk HP.out hz hy (by omega); omega);clear px qx hy hx hxy hz qx' hx' hxz;go_wp2
    all_goals first | (exfalso; omega) | skip
    go_roundw
    case rel=>exact⟨k+1,by omega,by go_num,BE.out⟩
    case measure=>simp [intOf]; omega
  ·obtain rfl:tn=k:=by omega
   have HF:=D (fun v6 v19 v20 v127 v128 v129 v130 v131 v132 v133 v134 v135 v136 v137 v138 v139 v140 v141 v142 v143 v144 v145 v146 v147 v148 v149 v150 v151 v152 v153 v154 v155 v156 v157 v158 v159 v160 v161 v162 v163 v164 v165=>HQ.out wr v6 v19 v20 v127 v128 v129 v130 v131 v132 v133 v134 v135 v136 v137 v138 v139 v140 v141 v142 v143 v144 v145 v146 v147 v148 v149 v150 v151 v152 v153 v154 v155 v156 v157 v158 v159 v160 v161 v162 v163 v164 v165 BE.out);clear HQ;go_wp2;exact HF.out _ _ _ _ _ _ _ _ _ _ _ _ _ _ _ _ _ _ _ _ _ _ _ _ _ _ _ _ _ _ _ _ _ _ _ _ _ _ _ _ _ _
end Go.Proofs.YtkcfgbddlpomgaaGreat.Ca
