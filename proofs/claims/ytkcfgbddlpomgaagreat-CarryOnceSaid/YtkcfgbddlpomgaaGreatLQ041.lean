/-
  CarryOnce's loop ove. Conditions as told.
-/
import Derived.Test.YtkcfgbddlpomgaaGreatLQ040
set_option maxRecDepth 100000
set_option maxHeartbeats 64000000
open Go.Lib renaming hid->D
open Go.Value renaming slice->L,pointer->O,int->V
open _root_.List renaming getElem?_eq_some_iff->J,getElem?_eq_getElem->K
open _root_.Option renaming some->U
namespace Go.Proofs.YtkcfgbddlpomgaaGreat.Ca
open Go.RowKit Go.Sort Rw YtkcfgbddlpomgaaGreat.Nm Pr Bk Av Rl Sb Fl
theorem Eu {α:Type} {f:α->Int} {l:List α} {m:List Int} (h:l.map f=m) {k:Nat} {y:Int} (hy:m[k]?=U y):∃ x,l[k]?=U x/\f x=y:=by
 subst h;rw [List.getElem?_map] at hy;cases hl:l[k]? with
 | none=>rw [hl] at hy; cases hy
 | some x=>rw [hl] at hy; exact⟨x,rfl,Option.some.inj hy⟩
theorem Mk {m:List Int} (h:m.Pairwise (·<·)) {i j:Nat} {x y:Int} (hx:m[i]?=U x) (hy:m[j]?=U y) (hij:i<j):x<y:=by
 obtain⟨hi,rfl⟩:=J.1 hx;obtain⟨hj,rfl⟩:=J.1 hy;exact List.pairwise_iff_getElem.1 h i j hi hj hij
noncomputable def adL:Code:=((Tryz.f4.body.bind (gL 0)).getD .skip)
theorem abx (Q:Exit->Act->World->Prop) (W:World) (oo gH:Option Addr) (dL oc tn tc:Nat) (tl:List Int) (lx:List mU) (bA:Nat) (par:Int) (ya yb yc:Value) (u0 u1 u2 u3 u4 u5 u6 u7 u8 u9 u11 u13 u14 u15 u16 u17 u18 u19 u20 u21 u22 u23 u24 u25 u26 u27 u28 u29 u30 u31 u32 u33 u34 u35 u36 u37 u38 u39 u40 u41 u42 u43 u44 u45 u46 u47 u48 u49 u50 u51 u52 u53 u54 u55 u56 u57 u58 u59 u60 u61 u62 u63 u64 u68 u69 u70 u71 u72 u73 u74 u75 u76 u77 u78 u79 u80 u81 u82 u83 u84 u85 u86 u87 u88 u89 u90 u91 u92 u93 u94 u95 u96 u97 u98 u99 u100 u101 u102 u103 u104 u105 u106 u107 u108 u109 u110 u111 u112 u113 u114 u115 u116 u117 u118 u119 u120 u121 u122 u123 u124 u125 u126 u127 u128 u129 u130 u131 u132 u133 u134 u135 u136 u137 u138 u139 u140 u141 u142 u143 u144 u145 u146 u147 u148 u149 u150 u151 u152 u153 u154 u155 u156 u157 u158 u159 u160 u161 u162 u163 u164 u165 u166 u167 u168 u169 u170 u171 u172 u173 u174 u175 u176 u177 u178 u179 u180 u181 u182 u183 u184 u185 u186 u187 u188 u189 u190 u191 u192 u193 u194 u195 u196 u197 u198 u199 u200 u201 u202 u203 u204 u205 u206 u207 u208 u209 u210 u211 u212 u213 u214 u215 u216 u217 u218 u219 u220:Value)
  (hr:qH W (L gH tn tc) tl) (hl:tl.length=tn) (hx:DN W (L oo dL oc) lx) (hxl:lx.length=dL) (he:lx.map (·.1)=tl) (hp:tl.Pairwise (·<·)) (hb:tn<=1000) (hA:dI W bA #[ya,yb,yc,V .i64 par] 53) (hpar:∀ y∈tl,y≠par)
  (hQ:∀ (wr:World) (v6 v14 v15 v67 v68 v69 v70 v71 v72 v73 v74 v75 v76 v77 v78 v79 v80 v81 v82 v83 v84 v85 v86 v87 v88 v89 v90 v91 v92 v93 v94 v95 v96 v97 v98 v99 v100 v101 v102 v103 v104 v105:Value),Below W.heap.size W wr->Q .normal ⟨(u0::u1::u2::u3::u4::u5::v6::u7::u8::u9::O (U ⟨bA,0,none⟩)::u11::L oo dL oc::u13::v14::v15::u16::u17::u18::u19::u20::u21::u22::u23::u24::u25::u26::u27::u28::u29::u30::u31::u32::u33::u34::u35::u36::u37::u38::u39::u40::u41::u42::u43::u44::u45::u46::u47::u48::u49::u50::u51::u52::u53::u54::u55::u56::u57::u58::u59::u60::u61::u62::u63::u64::L gH tn tc::V .i64 (tn:Int)::v67::v68::v69::v70::v71::v72::v73::v74::v75::v76::v77::v78::v79::v80::v81::v82::v83::v84::v85::v86::v87::v88::v89::v90::v91::v92::v93::v94::v95::v96::v97::v98::v99::v100::v101::v102::v103::v104::v105::u106::u107::u108::u109::u110::u111::u112::u113::u114::u115::u116::u117::u118::u119::u120::u121::u122::u123::u124::u125::u126::u127::u128::u129::u130::u131::u132::u133::u134::u135::u136::u137::u138::u139::u140::u141::u142::u143::u144::u145::u146::u147::u148::u149::u150::u151::u152::u153::u154::u155::u156::u157::u158::u159::u160::u161::u162::u163::u164::u165::u166::u167::u168::u169::u170::u171::u172::u173::u174::u175::u176::u177::u178::u179::u180::u181::u182::u183::u184::u185::u186::u187::u188::u189::u190::u191::u192::u193::u194::u195::u196::u197::u198::u199::u200::u201::u202::u203::u204::u205::u206::u207::u208::u209::u210::u211::u212::u213::u214::u215::u216::u217::u218::u219::u220::[]).toArray,[]⟩ wr) :
  Code.wp Tryz.prog adL Q ⟨(u0::u1::u2::u3::u4::u5::u6::u7::u8::u9::O (U ⟨bA,0,none⟩)::u11::L oo dL oc::u13::u14::u15::u16::u17::u18::u19::u20::u21::u22::u23::u24::u25::u26::u27::u28::u29::u30::u31::u32::u33::u34::u35::u36::u37::u38::u39::u40::u41::u42::u43::u44::u45::u46::u47::u48::u49::u50::u51::u52::u53::u54::u55::u56::u57::u58::u59::u60::u61::u62::u63::u64::L gH tn tc::V .i64 (tn:Int)::V .i64 0::u68::u69::u70::u71::u72::u73::u74::u75::u76::u77::u78::u79::u80::u81::u82::u83::u84::u85::u86::u87::u88::u89::u90::u91::u92::u93::u94::u95::u96::u97::u98::u99::u100::u101::u102::u103::u104::u105::u106::u107::u108::u109::u110::u111::u112::u113::u114::u115::u116::u117::u118::u119::u120::u121::u122::u123::u124::u125::u126::u127::u128::u129::u130::u131::u132::u133::u134::u135::u136::u137::u138::u139::u140::u141::u142::u143::u144::u145::u146::u147::u148::u149::u150::u151::u152::u153::u154::u155::u156::u157::u158::u159::u160::u161::u162::u163::u164::u165::u166::u167::u168::u169::u170::u171::u172::u173::u174::u175::u176::u177::u178::u179::u180::u181::u182::u183::u184::u185::u186::u187::u188::u189::u190::u191::u192::u193::u194::u195::u196::u197::u198::u199::u200::u201::u202::u203::u204::u205::u206::u207::u208::u209::u210::u211::u212::u213::u214::u215::u216::u217::u218::u219::u220::[]).toArray,[]⟩ W:=by
 have HQ:=D hQ;have HR:=D hr;have HL:=D hl;have HX:=D hx;have Ui:=D hxl;have HE:=D he;have HP:=D hp;have HB:=D hb;have ON:=D (show dL=tn from by rw [<- hxl,<- hl,<- he,List.length_map]);have HA:=D hA;have PA:=D hpar;clear hQ hr hl hx hxl he hp hb hA hpar
 conv=>arg 2; whnf
 go_wp2
 go_loopw [67] (fun i wr=>∃ k:Nat,k<=tn/\i=V .i64 k/\Below W.heap.size W wr) (fun i _=>tn-(intOf i).toNat)
 case atStart=>exact⟨0,Nat.zero_le _,rfl,Below.refl _ _⟩
 case round =>
  obtain⟨k,hk,rfl,hbe⟩:=hrel;have BE:=D hbe;clear hbe;by_cases hlt:k<tn
  ·obtain⟨y,hy⟩:∃ y,tl[k]?=U y:=⟨_,K (by rw [HL.out]; exact hlt)⟩;obtain⟨x,hx,hxy⟩:=Eu HE.out hy;obtain⟨p,ix,_,px⟩:=kX Nm.IL HR.out rfl HL.out hy;have p0:wr.cell? p=U (V .i64 y):=by simpa [Addr.add] using px wr BE.out 0 _ rfl
   have ix:∀ w,(Instr.indexAt 25 (L gH tn tc) (V .i64 k)).run Tryz.prog w=.ok (O (U p)) w:=ix;obtain⟨q,iq,qx⟩:=elU HX.out rfl Ui.out hx;have q0:=(qx wr BE.out).1;rw [hxy] at q0;have hon:k<dL:=by rw [ON.out]; exact hlt
   have hne:(y != y)=false:=by simp
   have hw3:IntKind.i64.wrap ((k:Int)+1)=(k:Int)+1:=IntWalk.i64_in _ (by have:=HB.out; omega);have a3:=(HA.out.on BE.out).cell 3;simp only [List.getElem?_toArray,List.getElem?_cons_zero,List.getElem?_cons_succ] at a3;have hpe:(y == par)=false:=by simpa using PA.out y (List.mem_of_getElem? hy)
   by_cases hk0:¬ 0<k
   ·clear px qx hy hx hxy;go_wp2
    all_goals first | (exfalso; omega) | skip
    go_roundw
    case rel=>exact⟨k+1,by omega,by go_num,BE.out⟩
    case measure=>simp [intOf]; omega
   ·have hk0:0<k:=by omega
    obtain⟨z,hz⟩:∃ z,tl[k-1]?=U z:=⟨_,K (by rw [HL.out]; omega)⟩;obtain⟨x',hx',hxz⟩:=Eu HE.out hz;obtain⟨q',iq',qx'⟩:=elU HX.out rfl Ui.out hx';have q1:=(qx' wr BE.out).1;rw [hxz] at q1;have hbn:tn<=1000:=HB.out;have hm1:((k-1:Nat):Int)=(k:Int)-1:=by omega
    have iq':∀ w,(Instr.indexAt 44 (L oo dL oc) (V .i64 ((k:Int)-1))).run Tryz.prog w=.ok (O (U q')) w:=by rw [<- hm1]; exact iq'
    clear hm1;have hlz:decide (z ≥ y)=false:=decide_eq_false (by have:=Mk HP.out hz hy (by omega); omega);clear px qx hy hx hxy hz qx' hx' hxz;go_wp2
    all_goals first | (exfalso; omega) | skip
    go_roundw
    case rel=>exact⟨k+1,by omega,by go_num,BE.out⟩
    case measure=>simp [intOf]; omega
  ·obtain rfl:tn=k:=by omega
   have HF:=D (fun v6 v14 v15 v67 v68 v69 v70 v71 v72 v73 v74 v75 v76 v77 v78 v79 v80 v81 v82 v83 v84 v85 v86 v87 v88 v89 v90 v91 v92 v93 v94 v95 v96 v97 v98 v99 v100 v101 v102 v103 v104 v105=>HQ.out wr v6 v14 v15 v67 v68 v69 v70 v71 v72 v73 v74 v75 v76 v77 v78 v79 v80 v81 v82 v83 v84 v85 v86 v87 v88 v89 v90 v91 v92 v93 v94 v95 v96 v97 v98 v99 v100 v101 v102 v103 v104 v105 BE.out);clear HQ;go_wp2;exact HF.out _ _ _ _ _ _ _ _ _ _ _ _ _ _ _ _ _ _ _ _ _ _ _ _ _ _ _ _ _ _ _ _ _ _ _ _ _ _ _ _ _ _
end Go.Proofs.YtkcfgbddlpomgaaGreat.Ca
