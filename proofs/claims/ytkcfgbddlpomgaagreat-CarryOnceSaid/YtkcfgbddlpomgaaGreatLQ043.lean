/-
  CarryOnce's loop tha. Conditions as told.
-/
import Derived.Test.YtkcfgbddlpomgaaGreatLQ040
set_option maxRecDepth 100000
set_option maxHeartbeats 64000000
open _root_.Go renaming World->aj,Value->ak
open Go.IntKind renaming i64->U
open Go.Lib renaming hid->D
open Go.Value renaming slice->J,int->O,bool->ay
open _root_.List renaming getElem?_cons_zero->K,take_of_length_le->L,getElem?_toArray->V,getElem?_eq_getElem->X,getElem?_cons_succ->Y,mem_of_getElem?->Z,getElem?_eq_none_iff->ah,map_cons->au
namespace Go.Proofs.YtkcfgbddlpomgaaGreat
namespace Ca
open Go.RowKit Go.Sort Rw YtkcfgbddlpomgaaGreat.Nm Pr Bk Av Rl Sb Fl
noncomputable def adP:Code:=((Tryz.f4.body.bind (gL 8)).getD .skip)
theorem abz (Q:Exit->Act->aj->Prop) (W:aj) (bE:Nat) (f:Int) (ea eb ec ed ee eg:ak) (oo:Option Addr) (dL oc:Nat) (lx:List mU) (u0 u1 u2 u3 u4 u5 u6 u7 u8 u9 u10 u11 u13 u14 u15 u16 u17 u18 u19 u20 u21 u24 u25 u26 u27 u28 u29 u30 u31 u32 u33 u34 u35 u36 u37 u38 u39 u40 u41 u42 u43 u44 u45 u46 u47 u48 u49 u50 u51 u52 u53 u54 u55 u56 u57 u58 u59 u60 u61 u62 u63 u64 u65 u66 u67 u68 u69 u70 u71 u72 u73 u74 u75 u76 u77 u78 u79 u80 u81 u82 u83 u84 u85 u86 u87 u88 u89 u90 u91 u92 u93 u94 u95 u96 u97 u98 u99 u100 u101 u102 u103 u104 u105 u106 u107 u108 u109 u110 u111 u112 u113 u114 u115 u116 u117 u118 u119 u120 u121 u122 u123 u124 u125 u126 u127 u128 u129 u130 u131 u132 u133 u134 u135 u136 u137 u138 u139 u140 u141 u142 u143 u144 u145 u146 u147 u148 u149 u150 u151 u152 u153 u154 u155 u156 u157 u158 u159 u160 u161 u162 u163 u164 u165 u166 u167 u168 u169 u170 u171 u172 u173 u177 u178 u179 u180 u181 u182 u183 u184 u185 u186 u187 u188 u189 u190 u191 u192 u193 u194 u195 u196 u197 u198 u199 u200 u201 u202 u203 u204 u205 u206 u207 u208 u209 u210 u211 u212 u213 u214 u215 u216 u217 u218 u219 u220:ak)
  (hE:dI W bE #[ea,eb,ec,ed,ee,O U f,eg] 68) (hx:DN W (J oo dL oc) lx) (hxl:lx.length=dL) (hb:dL<=1000)
  (hQ:∀ (wr:aj) (v25 v176 v177 v178 v179 v180 v181 v182 v183 v184 v185 v186 v187 v188:ak),Below W.heap.size W wr->Q .normal ⟨(u0::u1::u2::u3::u4::u5::u6::u7::u8::u9::u10::u11::J oo dL oc::u13::u14::u15::u16::u17::u18::u19::u20::u21::.pointer (some ⟨bE,0,none⟩)::ay (lx.any fun x=>x.1 == f)::u24::v25::u26::u27::u28::u29::u30::u31::u32::u33::u34::u35::u36::u37::u38::u39::u40::u41::u42::u43::u44::u45::u46::u47::u48::u49::u50::u51::u52::u53::u54::u55::u56::u57::u58::u59::u60::u61::u62::u63::u64::u65::u66::u67::u68::u69::u70::u71::u72::u73::u74::u75::u76::u77::u78::u79::u80::u81::u82::u83::u84::u85::u86::u87::u88::u89::u90::u91::u92::u93::u94::u95::u96::u97::u98::u99::u100::u101::u102::u103::u104::u105::u106::u107::u108::u109::u110::u111::u112::u113::u114::u115::u116::u117::u118::u119::u120::u121::u122::u123::u124::u125::u126::u127::u128::u129::u130::u131::u132::u133::u134::u135::u136::u137::u138::u139::u140::u141::u142::u143::u144::u145::u146::u147::u148::u149::u150::u151::u152::u153::u154::u155::u156::u157::u158::u159::u160::u161::u162::u163::u164::u165::u166::u167::u168::u169::u170::u171::u172::u173::J oo dL oc::O U (dL:Int)::v176::v177::v178::v179::v180::v181::v182::v183::v184::v185::v186::v187::v188::u189::u190::u191::u192::u193::u194::u195::u196::u197::u198::u199::u200::u201::u202::u203::u204::u205::u206::u207::u208::u209::u210::u211::u212::u213::u214::u215::u216::u217::u218::u219::u220::[]).toArray,[]⟩ wr) :
  Code.wp Tryz.prog adP Q ⟨(u0::u1::u2::u3::u4::u5::u6::u7::u8::u9::u10::u11::J oo dL oc::u13::u14::u15::u16::u17::u18::u19::u20::u21::.pointer (some ⟨bE,0,none⟩)::ay false::u24::u25::u26::u27::u28::u29::u30::u31::u32::u33::u34::u35::u36::u37::u38::u39::u40::u41::u42::u43::u44::u45::u46::u47::u48::u49::u50::u51::u52::u53::u54::u55::u56::u57::u58::u59::u60::u61::u62::u63::u64::u65::u66::u67::u68::u69::u70::u71::u72::u73::u74::u75::u76::u77::u78::u79::u80::u81::u82::u83::u84::u85::u86::u87::u88::u89::u90::u91::u92::u93::u94::u95::u96::u97::u98::u99::u100::u101::u102::u103::u104::u105::u106::u107::u108::u109::u110::u111::u112::u113::u114::u115::u116::u117::u118::u119::u120::u121::u122::u123::u124::u125::u126::u127::u128::u129::u130::u131::u132::u133::u134::u135::u136::u137::u138::u139::u140::u141::u142::u143::u144::u145::u146::u147::u148::u149::u150::u151::u152::u153::u154::u155::u156::u157::u158::u159::u160::u161::u162::u163::u164::u165::u166::u167::u168::u169::u170::u171::u172::u173::J oo dL oc::O U (dL:Int)::O U 0::u177::u178::u179::u180::u181::u182::u183::u184::u185::u186::u187::u188::u189::u190::u191::u192::u193::u194::u195::u196::u197::u198::u199::u200::u201::u202::u203::u204::u205::u206::u207::u208::u209::u210::u211::u212::u213::u214::u215::u216::u217::u218::u219::u220::[]).toArray,[]⟩ W:=by
 have HQ:=D hQ;have HE:=D hE;have HX:=D hx;have Ui:=D hxl;clear hQ hE hx hxl
 conv=>arg 2; whnf
 go_wp2
 go_loopw [23,176] (fun v i wr=>∃ k:Nat,k<=dL/\i=O U k/\v=ay ((lx.take k).any fun x=>x.1 == f)/\Below W.heap.size W wr) (fun _ i _=>dL-(intOf i).toNat)
 case atStart=>exact⟨0,Nat.zero_le _,rfl,rfl,Below.refl _ _⟩
 case round =>
  obtain⟨k,hk,rfl,rfl,hbe⟩:=hrel;have BE:=D hbe;clear hbe;by_cases hlt:k<dL
  ·obtain⟨x,hx⟩:∃ x,lx[k]?=some x:=⟨_,X (by rw [Ui.out]; exact hlt)⟩;obtain⟨p,ix,px⟩:=elU HX.out rfl Ui.out hx;obtain⟨p0,p1,p2,p3,p4,p5,p6,p7⟩:=px wr BE.out;have AS:=D (any_succ (f:=fun x:mU=>x.1 == f) hx);obtain⟨r0,hr0⟩:∃ r,((lx.take k).any fun x=>x.1 == f)=r:=⟨_,rfl⟩;obtain⟨x1,x2,x3,x4,x5,x6,⟨xo,xn,xc⟩,⟨zo,zn,zc⟩⟩:=x;simp only at p0 p1 p2 p3 p4 p5 p6 p7;have NB:=D (fO wr (.cells #[O U x1,O U x2,O U x3,O U x4,O U x5,O U x6,J xo xn xc,J zo zn zc] 58));have e5:=((HE.out.on BE.out).on NB.out).cell 5;simp only [V,K,Y] at e5;have hw3:IntKind.i64.wrap ((k:Int)+1)=(k:Int)+1:=IntWalk.i64_in _ (by omega);have BF:=D (BE.out.trans (NB.out.mono BE.out.size));obtain⟨r,hr⟩:∃ r,(x1 == f)=r:=⟨_,rfl⟩;rw [hr0];rw [hr0] at AS;have AT:=D (show (lx.take (k+1)).any (fun x=>x.1 == f)=(r0 || r) from by rw [AS.out,<- hr]);clear px hx hr0 AS;cases r0
   ·go_wp2
    go_roundw
    case rel=>exact⟨k+1,by omega,by go_num,by rw [AT.out]; rfl,BF.out⟩
    case measure=>simp [intOf]; omega
   ·go_wp2
    go_roundw
    case rel=>exact⟨k+1,by omega,by go_num,by rw [AT.out]; rfl,BF.out⟩
    case measure=>simp [intOf]; omega
  ·obtain rfl:dL=k:=by omega
   have e:lx.take dL=lx:=L (by have:=Ui.out; omega);rw [e];clear e;have HF:=D (fun v25 v176 v177 v178 v179 v180 v181 v182 v183 v184 v185 v186 v187 v188=>HQ.out wr v25 v176 v177 v178 v179 v180 v181 v182 v183 v184 v185 v186 v187 v188 BE.out);clear HQ;go_wp2;exact HF.out _ _ _ _ _ _ _ _ _ _ _ _ _ _
theorem Ml (pv lv:ak) (p:List C5) (l:List An) (w:aj) (hp:fK w pv p) (hl:tX w lv l) (ok:dQ p) (nl:NL l) :
  Calls Tryz.prog 18 #[pv,lv] w fun e w'=>e=.returned (ay (mh p l))/\Below w.heap.size w w':=by
 obtain⟨a,na,rfl⟩:=ok;unfold mh;rw [oH];exact CF pv lv a l w hp hl na nl
def Iu (m:List Ow) (l:List An):List Int:=m.foldl (fun s o=>if mh o.p l then p8 s o.id.1 else s) []
theorem Iw {m:List Ow} {k:Nat} {o:Ow} (h:m[k]?=some o) (l:List An):Iu (m.take (k+1)) l=if mh o.p l then p8 (Iu (m.take k) l) o.id.1 else Iu (m.take k) l:=by
 obtain⟨h1,h2⟩:=List.getElem?_eq_some_iff.1 h;unfold Iu;rw [List.take_succ_eq_append_getElem h1,h2,List.foldl_append]
 rfl
theorem Uj (s:List Int) (x:Int):(p8 s x).length<=s.length+1:=by
 unfold p8
 split
 ·omega
 ·simp
theorem J5 (m:List Ow) (l:List An):∀ k,(Iu (m.take k) l).length<=k
 | 0=>by simp [Iu]
 | k+1=>by
  cases h:m[k]? with
  | none =>
   rw [L (by have:=ah.1 h; omega)];have h2:=J5 m l k;rw [L (by have:=ah.1 h; omega)] at h2;omega
  | some o =>
   rw [Iw h];have h2:=J5 m l k
   split
   ·have:=Uj (Iu (m.take k) l) o.id.1; omega
   ·omega
noncomputable def adQ:Code:=((Tryz.f4.body.bind (gL 2)).getD .skip)
theorem abA (Q:Exit->Act->aj->Prop) (W0 W:aj) (bm:Nat) (ao so:Option Addr) (an ac sn sc:Nat) (lw:List qK) (m:List Ow) (Mq:List An) (u0 u1 u2 u3 u4 u5 u6 u7 u8 u10 u11 u12 u13 u14 u15 u17 u18 u19 u20 u21 u22 u23 u24 u25 u26 u27 u28 u29 u30 u31 u32 u33 u34 u35 u36 u37 u38 u39 u40 u41 u42 u43 u44 u45 u46 u47 u48 u49 u50 u51 u52 u53 u54 u55 u56 u57 u58 u59 u60 u61 u62 u63 u64 u65 u66 u67 u68 u69 u70 u71 u72 u73 u74 u75 u76 u77 u78 u79 u80 u81 u82 u83 u84 u85 u86 u87 u88 u89 u90 u91 u92 u93 u94 u95 u96 u97 u98 u99 u100 u101 u102 u103 u104 u105 u106 u107 u111 u112 u113 u114 u115 u116 u117 u118 u119 u120 u121 u122 u123 u124 u125 u126 u127 u128 u129 u130 u131 u132 u133 u134 u135 u136 u137 u138 u139 u140 u141 u142 u143 u144 u145 u146 u147 u148 u149 u150 u151 u152 u153 u154 u155 u156 u157 u158 u159 u160 u161 u162 u163 u164 u165 u166 u167 u168 u169 u170 u171 u172 u173 u174 u175 u176 u177 u178 u179 u180 u181 u182 u183 u184 u185 u186 u187 u188 u189 u190 u191 u192 u193 u194 u195 u196 u197 u198 u199 u200 u201 u202 u203 u204 u205 u206 u207 u208 u209 u210 u211 u212 u213 u214 u215 u216 u217 u218 u219 u220:ak)
  (hW:Below W0.heap.size W0 W) (hbm:W0.heap.size<=bm) (hm:jr W bm []) (hs:I9 W0 (J so sn sc) lw) (hn:lw.length=sn) (hu:eu (Dr W0) lw m) (hok:∀ o∈m,dQ o.p) (hid:∀ o∈m,Gc o.id.1) (hl:tX W0 (J ao an ac) Mq) (nl:NL Mq) (hsn:sn<=900)
  (hQ:∀ (wr:aj) (v18 v110 v111 v112 v113 v114 v115 v116 v117 v118 v119 v120 v121 v122:ak),Below W0.heap.size W0 wr->jr wr bm (Iu m Mq)->Q .normal ⟨(u0::u1::u2::u3::u4::u5::u6::u7::u8::J ao an ac::u10::u11::u12::u13::u14::u15::.map (some bm)::u17::v18::u19::u20::u21::u22::u23::u24::u25::u26::u27::u28::u29::u30::u31::u32::u33::u34::u35::u36::u37::u38::u39::u40::u41::u42::u43::u44::u45::u46::u47::u48::u49::u50::u51::u52::u53::u54::u55::u56::u57::u58::u59::u60::u61::u62::u63::u64::u65::u66::u67::u68::u69::u70::u71::u72::u73::u74::u75::u76::u77::u78::u79::u80::u81::u82::u83::u84::u85::u86::u87::u88::u89::u90::u91::u92::u93::u94::u95::u96::u97::u98::u99::u100::u101::u102::u103::u104::u105::u106::u107::J so sn sc::O U (sn:Int)::v110::v111::v112::v113::v114::v115::v116::v117::v118::v119::v120::v121::v122::u123::u124::u125::u126::u127::u128::u129::u130::u131::u132::u133::u134::u135::u136::u137::u138::u139::u140::u141::u142::u143::u144::u145::u146::u147::u148::u149::u150::u151::u152::u153::u154::u155::u156::u157::u158::u159::u160::u161::u162::u163::u164::u165::u166::u167::u168::u169::u170::u171::u172::u173::u174::u175::u176::u177::u178::u179::u180::u181::u182::u183::u184::u185::u186::u187::u188::u189::u190::u191::u192::u193::u194::u195::u196::u197::u198::u199::u200::u201::u202::u203::u204::u205::u206::u207::u208::u209::u210::u211::u212::u213::u214::u215::u216::u217::u218::u219::u220::[]).toArray,[]⟩ wr) :
  Code.wp Tryz.prog adQ Q ⟨(u0::u1::u2::u3::u4::u5::u6::u7::u8::J ao an ac::u10::u11::u12::u13::u14::u15::.map (some bm)::u17::u18::u19::u20::u21::u22::u23::u24::u25::u26::u27::u28::u29::u30::u31::u32::u33::u34::u35::u36::u37::u38::u39::u40::u41::u42::u43::u44::u45::u46::u47::u48::u49::u50::u51::u52::u53::u54::u55::u56::u57::u58::u59::u60::u61::u62::u63::u64::u65::u66::u67::u68::u69::u70::u71::u72::u73::u74::u75::u76::u77::u78::u79::u80::u81::u82::u83::u84::u85::u86::u87::u88::u89::u90::u91::u92::u93::u94::u95::u96::u97::u98::u99::u100::u101::u102::u103::u104::u105::u106::u107::J so sn sc::O U (sn:Int)::O U 0::u111::u112::u113::u114::u115::u116::u117::u118::u119::u120::u121::u122::u123::u124::u125::u126::u127::u128::u129::u130::u131::u132::u133::u134::u135::u136::u137::u138::u139::u140::u141::u142::u143::u144::u145::u146::u147::u148::u149::u150::u151::u152::u153::u154::u155::u156::u157::u158::u159::u160::u161::u162::u163::u164::u165::u166::u167::u168::u169::u170::u171::u172::u173::u174::u175::u176::u177::u178::u179::u180::u181::u182::u183::u184::u185::u186::u187::u188::u189::u190::u191::u192::u193::u194::u195::u196::u197::u198::u199::u200::u201::u202::u203::u204::u205::u206::u207::u208::u209::u210::u211::u212::u213::u214::u215::u216::u217::u218::u219::u220::[]).toArray,[]⟩ W:=by
 have HQ:=D hQ;have HW:=D hW;have HBM:=D hbm;have HM0:=D hm;have HS:=D hs;have HN:=D hn;have HU:=D hu;have OK:=D hok;have ID:=D hid;have HL:=D hl;have HNL:=D nl;clear hQ hW hbm hm hs hn hu hok hid hl nl
 conv=>arg 2; whnf
 go_wp2
 go_loopw [110] (fun i wr=>∃ k:Nat,k<=sn/\i=O U k/\Below W0.heap.size W0 wr/\jr wr bm (Iu (m.take k) Mq)) (fun i _=>sn-(intOf i).toNat)
 case atStart=>exact⟨0,Nat.zero_le _,rfl,HW.out,by simpa [Iu] using HM0.out⟩
 case round =>
  obtain⟨k,hk,rfl,hbe,hmm⟩:=hrel;have BE:=D hbe;have HM:=D hmm;clear hbe hmm;by_cases hlt:k<sn
  ·obtain⟨y,hy⟩:∃ y,lw[k]?=some y:=⟨_,X (by rw [HN.out]; exact hlt)⟩;obtain⟨p,ix,px⟩:=elW HS.out rfl HN.out hy;obtain⟨p0,p1,p2⟩:=px wr BE.out;obtain⟨e,he,hin⟩:=xU HU.out k _ hy;have FS:=D (Iw he Mq);have IE:=D (ID.out e (Z he));obtain⟨y1,y2,⟨yo,yn,yc⟩⟩:=y;have hy1:y1=e.id.1:=congrArg Prod.fst hin.1;rw [<- hy1] at FS IE;simp only at p0 p1 p2;have NB:=D (fO wr (.cells #[O U y1,O U y2,J yo yn yc] 61));have BF:=D (BE.out.trans (NB.out.mono BE.out.size));have hx:=dK wr #[O U y1,O U y2,J yo yn yc] 61;have v2:=hx.cell 2;simp only [V,K,Y] at v2;have HX:=D hx;have HMN:=D (HM.out.on NB.out);have hw3:IntKind.i64.wrap ((k:Int)+1)=(k:Int)+1:=IntWalk.i64_in _ (by omega);have MC:=D (Ml (J yo yn yc) (J ao an ac) e.p Mq _ (hin.2.on BF.out) (HL.out.on BF.out) (OK.out e (Z he)) HNL.out);obtain⟨r,hr⟩:∃ r,mh e.p Mq=r:=⟨_,rfl⟩;rw [hr] at MC FS;clear px hy hx he hin hr hy1 HM;go_wp2_with fail;refine MC.out.mono ?_;rintro e1 w1 ⟨rfl,hb⟩;have B1:=D (BF.out.trans (hb.mono BF.out.size));have M1:=D (HMN.out.on hb);have X1:=D (HX.out.on hb);clear MC hb v2 p0 p1 p2 ix HMN HX NB;have LE:=D (J5 m Mq k);cases r
   ·go_wp2
    go_roundw
    case rel=>exact⟨k+1,by omega,by go_num,B1.out,by rw [FS.out]; exact M1.out⟩
    case measure=>simp [intOf]; omega
   ·have x0:=X1.out.cell 0;simp only [V,K] at x0;obtain⟨w2,ms,hm2,hg⟩:=M1.out.store y1 IE.out (by have:=LE.out; omega);have B2:=D (B1.out.grown hg (Nat.le_of_lt (Nat.lt_of_le_of_lt (Nat.le_refl _) (by have:=M1.out.lt; have:=HBM.out; have:=B1.out.size; omega))) fun j hj=>by obtain rfl:=Option.some.inj hj; exact HBM.out) ;have M2:=D hm2;clear hm2 hg M1 X1 LE;go_wp2
    go_roundw
    case rel=>exact⟨k+1,by omega,by go_num,B2.out,by rw [FS.out]; exact M2.out⟩
    case measure=>simp [intOf]; omega
  ·obtain rfl:sn=k:=by omega
   have e:m.take sn=m:=L (by have:=HN.out; have:=HU.out.len; omega);rw [e] at HM;clear e;have HF:=D (fun v18 v110 v111 v112 v113 v114 v115 v116 v117 v118 v119 v120 v121 v122=>HQ.out wr v18 v110 v111 v112 v113 v114 v115 v116 v117 v118 v119 v120 v121 v122 BE.out HM.out);clear HQ;go_wp2;exact HF.out _ _ _ _ _ _ _ _ _ _ _ _ _ _
noncomputable def adR:Code:=((Tryz.f4.body.bind (gL 6)).getD .skip)
theorem abB (Q:Exit->Act->aj->Prop) (W:aj) (ao oo so:Option Addr) (an ac dL oc sn sc:Nat) (le:List iF) (m:List En) (lx:List mU) (Mq:List An) (u0 u1 u2 u3 u4 u5 u6 u7 u8 u10 u11 u13 u14 u15 u16 u17 u18 u19 u20 u21 u22 u23 u24 u25 u26 u27 u28 u29 u30 u31 u32 u33 u34 u35 u36 u37 u38 u39 u40 u41 u42 u43 u44 u45 u46 u47 u48 u49 u50 u51 u52 u53 u54 u55 u56 u57 u58 u59 u60 u61 u62 u63 u64 u65 u66 u67 u68 u69 u70 u71 u72 u73 u74 u75 u76 u77 u78 u79 u80 u81 u82 u83 u84 u85 u86 u87 u88 u89 u90 u91 u92 u93 u94 u95 u96 u97 u98 u99 u100 u101 u102 u103 u104 u105 u106 u107 u108 u109 u110 u111 u112 u113 u114 u115 u116 u117 u118 u119 u120 u121 u122 u123 u124 u125 u126 u127 u128 u129 u130 u131 u132 u133 u134 u135 u136 u137 u138 u139 u140 u141 u142 u143 u144 u145 u146 u147 u148 u149 u150 u151 u152 u153 u154 u155 u156 u157 u158 u159 u160 u161 u162 u163 u164 u165 u166 u167 u171 u172 u173 u174 u175 u176 u177 u178 u179 u180 u181 u182 u183 u184 u185 u186 u187 u188 u189 u190 u191 u192 u193 u194 u195 u196 u197 u198 u199 u200 u201 u202 u203 u204 u205 u206 u207 u208 u209 u210 u211 u212 u213 u214 u215 u216 u217 u218 u219 u220:ak)
  (hs:kC W (J so sn sc) le) (hn:le.length=sn) (hu:eu (je W) le m) (hok:∀ e∈m,dQ e.p) (hl:tX W (J ao an ac) Mq) (nl:NL Mq) (hx:DN W (J oo dL oc) lx) (hxl:lx.length=dL) (hb:dL<=1000) (hsn:sn<=1000) (hh:∀ e∈m,e.from_≠-1->mh e.p Mq=true->(lx.any fun x=>x.1 == e.from_)=true)
  (hQ:∀ (wr:aj) (v6 v22 v23 v25 v170 v171 v172 v173 v174 v175 v176 v177 v178 v179 v180 v181 v182 v183 v184 v185 v186 v187 v188 v189 v190 v191 v192 v193 v194 v195 v196 v197 v198 v199 v200 v201 v202:ak),Below W.heap.size W wr->Q .normal ⟨(u0::u1::u2::u3::u4::u5::v6::u7::u8::J ao an ac::u10::u11::J oo dL oc::u13::u14::u15::u16::u17::u18::u19::u20::u21::v22::v23::u24::v25::u26::u27::u28::u29::u30::u31::u32::u33::u34::u35::u36::u37::u38::u39::u40::u41::u42::u43::u44::u45::u46::u47::u48::u49::u50::u51::u52::u53::u54::u55::u56::u57::u58::u59::u60::u61::u62::u63::u64::u65::u66::u67::u68::u69::u70::u71::u72::u73::u74::u75::u76::u77::u78::u79::u80::u81::u82::u83::u84::u85::u86::u87::u88::u89::u90::u91::u92::u93::u94::u95::u96::u97::u98::u99::u100::u101::u102::u103::u104::u105::u106::u107::u108::u109::u110::u111::u112::u113::u114::u115::u116::u117::u118::u119::u120::u121::u122::u123::u124::u125::u126::u127::u128::u129::u130::u131::u132::u133::u134::u135::u136::u137::u138::u139::u140::u141::u142::u143::u144::u145::u146::u147::u148::u149::u150::u151::u152::u153::u154::u155::u156::u157::u158::u159::u160::u161::u162::u163::u164::u165::u166::u167::J so sn sc::O U (sn:Int)::v170::v171::v172::v173::v174::v175::v176::v177::v178::v179::v180::v181::v182::v183::v184::v185::v186::v187::v188::v189::v190::v191::v192::v193::v194::v195::v196::v197::v198::v199::v200::v201::v202::u203::u204::u205::u206::u207::u208::u209::u210::u211::u212::u213::u214::u215::u216::u217::u218::u219::u220::[]).toArray,[]⟩ wr) :
  Code.wp Tryz.prog adR Q ⟨(u0::u1::u2::u3::u4::u5::u6::u7::u8::J ao an ac::u10::u11::J oo dL oc::u13::u14::u15::u16::u17::u18::u19::u20::u21::u22::u23::u24::u25::u26::u27::u28::u29::u30::u31::u32::u33::u34::u35::u36::u37::u38::u39::u40::u41::u42::u43::u44::u45::u46::u47::u48::u49::u50::u51::u52::u53::u54::u55::u56::u57::u58::u59::u60::u61::u62::u63::u64::u65::u66::u67::u68::u69::u70::u71::u72::u73::u74::u75::u76::u77::u78::u79::u80::u81::u82::u83::u84::u85::u86::u87::u88::u89::u90::u91::u92::u93::u94::u95::u96::u97::u98::u99::u100::u101::u102::u103::u104::u105::u106::u107::u108::u109::u110::u111::u112::u113::u114::u115::u116::u117::u118::u119::u120::u121::u122::u123::u124::u125::u126::u127::u128::u129::u130::u131::u132::u133::u134::u135::u136::u137::u138::u139::u140::u141::u142::u143::u144::u145::u146::u147::u148::u149::u150::u151::u152::u153::u154::u155::u156::u157::u158::u159::u160::u161::u162::u163::u164::u165::u166::u167::J so sn sc::O U (sn:Int)::O U 0::u171::u172::u173::u174::u175::u176::u177::u178::u179::u180::u181::u182::u183::u184::u185::u186::u187::u188::u189::u190::u191::u192::u193::u194::u195::u196::u197::u198::u199::u200::u201::u202::u203::u204::u205::u206::u207::u208::u209::u210::u211::u212::u213::u214::u215::u216::u217::u218::u219::u220::[]).toArray,[]⟩ W:=by
 have HQ:=D hQ;have HS:=D hs;have HN:=D hn;have HU:=D hu;have OK:=D hok;have HL:=D hl;have HNL:=D nl;have HX:=D hx;have Ui:=D hxl;have HB:=D hb;have HH:=D hh;clear hQ hs hn hu hok hl nl hx hxl hb hh
 conv=>arg 2; whnf
 go_wp2
 go_loopw [170] (fun i wr=>∃ k:Nat,k<=sn/\i=O U k/\Below W.heap.size W wr) (fun i _=>sn-(intOf i).toNat)
 case atStart=>exact⟨0,Nat.zero_le _,rfl,Below.refl _ _⟩
 case round =>
  obtain⟨k,hk,rfl,hbe⟩:=hrel;have BE:=D hbe;clear hbe;by_cases hlt:k<sn
  ·obtain⟨y,hy⟩:∃ y,le[k]?=some y:=⟨_,X (by rw [HN.out]; exact hlt)⟩;obtain⟨p,ix,px⟩:=Px HS.out rfl HN.out hy;obtain⟨p0,p1,p2,p3,p4,p5,p6⟩:=px wr BE.out;obtain⟨e,he,hin⟩:=xU HU.out k _ hy;have hem:=Z he;obtain⟨y1,y2,y3,y4,⟨yo,yn,yc⟩,y6,y7⟩:=y;have hf:y6=e.from_:=hin.2.2.1;simp only at p0 p1 p2 p3 p4 p5 p6;have MC:=D (fun w (hb':Below W.heap.size W w)=>Ml (J yo yn yc) (J ao an ac) e.p Mq w (hin.2.2.2.2.on hb') (HL.out.on hb') (OK.out e hem) HNL.out);have HE:=D (HH.out e hem);rw [<- hf] at HE;obtain⟨t,ht⟩:∃ r,mh e.p Mq=r:=⟨_,rfl⟩;rw [ht] at MC HE;have NB:=D (fO wr (.cells #[O U y1,O U y2,O U y3,O U y4,J yo yn yc,O U y6,ay y7] 68));have HX1:=D (dK wr #[O U y1,O U y2,O U y3,O U y4,J yo yn yc,O U y6,ay y7] 68);have BF:=D (BE.out.trans (NB.out.mono BE.out.size));have hw3:IntKind.i64.wrap ((k:Int)+1)=(k:Int)+1:=IntWalk.i64_in _ (by omega);clear px hy he hin hf ht hem
   go_upto_block 8 with (fail)
   refine abz _ (wr.alloc (.cells #[O U y1,O U y2,O U y3,O U y4,J yo yn yc,O U y6,ay y7] 68)) wr.heap.size y6 _ _ _ _ _ _ oo dL oc lx _ _ _ _ _ _ _ _ _ _ _ _ _ _ _ _ _ _ _ _ _ _ _ _ _ _ _ _ _ _ _ _ _ _ _ _ _ _ _ _ _ _ _ _ _ _ _ _ _ _ _ _ _ _ _ _ _ _ _ _ _ _ _ _ _ _ _ _ _ _ _ _ _ _ _ _ _ _ _ _ _ _ _ _ _ _ _ _ _ _ _ _ _ _ _ _ _ _ _ _ _ _ _ _ _ _ _ _ _ _ _ _ _ _ _ _ _ _ _ _ _ _ _ _ _ _ _ _ _ _ _ _ _ _ _ _ _ _ _ _ _ _ _ _ _ _ _ _ _ _ _ _ _ _ _ _ _ _ _ _ _ _ _ _ _ _ _ _ _ _ _ _ _ _ _ _ _ _ _ _ _ _ _ _ _ _ _ _ _ _ _ _ _ _ _ _ _ _ _ _ _ _ _ _ _ _ _ _ _ _ _ _ _ _ _ HX1.out (HX.out.on BF.out) Ui.out HB.out ?_;intro w1 v25 v176 v177 v178 v179 v180 v181 v182 v183 v184 v185 v186 v187 v188 hb1;have B1:=D (BF.out.trans (hb1.mono BF.out.size));have X1:=D (HX1.out.on hb1);clear hb1 p0 p1 p2 p3 p4 p5 p6 ix NB HX1 BE BF;obtain⟨h,hh⟩:∃ r,(lx.any fun x=>x.1 == y6)=r:=⟨_,rfl⟩;rw [hh];rw [hh] at HE;clear hh;have x4:=X1.out.cell 4;have x5:=X1.out.cell 5;simp only [V,K,Y] at x4 x5;obtain⟨r,hr⟩:∃ r,(y6 != -1)=r:=⟨_,rfl⟩;have HR:=D hr;cases r
   ·go_wp2
    go_roundw
    case rel=>exact⟨k+1,by omega,by go_num,B1.out⟩
    case measure=>simp [intOf]; omega
   ·go_wp2_with fail;refine (MC.out _ B1.out).mono ?_;rintro e1 w2 ⟨rfl,hb⟩;have B2:=D (B1.out.trans (hb.mono B1.out.size));clear MC hb x4 x5 X1 B1;cases t
    ·go_wp2
     go_roundw
     case rel=>exact⟨k+1,by omega,by go_num,B2.out⟩
     case measure=>simp [intOf]; omega
    ·have h1:h=true:=HE.out (by simpa using HR.out) rfl;subst h1;go_wp2
     go_roundw
     case rel=>exact⟨k+1,by omega,by go_num,B2.out⟩
     case measure=>simp [intOf]; omega
  ·obtain rfl:sn=k:=by omega
   have HF:=D (fun v6 v22 v23 v25 v170 v171 v172 v173 v174 v175 v176 v177 v178 v179 v180 v181 v182 v183 v184 v185 v186 v187 v188 v189 v190 v191 v192 v193 v194 v195 v196 v197 v198 v199 v200 v201 v202=>HQ.out wr v6 v22 v23 v25 v170 v171 v172 v173 v174 v175 v176 v177 v178 v179 v180 v181 v182 v183 v184 v185 v186 v187 v188 v189 v190 v191 v192 v193 v194 v195 v196 v197 v198 v199 v200 v201 v202 BE.out);clear HQ;go_wp2;exact HF.out _ _ _ _ _ _ _ _ _ _ _ _ _ _ _ _ _ _ _ _ _ _ _ _ _ _ _ _ _ _ _ _ _ _ _ _ _
theorem Uk {b:Br} (hn:b.near=oP b.near.length) {n:Int} (h:n∈b.near):1<=n:=by
 rw [hn] at h;obtain⟨j,_,rfl⟩:=List.mem_map.1 h;omega
theorem Xi {b:Br} (h:sV b) (hn:b.near=oP b.near.length) {t:eG} {l:List An} {a:Ad} (hf:fP b.dM t=some a):∀ n∈toB b t l,n≠a.par:=fun n hm e=>by
 obtain⟨h1,h2⟩:=List.mem_filter.1 hm;obtain⟨en,h3,h4⟩:=List.any_eq_true.1 h2;unfold Wm at h4;simp only [Bool.and_eq_true,decide_eq_true_eq] at h4;have h5:=h.ok.Ld en h3;unfold uS at h5;rw [h4.1,hf] at h5;simp only [Bool.and_eq_true,Bool.not_eq_true',Bool.and_eq_false_iff,beq_eq_false_iff_ne,ne_eq,Bool.not_eq_false',beq_iff_eq] at h5;have h6:=Uk hn h1;rcases h5.1 with g|g
 ·exact g (h4.2.1.trans e)
 ·omega
theorem Ul {s:List Int} {x y:Int}:y∈p8 s x↔y∈s\/y=x:=by
 unfold p8
 split
 ·rename_i hin
  exact⟨Or.inl,fun h=>h.elim id fun e=>e ▸ hin⟩
 ·simp
theorem J6 {s:List Int} (h:s.Nodup) (x:Int):(p8 s x).Nodup:=by
 unfold p8
 split
 ·exact h
 ·rename_i hx
  rw [List.nodup_append];exact⟨h,by simp,fun a ha b hb=>by simp at hb; subst hb; exact fun e=>hx (e ▸ ha)⟩
theorem Aa (l:List An):∀ (m:List Ow) (s:List Int),(∀ n,n∈m.foldl (fun s o=>if mh o.p l then p8 s o.id.1 else s) s↔n∈s\/∃ o∈m,o.id.1=n/\mh o.p l=true)/\(s.Nodup->(m.foldl (fun s o=>if mh o.p l then p8 s o.id.1 else s) s).Nodup)
 | [],s=>⟨fun n=>by simp,id⟩
 | o::m,s=>by
  obtain⟨h1,h2⟩:=Aa l m (if mh o.p l then p8 s o.id.1 else s);refine⟨fun n=>?_,fun hs=>h2 ?_⟩
  ·rw [List.foldl_cons,h1];cases hh:mh o.p l
   ·simp [hh]
   ·simp only [if_true,Ul,List.mem_cons,exists_eq_or_imp,hh,and_true,or_assoc];rw [show (n=o.id.1)=(o.id.1=n) from propext eq_comm]
  ·split
   ·exact J6 hs _
   ·exact hs
theorem Ev {b:Br} (h:sV b) {l:List An} {n:Int}:n∈Iu b.own l↔n∈rO b l:=by
 rw [Im h];unfold Iu;rw [(Aa l b.own []).1];simp
theorem Xj {b:Br} (h:sV b) (l:List An):(Iu b.own l).length=(rO b l).length:=by
 have n1:(Iu b.own l).Nodup:=(Aa l b.own []).2 List.nodup_nil;have n2:(rO b l).Nodup:=(wN b l).imp fun h=>Int.ne_of_lt h;exact Nat.le_antisymm (vP _ _ n1 fun x hx=>(Ev h).1 hx) (vP _ _ n2 fun x hx=>(Ev h).2 hx)
theorem Iy {W:aj} {k:Int} {t x:eG} {l:List An}:∀ {lx:List mU} {ns:List Int},eu (Ym W) lx (AV k t x l ns)->lx.map (·.1)=ns
 | [],[],_=>rfl
 | [],_::_,h=>by cases h
 | _::_,[],h=>by cases h
 | y::lx,n::ns,h=>by
  cases h with
  | cons h1 h2=>rw [au,Iy (ns:=ns) h2,h1.1]
theorem Iz {W:aj} {x:eG} {l:List An}:∀ {lx:List yX} {ns:List Int},eu (DlA W) lx (Es x l ns)->lx.map (·.1)=ns
 | [],[],_=>rfl
 | [],_::_,h=>by cases h
 | _::_,[],h=>by cases h
 | y::lx,n::ns,h=>by
  cases h with
  | cons h1 h2=>rw [au,Iz (ns:=ns) h2,h1.1]
theorem Um {b:Br} {t:eG} {l:List An} {a:Ad} (hf:fP b.dM t=some a):jX b a.par t l=(toB b t l,rO b l):=by
 have h:(b.dM.find? fun a=>decide (a.id=t))=some a:=hf;unfold jX;rw [h];simp
end Ca
namespace Fl
open Go.RowKit Go.Sort Rw YtkcfgbddlpomgaaGreat.Nm Pr Bk Av Rl Sb
structure adS (b:Br) (f:Int) (p:List C5):Prop where
 few:Py b
 J2:xC b
 ok:jB b
 ls:b.seen.length<=899
 la:b.dM.length<=899
 lo:b.ent.length+b.own.length<=900
 pe:∀ e∈b.ent,dQ e.p
 po:∀ o∈b.own,dQ o.p
 pp:dQ p
 co:jQ b.near f=true
 rp:Wr.iV p=true
end Fl
namespace Sb
open Go.RowKit Go.Sort Rw YtkcfgbddlpomgaaGreat.Nm Pr Bk Av Rl
end Sb
namespace Fl
open Go.RowKit Go.Sort Rw YtkcfgbddlpomgaaGreat.Nm Pr Bk Av Rl Sb
structure Cut (b c:Br) (t:eG) (f:Int):Prop where
 dM:adS c f []
 none_:fP c.dM t=none
 un:zF c f t=(c,[])
 anew:kF c f t []=(c,[])
 len:c.dM.length+1=b.dM.length
 br:qF c.ent t=[]
 seen:t∈c.seen
 mem:∀ e∈b.ent,e.tree≠t->e∈c.ent
end Fl
end Go.Proofs.YtkcfgbddlpomgaaGreat
