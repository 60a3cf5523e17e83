/-
  CarryWant's region t. Conditions as told.
-/
import Derived.Test.YtkcfgbddlpomgaaGreatOQ046
set_option maxRecDepth 100000
set_option maxHeartbeats 64000000
open _root_.Go renaming Addr->V,World->ak,Value->au
open Go.Lib renaming hid->Y
open Go.Operand renaming tmp->U
open Go.RowKit.Below renaming refl->L
open Go.Value renaming slice->J,pointer->O,int->ah,agg->ay
open _root_.Option renaming some->X,none->aj
open _root_.Or renaming inr->Z
namespace Go.Proofs.YtkcfgbddlpomgaaGreat.Ca
open Go.RowKit Go.Sort Rw YtkcfgbddlpomgaaGreat.Nm Pr Bk Av Rl Sb Fl
def ZW (B:Nat) (_bB _bT:Nat) (b:Br) (s1:Option V) (s2 s3:Nat) (s4:Option V) (s5 s6:Nat) (s7:Option V) (s8 s9:Nat) (s10:Option V) (s11 s12:Nat) (s13:Option V) (s14 s15:Nat) (t1:Int) (m1:Option V) (m2 m3:Nat) (l:List An) (i:Nat) (v:au) (x:ak):Prop :=
 match i with
 | 0=>v=ay #[ah .i64 b.me,J s1 s2 s3,J s4 s5 s6,J s7 s8 s9,J s10 s11 s12,J s13 s14 s15]
 | 1=>v=ay #[ah .i64 t1,ah .i64 0]
 | 2=>v=J m1 m2 m3
 | 3=>∃ sl:Sl,v=dU sl/\kS x B (dU sl) (toB b (t1,0) l)
 | 4=>v=ay #[ah .i64 b.me,J s1 s2 s3,J s4 s5 s6,J s7 s8 s9,J s10 s11 s12,J s13 s14 s15]
 | 5=>v=J m1 m2 m3
 | 6=>∃ sl:Sl,v=dU sl/\kS x B (dU sl) (q8 b l)
 | 7=>∃ sl:Sl,v=dU sl/\kS x B (dU sl) (toB b (t1,0) l)
 | 8=>∃ sl:Sl,v=dU sl/\kS x B (dU sl) (q8 b l)
 | _=>True
noncomputable def ag2:Code:=((Tryz.f6.body.bind (eP 5)).getD .skip)
theorem ZY (B:Nat) (bB bT:Nat) (b:Br) (s1:Option V) (s2 s3:Nat) (s4:Option V) (s5 s6:Nat) (s7:Option V) (s8 s9:Nat) (s10:Option V) (s11 s12:Nat) (s13:Option V) (s14 s15:Nat) (t1:Int) (m1:Option V) (m2 m3:Nat) (l:List An) (i:Nat) (v:au) (x x':ak) (h:ZW B bB bT b s1 s2 s3 s4 s5 s6 s7 s8 s9 s10 s11 s12 s13 s14 s15 t1 m1 m2 m3 l i v x) (hb:Below x.heap.size x x'):ZW B bB bT b s1 s2 s3 s4 s5 s6 s7 s8 s9 s10 s11 s12 s13 s14 s15 t1 m1 m2 m3 l i v x':=by
 by_cases hi:i<9
 ·rcases (by omega:i=0\/i=1\/i=2\/i=3\/i=4\/i=5\/i=6\/i=7\/i=8) with rfl|rfl|rfl|rfl|rfl|rfl|rfl|rfl|rfl
  ·exact h
  ·exact h
  ·exact h
  ·obtain⟨s,h1,h2⟩:=h; exact⟨s,h1,Bk.dG h2 hb⟩
  ·exact h
  ·exact h
  ·obtain⟨s,h1,h2⟩:=h; exact⟨s,h1,Bk.dG h2 hb⟩
  ·obtain⟨s,h1,h2⟩:=h; exact⟨s,h1,Bk.dG h2 hb⟩
  ·obtain⟨s,h1,h2⟩:=h; exact⟨s,h1,Bk.dG h2 hb⟩
 ·unfold ZW
  split <;> first | omega | trivial
theorem cw5 (Q:Exit->Act->ak->Prop) (W:ak) (bB bT:Nat) (b:Br) (s1:Option V) (s2 s3:Nat) (s4:Option V) (s5 s6:Nat) (s7:Option V) (s8 s9:Nat) (s10:Option V) (s11 s12:Nat) (s13:Option V) (s14 s15:Nat) (t1:Int) (m1:Option V) (m2 m3:Nat) (l:List An) (u0 u1 u2 u3 u4 u5 u6 u7 u8 u9 u10 u14 u15 u16 u17 u18 u19 u20 u21 u22 u23 u24 u25 u26 u27 u28 u29 u30 u31 u32 u33 u34 u35 u36 u37 u38 u39 u40 u41 u42 u43 u44 u45 u46 u47 u48 u49 u50 u51 u52 u53 u54 u55 u56 u57 u58 u59 u60 u61 u62 u63 u64 u65 u66 u67 u68 u69 u70 u71 u72 u73 u74 u75 u76 u77 u78 u79 u80 u81 u82 u83 u84 u85 u86 u87 u88 u89 u90 u91 u92 u93 u94 u95 u96 u97 u98 u99 u100 u101 u102 u103 u104 u105 u106 u107 u108 u109 u110 u111 u112 u113 u114 u115 u116 u117 u118 u119 u120 u121 u122 u123 u124 u125 u126 u127 u128 u129 u130 u131 u132 u133 u134 u135 u136 u137 u138 u139 u140 u141 u142 u143 u144 u145 u146 u147 u148 u149 u150 u151 u152 u153 u154 u155 u156 u157 u158 u159 u160 u161:au)
  (xb:dN W bB #[ah .i64 b.me,J s1 s2 s3,J s4 s5 s6,J s7 s8 s9,J s10 s11 s12,J s13 s14 s15] 33) (xt:dN W bT #[ah .i64 t1,ah .i64 0] 38) (bn:vY W b (s1,s2,s3) (s4,s5,s6) (s7,s8,s9) (s10,s11,s12) (s13,s14,s15)) (cb:qU b) (hl:wH W (J m1 m2 m3) l) (nl:NL l)
  (hQ:∀ (x:ak) (o1:Option V) (o2 o3:Nat) (p1:Option V) (p2 p3:Nat) (v48 v49 v50 v51 v52 v53 v54:au),Below W.heap.size W x->kS x W.heap.size (J o1 o2 o3) (toB b (t1,0) l)->kS x W.heap.size (J p1 p2 p3) (q8 b l)->Q .normal ⟨(u0::u1::u2::u3::u4::u5::u6::u7::u8::u9::u10::O (X ⟨bB,0,aj⟩)::O (X ⟨bT,0,aj⟩)::J m1 m2 m3::u14::(J o1 o2 o3)::(J p1 p2 p3)::u17::u18::u19::u20::u21::u22::u23::u24::u25::u26::u27::u28::u29::u30::u31::u32::u33::u34::u35::u36::u37::u38::u39::u40::u41::u42::u43::u44::u45::u46::u47::v48::v49::v50::v51::v52::v53::v54::u55::u56::u57::u58::u59::u60::u61::u62::u63::u64::u65::u66::u67::u68::u69::u70::u71::u72::u73::u74::u75::u76::u77::u78::u79::u80::u81::u82::u83::u84::u85::u86::u87::u88::u89::u90::u91::u92::u93::u94::u95::u96::u97::u98::u99::u100::u101::u102::u103::u104::u105::u106::u107::u108::u109::u110::u111::u112::u113::u114::u115::u116::u117::u118::u119::u120::u121::u122::u123::u124::u125::u126::u127::u128::u129::u130::u131::u132::u133::u134::u135::u136::u137::u138::u139::u140::u141::u142::u143::u144::u145::u146::u147::u148::u149::u150::u151::u152::u153::u154::u155::u156::u157::u158::u159::u160::u161::[]).toArray,[]⟩ x) :
  Code.wp Tryz.prog ag2 Q ⟨(u0::u1::u2::u3::u4::u5::u6::u7::u8::u9::u10::O (X ⟨bB,0,aj⟩)::O (X ⟨bT,0,aj⟩)::J m1 m2 m3::u14::u15::u16::u17::u18::u19::u20::u21::u22::u23::u24::u25::u26::u27::u28::u29::u30::u31::u32::u33::u34::u35::u36::u37::u38::u39::u40::u41::u42::u43::u44::u45::u46::u47::u48::u49::u50::u51::u52::u53::u54::u55::u56::u57::u58::u59::u60::u61::u62::u63::u64::u65::u66::u67::u68::u69::u70::u71::u72::u73::u74::u75::u76::u77::u78::u79::u80::u81::u82::u83::u84::u85::u86::u87::u88::u89::u90::u91::u92::u93::u94::u95::u96::u97::u98::u99::u100::u101::u102::u103::u104::u105::u106::u107::u108::u109::u110::u111::u112::u113::u114::u115::u116::u117::u118::u119::u120::u121::u122::u123::u124::u125::u126::u127::u128::u129::u130::u131::u132::u133::u134::u135::u136::u137::u138::u139::u140::u141::u142::u143::u144::u145::u146::u147::u148::u149::u150::u151::u152::u153::u154::u155::u156::u157::u158::u159::u160::u161::[]).toArray,[]⟩ W:=by
 have HQ:=Y hQ;have XB:=Y xb;have XT:=Y xt;have HB:=Y bn;have CB:=Y cb;have HL:=Y hl;have HN:=Y nl;clear hQ xb xt bn cb hl nl;have iN:=ZY W.heap.size bB bT b s1 s2 s3 s4 s5 s6 s7 s8 s9 s10 s11 s12 s13 s14 s15 t1 m1 m2 m3 l;unfold ag2
 conv=>arg 2; whnf
 have nd:∀ j,(∀ i,i<9->[48,49,50,51,52,53,54,15,16].getD i 0≠j)->∀ i,i<9->(fun i=>[48,49,50,51,52,53,54,15,16].getD i 0) i≠j:=fun j h=>h;refine Rg.fM 9 9 (fun i=>[48,49,50,51,52,53,54,15,16].getD i 0) (fun _=>9) (ZW W.heap.size bB bT b s1 s2 s3 s4 s5 s6 s7 s8 s9 s10 s11 s12 s13 s14 s15 t1 m1 m2 m3 l) (by kernel_rfl) (by kernel_rfl) rfl (by decide) (fun i j hi hj h=>(by decide:∀ i,i<9->∀ j,j<9->[48,49,50,51,52,53,54,15,16].getD i 0=[48,49,50,51,52,53,54,15,16].getD j 0->i=j) i hi j hj h) (fun i hi=>(by decide:∀ i,i<9->[48,49,50,51,52,53,54,15,16].getD i 0<162) i hi) ?_ (fun h=>absurd h (by decide)) (fun kk o h1 h2=>by omega) ?_
 ·intro i o hi ho a x D hnd hc hD hb seen K hK;clear HQ;rcases (by omega:i=0\/i=1\/i=2\/i=3\/i=4\/i=5\/i=6\/i=7\/i=8) with rfl|rfl|rfl|rfl|rfl|rfl|rfl|rfl|rfl
  ·cases ho;have e11:a.eval (U 11)=O (X ⟨bB,0,aj⟩):=seen.kp 11 _ (nd 11 (by decide)) rfl;obtain⟨y0,y1,y2,y3,y4,y5⟩:=(XB.out.on hb).fB;exact Rg.dD rfl rfl (Rg.dZ a.eval _ 33 (U 11) rfl (by rw [e11]; simp [go_sem,y0,y1,y2,y3,y4,y5])) (hK _ _ rfl (L _ _) fun _ _ _ _ _ _ _ h=>h)
  ·cases ho;have e12:a.eval (U 12)=O (X ⟨bT,0,aj⟩):=seen.kp 12 _ (nd 12 (by decide)) rfl;obtain⟨y0,y1⟩:=(XT.out.on hb).cs2;exact Rg.dD rfl rfl (Rg.dZ a.eval _ 38 (U 12) rfl (by rw [e12]; simp [go_sem,y0,y1])) (hK _ _ rfl (L _ _) fun _ _ _ _ _ _ _ h=>h)
  ·cases ho;have e13:a.eval (U 13)=J m1 m2 m3:=seen.kp 13 _ (nd 13 (by decide)) rfl;exact Rg.dD rfl rfl (Rg.fQ a.eval _ (U 13) rfl x) (hK _ _ e13 (L _ _) fun _ _ _ _ _ _ _ h=>h)
  ·cases ho;have e48:a.eval (U 48)=ay #[ah .i64 b.me,J s1 s2 s3,J s4 s5 s6,J s7 s8 s9,J s10 s11 s12,J s13 s14 s15]:=seen.at_ ⟨0,.data⟩ (by simp) rfl (Z (by decide));have e49:a.eval (U 49)=ay #[ah .i64 t1,ah .i64 0]:=seen.at_ ⟨1,.data⟩ (by simp) rfl (Z (by decide));have e50:a.eval (U 50)=J m1 m2 m3:=seen.at_ ⟨2,.data⟩ (by simp) rfl (Z (by decide));exact Rg.gH rfl rfl (yh a.eval _ (U 48) (U 49) (U 50) 33 38 39 17 rfl e48 e49 e50 rfl _ (fT Tryz.func17 rfl rfl _ _)) (nO b (s1,s2,s3) (s4,s5,s6) (s7,s8,s9) (s10,s11,s12) (s13,s14,s15) (t1,0) (m1,m2,m3) l x (HB.out.br.on hb) CB.out (HL.out.on hb) HN.out) fun e w1 h=>by
    obtain⟨⟨s,rfl,q1⟩,q2⟩:=h;exact⟨_,rfl,hK _ _ ⟨s,rfl,dJ q1 hb.size⟩ (q2.mono hb.size) fun j u _ _ _ _ _ h=>iN j u _ _ h q2⟩
  ·cases ho;have e11:a.eval (U 11)=O (X ⟨bB,0,aj⟩):=seen.kp 11 _ (nd 11 (by decide)) rfl;obtain⟨y0,y1,y2,y3,y4,y5⟩:=(XB.out.on hb).fB;exact Rg.dD rfl rfl (Rg.dZ a.eval _ 33 (U 11) rfl (by rw [e11]; simp [go_sem,y0,y1,y2,y3,y4,y5])) (hK _ _ rfl (L _ _) fun _ _ _ _ _ _ _ h=>h)
  ·cases ho;have e13:a.eval (U 13)=J m1 m2 m3:=seen.kp 13 _ (nd 13 (by decide)) rfl;exact Rg.dD rfl rfl (Rg.fQ a.eval _ (U 13) rfl x) (hK _ _ e13 (L _ _) fun _ _ _ _ _ _ _ h=>h)
  ·cases ho;have e52:a.eval (U 52)=ay #[ah .i64 b.me,J s1 s2 s3,J s4 s5 s6,J s7 s8 s9,J s10 s11 s12,J s13 s14 s15]:=seen.at_ ⟨4,.data⟩ (by simp) rfl (Z (by decide));have e53:a.eval (U 53)=J m1 m2 m3:=seen.at_ ⟨5,.data⟩ (by simp) rfl (Z (by decide));exact Rg.gH rfl rfl (Rw.pE a.eval _ (U 52) (U 53) 33 39 19 rfl e52 e53 rfl _ (fT Tryz.func19 rfl rfl _ _)) (Gy b (s1,s2,s3) (s4,s5,s6) (s7,s8,s9) (s10,s11,s12) (s13,s14,s15) (m1,m2,m3) l x (HB.out.br.on hb) CB.out (HL.out.on hb) HN.out) fun e w1 h=>by
    obtain⟨⟨s,rfl,q1⟩,q2⟩:=h;exact⟨_,rfl,hK _ _ ⟨s,rfl,dJ q1 hb.size⟩ (q2.mono hb.size) fun j u _ _ _ _ _ h=>iN j u _ _ h q2⟩
  ·cases ho;have E51:=seen.at_ ⟨3,.data⟩ (by simp) rfl (Z (by decide));obtain⟨s,q0,q1⟩:=E51;have q0:a.eval (U 51)=dU s:=q0;exact Rg.dD rfl rfl (Rg.jM a.eval _ (U 51) rfl x) (hK _ _ ⟨s,q0,q1⟩ (L _ _) fun _ _ _ _ _ _ _ h=>h)
  ·cases ho;have E54:=seen.at_ ⟨6,.data⟩ (by simp) rfl (Z (by decide));obtain⟨s,q0,q1⟩:=E54;have q0:a.eval (U 54)=dU s:=q0;exact Rg.dD rfl rfl (Rg.jM a.eval _ (U 54) rfl x) (hK _ _ ⟨s,q0,q1⟩ (L _ _) fun _ _ _ _ _ _ _ h=>h)
 ·intro a w' df sz kp ⟨vs,hv⟩ hb;have Sm:a.tmps.size=162:=sz;have g48:a.tmps[48]?=X (vs 0):=(hv 0 (by omega)).1;have g49:a.tmps[49]?=X (vs 1):=(hv 1 (by omega)).1;have g50:a.tmps[50]?=X (vs 2):=(hv 2 (by omega)).1;have g51:a.tmps[51]?=X (vs 3):=(hv 3 (by omega)).1;have G51:=(hv 3 (by omega)).2 (by decide);have g52:a.tmps[52]?=X (vs 4):=(hv 4 (by omega)).1;have g53:a.tmps[53]?=X (vs 5):=(hv 5 (by omega)).1;have g54:a.tmps[54]?=X (vs 6):=(hv 6 (by omega)).1;have G54:=(hv 6 (by omega)).2 (by decide);have g15:a.tmps[15]?=X (vs 7):=(hv 7 (by omega)).1;have G15:=(hv 7 (by omega)).2 (by decide);have g16:a.tmps[16]?=X (vs 8):=(hv 8 (by omega)).1;have G16:=(hv 8 (by omega)).2 (by decide);obtain⟨⟨o1,o2,o3⟩,k15,ho⟩:=G15;rw [k15] at g15;have k15:=g15;obtain⟨⟨p1,p2,p3⟩,k16,hw⟩:=G16;rw [k16] at g16;have k16:=g16;have hfr:=Rg.Ji [15,16,48,49,50,51,52,53,54] [(J o1 o2 o3),(J p1 p2 p3),vs 0,vs 1,vs 2,vs 3,vs 4,vs 5,vs 6] df sz (fun d hd=>(by decide:∀ d∈[15,16,48,49,50,51,52,53,54],d<162) d hd) (fun j hj=>(kp j (fun i hi h=>hj (h ▸ (by decide:∀ i,i<9->[48,49,50,51,52,53,54,15,16].getD i 0∈[15,16,48,49,50,51,52,53,54]) i hi))).trans List.getElem?_toArray) rfl ⟨k15,k16,g48,g49,g50,g51,g52,g53,g54,trivial⟩;show Q .normal a w';rw [hfr];show Q .normal ⟨(u0::u1::u2::u3::u4::u5::u6::u7::u8::u9::u10::O (X ⟨bB,0,aj⟩)::O (X ⟨bT,0,aj⟩)::J m1 m2 m3::u14::(J o1 o2 o3)::(J p1 p2 p3)::u17::u18::u19::u20::u21::u22::u23::u24::u25::u26::u27::u28::u29::u30::u31::u32::u33::u34::u35::u36::u37::u38::u39::u40::u41::u42::u43::u44::u45::u46::u47::(vs 0)::(vs 1)::(vs 2)::(vs 3)::(vs 4)::(vs 5)::(vs 6)::u55::u56::u57::u58::u59::u60::u61::u62::u63::u64::u65::u66::u67::u68::u69::u70::u71::u72::u73::u74::u75::u76::u77::u78::u79::u80::u81::u82::u83::u84::u85::u86::u87::u88::u89::u90::u91::u92::u93::u94::u95::u96::u97::u98::u99::u100::u101::u102::u103::u104::u105::u106::u107::u108::u109::u110::u111::u112::u113::u114::u115::u116::u117::u118::u119::u120::u121::u122::u123::u124::u125::u126::u127::u128::u129::u130::u131::u132::u133::u134::u135::u136::u137::u138::u139::u140::u141::u142::u143::u144::u145::u146::u147::u148::u149::u150::u151::u152::u153::u154::u155::u156::u157::u158::u159::u160::u161::[]).toArray,[]⟩ w';exact HQ.out w' o1 o2 o3 p1 p2 p3 _ _ _ _ _ _ _ hb ho hw
end Go.Proofs.YtkcfgbddlpomgaaGreat.Ca
