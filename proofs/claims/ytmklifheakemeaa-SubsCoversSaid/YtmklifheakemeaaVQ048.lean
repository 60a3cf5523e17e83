/-
  SubsCovers' region t. Conditions as told.
-/
import Derived.Test.YtmklifheakemeaaVQ044
set_option maxRecDepth 100000
set_option maxHeartbeats 64000000
open _root_.Bool renaming false->Y
open _root_.Go renaming Addr->au,World->aB,Value->aD
open Go.IntKind renaming i64->aj
open Go.Lib renaming hid->X
open Go.Operand renaming tmp->U
open Go.Proofs.Ytmklifheakemeaa.Rg renaming dz->aA,dD->aF,dV->aH,eH->aI,iK->aJ,iW->aK,fH->aM,iE->aN
open Go.RowKit.Below renaming refl->L
open Go.Value renaming slice->J,pointer->O,bool->Z,int->ah,agg->aG
open _root_.Option renaming some->ak,none->ay
open _root_.Or renaming inr->aC,inl->aL
namespace Go.Proofs.Ytmklifheakemeaa.Sb
open Go.RowKit Go.Sort Rw Ytmklifheakemeaa.Nm Pr Bk Av Rl
def xq (W:aB) (B:Nat) (b:Br) (nv av sv ev ov:Sl):Prop:=∃ (V:aB) (B':Nat),B<=B'/\Cp (vw V) B' W b nv av sv ev ov
theorem Lr {W:aB} {B B1:Nat} {b:Br} {nv av sv ev ov:Sl} (h:∃ (V:aB) (B':Nat),B1<=B'/\Cp (vw V) B' W b nv av sv ev ov) (hB:B<=B1):xq W B b nv av sv ev ov:=by
 obtain⟨V,B',h1,h2⟩:=h;exact⟨V,B',Nat.le_trans hB h1,h2⟩
theorem xq.on {W W':aB} {B:Nat} {b:Br} {nv av sv ev ov:Sl} (h:xq W B b nv av sv ev ov) (hb:Below W.heap.size W W'):xq W' B b nv av sv ev ov:=by
 obtain⟨V,B',h1,h2⟩:=h;exact⟨V,B',h1,h2.grow hb⟩
theorem xq.keep {W W':aB} {B k:Nat} {me:Int} {s1 s2 s3 s4 s5:Sl} {b:Br} {nv av sv ev ov:Sl} (h:xq W B b nv av sv ev ov) (hb:dH W k (lT me s1 s2 s3 s4 s5) 31) (hk:But k W W'):xq W' B b nv av sv ev ov:=by
 obtain⟨V,B',h1,h2⟩:=h;exact⟨V,B',h1,h2.but hk hb⟩
theorem xq.Si {W:aB} {B:Nat} {b:Br} {nv av sv ev ov:Sl} (h:xq W B b nv av sv ev ov):l6 W b nv av sv ev ov:=by
 obtain⟨V,B',h1,h2⟩:=h;exact⟨h2.LX,_,h2.near⟩
theorem jg {α:Type} {E:Ek α} {W W':aB} {B g:Nat} {v:aD} {l:List α} (h:Own E W B v l) (hk:But g W W') (hg:g<B):Own E W' B v l:=by
 refine⟨h.1,?_⟩;rcases h.2 with h2|⟨g',cap,cur,h1,h2,h3,h4⟩
 ·exact aL h2
 ·exact aC ⟨g',cap,cur,h1,h2,by rw [hk.1 g' (lt_of_heap h3) (by omega)]; exact h3,h4⟩
theorem xq.lt {W W':aB} {B g:Nat} {b:Br} {nv av sv ev ov:Sl} (h:xq W B b nv av sv ev ov) (hk:But g W W') (hg:g<B):xq W' B b nv av sv ev ov:=by
 obtain⟨V,B',h1,h2⟩:=h;have hg':g<B':=Nat.lt_of_lt_of_le hg h1;refine⟨V,B',h1,jg h2.near hk hg',jg h2.seen hk hg',?_,?_,?_⟩
 ·obtain⟨l,q1,q2⟩:=h2.fI; exact⟨l,jg q1 hk hg',q2.mono fun _ _ q=>⟨q.1,q.2.1,q.2.2.imp id fun q=>jg q hk hg'⟩⟩
 ·obtain⟨l,q1,q2⟩:=h2.ent; exact⟨l,jg q1 hk hg',q2.mono fun _ _ q=>⟨q.1,q.2.1,q.2.2.1,q.2.2.2.1,q.2.2.2.2.imp id fun q=>jg q hk hg'⟩⟩
 ·obtain⟨l,q1,q2⟩:=h2.own; exact⟨l,jg q1 hk hg',q2.mono fun _ _ q=>⟨q.1,q.2.imp id fun q=>jg q hk hg'⟩⟩
theorem Jy {β:Type} {F:Ek β} {W W':aB} {B B1:Nat} {v:aD} {l:List β} {b:Br} {nv av sv ev ov:Sl} (ho:Own F W B1 v l) (gr:W.grownBy W' v.ownBlock) (h:xq W B b nv av sv ev ov) (hB:∀ g,v.ownBlock=ak g->g<B):xq W' B b nv av sv ev ov:=by
 rcases fD ho with⟨h1,_⟩|⟨g,c,cur,h1,_,h2,_⟩
 ·rw [h1] at gr;exact h.on ((L _ _).grown gr (Nat.le_refl _) (fun j hj=>by cases hj))
 ·rw [h1] at gr;exact h.lt (qU (b:=g) gr) (hB g (by rw [h1]; rfl))
theorem xg {β:Type} {F:Ek β} {W W':aB} {B1 k:Nat} {v:aD} {l:List β} {cs:Array aD} {t:TypeId} (ho:Own F W B1 v l) (gr:W.grownBy W' v.ownBlock) (h:dH W k cs t) (hk:∀ g,v.ownBlock=ak g->k≠g):dH W' k cs t:=by
 rcases fD ho with⟨h1,_⟩|⟨g,c,cur,h1,_,h2,_⟩
 ·rw [h1] at gr;exact h.on ((L _ _).grown gr (Nat.le_refl _) (fun j hj=>by cases hj))
 ·rw [h1] at gr;exact (qU (b:=g) gr).box h (hk g (by rw [h1]; rfl))
def Oy (_B:Nat) (_bB _bT _bX:Nat) (b:Br) (s1:Option au) (s2 s3:Nat) (s4:Option au) (s5 s6:Nat) (s7:Option au) (s8 s9:Nat) (s10:Option au) (s11 s12:Nat) (s13:Option au) (s14 s15:Nat) (t1 t2 x1 x2:Int) (po:Option au) (pn pc k:Nat) (pp:au) (h1:Option au) (h2 h3:Nat) (g1:Option au) (g2 g3:Nat) (has vals:List Int) (i:Nat) (v:aD) (x:aB):Prop :=
 match i with
 | 0=>v=iN b.me (s1,s2,s3) (s4,s5,s6) (s7,s8,s9) (s10,s11,s12) (s13,s14,s15)
 | 1=>v=aG #[ah aj t1,ah aj t2]
 | 2=>v=aG #[ah aj x1,ah aj x2]
 | 3=>v=J po pn pc
 | 4=>v=ah aj (k:Int)
 | 5=>v=O (ak pp)
 | 6=>v=aG #[J h1 h2 h3,J g1 g2 g3]
 | 7=>∃ sl:Sl,v=dR sl/\iy x v ((gN has vals 7).map r5)
 | 8=>∃ z:gM,v=kX z/\iC x z (⟨(t1,t2),(x1,x2),((gN has vals 7).map r5),1,Y⟩:En)
 | 9=>∃ nv av sv ev ov:Sl,v=.tuple #[iN (dU b (⟨(t1,t2),(x1,x2),((gN has vals 7).map r5),1,Y⟩:En)).1.me nv av sv ev ov,Z (dU b (⟨(t1,t2),(x1,x2),((gN has vals 7).map r5),1,Y⟩:En)).2]/\xq x _B (dU b (⟨(t1,t2),(x1,x2),((gN has vals 7).map r5),1,Y⟩:En)).1 nv av sv ev ov
 | 10=>∃ nv av sv ev ov:Sl,v=.tuple #[iN (dU b (⟨(t1,t2),(x1,x2),((gN has vals 7).map r5),1,Y⟩:En)).1.me nv av sv ev ov,Z (dU b (⟨(t1,t2),(x1,x2),((gN has vals 7).map r5),1,Y⟩:En)).2]/\xq x _B (dU b (⟨(t1,t2),(x1,x2),((gN has vals 7).map r5),1,Y⟩:En)).1 nv av sv ev ov
 | 11=>∃ nv av sv ev ov:Sl,v=iN (dU b (⟨(t1,t2),(x1,x2),((gN has vals 7).map r5),1,Y⟩:En)).1.me nv av sv ev ov/\xq x _B (dU b (⟨(t1,t2),(x1,x2),((gN has vals 7).map r5),1,Y⟩:En)).1 nv av sv ev ov
 | 12=>v=Z (dU b (⟨(t1,t2),(x1,x2),((gN has vals 7).map r5),1,Y⟩:En)).2
 | 13=>True
 | 14=>True
 | 15=>v=Z (dU b (⟨(t1,t2),(x1,x2),((gN has vals 7).map r5),1,Y⟩:En)).2
 | _=>True
noncomputable def J3:Code:=((Try.f3.body.bind (dZ 10)).getD .skip)
theorem QU (Q:Exit->Act->aB->Prop) (W:aB) (bB bT bX:Nat) (b:Br) (s1:Option au) (s2 s3:Nat) (s4:Option au) (s5 s6:Nat) (s7:Option au) (s8 s9:Nat) (s10:Option au) (s11 s12:Nat) (s13:Option au) (s14 s15:Nat) (t1 t2 x1 x2:Int) (po:Option au) (pn pc k:Nat) (pp:au) (h1:Option au) (h2 h3:Nat) (g1:Option au) (g2 g3:Nat) (has vals:List Int) (u1 u2 u3 u4 u7 u8 u11 u12 u13 u14 u15 u16 u17 u18 u19 u20 u21 u22 u23 u24 u25 u26 u27 u28 u29 u30 u31 u32 u33 u34 u35 u36 u37 u38 u39 u40 u41 u42 u43 u44 u45 u46 u47 u48 u49 u50 u51 u52 u53 u54 u55 u56 u57 u58 u59 u60 u61 u62 u63 u64 u65 u66 u67 u68 u69 u70 u71 u72 u73 u74 u75 u76 u77 u78 u79 u80 u81 u82 u83 u84 u85 u86 u87 u88 u89 u90 u91 u92 u93 u94 u95 u96 u97 u98 u99 u100 u101 u102 u103 u104 u105 u106 u107 u108 u109 u110 u111 u112 u113 u114 u115 u116 u117 u118 u119 u120 u121 u122 u123 u124 u125 u126 u127 u128 u129 u130 u131 u132 u133 u134 u135 u136 u137 u138 u139 u140 u141 u142 u143 u144 u145 u146 u147 u148 u149 u150 u151 u152 u153 u154 u155 u156 u157 u158 u159 u160 u161 u162 u163 u164 u165 u166 u167 u168 u169 u170 u171 u172 u173 u174 u175 u176 u177 u178 u179 u180 u181 u182 u183 u184 u185 u186 u187 u188 u189 u190 u191 u192 u193 u194 u195 u196 u197 u198 u199 u200 u201 u202 u203 u204 u205:aD)
  (eP:dH W bB #[ah aj b.me,J s1 s2 s3,J s4 s5 s6,J s7 s8 s9,J s10 s11 s12,J s13 s14 s15] 31) (bn:l6 W b (s1,s2,s3) (s4,s5,s6) (s7,s8,s9) (s10,s11,s12) (s13,s14,s15)) (fw:wM b) (fp:lW b) (re:fC b.ent) (ok:∀ e∈b.ent,eO e.p) (oe:eO ((gN has vals 7).map r5)) (Oz:(dU b (⟨(t1,t2),(x1,x2),((gN has vals 7).map r5),1,Y⟩:En)).1.ent≠b.ent) (xt:dH W bT #[ah aj t1,ah aj t2] 25) (xx:dH W bX #[ah aj x1,ah aj x2] 25) (ix:∀ w,(Instr.indexAt 22 (J po pn pc) (ah aj (k:Int))).run Try.prog w=.ok (O (ak pp)) w) (pb:pp.block<W.heap.size) (Nn:∀ (j:Nat) u,#[(J h1 h2 h3:aD),J g1 g2 g3][j]?=ak u->W.cell? (pp.add j)=ak u) (ih:In.gJ W (J h1 h2 h3) has) (iv:In.gJ W (J g1 g2 g3) vals) (lh:has.length<=maxLen) (lv:vals.length<=maxLen)
  (hQ:∀ (x:aB) (bb:Nat) (v49 v50 v51 v52 v53 v54 v55 v56 v57 v58 v59 v60 v61:aD) (m1:Option au) (m2 m3:Nat) (m4:Option au) (m5 m6:Nat) (m7:Option au) (m8 m9:Nat) (m10:Option au) (m11 m12:Nat) (m13:Option au) (m14 m15:Nat),W.heap.size<=bb->dH x bb #[ah aj (dU b (⟨(t1,t2),(x1,x2),((gN has vals 7).map r5),1,Y⟩:En)).1.me,J m1 m2 m3,J m4 m5 m6,J m7 m8 m9,J m10 m11 m12,J m13 m14 m15] 31->xq x W.heap.size (dU b (⟨(t1,t2),(x1,x2),((gN has vals 7).map r5),1,Y⟩:En)).1 (m1,m2,m3) (m4,m5,m6) (m7,m8,m9) (m10,m11,m12) (m13,m14,m15)->Below W.heap.size W x->Q .normal ⟨(J po pn pc::u1::u2::u3::u4::O (ak ⟨bT,0,ay⟩)::O (ak ⟨bB,0,ay⟩)::u7::u8::ah aj (k:Int)::O (ak ⟨bX,0,ay⟩)::O (ak ⟨bb,0,ay⟩)::Z (dU b (⟨(t1,t2),(x1,x2),((gN has vals 7).map r5),1,Y⟩:En)).2::u13::u14::u15::u16::u17::u18::u19::u20::u21::u22::u23::u24::u25::u26::u27::u28::u29::u30::u31::u32::u33::u34::u35::u36::u37::u38::u39::u40::u41::u42::u43::u44::u45::u46::u47::u48::v49::v50::v51::v52::v53::v54::v55::v56::v57::v58::v59::v60::v61::u62::u63::u64::u65::u66::u67::u68::u69::u70::u71::u72::u73::u74::u75::u76::u77::u78::u79::u80::u81::u82::u83::u84::u85::u86::u87::u88::u89::u90::u91::u92::u93::u94::u95::u96::u97::u98::u99::u100::u101::u102::u103::u104::u105::u106::u107::u108::u109::u110::u111::u112::u113::u114::u115::u116::u117::u118::u119::u120::u121::u122::u123::u124::u125::u126::u127::u128::u129::u130::u131::u132::u133::u134::u135::u136::u137::u138::u139::u140::u141::u142::u143::u144::u145::u146::u147::u148::u149::u150::u151::u152::u153::u154::u155::u156::u157::u158::u159::u160::u161::u162::u163::u164::u165::u166::u167::u168::u169::u170::u171::u172::u173::u174::u175::u176::u177::u178::u179::u180::u181::u182::u183::u184::u185::u186::u187::u188::u189::u190::u191::u192::u193::u194::u195::u196::u197::u198::u199::u200::u201::u202::u203::u204::u205::[]).toArray,[]⟩ x) :
  Code.wp Try.prog J3 Q ⟨(J po pn pc::u1::u2::u3::u4::O (ak ⟨bT,0,ay⟩)::O (ak ⟨bB,0,ay⟩)::u7::u8::ah aj (k:Int)::O (ak ⟨bX,0,ay⟩)::u11::u12::u13::u14::u15::u16::u17::u18::u19::u20::u21::u22::u23::u24::u25::u26::u27::u28::u29::u30::u31::u32::u33::u34::u35::u36::u37::u38::u39::u40::u41::u42::u43::u44::u45::u46::u47::u48::u49::u50::u51::u52::u53::u54::u55::u56::u57::u58::u59::u60::u61::u62::u63::u64::u65::u66::u67::u68::u69::u70::u71::u72::u73::u74::u75::u76::u77::u78::u79::u80::u81::u82::u83::u84::u85::u86::u87::u88::u89::u90::u91::u92::u93::u94::u95::u96::u97::u98::u99::u100::u101::u102::u103::u104::u105::u106::u107::u108::u109::u110::u111::u112::u113::u114::u115::u116::u117::u118::u119::u120::u121::u122::u123::u124::u125::u126::u127::u128::u129::u130::u131::u132::u133::u134::u135::u136::u137::u138::u139::u140::u141::u142::u143::u144::u145::u146::u147::u148::u149::u150::u151::u152::u153::u154::u155::u156::u157::u158::u159::u160::u161::u162::u163::u164::u165::u166::u167::u168::u169::u170::u171::u172::u173::u174::u175::u176::u177::u178::u179::u180::u181::u182::u183::u184::u185::u186::u187::u188::u189::u190::u191::u192::u193::u194::u195::u196::u197::u198::u199::u200::u201::u202::u203::u204::u205::[]).toArray,[]⟩ W:=by
 have HQ:=X hQ;have HB:=X eP;have BN:=X bn;have FW:=X fw;have FP:=X fp;have RE:=X re;have OK:=X ok;have OE:=X oe;have NEW:=X Oz;have HT:=X xt;have HX:=X xx;have IX:=X ix;have PB:=X pb;have PC:=X Nn;have IH:=X ih;have IV:=X iv;have LH:=X lh;have LV:=X lv;clear hQ eP bn fw fp re ok oe Oz xt xx ix pb Nn ih iv lh lv;unfold J3
 conv=>arg 2; whnf
 have nb0:∀ i,i<16->[50,51,52,53,54,55,56,57,58,59,49,60,61,11,11,12].getD i 0≠0:=by decide
 have KT:∀ i,i<16->[50,51,52,53,54,55,56,57,58,59,49,60,61,11,11,12].getD i 0≠5:=by decide
 have Ni:∀ i,i<16->[50,51,52,53,54,55,56,57,58,59,49,60,61,11,11,12].getD i 0≠6:=by decide
 have Uo:∀ i,i<16->[50,51,52,53,54,55,56,57,58,59,49,60,61,11,11,12].getD i 0≠9:=by decide
 have QV:∀ i,i<16->[50,51,52,53,54,55,56,57,58,59,49,60,61,11,11,12].getD i 0≠10:=by decide
 refine Rg.lF 16 13 14 11 (fun i=>[50,51,52,53,54,55,56,57,58,59,49,60,61,11,11,12].getD i 0) (fun i=>if i=7 then 8 else if i=8 then 9 else 16) (Oy W.heap.size bB bT bX b s1 s2 s3 s4 s5 s6 s7 s8 s9 s10 s11 s12 s13 s14 s15 t1 t2 x1 x2 po pn pc k pp h1 h2 h3 g1 g2 g3 has vals) 31 #[ah aj 0,J ay 0 0,J ay 0 0,J ay 0 0,J ay 0 0,J ay 0 0] (fun v=>match v with | aG c=>c | _=>#[]) (by kernel_rfl) (by kernel_rfl) rfl (by decide) (by decide) (by decide) (by decide) (by decide) (by decide) (by decide) (fun i j hi hj h1 h2 h=>(by decide:∀ i,i<16->∀ j,j<16->i≠14->j≠14->[50,51,52,53,54,55,56,57,58,59,49,60,61,11,11,12].getD i 0=[50,51,52,53,54,55,56,57,58,59,49,60,61,11,11,12].getD j 0->i=j) i hi j hj h1 h2 h) (fun i hi=>(by decide:∀ i,i<16->[50,51,52,53,54,55,56,57,58,59,49,60,61,11,11,12].getD i 0<206) i hi) ?_ ?_ ?_ ?_ ?_ ?_
 ·intro i v x x' hi h hb;rcases (by omega:i=0\/i=1\/i=2\/i=3\/i=4\/i=5\/i=6\/i=7\/i=8\/i=9\/i=10\/i=11\/i=12\/i=13\/i=14\/i=15) with rfl|rfl|rfl|rfl|rfl|rfl|rfl|rfl|rfl|rfl|rfl|rfl|rfl|rfl|rfl|rfl
  ·exact h
  ·exact h
  ·exact h
  ·exact h
  ·exact h
  ·exact h
  ·exact h
  ·obtain⟨s,h1,h2⟩:=h; exact⟨s,h1,h2.on hb⟩
  ·obtain⟨z,h1,h2⟩:=h; exact⟨z,h1,h2.on hb⟩
  ·obtain⟨a1,a2,a3,a4,a5,h1,h2⟩:=h; exact⟨a1,a2,a3,a4,a5,h1,h2.on hb⟩
  ·obtain⟨a1,a2,a3,a4,a5,h1,h2⟩:=h; exact⟨a1,a2,a3,a4,a5,h1,h2.on hb⟩
  ·obtain⟨a1,a2,a3,a4,a5,h1,h2⟩:=h; exact⟨a1,a2,a3,a4,a5,h1,h2.on hb⟩
  ·exact h
  ·exact h
  ·exact h
  ·exact h
 ·intro o ho;cases ho;exact⟨⟨⟨13,.data⟩,by simp,rfl,rfl⟩,⟨⟨11,.data⟩,by simp,rfl,rfl⟩⟩
 ·intro i o hi Ie qC ho a x hb seen K hK;clear HQ;rcases (by omega:i=0\/i=1\/i=2\/i=3\/i=4\/i=5\/i=6\/i=7\/i=8\/i=9\/i=10\/i=11\/i=12\/i=15) with rfl|rfl|rfl|rfl|rfl|rfl|rfl|rfl|rfl|rfl|rfl|rfl|rfl|rfl
  ·cases ho;have e6:a.eval (U 6)=O (ak ⟨bB,0,ay⟩):=seen.kp 6 _ Ni rfl;exact aA rfl rfl (aH a.eval _ 31 (U 6) rfl (by rw [e6]; exact oN (HB.out.on hb))) (hK _ x rfl (L _ _))
  ·cases ho;have e5:a.eval (U 5)=O (ak ⟨bT,0,ay⟩):=seen.kp 5 _ KT rfl;obtain⟨y0,y1⟩:=(HT.out.on hb).cs2;exact aA rfl rfl (aH a.eval _ 25 (U 5) rfl (by rw [e5]; simp [go_sem,y0,y1])) (hK _ x rfl (L _ _))
  ·cases ho;have e10:a.eval (U 10)=O (ak ⟨bX,0,ay⟩):=seen.kp 10 _ QV rfl;obtain⟨y0,y1⟩:=(HX.out.on hb).cs2;exact aA rfl rfl (aH a.eval _ 25 (U 10) rfl (by rw [e10]; simp [go_sem,y0,y1])) (hK _ x rfl (L _ _))
  ·cases ho;have e0:a.eval (U 0)=J po pn pc:=seen.kp 0 _ nb0 rfl;exact aA rfl rfl (aI a.eval _ (U 0) rfl x) (hK _ x e0 (L _ _))
  ·cases ho;have e9:a.eval (U 9)=ah aj (k:Int):=seen.kp 9 _ Uo rfl;exact aA rfl rfl (aI a.eval _ (U 9) rfl x) (hK _ x e9 (L _ _))
  ·cases ho;have e53:a.eval (U 53)=J po pn pc:=seen.at_ ⟨3,.data⟩ (by simp) rfl (by decide) (by decide) (aC (by decide));have e54:a.eval (U 54)=ah aj (k:Int):=seen.at_ ⟨4,.data⟩ (by simp) rfl (by decide) (by decide) (aC (by decide));exact aA rfl rfl (aN a.eval _ 22 (U 53) (U 54) rfl (by rw [e53,e54]; exact IX.out x)) (hK _ x rfl (L _ _))
  ·cases ho;have e55:a.eval (U 55)=O (ak pp):=seen.at_ ⟨5,.data⟩ (by simp) rfl (by decide) (by decide) (aC (by decide));have y0:=hb.cell (p:=pp.add 0) (by rw [iU]; exact PB.out);have y1:=hb.cell (p:=pp.add 1) (by rw [iU]; exact PB.out);rw [PC.out 0 _ rfl] at y0;rw [PC.out 1 _ rfl] at y1;exact aA rfl rfl (aH a.eval _ 40 (U 55) rfl (by rw [e55]; exact Bd y0 y1)) (hK _ x rfl (L _ _))
  ·cases ho;have e56:a.eval (U 56)=aG #[J h1 h2 h3,J g1 g2 g3]:=seen.at_ ⟨6,.data⟩ (by simp) rfl (by decide) (by decide) (aC (by decide));exact aM rfl rfl (Rw.gT a.eval _ (U 56) 40 8 rfl e56 rfl _ (eT Try.func8 rfl rfl _ _)) (sG (J h1 h2 h3) (J g1 g2 g3) has vals x (IH.out.on hb) (IV.out.on hb) LH.out LV.out) fun e w1 h=>by
    obtain⟨v,rfl,q1,q2⟩:=h;have q3:=Row.dM q1;obtain⟨a1,a2,hvv⟩:=q3.len;exact⟨_,rfl,hK _ _ ⟨(a1,_,a2),hvv,q3⟩ q2⟩
  ·cases ho;have e51:a.eval (U 51)=aG #[ah aj t1,ah aj t2]:=seen.at_ ⟨1,.data⟩ (by simp) rfl (by decide) (by decide) (aC (by decide));have e52:a.eval (U 52)=aG #[ah aj x1,ah aj x2]:=seen.at_ ⟨2,.data⟩ (by simp) rfl (by decide) (by decide) (aC (by decide));have Uq:=seen.at_ ⟨7,.data⟩ (by simp) rfl (by decide) (by decide) (aL rfl);obtain⟨⟨l1,l2,l3⟩,q0,q1⟩:=Uq;have q0:a.eval (U 57)=J l1 l2 l3:=q0;have q2:iy x (J l1 l2 l3) ((gN has vals 7).map r5):=by rw [<- q0]; exact q1
   exact aA rfl rfl (Rg.jw a.eval _ 43 #[(0,U 51),(1,U 52),(2,U 57),(3,.const (ah aj 1))] rfl (by simp only [List.map_toArray,List.map_cons,List.map_nil,e51,e52,q0]; rfl) (v:=aG #[ah aj t1,ah aj t2,ah aj x1,ah aj x2,J l1 l2 l3,ah aj 1,Z Y]) (by simp [go_sem])) (hK _ x ⟨(t1,t2,x1,x2,(l1,l2,l3),1,Y),rfl,rfl,rfl,rfl,rfl,q2⟩ (L _ _))
  ·cases ho;have e50:a.eval (U 50)=iN b.me (s1,s2,s3) (s4,s5,s6) (s7,s8,s9) (s10,s11,s12) (s13,s14,s15):=seen.at_ ⟨0,.data⟩ (by simp) rfl (by decide) (by decide) (aC (by decide));have Ur:=seen.at_ ⟨8,.data⟩ (by simp) rfl (by decide) (by decide) (aL rfl);obtain⟨z,q0,q1⟩:=Ur;exact aM rfl rfl (Rw.jh a.eval _ (U 50) (U 58) 31 43 7 rfl e50 q0 rfl _ (eT Try.func7 rfl rfl _ _)) (wh b (⟨(t1,t2),(x1,x2),((gN has vals 7).map r5),1,Y⟩:En) (s1,s2,s3) (s4,s5,s6) (s7,s8,s9) (s10,s11,s12) (s13,s14,s15) z x (BN.out.on hb).br q1 FW.out FP.out RE.out OK.out OE.out) fun e w1 h=>by
    obtain⟨⟨a1,a2,a3,a4,a5,rfl,_,_,_,h6⟩,h5⟩:=h;exact⟨_,rfl,hK _ _ ⟨a1,a2,a3,a4,a5,rfl,Lr (h6.resolve_left NEW.out) hb.size⟩ h5⟩
  ·cases ho;have Us:=seen.at_ ⟨9,.data⟩ (by simp) rfl (by decide) (by decide) (aC (by decide));exact aA rfl rfl (aI a.eval _ (U 59) rfl x) (hK _ x Us (L _ _))
  ·cases ho;have QW:=seen.at_ ⟨10,.data⟩ (by simp) rfl (by decide) (by decide) (aC (by decide));obtain⟨a1,a2,a3,a4,a5,h1,h2⟩:=QW;exact aA rfl rfl (fF a.eval _ (U 49) 0 rfl (c:=#[iN (dU b (⟨(t1,t2),(x1,x2),((gN has vals 7).map r5),1,Y⟩:En)).1.me a1 a2 a3 a4 a5,Z (dU b (⟨(t1,t2),(x1,x2),((gN has vals 7).map r5),1,Y⟩:En)).2]) h1 rfl x) (hK _ x ⟨a1,a2,a3,a4,a5,rfl,h2⟩ (L _ _))
  ·cases ho;have QW:=seen.at_ ⟨10,.data⟩ (by simp) rfl (by decide) (by decide) (aC (by decide));obtain⟨a1,a2,a3,a4,a5,h1,h2⟩:=QW;exact aA rfl rfl (fF a.eval _ (U 49) 1 rfl (c:=#[iN (dU b (⟨(t1,t2),(x1,x2),((gN has vals 7).map r5),1,Y⟩:En)).1.me a1 a2 a3 a4 a5,Z (dU b (⟨(t1,t2),(x1,x2),((gN has vals 7).map r5),1,Y⟩:En)).2]) h1 rfl x) (hK _ x rfl (L _ _))
  ·cases ho;have e61:a.eval (U 61)=Z (dU b (⟨(t1,t2),(x1,x2),((gN has vals 7).map r5),1,Y⟩:En)).2:=seen.at_ ⟨12,.data⟩ (by simp) rfl (by decide) (by decide) (aC (by decide));exact aA rfl rfl (Rg.ig a.eval _ (U 61) rfl x) (hK _ x e61 (L _ _))
 ·intro o ho a x K hK;cases ho;exact aA rfl rfl (Rg.mI a.eval _ 31 rfl (by simp [go_sem])) hK
 ·intro o ho a x bb v D hc hD hb hA hC qX hbb eP K hK;clear HQ;cases ho;obtain⟨⟨m1,m2,m3⟩,⟨m4,m5,m6⟩,⟨m7,m8,m9⟩,⟨m10,m11,m12⟩,⟨m13,m14,m15⟩,hv1,hv2⟩:=qX;subst hv1;have gK:=eZ x bb (ah aj (dU b (⟨(t1,t2),(x1,x2),((gN has vals 7).map r5),1,Y⟩:En)).1.me) (J m1 m2 m3) (J m4 m5 m6) (J m7 m8 m9) (J m10 m11 m12) (J m13 m14 m15);refine Rg.fK 31 (U 11) (U 60) rfl rfl rfl rfl hA hC (w':=iD x bb (ah aj (dU b (⟨(t1,t2),(x1,x2),((gN has vals 7).map r5),1,Y⟩:En)).1.me) (J m1 m2 m3) (J m4 m5 m6) (J m7 m8 m9) (J m10 m11 m12) (J m13 m14 m15)) (kS eP _ _ _ _ _ _ _ _ _ _ _ _ _ _ _ _) (hK _ (dQ hb hbb _ _ _ _ _ _) (eD eP _ _ _ _ _ _) ?_);exact fun j u hj O7 Mf hdj hnl hls h=>by
   rcases (by omega:j=0\/j=1\/j=2\/j=3\/j=4\/j=5\/j=6\/j=7\/j=8\/j=9\/j=10\/j=11\/j=12\/j=15) with rfl|rfl|rfl|rfl|rfl|rfl|rfl|rfl|rfl|rfl|rfl|rfl|rfl|rfl
   ·have h2:u=iN b.me (s1,s2,s3) (s4,s5,s6) (s7,s8,s9) (s10,s11,s12) (s13,s14,s15):=h; exact h2
   ·have h2:u=aG #[ah aj t1,ah aj t2]:=h; exact h2
   ·have h2:u=aG #[ah aj x1,ah aj x2]:=h; exact h2
   ·have h2:u=J po pn pc:=h; exact h2
   ·have h2:u=ah aj (k:Int):=h; exact h2
   ·have h2:u=O (ak pp):=h; exact h2
   ·have h2:u=aG #[J h1 h2 h3,J g1 g2 g3]:=h; exact h2
   ·exact absurd (hD ⟨8,.phase⟩ (by simp) rfl) hnl
   ·exact absurd (hD ⟨9,.chain⟩ (by simp) rfl) hnl
   ·obtain⟨a1,a2,a3,a4,a5,h1,h2⟩:=h; exact⟨a1,a2,a3,a4,a5,h1,h2.keep (s1:=(ay,0,0)) (s2:=(ay,0,0)) (s3:=(ay,0,0)) (s4:=(ay,0,0)) (s5:=(ay,0,0)) (me:=0) eP gK⟩
   ·obtain⟨a1,a2,a3,a4,a5,h1,h2⟩:=h; exact⟨a1,a2,a3,a4,a5,h1,h2.keep (s1:=(ay,0,0)) (s2:=(ay,0,0)) (s3:=(ay,0,0)) (s4:=(ay,0,0)) (s5:=(ay,0,0)) (me:=0) eP gK⟩
   ·obtain⟨a1,a2,a3,a4,a5,h1,h2⟩:=h; exact⟨a1,a2,a3,a4,a5,h1,h2.keep (s1:=(ay,0,0)) (s2:=(ay,0,0)) (s3:=(ay,0,0)) (s4:=(ay,0,0)) (s5:=(ay,0,0)) (me:=0) eP gK⟩
   ·have h2:u=Z (dU b (⟨(t1,t2),(x1,x2),((gN has vals 7).map r5),1,Y⟩:En)).2:=h; exact h2
   ·have h2:u=Z (dU b (⟨(t1,t2),(x1,x2),((gN has vals 7).map r5),1,Y⟩:En)).2:=h; exact h2
 ·intro a x bb v df sz kp gA gC hbb eP qX hbel ⟨vs,hv⟩;obtain⟨⟨m1,m2,m3⟩,⟨m4,m5,m6⟩,⟨m7,m8,m9⟩,⟨m10,m11,m12⟩,⟨m13,m14,m15⟩,hv1,hv2⟩:=qX;subst hv1;have g11:a.tmps[11]?=ak (O (ak ⟨bb,0,ay⟩)):=gA;have g12:a.tmps[12]?=ak (Z (dU b (⟨(t1,t2),(x1,x2),((gN has vals 7).map r5),1,Y⟩:En)).2):=by
   have h:vs 15=Z (dU b (⟨(t1,t2),(x1,x2),((gN has vals 7).map r5),1,Y⟩:En)).2:=(hv 15 (by decide) (by decide) (by decide)).2 (by decide);rw [<- h];exact (hv 15 (by decide) (by decide) (by decide)).1
  have jG:a.tmps.size=206:=sz;obtain⟨v49,g49⟩:=aF jG 49 (by decide);obtain⟨v50,g50⟩:=aF jG 50 (by decide);obtain⟨v51,g51⟩:=aF jG 51 (by decide);obtain⟨v52,g52⟩:=aF jG 52 (by decide);obtain⟨v53,g53⟩:=aF jG 53 (by decide);obtain⟨v54,g54⟩:=aF jG 54 (by decide);obtain⟨v55,g55⟩:=aF jG 55 (by decide);obtain⟨v56,g56⟩:=aF jG 56 (by decide);obtain⟨v57,g57⟩:=aF jG 57 (by decide);obtain⟨v58,g58⟩:=aF jG 58 (by decide);obtain⟨v59,g59⟩:=aF jG 59 (by decide);obtain⟨v60,g60⟩:=aF jG 60 (by decide);obtain⟨v61,g61⟩:=aF jG 61 (by decide);have hfr:=Rg.mO [11,12,49,50,51,52,53,54,55,56,57,58,59,60,61] [O (ak ⟨bb,0,ay⟩),Z (dU b (⟨(t1,t2),(x1,x2),((gN has vals 7).map r5),1,Y⟩:En)).2,v49,v50,v51,v52,v53,v54,v55,v56,v57,v58,v59,v60,v61] df sz (fun d hd=>(by decide:∀ d∈[11,12,49,50,51,52,53,54,55,56,57,58,59,60,61],d<206) d hd) (fun j hj=>(kp j (fun i hi h=>hj (h ▸ (by decide:∀ i,i<16->[50,51,52,53,54,55,56,57,58,59,49,60,61,11,11,12].getD i 0∈[11,12,49,50,51,52,53,54,55,56,57,58,59,60,61]) i hi))).trans List.getElem?_toArray) rfl ⟨g11,g12,g49,g50,g51,g52,g53,g54,g55,g56,g57,g58,g59,g60,g61,trivial⟩;rw [hfr];show Q .normal ⟨(J po pn pc::u1::u2::u3::u4::O (ak ⟨bT,0,ay⟩)::O (ak ⟨bB,0,ay⟩)::u7::u8::ah aj (k:Int)::O (ak ⟨bX,0,ay⟩)::O (ak ⟨bb,0,ay⟩)::Z (dU b (⟨(t1,t2),(x1,x2),((gN has vals 7).map r5),1,Y⟩:En)).2::u13::u14::u15::u16::u17::u18::u19::u20::u21::u22::u23::u24::u25::u26::u27::u28::u29::u30::u31::u32::u33::u34::u35::u36::u37::u38::u39::u40::u41::u42::u43::u44::u45::u46::u47::u48::v49::v50::v51::v52::v53::v54::v55::v56::v57::v58::v59::v60::v61::u62::u63::u64::u65::u66::u67::u68::u69::u70::u71::u72::u73::u74::u75::u76::u77::u78::u79::u80::u81::u82::u83::u84::u85::u86::u87::u88::u89::u90::u91::u92::u93::u94::u95::u96::u97::u98::u99::u100::u101::u102::u103::u104::u105::u106::u107::u108::u109::u110::u111::u112::u113::u114::u115::u116::u117::u118::u119::u120::u121::u122::u123::u124::u125::u126::u127::u128::u129::u130::u131::u132::u133::u134::u135::u136::u137::u138::u139::u140::u141::u142::u143::u144::u145::u146::u147::u148::u149::u150::u151::u152::u153::u154::u155::u156::u157::u158::u159::u160::u161::u162::u163::u164::u165::u166::u167::u168::u169::u170::u171::u172::u173::u174::u175::u176::u177::u178::u179::u180::u181::u182::u183::u184::u185::u186::u187::u188::u189::u190::u191::u192::u193::u194::u195::u196::u197::u198::u199::u200::u201::u202::u203::u204::u205::[]).toArray,[]⟩ x;exact HQ.out x bb _ _ _ _ _ _ _ _ _ _ _ _ _ m1 m2 m3 m4 m5 m6 m7 m8 m9 m10 m11 m12 m13 m14 m15 hbb eP hv2 hbel
theorem Jv (u:Bool) (x y:Operand) (w:aB):(do eqGuard .eql 4 x y (Z u) (Z (!u)); binOp .eql 4 (Z u) (Z (!u)):Sem aD).run Try.prog w=.ok (Z Y) w:=by
 cases u <;> simp [go_sem]
def JZ (_B:Nat) (_bB _bC _bT:Nat) (b c:Br) (s1:Option au) (s2 s3:Nat) (s4:Option au) (s5 s6:Nat) (s7:Option au) (s8 s9:Nat) (s10:Option au) (s11 s12:Nat) (s13:Option au) (s14 s15:Nat) (m1:Option au) (m2 m3:Nat) (m4:Option au) (m5 m6:Nat) (m7:Option au) (m8 m9:Nat) (m10:Option au) (m11 m12:Nat) (m13:Option au) (m14 m15:Nat) (t1 t2:Int) (u:Bool) (po:Option au) (pn pc k:Nat) (pp:au) (h1:Option au) (h2 h3:Nat) (g1:Option au) (g2 g3:Nat) (has vals:List Int) (i:Nat) (v:aD) (x:aB):Prop :=
 match i with
 | 0=>v=Z u
 | 1=>v=iN b.me (s1,s2,s3) (s4,s5,s6) (s7,s8,s9) (s10,s11,s12) (s13,s14,s15)
 | 2=>v=aG #[ah aj t1,ah aj t2]
 | 3=>v=J po pn pc
 | 4=>v=ah aj (k:Int)
 | 5=>v=O (ak pp)
 | 6=>v=aG #[J h1 h2 h3,J g1 g2 g3]
 | 7=>∃ sl:Sl,v=dR sl/\iy x v ((gN has vals 7).map r5)
 | 8=>v=Z (!u)
 | 9=>v=Z Y
 | 10=>v=Z Y
 | 11=>v=iN c.me (m1,m2,m3) (m4,m5,m6) (m7,m8,m9) (m10,m11,m12) (m13,m14,m15)
 | 12=>v=aG #[ah aj t1,ah aj t2]
 | 13=>v=J po pn pc
 | 14=>v=ah aj (k:Int)
 | 15=>v=O (ak pp)
 | 16=>v=aG #[J h1 h2 h3,J g1 g2 g3]
 | 17=>∃ sl:Sl,v=dR sl/\iy x v ((gN has vals 7).map r5)
 | 18=>v=Z true
 | 19=>v=Z Y
 | 20=>v=Z Y
 | _=>True
noncomputable def J2:Code:=((Try.f3.body.bind (dZ 11)).getD .skip)
theorem Qs (Q:Exit->Act->aB->Prop) (W:aB) (bB bC bT:Nat) (b c:Br) (s1:Option au) (s2 s3:Nat) (s4:Option au) (s5 s6:Nat) (s7:Option au) (s8 s9:Nat) (s10:Option au) (s11 s12:Nat) (s13:Option au) (s14 s15:Nat) (m1:Option au) (m2 m3:Nat) (m4:Option au) (m5 m6:Nat) (m7:Option au) (m8 m9:Nat) (m10:Option au) (m11 m12:Nat) (m13:Option au) (m14 m15:Nat) (t1 t2:Int) (u:Bool) (po:Option au) (pn pc k:Nat) (pp:au) (h1:Option au) (h2 h3:Nat) (g1:Option au) (g2 g3:Nat) (has vals:List Int) (u1 u2 u3 u4 u7 u8 u10 u13 u14 u15 u16 u17 u18 u19 u20 u21 u22 u23 u24 u25 u26 u27 u28 u29 u30 u31 u32 u33 u34 u35 u36 u37 u38 u39 u40 u41 u42 u43 u44 u45 u46 u47 u48 u49 u50 u51 u52 u53 u54 u55 u56 u57 u58 u59 u60 u61 u62 u63 u64 u65 u66 u67 u68 u69 u70 u71 u72 u73 u74 u75 u76 u77 u78 u79 u80 u81 u82 u83 u84 u85 u86 u87 u88 u89 u90 u91 u92 u93 u94 u95 u96 u97 u98 u99 u100 u101 u102 u103 u104 u105 u106 u107 u108 u109 u110 u111 u112 u113 u114 u115 u116 u117 u118 u119 u120 u121 u122 u123 u124 u125 u126 u127 u128 u129 u130 u131 u132 u133 u134 u135 u136 u137 u138 u139 u140 u141 u142 u143 u144 u145 u146 u147 u148 u149 u150 u151 u152 u153 u154 u155 u156 u157 u158 u159 u160 u161 u162 u163 u164 u165 u166 u167 u168 u169 u170 u171 u172 u173 u174 u175 u176 u177 u178 u179 u180 u181 u182 u183 u184 u185 u186 u187 u188 u189 u190 u191 u192 u193 u194 u195 u196 u197 u198 u199 u200 u201 u202 u203 u204 u205:aD)
  (xb:dH W bB #[ah aj b.me,J s1 s2 s3,J s4 s5 s6,J s7 s8 s9,J s10 s11 s12,J s13 s14 s15] 31) (xc:dH W bC #[ah aj c.me,J m1 m2 m3,J m4 m5 m6,J m7 m8 m9,J m10 m11 m12,J m13 m14 m15] 31) (bn:l6 W b (s1,s2,s3) (s4,s5,s6) (s7,s8,s9) (s10,s11,s12) (s13,s14,s15)) (cn:l6 W c (m1,m2,m3) (m4,m5,m6) (m7,m8,m9) (m10,m11,m12) (m13,m14,m15)) (xt:dH W bT #[ah aj t1,ah aj t2] 25) (rb:fC b.ent) (rc:fC c.ent) (lb:b.ent.length<=1000) (lc:c.ent.length<=1000) (ob:∀ e∈b.ent,eO e.p) (oc:∀ e∈c.ent,eO e.p) (op:eO ((gN has vals 7).map r5)) (hu:dJ b.ent (t1,t2) ((gN has vals 7).map r5)=(!u)) (hc:dJ c.ent (t1,t2) ((gN has vals 7).map r5)=true) (ix:∀ w,(Instr.indexAt 22 (J po pn pc) (ah aj (k:Int))).run Try.prog w=.ok (O (ak pp)) w) (pb:pp.block<W.heap.size) (Nn:∀ (j:Nat) u,#[(J h1 h2 h3:aD),J g1 g2 g3][j]?=ak u->W.cell? (pp.add j)=ak u) (ih:In.gJ W (J h1 h2 h3) has) (iv:In.gJ W (J g1 g2 g3) vals) (lh:has.length<=maxLen) (lv:vals.length<=maxLen)
  (hQ:∀ (x:aB) (v62 v63 v64 v65 v66 v67 v68 v69 v70 v71 v72 v73 v74 v75 v76 v77 v78 v79 v80 v81:aD),Below W.heap.size W x->Q .normal ⟨(J po pn pc::u1::u2::u3::u4::O (ak ⟨bT,0,ay⟩)::O (ak ⟨bB,0,ay⟩)::u7::u8::ah aj (k:Int)::u10::O (ak ⟨bC,0,ay⟩)::Z u::u13::u14::u15::u16::u17::u18::u19::u20::u21::u22::u23::u24::u25::u26::u27::u28::u29::u30::u31::u32::u33::u34::u35::u36::u37::u38::u39::u40::u41::u42::u43::u44::u45::u46::u47::u48::u49::u50::u51::u52::u53::u54::u55::u56::u57::u58::u59::u60::u61::v62::v63::v64::v65::v66::v67::v68::v69::v70::v71::v72::v73::v74::v75::v76::v77::v78::v79::v80::v81::Z Y::u83::u84::u85::u86::u87::u88::u89::u90::u91::u92::u93::u94::u95::u96::u97::u98::u99::u100::u101::u102::u103::u104::u105::u106::u107::u108::u109::u110::u111::u112::u113::u114::u115::u116::u117::u118::u119::u120::u121::u122::u123::u124::u125::u126::u127::u128::u129::u130::u131::u132::u133::u134::u135::u136::u137::u138::u139::u140::u141::u142::u143::u144::u145::u146::u147::u148::u149::u150::u151::u152::u153::u154::u155::u156::u157::u158::u159::u160::u161::u162::u163::u164::u165::u166::u167::u168::u169::u170::u171::u172::u173::u174::u175::u176::u177::u178::u179::u180::u181::u182::u183::u184::u185::u186::u187::u188::u189::u190::u191::u192::u193::u194::u195::u196::u197::u198::u199::u200::u201::u202::u203::u204::u205::[]).toArray,[]⟩ x) :
  Code.wp Try.prog J2 Q ⟨(J po pn pc::u1::u2::u3::u4::O (ak ⟨bT,0,ay⟩)::O (ak ⟨bB,0,ay⟩)::u7::u8::ah aj (k:Int)::u10::O (ak ⟨bC,0,ay⟩)::Z u::u13::u14::u15::u16::u17::u18::u19::u20::u21::u22::u23::u24::u25::u26::u27::u28::u29::u30::u31::u32::u33::u34::u35::u36::u37::u38::u39::u40::u41::u42::u43::u44::u45::u46::u47::u48::u49::u50::u51::u52::u53::u54::u55::u56::u57::u58::u59::u60::u61::u62::u63::u64::u65::u66::u67::u68::u69::u70::u71::u72::u73::u74::u75::u76::u77::u78::u79::u80::u81::u82::u83::u84::u85::u86::u87::u88::u89::u90::u91::u92::u93::u94::u95::u96::u97::u98::u99::u100::u101::u102::u103::u104::u105::u106::u107::u108::u109::u110::u111::u112::u113::u114::u115::u116::u117::u118::u119::u120::u121::u122::u123::u124::u125::u126::u127::u128::u129::u130::u131::u132::u133::u134::u135::u136::u137::u138::u139::u140::u141::u142::u143::u144::u145::u146::u147::u148::u149::u150::u151::u152::u153::u154::u155::u156::u157::u158::u159::u160::u161::u162::u163::u164::u165::u166::u167::u168::u169::u170::u171::u172::u173::u174::u175::u176::u177::u178::u179::u180::u181::u182::u183::u184::u185::u186::u187::u188::u189::u190::u191::u192::u193::u194::u195::u196::u197::u198::u199::u200::u201::u202::u203::u204::u205::[]).toArray,[]⟩ W:=by
 have HQ:=X hQ;have HB:=X xb;have HC:=X xc;have BN:=X bn;have CN:=X cn;have HT:=X xt;have Rb:=X rb;have Rc:=X rc;have Lb:=X lb;have Lc:=X lc;have Ob:=X ob;have Oc:=X oc;have OP:=X op;have Cb:=X hu;have Cc:=X hc;have IX:=X ix;have PB:=X pb;have PC:=X Nn;have IH:=X ih;have IV:=X iv;have LH:=X lh;have LV:=X lv;clear hQ xb xc bn cn xt rb rc lb lc ob oc op hu hc ix pb Nn ih iv lh lv;unfold J2
 conv=>arg 2; whnf
 have nd:∀ j,(j<62\/83<=j)->∀ i,i<21->(fun i=>62+i) i≠j:=by
  intro j hj i hi h;simp only at h;omega
 refine Rg.zZ 21 (fun i=>62+i) (JZ W.heap.size bB bC bT b c s1 s2 s3 s4 s5 s6 s7 s8 s9 s10 s11 s12 s13 s14 s15 m1 m2 m3 m4 m5 m6 m7 m8 m9 m10 m11 m12 m13 m14 m15 t1 t2 u po pn pc k pp h1 h2 h3 g1 g2 g3 has vals) (by kernel_rfl) (by kernel_rfl) rfl ?_ (fun i j _ _ h=>by have h2:62+i=62+j:=h; omega) (fun i hi=>by show 62+i<206; omega) ?_ ?_ ?_
 ·intro i o ho;have hi:i<21:=(List.getElem?_eq_some_iff.1 ho).1;rcases (by omega:i=0\/i=1\/i=2\/i=3\/i=4\/i=5\/i=6\/i=7\/i=8\/i=9\/i=10\/i=11\/i=12\/i=13\/i=14\/i=15\/i=16\/i=17\/i=18\/i=19\/i=20) with rfl|rfl|rfl|rfl|rfl|rfl|rfl|rfl|rfl|rfl|rfl|rfl|rfl|rfl|rfl|rfl|rfl|rfl|rfl|rfl|rfl
  all_goals (obtain rfl:=Option.some.inj ho; rfl)
 ·intro i v x x' h hb;by_cases hi:i<21
  ·rcases (by omega:i=0\/i=1\/i=2\/i=3\/i=4\/i=5\/i=6\/i=7\/i=8\/i=9\/i=10\/i=11\/i=12\/i=13\/i=14\/i=15\/i=16\/i=17\/i=18\/i=19\/i=20) with rfl|rfl|rfl|rfl|rfl|rfl|rfl|rfl|rfl|rfl|rfl|rfl|rfl|rfl|rfl|rfl|rfl|rfl|rfl|rfl|rfl
   ·exact h
   ·exact h
   ·exact h
   ·exact h
   ·exact h
   ·exact h
   ·exact h
   ·obtain⟨s,h1,h2⟩:=h; exact⟨s,h1,h2.on hb⟩
   ·exact h
   ·exact h
   ·exact h
   ·exact h
   ·exact h
   ·exact h
   ·exact h
   ·exact h
   ·exact h
   ·obtain⟨s,h1,h2⟩:=h; exact⟨s,h1,h2.on hb⟩
   ·exact h
   ·exact h
   ·exact h
  ·unfold JZ
   split <;> first | omega | trivial
 ·intro i o hi ho a x hb seen K hK;clear HQ;rcases (by omega:i=0\/i=1\/i=2\/i=3\/i=4\/i=5\/i=6\/i=7\/i=8\/i=9\/i=10\/i=11\/i=12\/i=13\/i=14\/i=15\/i=16\/i=17\/i=18\/i=19\/i=20) with rfl|rfl|rfl|rfl|rfl|rfl|rfl|rfl|rfl|rfl|rfl|rfl|rfl|rfl|rfl|rfl|rfl|rfl|rfl|rfl|rfl
  ·cases ho;have e12:a.eval (U 12)=Z u:=seen.kp 12 _ (nd 12 (by omega)) rfl;exact aA rfl rfl (aI a.eval _ (U 12) rfl x) (hK _ x e12 (L _ _))
  ·cases ho;have e6:a.eval (U 6)=O (ak ⟨bB,0,ay⟩):=seen.kp 6 _ (nd 6 (by omega)) rfl;exact aA rfl rfl (aH a.eval _ 31 (U 6) rfl (by rw [e6]; exact oN (HB.out.on hb))) (hK _ x rfl (L _ _))
  ·cases ho;have e5:a.eval (U 5)=O (ak ⟨bT,0,ay⟩):=seen.kp 5 _ (nd 5 (by omega)) rfl;obtain⟨y0,y1⟩:=(HT.out.on hb).cs2;exact aA rfl rfl (aH a.eval _ 25 (U 5) rfl (by rw [e5]; simp [go_sem,y0,y1])) (hK _ x rfl (L _ _))
  ·cases ho;have e0:a.eval (U 0)=J po pn pc:=seen.kp 0 _ (nd 0 (by omega)) rfl;exact aA rfl rfl (aI a.eval _ (U 0) rfl x) (hK _ x e0 (L _ _))
  ·cases ho;have e9:a.eval (U 9)=ah aj (k:Int):=seen.kp 9 _ (nd 9 (by omega)) rfl;exact aA rfl rfl (aI a.eval _ (U 9) rfl x) (hK _ x e9 (L _ _))
  ·cases ho;have e65:a.eval (U 65)=J po pn pc:=seen.at_ ⟨3,.data⟩ (by simp) rfl;have e66:a.eval (U 66)=ah aj (k:Int):=seen.at_ ⟨4,.data⟩ (by simp) rfl;exact aA rfl rfl (aN a.eval _ 22 (U 65) (U 66) rfl (by rw [e65,e66]; exact IX.out x)) (hK _ x rfl (L _ _))
  ·cases ho;have e67:a.eval (U 67)=O (ak pp):=seen.at_ ⟨5,.data⟩ (by simp) rfl;have y0:=hb.cell (p:=pp.add 0) (by rw [iU]; exact PB.out);have y1:=hb.cell (p:=pp.add 1) (by rw [iU]; exact PB.out);rw [PC.out 0 _ rfl] at y0;rw [PC.out 1 _ rfl] at y1;exact aA rfl rfl (aH a.eval _ 40 (U 67) rfl (by rw [e67]; exact Bd y0 y1)) (hK _ x rfl (L _ _))
  ·cases ho;have e68:a.eval (U 68)=aG #[J h1 h2 h3,J g1 g2 g3]:=seen.at_ ⟨6,.data⟩ (by simp) rfl;exact aM rfl rfl (Rw.gT a.eval _ (U 68) 40 8 rfl e68 rfl _ (eT Try.func8 rfl rfl _ _)) (sG (J h1 h2 h3) (J g1 g2 g3) has vals x (IH.out.on hb) (IV.out.on hb) LH.out LV.out) fun e w1 h=>by
    obtain⟨v,rfl,q1,q2⟩:=h;have q3:=Row.dM q1;obtain⟨a1,a2,hvv⟩:=q3.len;exact⟨_,rfl,hK _ _ ⟨(a1,_,a2),hvv,q3⟩ q2⟩
  ·cases ho;have e63:a.eval (U 63)=iN b.me (s1,s2,s3) (s4,s5,s6) (s7,s8,s9) (s10,s11,s12) (s13,s14,s15):=seen.at_ ⟨1,.data⟩ (by simp) rfl;have e64:a.eval (U 64)=aG #[ah aj t1,ah aj t2]:=seen.at_ ⟨2,.data⟩ (by simp) rfl;have TJ:=seen.at_ ⟨7,.data⟩ (by simp) rfl;obtain⟨⟨l1,l2,l3⟩,q0,q1⟩:=TJ;have q0:a.eval (U 69)=J l1 l2 l3:=q0;have q2:iy x (J l1 l2 l3) ((gN has vals 7).map r5):=by rw [<- q0]; exact q1
   obtain⟨le,hl,hE⟩:=BN.out.br.ent;exact aM rfl rfl (nU a.eval _ (U 63) (U 64) (U 69) 31 25 35 9 rfl e63 e64 q0 rfl _ (eT Try.func9 rfl rfl _ _)) (sZ b.me _ _ _ _ (s10,s11,s12) le b.ent (t1,t2) (J l1 l2 l3) ((gN has vals 7).map r5) x (hl.on hb) (hE.mono fun _ _ h=>h.on hb) Rb.out (by rw [hE.len]; exact Lb.out) q2 Ob.out OP.out) fun e w1 h=>by
    rw [Cb.out] at h;obtain⟨rfl,hb1⟩:=h;exact⟨_,rfl,hK _ _ rfl hb1⟩
  ·cases ho;have e62:a.eval (U 62)=Z u:=seen.at_ ⟨0,.data⟩ (by simp) rfl;have e70:a.eval (U 70)=Z (!u):=seen.at_ ⟨8,.data⟩ (by simp) rfl;exact aA rfl rfl (Rg.EA a.eval _ .eql 4 (U 62) (U 70) 4 rfl (by rw [e62,e70]; exact Jv u _ _ x)) (hK _ x rfl (L _ _))
  ·cases ho;have e71:a.eval (U 71)=Z Y:=seen.at_ ⟨9,.data⟩ (by simp) rfl;exact aA rfl rfl (aI a.eval _ (U 71) rfl x) (hK _ x e71 (L _ _))
  ·cases ho;have eG:a.eval (U 72)=Z Y:=seen.at_ ⟨10,.guard⟩ (by simp) rfl;have tG:a.tmps[72]?=ak (a.eval (U 72)):=seen.got ⟨10,.guard⟩ (by simp) rfl;rw [eG] at tG;have e11:a.eval (U 11)=O (ak ⟨bC,0,ay⟩):=seen.kp 11 _ (nd 11 (by omega)) rfl;exact aK rfl (aJ rfl rfl rfl tG) (aH a.eval _ 31 (U 11) rfl (by rw [e11]; exact oN (HC.out.on hb))) (hK _ x rfl (L _ _))
  ·cases ho;have eG:a.eval (U 72)=Z Y:=seen.at_ ⟨10,.guard⟩ (by simp) rfl;have tG:a.tmps[72]?=ak (a.eval (U 72)):=seen.got ⟨10,.guard⟩ (by simp) rfl;rw [eG] at tG;have e5:a.eval (U 5)=O (ak ⟨bT,0,ay⟩):=seen.kp 5 _ (nd 5 (by omega)) rfl;obtain⟨y0,y1⟩:=(HT.out.on hb).cs2;exact aK rfl (aJ rfl rfl rfl tG) (aH a.eval _ 25 (U 5) rfl (by rw [e5]; simp [go_sem,y0,y1])) (hK _ x rfl (L _ _))
  ·cases ho;have eG:a.eval (U 72)=Z Y:=seen.at_ ⟨10,.guard⟩ (by simp) rfl;have tG:a.tmps[72]?=ak (a.eval (U 72)):=seen.got ⟨10,.guard⟩ (by simp) rfl;rw [eG] at tG;have e0:a.eval (U 0)=J po pn pc:=seen.kp 0 _ (nd 0 (by omega)) rfl;exact aK rfl (aJ rfl rfl rfl tG) (aI a.eval _ (U 0) rfl x) (hK _ x e0 (L _ _))
  ·cases ho;have eG:a.eval (U 72)=Z Y:=seen.at_ ⟨10,.guard⟩ (by simp) rfl;have tG:a.tmps[72]?=ak (a.eval (U 72)):=seen.got ⟨10,.guard⟩ (by simp) rfl;rw [eG] at tG;have e9:a.eval (U 9)=ah aj (k:Int):=seen.kp 9 _ (nd 9 (by omega)) rfl;exact aK rfl (aJ rfl rfl rfl tG) (aI a.eval _ (U 9) rfl x) (hK _ x e9 (L _ _))
  ·cases ho;have eG:a.eval (U 72)=Z Y:=seen.at_ ⟨10,.guard⟩ (by simp) rfl;have tG:a.tmps[72]?=ak (a.eval (U 72)):=seen.got ⟨10,.guard⟩ (by simp) rfl;rw [eG] at tG;have e75:a.eval (U 75)=J po pn pc:=seen.at_ ⟨13,.data⟩ (by simp) rfl;have e76:a.eval (U 76)=ah aj (k:Int):=seen.at_ ⟨14,.data⟩ (by simp) rfl;exact aK rfl (aJ rfl rfl rfl tG) (aN a.eval _ 22 (U 75) (U 76) rfl (by rw [e75,e76]; exact IX.out x)) (hK _ x rfl (L _ _))
  ·cases ho;have eG:a.eval (U 72)=Z Y:=seen.at_ ⟨10,.guard⟩ (by simp) rfl;have tG:a.tmps[72]?=ak (a.eval (U 72)):=seen.got ⟨10,.guard⟩ (by simp) rfl;rw [eG] at tG;have e77:a.eval (U 77)=O (ak pp):=seen.at_ ⟨15,.data⟩ (by simp) rfl;have y0:=hb.cell (p:=pp.add 0) (by rw [iU]; exact PB.out);have y1:=hb.cell (p:=pp.add 1) (by rw [iU]; exact PB.out);rw [PC.out 0 _ rfl] at y0;rw [PC.out 1 _ rfl] at y1;exact aK rfl (aJ rfl rfl rfl tG) (aH a.eval _ 40 (U 77) rfl (by rw [e77]; exact Bd y0 y1)) (hK _ x rfl (L _ _))
  ·cases ho;have eG:a.eval (U 72)=Z Y:=seen.at_ ⟨10,.guard⟩ (by simp) rfl;have tG:a.tmps[72]?=ak (a.eval (U 72)):=seen.got ⟨10,.guard⟩ (by simp) rfl;rw [eG] at tG;have e78:a.eval (U 78)=aG #[J h1 h2 h3,J g1 g2 g3]:=seen.at_ ⟨16,.data⟩ (by simp) rfl;exact Rg.uY rfl (aJ rfl rfl rfl tG) (Rw.gT a.eval _ (U 78) 40 8 rfl e78 rfl _ (eT Try.func8 rfl rfl _ _)) (sG (J h1 h2 h3) (J g1 g2 g3) has vals x (IH.out.on hb) (IV.out.on hb) LH.out LV.out) fun e w1 h=>by
    obtain⟨v,rfl,q1,q2⟩:=h;have q3:=Row.dM q1;obtain⟨a1,a2,hvv⟩:=q3.len;exact⟨_,rfl,hK _ _ ⟨(a1,_,a2),hvv,q3⟩ q2⟩
  ·cases ho;have eG:a.eval (U 72)=Z Y:=seen.at_ ⟨10,.guard⟩ (by simp) rfl;have tG:a.tmps[72]?=ak (a.eval (U 72)):=seen.got ⟨10,.guard⟩ (by simp) rfl;rw [eG] at tG;have e73:a.eval (U 73)=iN c.me (m1,m2,m3) (m4,m5,m6) (m7,m8,m9) (m10,m11,m12) (m13,m14,m15):=seen.at_ ⟨11,.data⟩ (by simp) rfl;have e74:a.eval (U 74)=aG #[ah aj t1,ah aj t2]:=seen.at_ ⟨12,.data⟩ (by simp) rfl;have TL:=seen.at_ ⟨17,.data⟩ (by simp) rfl;obtain⟨⟨l1,l2,l3⟩,q0,q1⟩:=TL;have q0:a.eval (U 79)=J l1 l2 l3:=q0;have q2:iy x (J l1 l2 l3) ((gN has vals 7).map r5):=by rw [<- q0]; exact q1
   obtain⟨le,hl,hE⟩:=CN.out.br.ent;exact Rg.uY rfl (aJ rfl rfl rfl tG) (nU a.eval _ (U 73) (U 74) (U 79) 31 25 35 9 rfl e73 e74 q0 rfl _ (eT Try.func9 rfl rfl _ _)) (sZ c.me _ _ _ _ (m10,m11,m12) le c.ent (t1,t2) (J l1 l2 l3) ((gN has vals 7).map r5) x (hl.on hb) (hE.mono fun _ _ h=>h.on hb) Rc.out (by rw [hE.len]; exact Lc.out) q2 Oc.out OP.out) fun e w1 h=>by
    rw [Cc.out] at h;obtain⟨rfl,hb1⟩:=h;exact⟨_,rfl,hK _ _ rfl hb1⟩
  ·cases ho;have eG:a.eval (U 72)=Z Y:=seen.at_ ⟨10,.guard⟩ (by simp) rfl;have tG:a.tmps[72]?=ak (a.eval (U 72)):=seen.got ⟨10,.guard⟩ (by simp) rfl;rw [eG] at tG;have e80:a.eval (U 80)=Z true:=seen.at_ ⟨18,.data⟩ (by simp) rfl;exact aK rfl (aJ rfl rfl rfl tG) (Rg.Ka a.eval _ 4 (U 80) rfl e80 x) (hK _ x rfl (L _ _))
  ·cases ho;have e72:a.eval (U 72)=Z Y:=seen.at_ ⟨10,.data⟩ (by simp) rfl;have e81:a.eval (U 81)=Z Y:=seen.at_ ⟨19,.data⟩ (by simp) rfl;exact aA rfl rfl (Rg.Cz a.eval _ (U 72) (.const (Z true)) (U 81) rfl e72 e81 x) (hK _ x rfl (L _ _))
 ·intro a x df sz kp hv hbel;have g82:a.tmps[82]?=ak (Z Y):=by
   obtain⟨v,h1,h2⟩:=hv 20 (by decide);have h3:v=Z Y:=h2;rw [<- h3];exact h1
  have uR:∀ j,(j<62\/83<=j)->a.tmps[j]?=(J po pn pc::u1::u2::u3::u4::O (ak ⟨bT,0,ay⟩)::O (ak ⟨bB,0,ay⟩)::u7::u8::ah aj (k:Int)::u10::O (ak ⟨bC,0,ay⟩)::Z u::u13::u14::u15::u16::u17::u18::u19::u20::u21::u22::u23::u24::u25::u26::u27::u28::u29::u30::u31::u32::u33::u34::u35::u36::u37::u38::u39::u40::u41::u42::u43::u44::u45::u46::u47::u48::u49::u50::u51::u52::u53::u54::u55::u56::u57::u58::u59::u60::u61::u62::u63::u64::u65::u66::u67::u68::u69::u70::u71::u72::u73::u74::u75::u76::u77::u78::u79::u80::u81::u82::u83::u84::u85::u86::u87::u88::u89::u90::u91::u92::u93::u94::u95::u96::u97::u98::u99::u100::u101::u102::u103::u104::u105::u106::u107::u108::u109::u110::u111::u112::u113::u114::u115::u116::u117::u118::u119::u120::u121::u122::u123::u124::u125::u126::u127::u128::u129::u130::u131::u132::u133::u134::u135::u136::u137::u138::u139::u140::u141::u142::u143::u144::u145::u146::u147::u148::u149::u150::u151::u152::u153::u154::u155::u156::u157::u158::u159::u160::u161::u162::u163::u164::u165::u166::u167::u168::u169::u170::u171::u172::u173::u174::u175::u176::u177::u178::u179::u180::u181::u182::u183::u184::u185::u186::u187::u188::u189::u190::u191::u192::u193::u194::u195::u196::u197::u198::u199::u200::u201::u202::u203::u204::u205::[])[j]?:=fun j hj=>(kp j (nd j hj)).trans List.getElem?_toArray;obtain⟨mid,hmid,rfl⟩:=Rg.gQ 62 21 df sz (by simp) uR
  match mid,hmid with
  | [v62,v63,v64,v65,v66,v67,v68,v69,v70,v71,v72,v73,v74,v75,v76,v77,v78,v79,v80,v81,v82],_ =>
   obtain rfl:v82=Z Y:=Option.some.inj g82;exact HQ.out x _ _ _ _ _ _ _ _ _ _ _ _ _ _ _ _ _ _ _ _ hbel
end Go.Proofs.Ytmklifheakemeaa.Sb
