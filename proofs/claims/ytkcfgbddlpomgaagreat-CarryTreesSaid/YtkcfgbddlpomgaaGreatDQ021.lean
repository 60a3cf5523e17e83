/-
  The region of Copy i. Conditions as told.
-/
import Derived.Test.YtkcfgbddlpomgaaGreatDQ014
import Derived.Test.YtkcfgbddlpomgaaGreatDQ013
set_option maxRecDepth 100000
set_option maxHeartbeats 64000000
open _root_.Bool renaming true->aM,false->aX
open _root_.Go renaming Value->aB,World->aC,Addr->aQ,Calls->aW,Act->aY
open Go.Act renaming put->aO,eval->aU
open Go.Builtin renaming copy_->aL,append_->aT
open Go.Instr renaming sliceAt->ay
open Go.IntKind renaming i64->aI,wrap_i64->aS
open Go.Lib renaming hid->aA
open Go.Obj renaming cells->aK
open Go.Operand renaming tmp->au
open Go.Proofs.Tryz renaming prog->ak,ntmps101->aP,func101->aR
open Go.Region renaming binds->aD
open Go.RowKit.Below renaming refl->Z,heap_setCell->aF
open Go.Value renaming slice->J,pointer->U,int->aH
open _root_.List renaming getElem?_toArray->Y,getElem?_cons_zero->ah,getElem?_cons_succ->aj,getElem?_eq_some_iff->aG
open _root_.Nat renaming le_refl->aN,lt_or_ge->aV
open _root_.Option renaming some->O,none->X
open _root_.Or renaming inr->aJ
namespace Go.Proofs.YtkcfgbddlpomgaaGreat
namespace Av
open Go.RowKit Go.Sort Rw YtkcfgbddlpomgaaGreat.Nm Pr Bk
def WJ (B:Nat) (b1:Nat) (_me:Int) (_z1 _z3:aB) (o2:Option aQ) (n2 c2:Nat) (al:List jD) (o4:Option aQ) (n4 c4:Nat) (el:List iA) (o5:Option aQ) (n5 c5:Nat) (ol:List qM) (i:Nat) (v:aB) (x:aC):Prop :=
 match i with
 | 0=>v=U (O ⟨b1,2,X⟩)
 | 1=>v=J o2 n2 c2
 | 2=>∃ s:Sl,v=dR s/\kQ x B v al
 | 3=>v=U (O ⟨b1,4,X⟩)
 | 4=>v=J o4 n4 c4
 | 5=>∃ s:Sl,v=dR s/\jg x B v el
 | 6=>v=U (O ⟨b1,5,X⟩)
 | 7=>v=J o5 n5 c5
 | 8=>∃ s:Sl,v=dR s/\oN x B v ol
 | 9=>v=U (O ⟨b1,2,X⟩)
 | _=>True
noncomputable def ac4:Code:=((Tryz.f50.body.bind (eG 2)).getD .skip)
theorem WK (B:Nat) (b1:Nat) (me:Int) (z1 z3:aB) (o2:Option aQ) (n2 c2:Nat) (al:List jD) (o4:Option aQ) (n4 c4:Nat) (el:List iA) (o5:Option aQ) (n5 c5:Nat) (ol:List qM) (i:Nat) (v:aB) (x x':aC) (h:WJ B b1 me z1 z3 o2 n2 c2 al o4 n4 c4 el o5 n5 c5 ol i v x) (hb:Below x.heap.size x x'):WJ B b1 me z1 z3 o2 n2 c2 al o4 n4 c4 el o5 n5 c5 ol i v x':=by
 by_cases hi:i<10
 ·rcases (by omega:i=0\/i=1\/i=2\/i=3\/i=4\/i=5\/i=6\/i=7\/i=8\/i=9) with rfl|rfl|rfl|rfl|rfl|rfl|rfl|rfl|rfl|rfl
  ·exact h
  ·exact h
  ·obtain⟨s,h1,h2⟩:=h; exact⟨s,h1,Bk.dB h2 hb⟩
  ·exact h
  ·exact h
  ·obtain⟨s,h1,h2⟩:=h; exact⟨s,h1,Bk.dB h2 hb⟩
  ·exact h
  ·exact h
  ·obtain⟨s,h1,h2⟩:=h; exact⟨s,h1,Bk.dB h2 hb⟩
  ·exact h
 ·unfold WJ
  split <;> first | omega | trivial
theorem cp2 (Q:Exit->aY->aC->Prop) (W:aC) (b1:Nat) (me:Int) (z1 z3:aB) (o2:Option aQ) (n2 c2:Nat) (al:List jD) (o4:Option aQ) (n4 c4:Nat) (el:List iA) (o5:Option aQ) (n5 c5:Nat) (ol:List qM) (u0 u2 u3 u4 u5 u6 u7 u8 u9 u10 u11 u12 u13 u14 u15 u16 u17 u18 u19 u20 u21 u22 u23 u24 u25 u26 u27 u28 u29 u30 u31 u32 u33 u34 u35 u36 u37 u38 u39 u40 u41 u42 u43 u44 u45 u46 u47 u48 u49 u50 u51 u52 u53 u54 u55 u56 u57 u58 u59 u60 u61 u62 u63 u64 u65 u66 u67 u68 u69 u70 u71 u72 u73 u74 u75 u76 u77 u78 u79 u80 u81:aB)
  (h1:dJ W b1 #[aH aI me,z1,J o2 n2 c2,z3,J o4 n4 c4,J o5 n5 c5] 33) (r2:uI W (J o2 n2 c2) al) (r4:jZ W (J o4 n4 c4) el) (r5:Nf W (J o5 n5 c5) ol) (l2:al.length<=900) (l4:el.length<=900) (l5:ol.length<=900)
  (hQ:∀ (x:aC) (v14 v15 v16 v17 v18 v19 v20 v21 v22 v23 v24 v25:aB) (p2:Option aQ) (q2 s2:Nat) (p4:Option aQ) (q4 s4:Nat) (p5:Option aQ) (q5 s5:Nat),dJ x b1 #[aH aI me,z1,J p2 q2 s2,z3,J p4 q4 s4,J p5 q5 s5] 33->kQ x W.heap.size (J p2 q2 s2) al->jg x W.heap.size (J p4 q4 s4) el->oN x W.heap.size (J p5 q5 s5) ol->(∀ B,B<=b1->Below B W x)->(∀ k,k<W.heap.size->k≠b1->x.heap[k]?=W.heap[k]?)->Q .normal ⟨(u0::U (O ⟨b1,0,X⟩)::u2::u3::u4::u5::u6::u7::u8::u9::u10::u11::u12::u13::v14::v15::v16::v17::v18::v19::v20::v21::v22::v23::v24::v25::u26::u27::u28::u29::u30::u31::u32::u33::u34::u35::u36::u37::u38::u39::u40::u41::u42::u43::u44::u45::u46::u47::u48::u49::u50::u51::u52::u53::u54::u55::u56::u57::u58::u59::u60::u61::u62::u63::u64::u65::u66::u67::u68::u69::u70::u71::u72::u73::u74::u75::u76::u77::u78::u79::u80::u81::[]).toArray,[]⟩ x) :
  Code.wp ak ac4 Q ⟨(u0::U (O ⟨b1,0,X⟩)::u2::u3::u4::u5::u6::u7::u8::u9::u10::u11::u12::u13::u14::u15::u16::u17::u18::u19::u20::u21::u22::u23::u24::u25::u26::u27::u28::u29::u30::u31::u32::u33::u34::u35::u36::u37::u38::u39::u40::u41::u42::u43::u44::u45::u46::u47::u48::u49::u50::u51::u52::u53::u54::u55::u56::u57::u58::u59::u60::u61::u62::u63::u64::u65::u66::u67::u68::u69::u70::u71::u72::u73::u74::u75::u76::u77::u78::u79::u80::u81::[]).toArray,[]⟩ W:=by
 have HQ:=aA hQ;have H1:=aA h1;have R2:=aA r2;have R4:=aA r4;have R5:=aA r5;have L2:=aA l2;have L4:=aA l4;have L5:=aA l5;clear hQ h1 r2 r4 r5 l2 l4 l5;have iN:=WK W.heap.size b1 me z1 z3 o2 n2 c2 al o4 n4 c4 el o5 n5 c5 ol;unfold ac4
 conv=>arg 2; whnf
 have nd:∀ j,(j<14\/24<=j)->∀ i,i<10->(fun i=>14+i) i≠j:=by
  intro j hj i hi h;simp only at h;omega
 refine Rg.fJ 15 10 (fun i=>14+i) (fun _=>10) (WJ W.heap.size b1 me z1 z3 o2 n2 c2 al o4 n4 c4 el o5 n5 c5 ol) (by kernel_rfl) (by kernel_rfl) rfl (by decide) (fun i j _ _ h=>by have h2:14+i=14+j:=h; omega) (fun i hi=>by show 14+i<82; omega) ?_ (fun _=>Rg.jc 14 (by kernel_rfl)) ?_ ?_
 ·intro i o hi ho a x D hnd hc hD hb seen K hK;clear HQ;rcases (by omega:i=0\/i=1\/i=2\/i=3\/i=4\/i=5\/i=6\/i=7\/i=8\/i=9) with rfl|rfl|rfl|rfl|rfl|rfl|rfl|rfl|rfl|rfl
  ·cases ho;have e1:a.eval (au 1)=U (O ⟨b1,0,X⟩):=seen.kp 1 _ (nd 1 (by omega)) rfl;exact Rg.dw rfl rfl (Rg.dP a.eval _ 33 (au 1) 2 rfl (by rw [e1]; simp [go_sem])) (hK _ _ rfl (Z _ _) fun _ _ _ _ _ _ _ h=>h)
  ·cases ho;have e14:a.eval (au 14)=U (O ⟨b1,2,X⟩):=seen.at_ ⟨0,.data⟩ (by simp) rfl (aJ (by decide));have y2:=(H1.out.on hb).cell 2;simp only [Y,ah,aj] at y2;exact Rg.dw rfl rfl (Rg.dY a.eval _ 28 (au 14) rfl (by rw [e14]; simp [go_sem,y2])) (hK _ _ rfl (Z _ _) fun _ _ _ _ _ _ _ h=>h)
  ·cases ho;have e15:a.eval (au 15)=J o2 n2 c2:=seen.at_ ⟨1,.data⟩ (by simp) rfl (aJ (by decide));exact Rg.gL rfl rfl (Rw.iK a.eval _ (au 15) 28 85 rfl e15 rfl _ (gu Tryz.func85 rfl rfl _ _)) (Jv (o2,n2,c2) al x (R2.out.on hb) L2.out) fun e w1 h=>by
    obtain⟨⟨s,rfl,h1⟩,h3⟩:=h;exact⟨_,rfl,hK _ _ ⟨s,rfl,dG h1 hb.size⟩ (h3.mono hb.size) fun j u hj _ _ _ hne h=>iN j u _ _ h h3⟩
  ·cases ho;have e1:a.eval (au 1)=U (O ⟨b1,0,X⟩):=seen.kp 1 _ (nd 1 (by omega)) rfl;exact Rg.dw rfl rfl (Rg.dP a.eval _ 33 (au 1) 4 rfl (by rw [e1]; simp [go_sem])) (hK _ _ rfl (Z _ _) fun _ _ _ _ _ _ _ h=>h)
  ·cases ho;have e17:a.eval (au 17)=U (O ⟨b1,4,X⟩):=seen.at_ ⟨3,.data⟩ (by simp) rfl (aJ (by decide));have y4:=(H1.out.on hb).cell 4;simp only [Y,ah,aj] at y4;exact Rg.dw rfl rfl (Rg.dY a.eval _ 30 (au 17) rfl (by rw [e17]; simp [go_sem,y4])) (hK _ _ rfl (Z _ _) fun _ _ _ _ _ _ _ h=>h)
  ·cases ho;have e18:a.eval (au 18)=J o4 n4 c4:=seen.at_ ⟨4,.data⟩ (by simp) rfl (aJ (by decide));exact Rg.gL rfl rfl (Rw.iK a.eval _ (au 18) 30 86 rfl e18 rfl _ (gu Tryz.func86 rfl rfl _ _)) (Jw (o4,n4,c4) el x (R4.out.on hb) L4.out) fun e w1 h=>by
    obtain⟨⟨s,rfl,h1⟩,h3⟩:=h;exact⟨_,rfl,hK _ _ ⟨s,rfl,dG h1 hb.size⟩ (h3.mono hb.size) fun j u hj _ _ _ hne h=>iN j u _ _ h h3⟩
  ·cases ho;have e1:a.eval (au 1)=U (O ⟨b1,0,X⟩):=seen.kp 1 _ (nd 1 (by omega)) rfl;exact Rg.dw rfl rfl (Rg.dP a.eval _ 33 (au 1) 5 rfl (by rw [e1]; simp [go_sem])) (hK _ _ rfl (Z _ _) fun _ _ _ _ _ _ _ h=>h)
  ·cases ho;have e20:a.eval (au 20)=U (O ⟨b1,5,X⟩):=seen.at_ ⟨6,.data⟩ (by simp) rfl (aJ (by decide));have y5:=(H1.out.on hb).cell 5;simp only [Y,ah,aj] at y5;exact Rg.dw rfl rfl (Rg.dY a.eval _ 31 (au 20) rfl (by rw [e20]; simp [go_sem,y5])) (hK _ _ rfl (Z _ _) fun _ _ _ _ _ _ _ h=>h)
  ·cases ho;have e21:a.eval (au 21)=J o5 n5 c5:=seen.at_ ⟨7,.data⟩ (by simp) rfl (aJ (by decide));exact Rg.gL rfl rfl (Rw.iK a.eval _ (au 21) 31 87 rfl e21 rfl _ (gu Tryz.func87 rfl rfl _ _)) (Jy (o5,n5,c5) ol x (R5.out.on hb) L5.out) fun e w1 h=>by
    obtain⟨⟨s,rfl,h1⟩,h3⟩:=h;exact⟨_,rfl,hK _ _ ⟨s,rfl,dG h1 hb.size⟩ (h3.mono hb.size) fun j u hj _ _ _ hne h=>iN j u _ _ h h3⟩
  ·cases ho;have e1:a.eval (au 1)=U (O ⟨b1,0,X⟩):=seen.kp 1 _ (nd 1 (by omega)) rfl;exact Rg.dw rfl rfl (Rg.dP a.eval _ 33 (au 1) 2 rfl (by rw [e1]; simp [go_sem])) (hK _ _ rfl (Z _ _) fun _ _ _ _ _ _ _ h=>h)
 ·intro kk o h1 h2 ho;rcases (by omega:kk=11\/kk=12\/kk=13\/kk=14) with rfl|rfl|rfl|rfl
  ·cases ho;exact⟨⟨10,.phase⟩,by simp,rfl,rfl⟩
  ·cases ho;exact⟨⟨11,.data⟩,by simp,rfl,rfl⟩
  ·cases ho;exact⟨⟨12,.phase⟩,by simp,rfl,rfl⟩
  ·cases ho;exact⟨⟨13,.data⟩,by simp,rfl,rfl⟩
 ·intro a w' df sz kp ⟨vs,hv⟩ hb;have sz':a.tmps.size=82:=sz;have g1:a.tmps[1]?=O (U (O ⟨b1,0,X⟩)):=(kp 1 (nd 1 (by omega))).trans rfl;have g23:a.tmps[23]?=O (U (O ⟨b1,2,X⟩)):=by
   have h:vs 9=U (O ⟨b1,2,X⟩):=(hv 9 (by omega)).2 (by decide);rw [<- h];exact (hv 9 (by omega)).1
  obtain⟨⟨p2,q2,s2⟩,hs2,ho2⟩:=(hv 2 (by omega)).2 (by decide);have g16:a.tmps[16]?=O (J p2 q2 s2):=((hv 2 (by omega)).1).trans (congrArg O hs2);rw [hs2] at ho2;obtain⟨⟨p4,q4,s4⟩,hs4,ho4⟩:=(hv 5 (by omega)).2 (by decide);have g19:a.tmps[19]?=O (J p4 q4 s4):=((hv 5 (by omega)).1).trans (congrArg O hs4);rw [hs4] at ho4;obtain⟨⟨p5,q5,s5⟩,hs5,ho5⟩:=(hv 8 (by omega)).2 (by decide);have g22:a.tmps[22]?=O (J p5 q5 s5):=((hv 8 (by omega)).1).trans (congrArg O hs5);rw [hs5] at ho5;have hB:=H1.out.on hb;have hlt:=H1.out.lt;show Rg.fC _ _ _ 5 10 a w';simp only [Rg.fC];have c2x:=hB.cell 2;have f2x:=hB.fr 2;simp only [Y,ah,aj] at c2x;refine Rg.fM 28 (au 23) (au 16) rfl rfl rfl rfl (Rg.dI g23) (Rg.dI g16) (w':=(w').setCell ⟨b1,2,X⟩ (J p2 q2 s2)) (by simp [go_sem,c2x,f2x]) ?_;have hB2:dJ ((w').setCell ⟨b1,2,X⟩ (J p2 q2 s2)) b1 #[aH aI me,z1,J p2 q2 s2,z3,J o4 n4 c4,J o5 n5 c5] 33:=by simpa using dN (k:=2) hB (J p2 q2 s2)
  refine Rg.dw rfl rfl (Rg.dP _ _ 33 (au 1) 4 rfl (v:=U (O ⟨b1,4,X⟩)) (by rw [Rg.dI g1]; simp [go_sem])) ?_;have afQ:((a).put (O 24) (U (O ⟨b1,4,X⟩))).tmps[24]?=O (U (O ⟨b1,4,X⟩)):=by simp [aO,sz']
  show Go.wpOp _ _ _ 12 _ ((a).put (O 24) (U (O ⟨b1,4,X⟩))) _;have c4x:=hB2.cell 4;have f4x:=hB2.fr 4;simp only [Y,ah,aj] at c4x;refine Rg.fM 30 (au 24) (au 19) rfl rfl rfl rfl (Rg.dI afQ) (Rg.dI ((Rg.get_put _ 24 _ 19 (by decide)).trans g19)) (w':=((w').setCell ⟨b1,2,X⟩ (J p2 q2 s2)).setCell ⟨b1,4,X⟩ (J p4 q4 s4)) (by simp [go_sem,c4x,f4x]) ?_;have hB4:dJ (((w').setCell ⟨b1,2,X⟩ (J p2 q2 s2)).setCell ⟨b1,4,X⟩ (J p4 q4 s4)) b1 #[aH aI me,z1,J p2 q2 s2,z3,J p4 q4 s4,J o5 n5 c5] 33:=by simpa using dN (k:=4) hB2 (J p4 q4 s4)
  refine Rg.dw rfl rfl (Rg.dP _ _ 33 (au 1) 5 rfl (v:=U (O ⟨b1,5,X⟩)) (by rw [Rg.dI ((Rg.get_put _ 24 _ 1 (by decide)).trans g1)]; simp [go_sem])) ?_;have afR:(((a).put (O 24) (U (O ⟨b1,4,X⟩))).put (O 25) (U (O ⟨b1,5,X⟩))).tmps[25]?=O (U (O ⟨b1,5,X⟩)):=by simp [aO,sz']
  show Go.wpOp _ _ _ 14 _ (((a).put (O 24) (U (O ⟨b1,4,X⟩))).put (O 25) (U (O ⟨b1,5,X⟩))) _;have c5x:=hB4.cell 5;have f5x:=hB4.fr 5;simp only [Y,ah,aj] at c5x;refine Rg.fM 31 (au 25) (au 22) rfl rfl rfl rfl (Rg.dI afR) (Rg.dI ((Rg.get_put _ 25 _ 22 (by decide)).trans ((Rg.get_put _ 24 _ 22 (by decide)).trans g22))) (w':=(((w').setCell ⟨b1,2,X⟩ (J p2 q2 s2)).setCell ⟨b1,4,X⟩ (J p4 q4 s4)).setCell ⟨b1,5,X⟩ (J p5 q5 s5)) (by simp [go_sem,c5x,f5x]) ?_;have hB5:dJ ((((w').setCell ⟨b1,2,X⟩ (J p2 q2 s2)).setCell ⟨b1,4,X⟩ (J p4 q4 s4)).setCell ⟨b1,5,X⟩ (J p5 q5 s5)) b1 #[aH aI me,z1,J p2 q2 s2,z3,J p4 q4 s4,J p5 q5 s5] 33:=by simpa using dN (k:=5) hB4 (J p5 q5 s5)
  have qU:∀ j,(j<14\/26<=j)->(((a).put (O 24) (U (O ⟨b1,4,X⟩))).put (O 25) (U (O ⟨b1,5,X⟩))).tmps[j]?=(u0::U (O ⟨b1,0,X⟩)::u2::u3::u4::u5::u6::u7::u8::u9::u10::u11::u12::u13::u14::u15::u16::u17::u18::u19::u20::u21::u22::u23::u24::u25::u26::u27::u28::u29::u30::u31::u32::u33::u34::u35::u36::u37::u38::u39::u40::u41::u42::u43::u44::u45::u46::u47::u48::u49::u50::u51::u52::u53::u54::u55::u56::u57::u58::u59::u60::u61::u62::u63::u64::u65::u66::u67::u68::u69::u70::u71::u72::u73::u74::u75::u76::u77::u78::u79::u80::u81::[])[j]?:=fun j hj=>(Rg.get_put _ 25 _ j (by omega)).trans ((Rg.get_put _ 24 _ j (by omega)).trans ((kp j (nd j (by omega))).trans Y));obtain⟨mid,hmid,hfr⟩:=Rg.gq (a:=((a).put (O 24) (U (O ⟨b1,4,X⟩))).put (O 25) (U (O ⟨b1,5,X⟩))) 14 12 df (by simp [Rg.size_put,sz']) (by simp) qU;show Q .normal (((a).put (O 24) (U (O ⟨b1,4,X⟩))).put (O 25) (U (O ⟨b1,5,X⟩))) _;rw [hfr]
  match mid,hmid with
  | [v14,v15,v16,v17,v18,v19,v20,v21,v22,v23,v24,v25],_ =>
   exact HQ.out _ _ _ _ _ _ _ _ _ _ _ _ _ p2 q2 s2 p4 q4 s4 p5 q5 s5 hB5 (dM (dM (dM ho2 b1 2 (J p2 q2 s2) hlt) b1 4 (J p4 q4 s4) hlt) b1 5 (J p5 q5 s5) hlt) (dM (dM (dM ho4 b1 2 (J p2 q2 s2) hlt) b1 4 (J p4 q4 s4) hlt) b1 5 (J p5 q5 s5) hlt) (dM (dM (dM ho5 b1 2 (J p2 q2 s2) hlt) b1 4 (J p4 q4 s4) hlt) b1 5 (J p5 q5 s5) hlt) (fun B hBl=>((((hb.mono (Nat.le_of_lt (Nat.lt_of_le_of_lt hBl hlt))).setCell (p:=⟨b1,2,X⟩) hBl (J p2 q2 s2)).setCell (p:=⟨b1,4,X⟩) hBl (J p4 q4 s4)).setCell (p:=⟨b1,5,X⟩) hBl (J p5 q5 s5))) (fun k hk hne=>((aF (((w').setCell ⟨b1,2,X⟩ (J p2 q2 s2)).setCell ⟨b1,4,X⟩ (J p4 q4 s4)) ⟨b1,5,X⟩ (J p5 q5 s5) k hne).trans ((aF ((w').setCell ⟨b1,2,X⟩ (J p2 q2 s2)) ⟨b1,4,X⟩ (J p4 q4 s4) k hne).trans ((aF (w') ⟨b1,2,X⟩ (J p2 q2 s2) k hne).trans (hb.block k hk)))))
def WM (B:Nat) (b1:Nat) (_me:Int) (_z1 _z3 _z4 _z5:aB) (g n cap k:Nat) (y1 y2:Int) (yo:Option aQ) (yn yc:Nat) (y4:Int) (p:List C5) (i:Nat) (v:aB) (x:aC):Prop :=
 match i with
 | 0=>v=U (O ⟨b1,2,X⟩)
 | 1=>v=J (O ⟨g,0,X⟩) n cap
 | 2=>v=aH aI (k:Int)
 | 3=>v=U (O ⟨b1,2,X⟩)
 | 4=>v=J (O ⟨g,0,X⟩) n cap
 | 5=>v=aH aI (k:Int)
 | 6=>v=U (O ⟨g,k * 4,X⟩)
 | 7=>v=lV (y1,y2,(yo,yn,yc),y4)
 | 8=>∃ s:Sl,v=lV (y1,y2,s,y4)/\jP x B (dR s) p
 | 9=>v=U (O ⟨g,k * 4,X⟩)
 | _=>True
noncomputable def ac7:Code:=((Tryz.f50.body.bind (eG 6)).getD .skip)
theorem WO (B:Nat) (b1:Nat) (me:Int) (z1 z3 z4 z5:aB) (g n cap k:Nat) (y1 y2:Int) (yo:Option aQ) (yn yc:Nat) (y4:Int) (p:List C5) (i:Nat) (v:aB) (x x':aC) (h:WM B b1 me z1 z3 z4 z5 g n cap k y1 y2 yo yn yc y4 p i v x) (hb:Below x.heap.size x x'):WM B b1 me z1 z3 z4 z5 g n cap k y1 y2 yo yn yc y4 p i v x':=by
 by_cases hi:i<10
 ·rcases (by omega:i=0\/i=1\/i=2\/i=3\/i=4\/i=5\/i=6\/i=7\/i=8\/i=9) with rfl|rfl|rfl|rfl|rfl|rfl|rfl|rfl|rfl|rfl
  ·exact h
  ·exact h
  ·exact h
  ·exact h
  ·exact h
  ·exact h
  ·exact h
  ·exact h
  ·obtain⟨s,h1,h2⟩:=h; exact⟨s,h1,Bk.dB h2 hb⟩
  ·exact h
 ·unfold WM
  split <;> first | omega | trivial
theorem cp6 (Q:Exit->aY->aC->Prop) (W:aC) (B0:Nat) (l:List jD) (b1:Nat) (me:Int) (z1 z3 z4 z5:aB) (g n cap k:Nat) (y1 y2:Int) (yo:Option aQ) (yn yc:Nat) (y4:Int) (p:List C5) (u0 u2 u4 u5 u6 u7 u8 u9 u10 u11 u12 u13 u14 u15 u16 u17 u18 u19 u20 u21 u22 u23 u24 u25 u26 u27 u28 u29 u30 u31 u32 u33 u34 u35 u36 u37 u38 u39 u40 u41 u42 u43 u44 u45 u46 u47 u48 u49 u50 u51 u52 u53 u54 u55 u56 u57 u58 u59 u60 u61 u62 u63 u64 u65 u66 u67 u68 u69 u70 u71 u72 u73 u74 u75 u76 u77 u78 u79 u80 u81:aB)
  (h1:dJ W b1 #[aH aI me,z1,J (O ⟨g,0,X⟩) n cap,z3,z4,z5] 33) (ho:kQ W B0 (J (O ⟨g,0,X⟩) n cap) l) (hy:l[k]?=O (y1,y2,(yo,yn,yc),y4)) (hp:fK W (J yo yn yc) p) (lp:p.length<=900)
  (hQ:∀ (x:aC) (v32 v33 v34 v35 v36 v37 v38 v39 v40 v41:aB) (s1:Option aQ) (s2 s3:Nat),jP x W.heap.size (J s1 s2 s3) p->kQ x B0 (J (O ⟨g,0,X⟩) n cap) (l.set k (y1,y2,(s1,s2,s3),y4))->But g W x->(∀ B1,B1<=g->B1<=W.heap.size->Below B1 W x)->Q .normal ⟨(u0::U (O ⟨b1,0,X⟩)::u2::aH aI (k:Int)::u4::u5::u6::u7::u8::u9::u10::u11::u12::u13::u14::u15::u16::u17::u18::u19::u20::u21::u22::u23::u24::u25::u26::u27::u28::u29::u30::u31::v32::v33::v34::v35::v36::v37::v38::v39::v40::v41::u42::u43::u44::u45::u46::u47::u48::u49::u50::u51::u52::u53::u54::u55::u56::u57::u58::u59::u60::u61::u62::u63::u64::u65::u66::u67::u68::u69::u70::u71::u72::u73::u74::u75::u76::u77::u78::u79::u80::u81::[]).toArray,[]⟩ x) :
  Code.wp ak ac7 Q ⟨(u0::U (O ⟨b1,0,X⟩)::u2::aH aI (k:Int)::u4::u5::u6::u7::u8::u9::u10::u11::u12::u13::u14::u15::u16::u17::u18::u19::u20::u21::u22::u23::u24::u25::u26::u27::u28::u29::u30::u31::u32::u33::u34::u35::u36::u37::u38::u39::u40::u41::u42::u43::u44::u45::u46::u47::u48::u49::u50::u51::u52::u53::u54::u55::u56::u57::u58::u59::u60::u61::u62::u63::u64::u65::u66::u67::u68::u69::u70::u71::u72::u73::u74::u75::u76::u77::u78::u79::u80::u81::[]).toArray,[]⟩ W:=by
 have HQ:=aA hQ;have H1:=aA h1;have HO:=aA ho;have HY:=aA hy;have HP:=aA hp;have LP:=aA lp;have IX:=aA (nI okD g k n cap (by obtain⟨_,_,hv⟩:=(Row.dx ho).len; have h:=(aG.1 hy).1; simp at hv; omega));have EL:=aA (jW okD ho hy);clear hQ h1 ho hy hp lp;have iN:=WO W.heap.size b1 me z1 z3 z4 z5 g n cap k y1 y2 yo yn yc y4 p;unfold ac7
 conv=>arg 2; whnf
 have nd:∀ j,(j<32\/42<=j)->∀ i,i<10->(fun i=>32+i) i≠j:=by
  intro j hj i hi h;simp only at h;omega
 refine Rg.fJ 11 10 (fun i=>32+i) (fun _=>10) (WM W.heap.size b1 me z1 z3 z4 z5 g n cap k y1 y2 yo yn yc y4 p) (by kernel_rfl) (by kernel_rfl) rfl (by decide) (fun i j _ _ h=>by have h2:32+i=32+j:=h; omega) (fun i hi=>by show 32+i<82; omega) ?_ (fun _=>Rg.jc 14 (by kernel_rfl)) ?_ ?_
 ·intro i o hi ho a x D hnd hc hD hb seen K hK;clear HQ;rcases (by omega:i=0\/i=1\/i=2\/i=3\/i=4\/i=5\/i=6\/i=7\/i=8\/i=9) with rfl|rfl|rfl|rfl|rfl|rfl|rfl|rfl|rfl|rfl
  ·cases ho;have e1:a.eval (au 1)=U (O ⟨b1,0,X⟩):=seen.kp 1 _ (nd 1 (by omega)) rfl;exact Rg.dw rfl rfl (Rg.dP a.eval _ 33 (au 1) 2 rfl (by rw [e1]; simp [go_sem])) (hK _ _ rfl (Z _ _) fun _ _ _ _ _ _ _ h=>h)
  ·cases ho;have e32:a.eval (au 32)=U (O ⟨b1,2,X⟩):=seen.at_ ⟨0,.data⟩ (by simp) rfl (aJ (by decide));have y2:=(H1.out.on hb).cell 2;simp only [Y,ah,aj] at y2;exact Rg.dw rfl rfl (Rg.dY a.eval _ 28 (au 32) rfl (by rw [e32]; simp [go_sem,y2])) (hK _ _ rfl (Z _ _) fun _ _ _ _ _ _ _ h=>h)
  ·cases ho;have e3:a.eval (au 3)=aH aI (k:Int):=seen.kp 3 _ (nd 3 (by omega)) rfl;exact Rg.dw rfl rfl (Rg.fU a.eval _ (au 3) rfl x) (hK _ _ e3 (Z _ _) fun _ _ _ _ _ _ _ h=>h)
  ·cases ho;have e1:a.eval (au 1)=U (O ⟨b1,0,X⟩):=seen.kp 1 _ (nd 1 (by omega)) rfl;exact Rg.dw rfl rfl (Rg.dP a.eval _ 33 (au 1) 2 rfl (by rw [e1]; simp [go_sem])) (hK _ _ rfl (Z _ _) fun _ _ _ _ _ _ _ h=>h)
  ·cases ho;have e35:a.eval (au 35)=U (O ⟨b1,2,X⟩):=seen.at_ ⟨3,.data⟩ (by simp) rfl (aJ (by decide));have y2:=(H1.out.on hb).cell 2;simp only [Y,ah,aj] at y2;exact Rg.dw rfl rfl (Rg.dY a.eval _ 28 (au 35) rfl (by rw [e35]; simp [go_sem,y2])) (hK _ _ rfl (Z _ _) fun _ _ _ _ _ _ _ h=>h)
  ·cases ho;have e3:a.eval (au 3)=aH aI (k:Int):=seen.kp 3 _ (nd 3 (by omega)) rfl;exact Rg.dw rfl rfl (Rg.fU a.eval _ (au 3) rfl x) (hK _ _ e3 (Z _ _) fun _ _ _ _ _ _ _ h=>h)
  ·cases ho;have e36:a.eval (au 36)=J (O ⟨g,0,X⟩) n cap:=seen.at_ ⟨4,.data⟩ (by simp) rfl (aJ (by decide));have e37:a.eval (au 37)=aH aI (k:Int):=seen.at_ ⟨5,.data⟩ (by simp) rfl (aJ (by decide));exact Rg.dw rfl rfl (Rg.nN a.eval _ 28 (au 36) (au 37) rfl (by rw [e36,e37]; exact IX.out x)) (hK _ _ rfl (Z _ _) fun _ _ _ _ _ _ _ h=>h)
  ·cases ho;have e38:a.eval (au 38)=U (O ⟨g,k * 4,X⟩):=seen.at_ ⟨6,.data⟩ (by simp) rfl (aJ (by decide));exact Rg.dw rfl rfl (Rg.dY a.eval _ 53 (au 38) rfl (by rw [e38]; exact Qk x _ (y1,y2,(yo,yn,yc),y4) (EL.out x hb))) (hK _ _ rfl (Z _ _) fun _ _ _ _ _ _ _ h=>h)
  ·cases ho;have e39:a.eval (au 39)=lV (y1,y2,(yo,yn,yc),y4):=seen.at_ ⟨7,.data⟩ (by simp) rfl (aJ (by decide));exact Rg.gL rfl rfl (Rw.iK a.eval _ (au 39) 53 42 rfl e39 rfl _ (gu Tryz.func42 rfl rfl _ _)) (yR (y1,y2,(yo,yn,yc),y4) p x (HP.out.on hb) LP.out) fun e w1 h=>by
    obtain⟨⟨s,rfl,h1⟩,h3⟩:=h;exact⟨_,rfl,hK _ _ ⟨s,rfl,dG h1 hb.size⟩ (h3.mono hb.size) fun j u hj _ _ _ hne h=>iN j u _ _ h h3⟩
  ·cases ho;have e33:a.eval (au 33)=J (O ⟨g,0,X⟩) n cap:=seen.at_ ⟨1,.data⟩ (by simp) rfl (aJ (by decide));have e34:a.eval (au 34)=aH aI (k:Int):=seen.at_ ⟨2,.data⟩ (by simp) rfl (aJ (by decide));exact Rg.dw rfl rfl (Rg.nN a.eval _ 28 (au 33) (au 34) rfl (by rw [e33,e34]; exact IX.out x)) (hK _ _ rfl (Z _ _) fun _ _ _ _ _ _ _ h=>h)
 ·intro kk o h1 h2 ho;omega
 ·intro a w' df sz kp ⟨vs,hv⟩ hb;have sz':a.tmps.size=82:=sz;have g41:a.tmps[41]?=O (U (O ⟨g,k * 4,X⟩)):=by
   have h:vs 9=U (O ⟨g,k * 4,X⟩):=(hv 9 (by omega)).2 (by decide);rw [<- h];exact (hv 9 (by omega)).1
  obtain⟨⟨s1,s2,s3⟩,hs,hc⟩:=(hv 8 (by omega)).2 (by decide);have g40:a.tmps[40]?=O (lV (y1,y2,(s1,s2,s3),y4)):=((hv 8 (by omega)).1).trans (congrArg O hs);obtain⟨w2,hr,st1,st2,st3⟩:=aaT (k:=k) (y1,y2,(s1,s2,s3),y4) (Bk.dB HO.out hb) (aG.1 HY.out).1;obtain⟨cur,hg⟩:=jS (Bk.dB HO.out hb);show Rg.fC _ _ _ 1 10 a w';simp only [Rg.fC];refine Rg.fM 53 (au 41) (au 40) rfl rfl rfl rfl (Rg.dI g41) (Rg.dI g40) (w':=w2) hr ?_;have qU:∀ j,(j<32\/42<=j)->(a).tmps[j]?=(u0::U (O ⟨b1,0,X⟩)::u2::aH aI (k:Int)::u4::u5::u6::u7::u8::u9::u10::u11::u12::u13::u14::u15::u16::u17::u18::u19::u20::u21::u22::u23::u24::u25::u26::u27::u28::u29::u30::u31::u32::u33::u34::u35::u36::u37::u38::u39::u40::u41::u42::u43::u44::u45::u46::u47::u48::u49::u50::u51::u52::u53::u54::u55::u56::u57::u58::u59::u60::u61::u62::u63::u64::u65::u66::u67::u68::u69::u70::u71::u72::u73::u74::u75::u76::u77::u78::u79::u80::u81::[])[j]?:=fun j hj=>(kp j (nd j (by omega))).trans Y;obtain⟨mid,hmid,hfr⟩:=Rg.gq (a:=a) 32 10 df (by simp [sz']) (by simp) qU;show Q .normal (a) _;rw [hfr]
  match mid,hmid with
  | [v32,v33,v34,v35,v36,v37,v38,v39,v40,v41],_ =>
   exact HQ.out _ _ _ _ _ _ _ _ _ _ _ s1 s2 s3 (st2.own hc hg (by decide)) st1 ((But.of_below hb).trans st2) fun B1 hB hl=>st3 B1 W hB (hb.mono hl)
theorem Ri {W:aC} {b:Nat} {c:eO} (h:dJ W b (jm c).toArray 38):vV W (J (O ⟨b,0,X⟩) 1 1) [c] :=
 aJ ⟨⟨b,0,X⟩,1,rfl,by simp,by decide,uG h (by simp [EJ])⟩
def yZ (B:Nat) (l:List eO) (k:Nat) (c:eO) (vv:aB) (W:aC) (e:Ending) (w':aC):Prop:=∃ v',e=.returned v'/\qB w' B v' (l.take k++c::l.drop k)/\Below B W w'/\(∀ j,j<W.heap.size->O j≠vv.ownBlock->w'.heap[j]?=W.heap[j]?)
theorem Gq (B:Nat) (v:aB) (l:List eO) (c:eO) (b:Nat) (W:aC) (ho:qB W B v l) (hx:dJ W b (jm c).toArray 38) (hl:l.length<=900) (hB:B<=W.heap.size) :
  aW ak 101 #[v,aH aI (l.length:Nat),J (O ⟨b,0,X⟩) 1 1] W (yZ B l l.length c v W):=by
 obtain⟨v',w',hr,ho2,hg⟩:=fT yD B ho (Ri hx) (by omega) (by simp) hB 29;have hr:(aT #[29,29] 29 #[v,J (O ⟨b,0,X⟩) 1 1]).run ak W=.ok v' w':=hr;have Q:=aA (show yZ B l l.length c v W (.returned v') w' from ⟨v',rfl,by rw [List.take_of_length_le (aN _),List.drop_of_length_le (aN _)]; exact ho2,(Z B W).grown hg hB (fun j hj=>(ho.lt j hj).1),fun j hj hne=>hg.block j hj hne⟩);obtain⟨sx,hs,_⟩:=oL yD (Row.dx ho) l.length (aN _);have hs:∀ w,(ay 29 v (O (aH aI l.length)) X X).run ak w=.ok sx w:=hs;obtain⟨ao,ac,rfl⟩:=(Row.dx ho).len;clear ho ho2 hg;generalize hn:l.length=n at *;clear hn;go_enter aR,aP;go_wp2_with (first | (at_builtin; refine wpList_append_run rfl _ _ 29 rfl rfl rfl hr ?_) | fail);go_ret;exact Q.out
theorem Rj (w:aC) (g b k la lb cb:Nat) (cur cs:Array aB) (hb:dJ w b cs 38) (hg:dJ w g cur 38) (hne:b≠g) (h0:0<cur.size):(callFunc 114 #[J (O ⟨b,0,X⟩) la 1,J (O ⟨g,k,X⟩) lb cb]).run ak w=.ok (.value (.bool aX)) w:=by
 rw [run_callFunc_extern Tryz.func114 (by kernel_rfl) (by kernel_rfl) (by kernel_rfl) (e:=Extern.SlicesOverlaps.overlaps #[29,29] #[4]) (by kernel_rfl),
  Lib.run_overlaps_apart w 29 4 38 Tryz.underlying29 2 Tryz.sizeOf38 ⟨b,0,X⟩ ⟨g,k,X⟩ la 1 lb cb hne 38 38 cs.size cur.size hb.shape hg.shape (by omega) (hb.fr 0) (hb.fr _)]
 rfl
theorem AY (B g n cap:Nat) (cur:Array aB) (l:List eO) (k:Nat) (c:eO) (b:Nat) (W:aC) (hn:n=l.length) (hBg:B<=g) (hg:dJ W g cur 38) (hcm:cap<=maxLen) (hsz:cur.size=cap * 2) (ht:cur.toList.take (n * 2)=flat EJ l) (hx:dJ W b (jm c).toArray 38) (hne:b≠g) (hk:k<n) (hroom:n+1<=cap) (hl:n<=900) :
  aW ak 101 #[J (O ⟨g,0,X⟩) n cap,aH aI k,J (O ⟨b,0,X⟩) 1 1] W (yZ B l k c (J (O ⟨g,0,X⟩) n cap) W):=by
 obtain⟨R1,R2,r1,r2,ow⟩:=vT (E:=EJ) (l:=l) (k:=k) (cap:=cap) (cur:=cur) (cs:=(jm c).toArray) (c:=c) yD (by omega) (by omega) hsz (by rw [<- hn]; exact ht) g b hne;have hov:=fun lb cb=>Rj W g b ((k+1) * 2) 1 lb cb cur (jm c).toArray hx hg hne (by omega);have s0:=jf (E:=EJ) yD g k n cap (by omega) (by omega);have s1:=nM (E:=EJ) yD ⟨g,0,X⟩ (n+1) n cap (by omega);have s2:=jf (E:=EJ) yD g (k+1) (n+1) cap (by omega) (by omega);have s3:=jf (E:=EJ) yD g k (n+1) cap (by omega) (by omega);have q1:=r1 W.drew 3 (n+1-(k+1)) (cap-(k+1)) (n+1-k) (cap-k) hg (by omega);have q2:=r2 (W.drew.setRow g R1) 3 (n+1-k) (cap-k) (dJ.set (show dJ W.drew g cur 38 from hg) R1) (dJ.other (show dJ W.drew b _ 38 from hx) hne R1) rfl (by omega);have Q:=aA (show yZ B l k c (J (O ⟨g,0,X⟩) n cap) W (.returned (J (O ⟨g,0,X⟩) (n+1) cap)) ((W.drew.setRow g R1).setRow g R2) from ⟨_,rfl,by rw [hn]; exact ow _ B hBg hcm (dJ.set (dJ.set (show dJ W.drew g cur 38 from hg) R1) R2),below_setRow (below_setRow (Z B W).drew hBg _) hBg _,fun j hj hne=>(setRow_other _ g j _ (fun e=>hne (by rw [e]; rfl))).trans (setRow_other _ g j _ (fun e=>hne (by rw [e]; rfl)))⟩);clear r1 r2 ow hg ht hx hsz hBg hcm;change ∀ w,(ay 29 (J (O ⟨g,0,X⟩) n cap) (O (aH aI k)) X X).run ak w=.ok (J (O ⟨g,k * 2,X⟩) (n-k) (cap-k)) w at s0;change ∀ w,(ay 29 (J (O ⟨g,0,X⟩) n cap) X (O (aH aI ((n:Int)+1))) X).run ak w=.ok (J (O ⟨g,0,X⟩) (n+1) cap) w at s1;change ∀ w,(ay 29 (J (O ⟨g,0,X⟩) (n+1) cap) (O (aH aI ((k:Int)+1))) X X).run ak w=.ok (J (O ⟨g,(k+1) * 2,X⟩) (n+1-(k+1)) (cap-(k+1))) w at s2;change ∀ w,(ay 29 (J (O ⟨g,0,X⟩) (n+1) cap) (O (aH aI k)) X X).run ak w=.ok (J (O ⟨g,k * 2,X⟩) (n+1-k) (cap-k)) w at s3;have e1:((k:Int) == (n:Int))=aX:=by rw [beq_eq_false_iff_ne]; omega
 have e2:decide ((cap:Int)<(n:Int)+1)=aX:=by simp; omega
 change (aL #[29,29] 3 #[J (O ⟨g,(k+1) * 2,X⟩) (n+1-(k+1)) (cap-(k+1)),J (O ⟨g,k * 2,X⟩) (n+1-k) (cap-k)]).run ak W.drew=.ok (aH aI ((l.length-k:Nat):Int)) (W.drew.setRow g R1) at q1;change (aL #[29,29] 3 #[J (O ⟨g,k * 2,X⟩) (n+1-k) (cap-k),J (O ⟨b,0,X⟩) 1 1]).run ak (W.drew.setRow g R1)=.ok (aH aI 1) ((W.drew.setRow g R1).setRow g R2) at q2;clear hn;go_enter aR,aP;go_wp2_with (first | (simp only [hov]) | fail);clear hov s0 s1 s2 s3;have hw1:IntKind.i64.wrap ((k:Int)+1)=(k:Int)+1:=by rw [aS]; omega
 have hb1:(0:Int)<=(k:Int)+1:=by omega
 have hb0:(k:Int)+1<=(n:Int)+1:=by omega
 have htn:((k:Int)+1).toNat=k+1:=by omega
 have hb2:¬ (cap=k+1):=by omega
 have hb3:(k:Int)<=(n:Int)+1:=by omega
 have hb4:¬ (cap=k):=by omega
 have h81:n+1-(k+1)=n-k:=by omega
 rw [h81] at q1;clear h81
 go_region_law (refine jN rfl (au 73) (au 76) 29 rfl (v:=J (O ⟨g,(k+1) * 2,X⟩) (n-k) (cap-(k+1))) (xv:=J (O ⟨g,k * 2,X⟩) (n+1-k) (cap-k)) (by simp [aU,aO]) (by simp [aU,aO]) q1 ?_)
 all_goals simp only [Exit.then]
 all_goals apply_assumption
 clear q1 hw1 hb1 hb0 htn hb2 hb3 hb4;have s3:=jf (E:=EJ) yD g k (n+1) cap (by omega) (by omega);change ∀ w,(ay 29 (J (O ⟨g,0,X⟩) (n+1) cap) (O (aH aI k)) X X).run ak w=.ok (J (O ⟨g,k * 2,X⟩) (n+1-k) (cap-k)) w at s3;go_wp2_with (first | (at_builtin; refine wpList_copy_run rfl _ _ 29 rfl rfl rfl q2 ?_) | fail);go_ret;exact Q.out
theorem Ep (B g n cap:Nat) (cur:Array aB) (l:List eO) (k:Nat) (c:eO) (b:Nat) (W:aC) (hn:n=l.length) (hg:dJ W g cur 38) (hcm:cap<=maxLen) (hnc:n<=cap) (ht:cur.toList.take (n * 2)=flat EJ l) (hx:dJ W b (jm c).toArray 38) (hk:k<n) (hroom:cap<n+1) (hl:n<=900) (hB:B<=W.heap.size) :
  aW ak 101 #[J (O ⟨g,0,X⟩) n cap,aH aI k,J (O ⟨b,0,X⟩) 1 1] W (yZ B l k c (J (O ⟨g,0,X⟩) n cap) W):=by
 have hgw:=hg.lt;have hbw:=hx.lt;obtain⟨G,R1,R2,R3,hG1,hG2,r1,r2,r3,ow⟩:=yw (E:=EJ) (l:=l) (k:=k) (cap:=cap) (cur:=cur) (cs:=(jm c).toArray) (c:=c) yD 3 Tryz.underlying3 (by omega) (by omega) (by omega) (by omega) (by rw [<- hn]; exact ht) W g b hg hbw;unfold maxLen at hcm hG2;have s0:=jf (E:=EJ) yD g k n cap (by omega) (by omega);have s1:=nM (E:=EJ) yD ⟨g,0,X⟩ k n cap (by omega);have s2:=jf (E:=EJ) yD W.heap.size k (n+1) G (by omega) (by omega);have s3:=jf (E:=EJ) yD W.heap.size (k+1) (n+1) G (by omega) (by omega);have a1:=r1 29;have n1:=dL W.drew R1 38;have bl:W.drew.heap.size=W.heap.size:=rfl;rw [bl] at n1;have g1:dJ (W.drew.alloc (aK R1 38)) g cur 38:=dJ.more (show dJ W.drew g cur 38 from hg) _;have x1:dJ (W.drew.alloc (aK R1 38)) b (jm c).toArray 38:=dJ.more (show dJ W.drew b _ 38 from hx) _;have q2:=r2 (W.drew.alloc (aK R1 38)) 3 (n+1-k) (G-k) n1 x1 rfl (by omega);have q3:=r3 ((W.drew.alloc (aK R1 38)).setRow W.heap.size R2).drew 3 (n+1-(k+1)) (G-(k+1)) (n-k) (cap-k) (dJ.set n1 R2) (dJ.other g1 (by omega) R2) (by omega);have Q:=aA (show yZ B l k c (J (O ⟨g,0,X⟩) n cap) W (.returned (J (O ⟨W.heap.size,0,X⟩) (n+1) G)) (((W.drew.alloc (aK R1 38)).setRow W.heap.size R2).drew.setRow W.heap.size R3) from ⟨_,rfl,by rw [hn]; exact ow _ B hB (dJ.set (dJ.set n1 R2) R3),below_setRow (below_setRow ((Z B W).drew.alloc hB _) hB _).drew hB _,fun j hj _=>(setRow_other _ W.heap.size j _ (by omega)).trans ((setRow_other _ W.heap.size j _ (by omega)).trans (Array.getElem?_push_lt hj |>.trans (Array.getElem?_eq_getElem hj).symm))⟩);have l1:l.length+1=n+1:=by rw [hn]
 rw [l1,<- hn] at a1;clear r1 r2 r3 ow hg ht hx g1 x1 n1 bl l1;change ∀ w,(ay 29 (J (O ⟨g,0,X⟩) n cap) (O (aH aI k)) X X).run ak w=.ok (J (O ⟨g,k * 2,X⟩) (n-k) (cap-k)) w at s0;change ∀ w,(ay 29 (J (O ⟨g,0,X⟩) n cap) X (O (aH aI k)) X).run ak w=.ok (J (O ⟨g,0,X⟩) k cap) w at s1;change ∀ w,(ay 29 (J (O ⟨W.heap.size,0,X⟩) (n+1) G) (O (aH aI k)) X X).run ak w=.ok (J (O ⟨W.heap.size,k * 2,X⟩) (n+1-k) (G-k)) w at s2;change ∀ w,(ay 29 (J (O ⟨W.heap.size,0,X⟩) (n+1) G) (O (aH aI ((k:Int)+1))) X X).run ak w=.ok (J (O ⟨W.heap.size,(k+1) * 2,X⟩) (n+1-(k+1)) (G-(k+1))) w at s3;change (aT #[29,3] 29 #[J (O ⟨g,0,X⟩) k cap,aH aI ((n:Int)+1-k)]).run ak W=.ok (J (O ⟨W.heap.size,0,X⟩) (n+1) G) (W.drew.alloc (aK R1 38)) at a1;change (aL #[29,29] 3 #[J (O ⟨W.heap.size,k * 2,X⟩) (n+1-k) (G-k),J (O ⟨b,0,X⟩) 1 1]).run ak (W.drew.alloc (aK R1 38))=.ok (aH aI 1) ((W.drew.alloc (aK R1 38)).setRow W.heap.size R2) at q2;change (aL #[29,29] 3 #[J (O ⟨W.heap.size,(k+1) * 2,X⟩) (n+1-(k+1)) (G-(k+1)),J (O ⟨g,k * 2,X⟩) (n-k) (cap-k)]).run ak ((W.drew.alloc (aK R1 38)).setRow W.heap.size R2).drew=.ok (aH aI ((l.length-k:Nat):Int)) (((W.drew.alloc (aK R1 38)).setRow W.heap.size R2).drew.setRow W.heap.size R3) at q3;have e1:((k:Int) == (n:Int))=aX:=by rw [beq_eq_false_iff_ne]; omega
 have e2:decide ((cap:Int)<(n:Int)+1)=aM:=by simp; omega
 have hGn:n+1<=G:=by omega
 clear hn;generalize W.heap.size=N at *;generalize W.drew.alloc (aK R1 38)=W1 at *;generalize W1.setRow N R2=W2 at *;go_enter aR,aP;go_wp2_with (first | (at_builtin; refine kP rfl _ _ 29 3 rfl rfl rfl a1 ?_) | (at_builtin; refine wpList_copy_run rfl _ _ 29 rfl rfl rfl q2 ?_) | fail);clear a1 q2 s0 s1 s2 s3;have hw1:IntKind.i64.wrap ((k:Int)+1)=(k:Int)+1:=by rw [aS]; omega
 have hb1:(0:Int)<=(k:Int)+1:=by omega
 have hb0:(k:Int)+1<=(n:Int)+1:=by omega
 have htn:((k:Int)+1).toNat=k+1:=by omega
 have hb2:¬ (G=k+1):=by omega
 have hb3:(k:Int)<=(n:Int):=by omega
 have hb4:¬ (cap=k):=by omega
 have h81:n+1-(k+1)=n-k:=by omega
 rw [h81] at q3;clear h81
 go_region_law (refine jN rfl (au 50) (au 53) 29 rfl (v:=J (O ⟨N,(k+1) * 2,X⟩) (n-k) (G-(k+1))) (xv:=J (O ⟨g,k * 2,X⟩) (n-k) (cap-k)) (by simp [aU,aO]) (by simp [aU,aO]) q3 ?_)
 all_goals simp only [Exit.then]
 all_goals apply_assumption
 go_wp2;go_ret;exact Q.out
theorem Gr (B:Nat) (v:aB) (l:List eO) (k:Nat) (c:eO) (b:Nat) (W:aC) (ho:qB W B v l) (hx:dJ W b (jm c).toArray 38) (hne:v.ownBlock≠O b) (hk:k<=l.length) (hl:l.length<=900) (hB:B<=W.heap.size) :
  aW ak 101 #[v,aH aI k,J (O ⟨b,0,X⟩) 1 1] W (yZ B l k c v W):=by
 rcases aV k l.length with h|h
 ·rcases iT ho with⟨_,h2⟩|⟨g,cap,cur,rfl,h1,h2,h3,h4,h5,h6⟩
  ·rw [h2] at h; simp at h
  ·rcases aV cap (l.length+1) with h7|h7
   ·exact Ep B g _ cap cur l k c b W rfl h2 h4 h3 h6 hx h h7 hl hB
   ·exact AY B g _ cap cur l k c b W rfl h1 h2 h4 h5 h6 hx (fun e=>hne (by simp [Value.ownBlock,e])) h h7 hl
 ·obtain rfl:k=l.length:=by omega
  exact Gq B v l c b W ho hx hl hB
end Av
namespace Rg
open Go.RowKit Rw
end Rg
namespace Rg
open Go.RowKit Rw
structure Yf (i N A S:Nat) (d last:Nat->Nat) (V:Nat->aB->aC->Prop) (base:aY) (o:Oper) (a:aY) (x:aC):Prop where
 kp:∀ j u,(∀ i,i<N->d i≠j)->base.tmps[j]?=O u->a.eval (au j)=u
 at_:∀ e∈o.after,aD .any e=aM->e.on≠A->e.on≠S->(last e.on=i\/N<=last e.on)->V e.on (a.eval (au (d e.on))) x
structure InX (l:List Oper) (N A S C:Nat) (d last:Nat->Nat) (V:Nat->aB->aC->Prop) (t:TypeId) (zero:Array aB) (cof:aB->Array aB) (base:aY) (W:aC) (L:Array Bool) (a:aY) (x:aC):Prop where
 cl:∀ i o,done L i->l[i]?=O o->∀ e∈o.after,aD .any e=aM->done L e.on
 no:∀ i,N<=i->¬ done L i
 df:a.defers=base.defers
 sz:a.tmps.size=base.tmps.size
 kp:∀ j,(∀ i,i<N->d i≠j)->a.tmps[j]?=base.tmps[j]?
 tC:Below W.heap.size W x
 val:∃ vs:Nat->aB,∀ i,i<N->i≠S->done L i->a.tmps[d i]?=O (vs i)/\(i≠A->¬ done L (last i)->V i (vs i) x)
 box:done L A->¬ done L S->∃ bb,a.tmps[d A]?=O (U (O ⟨bb,0,X⟩))/\W.heap.size<=bb/\dJ x bb zero t
 fin:done L S->∃ bb v,a.tmps[d A]?=O (U (O ⟨bb,0,X⟩))/\a.tmps[d C]?=O v/\W.heap.size<=bb/\dJ x bb (cof v) t/\V C v x
theorem wJ {P:Program} {Q:Exit->aY->aC->Prop} {id:Nat} {base:aY} {W:aC} {l:List Oper} (N A S C:Nat) (d last:Nat->Nat) (V:Nat->aB->aC->Prop) (t:TypeId) (zero:Array aB) (cof:aB->Array aB)
  (hm:P.follows .mixedOrders=aM) (hf:M9 l.toArray=aM) (hN:l.length=N) (hA:A<N) (hS:S<N) (hC:C<N) (hAS:A≠S) (hCS:C≠S) (hAC:A≠C) (hlC:N<=last C)
  (hinj:∀ i j,i<N->j<N->i≠S->j≠S->d i=d j->i=j) (hs:∀ i,i<N->d i<base.tmps.size)
  (hV:∀ i v x x',i<N->V i v x->Below x.heap.size x x'->V i v x')
  (hw:∀ o,l[S]?=O o->(∃ e∈o.after,aD .any e=aM/\e.on=A)/\∃ e∈o.after,aD .any e=aM/\e.on=C)
  (hop:∀ i o,i<N->i≠A->i≠S->l[i]?=O o->∀ a x,Below W.heap.size W x->Yf i N A S d last V base o a x->∀ K:aY->aC->Prop,(∀ v x',V i v x'->Below x.heap.size x x'->K (a.put (O (d i)) v) x')->wpOp P l.toArray Q i K a x)
  (hoA:∀ o,l[A]?=O o->∀ a x,∀ K:aY->aC->Prop,K (a.put (O (d A)) (U (O ⟨x.heap.size,0,X⟩))) (x.alloc (aK zero t))->wpOp P l.toArray Q A K a x)
  (hoS:∀ o,l[S]?=O o->∀ a x bb v (D:Nat->Prop),(∀ j oj,D j->l[j]?=O oj->∀ e∈oj.after,aD .any e=aM->D e.on)->(∀ e∈o.after,aD .any e=aM->D e.on)->Below W.heap.size W x->a.eval (au (d A))=U (O ⟨bb,0,X⟩)->a.eval (au (d C))=v->V C v x->W.heap.size<=bb->dJ x bb zero t->∀ K:aY->aC->Prop,(∀ x',Below W.heap.size W x'->dJ x' bb (cof v) t->(∀ j u,j<N->j≠A->j≠S->D j->¬ D (last j)->last j≠S->V j u x->V j u x')->K a x')->wpOp P l.toArray Q S K a x)
  (hend:∀ a x bb v,a.defers=base.defers->a.tmps.size=base.tmps.size->(∀ j,(∀ i,i<N->d i≠j)->a.tmps[j]?=base.tmps[j]?)->a.tmps[d A]?=O (U (O ⟨bb,0,X⟩))->a.tmps[d C]?=O v->W.heap.size<=bb->dJ x bb (cof v) t->V C v x->Below W.heap.size W x->(∃ vs:Nat->aB,∀ i,i<N->i≠S->i≠A->a.tmps[d i]?=O (vs i)/\(N<=last i->V i (vs i) x))->Q .normal a x):(Code.region id l.toArray aM).wp P Q base W:=by
 refine qz (fun L a x=>InX l N A S C d last V t zero cof base W L a x) hm hf ?_ ?_ ?_
 ·exact⟨fun i o h=>absurd h (gG _ _),fun i _=>gG _ _,rfl,rfl,fun _ _=>rfl,(Z _ _).drew,⟨fun _=>.bool aM,fun i _ _ h=>absurd h (gG _ _)⟩,fun h=>absurd h (gG _ _),fun h=>absurd h (gG _ _)⟩
 ·intro L a x i o hsz I ho hnd nO;have hi:i<l.length:=(aG.1 ho).1;have hiN:i<N:=by omega
  have AJ:i<L.size:=by omega
  obtain⟨vs,hvs⟩:=I.val;have hon:∀ e∈o.after,aD .any e=aM->e.on<i:=fun e he hb=>by
   have h7:=List.all_eq_true.1 hf i (List.mem_range.2 (by simpa using hi));have ho':(l.toArray)[i]?=O o:=by simpa using ho
   rw [ho'] at h7;have h8:=Array.all_eq_true'.1 h7 e he;rw [hb] at h8;simpa using h8
  have dd:∀ {k},k≠i->done (L.setIfInBounds i aM) k->done L k:=fun {k} h h5=>((gU AJ k).1 h5).resolve_left h;have du:∀ {k},done L k->done (L.setIfInBounds i aM) k:=fun {k} h=>(gU AJ k).2 (aJ h);have cl':∀ k q,done (L.setIfInBounds i aM) k->l[k]?=O q->∀ e∈q.after,aD .any e=aM->done (L.setIfInBounds i aM) e.on:=fun k q hk hq e he hb=>by
   by_cases e2:k=i
   ·subst e2;rw [hq] at ho;cases ho;exact du (nO e he hb)
   ·exact du (I.cl k q (dd e2 hk) hq e he hb)
  have no':∀ k,N<=k->¬ done (L.setIfInBounds i aM) k:=fun k hk h=>I.no k hk (dd (by omega) h);have seen:Yf i N A S d last V base o a x:=⟨fun j u hj hu=>dI (by rw [I.kp j hj]; exact hu),fun e he hb hA' hS' hl=>by
   obtain⟨h1,h2⟩:=hvs e.on (by have:=hon e he hb; omega) hS' (nO e he hb);rw [dI h1];refine h2 hA' ?_;rcases hl with hl|hl
   ·rw [hl]; exact hnd
   ·exact I.no _ hl⟩
  have ac8:i≠S->∀ v x',Below x.heap.size x x'->(i≠A->V i v x')->(i=A->∃ bb,v=U (O ⟨bb,0,X⟩)/\W.heap.size<=bb/\dJ x' bb zero t)->InX l N A S C d last V t zero cof base W (L.setIfInBounds i aM) (a.put (O (d i)) v) x':=by
   intro Qa v x' hb hpv hpa;have self:(a.put (O (d i)) v).tmps[d i]?=O v:=by
    have h5:d i<a.tmps.size:=by rw [I.sz]; exact hs i hiN
    simp [aO,h5]
   have keep:∀ k,k<N->k≠S->k≠i->(a.put (O (d i)) v).tmps[d k]?=a.tmps[d k]?:=fun k hk WQ hki=>get_put _ _ _ _ (fun e=>hki (hinj _ _ hk hiN WQ Qa e));refine⟨cl',no',I.df,by rw [size_put]; exact I.sz,fun j hj=>?_,I.tC.trans (hb.mono I.tC.size),⟨fun k=>if k=i then v else vs k,fun k hk WQ hdn=>?_⟩,fun h1 h2=>?_,fun h1=>?_⟩
   ·rw [get_put _ _ _ _ (fun e=>hj i hiN e.symm)];exact I.kp j hj
   ·by_cases e:k=i
    ·subst e;simp only [if_true];exact⟨self,fun h3 _=>hpv h3⟩
    ·simp only [if_neg e];obtain⟨h3,h4⟩:=hvs k hk WQ (dd e hdn);exact⟨by rw [keep k hk WQ e]; exact h3,fun h5 h6=>hV k _ _ _ hk (h4 h5 (fun h=>h6 (du h))) hb⟩
   ·by_cases e:A=i
    ·subst e;obtain⟨bb,rfl,h4,h5⟩:=hpa rfl;exact⟨bb,self,h4,h5⟩
    ·obtain⟨bb,h3,h4,h5⟩:=I.box (dd e h1) (fun h=>h2 (du h));exact⟨bb,by rw [keep A hA hAS e]; exact h3,h4,h5.on hb⟩
   ·have h2:=dd (Ne.symm Qa) h1;obtain⟨bb,u,h5,h6,h7,h8,h9⟩:=I.fin h2;obtain⟨oS,aa5⟩:∃ oS,l[S]?=O oS:=⟨_,List.getElem?_eq_getElem (by omega)⟩;obtain⟨⟨ea,k1,k2,k3⟩,ec,k4,k5,k6⟩:=hw oS aa5;have dA:=I.cl S oS h2 aa5 ea k1 k2;have dC:=I.cl S oS h2 aa5 ec k4 k5;rw [k3] at dA;rw [k6] at dC;have eA:A≠i:=fun e=>hnd (e ▸ dA);have eC:C≠i:=fun e=>hnd (e ▸ dC);exact⟨bb,u,by rw [keep A hA hAS eA]; exact h5,by rw [keep C hC hCS eC]; exact h6,h7,h8.on hb,hV C _ _ _ hC h9 hb⟩
  by_cases Qa:i=S
  ·subst Qa;obtain⟨⟨ea,h1,h2,h3⟩,ec,h4,h5,h6⟩:=hw o ho;have dA:=nO ea h1 h2;have dC:=nO ec h4 h5;rw [h3] at dA;rw [h6] at dC;obtain⟨v1,v2⟩:=hvs C hC hCS dC;obtain⟨bb,b1,b2,b3⟩:=I.box dA hnd;have vC:=v2 (Ne.symm hAC) (I.no _ hlC);refine hoS o ho a x bb (vs C) (done L) I.cl nO I.tC (dI b1) (dI v1) vC b2 b3 _ (fun x' q1 q2 q3=>⟨cl',no',I.df,I.sz,I.kp,q1,⟨vs,fun k hk WQ hdn=>?_⟩,fun _ hn=>absurd ((gU AJ _).2 (Or.inl rfl)) hn,fun _=>⟨bb,vs C,b1,v1,b2,q2,?_⟩⟩)
   ·obtain⟨w1,w2⟩:=hvs k hk WQ (dd WQ hdn);refine⟨w1,fun hkA hnl=>?_⟩;have n1:last k≠i:=fun e=>hnl ((gU AJ _).2 (Or.inl e));have n2:¬ done L (last k):=fun e=>hnl (du e);exact q3 k _ hk hkA WQ (dd WQ hdn) n2 n1 (w2 hkA n2)
   ·exact q3 C _ hC (Ne.symm hAC) hCS dC (I.no _ hlC) (by omega) vC
  ·by_cases Yg:i=A
   ·subst Yg;refine hoA o ho a x _ (ac8 Qa _ _ ((Z _ _).alloc (aN _) _) (fun h=>absurd rfl h) (fun _=>⟨x.heap.size,rfl,I.tC.size,dL x zero t⟩))
   ·refine hop i o hiN Yg Qa ho a x I.tC seen _ (fun v x' q1 q2=>ac8 Qa v x' q2 (fun _=>q1) (fun e=>absurd e Yg))
 ·intro L a x I hd;have dS:=hd S (by omega);obtain⟨bb,v,h1,h2,h3,h4,h5⟩:=I.fin dS;obtain⟨vs,hvs⟩:=I.val;exact hend a x bb v I.df I.sz I.kp h1 h2 h3 h4 h5 I.tC ⟨vs,fun i hi Qa Yg=>by
   obtain⟨k1,k2⟩:=hvs i hi Qa (hd i (by omega));exact⟨k1,fun hl=>k2 Yg (I.no _ hl)⟩⟩
end Rg
end Go.Proofs.YtkcfgbddlpomgaaGreat
