/-
  The region of Copy i. Conditions as told.
-/
import Derived.Test.YtkcfgbddlpomgaaGreatLQ015
import Derived.Test.YtkcfgbddlpomgaaGreatLQ014
set_option maxRecDepth 100000
set_option maxHeartbeats 64000000
open _root_.Go renaming Value->aD,World->aG,Addr->aK,Calls->aV
open Go.Builtin renaming copy_->aI,append_->aQ
open Go.Instr renaming sliceAt->ak
open Go.IntKind renaming i64->aB,wrap_i64->aO
open Go.Lib renaming hid->au
open Go.Obj renaming cells->aJ
open Go.Operand renaming tmp->aj
open Go.Proofs.Tryz renaming prog->ah,ntmps99->aN,func99->aP
open Go.Proofs.YtkcfgbddlpomgaaGreat.Rg renaming dn->aF,get_put->aH,dN->aL,dH->aM,dW->aR,gI->aS,fA->aT,fI->aU
open Go.RowKit.Below renaming refl->X,heap_setCell->ay
open Go.Value renaming slice->J,pointer->L,int->aA
open _root_.List renaming getElem?_toArray->V,getElem?_cons_zero->Y,getElem?_cons_succ->Z
open _root_.Option renaming none->O,some->U
open _root_.Or renaming inr->aC
namespace Go.Proofs.YtkcfgbddlpomgaaGreat.Av
open Go.RowKit Go.Sort Rw YtkcfgbddlpomgaaGreat.Nm Pr Bk
def WE (B:Nat) (b1:Nat) (_me:Int) (_z1 _z3:aD) (o2:Option aK) (n2 c2:Nat) (al:List jC) (o4:Option aK) (n4 c4:Nat) (el:List iF) (o5:Option aK) (n5 c5:Nat) (ol:List qK) (i:Nat) (v:aD) (x:aG):Prop :=
 match i with
 | 0=>v=L (U ⟨b1,2,O⟩)
 | 1=>v=J o2 n2 c2
 | 2=>∃ s:Sl,v=dP s/\kW x B v al
 | 3=>v=L (U ⟨b1,4,O⟩)
 | 4=>v=J o4 n4 c4
 | 5=>∃ s:Sl,v=dP s/\jA x B v el
 | 6=>v=L (U ⟨b1,5,O⟩)
 | 7=>v=J o5 n5 c5
 | 8=>∃ s:Sl,v=dP s/\pI x B v ol
 | 9=>v=L (U ⟨b1,2,O⟩)
 | _=>True
noncomputable def acV:Code:=((Tryz.f50.body.bind (eD 2)).getD .skip)
theorem WH (B:Nat) (b1:Nat) (me:Int) (z1 z3:aD) (o2:Option aK) (n2 c2:Nat) (al:List jC) (o4:Option aK) (n4 c4:Nat) (el:List iF) (o5:Option aK) (n5 c5:Nat) (ol:List qK) (i:Nat) (v:aD) (x x':aG) (h:WE B b1 me z1 z3 o2 n2 c2 al o4 n4 c4 el o5 n5 c5 ol i v x) (hb:Below x.heap.size x x'):WE B b1 me z1 z3 o2 n2 c2 al o4 n4 c4 el o5 n5 c5 ol i v x':=by
 by_cases hi:i<10
 ·rcases (by omega:i=0\/i=1\/i=2\/i=3\/i=4\/i=5\/i=6\/i=7\/i=8\/i=9) with rfl|rfl|rfl|rfl|rfl|rfl|rfl|rfl|rfl|rfl
  ·exact h
  ·exact h
  ·obtain⟨s,h1,h2⟩:=h; exact⟨s,h1,Bk.dx h2 hb⟩
  ·exact h
  ·exact h
  ·obtain⟨s,h1,h2⟩:=h; exact⟨s,h1,Bk.dx h2 hb⟩
  ·exact h
  ·exact h
  ·obtain⟨s,h1,h2⟩:=h; exact⟨s,h1,Bk.dx h2 hb⟩
  ·exact h
 ·unfold WE
  split <;> first | omega | trivial
theorem cp2 (Q:Exit->Act->aG->Prop) (W:aG) (b1:Nat) (me:Int) (z1 z3:aD) (o2:Option aK) (n2 c2:Nat) (al:List jC) (o4:Option aK) (n4 c4:Nat) (el:List iF) (o5:Option aK) (n5 c5:Nat) (ol:List qK) (u0 u2 u3 u4 u5 u6 u7 u8 u9 u10 u11 u12 u13 u14 u15 u16 u17 u18 u19 u20 u21 u22 u23 u24 u25 u26 u27 u28 u29 u30 u31 u32 u33 u34 u35 u36 u37 u38 u39 u40 u41 u42 u43 u44 u45 u46 u47 u48 u49 u50 u51 u52 u53 u54 u55 u56 u57 u58 u59 u60 u61 u62 u63 u64 u65 u66 u67 u68 u69 u70 u71 u72 u73 u74 u75 u76 u77 u78 u79 u80 u81:aD)
  (h1:dI W b1 #[aA aB me,z1,J o2 n2 c2,z3,J o4 n4 c4,J o5 n5 c5] 33) (r2:uE W (J o2 n2 c2) al) (r4:kC W (J o4 n4 c4) el) (r5:I9 W (J o5 n5 c5) ol) (l2:al.length<=900) (l4:el.length<=900) (l5:ol.length<=900)
  (hQ:∀ (x:aG) (v14 v15 v16 v17 v18 v19 v20 v21 v22 v23 v24 v25:aD) (p2:Option aK) (q2 s2:Nat) (p4:Option aK) (q4 s4:Nat) (p5:Option aK) (q5 s5:Nat),dI x b1 #[aA aB me,z1,J p2 q2 s2,z3,J p4 q4 s4,J p5 q5 s5] 33->kW x W.heap.size (J p2 q2 s2) al->jA x W.heap.size (J p4 q4 s4) el->pI x W.heap.size (J p5 q5 s5) ol->(∀ B,B<=b1->Below B W x)->(∀ k,k<W.heap.size->k≠b1->x.heap[k]?=W.heap[k]?)->Q .normal ⟨(u0::L (U ⟨b1,0,O⟩)::u2::u3::u4::u5::u6::u7::u8::u9::u10::u11::u12::u13::v14::v15::v16::v17::v18::v19::v20::v21::v22::v23::v24::v25::u26::u27::u28::u29::u30::u31::u32::u33::u34::u35::u36::u37::u38::u39::u40::u41::u42::u43::u44::u45::u46::u47::u48::u49::u50::u51::u52::u53::u54::u55::u56::u57::u58::u59::u60::u61::u62::u63::u64::u65::u66::u67::u68::u69::u70::u71::u72::u73::u74::u75::u76::u77::u78::u79::u80::u81::[]).toArray,[]⟩ x) :
  Code.wp ah acV Q ⟨(u0::L (U ⟨b1,0,O⟩)::u2::u3::u4::u5::u6::u7::u8::u9::u10::u11::u12::u13::u14::u15::u16::u17::u18::u19::u20::u21::u22::u23::u24::u25::u26::u27::u28::u29::u30::u31::u32::u33::u34::u35::u36::u37::u38::u39::u40::u41::u42::u43::u44::u45::u46::u47::u48::u49::u50::u51::u52::u53::u54::u55::u56::u57::u58::u59::u60::u61::u62::u63::u64::u65::u66::u67::u68::u69::u70::u71::u72::u73::u74::u75::u76::u77::u78::u79::u80::u81::[]).toArray,[]⟩ W:=by
 have HQ:=au hQ;have H1:=au h1;have R2:=au r2;have R4:=au r4;have R5:=au r5;have L2:=au l2;have L4:=au l4;have L5:=au l5;clear hQ h1 r2 r4 r5 l2 l4 l5;have iM:=WH W.heap.size b1 me z1 z3 o2 n2 c2 al o4 n4 c4 el o5 n5 c5 ol;unfold acV
 conv=>arg 2; whnf
 have nd:∀ j,(j<14\/24<=j)->∀ i,i<10->(fun i=>14+i) i≠j:=by
  intro j hj i hi h;simp only at h;omega
 refine Rg.fH 15 10 (fun i=>14+i) (fun _=>10) (WE W.heap.size b1 me z1 z3 o2 n2 c2 al o4 n4 c4 el o5 n5 c5 ol) (by kernel_rfl) (by kernel_rfl) rfl (by decide) (fun i j _ _ h=>by have h2:14+i=14+j:=h; omega) (fun i hi=>by show 14+i<82; omega) ?_ (fun _=>Rg.iY 14 (by kernel_rfl)) ?_ ?_
 ·intro i o hi ho a x D hnd hc hD hb seen K hK;clear HQ;rcases (by omega:i=0\/i=1\/i=2\/i=3\/i=4\/i=5\/i=6\/i=7\/i=8\/i=9) with rfl|rfl|rfl|rfl|rfl|rfl|rfl|rfl|rfl|rfl
  ·cases ho;have e1:a.eval (aj 1)=L (U ⟨b1,0,O⟩):=seen.kp 1 _ (nd 1 (by omega)) rfl;exact aF rfl rfl (aL a.eval _ 33 (aj 1) 2 rfl (by rw [e1]; simp [go_sem])) (hK _ _ rfl (X _ _) fun _ _ _ _ _ _ _ h=>h)
  ·cases ho;have e14:a.eval (aj 14)=L (U ⟨b1,2,O⟩):=seen.at_ ⟨0,.data⟩ (by simp) rfl (aC (by decide));have y2:=(H1.out.on hb).cell 2;simp only [V,Y,Z] at y2;exact aF rfl rfl (aR a.eval _ 28 (aj 14) rfl (by rw [e14]; simp [go_sem,y2])) (hK _ _ rfl (X _ _) fun _ _ _ _ _ _ _ h=>h)
  ·cases ho;have e15:a.eval (aj 15)=J o2 n2 c2:=seen.at_ ⟨1,.data⟩ (by simp) rfl (aC (by decide));exact aS rfl rfl (Rw.iJ a.eval _ (aj 15) 28 85 rfl e15 rfl _ (fV Tryz.func85 rfl rfl _ _)) (Jh (o2,n2,c2) al x (R2.out.on hb) L2.out) fun e w1 h=>by
    obtain⟨⟨s,rfl,h1⟩,h3⟩:=h;exact⟨_,rfl,hK _ _ ⟨s,rfl,dG h1 hb.size⟩ (h3.mono hb.size) fun j u hj _ _ _ hne h=>iM j u _ _ h h3⟩
  ·cases ho;have e1:a.eval (aj 1)=L (U ⟨b1,0,O⟩):=seen.kp 1 _ (nd 1 (by omega)) rfl;exact aF rfl rfl (aL a.eval _ 33 (aj 1) 4 rfl (by rw [e1]; simp [go_sem])) (hK _ _ rfl (X _ _) fun _ _ _ _ _ _ _ h=>h)
  ·cases ho;have e17:a.eval (aj 17)=L (U ⟨b1,4,O⟩):=seen.at_ ⟨3,.data⟩ (by simp) rfl (aC (by decide));have y4:=(H1.out.on hb).cell 4;simp only [V,Y,Z] at y4;exact aF rfl rfl (aR a.eval _ 30 (aj 17) rfl (by rw [e17]; simp [go_sem,y4])) (hK _ _ rfl (X _ _) fun _ _ _ _ _ _ _ h=>h)
  ·cases ho;have e18:a.eval (aj 18)=J o4 n4 c4:=seen.at_ ⟨4,.data⟩ (by simp) rfl (aC (by decide));exact aS rfl rfl (Rw.iJ a.eval _ (aj 18) 30 86 rfl e18 rfl _ (fV Tryz.func86 rfl rfl _ _)) (Ji (o4,n4,c4) el x (R4.out.on hb) L4.out) fun e w1 h=>by
    obtain⟨⟨s,rfl,h1⟩,h3⟩:=h;exact⟨_,rfl,hK _ _ ⟨s,rfl,dG h1 hb.size⟩ (h3.mono hb.size) fun j u hj _ _ _ hne h=>iM j u _ _ h h3⟩
  ·cases ho;have e1:a.eval (aj 1)=L (U ⟨b1,0,O⟩):=seen.kp 1 _ (nd 1 (by omega)) rfl;exact aF rfl rfl (aL a.eval _ 33 (aj 1) 5 rfl (by rw [e1]; simp [go_sem])) (hK _ _ rfl (X _ _) fun _ _ _ _ _ _ _ h=>h)
  ·cases ho;have e20:a.eval (aj 20)=L (U ⟨b1,5,O⟩):=seen.at_ ⟨6,.data⟩ (by simp) rfl (aC (by decide));have y5:=(H1.out.on hb).cell 5;simp only [V,Y,Z] at y5;exact aF rfl rfl (aR a.eval _ 31 (aj 20) rfl (by rw [e20]; simp [go_sem,y5])) (hK _ _ rfl (X _ _) fun _ _ _ _ _ _ _ h=>h)
  ·cases ho;have e21:a.eval (aj 21)=J o5 n5 c5:=seen.at_ ⟨7,.data⟩ (by simp) rfl (aC (by decide));exact aS rfl rfl (Rw.iJ a.eval _ (aj 21) 31 87 rfl e21 rfl _ (fV Tryz.func87 rfl rfl _ _)) (Jj (o5,n5,c5) ol x (R5.out.on hb) L5.out) fun e w1 h=>by
    obtain⟨⟨s,rfl,h1⟩,h3⟩:=h;exact⟨_,rfl,hK _ _ ⟨s,rfl,dG h1 hb.size⟩ (h3.mono hb.size) fun j u hj _ _ _ hne h=>iM j u _ _ h h3⟩
  ·cases ho;have e1:a.eval (aj 1)=L (U ⟨b1,0,O⟩):=seen.kp 1 _ (nd 1 (by omega)) rfl;exact aF rfl rfl (aL a.eval _ 33 (aj 1) 2 rfl (by rw [e1]; simp [go_sem])) (hK _ _ rfl (X _ _) fun _ _ _ _ _ _ _ h=>h)
 ·intro kk o h1 h2 ho;rcases (by omega:kk=11\/kk=12\/kk=13\/kk=14) with rfl|rfl|rfl|rfl
  ·cases ho;exact⟨⟨10,.phase⟩,by simp,rfl,rfl⟩
  ·cases ho;exact⟨⟨11,.data⟩,by simp,rfl,rfl⟩
  ·cases ho;exact⟨⟨12,.phase⟩,by simp,rfl,rfl⟩
  ·cases ho;exact⟨⟨13,.data⟩,by simp,rfl,rfl⟩
 ·intro a w' df sz kp ⟨vs,hv⟩ hb;have sz':a.tmps.size=82:=sz;have g1:a.tmps[1]?=U (L (U ⟨b1,0,O⟩)):=(kp 1 (nd 1 (by omega))).trans rfl;have g23:a.tmps[23]?=U (L (U ⟨b1,2,O⟩)):=by
   have h:vs 9=L (U ⟨b1,2,O⟩):=(hv 9 (by omega)).2 (by decide);rw [<- h];exact (hv 9 (by omega)).1
  obtain⟨⟨p2,q2,s2⟩,hs2,ho2⟩:=(hv 2 (by omega)).2 (by decide);have g16:a.tmps[16]?=U (J p2 q2 s2):=((hv 2 (by omega)).1).trans (congrArg U hs2);rw [hs2] at ho2;obtain⟨⟨p4,q4,s4⟩,hs4,ho4⟩:=(hv 5 (by omega)).2 (by decide);have g19:a.tmps[19]?=U (J p4 q4 s4):=((hv 5 (by omega)).1).trans (congrArg U hs4);rw [hs4] at ho4;obtain⟨⟨p5,q5,s5⟩,hs5,ho5⟩:=(hv 8 (by omega)).2 (by decide);have g22:a.tmps[22]?=U (J p5 q5 s5):=((hv 8 (by omega)).1).trans (congrArg U hs5);rw [hs5] at ho5;have hB:=H1.out.on hb;have hlt:=H1.out.lt;show aT _ _ _ 5 10 a w';simp only [aT];have c2x:=hB.cell 2;have f2x:=hB.fr 2;simp only [V,Y,Z] at c2x;refine aU 28 (aj 23) (aj 16) rfl rfl rfl rfl (aM g23) (aM g16) (w':=(w').setCell ⟨b1,2,O⟩ (J p2 q2 s2)) (by simp [go_sem,c2x,f2x]) ?_;have hB2:dI ((w').setCell ⟨b1,2,O⟩ (J p2 q2 s2)) b1 #[aA aB me,z1,J p2 q2 s2,z3,J o4 n4 c4,J o5 n5 c5] 33:=by simpa using dO (k:=2) hB (J p2 q2 s2)
  refine aF rfl rfl (aL _ _ 33 (aj 1) 4 rfl (v:=L (U ⟨b1,4,O⟩)) (by rw [aM g1]; simp [go_sem])) ?_;have afe:((a).put (U 24) (L (U ⟨b1,4,O⟩))).tmps[24]?=U (L (U ⟨b1,4,O⟩)):=by simp [Act.put,sz']
  show Go.wpOp _ _ _ 12 _ ((a).put (U 24) (L (U ⟨b1,4,O⟩))) _;have c4x:=hB2.cell 4;have f4x:=hB2.fr 4;simp only [V,Y,Z] at c4x;refine aU 30 (aj 24) (aj 19) rfl rfl rfl rfl (aM afe) (aM ((aH _ 24 _ 19 (by decide)).trans g19)) (w':=((w').setCell ⟨b1,2,O⟩ (J p2 q2 s2)).setCell ⟨b1,4,O⟩ (J p4 q4 s4)) (by simp [go_sem,c4x,f4x]) ?_;have hB4:dI (((w').setCell ⟨b1,2,O⟩ (J p2 q2 s2)).setCell ⟨b1,4,O⟩ (J p4 q4 s4)) b1 #[aA aB me,z1,J p2 q2 s2,z3,J p4 q4 s4,J o5 n5 c5] 33:=by simpa using dO (k:=4) hB2 (J p4 q4 s4)
  refine aF rfl rfl (aL _ _ 33 (aj 1) 5 rfl (v:=L (U ⟨b1,5,O⟩)) (by rw [aM ((aH _ 24 _ 1 (by decide)).trans g1)]; simp [go_sem])) ?_;have aff:(((a).put (U 24) (L (U ⟨b1,4,O⟩))).put (U 25) (L (U ⟨b1,5,O⟩))).tmps[25]?=U (L (U ⟨b1,5,O⟩)):=by simp [Act.put,sz']
  show Go.wpOp _ _ _ 14 _ (((a).put (U 24) (L (U ⟨b1,4,O⟩))).put (U 25) (L (U ⟨b1,5,O⟩))) _;have c5x:=hB4.cell 5;have f5x:=hB4.fr 5;simp only [V,Y,Z] at c5x;refine aU 31 (aj 25) (aj 22) rfl rfl rfl rfl (aM aff) (aM ((aH _ 25 _ 22 (by decide)).trans ((aH _ 24 _ 22 (by decide)).trans g22))) (w':=(((w').setCell ⟨b1,2,O⟩ (J p2 q2 s2)).setCell ⟨b1,4,O⟩ (J p4 q4 s4)).setCell ⟨b1,5,O⟩ (J p5 q5 s5)) (by simp [go_sem,c5x,f5x]) ?_;have hB5:dI ((((w').setCell ⟨b1,2,O⟩ (J p2 q2 s2)).setCell ⟨b1,4,O⟩ (J p4 q4 s4)).setCell ⟨b1,5,O⟩ (J p5 q5 s5)) b1 #[aA aB me,z1,J p2 q2 s2,z3,J p4 q4 s4,J p5 q5 s5] 33:=by simpa using dO (k:=5) hB4 (J p5 q5 s5)
  have q8:∀ j,(j<14\/26<=j)->(((a).put (U 24) (L (U ⟨b1,4,O⟩))).put (U 25) (L (U ⟨b1,5,O⟩))).tmps[j]?=(u0::L (U ⟨b1,0,O⟩)::u2::u3::u4::u5::u6::u7::u8::u9::u10::u11::u12::u13::u14::u15::u16::u17::u18::u19::u20::u21::u22::u23::u24::u25::u26::u27::u28::u29::u30::u31::u32::u33::u34::u35::u36::u37::u38::u39::u40::u41::u42::u43::u44::u45::u46::u47::u48::u49::u50::u51::u52::u53::u54::u55::u56::u57::u58::u59::u60::u61::u62::u63::u64::u65::u66::u67::u68::u69::u70::u71::u72::u73::u74::u75::u76::u77::u78::u79::u80::u81::[])[j]?:=fun j hj=>(aH _ 25 _ j (by omega)).trans ((aH _ 24 _ j (by omega)).trans ((kp j (nd j (by omega))).trans V));obtain⟨mid,hmid,hfr⟩:=Rg.fU (a:=((a).put (U 24) (L (U ⟨b1,4,O⟩))).put (U 25) (L (U ⟨b1,5,O⟩))) 14 12 df (by simp [Rg.size_put,sz']) (by simp) q8;show Q .normal (((a).put (U 24) (L (U ⟨b1,4,O⟩))).put (U 25) (L (U ⟨b1,5,O⟩))) _;rw [hfr]
  match mid,hmid with
  | [v14,v15,v16,v17,v18,v19,v20,v21,v22,v23,v24,v25],_ =>
   exact HQ.out _ _ _ _ _ _ _ _ _ _ _ _ _ p2 q2 s2 p4 q4 s4 p5 q5 s5 hB5 (dY (dY (dY ho2 b1 2 (J p2 q2 s2) hlt) b1 4 (J p4 q4 s4) hlt) b1 5 (J p5 q5 s5) hlt) (dY (dY (dY ho4 b1 2 (J p2 q2 s2) hlt) b1 4 (J p4 q4 s4) hlt) b1 5 (J p5 q5 s5) hlt) (dY (dY (dY ho5 b1 2 (J p2 q2 s2) hlt) b1 4 (J p4 q4 s4) hlt) b1 5 (J p5 q5 s5) hlt) (fun B hBl=>((((hb.mono (Nat.le_of_lt (Nat.lt_of_le_of_lt hBl hlt))).setCell (p:=⟨b1,2,O⟩) hBl (J p2 q2 s2)).setCell (p:=⟨b1,4,O⟩) hBl (J p4 q4 s4)).setCell (p:=⟨b1,5,O⟩) hBl (J p5 q5 s5))) (fun k hk hne=>((ay (((w').setCell ⟨b1,2,O⟩ (J p2 q2 s2)).setCell ⟨b1,4,O⟩ (J p4 q4 s4)) ⟨b1,5,O⟩ (J p5 q5 s5) k hne).trans ((ay ((w').setCell ⟨b1,2,O⟩ (J p2 q2 s2)) ⟨b1,4,O⟩ (J p4 q4 s4) k hne).trans ((ay (w') ⟨b1,2,O⟩ (J p2 q2 s2) k hne).trans (hb.block k hk)))))
def K8 (B:Nat) (b1:Nat) (_me:Int) (_z1 _z2 _z3 _z5:aD) (g n cap k:Nat) (_y1 _y2 _y3 _y4:Int) (yo:Option aK) (yn yc:Nat) (_y6:Int) (_y7:Bool) (p:List C5) (i:Nat) (v:aD) (x:aG):Prop :=
 match i with
 | 0=>v=L (U ⟨b1,4,O⟩)
 | 1=>v=J (U ⟨g,0,O⟩) n cap
 | 2=>v=aA aB (k:Int)
 | 3=>v=L (U ⟨b1,4,O⟩)
 | 4=>v=J (U ⟨g,0,O⟩) n cap
 | 5=>v=aA aB (k:Int)
 | 6=>v=L (U ⟨g,k * 7,O⟩)
 | 7=>v=L (U ⟨g,k * 7+4,O⟩)
 | 8=>v=J yo yn yc
 | 9=>∃ s:Sl,v=dP s/\jO x B v p
 | 10=>v=L (U ⟨g,k * 7,O⟩)
 | 11=>v=L (U ⟨g,k * 7+4,O⟩)
 | _=>True
noncomputable def Yg:Code:=((Tryz.f50.body.bind (eD 11)).getD .skip)
theorem RN (B:Nat) (b1:Nat) (me:Int) (z1 z2 z3 z5:aD) (g n cap k:Nat) (y1 y2 y3 y4:Int) (yo:Option aK) (yn yc:Nat) (y6:Int) (y7:Bool) (p:List C5) (i:Nat) (v:aD) (x x':aG) (h:K8 B b1 me z1 z2 z3 z5 g n cap k y1 y2 y3 y4 yo yn yc y6 y7 p i v x) (hb:Below x.heap.size x x'):K8 B b1 me z1 z2 z3 z5 g n cap k y1 y2 y3 y4 yo yn yc y6 y7 p i v x':=by
 by_cases hi:i<12
 ·rcases (by omega:i=0\/i=1\/i=2\/i=3\/i=4\/i=5\/i=6\/i=7\/i=8\/i=9\/i=10\/i=11) with rfl|rfl|rfl|rfl|rfl|rfl|rfl|rfl|rfl|rfl|rfl|rfl
  ·exact h
  ·exact h
  ·exact h
  ·exact h
  ·exact h
  ·exact h
  ·exact h
  ·exact h
  ·exact h
  ·obtain⟨s,h1,h2⟩:=h; exact⟨s,h1,Bk.dx h2 hb⟩
  ·exact h
  ·exact h
 ·unfold K8
  split <;> first | omega | trivial
theorem afh (Q:Exit->Act->aG->Prop) (W:aG) (B0:Nat) (l:List iF) (b1:Nat) (me:Int) (z1 z2 z3 z5:aD) (g n cap k:Nat) (y1 y2 y3 y4:Int) (yo:Option aK) (yn yc:Nat) (y6:Int) (y7:Bool) (p:List C5) (u0 u2 u3 u5 u6 u7 u8 u9 u10 u11 u12 u13 u14 u15 u16 u17 u18 u19 u20 u21 u22 u23 u24 u25 u26 u27 u28 u29 u30 u31 u32 u33 u34 u35 u36 u37 u38 u39 u40 u41 u42 u43 u44 u45 u46 u47 u48 u49 u50 u51 u52 u53 u54 u55 u56 u57 u58 u59 u60 u61 u62 u63 u64 u65 u66 u67 u68 u69 u70 u71 u72 u73 u74 u75 u76 u77 u78 u79 u80 u81:aD)
  (h1:dI W b1 #[aA aB me,z1,z2,z3,J (U ⟨g,0,O⟩) n cap,z5] 33) (ho:jA W B0 (J (U ⟨g,0,O⟩) n cap) l) (hy:l[k]?=U (y1,y2,y3,y4,(yo,yn,yc),y6,y7)) (hp:fK W (J yo yn yc) p) (lp:p.length<=900)
  (hQ:∀ (x:aG) (v49 v50 v51 v52 v53 v54 v55 v56 v57 v58 v59 v60:aD) (s1:Option aK) (s2 s3:Nat),jO x W.heap.size (J s1 s2 s3) p->jA x B0 (J (U ⟨g,0,O⟩) n cap) (l.set k (y1,y2,y3,y4,(s1,s2,s3),y6,y7))->But g W x->(∀ B1,B1<=g->B1<=W.heap.size->Below B1 W x)->Q .normal ⟨(u0::L (U ⟨b1,0,O⟩)::u2::u3::aA aB (k:Int)::u5::u6::u7::u8::u9::u10::u11::u12::u13::u14::u15::u16::u17::u18::u19::u20::u21::u22::u23::u24::u25::u26::u27::u28::u29::u30::u31::u32::u33::u34::u35::u36::u37::u38::u39::u40::u41::u42::u43::u44::u45::u46::u47::u48::v49::v50::v51::v52::v53::v54::v55::v56::v57::v58::v59::v60::u61::u62::u63::u64::u65::u66::u67::u68::u69::u70::u71::u72::u73::u74::u75::u76::u77::u78::u79::u80::u81::[]).toArray,[]⟩ x) :
  Code.wp ah Yg Q ⟨(u0::L (U ⟨b1,0,O⟩)::u2::u3::aA aB (k:Int)::u5::u6::u7::u8::u9::u10::u11::u12::u13::u14::u15::u16::u17::u18::u19::u20::u21::u22::u23::u24::u25::u26::u27::u28::u29::u30::u31::u32::u33::u34::u35::u36::u37::u38::u39::u40::u41::u42::u43::u44::u45::u46::u47::u48::u49::u50::u51::u52::u53::u54::u55::u56::u57::u58::u59::u60::u61::u62::u63::u64::u65::u66::u67::u68::u69::u70::u71::u72::u73::u74::u75::u76::u77::u78::u79::u80::u81::[]).toArray,[]⟩ W:=by
 have HQ:=au hQ;have H1:=au h1;have HO:=au ho;have HY:=au hy;have HP:=au hp;have LP:=au lp;have IX:=au (nG nR g k n cap (by obtain⟨_,_,hv⟩:=(Row.dw ho).len; have h:=(List.getElem?_eq_some_iff.1 hy).1; simp at hv; omega));have EL:=au (jW nR ho hy);clear hQ h1 ho hy hp lp;have iM:=RN W.heap.size b1 me z1 z2 z3 z5 g n cap k y1 y2 y3 y4 yo yn yc y6 y7 p;unfold Yg
 conv=>arg 2; whnf
 have nd:∀ j,(j<49\/61<=j)->∀ i,i<12->(fun i=>49+i) i≠j:=by
  intro j hj i hi h;simp only at h;omega
 refine Rg.fH 13 12 (fun i=>49+i) (fun _=>12) (K8 W.heap.size b1 me z1 z2 z3 z5 g n cap k y1 y2 y3 y4 yo yn yc y6 y7 p) (by kernel_rfl) (by kernel_rfl) rfl (by decide) (fun i j _ _ h=>by have h2:49+i=49+j:=h; omega) (fun i hi=>by show 49+i<82; omega) ?_ (fun _=>Rg.iY 14 (by kernel_rfl)) ?_ ?_
 ·intro i o hi ho a x D hnd hc hD hb seen K hK;clear HQ;rcases (by omega:i=0\/i=1\/i=2\/i=3\/i=4\/i=5\/i=6\/i=7\/i=8\/i=9\/i=10\/i=11) with rfl|rfl|rfl|rfl|rfl|rfl|rfl|rfl|rfl|rfl|rfl|rfl
  ·cases ho;have e1:a.eval (aj 1)=L (U ⟨b1,0,O⟩):=seen.kp 1 _ (nd 1 (by omega)) rfl;exact aF rfl rfl (aL a.eval _ 33 (aj 1) 4 rfl (by rw [e1]; simp [go_sem])) (hK _ _ rfl (X _ _) fun _ _ _ _ _ _ _ h=>h)
  ·cases ho;have e49:a.eval (aj 49)=L (U ⟨b1,4,O⟩):=seen.at_ ⟨0,.data⟩ (by simp) rfl (aC (by decide));have y4:=(H1.out.on hb).cell 4;simp only [V,Y,Z] at y4;exact aF rfl rfl (aR a.eval _ 30 (aj 49) rfl (by rw [e49]; simp [go_sem,y4])) (hK _ _ rfl (X _ _) fun _ _ _ _ _ _ _ h=>h)
  ·cases ho;have e4:a.eval (aj 4)=aA aB (k:Int):=seen.kp 4 _ (nd 4 (by omega)) rfl;exact aF rfl rfl (Rg.fQ a.eval _ (aj 4) rfl x) (hK _ _ e4 (X _ _) fun _ _ _ _ _ _ _ h=>h)
  ·cases ho;have e1:a.eval (aj 1)=L (U ⟨b1,0,O⟩):=seen.kp 1 _ (nd 1 (by omega)) rfl;exact aF rfl rfl (aL a.eval _ 33 (aj 1) 4 rfl (by rw [e1]; simp [go_sem])) (hK _ _ rfl (X _ _) fun _ _ _ _ _ _ _ h=>h)
  ·cases ho;have e52:a.eval (aj 52)=L (U ⟨b1,4,O⟩):=seen.at_ ⟨3,.data⟩ (by simp) rfl (aC (by decide));have y4:=(H1.out.on hb).cell 4;simp only [V,Y,Z] at y4;exact aF rfl rfl (aR a.eval _ 30 (aj 52) rfl (by rw [e52]; simp [go_sem,y4])) (hK _ _ rfl (X _ _) fun _ _ _ _ _ _ _ h=>h)
  ·cases ho;have e4:a.eval (aj 4)=aA aB (k:Int):=seen.kp 4 _ (nd 4 (by omega)) rfl;exact aF rfl rfl (Rg.fQ a.eval _ (aj 4) rfl x) (hK _ _ e4 (X _ _) fun _ _ _ _ _ _ _ h=>h)
  ·cases ho;have e53:a.eval (aj 53)=J (U ⟨g,0,O⟩) n cap:=seen.at_ ⟨4,.data⟩ (by simp) rfl (aC (by decide));have e54:a.eval (aj 54)=aA aB (k:Int):=seen.at_ ⟨5,.data⟩ (by simp) rfl (aC (by decide));exact aF rfl rfl (Rg.nM a.eval _ 30 (aj 53) (aj 54) rfl (by rw [e53,e54]; exact IX.out x)) (hK _ _ rfl (X _ _) fun _ _ _ _ _ _ _ h=>h)
  ·cases ho;have e55:a.eval (aj 55)=L (U ⟨g,k * 7,O⟩):=seen.at_ ⟨6,.data⟩ (by simp) rfl (aC (by decide));exact aF rfl rfl (aL a.eval _ 68 (aj 55) 2 rfl (by rw [e55]; simp [go_sem])) (hK _ _ rfl (X _ _) fun _ _ _ _ _ _ _ h=>h)
  ·cases ho;have e56:a.eval (aj 56)=L (U ⟨g,k * 7+4,O⟩):=seen.at_ ⟨7,.data⟩ (by simp) rfl (aC (by decide));have y:=EL.out x hb 4 _ rfl;simp [Addr.add,EN] at y;exact aF rfl rfl (aR a.eval _ 41 (aj 56) rfl (by rw [e56]; simp [go_sem,y])) (hK _ _ rfl (X _ _) fun _ _ _ _ _ _ _ h=>h)
  ·cases ho;have e57:a.eval (aj 57)=J yo yn yc:=seen.at_ ⟨8,.data⟩ (by simp) rfl (aC (by decide));exact aS rfl rfl (Rw.iJ a.eval _ (aj 57) 41 66 rfl e57 rfl _ (fV Tryz.func66 rfl rfl _ _)) (qL (yo,yn,yc) p x (HP.out.on hb) LP.out) fun e w1 h=>by
    obtain⟨⟨s,rfl,h1⟩,h3⟩:=h;exact⟨_,rfl,hK _ _ ⟨s,rfl,dG h1 hb.size⟩ (h3.mono hb.size) fun j u hj _ _ _ hne h=>iM j u _ _ h h3⟩
  ·cases ho;have e50:a.eval (aj 50)=J (U ⟨g,0,O⟩) n cap:=seen.at_ ⟨1,.data⟩ (by simp) rfl (aC (by decide));have e51:a.eval (aj 51)=aA aB (k:Int):=seen.at_ ⟨2,.data⟩ (by simp) rfl (aC (by decide));exact aF rfl rfl (Rg.nM a.eval _ 30 (aj 50) (aj 51) rfl (by rw [e50,e51]; exact IX.out x)) (hK _ _ rfl (X _ _) fun _ _ _ _ _ _ _ h=>h)
  ·cases ho;have e59:a.eval (aj 59)=L (U ⟨g,k * 7,O⟩):=seen.at_ ⟨10,.data⟩ (by simp) rfl (aC (by decide));exact aF rfl rfl (aL a.eval _ 68 (aj 59) 2 rfl (by rw [e59]; simp [go_sem])) (hK _ _ rfl (X _ _) fun _ _ _ _ _ _ _ h=>h)
 ·intro kk o h1 h2 ho;omega
 ·intro a w' df sz kp ⟨vs,hv⟩ hb;have sz':a.tmps.size=82:=sz;have g60:a.tmps[60]?=U (L (U ⟨g,k * 7+4,O⟩)):=by
   have h:vs 11=L (U ⟨g,k * 7+4,O⟩):=(hv 11 (by omega)).2 (by decide);rw [<- h];exact (hv 11 (by omega)).1
  obtain⟨⟨s1,s2,s3⟩,hs,hc⟩:=(hv 9 (by omega)).2 (by decide);have g58:a.tmps[58]?=U (J s1 s2 s3):=((hv 9 (by omega)).1).trans (congrArg U hs);rw [hs] at hc;obtain⟨w2,hr,st1,st2,st3⟩:=aaD (k:=k) s1 s2 s3 (Bk.dx HO.out hb) HY.out;obtain⟨cur,hg⟩:=jR (Bk.dx HO.out hb);show aT _ _ _ 1 12 a w';simp only [aT];refine aU 41 (aj 60) (aj 58) rfl rfl rfl rfl (aM g60) (aM g58) (w':=w2) hr ?_;have q8:∀ j,(j<49\/61<=j)->(a).tmps[j]?=(u0::L (U ⟨b1,0,O⟩)::u2::u3::aA aB (k:Int)::u5::u6::u7::u8::u9::u10::u11::u12::u13::u14::u15::u16::u17::u18::u19::u20::u21::u22::u23::u24::u25::u26::u27::u28::u29::u30::u31::u32::u33::u34::u35::u36::u37::u38::u39::u40::u41::u42::u43::u44::u45::u46::u47::u48::u49::u50::u51::u52::u53::u54::u55::u56::u57::u58::u59::u60::u61::u62::u63::u64::u65::u66::u67::u68::u69::u70::u71::u72::u73::u74::u75::u76::u77::u78::u79::u80::u81::[])[j]?:=fun j hj=>(kp j (nd j (by omega))).trans V;obtain⟨mid,hmid,hfr⟩:=Rg.fU (a:=a) 49 12 df (by simp [sz']) (by simp) q8;show Q .normal (a) _;rw [hfr]
  match mid,hmid with
  | [v49,v50,v51,v52,v53,v54,v55,v56,v57,v58,v59,v60],_ =>
   exact HQ.out _ _ _ _ _ _ _ _ _ _ _ _ _ s1 s2 s3 (st2.own hc hg (by decide)) st1 ((But.of_below hb).trans st2) fun B1 hB hl=>st3 B1 W hB (hb.mono hl)
theorem RO {W:aG} {b:Nat} {c:jC} (h:dI W b (cellsD c).toArray 53):uE W (J (U ⟨b,0,O⟩) 1 1) [c] :=
 aC ⟨⟨b,0,O⟩,1,rfl,by simp,by decide,uz h (by simp [ED])⟩
def zh (B:Nat) (l:List jC) (k:Nat) (c:jC) (vv:aD) (W:aG) (e:Ending) (w':aG):Prop:=∃ v',e=.returned v'/\kW w' B v' (l.take k++c::l.drop k)/\Below B W w'/\(∀ j,j<W.heap.size->U j≠vv.ownBlock->w'.heap[j]?=W.heap[j]?)
theorem Gr (B:Nat) (v:aD) (l:List jC) (c:jC) (b:Nat) (W:aG) (ho:kW W B v l) (hx:dI W b (cellsD c).toArray 53) (hl:l.length<=900) (hB:B<=W.heap.size) :
  aV ah 99 #[v,aA aB (l.length:Nat),J (U ⟨b,0,O⟩) 1 1] W (zh B l l.length c v W):=by
 obtain⟨v',w',hr,ho2,hg⟩:=fT okD B ho (RO hx) (by omega) (by simp) hB 28;have hr:(aQ #[28,28] 28 #[v,J (U ⟨b,0,O⟩) 1 1]).run ah W=.ok v' w':=hr;have Q:=au (show zh B l l.length c v W (.returned v') w' from ⟨v',rfl,by rw [List.take_of_length_le (Nat.le_refl _),List.drop_of_length_le (Nat.le_refl _)]; exact ho2,(X B W).grown hg hB (fun j hj=>(ho.lt j hj).1),fun j hj hne=>hg.block j hj hne⟩);obtain⟨sx,hs,_⟩:=oU okD (Row.dw ho) l.length (Nat.le_refl _);have hs:∀ w,(ak 28 v (U (aA aB l.length)) O O).run ah w=.ok sx w:=hs;obtain⟨ao,ac,rfl⟩:=(Row.dw ho).len;clear ho ho2 hg;generalize hn:l.length=n at *;clear hn;go_enter aP,aN;go_wp2_with (first | (at_builtin; refine wpList_append_run rfl _ _ 28 rfl rfl rfl hr ?_) | fail);go_ret;exact Q.out
theorem RQ (w:aG) (g b k la lb cb:Nat) (cur cs:Array aD) (hb:dI w b cs 53) (hg:dI w g cur 53) (hne:b≠g) (h0:0<cur.size):(callFunc 112 #[J (U ⟨b,0,O⟩) la 1,J (U ⟨g,k,O⟩) lb cb]).run ah w=.ok (.value (.bool false)) w:=by
 rw [run_callFunc_extern Tryz.func112 (by kernel_rfl) (by kernel_rfl) (by kernel_rfl) (e:=Extern.SlicesOverlaps.overlaps #[28,28] #[4]) (by kernel_rfl),
  Lib.run_overlaps_apart w 28 4 53 Tryz.underlying28 4 Tryz.sizeOf53 ⟨b,0,O⟩ ⟨g,k,O⟩ la 1 lb cb hne 53 53 cs.size cur.size hb.shape hg.shape (by omega) (hb.fr 0) (hb.fr _)]
 rfl
theorem AP (B g n cap:Nat) (cur:Array aD) (l:List jC) (k:Nat) (c:jC) (b:Nat) (W:aG) (hn:n=l.length) (hBg:B<=g) (hg:dI W g cur 53) (hcm:cap<=maxLen) (hsz:cur.size=cap * 4) (ht:cur.toList.take (n * 4)=flat ED l) (hx:dI W b (cellsD c).toArray 53) (hne:b≠g) (hk:k<n) (hroom:n+1<=cap) (hl:n<=900) :
  aV ah 99 #[J (U ⟨g,0,O⟩) n cap,aA aB k,J (U ⟨b,0,O⟩) 1 1] W (zh B l k c (J (U ⟨g,0,O⟩) n cap) W):=by
 obtain⟨R1,R2,r1,r2,ow⟩:=vK (E:=ED) (l:=l) (k:=k) (cap:=cap) (cur:=cur) (cs:=(cellsD c).toArray) (c:=c) okD (by omega) (by omega) hsz (by rw [<- hn]; exact ht) g b hne;have hov:=fun lb cb=>RQ W g b ((k+1) * 4) 1 lb cb cur (cellsD c).toArray hx hg hne (by omega);have s0:=jd (E:=ED) okD g k n cap (by omega) (by omega);have s1:=nL (E:=ED) okD ⟨g,0,O⟩ (n+1) n cap (by omega);have s2:=jd (E:=ED) okD g (k+1) (n+1) cap (by omega) (by omega);have s3:=jd (E:=ED) okD g k (n+1) cap (by omega) (by omega);have q1:=r1 W.drew 3 (n+1-(k+1)) (cap-(k+1)) (n+1-k) (cap-k) hg (by omega);have q2:=r2 (W.drew.setRow g R1) 3 (n+1-k) (cap-k) (dI.set (show dI W.drew g cur 53 from hg) R1) (dI.other (show dI W.drew b _ 53 from hx) hne R1) rfl (by omega);have Q:=au (show zh B l k c (J (U ⟨g,0,O⟩) n cap) W (.returned (J (U ⟨g,0,O⟩) (n+1) cap)) ((W.drew.setRow g R1).setRow g R2) from ⟨_,rfl,by rw [hn]; exact ow _ B hBg hcm (dI.set (dI.set (show dI W.drew g cur 53 from hg) R1) R2),below_setRow (below_setRow (X B W).drew hBg _) hBg _,fun j hj hne=>(setRow_other _ g j _ (fun e=>hne (by rw [e]; rfl))).trans (setRow_other _ g j _ (fun e=>hne (by rw [e]; rfl)))⟩);clear r1 r2 ow hg ht hx hsz hBg hcm;change ∀ w,(ak 28 (J (U ⟨g,0,O⟩) n cap) (U (aA aB k)) O O).run ah w=.ok (J (U ⟨g,k * 4,O⟩) (n-k) (cap-k)) w at s0;change ∀ w,(ak 28 (J (U ⟨g,0,O⟩) n cap) O (U (aA aB ((n:Int)+1))) O).run ah w=.ok (J (U ⟨g,0,O⟩) (n+1) cap) w at s1;change ∀ w,(ak 28 (J (U ⟨g,0,O⟩) (n+1) cap) (U (aA aB ((k:Int)+1))) O O).run ah w=.ok (J (U ⟨g,(k+1) * 4,O⟩) (n+1-(k+1)) (cap-(k+1))) w at s2;change ∀ w,(ak 28 (J (U ⟨g,0,O⟩) (n+1) cap) (U (aA aB k)) O O).run ah w=.ok (J (U ⟨g,k * 4,O⟩) (n+1-k) (cap-k)) w at s3;have e1:((k:Int) == (n:Int))=false:=by rw [beq_eq_false_iff_ne]; omega
 have e2:decide ((cap:Int)<(n:Int)+1)=false:=by simp; omega
 change (aI #[28,28] 3 #[J (U ⟨g,(k+1) * 4,O⟩) (n+1-(k+1)) (cap-(k+1)),J (U ⟨g,k * 4,O⟩) (n+1-k) (cap-k)]).run ah W.drew=.ok (aA aB ((l.length-k:Nat):Int)) (W.drew.setRow g R1) at q1;change (aI #[28,28] 3 #[J (U ⟨g,k * 4,O⟩) (n+1-k) (cap-k),J (U ⟨b,0,O⟩) 1 1]).run ah (W.drew.setRow g R1)=.ok (aA aB 1) ((W.drew.setRow g R1).setRow g R2) at q2;clear hn;go_enter aP,aN;go_wp2_with (first | (simp only [hov]) | fail);clear hov s0 s1 s2 s3;have hw1:IntKind.i64.wrap ((k:Int)+1)=(k:Int)+1:=by rw [aO]; omega
 have hb1:(0:Int)<=(k:Int)+1:=by omega
 have hb0:(k:Int)+1<=(n:Int)+1:=by omega
 have htn:((k:Int)+1).toNat=k+1:=by omega
 have hb2:¬ (cap=k+1):=by omega
 have hb3:(k:Int)<=(n:Int)+1:=by omega
 have hb4:¬ (cap=k):=by omega
 have h81:n+1-(k+1)=n-k:=by omega
 rw [h81] at q1;clear h81
 go_region_law (refine jM rfl (aj 73) (aj 76) 28 rfl (v:=J (U ⟨g,(k+1) * 4,O⟩) (n-k) (cap-(k+1))) (xv:=J (U ⟨g,k * 4,O⟩) (n+1-k) (cap-k)) (by simp [Act.eval,Act.put]) (by simp [Act.eval,Act.put]) q1 ?_)
 all_goals simp only [Exit.then]
 all_goals apply_assumption
 clear q1 hw1 hb1 hb0 htn hb2 hb3 hb4;have s3:=jd (E:=ED) okD g k (n+1) cap (by omega) (by omega);change ∀ w,(ak 28 (J (U ⟨g,0,O⟩) (n+1) cap) (U (aA aB k)) O O).run ah w=.ok (J (U ⟨g,k * 4,O⟩) (n+1-k) (cap-k)) w at s3;go_wp2_with (first | (at_builtin; refine wpList_copy_run rfl _ _ 28 rfl rfl rfl q2 ?_) | fail);go_ret;exact Q.out
theorem Ea (B g n cap:Nat) (cur:Array aD) (l:List jC) (k:Nat) (c:jC) (b:Nat) (W:aG) (hn:n=l.length) (hg:dI W g cur 53) (hcm:cap<=maxLen) (hnc:n<=cap) (ht:cur.toList.take (n * 4)=flat ED l) (hx:dI W b (cellsD c).toArray 53) (hk:k<n) (hroom:cap<n+1) (hl:n<=900) (hB:B<=W.heap.size) :
  aV ah 99 #[J (U ⟨g,0,O⟩) n cap,aA aB k,J (U ⟨b,0,O⟩) 1 1] W (zh B l k c (J (U ⟨g,0,O⟩) n cap) W):=by
 have hgw:=hg.lt;have hbw:=hx.lt;obtain⟨G,R1,R2,R3,hG1,hG2,r1,r2,r3,ow⟩:=yh (E:=ED) (l:=l) (k:=k) (cap:=cap) (cur:=cur) (cs:=(cellsD c).toArray) (c:=c) okD 3 Tryz.underlying3 (by omega) (by omega) (by omega) (by omega) (by rw [<- hn]; exact ht) W g b hg hbw;unfold maxLen at hcm hG2;have s0:=jd (E:=ED) okD g k n cap (by omega) (by omega);have s1:=nL (E:=ED) okD ⟨g,0,O⟩ k n cap (by omega);have s2:=jd (E:=ED) okD W.heap.size k (n+1) G (by omega) (by omega);have s3:=jd (E:=ED) okD W.heap.size (k+1) (n+1) G (by omega) (by omega);have a1:=r1 28;have n1:=dK W.drew R1 53;have bl:W.drew.heap.size=W.heap.size:=rfl;rw [bl] at n1;have g1:dI (W.drew.alloc (aJ R1 53)) g cur 53:=dI.more (show dI W.drew g cur 53 from hg) _;have x1:dI (W.drew.alloc (aJ R1 53)) b (cellsD c).toArray 53:=dI.more (show dI W.drew b _ 53 from hx) _;have q2:=r2 (W.drew.alloc (aJ R1 53)) 3 (n+1-k) (G-k) n1 x1 rfl (by omega);have q3:=r3 ((W.drew.alloc (aJ R1 53)).setRow W.heap.size R2).drew 3 (n+1-(k+1)) (G-(k+1)) (n-k) (cap-k) (dI.set n1 R2) (dI.other g1 (by omega) R2) (by omega);have Q:=au (show zh B l k c (J (U ⟨g,0,O⟩) n cap) W (.returned (J (U ⟨W.heap.size,0,O⟩) (n+1) G)) (((W.drew.alloc (aJ R1 53)).setRow W.heap.size R2).drew.setRow W.heap.size R3) from ⟨_,rfl,by rw [hn]; exact ow _ B hB (dI.set (dI.set n1 R2) R3),below_setRow (below_setRow ((X B W).drew.alloc hB _) hB _).drew hB _,fun j hj _=>(setRow_other _ W.heap.size j _ (by omega)).trans ((setRow_other _ W.heap.size j _ (by omega)).trans (Array.getElem?_push_lt hj |>.trans (Array.getElem?_eq_getElem hj).symm))⟩);have l1:l.length+1=n+1:=by rw [hn]
 rw [l1,<- hn] at a1;clear r1 r2 r3 ow hg ht hx g1 x1 n1 bl l1;change ∀ w,(ak 28 (J (U ⟨g,0,O⟩) n cap) (U (aA aB k)) O O).run ah w=.ok (J (U ⟨g,k * 4,O⟩) (n-k) (cap-k)) w at s0;change ∀ w,(ak 28 (J (U ⟨g,0,O⟩) n cap) O (U (aA aB k)) O).run ah w=.ok (J (U ⟨g,0,O⟩) k cap) w at s1;change ∀ w,(ak 28 (J (U ⟨W.heap.size,0,O⟩) (n+1) G) (U (aA aB k)) O O).run ah w=.ok (J (U ⟨W.heap.size,k * 4,O⟩) (n+1-k) (G-k)) w at s2;change ∀ w,(ak 28 (J (U ⟨W.heap.size,0,O⟩) (n+1) G) (U (aA aB ((k:Int)+1))) O O).run ah w=.ok (J (U ⟨W.heap.size,(k+1) * 4,O⟩) (n+1-(k+1)) (G-(k+1))) w at s3;change (aQ #[28,3] 28 #[J (U ⟨g,0,O⟩) k cap,aA aB ((n:Int)+1-k)]).run ah W=.ok (J (U ⟨W.heap.size,0,O⟩) (n+1) G) (W.drew.alloc (aJ R1 53)) at a1;change (aI #[28,28] 3 #[J (U ⟨W.heap.size,k * 4,O⟩) (n+1-k) (G-k),J (U ⟨b,0,O⟩) 1 1]).run ah (W.drew.alloc (aJ R1 53))=.ok (aA aB 1) ((W.drew.alloc (aJ R1 53)).setRow W.heap.size R2) at q2;change (aI #[28,28] 3 #[J (U ⟨W.heap.size,(k+1) * 4,O⟩) (n+1-(k+1)) (G-(k+1)),J (U ⟨g,k * 4,O⟩) (n-k) (cap-k)]).run ah ((W.drew.alloc (aJ R1 53)).setRow W.heap.size R2).drew=.ok (aA aB ((l.length-k:Nat):Int)) (((W.drew.alloc (aJ R1 53)).setRow W.heap.size R2).drew.setRow W.heap.size R3) at q3;have e1:((k:Int) == (n:Int))=false:=by rw [beq_eq_false_iff_ne]; omega
 have e2:decide ((cap:Int)<(n:Int)+1)=true:=by simp; omega
 have hGn:n+1<=G:=by omega
 clear hn;generalize W.heap.size=N at *;generalize W.drew.alloc (aJ R1 53)=W1 at *;generalize W1.setRow N R2=W2 at *;go_enter aP,aN;go_wp2_with (first | (at_builtin; refine kL rfl _ _ 28 3 rfl rfl rfl a1 ?_) | (at_builtin; refine wpList_copy_run rfl _ _ 28 rfl rfl rfl q2 ?_) | fail);clear a1 q2 s0 s1 s2 s3;have hw1:IntKind.i64.wrap ((k:Int)+1)=(k:Int)+1:=by rw [aO]; omega
 have hb1:(0:Int)<=(k:Int)+1:=by omega
 have hb0:(k:Int)+1<=(n:Int)+1:=by omega
 have htn:((k:Int)+1).toNat=k+1:=by omega
 have hb2:¬ (G=k+1):=by omega
 have hb3:(k:Int)<=(n:Int):=by omega
 have hb4:¬ (cap=k):=by omega
 have h81:n+1-(k+1)=n-k:=by omega
 rw [h81] at q3;clear h81
 go_region_law (refine jM rfl (aj 50) (aj 53) 28 rfl (v:=J (U ⟨N,(k+1) * 4,O⟩) (n-k) (G-(k+1))) (xv:=J (U ⟨g,k * 4,O⟩) (n-k) (cap-k)) (by simp [Act.eval,Act.put]) (by simp [Act.eval,Act.put]) q3 ?_)
 all_goals simp only [Exit.then]
 all_goals apply_assumption
 go_wp2;go_ret;exact Q.out
theorem Gs (B:Nat) (v:aD) (l:List jC) (k:Nat) (c:jC) (b:Nat) (W:aG) (ho:kW W B v l) (hx:dI W b (cellsD c).toArray 53) (hne:v.ownBlock≠U b) (hk:k<=l.length) (hl:l.length<=900) (hB:B<=W.heap.size) :
  aV ah 99 #[v,aA aB k,J (U ⟨b,0,O⟩) 1 1] W (zh B l k c v W):=by
 rcases Nat.lt_or_ge k l.length with h|h
 ·rcases iR ho with⟨_,h2⟩|⟨g,cap,cur,rfl,h1,h2,h3,h4,h5,h6⟩
  ·rw [h2] at h; simp at h
  ·rcases Nat.lt_or_ge cap (l.length+1) with h7|h7
   ·exact Ea B g _ cap cur l k c b W rfl h2 h4 h3 h6 hx h h7 hl hB
   ·exact AP B g _ cap cur l k c b W rfl h1 h2 h4 h5 h6 hx (fun e=>hne (by simp [Value.ownBlock,e])) h h7 hl
 ·obtain rfl:k=l.length:=by omega
  exact Gr B v l c b W ho hx hl hB
end Go.Proofs.YtkcfgbddlpomgaaGreat.Av
