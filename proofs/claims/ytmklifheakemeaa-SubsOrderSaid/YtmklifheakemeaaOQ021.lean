/-
  The region of Copy i. Conditions as told.
-/
import Derived.Test.YtmklifheakemeaaOQ013
import Derived.Test.YtmklifheakemeaaOQ014
set_option maxRecDepth 100000
set_option maxHeartbeats 64000000
open _root_.Go renaming Value->aD,World->aG,Addr->aK,Calls->aV
open Go.Builtin renaming copy_->aI,append_->aP
open Go.Instr renaming sliceAt->ak
open Go.IntKind renaming i64->aB,wrap_i64->aN
open Go.Lib renaming hid->au
open Go.Obj renaming cells->aJ
open Go.Operand renaming tmp->aj
open Go.Proofs.Try renaming prog->ah,ntmps52->aO,func52->aQ
open Go.Proofs.Ytmklifheakemeaa.Rg renaming dw->aF,get_put->aH,eO->aL,dD->aM,eu->aR,eZ->aS,fJ->aT,fI->aU
open Go.RowKit.Below renaming refl->X,heap_setCell->ay
open Go.Value renaming slice->J,pointer->L,int->aA
open _root_.List renaming getElem?_toArray->V,getElem?_cons_zero->Y,getElem?_cons_succ->Z
open _root_.Option renaming none->O,some->U
open _root_.Or renaming inr->aC
namespace Go.Proofs.Ytmklifheakemeaa.Av
open Go.RowKit Go.Sort Rw Ytmklifheakemeaa.Nm Pr Bk
def Fw (B:Nat) (b1:Nat) (_me:Int) (_z1 _z3:aD) (o2:Option aK) (n2 c2:Nat) (al:List iN) (o4:Option aK) (n4 c4:Nat) (el:List fE) (o5:Option aK) (n5 c5:Nat) (ol:List qp) (i:Nat) (v:aD) (x:aG):Prop :=
 match i with
 | 0=>v=L (U ⟨b1,2,O⟩)
 | 1=>v=J o2 n2 c2
 | 2=>∃ s:Sl,v=dO s/\mo x B v al
 | 3=>v=L (U ⟨b1,4,O⟩)
 | 4=>v=J o4 n4 c4
 | 5=>∃ s:Sl,v=dO s/\gF x B v el
 | 6=>v=L (U ⟨b1,5,O⟩)
 | 7=>v=J o5 n5 c5
 | 8=>∃ s:Sl,v=dO s/\sO x B v ol
 | 9=>v=L (U ⟨b1,2,O⟩)
 | _=>True
noncomputable def KT:Code:=((Try.f19.body.bind (dU 2)).getD .skip)
theorem Fx (B:Nat) (b1:Nat) (me:Int) (z1 z3:aD) (o2:Option aK) (n2 c2:Nat) (al:List iN) (o4:Option aK) (n4 c4:Nat) (el:List fE) (o5:Option aK) (n5 c5:Nat) (ol:List qp) (i:Nat) (v:aD) (x x':aG) (h:Fw B b1 me z1 z3 o2 n2 c2 al o4 n4 c4 el o5 n5 c5 ol i v x) (hb:Below x.heap.size x x'):Fw B b1 me z1 z3 o2 n2 c2 al o4 n4 c4 el o5 n5 c5 ol i v x':=by
 by_cases hi:i<10
 ·rcases (by omega:i=0\/i=1\/i=2\/i=3\/i=4\/i=5\/i=6\/i=7\/i=8\/i=9) with rfl|rfl|rfl|rfl|rfl|rfl|rfl|rfl|rfl|rfl
  ·exact h
  ·exact h
  ·obtain⟨s,h1,h2⟩:=h; exact⟨s,h1,Bk.dB h2 hb⟩
  ·exact h
  ·exact h
  ·obtain⟨s,h1,h2⟩:=h; exact⟨s,h1,Bk.dB h2 hb⟩
  ·exact h
  ·exact h
  ·obtain⟨s,h1,h2⟩:=h; exact⟨s,h1,Bk.dB h2 hb⟩
  ·exact h
 ·unfold Fw
  split <;> first | omega | trivial
theorem cp2 (Q:Exit->Act->aG->Prop) (W:aG) (b1:Nat) (me:Int) (z1 z3:aD) (o2:Option aK) (n2 c2:Nat) (al:List iN) (o4:Option aK) (n4 c4:Nat) (el:List fE) (o5:Option aK) (n5 c5:Nat) (ol:List qp) (u0 u2 u3 u4 u5 u6 u7 u8 u9 u10 u11 u12 u13 u14 u15 u16 u17 u18 u19 u20 u21 u22 u23 u24 u25 u26 u27 u28 u29 u30 u31 u32 u33 u34 u35 u36 u37 u38 u39 u40 u41 u42 u43 u44 u45 u46 u47 u48 u49 u50 u51 u52 u53 u54 u55 u56 u57 u58 u59 u60 u61 u62 u63 u64 u65 u66 u67 u68 u69 u70 u71 u72 u73 u74 u75 u76 u77 u78 u79 u80 u81:aD)
  (h1:dz W b1 #[aA aB me,z1,J o2 n2 c2,z3,J o4 n4 c4,J o5 n5 c5] 31) (r2:vR W (J o2 n2 c2) al) (r4:iZ W (J o4 n4 c4) el) (r5:KA W (J o5 n5 c5) ol) (l2:al.length<=900) (l4:el.length<=900) (l5:ol.length<=900)
  (hQ:∀ (x:aG) (v14 v15 v16 v17 v18 v19 v20 v21 v22 v23 v24 v25:aD) (p2:Option aK) (q2 s2:Nat) (p4:Option aK) (q4 s4:Nat) (p5:Option aK) (q5 s5:Nat),dz x b1 #[aA aB me,z1,J p2 q2 s2,z3,J p4 q4 s4,J p5 q5 s5] 31->mo x W.heap.size (J p2 q2 s2) al->gF x W.heap.size (J p4 q4 s4) el->sO x W.heap.size (J p5 q5 s5) ol->(∀ B,B<=b1->Below B W x)->(∀ k,k<W.heap.size->k≠b1->x.heap[k]?=W.heap[k]?)->Q .normal ⟨(u0::L (U ⟨b1,0,O⟩)::u2::u3::u4::u5::u6::u7::u8::u9::u10::u11::u12::u13::v14::v15::v16::v17::v18::v19::v20::v21::v22::v23::v24::v25::u26::u27::u28::u29::u30::u31::u32::u33::u34::u35::u36::u37::u38::u39::u40::u41::u42::u43::u44::u45::u46::u47::u48::u49::u50::u51::u52::u53::u54::u55::u56::u57::u58::u59::u60::u61::u62::u63::u64::u65::u66::u67::u68::u69::u70::u71::u72::u73::u74::u75::u76::u77::u78::u79::u80::u81::[]).toArray,[]⟩ x) :
  Code.wp ah KT Q ⟨(u0::L (U ⟨b1,0,O⟩)::u2::u3::u4::u5::u6::u7::u8::u9::u10::u11::u12::u13::u14::u15::u16::u17::u18::u19::u20::u21::u22::u23::u24::u25::u26::u27::u28::u29::u30::u31::u32::u33::u34::u35::u36::u37::u38::u39::u40::u41::u42::u43::u44::u45::u46::u47::u48::u49::u50::u51::u52::u53::u54::u55::u56::u57::u58::u59::u60::u61::u62::u63::u64::u65::u66::u67::u68::u69::u70::u71::u72::u73::u74::u75::u76::u77::u78::u79::u80::u81::[]).toArray,[]⟩ W:=by
 have HQ:=au hQ;have H1:=au h1;have R2:=au r2;have R4:=au r4;have R5:=au r5;have L2:=au l2;have L4:=au l4;have L5:=au l5;clear hQ h1 r2 r4 r5 l2 l4 l5;have jG:=Fx W.heap.size b1 me z1 z3 o2 n2 c2 al o4 n4 c4 el o5 n5 c5 ol;unfold KT
 conv=>arg 2; whnf
 have nd:∀ j,(j<14\/24<=j)->∀ i,i<10->(fun i=>14+i) i≠j:=by
  intro j hj i hi h;simp only at h;omega
 refine Rg.gI 15 10 (fun i=>14+i) (fun _=>10) (Fw W.heap.size b1 me z1 z3 o2 n2 c2 al o4 n4 c4 el o5 n5 c5 ol) (by kernel_rfl) (by kernel_rfl) rfl (by decide) (fun i j _ _ h=>by have h2:14+i=14+j:=h; omega) (fun i hi=>by show 14+i<82; omega) ?_ (fun _=>Rg.jy 14 (by kernel_rfl)) ?_ ?_
 ·intro i o hi ho a x D hnd hc hD hb seen K hK;clear HQ;rcases (by omega:i=0\/i=1\/i=2\/i=3\/i=4\/i=5\/i=6\/i=7\/i=8\/i=9) with rfl|rfl|rfl|rfl|rfl|rfl|rfl|rfl|rfl|rfl
  ·cases ho;have e1:a.eval (aj 1)=L (U ⟨b1,0,O⟩):=seen.kp 1 _ (nd 1 (by omega)) rfl;exact aF rfl rfl (aL a.eval _ 31 (aj 1) 2 rfl (by rw [e1]; simp [go_sem])) (hK _ _ rfl (X _ _) fun _ _ _ _ _ _ _ h=>h)
  ·cases ho;have e14:a.eval (aj 14)=L (U ⟨b1,2,O⟩):=seen.at_ ⟨0,.data⟩ (by simp) rfl (aC (by decide));have y2:=(H1.out.on hb).cell 2;simp only [V,Y,Z] at y2;exact aF rfl rfl (aR a.eval _ 26 (aj 14) rfl (by rw [e14]; simp [go_sem,y2])) (hK _ _ rfl (X _ _) fun _ _ _ _ _ _ _ h=>h)
  ·cases ho;have e15:a.eval (aj 15)=J o2 n2 c2:=seen.at_ ⟨1,.data⟩ (by simp) rfl (aC (by decide));exact aS rfl rfl (Rw.gU a.eval _ (aj 15) 26 45 rfl e15 rfl _ (eG Try.func45 rfl rfl _ _)) (wm (o2,n2,c2) al x (R2.out.on hb) L2.out) fun e w1 h=>by
    obtain⟨⟨s,rfl,h1⟩,h3⟩:=h;exact⟨_,rfl,hK _ _ ⟨s,rfl,dF h1 hb.size⟩ (h3.mono hb.size) fun j u hj _ _ _ hne h=>jG j u _ _ h h3⟩
  ·cases ho;have e1:a.eval (aj 1)=L (U ⟨b1,0,O⟩):=seen.kp 1 _ (nd 1 (by omega)) rfl;exact aF rfl rfl (aL a.eval _ 31 (aj 1) 4 rfl (by rw [e1]; simp [go_sem])) (hK _ _ rfl (X _ _) fun _ _ _ _ _ _ _ h=>h)
  ·cases ho;have e17:a.eval (aj 17)=L (U ⟨b1,4,O⟩):=seen.at_ ⟨3,.data⟩ (by simp) rfl (aC (by decide));have y4:=(H1.out.on hb).cell 4;simp only [V,Y,Z] at y4;exact aF rfl rfl (aR a.eval _ 28 (aj 17) rfl (by rw [e17]; simp [go_sem,y4])) (hK _ _ rfl (X _ _) fun _ _ _ _ _ _ _ h=>h)
  ·cases ho;have e18:a.eval (aj 18)=J o4 n4 c4:=seen.at_ ⟨4,.data⟩ (by simp) rfl (aC (by decide));exact aS rfl rfl (Rw.gU a.eval _ (aj 18) 28 46 rfl e18 rfl _ (eG Try.func46 rfl rfl _ _)) (wo (o4,n4,c4) el x (R4.out.on hb) L4.out) fun e w1 h=>by
    obtain⟨⟨s,rfl,h1⟩,h3⟩:=h;exact⟨_,rfl,hK _ _ ⟨s,rfl,dF h1 hb.size⟩ (h3.mono hb.size) fun j u hj _ _ _ hne h=>jG j u _ _ h h3⟩
  ·cases ho;have e1:a.eval (aj 1)=L (U ⟨b1,0,O⟩):=seen.kp 1 _ (nd 1 (by omega)) rfl;exact aF rfl rfl (aL a.eval _ 31 (aj 1) 5 rfl (by rw [e1]; simp [go_sem])) (hK _ _ rfl (X _ _) fun _ _ _ _ _ _ _ h=>h)
  ·cases ho;have e20:a.eval (aj 20)=L (U ⟨b1,5,O⟩):=seen.at_ ⟨6,.data⟩ (by simp) rfl (aC (by decide));have y5:=(H1.out.on hb).cell 5;simp only [V,Y,Z] at y5;exact aF rfl rfl (aR a.eval _ 29 (aj 20) rfl (by rw [e20]; simp [go_sem,y5])) (hK _ _ rfl (X _ _) fun _ _ _ _ _ _ _ h=>h)
  ·cases ho;have e21:a.eval (aj 21)=J o5 n5 c5:=seen.at_ ⟨7,.data⟩ (by simp) rfl (aC (by decide));exact aS rfl rfl (Rw.gU a.eval _ (aj 21) 29 47 rfl e21 rfl _ (eG Try.func47 rfl rfl _ _)) (wu (o5,n5,c5) ol x (R5.out.on hb) L5.out) fun e w1 h=>by
    obtain⟨⟨s,rfl,h1⟩,h3⟩:=h;exact⟨_,rfl,hK _ _ ⟨s,rfl,dF h1 hb.size⟩ (h3.mono hb.size) fun j u hj _ _ _ hne h=>jG j u _ _ h h3⟩
  ·cases ho;have e1:a.eval (aj 1)=L (U ⟨b1,0,O⟩):=seen.kp 1 _ (nd 1 (by omega)) rfl;exact aF rfl rfl (aL a.eval _ 31 (aj 1) 2 rfl (by rw [e1]; simp [go_sem])) (hK _ _ rfl (X _ _) fun _ _ _ _ _ _ _ h=>h)
 ·intro kk o h1 h2 ho;rcases (by omega:kk=11\/kk=12\/kk=13\/kk=14) with rfl|rfl|rfl|rfl
  ·cases ho;exact⟨⟨10,.phase⟩,by simp,rfl,rfl⟩
  ·cases ho;exact⟨⟨11,.data⟩,by simp,rfl,rfl⟩
  ·cases ho;exact⟨⟨12,.phase⟩,by simp,rfl,rfl⟩
  ·cases ho;exact⟨⟨13,.data⟩,by simp,rfl,rfl⟩
 ·intro a w' df sz kp ⟨vs,hv⟩ hb;have sz':a.tmps.size=82:=sz;have g1:a.tmps[1]?=U (L (U ⟨b1,0,O⟩)):=(kp 1 (nd 1 (by omega))).trans rfl;have g23:a.tmps[23]?=U (L (U ⟨b1,2,O⟩)):=by
   have h:vs 9=L (U ⟨b1,2,O⟩):=(hv 9 (by omega)).2 (by decide);rw [<- h];exact (hv 9 (by omega)).1
  obtain⟨⟨p2,q2,s2⟩,hs2,ho2⟩:=(hv 2 (by omega)).2 (by decide);have g16:a.tmps[16]?=U (J p2 q2 s2):=((hv 2 (by omega)).1).trans (congrArg U hs2);rw [hs2] at ho2;obtain⟨⟨p4,q4,s4⟩,hs4,PS⟩:=(hv 5 (by omega)).2 (by decide);have g19:a.tmps[19]?=U (J p4 q4 s4):=((hv 5 (by omega)).1).trans (congrArg U hs4);rw [hs4] at PS;obtain⟨⟨p5,q5,s5⟩,hs5,PU⟩:=(hv 8 (by omega)).2 (by decide);have g22:a.tmps[22]?=U (J p5 q5 s5):=((hv 8 (by omega)).1).trans (congrArg U hs5);rw [hs5] at PU;have hB:=H1.out.on hb;have hlt:=H1.out.lt;show aT _ _ _ 5 10 a w';simp only [aT];have PV:=hB.cell 2;have Rj:=hB.fr 2;simp only [V,Y,Z] at PV;refine aU 26 (aj 23) (aj 16) rfl rfl rfl rfl (aM g23) (aM g16) (w':=(w').setCell ⟨b1,2,O⟩ (J p2 q2 s2)) (by simp [go_sem,PV,Rj]) ?_;have hB2:dz ((w').setCell ⟨b1,2,O⟩ (J p2 q2 s2)) b1 #[aA aB me,z1,J p2 q2 s2,z3,J o4 n4 c4,J o5 n5 c5] 31:=by simpa using dX (k:=2) hB (J p2 q2 s2)
  refine aF rfl rfl (aL _ _ 31 (aj 1) 4 rfl (v:=L (U ⟨b1,4,O⟩)) (by rw [aM g1]; simp [go_sem])) ?_;have NR:((a).put (U 24) (L (U ⟨b1,4,O⟩))).tmps[24]?=U (L (U ⟨b1,4,O⟩)):=by simp [Act.put,sz']
  show Go.wpOp _ _ _ 12 _ ((a).put (U 24) (L (U ⟨b1,4,O⟩))) _;have PW:=hB2.cell 4;have Rk:=hB2.fr 4;simp only [V,Y,Z] at PW;refine aU 28 (aj 24) (aj 19) rfl rfl rfl rfl (aM NR) (aM ((aH _ 24 _ 19 (by decide)).trans g19)) (w':=((w').setCell ⟨b1,2,O⟩ (J p2 q2 s2)).setCell ⟨b1,4,O⟩ (J p4 q4 s4)) (by simp [go_sem,PW,Rk]) ?_;have hB4:dz (((w').setCell ⟨b1,2,O⟩ (J p2 q2 s2)).setCell ⟨b1,4,O⟩ (J p4 q4 s4)) b1 #[aA aB me,z1,J p2 q2 s2,z3,J p4 q4 s4,J o5 n5 c5] 31:=by simpa using dX (k:=4) hB2 (J p4 q4 s4)
  refine aF rfl rfl (aL _ _ 31 (aj 1) 5 rfl (v:=L (U ⟨b1,5,O⟩)) (by rw [aM ((aH _ 24 _ 1 (by decide)).trans g1)]; simp [go_sem])) ?_;have NS:(((a).put (U 24) (L (U ⟨b1,4,O⟩))).put (U 25) (L (U ⟨b1,5,O⟩))).tmps[25]?=U (L (U ⟨b1,5,O⟩)):=by simp [Act.put,sz']
  show Go.wpOp _ _ _ 14 _ (((a).put (U 24) (L (U ⟨b1,4,O⟩))).put (U 25) (L (U ⟨b1,5,O⟩))) _;have PY:=hB4.cell 5;have Rm:=hB4.fr 5;simp only [V,Y,Z] at PY;refine aU 29 (aj 25) (aj 22) rfl rfl rfl rfl (aM NS) (aM ((aH _ 25 _ 22 (by decide)).trans ((aH _ 24 _ 22 (by decide)).trans g22))) (w':=(((w').setCell ⟨b1,2,O⟩ (J p2 q2 s2)).setCell ⟨b1,4,O⟩ (J p4 q4 s4)).setCell ⟨b1,5,O⟩ (J p5 q5 s5)) (by simp [go_sem,PY,Rm]) ?_;have Rn:dz ((((w').setCell ⟨b1,2,O⟩ (J p2 q2 s2)).setCell ⟨b1,4,O⟩ (J p4 q4 s4)).setCell ⟨b1,5,O⟩ (J p5 q5 s5)) b1 #[aA aB me,z1,J p2 q2 s2,z3,J p4 q4 s4,J p5 q5 s5] 31:=by simpa using dX (k:=5) hB4 (J p5 q5 s5)
  have oz:∀ j,(j<14\/26<=j)->(((a).put (U 24) (L (U ⟨b1,4,O⟩))).put (U 25) (L (U ⟨b1,5,O⟩))).tmps[j]?=(u0::L (U ⟨b1,0,O⟩)::u2::u3::u4::u5::u6::u7::u8::u9::u10::u11::u12::u13::u14::u15::u16::u17::u18::u19::u20::u21::u22::u23::u24::u25::u26::u27::u28::u29::u30::u31::u32::u33::u34::u35::u36::u37::u38::u39::u40::u41::u42::u43::u44::u45::u46::u47::u48::u49::u50::u51::u52::u53::u54::u55::u56::u57::u58::u59::u60::u61::u62::u63::u64::u65::u66::u67::u68::u69::u70::u71::u72::u73::u74::u75::u76::u77::u78::u79::u80::u81::[])[j]?:=fun j hj=>(aH _ 25 _ j (by omega)).trans ((aH _ 24 _ j (by omega)).trans ((kp j (nd j (by omega))).trans V));obtain⟨mid,hmid,hfr⟩:=Rg.fO (a:=((a).put (U 24) (L (U ⟨b1,4,O⟩))).put (U 25) (L (U ⟨b1,5,O⟩))) 14 12 df (by simp [Rg.size_put,sz']) (by simp) oz;show Q .normal (((a).put (U 24) (L (U ⟨b1,4,O⟩))).put (U 25) (L (U ⟨b1,5,O⟩))) _;rw [hfr]
  match mid,hmid with
  | [v14,v15,v16,v17,v18,v19,v20,v21,v22,v23,v24,v25],_ =>
   exact HQ.out _ _ _ _ _ _ _ _ _ _ _ _ _ p2 q2 s2 p4 q4 s4 p5 q5 s5 Rn (dQ (dQ (dQ ho2 b1 2 (J p2 q2 s2) hlt) b1 4 (J p4 q4 s4) hlt) b1 5 (J p5 q5 s5) hlt) (dQ (dQ (dQ PS b1 2 (J p2 q2 s2) hlt) b1 4 (J p4 q4 s4) hlt) b1 5 (J p5 q5 s5) hlt) (dQ (dQ (dQ PU b1 2 (J p2 q2 s2) hlt) b1 4 (J p4 q4 s4) hlt) b1 5 (J p5 q5 s5) hlt) (fun B hBl=>((((hb.mono (Nat.le_of_lt (Nat.lt_of_le_of_lt hBl hlt))).setCell (p:=⟨b1,2,O⟩) hBl (J p2 q2 s2)).setCell (p:=⟨b1,4,O⟩) hBl (J p4 q4 s4)).setCell (p:=⟨b1,5,O⟩) hBl (J p5 q5 s5))) (fun k hk hne=>((ay (((w').setCell ⟨b1,2,O⟩ (J p2 q2 s2)).setCell ⟨b1,4,O⟩ (J p4 q4 s4)) ⟨b1,5,O⟩ (J p5 q5 s5) k hne).trans ((ay ((w').setCell ⟨b1,2,O⟩ (J p2 q2 s2)) ⟨b1,4,O⟩ (J p4 q4 s4) k hne).trans ((ay (w') ⟨b1,2,O⟩ (J p2 q2 s2) k hne).trans (hb.block k hk)))))
def xL (B:Nat) (b1:Nat) (_me:Int) (_z1 _z2 _z3 _z4:aD) (g n cap k:Nat) (_y1 _y2:Int) (yo:Option aK) (yn yc:Nat) (p:List C5) (i:Nat) (v:aD) (x:aG):Prop :=
 match i with
 | 0=>v=L (U ⟨b1,5,O⟩)
 | 1=>v=J (U ⟨g,0,O⟩) n cap
 | 2=>v=aA aB (k:Int)
 | 3=>v=L (U ⟨b1,5,O⟩)
 | 4=>v=J (U ⟨g,0,O⟩) n cap
 | 5=>v=aA aB (k:Int)
 | 6=>v=L (U ⟨g,k * 3,O⟩)
 | 7=>v=L (U ⟨g,k * 3+2,O⟩)
 | 8=>v=J yo yn yc
 | 9=>∃ s:Sl,v=dO s/\kE x B v p
 | 10=>v=L (U ⟨g,k * 3,O⟩)
 | 11=>v=L (U ⟨g,k * 3+2,O⟩)
 | _=>True
noncomputable def Gz:Code:=((Try.f19.body.bind (dU 16)).getD .skip)
theorem Bo (B:Nat) (b1:Nat) (me:Int) (z1 z2 z3 z4:aD) (g n cap k:Nat) (y1 y2:Int) (yo:Option aK) (yn yc:Nat) (p:List C5) (i:Nat) (v:aD) (x x':aG) (h:xL B b1 me z1 z2 z3 z4 g n cap k y1 y2 yo yn yc p i v x) (hb:Below x.heap.size x x'):xL B b1 me z1 z2 z3 z4 g n cap k y1 y2 yo yn yc p i v x':=by
 by_cases hi:i<12
 ·rcases (by omega:i=0\/i=1\/i=2\/i=3\/i=4\/i=5\/i=6\/i=7\/i=8\/i=9\/i=10\/i=11) with rfl|rfl|rfl|rfl|rfl|rfl|rfl|rfl|rfl|rfl|rfl|rfl
  ·exact h
  ·exact h
  ·exact h
  ·exact h
  ·exact h
  ·exact h
  ·exact h
  ·exact h
  ·exact h
  ·obtain⟨s,h1,h2⟩:=h; exact⟨s,h1,Bk.dB h2 hb⟩
  ·exact h
  ·exact h
 ·unfold xL
  split <;> first | omega | trivial
theorem NT (Q:Exit->Act->aG->Prop) (W:aG) (B0:Nat) (l:List qp) (b1:Nat) (me:Int) (z1 z2 z3 z4:aD) (g n cap k:Nat) (y1 y2:Int) (yo:Option aK) (yn yc:Nat) (p:List C5) (u0 u2 u3 u4 u6 u7 u8 u9 u10 u11 u12 u13 u14 u15 u16 u17 u18 u19 u20 u21 u22 u23 u24 u25 u26 u27 u28 u29 u30 u31 u32 u33 u34 u35 u36 u37 u38 u39 u40 u41 u42 u43 u44 u45 u46 u47 u48 u49 u50 u51 u52 u53 u54 u55 u56 u57 u58 u59 u60 u61 u62 u63 u64 u65 u66 u67 u68 u69 u70 u71 u72 u73 u74 u75 u76 u77 u78 u79 u80 u81:aD)
  (h1:dz W b1 #[aA aB me,z1,z2,z3,z4,J (U ⟨g,0,O⟩) n cap] 31) (ho:sO W B0 (J (U ⟨g,0,O⟩) n cap) l) (hy:l[k]?=U (y1,y2,(yo,yn,yc))) (hp:ig W (J yo yn yc) p) (lp:p.length<=900)
  (hQ:∀ (x:aG) (v68 v69 v70 v71 v72 v73 v74 v75 v76 v77 v78 v79:aD) (s1:Option aK) (s2 s3:Nat),kE x W.heap.size (J s1 s2 s3) p->sO x B0 (J (U ⟨g,0,O⟩) n cap) (l.set k (y1,y2,(s1,s2,s3)))->But g W x->(∀ B1,B1<=g->B1<=W.heap.size->Below B1 W x)->Q .normal ⟨(u0::L (U ⟨b1,0,O⟩)::u2::u3::u4::aA aB (k:Int)::u6::u7::u8::u9::u10::u11::u12::u13::u14::u15::u16::u17::u18::u19::u20::u21::u22::u23::u24::u25::u26::u27::u28::u29::u30::u31::u32::u33::u34::u35::u36::u37::u38::u39::u40::u41::u42::u43::u44::u45::u46::u47::u48::u49::u50::u51::u52::u53::u54::u55::u56::u57::u58::u59::u60::u61::u62::u63::u64::u65::u66::u67::v68::v69::v70::v71::v72::v73::v74::v75::v76::v77::v78::v79::u80::u81::[]).toArray,[]⟩ x) :
  Code.wp ah Gz Q ⟨(u0::L (U ⟨b1,0,O⟩)::u2::u3::u4::aA aB (k:Int)::u6::u7::u8::u9::u10::u11::u12::u13::u14::u15::u16::u17::u18::u19::u20::u21::u22::u23::u24::u25::u26::u27::u28::u29::u30::u31::u32::u33::u34::u35::u36::u37::u38::u39::u40::u41::u42::u43::u44::u45::u46::u47::u48::u49::u50::u51::u52::u53::u54::u55::u56::u57::u58::u59::u60::u61::u62::u63::u64::u65::u66::u67::u68::u69::u70::u71::u72::u73::u74::u75::u76::u77::u78::u79::u80::u81::[]).toArray,[]⟩ W:=by
 have HQ:=au hQ;have H1:=au h1;have HO:=au ho;have HY:=au hy;have HP:=au hp;have LP:=au lp;have IX:=au (kX okW g k n cap (by obtain⟨_,_,hv⟩:=(Row.dG ho).len; have h:=(List.getElem?_eq_some_iff.1 hy).1; simp at hv; omega));have EL:=au (gM okW ho hy);clear hQ h1 ho hy hp lp;have jG:=Bo W.heap.size b1 me z1 z2 z3 z4 g n cap k y1 y2 yo yn yc p;unfold Gz
 conv=>arg 2; whnf
 have nd:∀ j,(j<68\/80<=j)->∀ i,i<12->(fun i=>68+i) i≠j:=by
  intro j hj i hi h;simp only at h;omega
 refine Rg.gI 13 12 (fun i=>68+i) (fun _=>12) (xL W.heap.size b1 me z1 z2 z3 z4 g n cap k y1 y2 yo yn yc p) (by kernel_rfl) (by kernel_rfl) rfl (by decide) (fun i j _ _ h=>by have h2:68+i=68+j:=h; omega) (fun i hi=>by show 68+i<82; omega) ?_ (fun _=>Rg.jy 14 (by kernel_rfl)) ?_ ?_
 ·intro i o hi ho a x D hnd hc hD hb seen K hK;clear HQ;rcases (by omega:i=0\/i=1\/i=2\/i=3\/i=4\/i=5\/i=6\/i=7\/i=8\/i=9\/i=10\/i=11) with rfl|rfl|rfl|rfl|rfl|rfl|rfl|rfl|rfl|rfl|rfl|rfl
  ·cases ho;have e1:a.eval (aj 1)=L (U ⟨b1,0,O⟩):=seen.kp 1 _ (nd 1 (by omega)) rfl;exact aF rfl rfl (aL a.eval _ 31 (aj 1) 5 rfl (by rw [e1]; simp [go_sem])) (hK _ _ rfl (X _ _) fun _ _ _ _ _ _ _ h=>h)
  ·cases ho;have e68:a.eval (aj 68)=L (U ⟨b1,5,O⟩):=seen.at_ ⟨0,.data⟩ (by simp) rfl (aC (by decide));have y5:=(H1.out.on hb).cell 5;simp only [V,Y,Z] at y5;exact aF rfl rfl (aR a.eval _ 29 (aj 68) rfl (by rw [e68]; simp [go_sem,y5])) (hK _ _ rfl (X _ _) fun _ _ _ _ _ _ _ h=>h)
  ·cases ho;have e5:a.eval (aj 5)=aA aB (k:Int):=seen.kp 5 _ (nd 5 (by omega)) rfl;exact aF rfl rfl (Rg.eD a.eval _ (aj 5) rfl x) (hK _ _ e5 (X _ _) fun _ _ _ _ _ _ _ h=>h)
  ·cases ho;have e1:a.eval (aj 1)=L (U ⟨b1,0,O⟩):=seen.kp 1 _ (nd 1 (by omega)) rfl;exact aF rfl rfl (aL a.eval _ 31 (aj 1) 5 rfl (by rw [e1]; simp [go_sem])) (hK _ _ rfl (X _ _) fun _ _ _ _ _ _ _ h=>h)
  ·cases ho;have e71:a.eval (aj 71)=L (U ⟨b1,5,O⟩):=seen.at_ ⟨3,.data⟩ (by simp) rfl (aC (by decide));have y5:=(H1.out.on hb).cell 5;simp only [V,Y,Z] at y5;exact aF rfl rfl (aR a.eval _ 29 (aj 71) rfl (by rw [e71]; simp [go_sem,y5])) (hK _ _ rfl (X _ _) fun _ _ _ _ _ _ _ h=>h)
  ·cases ho;have e5:a.eval (aj 5)=aA aB (k:Int):=seen.kp 5 _ (nd 5 (by omega)) rfl;exact aF rfl rfl (Rg.eD a.eval _ (aj 5) rfl x) (hK _ _ e5 (X _ _) fun _ _ _ _ _ _ _ h=>h)
  ·cases ho;have e72:a.eval (aj 72)=J (U ⟨g,0,O⟩) n cap:=seen.at_ ⟨4,.data⟩ (by simp) rfl (aC (by decide));have e73:a.eval (aj 73)=aA aB (k:Int):=seen.at_ ⟨5,.data⟩ (by simp) rfl (aC (by decide));exact aF rfl rfl (Rg.iw a.eval _ 29 (aj 72) (aj 73) rfl (by rw [e72,e73]; exact IX.out x)) (hK _ _ rfl (X _ _) fun _ _ _ _ _ _ _ h=>h)
  ·cases ho;have e74:a.eval (aj 74)=L (U ⟨g,k * 3,O⟩):=seen.at_ ⟨6,.data⟩ (by simp) rfl (aC (by decide));exact aF rfl rfl (aL a.eval _ 90 (aj 74) 1 rfl (by rw [e74]; simp [go_sem])) (hK _ _ rfl (X _ _) fun _ _ _ _ _ _ _ h=>h)
  ·cases ho;have e75:a.eval (aj 75)=L (U ⟨g,k * 3+2,O⟩):=seen.at_ ⟨7,.data⟩ (by simp) rfl (aC (by decide));have y:=EL.out x hb 2 _ rfl;simp [Addr.add,EW] at y;exact aF rfl rfl (aR a.eval _ 35 (aj 75) rfl (by rw [e75]; simp [go_sem,y])) (hK _ _ rfl (X _ _) fun _ _ _ _ _ _ _ h=>h)
  ·cases ho;have e76:a.eval (aj 76)=J yo yn yc:=seen.at_ ⟨8,.data⟩ (by simp) rfl (aC (by decide));exact aS rfl rfl (Rw.gU a.eval _ (aj 76) 35 48 rfl e76 rfl _ (eG Try.func48 rfl rfl _ _)) (jT (yo,yn,yc) p x (HP.out.on hb) LP.out) fun e w1 h=>by
    obtain⟨⟨s,rfl,h1⟩,h3⟩:=h;exact⟨_,rfl,hK _ _ ⟨s,rfl,dF h1 hb.size⟩ (h3.mono hb.size) fun j u hj _ _ _ hne h=>jG j u _ _ h h3⟩
  ·cases ho;have e69:a.eval (aj 69)=J (U ⟨g,0,O⟩) n cap:=seen.at_ ⟨1,.data⟩ (by simp) rfl (aC (by decide));have e70:a.eval (aj 70)=aA aB (k:Int):=seen.at_ ⟨2,.data⟩ (by simp) rfl (aC (by decide));exact aF rfl rfl (Rg.iw a.eval _ 29 (aj 69) (aj 70) rfl (by rw [e69,e70]; exact IX.out x)) (hK _ _ rfl (X _ _) fun _ _ _ _ _ _ _ h=>h)
  ·cases ho;have e78:a.eval (aj 78)=L (U ⟨g,k * 3,O⟩):=seen.at_ ⟨10,.data⟩ (by simp) rfl (aC (by decide));exact aF rfl rfl (aL a.eval _ 90 (aj 78) 1 rfl (by rw [e78]; simp [go_sem])) (hK _ _ rfl (X _ _) fun _ _ _ _ _ _ _ h=>h)
 ·intro kk o h1 h2 ho;omega
 ·intro a w' df sz kp ⟨vs,hv⟩ hb;have sz':a.tmps.size=82:=sz;have g79:a.tmps[79]?=U (L (U ⟨g,k * 3+2,O⟩)):=by
   have h:vs 11=L (U ⟨g,k * 3+2,O⟩):=(hv 11 (by omega)).2 (by decide);rw [<- h];exact (hv 11 (by omega)).1
  obtain⟨⟨s1,s2,s3⟩,hs,hc⟩:=(hv 9 (by omega)).2 (by decide);have g77:a.tmps[77]?=U (J s1 s2 s3):=((hv 9 (by omega)).1).trans (congrArg U hs);rw [hs] at hc;obtain⟨w2,hr,st1,st2,KS⟩:=Jl (k:=k) s1 s2 s3 (Bk.dB HO.out hb) HY.out;obtain⟨cur,hg⟩:=fP (Bk.dB HO.out hb);show aT _ _ _ 1 12 a w';simp only [aT];refine aU 35 (aj 79) (aj 77) rfl rfl rfl rfl (aM g79) (aM g77) (w':=w2) hr ?_;have oz:∀ j,(j<68\/80<=j)->(a).tmps[j]?=(u0::L (U ⟨b1,0,O⟩)::u2::u3::u4::aA aB (k:Int)::u6::u7::u8::u9::u10::u11::u12::u13::u14::u15::u16::u17::u18::u19::u20::u21::u22::u23::u24::u25::u26::u27::u28::u29::u30::u31::u32::u33::u34::u35::u36::u37::u38::u39::u40::u41::u42::u43::u44::u45::u46::u47::u48::u49::u50::u51::u52::u53::u54::u55::u56::u57::u58::u59::u60::u61::u62::u63::u64::u65::u66::u67::u68::u69::u70::u71::u72::u73::u74::u75::u76::u77::u78::u79::u80::u81::[])[j]?:=fun j hj=>(kp j (nd j (by omega))).trans V;obtain⟨mid,hmid,hfr⟩:=Rg.fO (a:=a) 68 12 df (by simp [sz']) (by simp) oz;show Q .normal (a) _;rw [hfr]
  match mid,hmid with
  | [v68,v69,v70,v71,v72,v73,v74,v75,v76,v77,v78,v79],_ =>
   exact HQ.out _ _ _ _ _ _ _ _ _ _ _ _ _ s1 s2 s3 (st2.own hc hg (by decide)) st1 ((But.of_below hb).trans st2) fun B1 hB hl=>KS B1 W hB (hb.mono hl)
theorem Bp {W:aG} {b:Nat} {c:dW} (h:dz W b (iX c).toArray 25):sM W (J (U ⟨b,0,O⟩) 1 1) [c] :=
 aC ⟨⟨b,0,O⟩,1,rfl,by simp,by decide,mJ h (by simp [EJ])⟩
def pO (B:Nat) (l:List dW) (k:Nat) (c:dW) (vv:aD) (W:aG) (e:Ending) (w':aG):Prop:=∃ v',e=.returned v'/\uf w' B v' (l.take k++c::l.drop k)/\Below B W w'/\(∀ j,j<W.heap.size->U j≠vv.ownBlock->w'.heap[j]?=W.heap[j]?)
theorem uM (B:Nat) (v:aD) (l:List dW) (c:dW) (b:Nat) (W:aG) (ho:uf W B v l) (hx:dz W b (iX c).toArray 25) (hl:l.length<=900) (hB:B<=W.heap.size) :
  aV ah 52 #[v,aA aB (l.length:Nat),J (U ⟨b,0,O⟩) 1 1] W (pO B l l.length c v W):=by
 obtain⟨v',w',hr,ho2,hg⟩:=jg vM B ho (Bp hx) (by omega) (by simp) hB 27;have hr:(aP #[27,27] 27 #[v,J (U ⟨b,0,O⟩) 1 1]).run ah W=.ok v' w':=hr;have Q:=au (show pO B l l.length c v W (.returned v') w' from ⟨v',rfl,by rw [List.take_of_length_le (Nat.le_refl _),List.drop_of_length_le (Nat.le_refl _)]; exact ho2,(X B W).grown hg hB (fun j hj=>(ho.lt j hj).1),fun j hj hne=>hg.block j hj hne⟩);obtain⟨sx,hs,_⟩:=sK vM (Row.dG ho) l.length (Nat.le_refl _);have hs:∀ w,(ak 27 v (U (aA aB l.length)) O O).run ah w=.ok sx w:=hs;obtain⟨ao,ac,rfl⟩:=(Row.dG ho).len;clear ho ho2 hg;generalize hn:l.length=n at *;clear hn;go_enter aQ,aO;go_wp2_with (first | (at_builtin; refine wpList_append_run rfl _ _ 27 rfl rfl rfl hr ?_) | fail);go_ret;exact Q.out
theorem Bq (w:aG) (g b k la lb cb:Nat) (cur cs:Array aD) (hb:dz w b cs 25) (hg:dz w g cur 25) (hne:b≠g) (h0:0<cur.size):(callFunc 69 #[J (U ⟨b,0,O⟩) la 1,J (U ⟨g,k,O⟩) lb cb]).run ah w=.ok (.value (.bool false)) w:=by
 rw [run_callFunc_extern Try.func69 (by kernel_rfl) (by kernel_rfl) (by kernel_rfl) (e:=Extern.SlicesOverlaps.overlaps #[27,27] #[4]) (by kernel_rfl),
  Lib.run_overlaps_apart w 27 4 25 Try.underlying27 2 Try.sizeOf25 ⟨b,0,O⟩ ⟨g,k,O⟩ la 1 lb cb hne 25 25 cs.size cur.size hb.shape hg.shape (by omega) (hb.fr 0) (hb.fr _)]
 rfl
theorem qD (B g n cap:Nat) (cur:Array aD) (l:List dW) (k:Nat) (c:dW) (b:Nat) (W:aG) (hn:n=l.length) (hBg:B<=g) (hg:dz W g cur 25) (hcm:cap<=maxLen) (hsz:cur.size=cap * 2) (ht:cur.toList.take (n * 2)=flat EJ l) (hx:dz W b (iX c).toArray 25) (hne:b≠g) (hk:k<n) (hroom:n+1<=cap) (hl:n<=900) :
  aV ah 52 #[J (U ⟨g,0,O⟩) n cap,aA aB k,J (U ⟨b,0,O⟩) 1 1] W (pO B l k c (J (U ⟨g,0,O⟩) n cap) W):=by
 obtain⟨R1,R2,r1,r2,ow⟩:=nD (E:=EJ) (l:=l) (k:=k) (cap:=cap) (cur:=cur) (cs:=(iX c).toArray) (c:=c) vM (by omega) (by omega) hsz (by rw [<- hn]; exact ht) g b hne;have hov:=fun lb cb=>Bq W g b ((k+1) * 2) 1 lb cb cur (iX c).toArray hx hg hne (by omega);have s0:=gB (E:=EJ) vM g k n cap (by omega) (by omega);have s1:=iU (E:=EJ) vM ⟨g,0,O⟩ (n+1) n cap (by omega);have s2:=gB (E:=EJ) vM g (k+1) (n+1) cap (by omega) (by omega);have s3:=gB (E:=EJ) vM g k (n+1) cap (by omega) (by omega);have q1:=r1 W.drew 3 (n+1-(k+1)) (cap-(k+1)) (n+1-k) (cap-k) hg (by omega);have q2:=r2 (W.drew.setRow g R1) 3 (n+1-k) (cap-k) (dz.set (show dz W.drew g cur 25 from hg) R1) (dz.other (show dz W.drew b _ 25 from hx) hne R1) rfl (by omega);have Q:=au (show pO B l k c (J (U ⟨g,0,O⟩) n cap) W (.returned (J (U ⟨g,0,O⟩) (n+1) cap)) ((W.drew.setRow g R1).setRow g R2) from ⟨_,rfl,by rw [hn]; exact ow _ B hBg hcm (dz.set (dz.set (show dz W.drew g cur 25 from hg) R1) R2),below_setRow (below_setRow (X B W).drew hBg _) hBg _,fun j hj hne=>(setRow_other _ g j _ (fun e=>hne (by rw [e]; rfl))).trans (setRow_other _ g j _ (fun e=>hne (by rw [e]; rfl)))⟩);clear r1 r2 ow hg ht hx hsz hBg hcm;change ∀ w,(ak 27 (J (U ⟨g,0,O⟩) n cap) (U (aA aB k)) O O).run ah w=.ok (J (U ⟨g,k * 2,O⟩) (n-k) (cap-k)) w at s0;change ∀ w,(ak 27 (J (U ⟨g,0,O⟩) n cap) O (U (aA aB ((n:Int)+1))) O).run ah w=.ok (J (U ⟨g,0,O⟩) (n+1) cap) w at s1;change ∀ w,(ak 27 (J (U ⟨g,0,O⟩) (n+1) cap) (U (aA aB ((k:Int)+1))) O O).run ah w=.ok (J (U ⟨g,(k+1) * 2,O⟩) (n+1-(k+1)) (cap-(k+1))) w at s2;change ∀ w,(ak 27 (J (U ⟨g,0,O⟩) (n+1) cap) (U (aA aB k)) O O).run ah w=.ok (J (U ⟨g,k * 2,O⟩) (n+1-k) (cap-k)) w at s3;have e1:((k:Int) == (n:Int))=false:=by rw [beq_eq_false_iff_ne]; omega
 have e2:decide ((cap:Int)<(n:Int)+1)=false:=by simp; omega
 change (aI #[27,27] 3 #[J (U ⟨g,(k+1) * 2,O⟩) (n+1-(k+1)) (cap-(k+1)),J (U ⟨g,k * 2,O⟩) (n+1-k) (cap-k)]).run ah W.drew=.ok (aA aB ((l.length-k:Nat):Int)) (W.drew.setRow g R1) at q1;change (aI #[27,27] 3 #[J (U ⟨g,k * 2,O⟩) (n+1-k) (cap-k),J (U ⟨b,0,O⟩) 1 1]).run ah (W.drew.setRow g R1)=.ok (aA aB 1) ((W.drew.setRow g R1).setRow g R2) at q2;clear hn;go_enter aQ,aO;go_wp2_with (first | (simp only [hov]) | fail);clear hov s0 s1 s2 s3;have hw1:IntKind.i64.wrap ((k:Int)+1)=(k:Int)+1:=by rw [aN]; omega
 have hb1:(0:Int)<=(k:Int)+1:=by omega
 have hb0:(k:Int)+1<=(n:Int)+1:=by omega
 have htn:((k:Int)+1).toNat=k+1:=by omega
 have hb2:¬ (cap=k+1):=by omega
 have hb3:(k:Int)<=(n:Int)+1:=by omega
 have hb4:¬ (cap=k):=by omega
 have h81:n+1-(k+1)=n-k:=by omega
 rw [h81] at q1;clear h81
 go_region_law (refine gP rfl (aj 73) (aj 76) 27 rfl (v:=J (U ⟨g,(k+1) * 2,O⟩) (n-k) (cap-(k+1))) (xv:=J (U ⟨g,k * 2,O⟩) (n+1-k) (cap-k)) (by simp [Act.eval,Act.put]) (by simp [Act.eval,Act.put]) q1 ?_)
 all_goals simp only [Exit.then]
 all_goals apply_assumption
 clear q1 hw1 hb1 hb0 htn hb2 hb3 hb4;have s3:=gB (E:=EJ) vM g k (n+1) cap (by omega) (by omega);change ∀ w,(ak 27 (J (U ⟨g,0,O⟩) (n+1) cap) (U (aA aB k)) O O).run ah w=.ok (J (U ⟨g,k * 2,O⟩) (n+1-k) (cap-k)) w at s3;go_wp2_with (first | (at_builtin; refine wpList_copy_run rfl _ _ 27 rfl rfl rfl q2 ?_) | fail);go_ret;exact Q.out
theorem tF (B g n cap:Nat) (cur:Array aD) (l:List dW) (k:Nat) (c:dW) (b:Nat) (W:aG) (hn:n=l.length) (hg:dz W g cur 25) (hcm:cap<=maxLen) (hnc:n<=cap) (ht:cur.toList.take (n * 2)=flat EJ l) (hx:dz W b (iX c).toArray 25) (hk:k<n) (hroom:cap<n+1) (hl:n<=900) (hB:B<=W.heap.size) :
  aV ah 52 #[J (U ⟨g,0,O⟩) n cap,aA aB k,J (U ⟨b,0,O⟩) 1 1] W (pO B l k c (J (U ⟨g,0,O⟩) n cap) W):=by
 have hgw:=hg.lt;have hbw:=hx.lt;obtain⟨G,R1,R2,R3,hG1,hG2,r1,r2,r3,ow⟩:=oM (E:=EJ) (l:=l) (k:=k) (cap:=cap) (cur:=cur) (cs:=(iX c).toArray) (c:=c) vM 3 Try.underlying3 (by omega) (by omega) (by omega) (by omega) (by rw [<- hn]; exact ht) W g b hg hbw;unfold maxLen at hcm hG2;have s0:=gB (E:=EJ) vM g k n cap (by omega) (by omega);have s1:=iU (E:=EJ) vM ⟨g,0,O⟩ k n cap (by omega);have s2:=gB (E:=EJ) vM W.heap.size k (n+1) G (by omega) (by omega);have s3:=gB (E:=EJ) vM W.heap.size (k+1) (n+1) G (by omega) (by omega);have a1:=r1 27;have n1:=dI W.drew R1 25;have bl:W.drew.heap.size=W.heap.size:=rfl;rw [bl] at n1;have g1:dz (W.drew.alloc (aJ R1 25)) g cur 25:=dz.more (show dz W.drew g cur 25 from hg) _;have x1:dz (W.drew.alloc (aJ R1 25)) b (iX c).toArray 25:=dz.more (show dz W.drew b _ 25 from hx) _;have q2:=r2 (W.drew.alloc (aJ R1 25)) 3 (n+1-k) (G-k) n1 x1 rfl (by omega);have q3:=r3 ((W.drew.alloc (aJ R1 25)).setRow W.heap.size R2).drew 3 (n+1-(k+1)) (G-(k+1)) (n-k) (cap-k) (dz.set n1 R2) (dz.other g1 (by omega) R2) (by omega);have Q:=au (show pO B l k c (J (U ⟨g,0,O⟩) n cap) W (.returned (J (U ⟨W.heap.size,0,O⟩) (n+1) G)) (((W.drew.alloc (aJ R1 25)).setRow W.heap.size R2).drew.setRow W.heap.size R3) from ⟨_,rfl,by rw [hn]; exact ow _ B hB (dz.set (dz.set n1 R2) R3),below_setRow (below_setRow ((X B W).drew.alloc hB _) hB _).drew hB _,fun j hj _=>(setRow_other _ W.heap.size j _ (by omega)).trans ((setRow_other _ W.heap.size j _ (by omega)).trans (Array.getElem?_push_lt hj |>.trans (Array.getElem?_eq_getElem hj).symm))⟩);have l1:l.length+1=n+1:=by rw [hn]
 rw [l1,<- hn] at a1;clear r1 r2 r3 ow hg ht hx g1 x1 n1 bl l1;change ∀ w,(ak 27 (J (U ⟨g,0,O⟩) n cap) (U (aA aB k)) O O).run ah w=.ok (J (U ⟨g,k * 2,O⟩) (n-k) (cap-k)) w at s0;change ∀ w,(ak 27 (J (U ⟨g,0,O⟩) n cap) O (U (aA aB k)) O).run ah w=.ok (J (U ⟨g,0,O⟩) k cap) w at s1;change ∀ w,(ak 27 (J (U ⟨W.heap.size,0,O⟩) (n+1) G) (U (aA aB k)) O O).run ah w=.ok (J (U ⟨W.heap.size,k * 2,O⟩) (n+1-k) (G-k)) w at s2;change ∀ w,(ak 27 (J (U ⟨W.heap.size,0,O⟩) (n+1) G) (U (aA aB ((k:Int)+1))) O O).run ah w=.ok (J (U ⟨W.heap.size,(k+1) * 2,O⟩) (n+1-(k+1)) (G-(k+1))) w at s3;change (aP #[27,3] 27 #[J (U ⟨g,0,O⟩) k cap,aA aB ((n:Int)+1-k)]).run ah W=.ok (J (U ⟨W.heap.size,0,O⟩) (n+1) G) (W.drew.alloc (aJ R1 25)) at a1;change (aI #[27,27] 3 #[J (U ⟨W.heap.size,k * 2,O⟩) (n+1-k) (G-k),J (U ⟨b,0,O⟩) 1 1]).run ah (W.drew.alloc (aJ R1 25))=.ok (aA aB 1) ((W.drew.alloc (aJ R1 25)).setRow W.heap.size R2) at q2;change (aI #[27,27] 3 #[J (U ⟨W.heap.size,(k+1) * 2,O⟩) (n+1-(k+1)) (G-(k+1)),J (U ⟨g,k * 2,O⟩) (n-k) (cap-k)]).run ah ((W.drew.alloc (aJ R1 25)).setRow W.heap.size R2).drew=.ok (aA aB ((l.length-k:Nat):Int)) (((W.drew.alloc (aJ R1 25)).setRow W.heap.size R2).drew.setRow W.heap.size R3) at q3;have e1:((k:Int) == (n:Int))=false:=by rw [beq_eq_false_iff_ne]; omega
 have e2:decide ((cap:Int)<(n:Int)+1)=true:=by simp; omega
 have hGn:n+1<=G:=by omega
 clear hn;generalize W.heap.size=N at *;generalize W.drew.alloc (aJ R1 25)=W1 at *;generalize W1.setRow N R2=W2 at *;go_enter aQ,aO;go_wp2_with (first | (at_builtin; refine iD rfl _ _ 27 3 rfl rfl rfl a1 ?_) | (at_builtin; refine wpList_copy_run rfl _ _ 27 rfl rfl rfl q2 ?_) | fail);clear a1 q2 s0 s1 s2 s3;have hw1:IntKind.i64.wrap ((k:Int)+1)=(k:Int)+1:=by rw [aN]; omega
 have hb1:(0:Int)<=(k:Int)+1:=by omega
 have hb0:(k:Int)+1<=(n:Int)+1:=by omega
 have htn:((k:Int)+1).toNat=k+1:=by omega
 have hb2:¬ (G=k+1):=by omega
 have hb3:(k:Int)<=(n:Int):=by omega
 have hb4:¬ (cap=k):=by omega
 have h81:n+1-(k+1)=n-k:=by omega
 rw [h81] at q3;clear h81
 go_region_law (refine gP rfl (aj 50) (aj 53) 27 rfl (v:=J (U ⟨N,(k+1) * 2,O⟩) (n-k) (G-(k+1))) (xv:=J (U ⟨g,k * 2,O⟩) (n-k) (cap-k)) (by simp [Act.eval,Act.put]) (by simp [Act.eval,Act.put]) q3 ?_)
 all_goals simp only [Exit.then]
 all_goals apply_assumption
 go_wp2;go_ret;exact Q.out
theorem uN (B:Nat) (v:aD) (l:List dW) (k:Nat) (c:dW) (b:Nat) (W:aG) (ho:uf W B v l) (hx:dz W b (iX c).toArray 25) (hne:v.ownBlock≠U b) (hk:k<=l.length) (hl:l.length<=900) (hB:B<=W.heap.size) :
  aV ah 52 #[v,aA aB k,J (U ⟨b,0,O⟩) 1 1] W (pO B l k c v W):=by
 rcases Nat.lt_or_ge k l.length with h|h
 ·rcases eX ho with⟨_,h2⟩|⟨g,cap,cur,rfl,h1,h2,h3,h4,h5,h6⟩
  ·rw [h2] at h; simp at h
  ·rcases Nat.lt_or_ge cap (l.length+1) with h7|h7
   ·exact tF B g _ cap cur l k c b W rfl h2 h4 h3 h6 hx h h7 hl hB
   ·exact qD B g _ cap cur l k c b W rfl h1 h2 h4 h5 h6 hx (fun e=>hne (by simp [Value.ownBlock,e])) h h7 hl
 ·obtain rfl:k=l.length:=by omega
  exact uM B v l c b W ho hx hl hB
end Go.Proofs.Ytmklifheakemeaa.Av
