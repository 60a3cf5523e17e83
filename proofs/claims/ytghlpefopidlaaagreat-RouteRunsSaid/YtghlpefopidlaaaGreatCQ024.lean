/-
  The region of Copy i. Conditions as told.
-/
import Derived.Test.YtghlpefopidlaaaGreatCQ014
import Derived.Test.YtghlpefopidlaaaGreatCQ015
import Derived.Test.YtghlpefopidlaaaGreatCQ016
set_option maxRecDepth 100000
set_option maxHeartbeats 64000000
open _root_.Go renaming Value->aC,World->aF,Addr->aK,Calls->aO
open Go.Builtin renaming copy_->aH,append_->aN
open Go.Instr renaming sliceAt->ak
open Go.IntKind renaming i64->aB,wrap_i64->aM
open Go.Lib renaming hid->au
open Go.Obj renaming cells->aI
open Go.Operand renaming tmp->aj
open Go.Proofs.Tryz renaming prog->Z,ntmps104->aJ,func104->aL
open Go.RowKit.Below renaming refl->ah,heap_setCell->ay
open Go.Value renaming slice->J,pointer->O,int->aA
open _root_.List renaming getElem?_toArray->V,getElem?_cons_zero->X,getElem?_cons_succ->Y,getElem?_eq_some_iff->aG
open _root_.Option renaming none->L,some->U
open _root_.Or renaming inr->aD
namespace Go.Proofs.YtghlpefopidlaaaGreat
namespace Av
open Go.RowKit Go.Sort Rw YtghlpefopidlaaaGreat.Nm Pr Bk
def Ih (B:Nat) (b1:Nat) (_me:Int) (_z1 _z3:aC) (o2:Option aK) (n2 c2:Nat) (al:List iQ) (o4:Option aK) (n4 c4:Nat) (el:List iw) (o5:Option aK) (n5 c5:Nat) (ol:List jJ) (i:Nat) (v:aC) (x:aF):Prop :=
 match i with
 | 0=>v=O (U ⟨b1,2,L⟩)
 | 1=>v=J o2 n2 c2
 | 2=>∃ s:Sl,v=dH s/\mV x B v al
 | 3=>v=O (U ⟨b1,4,L⟩)
 | 4=>v=J o4 n4 c4
 | 5=>∃ s:Sl,v=dH s/\iO x B v el
 | 6=>v=O (U ⟨b1,5,L⟩)
 | 7=>v=J o5 n5 c5
 | 8=>∃ s:Sl,v=dH s/\lD x B v ol
 | 9=>v=O (U ⟨b1,2,L⟩)
 | _=>True
noncomputable def M0:Code:=((Tryz.f33.body.bind (eu 2)).getD .skip)
theorem Ii (B:Nat) (b1:Nat) (me:Int) (z1 z3:aC) (o2:Option aK) (n2 c2:Nat) (al:List iQ) (o4:Option aK) (n4 c4:Nat) (el:List iw) (o5:Option aK) (n5 c5:Nat) (ol:List jJ) (i:Nat) (v:aC) (x x':aF) (h:Ih B b1 me z1 z3 o2 n2 c2 al o4 n4 c4 el o5 n5 c5 ol i v x) (hb:Below x.heap.size x x'):Ih B b1 me z1 z3 o2 n2 c2 al o4 n4 c4 el o5 n5 c5 ol i v x':=by
 by_cases hi:i<10
 ·rcases (by omega:i=0\/i=1\/i=2\/i=3\/i=4\/i=5\/i=6\/i=7\/i=8\/i=9) with rfl|rfl|rfl|rfl|rfl|rfl|rfl|rfl|rfl|rfl
  ·exact h
  ·exact h
  ·obtain⟨s,h1,h2⟩:=h; exact⟨s,h1,Bk.dw h2 hb⟩
  ·exact h
  ·exact h
  ·obtain⟨s,h1,h2⟩:=h; exact⟨s,h1,Bk.dw h2 hb⟩
  ·exact h
  ·exact h
  ·obtain⟨s,h1,h2⟩:=h; exact⟨s,h1,Bk.dw h2 hb⟩
  ·exact h
 ·unfold Ih
  split <;> first | omega | trivial
theorem cp2 (Q:Exit->Act->aF->Prop) (W:aF) (b1:Nat) (me:Int) (z1 z3:aC) (o2:Option aK) (n2 c2:Nat) (al:List iQ) (o4:Option aK) (n4 c4:Nat) (el:List iw) (o5:Option aK) (n5 c5:Nat) (ol:List jJ) (u0 u2 u3 u4 u5 u6 u7 u8 u9 u10 u11 u12 u13 u14 u15 u16 u17 u18 u19 u20 u21 u22 u23 u24 u25 u26 u27 u28 u29 u30 u31 u32 u33 u34 u35 u36 u37 u38 u39 u40 u41 u42 u43 u44 u45 u46 u47 u48 u49 u50 u51 u52 u53 u54 u55 u56 u57 u58 u59 u60 u61 u62 u63 u64 u65 u66 u67 u68 u69 u70 u71 u72 u73 u74 u75 u76 u77 u78 u79 u80 u81:aC)
  (h1:cZ W b1 #[aA aB me,z1,J o2 n2 c2,z3,J o4 n4 c4,J o5 n5 c5] 30) (r2:yj W (J o2 n2 c2) al) (r4:lC W (J o4 n4 c4) el) (r5:yt W (J o5 n5 c5) ol) (l2:al.length<=900) (l4:el.length<=900) (l5:ol.length<=900)
  (hQ:∀ (x:aF) (v14 v15 v16 v17 v18 v19 v20 v21 v22 v23 v24 v25:aC) (p2:Option aK) (q2 s2:Nat) (p4:Option aK) (q4 s4:Nat) (p5:Option aK) (q5 s5:Nat),cZ x b1 #[aA aB me,z1,J p2 q2 s2,z3,J p4 q4 s4,J p5 q5 s5] 30->mV x W.heap.size (J p2 q2 s2) al->iO x W.heap.size (J p4 q4 s4) el->lD x W.heap.size (J p5 q5 s5) ol->(∀ B,B<=b1->Below B W x)->(∀ k,k<W.heap.size->k≠b1->x.heap[k]?=W.heap[k]?)->Q .normal ⟨(u0::O (U ⟨b1,0,L⟩)::u2::u3::u4::u5::u6::u7::u8::u9::u10::u11::u12::u13::v14::v15::v16::v17::v18::v19::v20::v21::v22::v23::v24::v25::u26::u27::u28::u29::u30::u31::u32::u33::u34::u35::u36::u37::u38::u39::u40::u41::u42::u43::u44::u45::u46::u47::u48::u49::u50::u51::u52::u53::u54::u55::u56::u57::u58::u59::u60::u61::u62::u63::u64::u65::u66::u67::u68::u69::u70::u71::u72::u73::u74::u75::u76::u77::u78::u79::u80::u81::[]).toArray,[]⟩ x) :
  Code.wp Z M0 Q ⟨(u0::O (U ⟨b1,0,L⟩)::u2::u3::u4::u5::u6::u7::u8::u9::u10::u11::u12::u13::u14::u15::u16::u17::u18::u19::u20::u21::u22::u23::u24::u25::u26::u27::u28::u29::u30::u31::u32::u33::u34::u35::u36::u37::u38::u39::u40::u41::u42::u43::u44::u45::u46::u47::u48::u49::u50::u51::u52::u53::u54::u55::u56::u57::u58::u59::u60::u61::u62::u63::u64::u65::u66::u67::u68::u69::u70::u71::u72::u73::u74::u75::u76::u77::u78::u79::u80::u81::[]).toArray,[]⟩ W:=by
 have HQ:=au hQ;have H1:=au h1;have R2:=au r2;have R4:=au r4;have R5:=au r5;have L2:=au l2;have L4:=au l4;have L5:=au l5;clear hQ h1 r2 r4 r5 l2 l4 l5;have mE:=Ii W.heap.size b1 me z1 z3 o2 n2 c2 al o4 n4 c4 el o5 n5 c5 ol;unfold M0
 conv=>arg 2; whnf
 have nd:∀ j,(j<14\/24<=j)->∀ i,i<10->(fun i=>14+i) i≠j:=by
  intro j hj i hi h;simp only at h;omega
 refine Rg.gX 15 10 (fun i=>14+i) (fun _=>10) (Ih W.heap.size b1 me z1 z3 o2 n2 c2 al o4 n4 c4 el o5 n5 c5 ol) (by kernel_rfl) (by kernel_rfl) rfl (by decide) (fun i j _ _ h=>by have h2:14+i=14+j:=h; omega) (fun i hi=>by show 14+i<82; omega) ?_ (fun _=>Rg.kK 14 (by kernel_rfl)) ?_ ?_
 ·intro i o hi ho a x D hnd hc hD hb seen K hK;clear HQ;rcases (by omega:i=0\/i=1\/i=2\/i=3\/i=4\/i=5\/i=6\/i=7\/i=8\/i=9) with rfl|rfl|rfl|rfl|rfl|rfl|rfl|rfl|rfl|rfl
  ·cases ho;have e1:a.eval (aj 1)=O (U ⟨b1,0,L⟩):=seen.kp 1 _ (nd 1 (by omega)) rfl;exact Rg.cO rfl rfl (Rg.dR a.eval _ 30 (aj 1) 2 rfl (by rw [e1]; simp [go_sem])) (hK _ _ rfl (ah _ _) fun _ _ _ _ _ _ _ h=>h)
  ·cases ho;have e14:a.eval (aj 14)=O (U ⟨b1,2,L⟩):=seen.at_ ⟨0,.data⟩ (by simp) rfl (aD (by decide));have y2:=(H1.out.on hb).cell 2;simp only [V,X,Y] at y2;exact Rg.cO rfl rfl (Rg.dX a.eval _ 25 (aj 14) rfl (by rw [e14]; simp [go_sem,y2])) (hK _ _ rfl (ah _ _) fun _ _ _ _ _ _ _ h=>h)
  ·cases ho;have e15:a.eval (aj 15)=J o2 n2 c2:=seen.at_ ⟨1,.data⟩ (by simp) rfl (aD (by decide));exact Rg.fO rfl rfl (Rw.gq a.eval _ (aj 15) 25 100 rfl e15 rfl _ (fu Tryz.func100 rfl rfl _ _)) (yD (o2,n2,c2) al x (R2.out.on hb) L2.out) fun e w1 h=>by
    obtain⟨⟨s,rfl,h1⟩,h3⟩:=h;exact⟨_,rfl,hK _ _ ⟨s,rfl,dn h1 hb.size⟩ (h3.mono hb.size) fun j u hj _ _ _ hne h=>mE j u _ _ h h3⟩
  ·cases ho;have e1:a.eval (aj 1)=O (U ⟨b1,0,L⟩):=seen.kp 1 _ (nd 1 (by omega)) rfl;exact Rg.cO rfl rfl (Rg.dR a.eval _ 30 (aj 1) 4 rfl (by rw [e1]; simp [go_sem])) (hK _ _ rfl (ah _ _) fun _ _ _ _ _ _ _ h=>h)
  ·cases ho;have e17:a.eval (aj 17)=O (U ⟨b1,4,L⟩):=seen.at_ ⟨3,.data⟩ (by simp) rfl (aD (by decide));have y4:=(H1.out.on hb).cell 4;simp only [V,X,Y] at y4;exact Rg.cO rfl rfl (Rg.dX a.eval _ 27 (aj 17) rfl (by rw [e17]; simp [go_sem,y4])) (hK _ _ rfl (ah _ _) fun _ _ _ _ _ _ _ h=>h)
  ·cases ho;have e18:a.eval (aj 18)=J o4 n4 c4:=seen.at_ ⟨4,.data⟩ (by simp) rfl (aD (by decide));exact Rg.fO rfl rfl (Rw.gq a.eval _ (aj 18) 27 101 rfl e18 rfl _ (fu Tryz.func101 rfl rfl _ _)) (yE (o4,n4,c4) el x (R4.out.on hb) L4.out) fun e w1 h=>by
    obtain⟨⟨s,rfl,h1⟩,h3⟩:=h;exact⟨_,rfl,hK _ _ ⟨s,rfl,dn h1 hb.size⟩ (h3.mono hb.size) fun j u hj _ _ _ hne h=>mE j u _ _ h h3⟩
  ·cases ho;have e1:a.eval (aj 1)=O (U ⟨b1,0,L⟩):=seen.kp 1 _ (nd 1 (by omega)) rfl;exact Rg.cO rfl rfl (Rg.dR a.eval _ 30 (aj 1) 5 rfl (by rw [e1]; simp [go_sem])) (hK _ _ rfl (ah _ _) fun _ _ _ _ _ _ _ h=>h)
  ·cases ho;have e20:a.eval (aj 20)=O (U ⟨b1,5,L⟩):=seen.at_ ⟨6,.data⟩ (by simp) rfl (aD (by decide));have y5:=(H1.out.on hb).cell 5;simp only [V,X,Y] at y5;exact Rg.cO rfl rfl (Rg.dX a.eval _ 28 (aj 20) rfl (by rw [e20]; simp [go_sem,y5])) (hK _ _ rfl (ah _ _) fun _ _ _ _ _ _ _ h=>h)
  ·cases ho;have e21:a.eval (aj 21)=J o5 n5 c5:=seen.at_ ⟨7,.data⟩ (by simp) rfl (aD (by decide));exact Rg.fO rfl rfl (Rw.gq a.eval _ (aj 21) 28 102 rfl e21 rfl _ (fu Tryz.func102 rfl rfl _ _)) (yF (o5,n5,c5) ol x (R5.out.on hb) L5.out) fun e w1 h=>by
    obtain⟨⟨s,rfl,h1⟩,h3⟩:=h;exact⟨_,rfl,hK _ _ ⟨s,rfl,dn h1 hb.size⟩ (h3.mono hb.size) fun j u hj _ _ _ hne h=>mE j u _ _ h h3⟩
  ·cases ho;have e1:a.eval (aj 1)=O (U ⟨b1,0,L⟩):=seen.kp 1 _ (nd 1 (by omega)) rfl;exact Rg.cO rfl rfl (Rg.dR a.eval _ 30 (aj 1) 2 rfl (by rw [e1]; simp [go_sem])) (hK _ _ rfl (ah _ _) fun _ _ _ _ _ _ _ h=>h)
 ·intro kk o h1 h2 ho;rcases (by omega:kk=11\/kk=12\/kk=13\/kk=14) with rfl|rfl|rfl|rfl
  ·cases ho;exact⟨⟨10,.phase⟩,by simp,rfl,rfl⟩
  ·cases ho;exact⟨⟨11,.data⟩,by simp,rfl,rfl⟩
  ·cases ho;exact⟨⟨12,.phase⟩,by simp,rfl,rfl⟩
  ·cases ho;exact⟨⟨13,.data⟩,by simp,rfl,rfl⟩
 ·intro a w' df sz kp ⟨vs,hv⟩ hb;have sz':a.tmps.size=82:=sz;have g1:a.tmps[1]?=U (O (U ⟨b1,0,L⟩)):=(kp 1 (nd 1 (by omega))).trans rfl;have g23:a.tmps[23]?=U (O (U ⟨b1,2,L⟩)):=by
   have h:vs 9=O (U ⟨b1,2,L⟩):=(hv 9 (by omega)).2 (by decide);rw [<- h];exact (hv 9 (by omega)).1
  obtain⟨⟨p2,q2,s2⟩,hs2,ho2⟩:=(hv 2 (by omega)).2 (by decide);have g16:a.tmps[16]?=U (J p2 q2 s2):=((hv 2 (by omega)).1).trans (congrArg U hs2);rw [hs2] at ho2;obtain⟨⟨p4,q4,s4⟩,hs4,Ry⟩:=(hv 5 (by omega)).2 (by decide);have g19:a.tmps[19]?=U (J p4 q4 s4):=((hv 5 (by omega)).1).trans (congrArg U hs4);rw [hs4] at Ry;obtain⟨⟨p5,q5,s5⟩,hs5,M4⟩:=(hv 8 (by omega)).2 (by decide);have g22:a.tmps[22]?=U (J p5 q5 s5):=((hv 8 (by omega)).1).trans (congrArg U hs5);rw [hs5] at M4;have hB:=H1.out.on hb;have hlt:=H1.out.lt;show Rg.fT _ _ _ 5 10 a w';simp only [Rg.fT];have Rz:=hB.cell 2;have Ti:=hB.fr 2;simp only [V,X,Y] at Rz;refine Rg.fM 25 (aj 23) (aj 16) rfl rfl rfl rfl (Rg.dD g23) (Rg.dD g16) (w':=(w').setCell ⟨b1,2,L⟩ (J p2 q2 s2)) (by simp [go_sem,Rz,Ti]) ?_;have hB2:cZ ((w').setCell ⟨b1,2,L⟩ (J p2 q2 s2)) b1 #[aA aB me,z1,J p2 q2 s2,z3,J o4 n4 c4,J o5 n5 c5] 30:=by simpa using dL (k:=2) hB (J p2 q2 s2)
  refine Rg.cO rfl rfl (Rg.dR _ _ 30 (aj 1) 4 rfl (v:=O (U ⟨b1,4,L⟩)) (by rw [Rg.dD g1]; simp [go_sem])) ?_;have Qf:((a).put (U 24) (O (U ⟨b1,4,L⟩))).tmps[24]?=U (O (U ⟨b1,4,L⟩)):=by simp [Act.put,sz']
  show Go.wpOp _ _ _ 12 _ ((a).put (U 24) (O (U ⟨b1,4,L⟩))) _;have RD:=hB2.cell 4;have Tj:=hB2.fr 4;simp only [V,X,Y] at RD;refine Rg.fM 27 (aj 24) (aj 19) rfl rfl rfl rfl (Rg.dD Qf) (Rg.dD ((Rg.get_put _ 24 _ 19 (by decide)).trans g19)) (w':=((w').setCell ⟨b1,2,L⟩ (J p2 q2 s2)).setCell ⟨b1,4,L⟩ (J p4 q4 s4)) (by simp [go_sem,RD,Tj]) ?_;have hB4:cZ (((w').setCell ⟨b1,2,L⟩ (J p2 q2 s2)).setCell ⟨b1,4,L⟩ (J p4 q4 s4)) b1 #[aA aB me,z1,J p2 q2 s2,z3,J p4 q4 s4,J o5 n5 c5] 30:=by simpa using dL (k:=4) hB2 (J p4 q4 s4)
  refine Rg.cO rfl rfl (Rg.dR _ _ 30 (aj 1) 5 rfl (v:=O (U ⟨b1,5,L⟩)) (by rw [Rg.dD ((Rg.get_put _ 24 _ 1 (by decide)).trans g1)]; simp [go_sem])) ?_;have Qg:(((a).put (U 24) (O (U ⟨b1,4,L⟩))).put (U 25) (O (U ⟨b1,5,L⟩))).tmps[25]?=U (O (U ⟨b1,5,L⟩)):=by simp [Act.put,sz']
  show Go.wpOp _ _ _ 14 _ (((a).put (U 24) (O (U ⟨b1,4,L⟩))).put (U 25) (O (U ⟨b1,5,L⟩))) _;have RF:=hB4.cell 5;have Tk:=hB4.fr 5;simp only [V,X,Y] at RF;refine Rg.fM 28 (aj 25) (aj 22) rfl rfl rfl rfl (Rg.dD Qg) (Rg.dD ((Rg.get_put _ 25 _ 22 (by decide)).trans ((Rg.get_put _ 24 _ 22 (by decide)).trans g22))) (w':=(((w').setCell ⟨b1,2,L⟩ (J p2 q2 s2)).setCell ⟨b1,4,L⟩ (J p4 q4 s4)).setCell ⟨b1,5,L⟩ (J p5 q5 s5)) (by simp [go_sem,RF,Tk]) ?_;have Tm:cZ ((((w').setCell ⟨b1,2,L⟩ (J p2 q2 s2)).setCell ⟨b1,4,L⟩ (J p4 q4 s4)).setCell ⟨b1,5,L⟩ (J p5 q5 s5)) b1 #[aA aB me,z1,J p2 q2 s2,z3,J p4 q4 s4,J p5 q5 s5] 30:=by simpa using dL (k:=5) hB4 (J p5 q5 s5)
  have uY:∀ j,(j<14\/26<=j)->(((a).put (U 24) (O (U ⟨b1,4,L⟩))).put (U 25) (O (U ⟨b1,5,L⟩))).tmps[j]?=(u0::O (U ⟨b1,0,L⟩)::u2::u3::u4::u5::u6::u7::u8::u9::u10::u11::u12::u13::u14::u15::u16::u17::u18::u19::u20::u21::u22::u23::u24::u25::u26::u27::u28::u29::u30::u31::u32::u33::u34::u35::u36::u37::u38::u39::u40::u41::u42::u43::u44::u45::u46::u47::u48::u49::u50::u51::u52::u53::u54::u55::u56::u57::u58::u59::u60::u61::u62::u63::u64::u65::u66::u67::u68::u69::u70::u71::u72::u73::u74::u75::u76::u77::u78::u79::u80::u81::[])[j]?:=fun j hj=>(Rg.get_put _ 25 _ j (by omega)).trans ((Rg.get_put _ 24 _ j (by omega)).trans ((kp j (nd j (by omega))).trans V));obtain⟨mid,hmid,hfr⟩:=Rg.gL (a:=((a).put (U 24) (O (U ⟨b1,4,L⟩))).put (U 25) (O (U ⟨b1,5,L⟩))) 14 12 df (by simp [Rg.size_put,sz']) (by simp) uY;show Q .normal (((a).put (U 24) (O (U ⟨b1,4,L⟩))).put (U 25) (O (U ⟨b1,5,L⟩))) _;rw [hfr]
  match mid,hmid with
  | [v14,v15,v16,v17,v18,v19,v20,v21,v22,v23,v24,v25],_ =>
   exact HQ.out _ _ _ _ _ _ _ _ _ _ _ _ _ p2 q2 s2 p4 q4 s4 p5 q5 s5 Tm (dN (dN (dN ho2 b1 2 (J p2 q2 s2) hlt) b1 4 (J p4 q4 s4) hlt) b1 5 (J p5 q5 s5) hlt) (dN (dN (dN Ry b1 2 (J p2 q2 s2) hlt) b1 4 (J p4 q4 s4) hlt) b1 5 (J p5 q5 s5) hlt) (dN (dN (dN M4 b1 2 (J p2 q2 s2) hlt) b1 4 (J p4 q4 s4) hlt) b1 5 (J p5 q5 s5) hlt) (fun B hBl=>((((hb.mono (Nat.le_of_lt (Nat.lt_of_le_of_lt hBl hlt))).setCell (p:=⟨b1,2,L⟩) hBl (J p2 q2 s2)).setCell (p:=⟨b1,4,L⟩) hBl (J p4 q4 s4)).setCell (p:=⟨b1,5,L⟩) hBl (J p5 q5 s5))) (fun k hk hne=>((ay (((w').setCell ⟨b1,2,L⟩ (J p2 q2 s2)).setCell ⟨b1,4,L⟩ (J p4 q4 s4)) ⟨b1,5,L⟩ (J p5 q5 s5) k hne).trans ((ay ((w').setCell ⟨b1,2,L⟩ (J p2 q2 s2)) ⟨b1,4,L⟩ (J p4 q4 s4) k hne).trans ((ay (w') ⟨b1,2,L⟩ (J p2 q2 s2) k hne).trans (hb.block k hk)))))
def Ij (B:Nat) (b1:Nat) (_me:Int) (_z1 _z3 _z4 _z5:aC) (g n cap k:Nat) (y1 y2:Int) (yo:Option aK) (yn yc:Nat) (y4:Int) (p:List C5) (i:Nat) (v:aC) (x:aF):Prop :=
 match i with
 | 0=>v=O (U ⟨b1,2,L⟩)
 | 1=>v=J (U ⟨g,0,L⟩) n cap
 | 2=>v=aA aB (k:Int)
 | 3=>v=O (U ⟨b1,2,L⟩)
 | 4=>v=J (U ⟨g,0,L⟩) n cap
 | 5=>v=aA aB (k:Int)
 | 6=>v=O (U ⟨g,k * 4,L⟩)
 | 7=>v=jD (y1,y2,(yo,yn,yc),y4)
 | 8=>∃ s:Sl,v=jD (y1,y2,s,y4)/\fV x B (dH s) p
 | 9=>v=O (U ⟨g,k * 4,L⟩)
 | _=>True
noncomputable def M5:Code:=((Tryz.f33.body.bind (eu 6)).getD .skip)
theorem Ik (B:Nat) (b1:Nat) (me:Int) (z1 z3 z4 z5:aC) (g n cap k:Nat) (y1 y2:Int) (yo:Option aK) (yn yc:Nat) (y4:Int) (p:List C5) (i:Nat) (v:aC) (x x':aF) (h:Ij B b1 me z1 z3 z4 z5 g n cap k y1 y2 yo yn yc y4 p i v x) (hb:Below x.heap.size x x'):Ij B b1 me z1 z3 z4 z5 g n cap k y1 y2 yo yn yc y4 p i v x':=by
 by_cases hi:i<10
 ·rcases (by omega:i=0\/i=1\/i=2\/i=3\/i=4\/i=5\/i=6\/i=7\/i=8\/i=9) with rfl|rfl|rfl|rfl|rfl|rfl|rfl|rfl|rfl|rfl
  ·exact h
  ·exact h
  ·exact h
  ·exact h
  ·exact h
  ·exact h
  ·exact h
  ·exact h
  ·obtain⟨s,h1,h2⟩:=h; exact⟨s,h1,Bk.dw h2 hb⟩
  ·exact h
 ·unfold Ij
  split <;> first | omega | trivial
theorem Tn (Q:Exit->Act->aF->Prop) (W:aF) (B0:Nat) (l:List iQ) (b1:Nat) (me:Int) (z1 z3 z4 z5:aC) (g n cap k:Nat) (y1 y2:Int) (yo:Option aK) (yn yc:Nat) (y4:Int) (p:List C5) (u0 u2 u4 u5 u6 u7 u8 u9 u10 u11 u12 u13 u14 u15 u16 u17 u18 u19 u20 u21 u22 u23 u24 u25 u26 u27 u28 u29 u30 u31 u32 u33 u34 u35 u36 u37 u38 u39 u40 u41 u42 u43 u44 u45 u46 u47 u48 u49 u50 u51 u52 u53 u54 u55 u56 u57 u58 u59 u60 u61 u62 u63 u64 u65 u66 u67 u68 u69 u70 u71 u72 u73 u74 u75 u76 u77 u78 u79 u80 u81:aC)
  (h1:cZ W b1 #[aA aB me,z1,J (U ⟨g,0,L⟩) n cap,z3,z4,z5] 30) (ho:mV W B0 (J (U ⟨g,0,L⟩) n cap) l) (hy:l[k]?=U (y1,y2,(yo,yn,yc),y4)) (hp:fI W (J yo yn yc) p) (lp:p.length<=900)
  (hQ:∀ (x:aF) (v32 v33 v34 v35 v36 v37 v38 v39 v40 v41:aC) (s1:Option aK) (s2 s3:Nat),fV x W.heap.size (J s1 s2 s3) p->mV x B0 (J (U ⟨g,0,L⟩) n cap) (l.set k (y1,y2,(s1,s2,s3),y4))->But g W x->(∀ B1,B1<=g->B1<=W.heap.size->Below B1 W x)->Q .normal ⟨(u0::O (U ⟨b1,0,L⟩)::u2::aA aB (k:Int)::u4::u5::u6::u7::u8::u9::u10::u11::u12::u13::u14::u15::u16::u17::u18::u19::u20::u21::u22::u23::u24::u25::u26::u27::u28::u29::u30::u31::v32::v33::v34::v35::v36::v37::v38::v39::v40::v41::u42::u43::u44::u45::u46::u47::u48::u49::u50::u51::u52::u53::u54::u55::u56::u57::u58::u59::u60::u61::u62::u63::u64::u65::u66::u67::u68::u69::u70::u71::u72::u73::u74::u75::u76::u77::u78::u79::u80::u81::[]).toArray,[]⟩ x) :
  Code.wp Z M5 Q ⟨(u0::O (U ⟨b1,0,L⟩)::u2::aA aB (k:Int)::u4::u5::u6::u7::u8::u9::u10::u11::u12::u13::u14::u15::u16::u17::u18::u19::u20::u21::u22::u23::u24::u25::u26::u27::u28::u29::u30::u31::u32::u33::u34::u35::u36::u37::u38::u39::u40::u41::u42::u43::u44::u45::u46::u47::u48::u49::u50::u51::u52::u53::u54::u55::u56::u57::u58::u59::u60::u61::u62::u63::u64::u65::u66::u67::u68::u69::u70::u71::u72::u73::u74::u75::u76::u77::u78::u79::u80::u81::[]).toArray,[]⟩ W:=by
 have HQ:=au hQ;have H1:=au h1;have HO:=au ho;have HY:=au hy;have HP:=au hp;have LP:=au lp;have IX:=au (jX okD g k n cap (by obtain⟨_,_,hv⟩:=(Row.dx ho).len; have h:=(aG.1 hy).1; simp at hv; omega));have EL:=au (gI okD ho hy);clear hQ h1 ho hy hp lp;have mE:=Ik W.heap.size b1 me z1 z3 z4 z5 g n cap k y1 y2 yo yn yc y4 p;unfold M5
 conv=>arg 2; whnf
 have nd:∀ j,(j<32\/42<=j)->∀ i,i<10->(fun i=>32+i) i≠j:=by
  intro j hj i hi h;simp only at h;omega
 refine Rg.gX 11 10 (fun i=>32+i) (fun _=>10) (Ij W.heap.size b1 me z1 z3 z4 z5 g n cap k y1 y2 yo yn yc y4 p) (by kernel_rfl) (by kernel_rfl) rfl (by decide) (fun i j _ _ h=>by have h2:32+i=32+j:=h; omega) (fun i hi=>by show 32+i<82; omega) ?_ (fun _=>Rg.kK 14 (by kernel_rfl)) ?_ ?_
 ·intro i o hi ho a x D hnd hc hD hb seen K hK;clear HQ;rcases (by omega:i=0\/i=1\/i=2\/i=3\/i=4\/i=5\/i=6\/i=7\/i=8\/i=9) with rfl|rfl|rfl|rfl|rfl|rfl|rfl|rfl|rfl|rfl
  ·cases ho;have e1:a.eval (aj 1)=O (U ⟨b1,0,L⟩):=seen.kp 1 _ (nd 1 (by omega)) rfl;exact Rg.cO rfl rfl (Rg.dR a.eval _ 30 (aj 1) 2 rfl (by rw [e1]; simp [go_sem])) (hK _ _ rfl (ah _ _) fun _ _ _ _ _ _ _ h=>h)
  ·cases ho;have e32:a.eval (aj 32)=O (U ⟨b1,2,L⟩):=seen.at_ ⟨0,.data⟩ (by simp) rfl (aD (by decide));have y2:=(H1.out.on hb).cell 2;simp only [V,X,Y] at y2;exact Rg.cO rfl rfl (Rg.dX a.eval _ 25 (aj 32) rfl (by rw [e32]; simp [go_sem,y2])) (hK _ _ rfl (ah _ _) fun _ _ _ _ _ _ _ h=>h)
  ·cases ho;have e3:a.eval (aj 3)=aA aB (k:Int):=seen.kp 3 _ (nd 3 (by omega)) rfl;exact Rg.cO rfl rfl (Rg.iq a.eval _ (aj 3) rfl x) (hK _ _ e3 (ah _ _) fun _ _ _ _ _ _ _ h=>h)
  ·cases ho;have e1:a.eval (aj 1)=O (U ⟨b1,0,L⟩):=seen.kp 1 _ (nd 1 (by omega)) rfl;exact Rg.cO rfl rfl (Rg.dR a.eval _ 30 (aj 1) 2 rfl (by rw [e1]; simp [go_sem])) (hK _ _ rfl (ah _ _) fun _ _ _ _ _ _ _ h=>h)
  ·cases ho;have e35:a.eval (aj 35)=O (U ⟨b1,2,L⟩):=seen.at_ ⟨3,.data⟩ (by simp) rfl (aD (by decide));have y2:=(H1.out.on hb).cell 2;simp only [V,X,Y] at y2;exact Rg.cO rfl rfl (Rg.dX a.eval _ 25 (aj 35) rfl (by rw [e35]; simp [go_sem,y2])) (hK _ _ rfl (ah _ _) fun _ _ _ _ _ _ _ h=>h)
  ·cases ho;have e3:a.eval (aj 3)=aA aB (k:Int):=seen.kp 3 _ (nd 3 (by omega)) rfl;exact Rg.cO rfl rfl (Rg.iq a.eval _ (aj 3) rfl x) (hK _ _ e3 (ah _ _) fun _ _ _ _ _ _ _ h=>h)
  ·cases ho;have e36:a.eval (aj 36)=J (U ⟨g,0,L⟩) n cap:=seen.at_ ⟨4,.data⟩ (by simp) rfl (aD (by decide));have e37:a.eval (aj 37)=aA aB (k:Int):=seen.at_ ⟨5,.data⟩ (by simp) rfl (aD (by decide));exact Rg.cO rfl rfl (Rg.kg a.eval _ 25 (aj 36) (aj 37) rfl (by rw [e36,e37]; exact IX.out x)) (hK _ _ rfl (ah _ _) fun _ _ _ _ _ _ _ h=>h)
  ·cases ho;have e38:a.eval (aj 38)=O (U ⟨g,k * 4,L⟩):=seen.at_ ⟨6,.data⟩ (by simp) rfl (aD (by decide));exact Rg.cO rfl rfl (Rg.dX a.eval _ 36 (aj 38) rfl (by rw [e38]; exact Ji x _ (y1,y2,(yo,yn,yc),y4) (EL.out x hb))) (hK _ _ rfl (ah _ _) fun _ _ _ _ _ _ _ h=>h)
  ·cases ho;have e39:a.eval (aj 39)=jD (y1,y2,(yo,yn,yc),y4):=seen.at_ ⟨7,.data⟩ (by simp) rfl (aD (by decide));exact Rg.fO rfl rfl (Rw.gq a.eval _ (aj 39) 36 35 rfl e39 rfl _ (fu Tryz.func35 rfl rfl _ _)) (qI (y1,y2,(yo,yn,yc),y4) p x (HP.out.on hb) LP.out) fun e w1 h=>by
    obtain⟨⟨s,rfl,h1⟩,h3⟩:=h;exact⟨_,rfl,hK _ _ ⟨s,rfl,dn h1 hb.size⟩ (h3.mono hb.size) fun j u hj _ _ _ hne h=>mE j u _ _ h h3⟩
  ·cases ho;have e33:a.eval (aj 33)=J (U ⟨g,0,L⟩) n cap:=seen.at_ ⟨1,.data⟩ (by simp) rfl (aD (by decide));have e34:a.eval (aj 34)=aA aB (k:Int):=seen.at_ ⟨2,.data⟩ (by simp) rfl (aD (by decide));exact Rg.cO rfl rfl (Rg.kg a.eval _ 25 (aj 33) (aj 34) rfl (by rw [e33,e34]; exact IX.out x)) (hK _ _ rfl (ah _ _) fun _ _ _ _ _ _ _ h=>h)
 ·intro kk o h1 h2 ho;omega
 ·intro a w' df sz kp ⟨vs,hv⟩ hb;have sz':a.tmps.size=82:=sz;have g41:a.tmps[41]?=U (O (U ⟨g,k * 4,L⟩)):=by
   have h:vs 9=O (U ⟨g,k * 4,L⟩):=(hv 9 (by omega)).2 (by decide);rw [<- h];exact (hv 9 (by omega)).1
  obtain⟨⟨s1,s2,s3⟩,hs,hc⟩:=(hv 8 (by omega)).2 (by decide);have g40:a.tmps[40]?=U (jD (y1,y2,(s1,s2,s3),y4)):=((hv 8 (by omega)).1).trans (congrArg U hs);obtain⟨w2,hr,st1,st2,MR⟩:=KC (k:=k) (y1,y2,(s1,s2,s3),y4) (Bk.dw HO.out hb) (aG.1 HY.out).1;obtain⟨cur,hg⟩:=fP (Bk.dw HO.out hb);show Rg.fT _ _ _ 1 10 a w';simp only [Rg.fT];refine Rg.fM 36 (aj 41) (aj 40) rfl rfl rfl rfl (Rg.dD g41) (Rg.dD g40) (w':=w2) hr ?_;have uY:∀ j,(j<32\/42<=j)->(a).tmps[j]?=(u0::O (U ⟨b1,0,L⟩)::u2::aA aB (k:Int)::u4::u5::u6::u7::u8::u9::u10::u11::u12::u13::u14::u15::u16::u17::u18::u19::u20::u21::u22::u23::u24::u25::u26::u27::u28::u29::u30::u31::u32::u33::u34::u35::u36::u37::u38::u39::u40::u41::u42::u43::u44::u45::u46::u47::u48::u49::u50::u51::u52::u53::u54::u55::u56::u57::u58::u59::u60::u61::u62::u63::u64::u65::u66::u67::u68::u69::u70::u71::u72::u73::u74::u75::u76::u77::u78::u79::u80::u81::[])[j]?:=fun j hj=>(kp j (nd j (by omega))).trans V;obtain⟨mid,hmid,hfr⟩:=Rg.gL (a:=a) 32 10 df (by simp [sz']) (by simp) uY;show Q .normal (a) _;rw [hfr]
  match mid,hmid with
  | [v32,v33,v34,v35,v36,v37,v38,v39,v40,v41],_ =>
   exact HQ.out _ _ _ _ _ _ _ _ _ _ _ s1 s2 s3 (st2.own hc hg (by decide)) st1 ((But.of_below hb).trans st2) fun B1 hB hl=>MR B1 W hB (hb.mono hl)
theorem Ev {W:aF} {b:Nat} {c:iQ} (h:cZ W b (cellsD c).toArray 36):yj W (J (U ⟨b,0,L⟩) 1 1) [c] :=
 aD ⟨⟨b,0,L⟩,1,rfl,by simp,by decide,kH h (by simp [ED])⟩
def qQ (B:Nat) (l:List iQ) (k:Nat) (c:iQ) (vv:aC) (W:aF) (e:Ending) (w':aF):Prop:=∃ v',e=.returned v'/\mV w' B v' (l.take k++c::l.drop k)/\Below B W w'/\(∀ j,j<W.heap.size->U j≠vv.ownBlock->w'.heap[j]?=W.heap[j]?)
theorem wQ (B:Nat) (v:aC) (l:List iQ) (c:iQ) (b:Nat) (W:aF) (ho:mV W B v l) (hx:cZ W b (cellsD c).toArray 36) (hl:l.length<=900) (hB:B<=W.heap.size) :
  aO Z 104 #[v,aA aB (l.length:Nat),J (U ⟨b,0,L⟩) 1 1] W (qQ B l l.length c v W):=by
 obtain⟨v',w',hr,ho2,hg⟩:=jq okD B ho (Ev hx) (by omega) (by simp) hB 25;have hr:(aN #[25,25] 25 #[v,J (U ⟨b,0,L⟩) 1 1]).run Z W=.ok v' w':=hr;have Q:=au (show qQ B l l.length c v W (.returned v') w' from ⟨v',rfl,by rw [List.take_of_length_le (Nat.le_refl _),List.drop_of_length_le (Nat.le_refl _)]; exact ho2,(ah B W).grown hg hB (fun j hj=>(ho.lt j hj).1),fun j hj hne=>hg.block j hj hne⟩);obtain⟨sx,hs,_⟩:=qw okD (Row.dx ho) l.length (Nat.le_refl _);have hs:∀ w,(ak 25 v (U (aA aB l.length)) L L).run Z w=.ok sx w:=hs;obtain⟨ao,ac,rfl⟩:=(Row.dx ho).len;clear ho ho2 hg;generalize hn:l.length=n at *;clear hn;go_enter aL,aJ;go_wp2_with (first | (at_builtin; refine wpList_append_run rfl _ _ 25 rfl rfl rfl hr ?_) | fail);go_ret;exact Q.out
theorem Ew (w:aF) (g b k la lb cb:Nat) (cur cs:Array aC) (hb:cZ w b cs 36) (hg:cZ w g cur 36) (hne:b≠g) (h0:0<cur.size):(callFunc 140 #[J (U ⟨b,0,L⟩) la 1,J (U ⟨g,k,L⟩) lb cb]).run Z w=.ok (.value (.bool false)) w:=by
 rw [run_callFunc_extern Tryz.func140 (by kernel_rfl) (by kernel_rfl) (by kernel_rfl) (e:=Extern.SlicesOverlaps.overlaps #[25,25] #[4]) (by kernel_rfl),
  Lib.run_overlaps_apart w 25 4 36 Tryz.underlying25 4 Tryz.sizeOf36 ⟨b,0,L⟩ ⟨g,k,L⟩ la 1 lb cb hne 36 36 cs.size cur.size hb.shape hg.shape (by omega) (hb.fr 0) (hb.fr _)]
 rfl
theorem sj (B g n cap:Nat) (cur:Array aC) (l:List iQ) (k:Nat) (c:iQ) (b:Nat) (W:aF) (hn:n=l.length) (hBg:B<=g) (hg:cZ W g cur 36) (hcm:cap<=maxLen) (hsz:cur.size=cap * 4) (ht:cur.toList.take (n * 4)=flat ED l) (hx:cZ W b (cellsD c).toArray 36) (hne:b≠g) (hk:k<n) (hroom:n+1<=cap) (hl:n<=900) :
  aO Z 104 #[J (U ⟨g,0,L⟩) n cap,aA aB k,J (U ⟨b,0,L⟩) 1 1] W (qQ B l k c (J (U ⟨g,0,L⟩) n cap) W):=by
 obtain⟨R1,R2,r1,r2,ow⟩:=jZ (E:=ED) (l:=l) (k:=k) (cap:=cap) (cur:=cur) (cs:=(cellsD c).toArray) (c:=c) okD (by omega) (by omega) hsz (by rw [<- hn]; exact ht) g b hne;have hov:=fun lb cb=>Ew W g b ((k+1) * 4) 1 lb cb cur (cellsD c).toArray hx hg hne (by omega);have s0:=eH (E:=ED) okD g k n cap (by omega) (by omega);have s1:=fZ (E:=ED) okD ⟨g,0,L⟩ (n+1) n cap (by omega);have s2:=eH (E:=ED) okD g (k+1) (n+1) cap (by omega) (by omega);have s3:=eH (E:=ED) okD g k (n+1) cap (by omega) (by omega);have q1:=r1 W.drew 3 (n+1-(k+1)) (cap-(k+1)) (n+1-k) (cap-k) hg (by omega);have q2:=r2 (W.drew.setRow g R1) 3 (n+1-k) (cap-k) (cZ.set (show cZ W.drew g cur 36 from hg) R1) (cZ.other (show cZ W.drew b _ 36 from hx) hne R1) rfl (by omega);have Q:=au (show qQ B l k c (J (U ⟨g,0,L⟩) n cap) W (.returned (J (U ⟨g,0,L⟩) (n+1) cap)) ((W.drew.setRow g R1).setRow g R2) from ⟨_,rfl,by rw [hn]; exact ow _ B hBg hcm (cZ.set (cZ.set (show cZ W.drew g cur 36 from hg) R1) R2),below_setRow (below_setRow (ah B W).drew hBg _) hBg _,fun j hj hne=>(setRow_other _ g j _ (fun e=>hne (by rw [e]; rfl))).trans (setRow_other _ g j _ (fun e=>hne (by rw [e]; rfl)))⟩);clear r1 r2 ow hg ht hx hsz hBg hcm;change ∀ w,(ak 25 (J (U ⟨g,0,L⟩) n cap) (U (aA aB k)) L L).run Z w=.ok (J (U ⟨g,k * 4,L⟩) (n-k) (cap-k)) w at s0;change ∀ w,(ak 25 (J (U ⟨g,0,L⟩) n cap) L (U (aA aB ((n:Int)+1))) L).run Z w=.ok (J (U ⟨g,0,L⟩) (n+1) cap) w at s1;change ∀ w,(ak 25 (J (U ⟨g,0,L⟩) (n+1) cap) (U (aA aB ((k:Int)+1))) L L).run Z w=.ok (J (U ⟨g,(k+1) * 4,L⟩) (n+1-(k+1)) (cap-(k+1))) w at s2;change ∀ w,(ak 25 (J (U ⟨g,0,L⟩) (n+1) cap) (U (aA aB k)) L L).run Z w=.ok (J (U ⟨g,k * 4,L⟩) (n+1-k) (cap-k)) w at s3;have e1:((k:Int) == (n:Int))=false:=by rw [beq_eq_false_iff_ne]; omega
 have e2:decide ((cap:Int)<(n:Int)+1)=false:=by simp; omega
 change (aH #[25,25] 3 #[J (U ⟨g,(k+1) * 4,L⟩) (n+1-(k+1)) (cap-(k+1)),J (U ⟨g,k * 4,L⟩) (n+1-k) (cap-k)]).run Z W.drew=.ok (aA aB ((l.length-k:Nat):Int)) (W.drew.setRow g R1) at q1;change (aH #[25,25] 3 #[J (U ⟨g,k * 4,L⟩) (n+1-k) (cap-k),J (U ⟨b,0,L⟩) 1 1]).run Z (W.drew.setRow g R1)=.ok (aA aB 1) ((W.drew.setRow g R1).setRow g R2) at q2;clear hn;go_enter aL,aJ;go_wp2_with (first | (simp only [hov]) | fail);clear hov s0 s1 s2 s3;have hw1:IntKind.i64.wrap ((k:Int)+1)=(k:Int)+1:=by rw [aM]; omega
 have hb1:(0:Int)<=(k:Int)+1:=by omega
 have hb0:(k:Int)+1<=(n:Int)+1:=by omega
 have htn:((k:Int)+1).toNat=k+1:=by omega
 have hb2:¬ (cap=k+1):=by omega
 have hb3:(k:Int)<=(n:Int)+1:=by omega
 have hb4:¬ (cap=k):=by omega
 have h81:n+1-(k+1)=n-k:=by omega
 rw [h81] at q1;clear h81
 go_region_law (refine eZ rfl (aj 73) (aj 76) 25 rfl (v:=J (U ⟨g,(k+1) * 4,L⟩) (n-k) (cap-(k+1))) (xv:=J (U ⟨g,k * 4,L⟩) (n+1-k) (cap-k)) (by simp [Act.eval,Act.put]) (by simp [Act.eval,Act.put]) q1 ?_)
 all_goals simp only [Exit.then]
 all_goals apply_assumption
 clear q1 hw1 hb1 hb0 htn hb2 hb3 hb4;have s3:=eH (E:=ED) okD g k (n+1) cap (by omega) (by omega);change ∀ w,(ak 25 (J (U ⟨g,0,L⟩) (n+1) cap) (U (aA aB k)) L L).run Z w=.ok (J (U ⟨g,k * 4,L⟩) (n+1-k) (cap-k)) w at s3;go_wp2_with (first | (at_builtin; refine wpList_copy_run rfl _ _ 25 rfl rfl rfl q2 ?_) | fail);go_ret;exact Q.out
theorem vB (B g n cap:Nat) (cur:Array aC) (l:List iQ) (k:Nat) (c:iQ) (b:Nat) (W:aF) (hn:n=l.length) (hg:cZ W g cur 36) (hcm:cap<=maxLen) (hnc:n<=cap) (ht:cur.toList.take (n * 4)=flat ED l) (hx:cZ W b (cellsD c).toArray 36) (hk:k<n) (hroom:cap<n+1) (hl:n<=900) (hB:B<=W.heap.size) :
  aO Z 104 #[J (U ⟨g,0,L⟩) n cap,aA aB k,J (U ⟨b,0,L⟩) 1 1] W (qQ B l k c (J (U ⟨g,0,L⟩) n cap) W):=by
 have hgw:=hg.lt;have hbw:=hx.lt;obtain⟨G,R1,R2,R3,hG1,hG2,r1,r2,r3,ow⟩:=kZ (E:=ED) (l:=l) (k:=k) (cap:=cap) (cur:=cur) (cs:=(cellsD c).toArray) (c:=c) okD 3 Tryz.underlying3 (by omega) (by omega) (by omega) (by omega) (by rw [<- hn]; exact ht) W g b hg hbw;unfold maxLen at hcm hG2;have s0:=eH (E:=ED) okD g k n cap (by omega) (by omega);have s1:=fZ (E:=ED) okD ⟨g,0,L⟩ k n cap (by omega);have s2:=eH (E:=ED) okD W.heap.size k (n+1) G (by omega) (by omega);have s3:=eH (E:=ED) okD W.heap.size (k+1) (n+1) G (by omega) (by omega);have a1:=r1 25;have n1:=dG W.drew R1 36;have bl:W.drew.heap.size=W.heap.size:=rfl;rw [bl] at n1;have g1:cZ (W.drew.alloc (aI R1 36)) g cur 36:=cZ.more (show cZ W.drew g cur 36 from hg) _;have x1:cZ (W.drew.alloc (aI R1 36)) b (cellsD c).toArray 36:=cZ.more (show cZ W.drew b _ 36 from hx) _;have q2:=r2 (W.drew.alloc (aI R1 36)) 3 (n+1-k) (G-k) n1 x1 rfl (by omega);have q3:=r3 ((W.drew.alloc (aI R1 36)).setRow W.heap.size R2).drew 3 (n+1-(k+1)) (G-(k+1)) (n-k) (cap-k) (cZ.set n1 R2) (cZ.other g1 (by omega) R2) (by omega);have Q:=au (show qQ B l k c (J (U ⟨g,0,L⟩) n cap) W (.returned (J (U ⟨W.heap.size,0,L⟩) (n+1) G)) (((W.drew.alloc (aI R1 36)).setRow W.heap.size R2).drew.setRow W.heap.size R3) from ⟨_,rfl,by rw [hn]; exact ow _ B hB (cZ.set (cZ.set n1 R2) R3),below_setRow (below_setRow ((ah B W).drew.alloc hB _) hB _).drew hB _,fun j hj _=>(setRow_other _ W.heap.size j _ (by omega)).trans ((setRow_other _ W.heap.size j _ (by omega)).trans (Array.getElem?_push_lt hj |>.trans (Array.getElem?_eq_getElem hj).symm))⟩);have l1:l.length+1=n+1:=by rw [hn]
 rw [l1,<- hn] at a1;clear r1 r2 r3 ow hg ht hx g1 x1 n1 bl l1;change ∀ w,(ak 25 (J (U ⟨g,0,L⟩) n cap) (U (aA aB k)) L L).run Z w=.ok (J (U ⟨g,k * 4,L⟩) (n-k) (cap-k)) w at s0;change ∀ w,(ak 25 (J (U ⟨g,0,L⟩) n cap) L (U (aA aB k)) L).run Z w=.ok (J (U ⟨g,0,L⟩) k cap) w at s1;change ∀ w,(ak 25 (J (U ⟨W.heap.size,0,L⟩) (n+1) G) (U (aA aB k)) L L).run Z w=.ok (J (U ⟨W.heap.size,k * 4,L⟩) (n+1-k) (G-k)) w at s2;change ∀ w,(ak 25 (J (U ⟨W.heap.size,0,L⟩) (n+1) G) (U (aA aB ((k:Int)+1))) L L).run Z w=.ok (J (U ⟨W.heap.size,(k+1) * 4,L⟩) (n+1-(k+1)) (G-(k+1))) w at s3;change (aN #[25,3] 25 #[J (U ⟨g,0,L⟩) k cap,aA aB ((n:Int)+1-k)]).run Z W=.ok (J (U ⟨W.heap.size,0,L⟩) (n+1) G) (W.drew.alloc (aI R1 36)) at a1;change (aH #[25,25] 3 #[J (U ⟨W.heap.size,k * 4,L⟩) (n+1-k) (G-k),J (U ⟨b,0,L⟩) 1 1]).run Z (W.drew.alloc (aI R1 36))=.ok (aA aB 1) ((W.drew.alloc (aI R1 36)).setRow W.heap.size R2) at q2;change (aH #[25,25] 3 #[J (U ⟨W.heap.size,(k+1) * 4,L⟩) (n+1-(k+1)) (G-(k+1)),J (U ⟨g,k * 4,L⟩) (n-k) (cap-k)]).run Z ((W.drew.alloc (aI R1 36)).setRow W.heap.size R2).drew=.ok (aA aB ((l.length-k:Nat):Int)) (((W.drew.alloc (aI R1 36)).setRow W.heap.size R2).drew.setRow W.heap.size R3) at q3;have e1:((k:Int) == (n:Int))=false:=by rw [beq_eq_false_iff_ne]; omega
 have e2:decide ((cap:Int)<(n:Int)+1)=true:=by simp; omega
 have hGn:n+1<=G:=by omega
 clear hn;generalize W.heap.size=N at *;generalize W.drew.alloc (aI R1 36)=W1 at *;generalize W1.setRow N R2=W2 at *;go_enter aL,aJ;go_wp2_with (first | (at_builtin; refine fD rfl _ _ 25 3 rfl rfl rfl a1 ?_) | (at_builtin; refine wpList_copy_run rfl _ _ 25 rfl rfl rfl q2 ?_) | fail);clear a1 q2 s0 s1 s2 s3;have hw1:IntKind.i64.wrap ((k:Int)+1)=(k:Int)+1:=by rw [aM]; omega
 have hb1:(0:Int)<=(k:Int)+1:=by omega
 have hb0:(k:Int)+1<=(n:Int)+1:=by omega
 have htn:((k:Int)+1).toNat=k+1:=by omega
 have hb2:¬ (G=k+1):=by omega
 have hb3:(k:Int)<=(n:Int):=by omega
 have hb4:¬ (cap=k):=by omega
 have h81:n+1-(k+1)=n-k:=by omega
 rw [h81] at q3;clear h81
 go_region_law (refine eZ rfl (aj 50) (aj 53) 25 rfl (v:=J (U ⟨N,(k+1) * 4,L⟩) (n-k) (G-(k+1))) (xv:=J (U ⟨g,k * 4,L⟩) (n-k) (cap-k)) (by simp [Act.eval,Act.put]) (by simp [Act.eval,Act.put]) q3 ?_)
 all_goals simp only [Exit.then]
 all_goals apply_assumption
 go_wp2;go_ret;exact Q.out
theorem wR (B:Nat) (v:aC) (l:List iQ) (k:Nat) (c:iQ) (b:Nat) (W:aF) (ho:mV W B v l) (hx:cZ W b (cellsD c).toArray 36) (hne:v.ownBlock≠U b) (hk:k<=l.length) (hl:l.length<=900) (hB:B<=W.heap.size) :
  aO Z 104 #[v,aA aB k,J (U ⟨b,0,L⟩) 1 1] W (qQ B l k c v W):=by
 rcases Nat.lt_or_ge k l.length with h|h
 ·rcases dY ho with⟨_,h2⟩|⟨g,cap,cur,rfl,h1,h2,h3,h4,h5,h6⟩
  ·rw [h2] at h; simp at h
  ·rcases Nat.lt_or_ge cap (l.length+1) with h7|h7
   ·exact vB B g _ cap cur l k c b W rfl h2 h4 h3 h6 hx h h7 hl hB
   ·exact sj B g _ cap cur l k c b W rfl h1 h2 h4 h5 h6 hx (fun e=>hne (by simp [Value.ownBlock,e])) h h7 hl
 ·obtain rfl:k=l.length:=by omega
  exact wQ B v l c b W ho hx hl hB
end Av
namespace Rl
open Go.RowKit Pu Rw Pr
end Rl
namespace Av
open Go.RowKit Go.ChangeShapes Go.WideShapes Bk
end Av
end Go.Proofs.YtghlpefopidlaaaGreat
