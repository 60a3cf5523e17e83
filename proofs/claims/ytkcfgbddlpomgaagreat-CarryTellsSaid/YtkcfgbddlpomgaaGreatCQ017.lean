/-
  The contracts wanted. Conditions as told.
-/
import Derived.Test.YtkcfgbddlpomgaaGreatCQ012
import Derived.Test.YtkcfgbddlpomgaaGreatCQ009
import Derived.Test.YtkcfgbddlpomgaaGreatCQ014
import Derived.Test.YtkcfgbddlpomgaaGreatCQ015
set_option maxRecDepth 100000
set_option maxHeartbeats 64000000
open _root_.Go renaming Value->aF,World->aH,Addr->aM,maxLen->aU,Calls->aY
open Go.IntKind renaming i64->au
open Go.Lib renaming hid->O
open Go.Obj renaming cells->aK
open Go.Operand renaming tmp->aB
open Go.Proofs.Tryz renaming prog->aD,underlying27->aQ
open Go.Proofs.YtkcfgbddlpomgaaGreat.Rg renaming cZ->aJ,get_put->aL,dJ->aO,dD->aP,dR->aT,gq->aV,fu->aW,fI->aX
open Go.RowKit.Below renaming refl->ay,heap_setCell->aC
open Go.Value renaming slice->J,pointer->L,int->ak,string->aA,bool->aN
open _root_.List renaming getElem?_toArray->U,getElem?_cons_zero->V,getElem?_cons_succ->Z,getElem?_eq_getElem->aG,take_length->aR,length_map->aS
open _root_.Option renaming none->ah,some->aj
open _root_.Or renaming inr->aI
namespace Go.Proofs.YtkcfgbddlpomgaaGreat
namespace Rl
open Go.RowKit Pu Rw Pr
end Rl
namespace Av
open Go.RowKit Go.Sort Rw YtkcfgbddlpomgaaGreat.Nm Pr Bk
def Vy (B:Nat) (b1:Nat) (_me:Int) (_z1 _z3:aF) (o2:Option aM) (n2 c2:Nat) (al:List jv) (o4:Option aM) (n4 c4:Nat) (el:List iB) (o5:Option aM) (n5 c5:Nat) (ol:List qy) (i:Nat) (v:aF) (x:aH):Prop :=
 match i with
 | 0=>v=L (aj ⟨b1,2,ah⟩)
 | 1=>v=J o2 n2 c2
 | 2=>∃ s:Sl,v=dK s/\kR x B v al
 | 3=>v=L (aj ⟨b1,4,ah⟩)
 | 4=>v=J o4 n4 c4
 | 5=>∃ s:Sl,v=dK s/\jw x B v el
 | 6=>v=L (aj ⟨b1,5,ah⟩)
 | 7=>v=J o5 n5 c5
 | 8=>∃ s:Sl,v=dK s/\pE x B v ol
 | 9=>v=L (aj ⟨b1,2,ah⟩)
 | _=>True
noncomputable def abQ:Code:=((Tryz.f50.body.bind (eu 2)).getD .skip)
theorem Vz (B:Nat) (b1:Nat) (me:Int) (z1 z3:aF) (o2:Option aM) (n2 c2:Nat) (al:List jv) (o4:Option aM) (n4 c4:Nat) (el:List iB) (o5:Option aM) (n5 c5:Nat) (ol:List qy) (i:Nat) (v:aF) (x x':aH) (h:Vy B b1 me z1 z3 o2 n2 c2 al o4 n4 c4 el o5 n5 c5 ol i v x) (hb:Below x.heap.size x x'):Vy B b1 me z1 z3 o2 n2 c2 al o4 n4 c4 el o5 n5 c5 ol i v x':=by
 by_cases hi:i<10
 ·rcases (by omega:i=0\/i=1\/i=2\/i=3\/i=4\/i=5\/i=6\/i=7\/i=8\/i=9) with rfl|rfl|rfl|rfl|rfl|rfl|rfl|rfl|rfl|rfl
  ·exact h
  ·exact h
  ·obtain⟨s,h1,h2⟩:=h; exact⟨s,h1,Bk.dh h2 hb⟩
  ·exact h
  ·exact h
  ·obtain⟨s,h1,h2⟩:=h; exact⟨s,h1,Bk.dh h2 hb⟩
  ·exact h
  ·exact h
  ·obtain⟨s,h1,h2⟩:=h; exact⟨s,h1,Bk.dh h2 hb⟩
  ·exact h
 ·unfold Vy
  split <;> first | omega | trivial
theorem cp2 (Q:Exit->Act->aH->Prop) (W:aH) (b1:Nat) (me:Int) (z1 z3:aF) (o2:Option aM) (n2 c2:Nat) (al:List jv) (o4:Option aM) (n4 c4:Nat) (el:List iB) (o5:Option aM) (n5 c5:Nat) (ol:List qy) (u0 u2 u3 u4 u5 u6 u7 u8 u9 u10 u11 u12 u13 u14 u15 u16 u17 u18 u19 u20 u21 u22 u23 u24 u25 u26 u27 u28 u29 u30 u31 u32 u33 u34 u35 u36 u37 u38 u39 u40 u41 u42 u43 u44 u45 u46 u47 u48 u49 u50 u51 u52 u53 u54 u55 u56 u57 u58 u59 u60 u61 u62 u63 u64 u65 u66 u67 u68 u69 u70 u71 u72 u73 u74 u75 u76 u77 u78 u79 u80 u81:aF)
  (h1:dG W b1 #[ak au me,z1,J o2 n2 c2,z3,J o4 n4 c4,J o5 n5 c5] 33) (r2:uH W (J o2 n2 c2) al) (r4:jX W (J o4 n4 c4) el) (r5:Fx W (J o5 n5 c5) ol) (l2:al.length<=900) (l4:el.length<=900) (l5:ol.length<=900)
  (hQ:∀ (x:aH) (v14 v15 v16 v17 v18 v19 v20 v21 v22 v23 v24 v25:aF) (p2:Option aM) (q2 s2:Nat) (p4:Option aM) (q4 s4:Nat) (p5:Option aM) (q5 s5:Nat),dG x b1 #[ak au me,z1,J p2 q2 s2,z3,J p4 q4 s4,J p5 q5 s5] 33->kR x W.heap.size (J p2 q2 s2) al->jw x W.heap.size (J p4 q4 s4) el->pE x W.heap.size (J p5 q5 s5) ol->(∀ B,B<=b1->Below B W x)->(∀ k,k<W.heap.size->k≠b1->x.heap[k]?=W.heap[k]?)->Q .normal ⟨(u0::L (aj ⟨b1,0,ah⟩)::u2::u3::u4::u5::u6::u7::u8::u9::u10::u11::u12::u13::v14::v15::v16::v17::v18::v19::v20::v21::v22::v23::v24::v25::u26::u27::u28::u29::u30::u31::u32::u33::u34::u35::u36::u37::u38::u39::u40::u41::u42::u43::u44::u45::u46::u47::u48::u49::u50::u51::u52::u53::u54::u55::u56::u57::u58::u59::u60::u61::u62::u63::u64::u65::u66::u67::u68::u69::u70::u71::u72::u73::u74::u75::u76::u77::u78::u79::u80::u81::[]).toArray,[]⟩ x) :
  Code.wp aD abQ Q ⟨(u0::L (aj ⟨b1,0,ah⟩)::u2::u3::u4::u5::u6::u7::u8::u9::u10::u11::u12::u13::u14::u15::u16::u17::u18::u19::u20::u21::u22::u23::u24::u25::u26::u27::u28::u29::u30::u31::u32::u33::u34::u35::u36::u37::u38::u39::u40::u41::u42::u43::u44::u45::u46::u47::u48::u49::u50::u51::u52::u53::u54::u55::u56::u57::u58::u59::u60::u61::u62::u63::u64::u65::u66::u67::u68::u69::u70::u71::u72::u73::u74::u75::u76::u77::u78::u79::u80::u81::[]).toArray,[]⟩ W:=by
 have HQ:=O hQ;have H1:=O h1;have R2:=O r2;have R4:=O r4;have R5:=O r5;have L2:=O l2;have L4:=O l4;have L5:=O l5;clear hQ h1 r2 r4 r5 l2 l4 l5;have iJ:=Vz W.heap.size b1 me z1 z3 o2 n2 c2 al o4 n4 c4 el o5 n5 c5 ol;unfold abQ
 conv=>arg 2; whnf
 have nd:∀ j,(j<14\/24<=j)->∀ i,i<10->(fun i=>14+i) i≠j:=by
  intro j hj i hi h;simp only at h;omega
 refine Rg.fH 15 10 (fun i=>14+i) (fun _=>10) (Vy W.heap.size b1 me z1 z3 o2 n2 c2 al o4 n4 c4 el o5 n5 c5 ol) (by kernel_rfl) (by kernel_rfl) rfl (by decide) (fun i j _ _ h=>by have h2:14+i=14+j:=h; omega) (fun i hi=>by show 14+i<82; omega) ?_ (fun _=>Rg.iW 14 (by kernel_rfl)) ?_ ?_
 ·intro i o hi ho a x D hnd hc hD hb seen K hK;clear HQ;rcases (by omega:i=0\/i=1\/i=2\/i=3\/i=4\/i=5\/i=6\/i=7\/i=8\/i=9) with rfl|rfl|rfl|rfl|rfl|rfl|rfl|rfl|rfl|rfl
  ·cases ho;have e1:a.eval (aB 1)=L (aj ⟨b1,0,ah⟩):=seen.kp 1 _ (nd 1 (by omega)) rfl;exact aJ rfl rfl (aO a.eval _ 33 (aB 1) 2 rfl (by rw [e1]; simp [go_sem])) (hK _ _ rfl (ay _ _) fun _ _ _ _ _ _ _ h=>h)
  ·cases ho;have e14:a.eval (aB 14)=L (aj ⟨b1,2,ah⟩):=seen.at_ ⟨0,.data⟩ (by simp) rfl (aI (by decide));have y2:=(H1.out.on hb).cell 2;simp only [U,V,Z] at y2;exact aJ rfl rfl (aT a.eval _ 28 (aB 14) rfl (by rw [e14]; simp [go_sem,y2])) (hK _ _ rfl (ay _ _) fun _ _ _ _ _ _ _ h=>h)
  ·cases ho;have e15:a.eval (aB 15)=J o2 n2 c2:=seen.at_ ⟨1,.data⟩ (by simp) rfl (aI (by decide));exact aV rfl rfl (Rw.gY a.eval _ (aB 15) 28 85 rfl e15 rfl _ (fK Tryz.func85 rfl rfl _ _)) (Je (o2,n2,c2) al x (R2.out.on hb) L2.out) fun e w1 h=>by
    obtain⟨⟨s,rfl,h1⟩,h3⟩:=h;exact⟨_,rfl,hK _ _ ⟨s,rfl,dx h1 hb.size⟩ (h3.mono hb.size) fun j u hj _ _ _ hne h=>iJ j u _ _ h h3⟩
  ·cases ho;have e1:a.eval (aB 1)=L (aj ⟨b1,0,ah⟩):=seen.kp 1 _ (nd 1 (by omega)) rfl;exact aJ rfl rfl (aO a.eval _ 33 (aB 1) 4 rfl (by rw [e1]; simp [go_sem])) (hK _ _ rfl (ay _ _) fun _ _ _ _ _ _ _ h=>h)
  ·cases ho;have e17:a.eval (aB 17)=L (aj ⟨b1,4,ah⟩):=seen.at_ ⟨3,.data⟩ (by simp) rfl (aI (by decide));have y4:=(H1.out.on hb).cell 4;simp only [U,V,Z] at y4;exact aJ rfl rfl (aT a.eval _ 30 (aB 17) rfl (by rw [e17]; simp [go_sem,y4])) (hK _ _ rfl (ay _ _) fun _ _ _ _ _ _ _ h=>h)
  ·cases ho;have e18:a.eval (aB 18)=J o4 n4 c4:=seen.at_ ⟨4,.data⟩ (by simp) rfl (aI (by decide));exact aV rfl rfl (Rw.gY a.eval _ (aB 18) 30 86 rfl e18 rfl _ (fK Tryz.func86 rfl rfl _ _)) (Jf (o4,n4,c4) el x (R4.out.on hb) L4.out) fun e w1 h=>by
    obtain⟨⟨s,rfl,h1⟩,h3⟩:=h;exact⟨_,rfl,hK _ _ ⟨s,rfl,dx h1 hb.size⟩ (h3.mono hb.size) fun j u hj _ _ _ hne h=>iJ j u _ _ h h3⟩
  ·cases ho;have e1:a.eval (aB 1)=L (aj ⟨b1,0,ah⟩):=seen.kp 1 _ (nd 1 (by omega)) rfl;exact aJ rfl rfl (aO a.eval _ 33 (aB 1) 5 rfl (by rw [e1]; simp [go_sem])) (hK _ _ rfl (ay _ _) fun _ _ _ _ _ _ _ h=>h)
  ·cases ho;have e20:a.eval (aB 20)=L (aj ⟨b1,5,ah⟩):=seen.at_ ⟨6,.data⟩ (by simp) rfl (aI (by decide));have y5:=(H1.out.on hb).cell 5;simp only [U,V,Z] at y5;exact aJ rfl rfl (aT a.eval _ 31 (aB 20) rfl (by rw [e20]; simp [go_sem,y5])) (hK _ _ rfl (ay _ _) fun _ _ _ _ _ _ _ h=>h)
  ·cases ho;have e21:a.eval (aB 21)=J o5 n5 c5:=seen.at_ ⟨7,.data⟩ (by simp) rfl (aI (by decide));exact aV rfl rfl (Rw.gY a.eval _ (aB 21) 31 87 rfl e21 rfl _ (fK Tryz.func87 rfl rfl _ _)) (Jg (o5,n5,c5) ol x (R5.out.on hb) L5.out) fun e w1 h=>by
    obtain⟨⟨s,rfl,h1⟩,h3⟩:=h;exact⟨_,rfl,hK _ _ ⟨s,rfl,dx h1 hb.size⟩ (h3.mono hb.size) fun j u hj _ _ _ hne h=>iJ j u _ _ h h3⟩
  ·cases ho;have e1:a.eval (aB 1)=L (aj ⟨b1,0,ah⟩):=seen.kp 1 _ (nd 1 (by omega)) rfl;exact aJ rfl rfl (aO a.eval _ 33 (aB 1) 2 rfl (by rw [e1]; simp [go_sem])) (hK _ _ rfl (ay _ _) fun _ _ _ _ _ _ _ h=>h)
 ·intro kk o h1 h2 ho;rcases (by omega:kk=11\/kk=12\/kk=13\/kk=14) with rfl|rfl|rfl|rfl
  ·cases ho;exact⟨⟨10,.phase⟩,by simp,rfl,rfl⟩
  ·cases ho;exact⟨⟨11,.data⟩,by simp,rfl,rfl⟩
  ·cases ho;exact⟨⟨12,.phase⟩,by simp,rfl,rfl⟩
  ·cases ho;exact⟨⟨13,.data⟩,by simp,rfl,rfl⟩
 ·intro a w' df sz kp ⟨vs,hv⟩ hb;have sz':a.tmps.size=82:=sz;have g1:a.tmps[1]?=aj (L (aj ⟨b1,0,ah⟩)):=(kp 1 (nd 1 (by omega))).trans rfl;have g23:a.tmps[23]?=aj (L (aj ⟨b1,2,ah⟩)):=by
   have h:vs 9=L (aj ⟨b1,2,ah⟩):=(hv 9 (by omega)).2 (by decide);rw [<- h];exact (hv 9 (by omega)).1
  obtain⟨⟨p2,q2,s2⟩,hs2,ho2⟩:=(hv 2 (by omega)).2 (by decide);have g16:a.tmps[16]?=aj (J p2 q2 s2):=((hv 2 (by omega)).1).trans (congrArg aj hs2);rw [hs2] at ho2;obtain⟨⟨p4,q4,s4⟩,hs4,ho4⟩:=(hv 5 (by omega)).2 (by decide);have g19:a.tmps[19]?=aj (J p4 q4 s4):=((hv 5 (by omega)).1).trans (congrArg aj hs4);rw [hs4] at ho4;obtain⟨⟨p5,q5,s5⟩,hs5,ho5⟩:=(hv 8 (by omega)).2 (by decide);have g22:a.tmps[22]?=aj (J p5 q5 s5):=((hv 8 (by omega)).1).trans (congrArg aj hs5);rw [hs5] at ho5;have hB:=H1.out.on hb;have hlt:=H1.out.lt;show aW _ _ _ 5 10 a w';simp only [aW];have c2x:=hB.cell 2;have f2x:=hB.fr 2;simp only [U,V,Z] at c2x;refine aX 28 (aB 23) (aB 16) rfl rfl rfl rfl (aP g23) (aP g16) (w':=(w').setCell ⟨b1,2,ah⟩ (J p2 q2 s2)) (by simp [go_sem,c2x,f2x]) ?_;have hB2:dG ((w').setCell ⟨b1,2,ah⟩ (J p2 q2 s2)) b1 #[ak au me,z1,J p2 q2 s2,z3,J o4 n4 c4,J o5 n5 c5] 33:=by simpa using dO (k:=2) hB (J p2 q2 s2)
  refine aJ rfl rfl (aO _ _ 33 (aB 1) 4 rfl (v:=L (aj ⟨b1,4,ah⟩)) (by rw [aP g1]; simp [go_sem])) ?_;have aek:((a).put (aj 24) (L (aj ⟨b1,4,ah⟩))).tmps[24]?=aj (L (aj ⟨b1,4,ah⟩)):=by simp [Act.put,sz']
  show Go.wpOp _ _ _ 12 _ ((a).put (aj 24) (L (aj ⟨b1,4,ah⟩))) _;have c4x:=hB2.cell 4;have f4x:=hB2.fr 4;simp only [U,V,Z] at c4x;refine aX 30 (aB 24) (aB 19) rfl rfl rfl rfl (aP aek) (aP ((aL _ 24 _ 19 (by decide)).trans g19)) (w':=((w').setCell ⟨b1,2,ah⟩ (J p2 q2 s2)).setCell ⟨b1,4,ah⟩ (J p4 q4 s4)) (by simp [go_sem,c4x,f4x]) ?_;have hB4:dG (((w').setCell ⟨b1,2,ah⟩ (J p2 q2 s2)).setCell ⟨b1,4,ah⟩ (J p4 q4 s4)) b1 #[ak au me,z1,J p2 q2 s2,z3,J p4 q4 s4,J o5 n5 c5] 33:=by simpa using dO (k:=4) hB2 (J p4 q4 s4)
  refine aJ rfl rfl (aO _ _ 33 (aB 1) 5 rfl (v:=L (aj ⟨b1,5,ah⟩)) (by rw [aP ((aL _ 24 _ 1 (by decide)).trans g1)]; simp [go_sem])) ?_;have ael:(((a).put (aj 24) (L (aj ⟨b1,4,ah⟩))).put (aj 25) (L (aj ⟨b1,5,ah⟩))).tmps[25]?=aj (L (aj ⟨b1,5,ah⟩)):=by simp [Act.put,sz']
  show Go.wpOp _ _ _ 14 _ (((a).put (aj 24) (L (aj ⟨b1,4,ah⟩))).put (aj 25) (L (aj ⟨b1,5,ah⟩))) _;have c5x:=hB4.cell 5;have f5x:=hB4.fr 5;simp only [U,V,Z] at c5x;refine aX 31 (aB 25) (aB 22) rfl rfl rfl rfl (aP ael) (aP ((aL _ 25 _ 22 (by decide)).trans ((aL _ 24 _ 22 (by decide)).trans g22))) (w':=(((w').setCell ⟨b1,2,ah⟩ (J p2 q2 s2)).setCell ⟨b1,4,ah⟩ (J p4 q4 s4)).setCell ⟨b1,5,ah⟩ (J p5 q5 s5)) (by simp [go_sem,c5x,f5x]) ?_;have hB5:dG ((((w').setCell ⟨b1,2,ah⟩ (J p2 q2 s2)).setCell ⟨b1,4,ah⟩ (J p4 q4 s4)).setCell ⟨b1,5,ah⟩ (J p5 q5 s5)) b1 #[ak au me,z1,J p2 q2 s2,z3,J p4 q4 s4,J p5 q5 s5] 33:=by simpa using dO (k:=5) hB4 (J p5 q5 s5)
  have qF:∀ j,(j<14\/26<=j)->(((a).put (aj 24) (L (aj ⟨b1,4,ah⟩))).put (aj 25) (L (aj ⟨b1,5,ah⟩))).tmps[j]?=(u0::L (aj ⟨b1,0,ah⟩)::u2::u3::u4::u5::u6::u7::u8::u9::u10::u11::u12::u13::u14::u15::u16::u17::u18::u19::u20::u21::u22::u23::u24::u25::u26::u27::u28::u29::u30::u31::u32::u33::u34::u35::u36::u37::u38::u39::u40::u41::u42::u43::u44::u45::u46::u47::u48::u49::u50::u51::u52::u53::u54::u55::u56::u57::u58::u59::u60::u61::u62::u63::u64::u65::u66::u67::u68::u69::u70::u71::u72::u73::u74::u75::u76::u77::u78::u79::u80::u81::[])[j]?:=fun j hj=>(aL _ 25 _ j (by omega)).trans ((aL _ 24 _ j (by omega)).trans ((kp j (nd j (by omega))).trans U));obtain⟨mid,hmid,hfr⟩:=Rg.fQ (a:=((a).put (aj 24) (L (aj ⟨b1,4,ah⟩))).put (aj 25) (L (aj ⟨b1,5,ah⟩))) 14 12 df (by simp [Rg.size_put,sz']) (by simp) qF;show Q .normal (((a).put (aj 24) (L (aj ⟨b1,4,ah⟩))).put (aj 25) (L (aj ⟨b1,5,ah⟩))) _;rw [hfr]
  match mid,hmid with
  | [v14,v15,v16,v17,v18,v19,v20,v21,v22,v23,v24,v25],_ =>
   exact HQ.out _ _ _ _ _ _ _ _ _ _ _ _ _ p2 q2 s2 p4 q4 s4 p5 q5 s5 hB5 (dW (dW (dW ho2 b1 2 (J p2 q2 s2) hlt) b1 4 (J p4 q4 s4) hlt) b1 5 (J p5 q5 s5) hlt) (dW (dW (dW ho4 b1 2 (J p2 q2 s2) hlt) b1 4 (J p4 q4 s4) hlt) b1 5 (J p5 q5 s5) hlt) (dW (dW (dW ho5 b1 2 (J p2 q2 s2) hlt) b1 4 (J p4 q4 s4) hlt) b1 5 (J p5 q5 s5) hlt) (fun B hBl=>((((hb.mono (Nat.le_of_lt (Nat.lt_of_le_of_lt hBl hlt))).setCell (p:=⟨b1,2,ah⟩) hBl (J p2 q2 s2)).setCell (p:=⟨b1,4,ah⟩) hBl (J p4 q4 s4)).setCell (p:=⟨b1,5,ah⟩) hBl (J p5 q5 s5))) (fun k hk hne=>((aC (((w').setCell ⟨b1,2,ah⟩ (J p2 q2 s2)).setCell ⟨b1,4,ah⟩ (J p4 q4 s4)) ⟨b1,5,ah⟩ (J p5 q5 s5) k hne).trans ((aC ((w').setCell ⟨b1,2,ah⟩ (J p2 q2 s2)) ⟨b1,4,ah⟩ (J p4 q4 s4) k hne).trans ((aC (w') ⟨b1,2,ah⟩ (J p2 q2 s2) k hne).trans (hb.block k hk)))))
def Kt (B:Nat) (b1:Nat) (_me:Int) (_z1 _z2 _z3 _z5:aF) (g n cap k:Nat) (_y1 _y2 _y3 _y4:Int) (yo:Option aM) (yn yc:Nat) (_y6:Int) (_y7:Bool) (p:List C5) (i:Nat) (v:aF) (x:aH):Prop :=
 match i with
 | 0=>v=L (aj ⟨b1,4,ah⟩)
 | 1=>v=J (aj ⟨g,0,ah⟩) n cap
 | 2=>v=ak au (k:Int)
 | 3=>v=L (aj ⟨b1,4,ah⟩)
 | 4=>v=J (aj ⟨g,0,ah⟩) n cap
 | 5=>v=ak au (k:Int)
 | 6=>v=L (aj ⟨g,k * 7,ah⟩)
 | 7=>v=L (aj ⟨g,k * 7+4,ah⟩)
 | 8=>v=J yo yn yc
 | 9=>∃ s:Sl,v=dK s/\jL x B v p
 | 10=>v=L (aj ⟨g,k * 7,ah⟩)
 | 11=>v=L (aj ⟨g,k * 7+4,ah⟩)
 | _=>True
noncomputable def Xu:Code:=((Tryz.f50.body.bind (eu 11)).getD .skip)
theorem QI (B:Nat) (b1:Nat) (me:Int) (z1 z2 z3 z5:aF) (g n cap k:Nat) (y1 y2 y3 y4:Int) (yo:Option aM) (yn yc:Nat) (y6:Int) (y7:Bool) (p:List C5) (i:Nat) (v:aF) (x x':aH) (h:Kt B b1 me z1 z2 z3 z5 g n cap k y1 y2 y3 y4 yo yn yc y6 y7 p i v x) (hb:Below x.heap.size x x'):Kt B b1 me z1 z2 z3 z5 g n cap k y1 y2 y3 y4 yo yn yc y6 y7 p i v x':=by
 by_cases hi:i<12
 ·rcases (by omega:i=0\/i=1\/i=2\/i=3\/i=4\/i=5\/i=6\/i=7\/i=8\/i=9\/i=10\/i=11) with rfl|rfl|rfl|rfl|rfl|rfl|rfl|rfl|rfl|rfl|rfl|rfl
  ·exact h
  ·exact h
  ·exact h
  ·exact h
  ·exact h
  ·exact h
  ·exact h
  ·exact h
  ·exact h
  ·obtain⟨s,h1,h2⟩:=h; exact⟨s,h1,Bk.dh h2 hb⟩
  ·exact h
  ·exact h
 ·unfold Kt
  split <;> first | omega | trivial
theorem aen (Q:Exit->Act->aH->Prop) (W:aH) (B0:Nat) (l:List iB) (b1:Nat) (me:Int) (z1 z2 z3 z5:aF) (g n cap k:Nat) (y1 y2 y3 y4:Int) (yo:Option aM) (yn yc:Nat) (y6:Int) (y7:Bool) (p:List C5) (u0 u2 u3 u5 u6 u7 u8 u9 u10 u11 u12 u13 u14 u15 u16 u17 u18 u19 u20 u21 u22 u23 u24 u25 u26 u27 u28 u29 u30 u31 u32 u33 u34 u35 u36 u37 u38 u39 u40 u41 u42 u43 u44 u45 u46 u47 u48 u49 u50 u51 u52 u53 u54 u55 u56 u57 u58 u59 u60 u61 u62 u63 u64 u65 u66 u67 u68 u69 u70 u71 u72 u73 u74 u75 u76 u77 u78 u79 u80 u81:aF)
  (h1:dG W b1 #[ak au me,z1,z2,z3,J (aj ⟨g,0,ah⟩) n cap,z5] 33) (ho:jw W B0 (J (aj ⟨g,0,ah⟩) n cap) l) (hy:l[k]?=aj (y1,y2,y3,y4,(yo,yn,yc),y6,y7)) (hp:fG W (J yo yn yc) p) (lp:p.length<=900)
  (hQ:∀ (x:aH) (v49 v50 v51 v52 v53 v54 v55 v56 v57 v58 v59 v60:aF) (s1:Option aM) (s2 s3:Nat),jL x W.heap.size (J s1 s2 s3) p->jw x B0 (J (aj ⟨g,0,ah⟩) n cap) (l.set k (y1,y2,y3,y4,(s1,s2,s3),y6,y7))->But g W x->(∀ B1,B1<=g->B1<=W.heap.size->Below B1 W x)->Q .normal ⟨(u0::L (aj ⟨b1,0,ah⟩)::u2::u3::ak au (k:Int)::u5::u6::u7::u8::u9::u10::u11::u12::u13::u14::u15::u16::u17::u18::u19::u20::u21::u22::u23::u24::u25::u26::u27::u28::u29::u30::u31::u32::u33::u34::u35::u36::u37::u38::u39::u40::u41::u42::u43::u44::u45::u46::u47::u48::v49::v50::v51::v52::v53::v54::v55::v56::v57::v58::v59::v60::u61::u62::u63::u64::u65::u66::u67::u68::u69::u70::u71::u72::u73::u74::u75::u76::u77::u78::u79::u80::u81::[]).toArray,[]⟩ x) :
  Code.wp aD Xu Q ⟨(u0::L (aj ⟨b1,0,ah⟩)::u2::u3::ak au (k:Int)::u5::u6::u7::u8::u9::u10::u11::u12::u13::u14::u15::u16::u17::u18::u19::u20::u21::u22::u23::u24::u25::u26::u27::u28::u29::u30::u31::u32::u33::u34::u35::u36::u37::u38::u39::u40::u41::u42::u43::u44::u45::u46::u47::u48::u49::u50::u51::u52::u53::u54::u55::u56::u57::u58::u59::u60::u61::u62::u63::u64::u65::u66::u67::u68::u69::u70::u71::u72::u73::u74::u75::u76::u77::u78::u79::u80::u81::[]).toArray,[]⟩ W:=by
 have HQ:=O hQ;have H1:=O h1;have HO:=O ho;have HY:=O hy;have HP:=O hp;have LP:=O lp;have IX:=O (nE nR g k n cap (by obtain⟨_,_,hv⟩:=(Row.dn ho).len; have h:=(List.getElem?_eq_some_iff.1 hy).1; simp at hv; omega));have EL:=O (jS nR ho hy);clear hQ h1 ho hy hp lp;have iJ:=QI W.heap.size b1 me z1 z2 z3 z5 g n cap k y1 y2 y3 y4 yo yn yc y6 y7 p;unfold Xu
 conv=>arg 2; whnf
 have nd:∀ j,(j<49\/61<=j)->∀ i,i<12->(fun i=>49+i) i≠j:=by
  intro j hj i hi h;simp only at h;omega
 refine Rg.fH 13 12 (fun i=>49+i) (fun _=>12) (Kt W.heap.size b1 me z1 z2 z3 z5 g n cap k y1 y2 y3 y4 yo yn yc y6 y7 p) (by kernel_rfl) (by kernel_rfl) rfl (by decide) (fun i j _ _ h=>by have h2:49+i=49+j:=h; omega) (fun i hi=>by show 49+i<82; omega) ?_ (fun _=>Rg.iW 14 (by kernel_rfl)) ?_ ?_
 ·intro i o hi ho a x D hnd hc hD hb seen K hK;clear HQ;rcases (by omega:i=0\/i=1\/i=2\/i=3\/i=4\/i=5\/i=6\/i=7\/i=8\/i=9\/i=10\/i=11) with rfl|rfl|rfl|rfl|rfl|rfl|rfl|rfl|rfl|rfl|rfl|rfl
  ·cases ho;have e1:a.eval (aB 1)=L (aj ⟨b1,0,ah⟩):=seen.kp 1 _ (nd 1 (by omega)) rfl;exact aJ rfl rfl (aO a.eval _ 33 (aB 1) 4 rfl (by rw [e1]; simp [go_sem])) (hK _ _ rfl (ay _ _) fun _ _ _ _ _ _ _ h=>h)
  ·cases ho;have e49:a.eval (aB 49)=L (aj ⟨b1,4,ah⟩):=seen.at_ ⟨0,.data⟩ (by simp) rfl (aI (by decide));have y4:=(H1.out.on hb).cell 4;simp only [U,V,Z] at y4;exact aJ rfl rfl (aT a.eval _ 30 (aB 49) rfl (by rw [e49]; simp [go_sem,y4])) (hK _ _ rfl (ay _ _) fun _ _ _ _ _ _ _ h=>h)
  ·cases ho;have e4:a.eval (aB 4)=ak au (k:Int):=seen.kp 4 _ (nd 4 (by omega)) rfl;exact aJ rfl rfl (Rg.fJ a.eval _ (aB 4) rfl x) (hK _ _ e4 (ay _ _) fun _ _ _ _ _ _ _ h=>h)
  ·cases ho;have e1:a.eval (aB 1)=L (aj ⟨b1,0,ah⟩):=seen.kp 1 _ (nd 1 (by omega)) rfl;exact aJ rfl rfl (aO a.eval _ 33 (aB 1) 4 rfl (by rw [e1]; simp [go_sem])) (hK _ _ rfl (ay _ _) fun _ _ _ _ _ _ _ h=>h)
  ·cases ho;have e52:a.eval (aB 52)=L (aj ⟨b1,4,ah⟩):=seen.at_ ⟨3,.data⟩ (by simp) rfl (aI (by decide));have y4:=(H1.out.on hb).cell 4;simp only [U,V,Z] at y4;exact aJ rfl rfl (aT a.eval _ 30 (aB 52) rfl (by rw [e52]; simp [go_sem,y4])) (hK _ _ rfl (ay _ _) fun _ _ _ _ _ _ _ h=>h)
  ·cases ho;have e4:a.eval (aB 4)=ak au (k:Int):=seen.kp 4 _ (nd 4 (by omega)) rfl;exact aJ rfl rfl (Rg.fJ a.eval _ (aB 4) rfl x) (hK _ _ e4 (ay _ _) fun _ _ _ _ _ _ _ h=>h)
  ·cases ho;have e53:a.eval (aB 53)=J (aj ⟨g,0,ah⟩) n cap:=seen.at_ ⟨4,.data⟩ (by simp) rfl (aI (by decide));have e54:a.eval (aB 54)=ak au (k:Int):=seen.at_ ⟨5,.data⟩ (by simp) rfl (aI (by decide));exact aJ rfl rfl (Rg.nP a.eval _ 30 (aB 53) (aB 54) rfl (by rw [e53,e54]; exact IX.out x)) (hK _ _ rfl (ay _ _) fun _ _ _ _ _ _ _ h=>h)
  ·cases ho;have e55:a.eval (aB 55)=L (aj ⟨g,k * 7,ah⟩):=seen.at_ ⟨6,.data⟩ (by simp) rfl (aI (by decide));exact aJ rfl rfl (aO a.eval _ 68 (aB 55) 2 rfl (by rw [e55]; simp [go_sem])) (hK _ _ rfl (ay _ _) fun _ _ _ _ _ _ _ h=>h)
  ·cases ho;have e56:a.eval (aB 56)=L (aj ⟨g,k * 7+4,ah⟩):=seen.at_ ⟨7,.data⟩ (by simp) rfl (aI (by decide));have y:=EL.out x hb 4 _ rfl;simp [Addr.add,EN] at y;exact aJ rfl rfl (aT a.eval _ 41 (aB 56) rfl (by rw [e56]; simp [go_sem,y])) (hK _ _ rfl (ay _ _) fun _ _ _ _ _ _ _ h=>h)
  ·cases ho;have e57:a.eval (aB 57)=J yo yn yc:=seen.at_ ⟨8,.data⟩ (by simp) rfl (aI (by decide));exact aV rfl rfl (Rw.gY a.eval _ (aB 57) 41 66 rfl e57 rfl _ (fK Tryz.func66 rfl rfl _ _)) (qH (yo,yn,yc) p x (HP.out.on hb) LP.out) fun e w1 h=>by
    obtain⟨⟨s,rfl,h1⟩,h3⟩:=h;exact⟨_,rfl,hK _ _ ⟨s,rfl,dx h1 hb.size⟩ (h3.mono hb.size) fun j u hj _ _ _ hne h=>iJ j u _ _ h h3⟩
  ·cases ho;have e50:a.eval (aB 50)=J (aj ⟨g,0,ah⟩) n cap:=seen.at_ ⟨1,.data⟩ (by simp) rfl (aI (by decide));have e51:a.eval (aB 51)=ak au (k:Int):=seen.at_ ⟨2,.data⟩ (by simp) rfl (aI (by decide));exact aJ rfl rfl (Rg.nP a.eval _ 30 (aB 50) (aB 51) rfl (by rw [e50,e51]; exact IX.out x)) (hK _ _ rfl (ay _ _) fun _ _ _ _ _ _ _ h=>h)
  ·cases ho;have e59:a.eval (aB 59)=L (aj ⟨g,k * 7,ah⟩):=seen.at_ ⟨10,.data⟩ (by simp) rfl (aI (by decide));exact aJ rfl rfl (aO a.eval _ 68 (aB 59) 2 rfl (by rw [e59]; simp [go_sem])) (hK _ _ rfl (ay _ _) fun _ _ _ _ _ _ _ h=>h)
 ·intro kk o h1 h2 ho;omega
 ·intro a w' df sz kp ⟨vs,hv⟩ hb;have sz':a.tmps.size=82:=sz;have g60:a.tmps[60]?=aj (L (aj ⟨g,k * 7+4,ah⟩)):=by
   have h:vs 11=L (aj ⟨g,k * 7+4,ah⟩):=(hv 11 (by omega)).2 (by decide);rw [<- h];exact (hv 11 (by omega)).1
  obtain⟨⟨s1,s2,s3⟩,hs,hc⟩:=(hv 9 (by omega)).2 (by decide);have g58:a.tmps[58]?=aj (J s1 s2 s3):=((hv 9 (by omega)).1).trans (congrArg aj hs);rw [hs] at hc;obtain⟨w2,hr,st1,st2,st3⟩:=ZO (k:=k) s1 s2 s3 (Bk.dh HO.out hb) HY.out;obtain⟨cur,hg⟩:=jN (Bk.dh HO.out hb);show aW _ _ _ 1 12 a w';simp only [aW];refine aX 41 (aB 60) (aB 58) rfl rfl rfl rfl (aP g60) (aP g58) (w':=w2) hr ?_;have qF:∀ j,(j<49\/61<=j)->(a).tmps[j]?=(u0::L (aj ⟨b1,0,ah⟩)::u2::u3::ak au (k:Int)::u5::u6::u7::u8::u9::u10::u11::u12::u13::u14::u15::u16::u17::u18::u19::u20::u21::u22::u23::u24::u25::u26::u27::u28::u29::u30::u31::u32::u33::u34::u35::u36::u37::u38::u39::u40::u41::u42::u43::u44::u45::u46::u47::u48::u49::u50::u51::u52::u53::u54::u55::u56::u57::u58::u59::u60::u61::u62::u63::u64::u65::u66::u67::u68::u69::u70::u71::u72::u73::u74::u75::u76::u77::u78::u79::u80::u81::[])[j]?:=fun j hj=>(kp j (nd j (by omega))).trans U;obtain⟨mid,hmid,hfr⟩:=Rg.fQ (a:=a) 49 12 df (by simp [sz']) (by simp) qF;show Q .normal (a) _;rw [hfr]
  match mid,hmid with
  | [v49,v50,v51,v52,v53,v54,v55,v56,v57,v58,v59,v60],_ =>
   exact HQ.out _ _ _ _ _ _ _ _ _ _ _ _ _ s1 s2 s3 (st2.own hc hg (by decide)) st1 ((But.of_below hb).trans st2) fun B1 hB hl=>st3 B1 W hB (hb.mono hl)
end Av
namespace Rl
open Go.RowKit Pu Rw Pr Va
def wC (c:Cn) (a:An):Bool:=decide (a.1=c.1) && dP c.2 a.2
theorem four {w:aH} {p:aM} {x:An} (h:∀ j u,(At.vW x)[j]?=aj u->w.cell? (p.add j)=aj u) :
  w.cell? p=aj (aA x.1)/\w.cell? ⟨p.block,p.off+1,ah⟩=aj (aN x.2.1)/\w.cell? ⟨p.block,p.off+2,ah⟩=aj (ak au x.2.2.1)/\w.cell? ⟨p.block,p.off+3,ah⟩=aj (aA x.2.2.2):=by
 have h0:=h 0 _ rfl;have h1:=h 1 _ rfl;have h2:=h 2 _ rfl;have h3:=h 3 _ rfl;simp [Addr.add] at h0 h1 h2 h3;exact⟨h0,h1,h2,h3⟩
theorem elL {W:aH} {v:aF} {l:List An} {ao:Option aM} {n c k:Nat} {x:An} (h:mF W v l) (hv:v=J ao n c) (hn:l.length=n) (hk:l[k]?=aj x) :
  ∃ p:aM,(∀ w,(Instr.indexAt 39 (J ao n c) (ak au k)).run aD w=.ok (L (aj p)) w)/\∀ w,Below W.heap.size W w ->
   w.cell? p=aj (aA x.1)/\w.cell? ⟨p.block,p.off+1,ah⟩=aj (aN x.2.1)/\w.cell? ⟨p.block,p.off+2,ah⟩=aj (ak au x.2.2.1)/\w.cell? ⟨p.block,p.off+3,ah⟩=aj (aA x.2.2.2):=by
 obtain⟨p,h1,_,h2⟩:=kU okA h hv hn hk;exact⟨p,h1,fun w hw=>four (h2 w hw)⟩
theorem Jp (oO bv:aF) (a:List Cn) (b:List An) (w:aH) (ha:fG w oO (a.map r5)) (hb:mF w bv b) (hl:a.length<=100) (hm:b.length<=100) :
  aY aD 37 #[oO,bv] w fun e w'=>e=.returned (aN (qD a b))/\Below w.heap.size w w':=by
 have HA:=O ha;have HB:=O hb;have CO:=O (show qD a b=a.all fun x=>b.any (wC x) from rfl);obtain⟨ao,ac,rfl⟩:=ha.len;obtain⟨bo,bc,rfl⟩:=hb.len;clear ha hb;rw [aS] at HA ⊢;generalize qD a b=r at *;generalize hn:a.length=n at *;generalize hm':b.length=m at *;have HN:=O hn;have HM:=O hm';clear hn hm';go_enter Tryz.func37,Tryz.ntmps37;go_wp2
 go_loopw [12] (fun i wr=>∃ k:Nat,k<=n/\i=ak au k/\Below w.heap.size w wr/\(a.take k).all (fun x=>b.any (wC x))=true) (fun i _=>n-(intOf i).toNat)
 case atStart=>exact⟨0,Nat.zero_le _,rfl,ay _ _,rfl⟩
 case round =>
  obtain⟨k,hk,rfl,hbe,hall⟩:=hrel;have BE:=O hbe;have AL:=O hall;clear hbe hall;by_cases hlt:k<n
  ·obtain⟨x,hx⟩:∃ x,a[k]?=aj x:=⟨_,aG (by rw [HN.out]; exact hlt)⟩;obtain⟨p,ix,px⟩:=U7 HA.out rfl (by rw [aS]; exact HN.out) (show (a.map r5)[k]?=aj (r5 x) by rw [List.getElem?_map,hx]; rfl);have p0:=(px _ BE.out).1;have p1:=(px _ BE.out).2.1;have p2:=(px _ BE.out).2.2.1;have p3:=(px _ BE.out).2.2.2.1;have p4:=(px _ BE.out).2.2.2.2;have HX:=O hx;have B1:=O (BE.out.alloc BE.out.size (aK #[aA (r5 x).1,ak au (r5 x).2.1,ak au (r5 x).2.2.1,ak au (r5 x).2.2.2.1,aA (r5 x).2.2.2.2] 106));have Z1:=O (show wr.heap.size<(wr.alloc (aK #[aA (r5 x).1,ak au (r5 x).2.1,ak au (r5 x).2.2.1,ak au (r5 x).2.2.2.1,aA (r5 x).2.2.2.2] 106)).heap.size by simp);have e0:(wr.alloc (aK #[aA (r5 x).1,ak au (r5 x).2.1,ak au (r5 x).2.2.1,ak au (r5 x).2.2.2.1,aA (r5 x).2.2.2.2] 106)).cell? ⟨wr.heap.size,0,ah⟩=aj (aA (r5 x).1):=by simp [go_sem]
   have e1:(wr.alloc (aK #[aA (r5 x).1,ak au (r5 x).2.1,ak au (r5 x).2.2.1,ak au (r5 x).2.2.2.1,aA (r5 x).2.2.2.2] 106)).cell? ⟨wr.heap.size,1,ah⟩=aj (ak au (r5 x).2.1):=by simp [go_sem]
   have e2:(wr.alloc (aK #[aA (r5 x).1,ak au (r5 x).2.1,ak au (r5 x).2.2.1,ak au (r5 x).2.2.2.1,aA (r5 x).2.2.2.2] 106)).cell? ⟨wr.heap.size,2,ah⟩=aj (ak au (r5 x).2.2.1):=by simp [go_sem]
   have e3:(wr.alloc (aK #[aA (r5 x).1,ak au (r5 x).2.1,ak au (r5 x).2.2.1,ak au (r5 x).2.2.2.1,aA (r5 x).2.2.2.2] 106)).cell? ⟨wr.heap.size,3,ah⟩=aj (ak au (r5 x).2.2.2.1):=by simp [go_sem]
   have e4:(wr.alloc (aK #[aA (r5 x).1,ak au (r5 x).2.1,ak au (r5 x).2.2.1,ak au (r5 x).2.2.2.1,aA (r5 x).2.2.2.2] 106)).cell? ⟨wr.heap.size,4,ah⟩=aj (aA (r5 x).2.2.2.2):=by simp [go_sem]
   clear px hx;go_wp2;generalize wr.alloc (aK #[aA (r5 x).1,ak au (r5 x).2.1,ak au (r5 x).2.2.1,ak au (r5 x).2.2.2.1,aA (r5 x).2.2.2.2] 106)=W1 at *;generalize wr.heap.size=bx at *;have E0:=O e0;have E1:=O e1;have E2:=O e2;have E3:=O e3;have E4:=O e4;clear e0 e1 e2 e3 e4 ix p0 p1 p2 p3 p4
   go_loopw [7,18] (fun v i wi=>∃ j:Nat,j<=m/\i=ak au j/\v=aN ((b.take j).any (wC x))/\Below W1.heap.size W1 wi) (fun _ i _=>m-(intOf i).toNat)
   case atStart=>exact⟨0,Nat.zero_le _,rfl,rfl,ay _ _⟩
   case round =>
    obtain⟨j,hj,rfl,rfl,hbi⟩:=hrel;have BI:=O hbi;have TK:=O (B1.out.trans (hbi.mono B1.out.size));clear hbi;by_cases hjt:j<m
    ·obtain⟨y,hy⟩:∃ y,b[j]?=aj y:=⟨_,aG (by rw [HM.out]; exact hjt)⟩;obtain⟨q,iy,py⟩:=elL HB.out rfl HM.out hy;have q0:=(py _ TK.out).1;have q1:=(py _ TK.out).2.1;have q2:=(py _ TK.out).2.2.1;have q3:=(py _ TK.out).2.2.2;have MO:=O (FV (wC x) b j y hy);have DN:=O (BI.out.alloc BI.out.size (aK #[aA y.1,aN y.2.1,ak au y.2.2.1,aA y.2.2.2] 97));have f0:=(DN.out.cell (p:=⟨bx,0,ah⟩) Z1.out).trans E0.out;have f1:=(DN.out.cell (p:=⟨bx,1,ah⟩) Z1.out).trans E1.out;have f2:=(DN.out.cell (p:=⟨bx,2,ah⟩) Z1.out).trans E2.out;have f3:=(DN.out.cell (p:=⟨bx,3,ah⟩) Z1.out).trans E3.out;have f4:=(DN.out.cell (p:=⟨bx,4,ah⟩) Z1.out).trans E4.out;clear py hy;cases hv:(b.take j).any (wC x)
     ·rw [hv] at MO;clear hv;by_cases hne:y.1=x.1
      ·have g0:=str_eq y.1 (r5 x).1 hne;have CV:=O (show wC x y=dP x.2 y.2 by simp [wC,hne]);clear hne;go_wp2_with fail;refine (qG x y.2.1 y.2.2.1 y.2.2.2 _).mono ?_;rintro e w2 ⟨rfl,hc⟩;have BC:=O (DN.out.trans (hc.mono DN.out.size));clear hc;go_wp2
       go_roundw
       case rel=>exact⟨j+1,by omega,by go_num,by rw [MO.out,CV.out]; rfl,BC.out⟩
       case measure=>simp [intOf]; omega
      ·have g0:=Qk y.1 (r5 x).1 hne;have CV:=O (show wC x y=false by simp [wC,hne]);go_wp2
       go_roundw
       case rel=>exact⟨j+1,by omega,by go_num,by rw [MO.out,CV.out]; rfl,DN.out⟩
       case measure=>simp [intOf]; omega
     ·rw [hv] at MO;clear hv;go_wp2
      go_roundw
      case rel=>exact⟨j+1,by omega,by go_num,by rw [MO.out]; rfl,DN.out⟩
      case measure=>simp [intOf]; omega
    ·obtain rfl:j=m:=by omega
     have TA:=O (show (b.take j).any (wC x)=b.any (wC x) by rw [<- HM.out,aR]);have AM:=O (uM (fun x=>b.any (wC x)) a k x HX.out);rw [TA.out];cases hv:b.any (wC x)
     ·have R:=O (show r=false from CO.out.trans (yg _ a k x HX.out hv));clear hv;go_wp2;go_ret;exact⟨dZ R.out.symm,TK.out⟩
     ·have HV:=O hv;clear hv;go_wp2
      go_roundw
      case rel=>exact⟨k+1,by omega,by go_num,TK.out,by rw [AM.out,AL.out,HV.out]; rfl⟩
      case measure=>simp [intOf]; omega
  ·obtain rfl:k=n:=by omega
   have R:=O (show r=true by rw [CO.out,<- AL.out,<- HN.out,aR]);go_wp2;go_ret;exact⟨dZ R.out.symm,BE.out⟩
end Rl
namespace Bk
open Go.RowKit Go.Sort Rw YtkcfgbddlpomgaaGreat.Nm Pr
def yV (near:List Int) (n:Int):Int:=(near[(Wi.within n 0 near.length).toNat]?).getD (-1)
theorem Gf (me n:Int) (nv:Sl) (av sv ev ov:aF) (l:List Int) (w:aH) (hs:qW w (dK nv) l) (hl:l.length<=900) (h1:-9223372036854775808<=n) (h2:n<=9223372036854775807) :
  aY aD 8 #[.agg #[ak au me,dK nv,av,sv,ev,ov],ak au n] w fun e w'=>e=.returned (ak au (yV l n))/\Below w.heap.size w w':=by
 obtain⟨no,nn,nc⟩:=nv;obtain⟨q1,q2,hq⟩:=hs.len;obtain⟨rfl,rfl,rfl⟩:no=q1/\nn=l.length/\nc=q2:=by
  have:J no nn nc=J q1 l.length q2:=hq;simpa using this
 obtain⟨nn,hnn⟩:∃ n,n=l.length:=⟨_,rfl⟩;simp only [<- hnn] at hs ⊢;have NB:=fT w (aK #[ak au me,J no nn nc,av,sv,ev,ov] 33);have B0:=O NB;have X2:=O (dI w #[ak au me,J no nn nc,av,sv,ev,ov] 33);have HS:=O (hs.on NB);have HN:=O hnn;have nl:nn<=900:=by omega
 clear NB hs hq hnn hl;show aY aD 8 #[.agg #[ak au me,J no nn nc,av,sv,ev,ov],ak au n] w _;go_enter Tryz.func8,Tryz.ntmps8;go_upto_region 1 with fail;generalize w.alloc (aK #[ak au me,J no nn nc,av,sv,ev,ov] 33)=W at *;have x1:=X2.out.cell 1;simp only [U,V,Z] at x1;have WI:=Wi.gI n 0 (nn:Int) W (by omega) (by decide) (by omega) h1 h2;have WB:=Wi.iL n 0 (nn:Int) (by omega);have SD:=O (show yV l n=(l[(Wi.within n 0 (nn:Int)).toNat]?).getD (-1) from by unfold yV; rw [HN.out]);generalize Wi.within n 0 (nn:Int)=y at *;obtain⟨m,rfl⟩:∃ m:Nat,y=m:=⟨y.toNat,by omega⟩;rw [Int.toNat_natCast] at SD;go_wp2_with fail;refine WI.mono ?_;rintro e2 w2 ⟨rfl,rfl⟩;clear WI;by_cases hm:m<nn
 ·have hm2:(m:Int)<(nn:Int):=by omega
  obtain⟨z,hz⟩:∃ z,l[m]?=aj z:=⟨_,aG (by rw [<- HN.out]; exact hm)⟩;obtain⟨p,ix,px⟩:=elI HS.out rfl HN.out.symm hz;have p0:=px.2 W (ay _ _);rw [hz] at SD;clear px hz;go_wp2_with fail;go_ret;exact⟨by rw [SD.out]; rfl,B0.out⟩
 ·have hm2:¬ ((m:Int)<(nn:Int)):=by omega
  rw [List.getElem?_eq_none (by have:=HN.out; omega)] at SD;go_wp2_with fail;go_ret;exact⟨by rw [SD.out]; rfl,B0.out⟩
end Bk
namespace Av
open Go.RowKit Go.ChangeShapes Go.WideShapes Bk
theorem VA:Tryz.prog.cellsOf 83=7:=by kernel_rfl
theorem VB (a:aM) (m len cap:Nat) (h:m<len) (w:aH):(Instr.indexAt 22 (J (aj a) len cap) (ak au m)).run aD w=.ok (L (aj (a.add (m * 7)))) w:=by
 have h1:(m:Int)<len:=by omega
 simp [go_sem,Tryz.underlying22,h1]
structure Jq (W:aH) (v:aF) (n:Nat):Prop where
 shape:∃ ao cap,v=J ao n cap
 at_:∀ i:Nat,i<n->∃ (p:aM) (z0 z1 z2 z3 z4:Int) (h1:Option aM) (h2 h3:Nat) (g1:Option aM) (g2 g3:Nat) (has vals:List Int),p.block<W.heap.size/\(∀ w,(Instr.indexAt 22 v (ak au i)).run aD w=.ok (L (aj p)) w)/\(∀ j u,([ak au z0,ak au z1,ak au z2,ak au z3,ak au z4,J h1 h2 h3,J g1 g2 g3]:List aF)[j]?=aj u->W.cell? (p.add j)=aj u)/\((-9223372036854775808<=z0/\z0<=9223372036854775807)/\(-9223372036854775808<=z1/\z1<=9223372036854775807)/\(-9223372036854775808<=z2/\z2<=9223372036854775807)/\(-9223372036854775808<=z3/\z3<=9223372036854775807)/\(-9223372036854775808<=z4/\z4<=9223372036854775807))/\In.iU W (J h1 h2 h3) has/\In.iU W (J g1 g2 g3) vals/\has.length<=aU/\vals.length<=aU
theorem Jq.on {W W':aH} {v:aF} {n:Nat} (h:Jq W v n) (hb:Below W.heap.size W W'):Jq W' v n :=
 ⟨h.shape,fun i hi=>by
  obtain⟨p,z0,z1,z2,z3,z4,x1,x2,x3,y1,y2,y3,has,vals,h1,h2,h3,h4,h5,h6,h7⟩:=h.at_ i hi;exact⟨p,z0,z1,z2,z3,z4,x1,x2,x3,y1,y2,y3,has,vals,Nat.lt_of_lt_of_le h1 hb.size,h2,fun j u hu=>by rw [hb.cell (by rw [uN]; exact h1)]; exact h3 j u hu,h4,h5.on hb,h6.on hb,h7⟩⟩
end Av
namespace Sb
open Go.RowKit Go.Sort Rw YtkcfgbddlpomgaaGreat.Nm Pr Bk Av
abbrev Gg (W:aH) (b:Nat) (a0 a1 a2 a3 a4 a5 a6:aF):aH:=((((((W.setCell ⟨b,0,ah⟩ a0).setCell ⟨b,1,ah⟩ a1).setCell ⟨b,2,ah⟩ a2).setCell ⟨b,3,ah⟩ a3).setCell ⟨b,4,ah⟩ a4).setCell ⟨b,5,ah⟩ a5).setCell ⟨b,6,ah⟩ a6
theorem yX {W:aH} {b:Nat} {t:TypeId} {z0 z1 z2 z3 z4 z5 z6:aF} (h:dG W b #[z0,z1,z2,z3,z4,z5,z6] t) (a0 a1 a2 a3 a4 a5 a6:aF):dG (Gg W b a0 a1 a2 a3 a4 a5 a6) b #[a0,a1,a2,a3,a4,a5,a6] t:=by
 have h2:=dO (k:=6) (dO (k:=5) (dO (k:=4) (dO (k:=3) (dO (k:=2) (dO (k:=1) (dO (k:=0) h a0) a1) a2) a3) a4) a5) a6;simpa using h2
theorem uf {B:Nat} {W0 W:aH} {b:Nat} (h:Below B W0 W) (hb:B<=b) (a0 a1 a2 a3 a4 a5 a6:aF):Below B W0 (Gg W b a0 a1 a2 a3 a4 a5 a6):=(((((((h).setCell (p:=⟨b,0,ah⟩) hb a0).setCell (p:=⟨b,1,ah⟩) hb a1).setCell (p:=⟨b,2,ah⟩) hb a2).setCell (p:=⟨b,3,ah⟩) hb a3).setCell (p:=⟨b,4,ah⟩) hb a4).setCell (p:=⟨b,5,ah⟩) hb a5).setCell (p:=⟨b,6,ah⟩) hb a6
theorem QJ {α:Type} {E:Ek α} {W:aH} {B:Nat} {v:aF} {l:List α} (h:Own E W B v l) (b:Nat) (hb:b<B) (a0 a1 a2 a3 a4 a5 a6:aF):Own E (Gg W b a0 a1 a2 a3 a4 a5 a6) B v l :=
 dW (dW (dW (dW (dW (dW (dW (h) b 0 a0 hb) b 1 a1 hb) b 2 a2 hb) b 3 a3 hb) b 4 a4 hb) b 5 a5 hb) b 6 a6 hb
theorem Gh (w:aH) (b:Nat) (a0 a1 a2 a3 a4 a5 a6:aF):But b w (Gg w b a0 a1 a2 a3 a4 a5 a6) :=
 ((((((dQ _ b _ _).trans (dQ _ b _ _)).trans (dQ _ b _ _)).trans (dQ _ b _ _)).trans (dQ _ b _ _)).trans (dQ _ b _ _)).trans (dQ _ b _ _)
theorem D5 (x:iB) (p:List C5) (w:aH) (hp:fG w (dK x.2.2.2.2.1) p) (hl:p.length<=900) :
  aY aD 47 #[qX x] w fun e w'=>(∃ v':Sl,e=.returned (qX (x.1,x.2.1,x.2.2.1,x.2.2.2.1,v',x.2.2.2.2.2.1,x.2.2.2.2.2.2))/\jL w' w.heap.size (dK v') p)/\Below w.heap.size w w':=by
 obtain⟨y1,y2,y3,y4,⟨s1,s2,s3⟩,y6,y7⟩:=x;obtain⟨h0,X,Y⟩:=gG w #[ak au y1,ak au y2,ak au y3,ak au y4,J s1 s2 s3,ak au y6,aN y7] #[ak au 0,ak au 0,ak au 0,ak au 0,J ah 0 0,ak au 0,aN false] 68 68;have C:=O (qH (s1,s2,s3) p _ (hp.on h0) hl);have B:=O h0;have x4:=X.cell 4;simp only [U,V,Z] at x4;have X:=O X;have Y:=O Y;clear h0 hp hl;go_enter Tryz.func47,Tryz.ntmps47;go_wp2_with fail;generalize (w.alloc (aK #[ak au y1,ak au y2,ak au y3,ak au y4,J s1 s2 s3,ak au y6,aN y7] 68)).alloc (aK #[ak au 0,ak au 0,ak au 0,ak au 0,J ah 0 0,ak au 0,aN false] 68)=W at *;refine C.out.mono ?_;rintro e w1 ⟨⟨⟨u1,u2,u3⟩,rfl,ho⟩,hb⟩;have X1:=X.out.on hb;have Y1:=Y.out.on hb;have hs:w.heap.size<W.heap.size:=X.out.lt;have O1:=O (dW ho w.heap.size 4 (J u1 u2 u3) hs);have XB:=O (show dG _ _ #[ak au y1,ak au y2,ak au y3,ak au y4,J u1 u2 u3,ak au y6,aN y7] _ from by simpa using dO (k:=4) X1 (J u1 u2 u3));have YB:=O (show dG _ _ _ _ from (aC w1 ⟨w.heap.size,4,ah⟩ (J u1 u2 u3) _ (show w.heap.size+1≠w.heap.size by omega)).trans Y1);have B1:=O ((B.out.trans (hb.mono B.out.size)).setCell (p:=⟨w.heap.size,4,ah⟩) (Nat.le_refl _) (J u1 u2 u3));have y4':=X1.cell 4;have f4:=X1.fr 4;have z4:=X1.lt;simp only [U,V,Z] at y4';clear X1 Y1 ho hb x4 C;go_upto_region 2 with fail;clear y4' f4 z4;generalize w1.setCell ⟨w.heap.size,4,ah⟩ (J u1 u2 u3)=w2 at *;obtain⟨x0,x1,x2,x3,x4,x5,x6⟩:=XB.out.mP;obtain⟨r0,r1,r2,r3,r4,r5,r6⟩:=YB.out.mP;obtain⟨t0,t1,t2,t3,t4,t5,t6⟩:=YB.out.Zn;have zz:=YB.out.lt;have hs2:w.heap.size+1<W.heap.size:=Y.out.lt;have FB:=O (yX YB.out (ak au y1) (ak au y2) (ak au y3) (ak au y4) (J u1 u2 u3) (ak au y6) (aN y7));have BL:=O (uf (b:=w.heap.size+1) B1.out (by omega) (ak au y1) (ak au y2) (ak au y3) (ak au y4) (J u1 u2 u3) (ak au y6) (aN y7));have FO:=O (QJ O1.out (w.heap.size+1) hs2 (ak au y1) (ak au y2) (ak au y3) (ak au y4) (J u1 u2 u3) (ak au y6) (aN y7));have HS:=O hs;clear hs hs2;go_wp2_with fail;obtain⟨v0,v1,v2,v3,v4,v5,v6⟩:=FB.out.mP;refine bodyPost_ret (v:=.agg #[ak au y1,ak au y2,ak au y3,ak au y4,J u1 u2 u3,ak au y6,aN y7]) (by simp [results,Tryz.results47,go_sem,v0,v1,v2,v3,v4,v5,v6]) rfl ?_;exact⟨⟨(u1,u2,u3),rfl,dx FO.out (Nat.le_of_lt HS.out)⟩,BL.out⟩
end Sb
namespace At
open Go.RowKit Go.ChangeShapes Go.WideShapes In
theorem aac:Tryz.prog.cellsOf 27=2:=by kernel_rfl
theorem DW:Tryz.prog.cellsOf 25=1:=by kernel_rfl
theorem Jr {H:Type} {enc:TypeId×aF->H} {W:aH} {r:Reach} {b0:Nat} {sp:Nat->Bool} {held:Bool} {v:aF} {d:DataW H} {ps:List MemPlace}
  (hval:Value.okWide aD W r b0 27 v) (hd:DataW.Trod enc aD W 0 sp held 27 v d ps) :
  ∃ (hv vv:aF) (has vals:List Int),v=.agg #[hv,vv]/\has.length<=aU/\vals.length<=aU/\iU W hv has/\iU W vv vals:=by
 obtain⟨cs,rfl,hsz⟩:=okWide_struct aQ hval;obtain⟨fuel,hf⟩:=hd;obtain⟨xs,n,_,_,_,hxl,hx⟩:=DataW.trod_struct aQ hf;rw [aac] at hsz;obtain⟨l⟩:=cs
 match l,hsz with
 | [c0,c1],_ =>
  have f0:DataW.trod enc aD W 0 sp held n 25 (([c0,c1].drop 0).take (Tryz.prog.cellsOf 25))=xs[0]?:=hx 0 _ rfl;have f1:DataW.trod enc aD W 0 sp held n 25 (([c0,c1].drop 1).take (Tryz.prog.cellsOf 25))=xs[1]?:=hx 1 _ rfl;have abU:xs.length=2:=hxl;simp only [DW,List.drop_zero,List.drop_succ_cons,List.take_succ_cons,List.take_zero] at f0 f1;rw [aG (by omega)] at f0 f1;obtain⟨has,h1,h2⟩:=xU f0;obtain⟨vals,h3,h4⟩:=xU f1;exact⟨c0,c1,has,vals,rfl,h1,h3,h2,h4⟩
end At
end Go.Proofs.YtkcfgbddlpomgaaGreat
