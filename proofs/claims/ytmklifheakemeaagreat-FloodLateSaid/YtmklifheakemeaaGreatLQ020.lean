/-
  The region of Copy i. Conditions as told.
-/
import Derived.Test.YtmklifheakemeaaGreatLQ013
import Derived.Shelf.Slices.In.SortNone
import Derived.Shelf.Sort.Plain
import Derived.Shelf.Slices.CompactI
import Derived.Shelf.Slices.SearchI
import Derived.Test.YtmklifheakemeaaGreatLQ019
import Derived.Test.YtmklifheakemeaaGreatLQ015
import Derived.Test.YtmklifheakemeaaGreatLQ017
set_option maxRecDepth 100000
set_option maxHeartbeats 64000000
open _root_.Go renaming World->aM,Value->aS,Addr->bF
open Go.Ending renaming returned->aF
open Go.IntKind renaming i64->aj
open Go.Lib renaming hid->L
open Go.Obj renaming cells->aA
open Go.Operand renaming tmp->aB
open Go.Proofs.Tryz renaming prog->aD,underlying22->aH,underlying0->aI,underlying3->aJ,underlying4->aK,zeroValue22->aL,zeroValue0->aN,zeroValue3->aO,zeroValue4->aP,sizeOf22->aQ,underlying139->aR,sizeOf0->aT,sizeOf3->aU,sizeOf4->aV,isAgg22->aW,zeroValue139->aX,isAgg0->aZ,isAgg3->bf,isAgg4->bg,results29->bG,sizeOf139->bH,isAgg139->bI
open Go.RowKit.Below renaming refl->au,heap_setCell->ay
open Go.Value renaming slice->J,pointer->O,int->ah,bool->bJ
open _root_.List renaming getElem?_toArray->V,getElem?_cons_zero->X,getElem?_cons_succ->Y,getElem?_eq_getElem->ak,mem_of_getElem?->aC,getElem?_eq_some_iff->aG,getElem?_map->aY,length_map->bq
open _root_.Option renaming some->U,none->Z
namespace Go.Proofs.YtmklifheakemeaaGreat.Av
open Go.RowKit Go.Sort Rw YtmklifheakemeaaGreat.Nm Pr Bk
def QU (B:Nat) (b1:Nat) (_me:Int) (_z1 _z3:aS) (o2:Option bF) (n2 c2:Nat) (al:List jk) (o4:Option bF) (n4 c4:Nat) (el:List gW) (o5:Option bF) (n5 c5:Nat) (ol:List nS) (i:Nat) (v:aS) (x:aM):Prop :=
 match i with
 | 0=>v=O (U ⟨b1,2,Z⟩)
 | 1=>v=J o2 n2 c2
 | 2=>∃ s:Sl,v=dO s/\qo x B v al
 | 3=>v=O (U ⟨b1,4,Z⟩)
 | 4=>v=J o4 n4 c4
 | 5=>∃ s:Sl,v=dO s/\jZ x B v el
 | 6=>v=O (U ⟨b1,5,Z⟩)
 | 7=>v=J o5 n5 c5
 | 8=>∃ s:Sl,v=dO s/\nI x B v ol
 | 9=>v=O (U ⟨b1,2,Z⟩)
 | _=>True
noncomputable def XR:Code:=((Tryz.f91.body.bind (eT 2)).getD .skip)
theorem QV (B:Nat) (b1:Nat) (me:Int) (z1 z3:aS) (o2:Option bF) (n2 c2:Nat) (al:List jk) (o4:Option bF) (n4 c4:Nat) (el:List gW) (o5:Option bF) (n5 c5:Nat) (ol:List nS) (i:Nat) (v:aS) (x x':aM) (h:QU B b1 me z1 z3 o2 n2 c2 al o4 n4 c4 el o5 n5 c5 ol i v x) (hb:Below x.heap.size x x'):QU B b1 me z1 z3 o2 n2 c2 al o4 n4 c4 el o5 n5 c5 ol i v x':=by
 by_cases hi:i<10
 ·rcases (by omega:i=0\/i=1\/i=2\/i=3\/i=4\/i=5\/i=6\/i=7\/i=8\/i=9) with rfl|rfl|rfl|rfl|rfl|rfl|rfl|rfl|rfl|rfl
  ·exact h
  ·exact h
  ·obtain⟨s,h1,h2⟩:=h; exact⟨s,h1,Bk.dJ h2 hb⟩
  ·exact h
  ·exact h
  ·obtain⟨s,h1,h2⟩:=h; exact⟨s,h1,Bk.dJ h2 hb⟩
  ·exact h
  ·exact h
  ·obtain⟨s,h1,h2⟩:=h; exact⟨s,h1,Bk.dJ h2 hb⟩
  ·exact h
 ·unfold QU
  split <;> first | omega | trivial
theorem cp2 (Q:Exit->Act->aM->Prop) (W:aM) (b1:Nat) (me:Int) (z1 z3:aS) (o2:Option bF) (n2 c2:Nat) (al:List jk) (o4:Option bF) (n4 c4:Nat) (el:List gW) (o5:Option bF) (n5 c5:Nat) (ol:List nS) (u0 u2 u3 u4 u5 u6 u7 u8 u9 u10 u11 u12 u13 u14 u15 u16 u17 u18 u19 u20 u21 u22 u23 u24 u25 u26 u27 u28 u29 u30 u31 u32 u33 u34 u35 u36 u37 u38 u39 u40 u41 u42 u43 u44 u45 u46 u47 u48 u49 u50 u51 u52 u53 u54 u55 u56 u57 u58 u59 u60 u61 u62 u63 u64 u65 u66 u67 u68 u69 u70 u71 u72 u73 u74 u75 u76 u77 u78 u79 u80 u81:aS)
  (h1:dI W b1 #[ah aj me,z1,J o2 n2 c2,z3,J o4 n4 c4,J o5 n5 c5] 28) (r2:Ao W (J o2 n2 c2) al) (r4:kr W (J o4 n4 c4) el) (r5:I9 W (J o5 n5 c5) ol) (l2:al.length<=900) (l4:el.length<=900) (l5:ol.length<=900)
  (hQ:∀ (x:aM) (v14 v15 v16 v17 v18 v19 v20 v21 v22 v23 v24 v25:aS) (p2:Option bF) (q2 s2:Nat) (p4:Option bF) (q4 s4:Nat) (p5:Option bF) (q5 s5:Nat),dI x b1 #[ah aj me,z1,J p2 q2 s2,z3,J p4 q4 s4,J p5 q5 s5] 28->qo x W.heap.size (J p2 q2 s2) al->jZ x W.heap.size (J p4 q4 s4) el->nI x W.heap.size (J p5 q5 s5) ol->(∀ B,B<=b1->Below B W x)->(∀ k,k<W.heap.size->k≠b1->x.heap[k]?=W.heap[k]?)->Q .normal ⟨(u0::O (U ⟨b1,0,Z⟩)::u2::u3::u4::u5::u6::u7::u8::u9::u10::u11::u12::u13::v14::v15::v16::v17::v18::v19::v20::v21::v22::v23::v24::v25::u26::u27::u28::u29::u30::u31::u32::u33::u34::u35::u36::u37::u38::u39::u40::u41::u42::u43::u44::u45::u46::u47::u48::u49::u50::u51::u52::u53::u54::u55::u56::u57::u58::u59::u60::u61::u62::u63::u64::u65::u66::u67::u68::u69::u70::u71::u72::u73::u74::u75::u76::u77::u78::u79::u80::u81::[]).toArray,[]⟩ x) :
  Code.wp aD XR Q ⟨(u0::O (U ⟨b1,0,Z⟩)::u2::u3::u4::u5::u6::u7::u8::u9::u10::u11::u12::u13::u14::u15::u16::u17::u18::u19::u20::u21::u22::u23::u24::u25::u26::u27::u28::u29::u30::u31::u32::u33::u34::u35::u36::u37::u38::u39::u40::u41::u42::u43::u44::u45::u46::u47::u48::u49::u50::u51::u52::u53::u54::u55::u56::u57::u58::u59::u60::u61::u62::u63::u64::u65::u66::u67::u68::u69::u70::u71::u72::u73::u74::u75::u76::u77::u78::u79::u80::u81::[]).toArray,[]⟩ W:=by
 have HQ:=L hQ;have H1:=L h1;have R2:=L r2;have R4:=L r4;have R5:=L r5;have L2:=L l2;have L4:=L l4;have L5:=L l5;clear hQ h1 r2 r4 r5 l2 l4 l5;have jG:=QV W.heap.size b1 me z1 z3 o2 n2 c2 al o4 n4 c4 el o5 n5 c5 ol;unfold XR
 conv=>arg 2; whnf
 have nd:∀ j,(j<14\/24<=j)->∀ i,i<10->(fun i=>14+i) i≠j:=by
  intro j hj i hi h;simp only at h;omega
 refine Rg.gN 15 10 (fun i=>14+i) (fun _=>10) (QU W.heap.size b1 me z1 z3 o2 n2 c2 al o4 n4 c4 el o5 n5 c5 ol) (by kernel_rfl) (by kernel_rfl) rfl (by decide) (fun i j _ _ h=>by have h2:14+i=14+j:=h; omega) (fun i hi=>by show 14+i<82; omega) ?_ (fun _=>Rg.jN 14 (by kernel_rfl)) ?_ ?_
 ·intro i o hi ho a x D hnd hc hD hb seen K hK;clear HQ;rcases (by omega:i=0\/i=1\/i=2\/i=3\/i=4\/i=5\/i=6\/i=7\/i=8\/i=9) with rfl|rfl|rfl|rfl|rfl|rfl|rfl|rfl|rfl|rfl
  ·cases ho;have e1:a.eval (aB 1)=O (U ⟨b1,0,Z⟩):=seen.kp 1 _ (nd 1 (by omega)) rfl;exact Rg.dF rfl rfl (Rg.eP a.eval _ 28 (aB 1) 2 rfl (by rw [e1]; simp [go_sem])) (hK _ _ rfl (au _ _) fun _ _ _ _ _ _ _ h=>h)
  ·cases ho;have e14:a.eval (aB 14)=O (U ⟨b1,2,Z⟩):=seen.at_ ⟨0,.data⟩ (by simp) rfl (Or.inr (by decide));have y2:=(H1.out.on hb).cell 2;simp only [V,X,Y] at y2;exact Rg.dF rfl rfl (Rg.eu a.eval _ 23 (aB 14) rfl (by rw [e14]; simp [go_sem,y2])) (hK _ _ rfl (au _ _) fun _ _ _ _ _ _ _ h=>h)
  ·cases ho;have e15:a.eval (aB 15)=J o2 n2 c2:=seen.at_ ⟨1,.data⟩ (by simp) rfl (Or.inr (by decide));exact Rg.fO rfl rfl (Rw.gu a.eval _ (aB 15) 23 141 rfl e15 rfl _ (fI Tryz.func141 rfl rfl _ _)) (Ea (o2,n2,c2) al x (R2.out.on hb) L2.out) fun e w1 h=>by
    obtain⟨⟨s,rfl,h1⟩,h3⟩:=h;exact⟨_,rfl,hK _ _ ⟨s,rfl,dK h1 hb.size⟩ (h3.mono hb.size) fun j u hj _ _ _ hne h=>jG j u _ _ h h3⟩
  ·cases ho;have e1:a.eval (aB 1)=O (U ⟨b1,0,Z⟩):=seen.kp 1 _ (nd 1 (by omega)) rfl;exact Rg.dF rfl rfl (Rg.eP a.eval _ 28 (aB 1) 4 rfl (by rw [e1]; simp [go_sem])) (hK _ _ rfl (au _ _) fun _ _ _ _ _ _ _ h=>h)
  ·cases ho;have e17:a.eval (aB 17)=O (U ⟨b1,4,Z⟩):=seen.at_ ⟨3,.data⟩ (by simp) rfl (Or.inr (by decide));have y4:=(H1.out.on hb).cell 4;simp only [V,X,Y] at y4;exact Rg.dF rfl rfl (Rg.eu a.eval _ 25 (aB 17) rfl (by rw [e17]; simp [go_sem,y4])) (hK _ _ rfl (au _ _) fun _ _ _ _ _ _ _ h=>h)
  ·cases ho;have e18:a.eval (aB 18)=J o4 n4 c4:=seen.at_ ⟨4,.data⟩ (by simp) rfl (Or.inr (by decide));exact Rg.fO rfl rfl (Rw.gu a.eval _ (aB 18) 25 142 rfl e18 rfl _ (fI Tryz.func142 rfl rfl _ _)) (Eb (o4,n4,c4) el x (R4.out.on hb) L4.out) fun e w1 h=>by
    obtain⟨⟨s,rfl,h1⟩,h3⟩:=h;exact⟨_,rfl,hK _ _ ⟨s,rfl,dK h1 hb.size⟩ (h3.mono hb.size) fun j u hj _ _ _ hne h=>jG j u _ _ h h3⟩
  ·cases ho;have e1:a.eval (aB 1)=O (U ⟨b1,0,Z⟩):=seen.kp 1 _ (nd 1 (by omega)) rfl;exact Rg.dF rfl rfl (Rg.eP a.eval _ 28 (aB 1) 5 rfl (by rw [e1]; simp [go_sem])) (hK _ _ rfl (au _ _) fun _ _ _ _ _ _ _ h=>h)
  ·cases ho;have e20:a.eval (aB 20)=O (U ⟨b1,5,Z⟩):=seen.at_ ⟨6,.data⟩ (by simp) rfl (Or.inr (by decide));have y5:=(H1.out.on hb).cell 5;simp only [V,X,Y] at y5;exact Rg.dF rfl rfl (Rg.eu a.eval _ 26 (aB 20) rfl (by rw [e20]; simp [go_sem,y5])) (hK _ _ rfl (au _ _) fun _ _ _ _ _ _ _ h=>h)
  ·cases ho;have e21:a.eval (aB 21)=J o5 n5 c5:=seen.at_ ⟨7,.data⟩ (by simp) rfl (Or.inr (by decide));exact Rg.fO rfl rfl (Rw.gu a.eval _ (aB 21) 26 143 rfl e21 rfl _ (fI Tryz.func143 rfl rfl _ _)) (Ec (o5,n5,c5) ol x (R5.out.on hb) L5.out) fun e w1 h=>by
    obtain⟨⟨s,rfl,h1⟩,h3⟩:=h;exact⟨_,rfl,hK _ _ ⟨s,rfl,dK h1 hb.size⟩ (h3.mono hb.size) fun j u hj _ _ _ hne h=>jG j u _ _ h h3⟩
  ·cases ho;have e1:a.eval (aB 1)=O (U ⟨b1,0,Z⟩):=seen.kp 1 _ (nd 1 (by omega)) rfl;exact Rg.dF rfl rfl (Rg.eP a.eval _ 28 (aB 1) 2 rfl (by rw [e1]; simp [go_sem])) (hK _ _ rfl (au _ _) fun _ _ _ _ _ _ _ h=>h)
 ·intro kk o h1 h2 ho;rcases (by omega:kk=11\/kk=12\/kk=13\/kk=14) with rfl|rfl|rfl|rfl
  ·cases ho;exact⟨⟨10,.phase⟩,by simp,rfl,rfl⟩
  ·cases ho;exact⟨⟨11,.data⟩,by simp,rfl,rfl⟩
  ·cases ho;exact⟨⟨12,.phase⟩,by simp,rfl,rfl⟩
  ·cases ho;exact⟨⟨13,.data⟩,by simp,rfl,rfl⟩
 ·intro a w' df sz kp ⟨vs,hv⟩ hb;have sz':a.tmps.size=82:=sz;have g1:a.tmps[1]?=U (O (U ⟨b1,0,Z⟩)):=(kp 1 (nd 1 (by omega))).trans rfl;have g23:a.tmps[23]?=U (O (U ⟨b1,2,Z⟩)):=by
   have h:vs 9=O (U ⟨b1,2,Z⟩):=(hv 9 (by omega)).2 (by decide);rw [<- h];exact (hv 9 (by omega)).1
  obtain⟨⟨p2,q2,s2⟩,hs2,ho2⟩:=(hv 2 (by omega)).2 (by decide);have g16:a.tmps[16]?=U (J p2 q2 s2):=((hv 2 (by omega)).1).trans (congrArg U hs2);rw [hs2] at ho2;obtain⟨⟨p4,q4,s4⟩,hs4,ho4⟩:=(hv 5 (by omega)).2 (by decide);have g19:a.tmps[19]?=U (J p4 q4 s4):=((hv 5 (by omega)).1).trans (congrArg U hs4);rw [hs4] at ho4;obtain⟨⟨p5,q5,s5⟩,hs5,XT⟩:=(hv 8 (by omega)).2 (by decide);have g22:a.tmps[22]?=U (J p5 q5 s5):=((hv 8 (by omega)).1).trans (congrArg U hs5);rw [hs5] at XT;have hB:=H1.out.on hb;have hlt:=H1.out.lt;show Rg.fP _ _ _ 5 10 a w';simp only [Rg.fP];have c2x:=hB.cell 2;have f2x:=hB.fr 2;simp only [V,X,Y] at c2x;refine Rg.gB 23 (aB 23) (aB 16) rfl rfl rfl rfl (Rg.dH g23) (Rg.dH g16) (w':=(w').setCell ⟨b1,2,Z⟩ (J p2 q2 s2)) (by simp [go_sem,c2x,f2x]) ?_;have hB2:dI ((w').setCell ⟨b1,2,Z⟩ (J p2 q2 s2)) b1 #[ah aj me,z1,J p2 q2 s2,z3,J o4 n4 c4,J o5 n5 c5] 28:=by simpa using eD (k:=2) hB (J p2 q2 s2)
  refine Rg.dF rfl rfl (Rg.eP _ _ 28 (aB 1) 4 rfl (v:=O (U ⟨b1,4,Z⟩)) (by rw [Rg.dH g1]; simp [go_sem])) ?_;have aaX:((a).put (U 24) (O (U ⟨b1,4,Z⟩))).tmps[24]?=U (O (U ⟨b1,4,Z⟩)):=by simp [Act.put,sz']
  show Go.wpOp _ _ _ 12 _ ((a).put (U 24) (O (U ⟨b1,4,Z⟩))) _;have c4x:=hB2.cell 4;have f4x:=hB2.fr 4;simp only [V,X,Y] at c4x;refine Rg.gB 25 (aB 24) (aB 19) rfl rfl rfl rfl (Rg.dH aaX) (Rg.dH ((Rg.get_put _ 24 _ 19 (by decide)).trans g19)) (w':=((w').setCell ⟨b1,2,Z⟩ (J p2 q2 s2)).setCell ⟨b1,4,Z⟩ (J p4 q4 s4)) (by simp [go_sem,c4x,f4x]) ?_;have hB4:dI (((w').setCell ⟨b1,2,Z⟩ (J p2 q2 s2)).setCell ⟨b1,4,Z⟩ (J p4 q4 s4)) b1 #[ah aj me,z1,J p2 q2 s2,z3,J p4 q4 s4,J o5 n5 c5] 28:=by simpa using eD (k:=4) hB2 (J p4 q4 s4)
  refine Rg.dF rfl rfl (Rg.eP _ _ 28 (aB 1) 5 rfl (v:=O (U ⟨b1,5,Z⟩)) (by rw [Rg.dH ((Rg.get_put _ 24 _ 1 (by decide)).trans g1)]; simp [go_sem])) ?_;have aaY:(((a).put (U 24) (O (U ⟨b1,4,Z⟩))).put (U 25) (O (U ⟨b1,5,Z⟩))).tmps[25]?=U (O (U ⟨b1,5,Z⟩)):=by simp [Act.put,sz']
  show Go.wpOp _ _ _ 14 _ (((a).put (U 24) (O (U ⟨b1,4,Z⟩))).put (U 25) (O (U ⟨b1,5,Z⟩))) _;have XV:=hB4.cell 5;have f5x:=hB4.fr 5;simp only [V,X,Y] at XV;refine Rg.gB 26 (aB 25) (aB 22) rfl rfl rfl rfl (Rg.dH aaY) (Rg.dH ((Rg.get_put _ 25 _ 22 (by decide)).trans ((Rg.get_put _ 24 _ 22 (by decide)).trans g22))) (w':=(((w').setCell ⟨b1,2,Z⟩ (J p2 q2 s2)).setCell ⟨b1,4,Z⟩ (J p4 q4 s4)).setCell ⟨b1,5,Z⟩ (J p5 q5 s5)) (by simp [go_sem,XV,f5x]) ?_;have XW:dI ((((w').setCell ⟨b1,2,Z⟩ (J p2 q2 s2)).setCell ⟨b1,4,Z⟩ (J p4 q4 s4)).setCell ⟨b1,5,Z⟩ (J p5 q5 s5)) b1 #[ah aj me,z1,J p2 q2 s2,z3,J p4 q4 s4,J p5 q5 s5] 28:=by simpa using eD (k:=5) hB4 (J p5 q5 s5)
  have pQ:∀ j,(j<14\/26<=j)->(((a).put (U 24) (O (U ⟨b1,4,Z⟩))).put (U 25) (O (U ⟨b1,5,Z⟩))).tmps[j]?=(u0::O (U ⟨b1,0,Z⟩)::u2::u3::u4::u5::u6::u7::u8::u9::u10::u11::u12::u13::u14::u15::u16::u17::u18::u19::u20::u21::u22::u23::u24::u25::u26::u27::u28::u29::u30::u31::u32::u33::u34::u35::u36::u37::u38::u39::u40::u41::u42::u43::u44::u45::u46::u47::u48::u49::u50::u51::u52::u53::u54::u55::u56::u57::u58::u59::u60::u61::u62::u63::u64::u65::u66::u67::u68::u69::u70::u71::u72::u73::u74::u75::u76::u77::u78::u79::u80::u81::[])[j]?:=fun j hj=>(Rg.get_put _ 25 _ j (by omega)).trans ((Rg.get_put _ 24 _ j (by omega)).trans ((kp j (nd j (by omega))).trans V));obtain⟨mid,hmid,hfr⟩:=Rg.gF (a:=((a).put (U 24) (O (U ⟨b1,4,Z⟩))).put (U 25) (O (U ⟨b1,5,Z⟩))) 14 12 df (by simp [Rg.size_put,sz']) (by simp) pQ;show Q .normal (((a).put (U 24) (O (U ⟨b1,4,Z⟩))).put (U 25) (O (U ⟨b1,5,Z⟩))) _;rw [hfr]
  match mid,hmid with
  | [v14,v15,v16,v17,v18,v19,v20,v21,v22,v23,v24,v25],_ =>
   exact HQ.out _ _ _ _ _ _ _ _ _ _ _ _ _ p2 q2 s2 p4 q4 s4 p5 q5 s5 XW (eU (eU (eU ho2 b1 2 (J p2 q2 s2) hlt) b1 4 (J p4 q4 s4) hlt) b1 5 (J p5 q5 s5) hlt) (eU (eU (eU ho4 b1 2 (J p2 q2 s2) hlt) b1 4 (J p4 q4 s4) hlt) b1 5 (J p5 q5 s5) hlt) (eU (eU (eU XT b1 2 (J p2 q2 s2) hlt) b1 4 (J p4 q4 s4) hlt) b1 5 (J p5 q5 s5) hlt) (fun B hBl=>((((hb.mono (Nat.le_of_lt (Nat.lt_of_le_of_lt hBl hlt))).setCell (p:=⟨b1,2,Z⟩) hBl (J p2 q2 s2)).setCell (p:=⟨b1,4,Z⟩) hBl (J p4 q4 s4)).setCell (p:=⟨b1,5,Z⟩) hBl (J p5 q5 s5))) (fun k hk hne=>((ay (((w').setCell ⟨b1,2,Z⟩ (J p2 q2 s2)).setCell ⟨b1,4,Z⟩ (J p4 q4 s4)) ⟨b1,5,Z⟩ (J p5 q5 s5) k hne).trans ((ay ((w').setCell ⟨b1,2,Z⟩ (J p2 q2 s2)) ⟨b1,4,Z⟩ (J p4 q4 s4) k hne).trans ((ay (w') ⟨b1,2,Z⟩ (J p2 q2 s2) k hne).trans (hb.block k hk)))))
def fT (l:List Ad) (x:fB):Option Ad:=l.find? fun a=>decide (a.id=x)
theorem qB {l:List Ad} {x:fB} (h:∀ (j:Nat) (a:Ad),l[j]?=U a->a.id≠x):fT l x=Z:=by
 unfold fT;rw [List.find?_eq_none];intro a ha;obtain⟨j,hj⟩:=List.mem_iff_getElem?.1 ha;simpa using h j a hj
theorem oq:∀ {l:List Ad} {x:fB} {k:Nat} {a:Ad},l[k]?=U a->a.id=x->(∀ (j:Nat) (z:Ad),j<k->l[j]?=U z->z.id≠x)->fT l x=U a
 | [],_,_,_,h,_,_=>by simp at h
 | b::l,x,0,a,h,hx,_=>by
  obtain rfl:b=a:=by simpa using h
  simp [fT,hx]
 | b::l,x,k+1,a,h,hx,hall=>by
  have hb:=hall 0 b (by omega) rfl;have ih:=oq (l:=l) (x:=x) (k:=k) (a:=a) (by simpa using h) hx fun j z hj hz=>hall (j+1) z (by omega) (by simpa using hz);unfold fT at *;rw [List.find?_cons_of_neg (by simpa using hb)];exact ih
def XY (W:aM) (o:Option Ad) (w:aM) (e:Ending) (w':aM):Prop:=(match o with
 | none=>e=aF (.tuple #[lQ (0,0,(Z,0,0),0),bJ false])
 | some a=>∃ r:jk,e=aF (.tuple #[lQ r,bJ true])/\xK w' r a)/\Below W.heap.size w w'
theorem Bh (me:Int) (nv sv ev ov:aS) (av:Sl) (l:List jk) (al:List Ad) (x:fB) (w:aM) (hs:Ao w (dO av) l) (hA:eZ (xK w) l al) (hf:∀ a∈al,a.p.length<=900) :
  Calls aD 29 #[.agg #[ah aj me,nv,dO av,sv,ev,ov],nU x] w (XY w (fT al x) w):=by
 obtain⟨c,d⟩:=x;obtain⟨so,sn,sc⟩:=av;obtain⟨ao,ac,hv⟩:=hs.len;have hv:J so sn sc=J ao l.length ac:=hv;obtain⟨rfl,rfl,rfl⟩:so=ao/\sn=l.length/\sc=ac:=by simpa using hv
 obtain⟨h0,h1,h2⟩:=gT w #[ah aj me,nv,J so l.length sc,sv,ev,ov] #[ah aj c,ah aj d] 28 31;have h3:=gM ((w.alloc (aA #[ah aj me,nv,J so l.length sc,sv,ev,ov] 28)).alloc (aA #[ah aj c,ah aj d] 31)) (aA #[ah aj 0,ah aj 0,J Z 0 0,ah aj 0] 74);have h4:=dL ((w.alloc (aA #[ah aj me,nv,J so l.length sc,sv,ev,ov] 28)).alloc (aA #[ah aj c,ah aj d] 31)) #[ah aj 0,ah aj 0,J Z 0 0,ah aj 0] 74;have hsz:((w.alloc (aA #[ah aj me,nv,J so l.length sc,sv,ev,ov] 28)).alloc (aA #[ah aj c,ah aj d] 31)).heap.size=w.heap.size+1+1:=by simp
 rw [hsz] at h4;have B:=L (h0.trans (h3.mono h0.size));have HS:=L (hs.on B.out);have HA:=L (hA.mono fun _ _ h=>h.on B.out);have X2:=L (h1.on h3);have X3:=L (h2.on h3);have X4:=L h4;have HF:=L hf;have lm:=hs.most;unfold maxLen at lm;obtain⟨n,hn⟩:∃ n,n=l.length:=⟨_,rfl⟩;have q3:=X2.out.cell 2;simp only [V,X,Y] at q3;rw [<- hn] at HS X2 X3 X4 HA lm q3 B ⊢;have HN:=L hn.symm;obtain⟨fo,hfo⟩:∃ o,o=fT al (c,d):=⟨_,rfl⟩;rw [<- hfo];have FO:=L hfo;clear h0 h1 h2 h3 h4 hs hv hn hA hf hsz hfo;go_enter Tryz.func29,Tryz.ntmps29;go_upto_region 1 with fail;generalize ((w.alloc (aA #[ah aj me,nv,J so n sc,sv,ev,ov] 28)).alloc (aA #[ah aj c,ah aj d] 31)).alloc (aA #[ah aj 0,ah aj 0,J Z 0 0,ah aj 0] 74)=W at *;go_wp2
 go_loopw [11] (fun i wr=>∃ k:Nat,k<=n/\i=ah aj k/\Below W.heap.size W wr/\∀ (j:Nat) (y:jk),j<k->l[j]?=U y->(y.1,y.2.1)≠(c,d)) (fun i _=>n-(intOf i).toNat)
 case atStart=>exact⟨0,Nat.zero_le _,rfl,au _ _,fun j y h=>by omega⟩
 case round =>
  obtain⟨k,hk,rfl,hbe,hall⟩:=hrel;have BE:=L hbe;have AL:=L hall;clear hbe hall;by_cases hlt:k<n
  ·obtain⟨y,hy⟩:∃ y,l[k]?=U y:=⟨_,ak (by rw [HN.out]; exact hlt)⟩;obtain⟨p,ix,px⟩:=Qq HS.out rfl HN.out hy;obtain⟨p0,p1,p2,p3⟩:=px wr BE.out;obtain⟨y1,y2,⟨yo,yn,yc⟩,y4⟩:=y;simp only at p0 p1 p2 p3;have NB:=L (gM wr (aA #[ah aj y1,ah aj y2,J yo yn yc,ah aj y4] 74));obtain⟨x0,x1⟩:=((X3.out.on BE.out).on NB.out).cs2;have hw3:IntKind.i64.wrap ((k:Int)+1)=(k:Int)+1:=IntWalk.i64_in _ (by omega);obtain⟨r,hr⟩:∃ r,(y1 == c && y2 == d)=r:=⟨_,rfl⟩;have he:=qJ y1 y2 c d r hr;have HY:=L hy;have HR:=L hr;clear px hy hr;cases r
   ·go_wp2
    go_roundw
    case rel=>exact⟨k+1,by omega,by go_num,BE.out.trans (NB.out.mono BE.out.size),fun j y' hj h1=>by
     rcases Nat.lt_or_ge j k with h3|h3
     ·exact AL.out j y' h3 h1
     ·obtain rfl:j=k:=by omega
      have e1:=HY.out;rw [h1] at e1;rw [Option.some.inj e1];intro e;obtain⟨rfl,rfl⟩:y1=c/\y2=d:=by simpa using e
      have:=HR.out;simp at this⟩
    case measure=>simp [intOf]; omega
   ·obtain⟨a,ha⟩:∃ a,al[k]?=U a:=⟨_,ak (by rw [<- HA.out.len,HN.out]; exact hlt)⟩;obtain⟨z,hz1,hz2⟩:=HA.out.at k a ha;rw [HY.out] at hz1;obtain rfl:=Option.some.inj hz1;have BA:=L (BE.out.trans (NB.out.mono BE.out.size));have C:=L (vJ (y1,y2,(yo,yn,yc),y4) a.p _ (hz2.2.2.on BA.out) (HF.out a (aC ha)));have HZ:=L hz2;have h8:=HR.out;obtain⟨rfl,rfl⟩:y1=c/\y2=d:=by simpa using h8
    have FA:=L (show fo=U a by
     rw [FO.out];refine oq ha hz2.1.symm fun j z hj hzz=>?_;obtain⟨u,hu1,hu2⟩:=HA.out.at j z hzz;rw [<- hu2.1];exact AL.out j u hj hu1)
    have X4a:=(X4.out.on BE.out).on NB.out;clear hz1 hz2 ha h8;go_wp2_with fail;refine C.out.mono ?_;rintro e w1 ⟨⟨⟨u1,u2,u3⟩,rfl,ho⟩,hb⟩;have Y1:=X4a.on hb;have B1:=L (BA.out.trans (hb.mono BA.out.size));obtain⟨r0,r1,r2,r3⟩:=Y1.zZ;obtain⟨t0,t1,t2,t3⟩:=Y1.fs4;have zz:=Y1.lt;have hs2:w.heap.size+1+1<(wr.alloc (aA #[ah aj y1,ah aj y2,J yo yn yc,ah aj y4] 74)).heap.size:=X4a.lt;have FB:=L (vI Y1 (ah aj y1) (ah aj y2) (J u1 u2 u3) (ah aj y4));have BL:=L (qz (b:=w.heap.size+1+1) (B.out.trans (B1.out.mono B.out.size)) (by omega) (ah aj y1) (ah aj y2) (J u1 u2 u3) (ah aj y4));have FW:=L (AU ho (w.heap.size+1+1) hs2 (ah aj y1) (ah aj y2) (J u1 u2 u3) (ah aj y4));clear Y1 ho hb hs2 X4a;go_wp2_with fail;obtain⟨v0,v1,v2,v3⟩:=FB.out.zZ;refine bodyPost_ret (v:=.tuple #[.agg #[ah aj y1,ah aj y2,J u1 u2 u3,ah aj y4],bJ true]) (by simp [results,bG,go_sem,v0,v1,v2,v3]) rfl ?_;rw [FA.out];exact⟨⟨(y1,y2,(u1,u2,u3),y4),rfl,HZ.out.1,HZ.out.2.1,Row.dG FW.out⟩,BL.out⟩
  ·obtain rfl:k=n:=by omega
   have FA:=L (show fo=Z by
    rw [FO.out];refine qB fun j z hzz=>?_;obtain⟨u,hu1,hu2⟩:=HA.out.at j z hzz;rw [<- hu2.1];exact AL.out j u (by rw [<- HN.out]; exact (aG.1 hu1).1) hu1)
   have Y1:=X4.out.on BE.out;obtain⟨r0,r1,r2,r3⟩:=Y1.zZ;obtain⟨t0,t1,t2,t3⟩:=Y1.fs4;have zz:=Y1.lt;have FB:=L (vI Y1 (ah aj 0) (ah aj 0) (J Z 0 0) (ah aj 0));have BL:=L (qz (b:=w.heap.size+1+1) (B.out.trans (BE.out.mono B.out.size)) (by omega) (ah aj 0) (ah aj 0) (J Z 0 0) (ah aj 0));clear Y1;go_wp2_with fail;obtain⟨v0,v1,v2,v3⟩:=FB.out.zZ;refine bodyPost_ret (v:=.tuple #[.agg #[ah aj 0,ah aj 0,J Z 0 0,ah aj 0],bJ false]) (by simp [results,bG,go_sem,v0,v1,v2,v3]) rfl ?_;rw [FA.out];exact⟨rfl,BL.out⟩
end Go.Proofs.YtmklifheakemeaaGreat.Av
namespace Go.Proofs
open Go.Shelf
def Tryz.sortI_ren:Go.Shelf.Ren:=⟨fun | 189=>33 | 125=>90 | 257=>89 | 128=>138 | 129=>139 | 294=>129 | 295=>130 | 296=>131 | 297=>132 | 298=>133 | 299=>134 | 216=>135 | 300=>136 | 301=>137 | 328=>161 | 329=>162 | 330=>163 | 331=>164 | 332=>165 | 215=>111 | 343=>182 | n=>n,fun | 28=>22 | 3=>3 | 46=>139 | 0=>0 | 51=>183 | 53=>185 | 4=>4 | 183=>176 | 182=>175 | 131=>126 | 5=>5 | 9=>9 | 218=>209 | 222=>213 | 228=>229 | 229=>230 | n=>n,fun | n=>n⟩
theorem Tryz.sortI:Go.Proofs.Lays.n189 aD Tryz.sortI_ren:={
 mixed:=by kernel_rfl
 f125:=Tryz.func90.trans (congrArg U (by kernel_rfl))
 f128:=Tryz.func138.trans (congrArg U (by kernel_rfl))
 f129:=Tryz.func139.trans (congrArg U (by kernel_rfl))
 f189:=Tryz.func33.trans (congrArg U (by kernel_rfl))
 f215:=Tryz.func111.trans (congrArg U (by kernel_rfl))
 f216:=Tryz.func135.trans (congrArg U (by kernel_rfl))
 f257:=Tryz.func89.trans (congrArg U (by kernel_rfl))
 f294:=Tryz.func129.trans (congrArg U (by kernel_rfl))
 f295:=Tryz.func130.trans (congrArg U (by kernel_rfl))
 f296:=Tryz.func131.trans (congrArg U (by kernel_rfl))
 f297:=Tryz.func132.trans (congrArg U (by kernel_rfl))
 f298:=Tryz.func133.trans (congrArg U (by kernel_rfl))
 f299:=Tryz.func134.trans (congrArg U (by kernel_rfl))
 f300:=Tryz.func136.trans (congrArg U (by kernel_rfl))
 f301:=Tryz.func137.trans (congrArg U (by kernel_rfl))
 f328:=Tryz.func161.trans (congrArg U (by kernel_rfl))
 f329:=Tryz.func162.trans (congrArg U (by kernel_rfl))
 f330:=Tryz.func163.trans (congrArg U (by kernel_rfl))
 f331:=Tryz.func164.trans (congrArg U (by kernel_rfl))
 f332:=Tryz.func165.trans (congrArg U (by kernel_rfl))
 f343:=Tryz.func182.trans (congrArg U (by kernel_rfl))
 t0:=aI
 a0:=aZ
 z0:=aT
 v0:=aN
 t3:=aJ
 a3:=bf
 z3:=aU
 v3:=aO
 t4:=aK
 a4:=bg
 z4:=aV
 v4:=aP
 t5:=Tryz.underlying5
 a5:=Tryz.isAgg5
 z5:=Tryz.sizeOf5
 v5:=Tryz.zeroValue5
 t9:=Tryz.underlying9
 a9:=Tryz.isAgg9
 z9:=Tryz.sizeOf9
 v9:=Tryz.zeroValue9
 t28:=aH
 a28:=aW
 z28:=aQ
 v28:=aL
 t46:=aR
 a46:=bI
 z46:=bH
 v46:=aX
 t51:=Tryz.underlying183
 a51:=Tryz.isAgg183
 z51:=Tryz.sizeOf183
 v51:=Tryz.zeroValue183
 t53:=Tryz.underlying185
 a53:=Tryz.isAgg185
 z53:=Tryz.sizeOf185
 v53:=Tryz.zeroValue185
 t131:=Tryz.underlying126
 a131:=Tryz.isAgg126
 z131:=Tryz.sizeOf126
 v131:=Tryz.zeroValue126
 t182:=Tryz.underlying175
 a182:=Tryz.isAgg175
 z182:=Tryz.sizeOf175
 v182:=Tryz.zeroValue175
 t183:=Tryz.underlying176
 a183:=Tryz.isAgg176
 z183:=Tryz.sizeOf176
 v183:=Tryz.zeroValue176
 t218:=Tryz.underlying209
 a218:=Tryz.isAgg209
 z218:=Tryz.sizeOf209
 v218:=Tryz.zeroValue209
 t222:=Tryz.underlying213
 a222:=Tryz.isAgg213
 z222:=Tryz.sizeOf213
 v222:=Tryz.zeroValue213
 t228:=Tryz.underlying229
 a228:=Tryz.isAgg229
 z228:=Tryz.sizeOf229
 v228:=Tryz.zeroValue229
 t229:=Tryz.underlying230
 a229:=Tryz.isAgg230
 z229:=Tryz.sizeOf230
 v229:=Tryz.zeroValue230 }
def Tryz.cptI_ren:Go.Shelf.Ren:=⟨fun | 20=>34 | n=>n,fun | 0=>0 | 3=>3 | 4=>4 | 22=>22 | n=>n,fun | n=>n⟩
theorem Tryz.cptI:Go.Proofs.Lays2.n20 aD Tryz.cptI_ren:={
 mixed:=by kernel_rfl
 i3:=by kernel_rfl
 f20:=Tryz.func34.trans (congrArg U (by kernel_rfl))
 t0:=aI
 a0:=aZ
 z0:=aT
 v0:=aN
 t3:=aJ
 a3:=bf
 z3:=aU
 v3:=aO
 t4:=aK
 a4:=bg
 z4:=aV
 v4:=aP
 t22:=aH
 a22:=aW
 z22:=aQ
 v22:=aL }
def Tryz.bsI_ren:Go.Shelf.Ren:=⟨fun | 25=>154 | 31=>135 | 32=>175 | 37=>111 | n=>n,fun | 0=>0 | 3=>3 | 4=>4 | 22=>22 | 40=>139 | n=>n,fun | n=>n⟩
theorem Tryz.bsI:Go.Proofs.Lays2.n25 aD Tryz.bsI_ren:={
 mixed:=by kernel_rfl
 f25:=Tryz.func154.trans (congrArg U (by kernel_rfl))
 f31:=Tryz.func135.trans (congrArg U (by kernel_rfl))
 f32:=Tryz.func175.trans (congrArg U (by kernel_rfl))
 f37:=Tryz.func111.trans (congrArg U (by kernel_rfl))
 t0:=aI
 a0:=aZ
 z0:=aT
 v0:=aN
 t3:=aJ
 a3:=bf
 z3:=aU
 v3:=aO
 t4:=aK
 a4:=bg
 z4:=aV
 v4:=aP
 t22:=aH
 a22:=aW
 z22:=aQ
 v22:=aL
 t40:=aR
 a40:=bI
 z40:=bH
 v40:=aX }
end Go.Proofs
namespace Go.Proofs.YtmklifheakemeaaGreat.Bk
open Go.RowKit Go.Sort Rw YtmklifheakemeaaGreat.Nm
end Go.Proofs.YtmklifheakemeaaGreat.Bk
namespace Go.Proofs.YtmklifheakemeaaGreat.Rg
open Go.RowKit Rw
end Go.Proofs.YtmklifheakemeaaGreat.Rg
namespace Go.Proofs.YtmklifheakemeaaGreat.Pr
open Go.RowKit Go.Sort Pu Rw Va
def QW:ByteArray:=⟨#[112,114,101,100]⟩
def Gv (w:aM) (l:List Cn) (e:Ending) (w':aM):Prop:=Below w.heap.size w w'/\(match uV l with
 | .ok m=>∃ pv,e=aF (.tuple #[pv,.nilIface])/\eY w' pv (m.map r5)
 | .error _=>∃ b,e=aF (.tuple #[J Z 0 0,.iface 223 (O (U ⟨b,0,Z⟩))]))
theorem QY (op:ByteArray) (at_:Int) (tx:Nat) (x:aS) (w:aM) :
  Calls aD 157 #[.string op,ah aj at_,.iface tx x] w fun e w'=>e=aF (.iface 223 (O (U ⟨w.heap.size,0,Z⟩)))/\w'=w.alloc (aA #[.string op,ah aj at_,.iface tx x] 225):=by
 go_enter Tryz.func157,Tryz.ntmps157;go_wp2;go_ret;exact⟨rfl,rfl⟩
theorem Ew (at_:Nat) (m r:List Cn) (c:Cn):iW at_ m (c::r)=match kR m c with
  | .ok m'=>iW (at_+1) m' r
  | .error k=>.error (k,at_):=by
 simp only [iW,kR];cases lg m c with
 | none=>rfl
 | some m'=>simp only; split <;> rfl
theorem JD {m:List Cn} {c:Cn} {m':List Cn} (h:iP m) (hs:kR m c=.ok m'):iP m'/\m'.length<=5:=by
 unfold kR at hs;cases hi:lg m c with
 | none=>rw [hi] at hs; cases hs
 | some n =>
  rw [hi] at hs;simp only at hs
  split at hs
  ·cases hs
  ·rename_i h5
   injection hs with hs
   subst hs;exact⟨(jq m c n h hi).1,by omega⟩
theorem LU (lv:aS) (l:List Cn) (w:aM) (hl:eY w lv (l.map r5)) (hs:Ls l) (hgd:∀ c∈l,pY c=true):Calls aD 121 #[lv] w (Gv w l):=by
 have HL:=L hl;have LN:=L (show (l.map r5).length=l.length from bq ..);have h100:=hs.1;have SM:=L hs.2;have GD:=L hgd;obtain⟨ao,ac,rfl⟩:=hl.len;rw [bq] at HL ⊢;obtain⟨n,hn⟩:∃ n,n=l.length:=⟨_,rfl⟩;rw [<- hn] at HL h100 ⊢;have HN:=L hn;obtain⟨res,hres⟩:∃ r,r=uV l:=⟨_,rfl⟩;have MQ:=L (show ∀ e w',(Below w.heap.size w w'/\(match res with
 | .ok m=>∃ pv,e=aF (.tuple #[pv,.nilIface])/\eY w' pv (m.map r5)
 | .error _=>∃ b,e=aF (.tuple #[J Z 0 0,.iface 223 (O (U ⟨b,0,Z⟩))])))->Gv w l e w' from fun e w' h=>by unfold Gv; rw [<- hres]; exact h)
 have HR:=L hres;clear hl hs hgd hn hres;generalize hq:Gv w l=q at *;clear hq;go_enter Tryz.func121,Tryz.ntmps121;go_wp2
 go_loopw [13] (fun i wr=>∃ k:Nat,k<=n/\i=ah aj k/\Below w.heap.size w wr) (fun i _=>n-(intOf i).toNat)
 case atStart=>exact⟨0,Nat.zero_le _,rfl,au _ _⟩
 case round =>
  obtain⟨k,hk,rfl,hb⟩:=hrel;have HB:=L hb;clear hb;by_cases hlt:k<n
  ·obtain⟨⟨xn,xk⟩,hx⟩:∃ x,l[k]?=U x:=⟨_,ak (by have:=HN.out; omega)⟩;obtain⟨p,ix,px⟩:=Qi (x:=r5 (xn,xk)) HL.out rfl (LN.out.trans HN.out.symm) (by rw [aY,hx]; rfl);obtain⟨p0,p1,p2,p3,p4⟩:=px _ HB.out;have C:=L (QG (xn,xk) (wr.alloc (aA (cells5 (r5 (xn,xk))).toArray 70)) (by have:=(SM.out _ (aC hx)).1; unfold maxLen; omega));rw [GD.out _ (aC hx)] at C;have B4:=L (HB.out.alloc HB.out.size (aA (cells5 (r5 (xn,xk))).toArray 70));simp only [r5] at p0 p1 p2 p3 p4 C;clear hx px;go_wp2_with fail;refine C.out.mono ?_;rintro e5 w5 ⟨rfl,hb5⟩;have B5:=L (B4.out.trans (hb5.mono B4.out.size));clear hb5 C B4 ix p0 p1 p2 p3 p4;go_wp2
   go_roundw
   case rel=>exact⟨k+1,by omega,by go_num,B5.out⟩
   case measure=>simp [intOf]; omega
  ·obtain rfl:k=n:=by omega
   go_wp2
   go_loopw [6,27] (fun mv i wr=>∃ (j:Nat) (m:List Cn),j<=k/\i=ah aj j/\gG wr w.heap.size mv (m.map r5)/\iP m/\m.length<=5/\res=iW j m (l.drop j)/\Below w.heap.size w wr) (fun _ i _=>k-(intOf i).toNat)
   case atStart=>exact⟨0,[],Nat.zero_le _,rfl,jg _ _,List.Pairwise.nil,by simp,by rw [HR.out]; rfl,HB.out⟩
   case round =>
    obtain⟨j,m,hj,rfl,hown,hrise,hm5,Bj,hb⟩:=hrel;have BW:=L hb;have OW:=L hown;have RM:=L hrise;have FO:=L Bj;clear hb hown hrise Bj;by_cases hjl:j<k
    ·obtain⟨⟨xn,xk⟩,hx⟩:∃ x,l[j]?=U x:=⟨_,ak (by have:=HN.out; omega)⟩;obtain⟨p,ix,px⟩:=Qi (x:=r5 (xn,xk)) HL.out rfl (LN.out.trans HN.out.symm) (by rw [aY,hx]; rfl);obtain⟨p0,p1,p2,p3,p4⟩:=px _ BW.out;have B4:=L (BW.out.alloc BW.out.size (aA (cells5 (r5 (xn,xk))).toArray 70));have C:=L (vQ w.heap.size _ m (xn,xk) (wr.alloc (aA (cells5 (r5 (xn,xk))).toArray 70)) (dJ OW.out ((au _ _).alloc (Nat.le_refl _) _)) RM.out hm5 B4.out.size);have DR:l.drop j=(xn,xk)::l.drop (j+1):=by
      have h:=List.drop_eq_getElem_cons (l:=l) (i:=j) (by have:=HN.out; omega);rw [h]
      congr 1
      exact (aG.1 hx).2
     have F2:=FO.out;rw [DR,Ew] at F2;have F3:=L F2;simp only [r5] at p0 p1 p2 p3 p4 C;clear hx px F2 DR FO;cases hst:kR m (xn,xk) with
     | ok m' =>
      have RR:=L (JD RM.out hst);have F4:=L (show res=iW (j+1) m' (l.drop (j+1)) by rw [F3.out,hst]);rw [hst] at C;clear hst F3;go_wp2_with fail;refine C.out.mono ?_;rintro e5 w5 ⟨hb5,v',rfl,XT⟩;have B5:=L (B4.out.trans hb5);have O5:=L XT;clear hb5 XT C B4 ix p0 p1 p2 p3 p4 OW BW RM;go_wp2
      go_roundw
      case rel=>exact⟨j+1,m',by omega,by go_num,O5.out,RR.out.1,RR.out.2,F4.out,B5.out⟩
      case measure=>simp [intOf]; omega
     | error er =>
      have F4:=L (show res=.error (er,j) by rw [F3.out,hst]);rw [hst] at C;clear hst F3;go_wp2_with fail;refine C.out.mono ?_;rintro e5 w5 ⟨hb5,rfl⟩;have B5:=L (B4.out.trans hb5);clear hb5 C B4 ix p0 p1 p2 p3 p4 OW BW RM;go_wp2_with fail;refine (QY QW j 205 (ah aj er) w5).mono ?_;rintro e6 w6 ⟨rfl,rfl⟩;go_wp2;refine MQ.out _ _ ⟨B5.out.alloc B5.out.size _,?_⟩;rw [F4.out];exact⟨w5.heap.size,rfl⟩
    ·obtain rfl:j=k:=by omega
     have F2:=L (show res=.ok m by rw [FO.out,List.drop_of_length_le (by have:=HN.out; omega)]; rfl);go_wp2;refine MQ.out _ _ ⟨BW.out,?_⟩;rw [F2.out];exact⟨_,rfl,Row.dG OW.out⟩
end Go.Proofs.YtmklifheakemeaaGreat.Pr
