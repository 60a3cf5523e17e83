/-
  copyMessage and Sub . Conditions as told.
-/
import Derived.Test.YtmklifheakemeaaGreatBQ029
import Derived.Test.YtmklifheakemeaaGreatBQ030
set_option maxRecDepth 100000
set_option maxHeartbeats 64000000
open _root_.Bool renaming false->aC,true->aW
open _root_.Go renaming World->aD,Value->aJ,Calls->aR,Addr->aY
open Go.Ending renaming returned->aF
open Go.IntKind renaming i64->U
open Go.Lib renaming hid->L
open Go.Obj renaming cells->aH
open Go.Operand renaming tmp->aG
open Go.Proofs.Tryz renaming prog->aB,results94->aI,func126->aZ,func123->bf
open Go.RowKit.Below renaming refl->ay
open Go.Value renaming slice->J,int->O,pointer->ak,bool->au,agg->aO
open _root_.List renaming getElem?_cons_zero->V,getElem?_cons_succ->Z,getElem?_toArray->ah,length_map->aM,getElem?_eq_getElem->aN,mem_of_getElem?->aQ,getElem?_map->aT,append_assoc->aV,mem_append->aX
open _root_.Nat renaming le_refl->aL,lt_of_le_of_lt->aS,le_trans->aU,le_of_lt->bg,lt_or_ge->bF
open _root_.Option renaming none->aj,some->aA
open Option.some renaming inj->aP
open _root_.Or renaming inr->aK
namespace Go.Proofs.YtmklifheakemeaaGreat
namespace Fl
open Go.RowKit Go.Sort Rw YtmklifheakemeaaGreat.Nm Pr Bk Av
theorem acB (a:Option aY) (n c:Nat) (w:aD):(binOp .eql 39 (J a n c) (J aj 0 0)).run aB w=.ok (au a.isNone) w:=by
 simp [go_sem,binOp,run_equal_slice_nil (P:=aB) w 39 156 a n c Tryz.underlying39]
theorem K8 (w:aD):aR aB 126 #[J aj 0 0] w fun e w'=>e=aF (J aj 0 0)/\Below w.heap.size w w':=by
 have q:∀ w',(binOp .eql 39 (J aj 0 0) (J aj 0 0)).run aB w'=.ok (au aW) w':=fun w'=>acB aj 0 0 w';go_enter aZ,Tryz.ntmps126;go_wp2;go_ret;exact⟨rfl,ay _ _⟩
theorem YH {W:aD} {b:Nat} {z0 z1 z2 z3 z4 z5 z6:aJ} (h:dJ W b #[z0,z1,z2,z3,z4,z5,z6] 41) (a0 a1 a2 a3 a4:Int) (o5:Option aY) (n5 c5:Nat) (o6:Option aY) (n6 c6:Nat) :
  (Instr.storeAt 41 (ak (aA ⟨b,0,aj⟩)) (aO #[O U a0,O U a1,O U a2,O U a3,O U a4,J o5 n5 c5,J o6 n6 c6])).run aB W=.ok () (Hl W b (O U a0) (O U a1) (O U a2) (O U a3) (O U a4) (J o5 n5 c5) (J o6 n6 c6)):=by
 obtain⟨x0,x1,x2,x3,x4,x5,x6⟩:=h.oJ;obtain⟨f0,f1,f2,f3,f4,f5,f6⟩:=h.fs7;simp [go_sem,x0,x1,x2,x3,x4,x5,x6,f0,f1,f2,f3,f4,f5,f6]
theorem Iu (w:aD) (b:Nat) (a0 a1 a2 a3 a4 a5 a6:aJ):But b w (Hl w b a0 a1 a2 a3 a4 a5 a6) :=
 (((dP _ b _ _).trans (dP _ b _ _)).trans ((dP _ b _ _).trans (dP _ b _ _))).trans (((dP _ b _ _).trans (dP _ b _ _)).trans (dP _ b _ _))
theorem yB {w W:aD} {B b:Nat} (h:Below B w W) (hb:B<=b) (a0 a1 a2 a3 a4 a5 a6:aJ):Below B w (Hl W b a0 a1 a2 a3 a4 a5 a6) :=
 ((((((h.setCell (p:=⟨b,0,aj⟩) hb a0).setCell (p:=⟨b,1,aj⟩) hb a1).setCell (p:=⟨b,2,aj⟩) hb a2).setCell (p:=⟨b,3,aj⟩) hb a3).setCell (p:=⟨b,4,aj⟩) hb a4).setCell (p:=⟨b,5,aj⟩) hb a5).setCell (p:=⟨b,6,aj⟩) hb a6
def YI (B:Nat) (b1:Nat) (_k _tc _ts _ic _is_:Int) (po:Option aY) (pn pc:Nat) (p:List C5) (i:Nat) (v:aJ) (x:aD):Prop :=
 match i with
 | 0=>v=ak (aA ⟨b1,5,aj⟩)
 | 1=>v=J po pn pc
 | 2=>∃ s:Sl,v=dX s/\gP x B v p
 | 3=>v=ak (aA ⟨b1,6,aj⟩)
 | 4=>v=J aj 0 0
 | 5=>v=J aj 0 0
 | 6=>v=ak (aA ⟨b1,5,aj⟩)
 | _=>True
noncomputable def ae1:Code:=((Tryz.f78.body.bind (eT 1)).getD .skip)
theorem YJ (B:Nat) (b1:Nat) (k tc ts ic sj:Int) (po:Option aY) (pn pc:Nat) (p:List C5) (i:Nat) (v:aJ) (x x':aD) (h:YI B b1 k tc ts ic sj po pn pc p i v x) (hb:Below x.heap.size x x'):YI B b1 k tc ts ic sj po pn pc p i v x':=by
 by_cases hi:i<7
 ·rcases (by omega:i=0\/i=1\/i=2\/i=3\/i=4\/i=5\/i=6) with rfl|rfl|rfl|rfl|rfl|rfl|rfl
  ·exact h
  ·exact h
  ·obtain⟨s,h1,h2⟩:=h; exact⟨s,h1,Bk.dI h2 hb⟩
  ·exact h
  ·exact h
  ·exact h
  ·exact h
 ·unfold YI
  split <;> first | omega | trivial
theorem cm1 (Q:Exit->Act->aD->Prop) (W:aD) (b1:Nat) (k tc ts ic sj:Int) (po:Option aY) (pn pc:Nat) (p:List C5) (u0 u2 u3 u4 u5 u6 u7 u8 u9 u10 u11:aJ)
  (h1:dJ W b1 #[O U k,O U tc,O U ts,O U ic,O U sj,J po pn pc,J aj 0 0] 41) (r5:fH W (J po pn pc) p) (l5:p.length<=900)
  (hQ:∀ (x:aD) (v3 v4 v5 v6 v7 v8 v9 v10:aJ) (q1:Option aY) (q2 q3:Nat),dJ x b1 #[O U k,O U tc,O U ts,O U ic,O U sj,J q1 q2 q3,J aj 0 0] 41->gP x W.heap.size (J q1 q2 q3) p->(∀ B,B<=b1->Below B W x)->But b1 W x->Q .normal ⟨(u0::ak (aA ⟨b1,0,aj⟩)::u2::v3::v4::v5::v6::v7::v8::v9::v10::u11::[]).toArray,[]⟩ x) :
  Code.wp aB ae1 Q ⟨(u0::ak (aA ⟨b1,0,aj⟩)::u2::u3::u4::u5::u6::u7::u8::u9::u10::u11::[]).toArray,[]⟩ W:=by
 have HQ:=L hQ;have H1:=L h1;have R5:=L r5;have L5:=L l5;clear hQ h1 r5 l5;have iT:=YJ W.heap.size b1 k tc ts ic sj po pn pc p;unfold ae1
 conv=>arg 2; whnf
 have nd:∀ j,(j<3\/10<=j)->∀ i,i<7->(fun i=>3+i) i≠j:=by
  intro j hj i hi h;simp only at h;omega
 refine Rg.fT 10 7 (fun i=>3+i) (fun _=>7) (YI W.heap.size b1 k tc ts ic sj po pn pc p) (by kernel_rfl) (by kernel_rfl) rfl (by decide) (fun i j _ _ h=>by have h2:3+i=3+j:=h; omega) (fun i hi=>by show 3+i<12; omega) ?_ (fun _=>Rg.jk 14 (by kernel_rfl)) ?_ ?_
 ·intro i o hi ho a x D hnd hc hD hb seen K hK;clear HQ;rcases (by omega:i=0\/i=1\/i=2\/i=3\/i=4\/i=5\/i=6) with rfl|rfl|rfl|rfl|rfl|rfl|rfl
  ·cases ho;have e1:a.eval (aG 1)=ak (aA ⟨b1,0,aj⟩):=seen.kp 1 _ (nd 1 (by omega)) rfl;exact Rg.dD rfl rfl (Rg.dU a.eval _ 41 (aG 1) 3 rfl (by rw [e1]; simp [go_sem])) (hK _ _ rfl (ay _ _) fun _ _ _ _ _ _ _ h=>h)
  ·cases ho;have e3:a.eval (aG 3)=ak (aA ⟨b1,5,aj⟩):=seen.at_ ⟨0,.data⟩ (by simp) rfl (aK (by decide));have y5:=(H1.out.on hb).cell 5;simp only [ah,V,Z] at y5;exact Rg.dD rfl rfl (Rg.dW a.eval _ 32 (aG 3) rfl (by rw [e3]; simp [go_sem,y5])) (hK _ _ rfl (ay _ _) fun _ _ _ _ _ _ _ h=>h)
  ·cases ho;have e4:a.eval (aG 4)=J po pn pc:=seen.at_ ⟨1,.data⟩ (by simp) rfl (aK (by decide));exact Rg.gT rfl rfl (Rw.iD a.eval _ (aG 4) 32 123 rfl e4 rfl _ (gD bf rfl rfl _ _)) (mI (po,pn,pc) p x (R5.out.on hb) L5.out) fun e w1 h=>by
    obtain⟨⟨s,rfl,h1⟩,h3⟩:=h;exact⟨_,rfl,hK _ _ ⟨s,rfl,dN h1 hb.size⟩ (h3.mono hb.size) fun j u hj _ _ _ hne h=>iT j u _ _ h h3⟩
  ·cases ho;have e1:a.eval (aG 1)=ak (aA ⟨b1,0,aj⟩):=seen.kp 1 _ (nd 1 (by omega)) rfl;exact Rg.dD rfl rfl (Rg.dU a.eval _ 41 (aG 1) 4 rfl (by rw [e1]; simp [go_sem])) (hK _ _ rfl (ay _ _) fun _ _ _ _ _ _ _ h=>h)
  ·cases ho;have e6:a.eval (aG 6)=ak (aA ⟨b1,6,aj⟩):=seen.at_ ⟨3,.data⟩ (by simp) rfl (aK (by decide));have y6:=(H1.out.on hb).cell 6;simp only [ah,V,Z] at y6;exact Rg.dD rfl rfl (Rg.dW a.eval _ 39 (aG 6) rfl (by rw [e6]; simp [go_sem,y6])) (hK _ _ rfl (ay _ _) fun _ _ _ _ _ _ _ h=>h)
  ·cases ho;have e7:a.eval (aG 7)=J aj 0 0:=seen.at_ ⟨4,.data⟩ (by simp) rfl (aK (by decide));exact Rg.gT rfl rfl (Rw.iD a.eval _ (aG 7) 39 126 rfl e7 rfl _ (gD aZ rfl rfl _ _)) (K8 x) fun e w1 h=>by
    obtain⟨rfl,h3⟩:=h;exact⟨_,rfl,hK _ _ rfl (h3.mono hb.size) fun j u hj _ _ _ hne h=>iT j u _ _ h h3⟩
  ·cases ho;have e1:a.eval (aG 1)=ak (aA ⟨b1,0,aj⟩):=seen.kp 1 _ (nd 1 (by omega)) rfl;exact Rg.dD rfl rfl (Rg.dU a.eval _ 41 (aG 1) 3 rfl (by rw [e1]; simp [go_sem])) (hK _ _ rfl (ay _ _) fun _ _ _ _ _ _ _ h=>h)
 ·intro kk o h1 h2 ho;rcases (by omega:kk=8\/kk=9) with rfl|rfl
  ·cases ho;exact⟨⟨7,.phase⟩,by simp,rfl,rfl⟩
  ·cases ho;exact⟨⟨8,.data⟩,by simp,rfl,rfl⟩
 ·intro a w' df sz kp ⟨vs,hv⟩ hb;have sz':a.tmps.size=12:=sz;have g1:a.tmps[1]?=aA (ak (aA ⟨b1,0,aj⟩)):=(kp 1 (nd 1 (by omega))).trans rfl;have g8:a.tmps[8]?=aA (J aj 0 0):=by
   have h:vs 5=J aj 0 0:=(hv 5 (by omega)).2 (by decide);rw [<- h];exact (hv 5 (by omega)).1
  have g9:a.tmps[9]?=aA (ak (aA ⟨b1,5,aj⟩)):=by
   have h:vs 6=ak (aA ⟨b1,5,aj⟩):=(hv 6 (by omega)).2 (by decide);rw [<- h];exact (hv 6 (by omega)).1
  obtain⟨⟨q1,q2,q3⟩,hs,ho⟩:=(hv 2 (by omega)).2 (by decide);have g5:a.tmps[5]?=aA (J q1 q2 q3):=((hv 2 (by omega)).1).trans (congrArg aA hs);rw [hs] at ho;have hB:=H1.out.on hb;have hlt:=H1.out.lt;show Rg.fG _ _ _ 3 7 a w';simp only [Rg.fG];have c5x:=hB.cell 5;have f5x:=hB.fr 5;simp only [ah,V,Z] at c5x;refine Rg.fQ 32 (aG 9) (aG 5) rfl rfl rfl rfl (Rg.dM g9) (Rg.dM g5) (w':=(w').setCell ⟨b1,5,aj⟩ (J q1 q2 q3)) (by simp [go_sem,c5x,f5x]) ?_;have hB5:dJ ((w').setCell ⟨b1,5,aj⟩ (J q1 q2 q3)) b1 #[O U k,O U tc,O U ts,O U ic,O U sj,J q1 q2 q3,J aj 0 0] 41:=by simpa using dR (k:=5) hB (J q1 q2 q3)
  refine Rg.dD rfl rfl (Rg.dU _ _ 41 (aG 1) 4 rfl (v:=ak (aA ⟨b1,6,aj⟩)) (by rw [Rg.dM g1]; simp [go_sem])) ?_;have ahD:(a.put (aA 10) (ak (aA ⟨b1,6,aj⟩))).tmps[10]?=aA (ak (aA ⟨b1,6,aj⟩)):=by simp [Act.put,sz']
  show Go.wpOp _ _ _ 9 _ (a.put (aA 10) (ak (aA ⟨b1,6,aj⟩))) _;have c6x:=hB5.cell 6;have f6x:=hB5.fr 6;simp only [ah,V,Z] at c6x;refine Rg.fQ 39 (aG 10) (aG 8) rfl rfl rfl rfl (Rg.dM ahD) (Rg.dM ((Rg.get_put _ 10 _ 8 (by decide)).trans g8)) (w':=((w').setCell ⟨b1,5,aj⟩ (J q1 q2 q3)).setCell ⟨b1,6,aj⟩ (J aj 0 0)) (by simp [go_sem,c6x,f6x]) ?_;have hB6:dJ (((w').setCell ⟨b1,5,aj⟩ (J q1 q2 q3)).setCell ⟨b1,6,aj⟩ (J aj 0 0)) b1 #[O U k,O U tc,O U ts,O U ic,O U sj,J q1 q2 q3,J aj 0 0] 41:=by simpa using dR (k:=6) hB5 (J aj 0 0)
  have rA:∀ j,(j<3\/11<=j)->((a.put (aA 10) (ak (aA ⟨b1,6,aj⟩)))).tmps[j]?=(u0::ak (aA ⟨b1,0,aj⟩)::u2::u3::u4::u5::u6::u7::u8::u9::u10::u11::[])[j]?:=fun j hj=>(Rg.get_put _ 10 _ j (by omega)).trans ((kp j (nd j (by omega))).trans ah);obtain⟨mid,hmid,hfr⟩:=Rg.gG (a:=(a.put (aA 10) (ak (aA ⟨b1,6,aj⟩)))) 3 8 df (by simp [Rg.size_put,sz']) (by simp) rA;show Q .normal ((a.put (aA 10) (ak (aA ⟨b1,6,aj⟩)))) _;rw [hfr]
  match mid,hmid with
  | [v3,v4,v5,v6,v7,v8,v9,v10],_ =>
   exact HQ.out _ _ _ _ _ _ _ _ _ q1 q2 q3 hB6 (eO (eO ho b1 5 (J q1 q2 q3) hlt) b1 6 (J aj 0 0) hlt) (fun B hBl=>(((hb.mono (bg (aS hBl hlt))).setCell (p:=⟨b1,5,aj⟩) hBl (J q1 q2 q3)).setCell (p:=⟨b1,6,aj⟩) hBl (J aj 0 0))) (((But.of_below hb).trans (dP _ b1 5 _)).trans (dP _ b1 6 _))
def Nl (B:Nat) (b1 _b2:Nat) (y1 y2 y3 y4:Int) (po:Option aY) (pn pc:Nat) (_y6:Int) (_y7:Bool) (p:List C5) (i:Nat) (v:aJ) (x:aD):Prop :=
 match i with
 | 0=>v=ak (aA ⟨b1,0,aj⟩)
 | 1=>v=aO #[O U y1,O U y2]
 | 2=>v=ak (aA ⟨b1,2,aj⟩)
 | 3=>v=aO #[O U y3,O U y4]
 | 4=>v=ak (aA ⟨b1,4,aj⟩)
 | 5=>v=J po pn pc
 | 6=>∃ s:Sl,v=dX s/\gP x B (dX s) p
 | 7=>∃ s:Sl,v=aO #[O U 3,O U y1,O U y2,O U y3,O U y4,dX s,J aj 0 0]/\gP x B (dX s) p
 | _=>True
noncomputable def ZH:Code:=((Tryz.f95.body.bind (eT 1)).getD .skip)
theorem Um (B:Nat) (b1 b2:Nat) (y1 y2 y3 y4:Int) (po:Option aY) (pn pc:Nat) (y6:Int) (y7:Bool) (p:List C5) (i:Nat) (v:aJ) (x x':aD) (h:Nl B b1 b2 y1 y2 y3 y4 po pn pc y6 y7 p i v x) (hb:Below x.heap.size x x'):Nl B b1 b2 y1 y2 y3 y4 po pn pc y6 y7 p i v x':=by
 by_cases hi:i<8
 ·rcases (by omega:i=0\/i=1\/i=2\/i=3\/i=4\/i=5\/i=6\/i=7) with rfl|rfl|rfl|rfl|rfl|rfl|rfl|rfl
  ·exact h
  ·exact h
  ·exact h
  ·exact h
  ·exact h
  ·exact h
  ·obtain⟨s,h1,h2⟩:=h; exact⟨s,h1,Bk.dI h2 hb⟩
  ·obtain⟨s,h1,h2⟩:=h; exact⟨s,h1,Bk.dI h2 hb⟩
 ·unfold Nl
  split <;> first | omega | trivial
theorem ahE (Q:Exit->Act->aD->Prop) (W:aD) (b1 b2:Nat) (y1 y2 y3 y4:Int) (po:Option aY) (pn pc:Nat) (y6:Int) (y7:Bool) (p:List C5) (u0 u3 u4 u5 u6 u7 u8 u9 u10:aJ)
  (h1:dJ W b1 #[O U y1,O U y2,O U y3,O U y4,J po pn pc,O U y6,au y7] 66) (h2:dJ W b2 #[O U 0,O U 0,O U 0,O U 0,O U 0,J aj 0 0,J aj 0 0] 41) (r5:fH W (J po pn pc) p) (l5:p.length<=900)
  (hQ:∀ (x:aD) (v3 v4 v5 v6 v7 v8 v9 v10:aJ) (q1:Option aY) (q2 q3:Nat),dJ x b2 #[O U 3,O U y1,O U y2,O U y3,O U y4,J q1 q2 q3,J aj 0 0] 41->gP x W.heap.size (J q1 q2 q3) p->(∀ B,B<=b2->Below B W x)->Q .normal ⟨(u0::ak (aA ⟨b1,0,aj⟩)::ak (aA ⟨b2,0,aj⟩)::v3::v4::v5::v6::v7::v8::v9::v10::[]).toArray,[]⟩ x) :
  Code.wp aB ZH Q ⟨(u0::ak (aA ⟨b1,0,aj⟩)::ak (aA ⟨b2,0,aj⟩)::u3::u4::u5::u6::u7::u8::u9::u10::[]).toArray,[]⟩ W:=by
 have HQ:=L hQ;have H1:=L h1;have H2:=L h2;have R5:=L r5;have L5:=L l5;clear hQ h1 h2 r5 l5;have iT:=Um W.heap.size b1 b2 y1 y2 y3 y4 po pn pc y6 y7 p;unfold ZH
 conv=>arg 2; whnf
 have nd:∀ j,(j<3\/11<=j)->∀ i,i<8->(fun i=>3+i) i≠j:=by
  intro j hj i hi h;simp only at h;omega
 refine Rg.fT 9 8 (fun i=>3+i) (fun _=>8) (Nl W.heap.size b1 b2 y1 y2 y3 y4 po pn pc y6 y7 p) (by kernel_rfl) (by kernel_rfl) rfl (by decide) (fun i j _ _ h=>by have h2:3+i=3+j:=h; omega) (fun i hi=>by show 3+i<11; omega) ?_ (fun _=>Rg.jk 14 (by kernel_rfl)) ?_ ?_
 ·intro i o hi ho a x D hnd hc hD hb seen K hK;clear HQ;rcases (by omega:i=0\/i=1\/i=2\/i=3\/i=4\/i=5\/i=6\/i=7) with rfl|rfl|rfl|rfl|rfl|rfl|rfl|rfl
  ·cases ho;have e1:a.eval (aG 1)=ak (aA ⟨b1,0,aj⟩):=seen.kp 1 _ (nd 1 (by omega)) rfl;exact Rg.dD rfl rfl (Rg.dU a.eval _ 66 (aG 1) 0 rfl (by rw [e1]; simp [go_sem])) (hK _ _ rfl (ay _ _) fun _ _ _ _ _ _ _ h=>h)
  ·cases ho;have e3:a.eval (aG 3)=ak (aA ⟨b1,0,aj⟩):=seen.at_ ⟨0,.data⟩ (by simp) rfl (aK (by decide));have y1:=(H1.out.on hb).cell 1;have y0:=(H1.out.on hb).cell 0;simp only [ah,V,Z] at y0 y1;exact Rg.dD rfl rfl (Rg.dW a.eval _ 31 (aG 3) rfl (by rw [e3]; simp [go_sem,y0,y1])) (hK _ _ rfl (ay _ _) fun _ _ _ _ _ _ _ h=>h)
  ·cases ho;have e1:a.eval (aG 1)=ak (aA ⟨b1,0,aj⟩):=seen.kp 1 _ (nd 1 (by omega)) rfl;exact Rg.dD rfl rfl (Rg.dU a.eval _ 66 (aG 1) 1 rfl (by rw [e1]; simp [go_sem])) (hK _ _ rfl (ay _ _) fun _ _ _ _ _ _ _ h=>h)
  ·cases ho;have e5:a.eval (aG 5)=ak (aA ⟨b1,2,aj⟩):=seen.at_ ⟨2,.data⟩ (by simp) rfl (aK (by decide));have y2:=(H1.out.on hb).cell 2;have y3:=(H1.out.on hb).cell 3;simp only [ah,V,Z] at y2 y3;exact Rg.dD rfl rfl (Rg.dW a.eval _ 31 (aG 5) rfl (by rw [e5]; simp [go_sem,y2,y3])) (hK _ _ rfl (ay _ _) fun _ _ _ _ _ _ _ h=>h)
  ·cases ho;have e1:a.eval (aG 1)=ak (aA ⟨b1,0,aj⟩):=seen.kp 1 _ (nd 1 (by omega)) rfl;exact Rg.dD rfl rfl (Rg.dU a.eval _ 66 (aG 1) 2 rfl (by rw [e1]; simp [go_sem])) (hK _ _ rfl (ay _ _) fun _ _ _ _ _ _ _ h=>h)
  ·cases ho;have e7:a.eval (aG 7)=ak (aA ⟨b1,4,aj⟩):=seen.at_ ⟨4,.data⟩ (by simp) rfl (aK (by decide));have y4:=(H1.out.on hb).cell 4;simp only [ah,V,Z] at y4;exact Rg.dD rfl rfl (Rg.dW a.eval _ 32 (aG 7) rfl (by rw [e7]; simp [go_sem,y4])) (hK _ _ rfl (ay _ _) fun _ _ _ _ _ _ _ h=>h)
  ·cases ho;have e8:a.eval (aG 8)=J po pn pc:=seen.at_ ⟨5,.data⟩ (by simp) rfl (aK (by decide));exact Rg.gT rfl rfl (Rw.iD a.eval _ (aG 8) 32 123 rfl e8 rfl _ (gD bf rfl rfl _ _)) (mI (po,pn,pc) p x (R5.out.on hb) L5.out) fun e w1 h=>by
    obtain⟨⟨s,rfl,h1⟩,h3⟩:=h;exact⟨_,rfl,hK _ _ ⟨s,rfl,dN h1 hb.size⟩ (h3.mono hb.size) fun j u hj _ _ _ hne h=>iT j u _ _ h h3⟩
  ·cases ho;have e4:a.eval (aG 4)=aO #[O U y1,O U y2]:=seen.at_ ⟨1,.data⟩ (by simp) rfl (aK (by decide));have e6:a.eval (aG 6)=aO #[O U y3,O U y4]:=seen.at_ ⟨3,.data⟩ (by simp) rfl (aK (by decide));have E9:=seen.at_ ⟨6,.data⟩ (by simp) rfl (aK (by decide));obtain⟨s,q0,q1⟩:=E9;have q0:a.eval (aG 9)=dX s:=q0;exact Rg.dD rfl rfl (Rg.jP a.eval _ 41 #[(0,.const (O U 3)),(1,aG 4),(2,aG 6),(3,aG 9)] rfl (by simp only [List.map_toArray,List.map_cons,List.map_nil,e4,e6,q0]; rfl) (v:=aO #[O U 3,O U y1,O U y2,O U y3,O U y4,dX s,J aj 0 0]) (by simp [go_sem])) (hK _ _ ⟨s,rfl,q1⟩ (ay _ _) fun _ _ _ _ _ _ _ h=>h)
 ·intro kk o h1 h2 ho;omega
 ·intro a w' df sz kp ⟨vs,hv⟩ hb;have sz':a.tmps.size=11:=sz;have g2:a.tmps[2]?=aA (ak (aA ⟨b2,0,aj⟩)):=(kp 2 (nd 2 (by omega))).trans rfl;obtain⟨⟨q1,q2,q3⟩,hs,ho⟩:=(hv 7 (by omega)).2 (by decide);have g10:a.tmps[10]?=aA (aO #[O U 3,O U y1,O U y2,O U y3,O U y4,J q1 q2 q3,J aj 0 0]):=((hv 7 (by omega)).1).trans (congrArg aA hs);have hB:=H2.out.on hb;have hlt:=H2.out.lt;show Rg.fG _ _ _ 1 8 a w';simp only [Rg.fG];refine Rg.fQ 41 (aG 2) (aG 10) rfl rfl rfl rfl (Rg.dM g2) (Rg.dM g10) (w':=Hl w' b2 (O U 3) (O U y1) (O U y2) (O U y3) (O U y4) (J q1 q2 q3) (J aj 0 0)) (YH hB _ _ _ _ _ _ _ _ _ _ _) ?_;have hbx:=xM hB (O U 3) (O U y1) (O U y2) (O U y3) (O U y4) (J q1 q2 q3) (J aj 0 0);have hbt:=Iu w' b2 (O U 3) (O U y1) (O U y2) (O U y3) (O U y4) (J q1 q2 q3) (J aj 0 0);have rA:∀ j,(j<3\/11<=j)->(a).tmps[j]?=(u0::ak (aA ⟨b1,0,aj⟩)::ak (aA ⟨b2,0,aj⟩)::u3::u4::u5::u6::u7::u8::u9::u10::[])[j]?:=fun j hj=>(kp j (nd j (by omega))).trans ah;obtain⟨mid,hmid,hfr⟩:=Rg.gG (a:=a) 3 8 df (by simp [sz']) (by simp) rA;show Q .normal (a) _;rw [hfr]
  match mid,hmid with
  | [v3,v4,v5,v6,v7,v8,v9,v10],_ =>
   exact HQ.out _ _ _ _ _ _ _ _ _ q1 q2 q3 hbx (hbt.own ho hB (by decide)) (fun B hBl=>yB (hb.mono (bg (aS hBl hlt))) hBl _ _ _ _ _ _ _)
theorem acC (k tc ts ic sj:Int) (pv:Sl) (p:List C5) (w:aD) (hp:fH w (dX pv) p) (hl:p.length<=900) :
  aR aB 78 #[aO #[O U k,O U tc,O U ts,O U ic,O U sj,dX pv,J aj 0 0]] w fun e w'=>(∃ s:Sl,e=aF (aO #[O U k,O U tc,O U ts,O U ic,O U sj,dX s,J aj 0 0])/\gP w' w.heap.size (dX s) p)/\Below w.heap.size w w':=by
 obtain⟨po,pn,pc⟩:=pv;obtain⟨h0,h1,h2⟩:=gY w #[O U k,O U tc,O U ts,O U ic,O U sj,J po pn pc,J aj 0 0] #[O U 0,O U 0,O U 0,O U 0,O U 0,J aj 0 0,J aj 0 0] 41 41;have GB:=L h0;have X1:=L h1;have X2:=L h2;have HP:=L (hp.on h0);clear h0 h1 h2 hp;show aR aB 78 #[aO #[O U k,O U tc,O U ts,O U ic,O U sj,J po pn pc,J aj 0 0]] w _;go_enter Tryz.func78,Tryz.ntmps78;go_upto_region 1 with fail;generalize (w.alloc (aH #[O U k,O U tc,O U ts,O U ic,O U sj,J po pn pc,J aj 0 0] 41)).alloc (aH #[O U 0,O U 0,O U 0,O U 0,O U 0,J aj 0 0,J aj 0 0] 41)=W at *;refine cm1 _ W w.heap.size k tc ts ic sj po pn pc p _ _ _ _ _ _ _ _ _ _ _ X1.out HP.out hl ?_;intro x v3 v4 v5 v6 v7 v8 v9 v10 q1 q2 q3 hbx ho hbl hbt;have Y1:=L hbx;have Y2:=L (hbt.box X2.out (by omega));have OO:=L (dN ho GB.out.size);have G2:=L (GB.out.trans (hbl w.heap.size (aL _)));clear hbx ho hbl hbt GB X1 X2 HP;obtain⟨x0,x1,x2,x3,x4,x5,x6⟩:=Y1.out.oJ;obtain⟨r0,r1,r2,r3,r4,r5,r6⟩:=Y2.out.oJ;obtain⟨t0,t1,t2,t3,t4,t5,t6⟩:=Y2.out.fs7;have zz:=Y2.out.lt;have FB:=L (xM Y2.out (O U k) (O U tc) (O U ts) (O U ic) (O U sj) (J q1 q2 q3) (J aj 0 0));have BL:=L (yB (b:=w.heap.size+1) G2.out (by omega) (O U k) (O U tc) (O U ts) (O U ic) (O U sj) (J q1 q2 q3) (J aj 0 0));have OX:=L ((Iu x (w.heap.size+1) (O U k) (O U tc) (O U ts) (O U ic) (O U sj) (J q1 q2 q3) (J aj 0 0)).own OO.out Y2.out (by decide));clear Y1 Y2 OO G2;go_wp2_with fail;obtain⟨v0,v1,v2,v3,v4,v5,v6⟩:=FB.out.oJ;refine bodyPost_ret (v:=aO #[O U k,O U tc,O U ts,O U ic,O U sj,J q1 q2 q3,J aj 0 0]) (by simp [results,Tryz.results78,go_sem,v0,v1,v2,v3,v4,v5,v6]) rfl ?_;exact⟨⟨(q1,q2,q3),rfl,OX.out⟩,BL.out⟩
theorem QE (z:iL) (p:List C5) (w:aD) (hp:fH w (dX z.2.2.2.2.1) p) (hl:p.length<=900) :
  aR aB 95 #[rV z] w fun e w'=>(∃ s:Sl,e=aF (aO #[O U 3,O U z.1,O U z.2.1,O U z.2.2.1,O U z.2.2.2.1,dX s,J aj 0 0])/\gP w' w.heap.size (dX s) p)/\Below w.heap.size w w':=by
 obtain⟨y1,y2,y3,y4,⟨po,pn,pc⟩,y6,y7⟩:=z;obtain⟨h0,h1,h2⟩:=gY w #[O U y1,O U y2,O U y3,O U y4,J po pn pc,O U y6,au y7] #[O U 0,O U 0,O U 0,O U 0,O U 0,J aj 0 0,J aj 0 0] 66 41;have GB:=L h0;have X1:=L h1;have X2:=L h2;have HP:=L (hp.on h0);clear h0 h1 h2 hp;show aR aB 95 #[aO #[O U y1,O U y2,O U y3,O U y4,J po pn pc,O U y6,au y7]] w _;go_enter Tryz.func95,Tryz.ntmps95;go_upto_region 1 with fail;generalize (w.alloc (aH #[O U y1,O U y2,O U y3,O U y4,J po pn pc,O U y6,au y7] 66)).alloc (aH #[O U 0,O U 0,O U 0,O U 0,O U 0,J aj 0 0,J aj 0 0] 41)=W at *;refine ahE _ W w.heap.size (w.heap.size+1) y1 y2 y3 y4 po pn pc y6 y7 p _ _ _ _ _ _ _ _ _ X1.out X2.out HP.out hl ?_;intro x v3 v4 v5 v6 v7 v8 v9 v10 q1 q2 q3 hbx ho hbl;have FB:=L hbx;have OO:=L (dN ho GB.out.size);have G2:=L (GB.out.trans (hbl w.heap.size (by omega)));clear hbx ho hbl GB X1 X2 HP;go_wp2_with fail;obtain⟨v0,v1,v2,v3,v4,v5,v6⟩:=FB.out.oJ;refine bodyPost_ret (v:=aO #[O U 3,O U y1,O U y2,O U y3,O U y4,J q1 q2 q3,J aj 0 0]) (by simp [results,Tryz.results95,go_sem,v0,v1,v2,v3,v4,v5,v6]) rfl ?_;exact⟨⟨(q1,q2,q3),rfl,OO.out⟩,G2.out⟩
end Fl
namespace Sb
open Go.RowKit Go.Sort Rw YtmklifheakemeaaGreat.Nm Pr Bk Av Rl
theorem Un (oL bv:aJ) (p q:List C5) (w:aD) (ha:fH w oL p) (hb:fH w bv q) (hp:dZ p) (hq:dZ q) :
  aR aB 156 #[oL,bv] w fun e w'=>e=aF (au (mW p q))/\Below w.heap.size w w':=by
 obtain⟨a,na,rfl⟩:=hp;obtain⟨b,nb,rfl⟩:=hq;unfold mW;rw [pO,pO];exact KO oL bv a b w ha hb na nb
theorem acD {α:Type} (f:α->Bool) {l:List α} (h:∀ (j:Nat) (y:α),j<l.length->l[j]?=aA y->f y=aC):l.any f=aC:=by
 rw [List.any_eq_false];intro e he;obtain⟨j,hj,hje⟩:=List.getElem_of_mem he;simpa using h j e hj (by rw [aN hj,hje])
theorem acE {α:Type} (f:α->Bool) {l:List α} {k:Nat} {y:α} (h:l[k]?=aA y) (hf:f y=aW):l.any f=aW:=by
 rw [List.any_eq_true];exact⟨y,aQ h,hf⟩
abbrev cE (p:List C5) (e:En):Bool:=e.up && mW e.p p
theorem Iw (v:Sl) (pv:aJ) (l:List iL) (m:List En) (p':List C5) (w:aD) (hs:lF w (dX v) l) (hu:fA (kr w) l m) (hp:fH w pv p') (hok:∀ e∈m,dZ e.p) (hop:dZ p') :
  aR aB 117 #[dX v,pv] w fun e w'=>e=aF (au (Ue m p'))/\Below w.heap.size w w':=by
 have HU:=L hu;have HP:=L hp;have OK:=L hok;have OP:=L hop;obtain⟨pa,pc,rfl⟩:=hp.len;generalize p'.length=pn at *;obtain⟨so,n,sc⟩:=v;have hn:=lY hs;have HS:=L hs;have lm:=hs.most;unfold maxLen at lm;rw [hn] at lm;have HN:=L hn;clear hu hp hok hop hs hn;go_enter Tryz.func117,Tryz.ntmps117;go_wp2
 go_loopw [9] (fun i wr=>∃ k:Nat,k<=n/\i=O U k/\Below w.heap.size w wr/\∀ (j:Nat) (y:En),j<k->m[j]?=aA y->cE p' y=aC) (fun i _=>n-(intOf i).toNat)
 case atStart=>exact⟨0,Nat.zero_le _,rfl,ay _ _,fun j y h=>by omega⟩
 case round =>
  obtain⟨k,hk,rfl,hbe,hall⟩:=hrel;have BE:=L hbe;have AL:=L hall;clear hbe hall;by_cases hlt:k<n
  ·obtain⟨y,hy⟩:∃ y,l[k]?=aA y:=⟨_,aN (by rw [HN.out]; exact hlt)⟩;obtain⟨q,ix,px⟩:=Pp HS.out rfl HN.out hy;obtain⟨p0,p1,p2,p3,p4,p5,p6⟩:=px wr BE.out;obtain⟨e,he,_,hin⟩:=nD HU.out hy;obtain⟨y1,y2,y3,y4,⟨yo,yn,yc⟩,y6,y7⟩:=y;simp only at p0 p1 p2 p3 p4 p5 p6;have NB:=L (gu wr (aH #[O U y1,O U y2,O U y3,O U y4,J yo yn yc,O U y6,au y7] 66));have hw3:IntKind.i64.wrap ((k:Int)+1)=(k:Int)+1:=IntWalk.i64_in _ (by omega);obtain⟨t,ht⟩:∃ r,mW e.p p'=r:=⟨_,rfl⟩;have HV:=L (show cE p' e=(y7 && t) by unfold cE; rw [<- hin.2.2.2.1,ht]);have HE:=L he;have BF:=L (BE.out.trans (NB.out.mono BE.out.size));have CV:=L (Un (J yo yn yc) (J pa pn pc) e.p p' _ (hin.2.2.2.2.on BF.out) (HP.out.on BF.out) (OK.out _ (aQ he)) OP.out);rw [ht] at CV;clear px hy ht he hin;cases y7
   ·clear CV;go_wp2
    go_roundw
    case rel=>exact⟨k+1,by omega,by go_num,BF.out,fun j y' hj h1=>by
     rcases bF j k with h3|h3
     ·exact AL.out j y' h3 h1
     ·obtain rfl:j=k:=by omega
      have e1:=HE.out;rw [h1] at e1;rw [aP e1];exact HV.out.trans (by simp)⟩
    case measure=>simp [intOf]; omega
   ·go_wp2_with fail;refine CV.out.mono ?_;rintro e3 w3 ⟨rfl,hb⟩;have BG:=L (BF.out.trans (hb.mono BF.out.size));clear CV hb p0 p1 p2 p3 p4 p5 p6 ix;cases t
    ·go_wp2
     go_roundw
     case rel=>exact⟨k+1,by omega,by go_num,BG.out,fun j y' hj h1=>by
      rcases bF j k with h3|h3
      ·exact AL.out j y' h3 h1
      ·obtain rfl:j=k:=by omega
       have e1:=HE.out;rw [h1] at e1;rw [aP e1];exact HV.out.trans (by simp)⟩
     case measure=>simp [intOf]; omega
    ·have hd:Ue m p'=aW:=acE (cE p') HE.out (HV.out.trans (by simp));go_wp2;go_ret;exact⟨by rw [hd]; rfl,BG.out⟩
  ·obtain rfl:k=n:=by omega
   have hd:Ue m p'=aC:=acD (cE p') fun j y hj h=>AL.out j y (by rw [<- HN.out,HU.out.len]; exact hj) h;go_wp2;go_ret;exact⟨by rw [hd]; rfl,BE.out⟩
theorem acF {W:aD} {v:Sl} {l:List iL} {m:List En} (hv:lF W (dX v) l) (hA:fA (kr W) l m) (t:fD):lF W (dX (cutV v (kP m t) (yS m t).length)) ((l.drop (kP m t)).take (yS m t).length)/\fA (kr W) ((l.drop (kP m t)).take (yS m t).length) (yS m t):=by
 refine⟨(Ni hv _ _ (by rw [hA.len]; exact DI m t)).2,?_⟩;have h:=(hA.drop (kP m t)).take (yS m t).length;have e:(m.drop (kP m t)).take (yS m t).length=yS m t:=by
  unfold yS
  conv=>lhs; arg 2; rw [<- List.takeWhile_append_dropWhile (p:=fun e:En=>decide (e.tree=t)) (l:=m.drop (kP m t))]
  rw [List.take_left]
 rw [e] at h;exact h
theorem acG (m:List En) (t:fD):∀ e∈yS m t,e∈m:=fun _ he=>List.mem_of_mem_drop ((List.takeWhile_sublist _).subset he)
theorem Uo (me:Int) (nv av sv ov:aJ) (ev:Sl) (l:List iL) (m:List En) (t:fD) (pv:aJ) (p':List C5) (w:aD) (hs:lF w (dX ev) l) (hu:fA (kr w) l m) (hr:pR m) (hl:l.length<=1000) (hp:fH w pv p') (hok:∀ e∈m,dZ e.p) (hop:dZ p') :
  aR aB 146 #[aO #[O U me,nv,av,sv,dX ev,ov],mZ t,pv] w fun e w'=>e=aF (au (fC m t p'))/\Below w.heap.size w w':=by
 obtain⟨pa,pc,rfl⟩:=hp.len;obtain⟨so,n,sc⟩:=ev;obtain⟨c,d⟩:=t;obtain⟨h0,X,Y⟩:=gY w #[O U me,nv,av,sv,J so n sc,ov] #[O U c,O U d] 28 31;have B:=L h0;have x4:=X.cell 4;obtain⟨y0,y1⟩:=Y.cs2;simp only [ah,V,Z] at x4;have BR:=L (KZ (so,n,sc) l m (c,d) _ (hs.on h0) (hu.mono fun _ _ q=>q.on h0) hr hl);obtain⟨q1,q2⟩:=acF (hs.on h0) (hu.mono fun _ _ q=>q.on h0) (c,d);have Q1:=L q1;have Q2:=L q2;have HP:=L (hp.on h0);have OK:=L (fun e he=>hok e (acG m (c,d) e he));have CB:=L (acy hr (c,d) p');generalize p'.length=pn at *;generalize fC m (c,d) p'=r at *;generalize cutV (so,n,sc) (kP m (c,d)) (yS m (c,d)).length=z at *;obtain⟨z1,z2,z3⟩:=z;clear h0 X Y hs hu hr hl hp hok q1 q2;go_enter Tryz.func146,Tryz.ntmps146;go_wp2_with fail;generalize (w.alloc (aH #[O U me,nv,av,sv,J so n sc,ov] 28)).alloc (aH #[O U c,O U d] 31)=W at *;refine BR.out.mono ?_;rintro e1 w1 ⟨rfl,hb⟩;have HB:=L hb;have CV:=L (Iw (z1,z2,z3) (J pa pn pc) _ (yS m (c,d)) p' w1 (Q1.out.on hb) (Q2.out.mono fun _ _ q=>q.on hb) (HP.out.on hb) OK.out hop);clear x4 y0 y1 hb BR;go_wp2_with fail;refine CV.out.mono ?_;rintro e2 w2 ⟨rfl,hb2⟩;go_wp2;go_ret;exact⟨by rw [<- CB.out]; rfl,B.out.trans ((HB.out.trans (hb2.mono HB.out.size)).mono B.out.size)⟩
theorem iF {p:List C5} (h:dZ p):p.length<=900:=by
 obtain⟨a,na,rfl⟩:=h;rw [aM];have:=na.five;omega
theorem Nn {α:Type} {E:Ek α} {W:aD} {B:Nat} {v:aJ} {l:List α} (h:Own E W B v l):∀ b,v.ownBlock=aA b->B<=b:=by
 intro b hb;rcases gK h with⟨rfl,_⟩|⟨g',cap',cur,rfl,h2,_⟩
 ·cases hb
 ·obtain rfl:g'=b:=by simpa [Value.ownBlock] using hb
  exact h2
theorem PM.less {w0 wr:aD} {B B':Nat} {v:aJ} {p:List C5} (h:PM w0 B wr v p) (hB:B'<=B):PM w0 B' wr v p:=h.imp id fun h=>dN h hB
theorem Cp.less {w0 wr:aD} {B B':Nat} {b:Br} {nv av sv ev ov:Sl} (h:Cp w0 B wr b nv av sv ev ov) (hB:B'<=B):Cp w0 B' wr b nv av sv ev ov where
 near:=dN h.near hB
 seen:=dN h.seen hB
 dQ:=by obtain⟨l,h1,h2⟩:=h.dQ; exact⟨l,dN h1 hB,h2.mono fun _ _ q=>⟨q.1,q.2.1,PM.less q.2.2 hB⟩⟩
 ent:=by obtain⟨l,h1,h2⟩:=h.ent; exact⟨l,dN h1 hB,h2.mono fun _ _ q=>⟨q.1,q.2.1,q.2.2.1,q.2.2.2.1,PM.less q.2.2.2.2 hB⟩⟩
 own:=by obtain⟨l,h1,h2⟩:=h.own; exact⟨l,dN h1 hB,h2.mono fun _ _ q=>⟨q.1,PM.less q.2 hB⟩⟩
def K9 (b:Br) (e:En):Br×Bool:=match gL b.dQ e.tree with
 | none=>(b,aC)
 | some a=>if rJ b.ent e.tree e.sub=aW then (b,aC) else if e.from_=a.par/\a.par≠-1 then (b,aC) else
  ({ b with ent:=fU b.ent (fB (b.ent.map fJ) (e.tree,e.sub)) { e with up:=!(a.par == -1) && !fC b.ent e.tree e.p } },!(a.par == -1) && !fC b.ent e.tree e.p)
theorem wL {b:Br} (hr:pR b.ent) {e:En}:K9 b e=gQ b e:=by
 unfold K9 gQ;have ft:=KT hr e.tree e.sub;have ek:fJ e=(e.tree,e.sub):=rfl;rw [ek,ft];by_cases h:fI (b.dQ.map Ad.id) e.tree=-1
 ·have hn:gL b.dQ e.tree=aj:=vD fun j a hj=>tX (key:=Ad.id) h j a hj;rw [hn];cases b.dQ[(fI (b.dQ.map Ad.id) e.tree).toNat]? with
  | none=>rfl
  | some a=>simp only; rw [if_pos h]
 ·obtain⟨k,hk⟩:∃ k:Nat,fI (b.dQ.map Ad.id) e.tree=k:=⟨(fI (b.dQ.map Ad.id) e.tree).toNat,by have:=ng (b.dQ.map Ad.id) e.tree; omega⟩;obtain⟨g1,g2⟩:=qF hk;rw [aT] at g1;cases ha:b.dQ[k]? with
  | none=>rw [ha] at g1; cases g1
  | some a =>
   rw [ha] at g1;have hx:a.id=e.tree:=aP g1;have hf:gL b.dQ e.tree=aA a:=sI ha hx fun j z hj hz=>g2 j z.id hj (by rw [aT,hz]; rfl);rw [hf,hk,Int.toNat_natCast,ha];simp only;rw [if_neg (show ¬ ((k:Int)=-1) by omega)];have e1:(!(a.par == -1))=decide (a.par≠-1):=by by_cases hp:a.par=-1 <;> simp [hp]
   rw [e1];by_cases ht:rJ b.ent e.tree e.sub=aW
   ·rw [if_pos ht,if_pos ht,if_pos (by omega)]
   ·rw [if_neg ht,if_neg ht,if_neg (show ¬ ((-1:Int)≠-1) by simp)];by_cases hp:e.from_=a.par/\a.par≠-1
    ·rw [if_pos hp,if_pos ⟨by rw [hp.1]; exact hp.2,hp.1⟩]
    ·rw [if_neg hp,if_neg fun q=>hp ⟨q.2,by rw [<- q.2]; exact q.1⟩]
theorem Uq (b:Br) (e:En) (nv av sv ev ov:Sl) (x:iL) (w:aD) (h:iZ w b nv av sv ev ov) (he:kr w x e) (hf:PW b) (hp:yP b) (hr:pR b.ent) (hok:∀ e∈b.ent,dZ e.p) (hoe:dZ e.p) :
  aR aB 94 #[oK b.me nv av sv ev ov,rV x] w (E5 w (nT w nv b.near) (pJ w b nv av sv ev ov) (gQ b e)):=by
 obtain⟨no,nn,nc⟩:=nv;obtain⟨ao,an,ac⟩:=av;obtain⟨so,sn,sc⟩:=sv;obtain⟨eo,en,ec⟩:=ev;obtain⟨oo,dY,oc⟩:=ov;obtain⟨y1,y2,y3,y4,⟨yo,yn,yc⟩,y6,y7⟩:=x;obtain⟨h0,h1,h2,h3⟩:=gJ w #[O U b.me,J no nn nc,J ao an ac,J so sn sc,J eo en ec,J oo dY oc] #[O U y1,O U y2,O U y3,O U y4,J yo yn yc,O U y6,au y7] #[O U 0,J aj 0 0,J aj 0 0,J aj 0 0,J aj 0 0,J aj 0 0] 28 66 28;have BB:=L h0;have X1:=L h1;have X2:=L h2;have X3:=L h3;have HH:=L h;have EE:=L he;have HF:=L hf;have HP:=L hp;have HR:=L hr;have OK:=L hok;have OE:=L hoe;obtain⟨la,ha1,ha2⟩:=h.dQ;have SW:=L (GU b.me (J no nn nc) (J so sn sc) (J eo en ec) (J oo dY oc) (ao,an,ac) la b.dQ (y1,y2) _ (ha1.on BB.out) (ha2.mono fun _ _ q=>q.on BB.out) hp.dQ);have ET:=L (show e.tree=(y1,y2) from he.1.symm);have ES:=L (show e.sub=(y3,y4) from he.2.1.symm);have EF:=L (show e.from_=y6 from he.2.2.1.symm);obtain⟨x0,x1,x2,x3,x4,x5⟩:=X1.out.fu;obtain⟨d0,d1,d2,d3,d4,d5,d6⟩:=X2.out.oJ;clear h0 h1 h2 h3 h he hf hp hr hok hoe ha1 ha2 la;go_enter Tryz.func94,Tryz.ntmps94;go_wp2_with fail;generalize ((w.alloc (aH #[O U b.me,J no nn nc,J ao an ac,J so sn sc,J eo en ec,J oo dY oc] 28)).alloc (aH #[O U y1,O U y2,O U y3,O U y4,J yo yn yc,O U y6,au y7] 66)).alloc (aH #[O U 0,J aj 0 0,J aj 0 0,J aj 0 0,J aj 0 0,J aj 0 0] 28)=W at *;refine SW.out.mono ?_;rintro e1 w1 ⟨hq,hb⟩;have B1:=L (BB.out.trans (hb.mono BB.out.size));have Z1:=L (X1.out.on hb);have Z2:=L (X2.out.on hb);have Z3:=L (X3.out.on hb);clear hb SW X1 X2 X3;clear x0 x1 x2 x3 x4 x5;clear d0 d1 d2 d3 d4 d5 d6;obtain⟨⟨r1,r2,⟨ro,rn,rc⟩,r4⟩,kn,rfl,hin⟩:∃ (r:jI) (kn:Bool),e1=aF (.tuple #[mY r,au kn])/\((kn=aC/\gL b.dQ (y1,y2)=aj)\/(kn=aW/\∃ a,gL b.dQ (y1,y2)=aA a/\r.2.2.2=a.par)):=by
  cases hfa:gL b.dQ (y1,y2) with
  | none =>
   rw [hfa] at hq;exact⟨_,aC,hq,Or.inl ⟨rfl,rfl⟩⟩
  | some a =>
   rw [hfa] at hq;obtain⟨r,h1,h2⟩:=hq;exact⟨r,aW,h1,aK ⟨rfl,a,rfl,h2.2.1⟩⟩
 have HI:=L hin;have nb:=gu w1 (aH #[O U r1,O U r2,J ro rn rc,O U r4] 74);have AB:=L (dO w1 #[O U r1,O U r2,J ro rn rc,O U r4] 74);have B2:=L (B1.out.trans (nb.mono B1.out.size));have Y1:=L (Z1.out.on nb);have Y2:=L (Z2.out.on nb);have Y3:=L (Z3.out.on nb);obtain⟨les,hs1,hs2⟩:=HH.out.ent;have PL:=L (QB (eo,en,ec) les b.ent (y1,y2) (y3,y4) _ (hs1.on B2.out) (hs2.mono fun _ _ q=>q.on B2.out) HR.out (by rw [hs2.len]; have:=HF.out.ent; omega));have ahF:=L hs1;have ae2:=L hs2;obtain⟨k,hk⟩:∃ k,fB (b.ent.map fJ) ((y1,y2),(y3,y4))=k:=⟨_,rfl⟩;obtain⟨th,hth⟩:∃ k,rJ b.ent (y1,y2) (y3,y4)=k:=⟨_,rfl⟩;rw [hk,hth] at PL;have HK:=L hk;have TH:=L hth;have KL:=L (show k<=b.ent.length by rw [<- hk]; simpa using lS (b.ent.map fJ) ((y1,y2),(y3,y4)));have x4:=Y1.out.cell 4;simp only [ah,V,Z] at x4;have d1:=Y2.out.cell 1;have d0:=Y2.out.cell 0;have d2:=Y2.out.cell 2;have d3:=Y2.out.cell 3;simp only [ah,V,Z] at d0 d1 d2 d3;clear hin hq nb hs1 hs2 hk hth Z1 Z2 Z3;go_wp2_with fail;generalize hw2:w1.alloc (aH #[O U r1,O U r2,J ro rn rc,O U r4] 74)=w2 at *;refine PL.out.mono ?_;rintro e2 w3 ⟨rfl,hb⟩;have BW:=L (B2.out.trans (hb.mono B2.out.size));have T1:=L (Y1.out.on hb);have T2:=L (Y2.out.on hb);have T3:=L (Y3.out.on hb);have TA:=AB.out.on hb;clear x4;clear d0 d1 d2 d3;have a3:=TA.cell 3;have d5:=T2.out.cell 5;simp only [ah,V,Z] at a3 d5;obtain⟨fq,hfq⟩:∃ q,(y6 == r4)=q:=⟨_,rfl⟩;obtain⟨rt,hrt⟩:∃ q,(r4 == -1)=q:=⟨_,rfl⟩;have FQ:=L hfq;have RT:=L hrt;clear hb PL TA Y1 Y2 Y3 AB hw2;cases kn
 ·have LQ:=L (show gQ b e=(b,aC) from by
   rw [<- wL HR.out];unfold K9;have h0:gL b.dQ e.tree=aj:=by
    rw [ET.out];rcases HI.out with⟨_,h⟩|⟨h,_⟩
    ·exact h
    ·cases h
   rw [h0])
  have Q1:=T1.out;have Q3:=T3.out;obtain⟨x0,x1,x2,x3,x4,x5⟩:=Q1.fu;obtain⟨z0,z1,z2,z3,z4,z5⟩:=Q3.fu;obtain⟨zf0,zf1,zf2,zf3,zf4,zf5⟩:=Q3.kD;have zlt:=Q3.lt;have FB:=L (dL Q3 (O U b.me) (J no nn nc) (J ao an ac) (J so sn sc) (J eo en ec) (J oo dY oc));have FL:=L (dG (b:=w.heap.size+1+1) BW.out (by omega) (O U b.me) (J no nn nc) (J ao an ac) (J so sn sc) (J eo en ec) (J oo dY oc));clear Q1 Q3;go_wp2_with fail;clear z0 z1 z2 z3 z4 z5;obtain⟨v0,v1,v2,v3,v4,v5⟩:=FB.out.fu;refine bodyPost_ret (v:=.tuple #[aO #[O U b.me,J no nn nc,J ao an ac,J so sn sc,J eo en ec,J oo dY oc],au aC]) (by simp [results,aI,go_sem,v0,v1,v2,v3,v4,v5]) rfl ?_;rw [LQ.out];exact⟨⟨(no,nn,nc),(ao,an,ac),(so,sn,sc),(eo,en,ec),(oo,dY,oc),rfl,HH.out.on FL.out,fun h=>h.on FL.out,fun h=>(h.resolve_right (by simp)).on FL.out⟩,FL.out⟩
 ·cases th
  ·cases rt
   ·cases fq
    ·have x1:=T2.out.cell 1;have x0:=T2.out.cell 0;have x2:=T2.out.cell 2;have x3:=T2.out.cell 3;have x4:=T2.out.cell 4;have x6:=T2.out.cell 6;simp only [ah,V,Z] at x0 x1 x2 x3 x4 x6;have PE:=L (show fH w3 (J yo yn yc) e.p from (EE.out.2.2.2.2).on BW.out);have CP:=L (Nj (y1,y2,y3,y4,(yo,yn,yc),y6,y7) e.p w3 PE.out (iF OE.out));go_wp2_with fail;refine CP.out.mono ?_;rintro e4 w3b ⟨⟨⟨u1,u2,u3⟩,rfl,ho⟩,hb⟩;clear x0 x1 x2 x3 x4 x6;clear a3 d5;have V2:=T2.out.on hb;obtain⟨x0,x1,x2,x3,x4,x5,x6⟩:=V2.oJ;obtain⟨xf0,xf1,Yv,Yw,Qx,Yx,xf6⟩:=V2.fs7;have xlt:=V2.lt;have bs:=Iq w3b (w.heap.size+1) (O U y1) (O U y2) (O U y3) (O U y4) (J u1 u2 u3) (O U y6) (au y7);have E2:=L (Ao V2 (O U y1) (O U y2) (O U y3) (O U y4) (J u1 u2 u3) (O U y6) (au y7));have E1:=L (bs.box (T1.out.on hb) (by omega));have E3:=L (bs.box (T3.out.on hb) (by omega));have EO:=L (bs.own ho V2 (by decide));have EL:=L (vH (b:=w.heap.size+1) (BW.out.trans (hb.mono BW.out.size)) (by omega) (O U y1) (O U y2) (O U y3) (O U y4) (J u1 u2 u3) (O U y6) (au y7));have YK:=L (show w3.heap.size<=(Ip w3b (w.heap.size+1) (O U y1) (O U y2) (O U y3) (O U y4) (J u1 u2 u3) (O U y6) (au y7)).heap.size by have:=hb.size; simp; omega);have L4:=L (show w.heap.size+1+1<w3.heap.size from T3.out.lt);clear V2 ho hb CP T1 T2 T3 BW bs;go_upto_region 7 with fail;clear x0 x1 x2 x3 x4 x5 x6 xf0 xf1 Yv Yw Qx Yx xf6 xlt;unfold Ip at E2 E1 E3 EO EL YK;generalize (((((((w3b).setCell ⟨w.heap.size+1,0,aj⟩ (O U y1)).setCell ⟨w.heap.size+1,1,aj⟩ (O U y2)).setCell ⟨w.heap.size+1,2,aj⟩ (O U y3)).setCell ⟨w.heap.size+1,3,aj⟩ (O U y4)).setCell ⟨w.heap.size+1,4,aj⟩ (J u1 u2 u3)).setCell ⟨w.heap.size+1,5,aj⟩ (O U y6)).setCell ⟨w.heap.size+1,6,aj⟩ (au y7)=w4b at *;have x1:=E2.out.cell 1;have x0:=E2.out.cell 0;have x4:=E2.out.cell 4;simp only [ah,V,Z] at x0 x1 x4;obtain⟨z0,z1,z2,z3,z4,z5⟩:=E1.out.fu;have CV:=L (Uo b.me (J no nn nc) (J ao an ac) (J so sn sc) (J oo dY oc) (eo,en,ec) les b.ent (y1,y2) (J u1 u2 u3) e.p w4b (ahF.out.on EL.out) (ae2.out.mono fun _ _ q=>q.on EL.out) HR.out (by rw [ae2.out.len]; have:=HF.out.ent; omega) (Row.dH EO.out) OK.out OE.out);obtain⟨cv,hcv⟩:∃ c,fC b.ent (y1,y2) e.p=c:=⟨_,rfl⟩;rw [hcv] at CV;have CVQ:=L hcv;clear hcv;go_wp2_with fail;refine CV.out.mono ?_;rintro e5 w4c ⟨rfl,hb⟩;clear x0 x1 x4;clear z0 z1 z2 z3 z4 z5
     replace E2:=L (E2.out.on hb)
     replace E1:=L (E1.out.on hb)
     replace E3:=L (E3.out.on hb)
     replace EO:=L (Bk.dI EO.out hb)
     replace YK:=L (aU YK.out hb.size)
     replace EL:=L (EL.out.trans (hb.mono EL.out.size))
     clear CV hb;have x6:=E2.out.cell 6;have xf6:=E2.out.fr 6;have xlt:=E2.out.lt;simp only [ah,V,Z] at x6;have bs:=dP w4c (w.heap.size+1) 6 (au (!cv));have T2:=L (show dJ (w4c.setCell ⟨w.heap.size+1,6,aj⟩ (au (!cv))) (w.heap.size+1) #[O U y1,O U y2,O U y3,O U y4,J u1 u2 u3,O U y6,au (!cv)] 66 by simpa using dR (k:=6) E2.out (au (!cv)));have T1:=L (bs.box E1.out (by omega));have T3:=L (bs.box E3.out (by omega));have OC:=L (bs.own EO.out E2.out (by decide));have BW:=L (EL.out.setCell (p:=⟨w.heap.size+1,6,aj⟩) (by simp) (au (!cv)));have S45:=L (show w3.heap.size<=(w4c.setCell ⟨w.heap.size+1,6,aj⟩ (au (!cv))).heap.size by have:=YK.out; simp; omega);clear bs E1 E2 E3 EO EL YK;go_upto_region 8 with fail;clear x6 xf6 xlt;generalize w4c.setCell ⟨w.heap.size+1,6,aj⟩ (au (!cv))=w5 at *;have LQ:=L (show gQ b e=({ b with ent:=fU b.ent k { e with up:=(!cv) } },(!cv)) from by
      rw [<- wL HR.out];unfold K9;obtain⟨a,h0,h1⟩:∃ a,gL b.dQ e.tree=aA a/\r4=a.par:=by
       rw [ET.out];rcases HI.out with⟨h,_⟩|⟨_,h⟩
       ·cases h
       ·exact h
      rw [h0];simp only;rw [if_neg (by rw [ET.out,ES.out,TH.out]; simp),if_neg ?_,show fB (b.ent.map fJ) (e.tree,e.sub)=k by rw [ET.out,ES.out]; exact HK.out,<- h1,RT.out]
      ·rw [ET.out,CVQ.out]
       rfl
      ·rintro⟨g,_⟩;rw [EF.out,<- h1] at g;have:=FQ.out;simp at this;exact this g)
     have Q1:=T1.out;obtain⟨x0,x1,x2,x3,x4,x5⟩:=Q1.fu;clear Q1;go_wp2_with fail;refine (tV b (no,nn,nc) (ao,an,ac) (so,sn,sc) (eo,en,ec) (oo,dY,oc) w w5 BW.out HH.out HF.out HP.out).mono ?_;rintro e6 w6 ⟨⟨⟨p1,q1,s1⟩,⟨p2,q2,s2⟩,⟨p3,q3,s3⟩,⟨p4,q4,s4⟩,⟨p5,q5,s5⟩,rfl,cp⟩,hb6⟩;clear x0 x1 x2 x3 x4 x5;have V1:=T1.out.on hb6;have V2:=L (T2.out.on hb6);have V3:=L (T3.out.on hb6);obtain⟨x0,x1,x2,x3,x4,x5⟩:=V1.fu;obtain⟨xf0,xf1,Yv,Yw,Qx,Yx⟩:=V1.kD;have xlt:=V1.lt;have bs:=eX w6 w.heap.size (O U b.me) (J p1 q1 s1) (J p2 q2 s2) (J p3 q3 s3) (J p4 q4 s4) (J p5 q5 s5);have FB:=L (dL V1 (O U b.me) (J p1 q1 s1) (J p2 q2 s2) (J p3 q3 s3) (J p4 q4 s4) (J p5 q5 s5));have FC:=L (Sb.Cp.less (cp.but bs V1) (show w3.heap.size<=w5.heap.size from S45.out));have FO:=L (bs.own (Bk.dI OC.out hb6) V1 (by decide));have FL:=L (dG (b:=w.heap.size) (BW.out.trans (hb6.mono BW.out.size)) (aL _) (O U b.me) (J p1 q1 s1) (J p2 q2 s2) (J p3 q3 s3) (J p4 q4 s4) (J p5 q5 s5));have F2:=L (bs.box V2.out (by omega));have F3:=L (bs.box V3.out (by omega));have SZ:=L (show w3.heap.size<=(gF w6 w.heap.size (O U b.me) (J p1 q1 s1) (J p2 q2 s2) (J p3 q3 s3) (J p4 q4 s4) (J p5 q5 s5)).heap.size by have:=hb6.size; have:=S45.out; simp; omega);clear V1 V2 V3 cp hb6 bs T1 T2 T3 OC BW;go_upto_region 9 with fail;clear x0 x1 x2 x3 x4 x5 xf0 xf1 Yv Yw Qx Yx xlt;unfold gF at FB FC FL F2 F3 SZ FO;generalize ((((((w6).setCell ⟨w.heap.size,0,aj⟩ (O U b.me)).setCell ⟨w.heap.size,1,aj⟩ (J p1 q1 s1)).setCell ⟨w.heap.size,2,aj⟩ (J p2 q2 s2)).setCell ⟨w.heap.size,3,aj⟩ (J p3 q3 s3)).setCell ⟨w.heap.size,4,aj⟩ (J p4 q4 s4)).setCell ⟨w.heap.size,5,aj⟩ (J p5 q5 s5)=w7 at *;obtain⟨le,hle1,hle2⟩:=FC.out.ent;have wX:=L hle1;have HL2:=L hle2;clear hle1 hle2;have nb:=gu w7 (aH #[O U y1,O U y2,O U y3,O U y4,J u1 u2 u3,O U y6,au (!cv)] 66);have bx:=dO w7 #[O U y1,O U y2,O U y3,O U y4,J u1 u2 u3,O U y6,au (!cv)] 66;have IN:=L (yw w3.heap.size (J p4 q4 s4) le k (y1,y2,y3,y4,(u1,u2,u3),y6,(!cv)) w7.heap.size _ (Bk.dI wX.out nb) bx (fun e=>by
      obtain⟨d,hd⟩:=ku wX.out _ e;have:=hd.lt;omega) (by rw [HL2.out.len]; exact KL.out) (by rw [HL2.out.len]; exact HF.out.ent) (aU SZ.out nb.size))
     have FB2:=L (FB.out.on nb);have F22:=L (F2.out.on nb);have F32:=L (F3.out.on nb);have FO2:=L (Bk.dI FO.out nb);have FC2:=L (FC.out.grow nb);have FL2:=L (FL.out.trans (nb.mono FL.out.size));have HA2:=L (HL2.out.mono fun _ _ q=>q.grow nb);have Fg:=L (ku (Bk.dI wX.out nb));have x4:=FB.out.cell 4;simp only [ah,V,Z] at x4;obtain⟨d0,d1,d2,d3,d4,d5,d6⟩:=F2.out.oJ;clear nb bx;go_wp2_with fail;refine IN.out.mono ?_;rintro e8 w8 ⟨v8,rfl,hown,hbel,hoth⟩;clear x4;clear d0 d1 d2 d3 d4 d5 d6;generalize w7.alloc (aH #[O U y1,O U y2,O U y3,O U y4,J u1 u2 u3,O U y6,au (!cv)] 66)=w7a at *;obtain⟨t1,t2,hv8⟩:=(Row.dH hown).len;subst hv8;generalize (le.take k++(y1,y2,y3,y4,(u1,u2,u3),y6,(!cv))::le.drop k).length=tn at *;have hoff:Off (J p4 q4 s4).ownBlock w7a w8:=⟨hoth,hbel.size⟩;have CP:=L (FC2.out.acg (ev':=(t1,tn,t2)) (el:=fU b.ent k { e with up:=(!cv) }) hoff ⟨fU le k (y1,y2,y3,y4,(u1,u2,u3),y6,(!cv)),by unfold fU; rw [aV]; exact hown,zZ (HA2.out.mono fun _ _ q=>q.off hoff Fg.out (by decide)) k ⟨EE.out.1,EE.out.2.1,EE.out.2.2.1,rfl,aK (hoff.own FO2.out Fg.out (by decide))⟩⟩);have G1:=hoff.box FB2.out Fg.out (by decide);have G3:=hoff.box F32.out Fg.out (by decide);have G2:=L (show dJ w8 (w.heap.size+1) #[O U y1,O U y2,O U y3,O U y4,J u1 u2 u3,O U y6,au (!cv)] 66 from (hoth _ F22.out.lt (fun e=>by
      have:=Nn wX.out _ e.symm;have:=L4.out;omega)).trans F22.out)
     have NC:=L (show dJ (w8.setCell ⟨w.heap.size,4,aj⟩ (J t1 tn t2)) w.heap.size #[O U b.me,J p1 q1 s1,J p2 q2 s2,J p3 q3 s3,J t1 tn t2,J p5 q5 s5] 28 by simpa using dR (k:=4) G1 (J t1 tn t2));have MC:=L (CP.out.but (dP w8 w.heap.size 4 (J t1 tn t2)) G1);have M3:=L ((dP w8 w.heap.size 4 (J t1 tn t2)).box G3 (by omega));have M2:=L ((dP w8 w.heap.size 4 (J t1 tn t2)).box G2.out (by omega));have ML:=L (show Below w.heap.size w (w8.setCell ⟨w.heap.size,4,aj⟩ (J t1 tn t2)) from (FL2.out.trans (hbel.mono (by have:=L4.out; omega))).setCell (p:=⟨w.heap.size,4,aj⟩) (aL _) _);have x4:=G1.cell 4;have Qx:=G1.fr 4;have xlt:=G1.lt;simp only [ah,V,Z] at x4;clear hown hbel hoth hoff G1 G2 G3 CP FB FB2 FC FC2 FO FO2 F2 F22 F3 F32 FL FL2 wX HL2 HA2 Fg IN SZ;go_upto_region 10 with fail;clear x4 Qx xlt;generalize w8.setCell ⟨w.heap.size,4,aj⟩ (J t1 tn t2)=w9 at *;have Q1:=NC.out;have Q2:=M2.out;have Q3:=M3.out;obtain⟨x0,x1,x2,x3,x4,x5⟩:=Q1.fu;have d6:=Q2.cell 6;simp only [ah,V,Z] at d6;obtain⟨z0,z1,z2,z3,z4,z5⟩:=Q3.fu;obtain⟨zf0,zf1,zf2,zf3,zf4,zf5⟩:=Q3.kD;have zlt:=Q3.lt;have FB:=L ((dL Q3 (O U b.me) (J p1 q1 s1) (J p2 q2 s2) (J p3 q3 s3) (J t1 tn t2) (J p5 q5 s5)).on (ay _ _).drew);have FC:=L ((MC.out.but (eX w9 (w.heap.size+1+1) (O U b.me) (J p1 q1 s1) (J p2 q2 s2) (J p3 q3 s3) (J t1 tn t2) (J p5 q5 s5)) Q3).grow (ay _ _).drew);have FL:=L (dG (b:=w.heap.size+1+1) ML.out (by omega) (O U b.me) (J p1 q1 s1) (J p2 q2 s2) (J p3 q3 s3) (J t1 tn t2) (J p5 q5 s5)).drew;clear Q1 Q2 Q3 NC MC M2 M3 ML;go_wp2
     go_region
     all_goals simp only [Exit.then]
     all_goals apply_assumption
     all_goals
      clear x0 x1 x2 x3 x4 x5;clear z0 z1 z2 z3 z4 z5 zf0 zf1 zf2 zf3 zf4 zf5 zlt;clear d6;unfold gF at FB FC FL;generalize (((((((w9).setCell ⟨w.heap.size+1+1,0,aj⟩ (O U b.me)).setCell ⟨w.heap.size+1+1,1,aj⟩ (J p1 q1 s1)).setCell ⟨w.heap.size+1+1,2,aj⟩ (J p2 q2 s2)).setCell ⟨w.heap.size+1+1,3,aj⟩ (J p3 q3 s3)).setCell ⟨w.heap.size+1+1,4,aj⟩ (J t1 tn t2)).setCell ⟨w.heap.size+1+1,5,aj⟩ (J p5 q5 s5)).drew=wz at *;obtain⟨v0,v1,v2,v3,v4,v5⟩:=FB.out.fu;go_wp2;refine bodyPost_ret (v:=.tuple #[aO #[O U b.me,J p1 q1 s1,J p2 q2 s2,J p3 q3 s3,J t1 tn t2,J p5 q5 s5],au (!cv)]) (by simp [results,aI,go_sem,v0,v1,v2,v3,v4,v5]) rfl ?_;rw [LQ.out];exact⟨⟨(p1,q1,s1),(p2,q2,s2),(p3,q3,s3),(t1,tn,t2),(p5,q5,s5),rfl,FC.out.vbr,fun _=>⟨_,FC.out.near⟩,fun _=>⟨_,_,FC.out⟩⟩,FL.out⟩
    ·have LQ:=L (show gQ b e=(b,aC) from by
      rw [<- wL HR.out];unfold K9;obtain⟨a,h0,h1⟩:∃ a,gL b.dQ e.tree=aA a/\r4=a.par:=by
       rw [ET.out];rcases HI.out with⟨h,_⟩|⟨_,h⟩
       ·cases h
       ·exact h
      rw [h0];simp only;rw [if_neg (by rw [ET.out,ES.out,TH.out]; simp),if_pos ?_];refine⟨?_,?_⟩
      ·rw [EF.out,<- h1];have:=FQ.out;simpa using this
      ·rw [<- h1];have:=RT.out;simpa using this)
     have Q1:=T1.out;have Q3:=T3.out;obtain⟨x0,x1,x2,x3,x4,x5⟩:=Q1.fu;obtain⟨z0,z1,z2,z3,z4,z5⟩:=Q3.fu;obtain⟨zf0,zf1,zf2,zf3,zf4,zf5⟩:=Q3.kD;have zlt:=Q3.lt;have FB:=L (dL Q3 (O U b.me) (J no nn nc) (J ao an ac) (J so sn sc) (J eo en ec) (J oo dY oc));have FL:=L (dG (b:=w.heap.size+1+1) BW.out (by omega) (O U b.me) (J no nn nc) (J ao an ac) (J so sn sc) (J eo en ec) (J oo dY oc));clear Q1 Q3;go_wp2_with fail;clear z0 z1 z2 z3 z4 z5;obtain⟨v0,v1,v2,v3,v4,v5⟩:=FB.out.fu;refine bodyPost_ret (v:=.tuple #[aO #[O U b.me,J no nn nc,J ao an ac,J so sn sc,J eo en ec,J oo dY oc],au aC]) (by simp [results,aI,go_sem,v0,v1,v2,v3,v4,v5]) rfl ?_;rw [LQ.out];exact⟨⟨(no,nn,nc),(ao,an,ac),(so,sn,sc),(eo,en,ec),(oo,dY,oc),rfl,HH.out.on FL.out,fun h=>h.on FL.out,fun h=>(h.resolve_right (by simp)).on FL.out⟩,FL.out⟩
   ·cases fq
    all_goals
     have x1:=T2.out.cell 1;have x0:=T2.out.cell 0;have x2:=T2.out.cell 2;have x3:=T2.out.cell 3;have x4:=T2.out.cell 4;have x6:=T2.out.cell 6;simp only [ah,V,Z] at x0 x1 x2 x3 x4 x6;have PE:=L (show fH w3 (J yo yn yc) e.p from (EE.out.2.2.2.2).on BW.out);have CP:=L (Nj (y1,y2,y3,y4,(yo,yn,yc),y6,y7) e.p w3 PE.out (iF OE.out));go_wp2_with fail;refine CP.out.mono ?_;rintro e4 w3b ⟨⟨⟨u1,u2,u3⟩,rfl,ho⟩,hb⟩;clear x0 x1 x2 x3 x4 x6;clear a3 d5;have V2:=T2.out.on hb;obtain⟨x0,x1,x2,x3,x4,x5,x6⟩:=V2.oJ;obtain⟨xf0,xf1,Yv,Yw,Qx,Yx,xf6⟩:=V2.fs7;have xlt:=V2.lt;have bs:=Iq w3b (w.heap.size+1) (O U y1) (O U y2) (O U y3) (O U y4) (J u1 u2 u3) (O U y6) (au y7);have E2:=L (Ao V2 (O U y1) (O U y2) (O U y3) (O U y4) (J u1 u2 u3) (O U y6) (au y7));have E1:=L (bs.box (T1.out.on hb) (by omega));have E3:=L (bs.box (T3.out.on hb) (by omega));have EO:=L (bs.own ho V2 (by decide));have EL:=L (vH (b:=w.heap.size+1) (BW.out.trans (hb.mono BW.out.size)) (by omega) (O U y1) (O U y2) (O U y3) (O U y4) (J u1 u2 u3) (O U y6) (au y7));have YK:=L (show w3.heap.size<=(Ip w3b (w.heap.size+1) (O U y1) (O U y2) (O U y3) (O U y4) (J u1 u2 u3) (O U y6) (au y7)).heap.size by have:=hb.size; simp; omega);have L4:=L (show w.heap.size+1+1<w3.heap.size from T3.out.lt);clear V2 ho hb CP T1 T2 T3 BW bs;go_upto_region 7 with fail;clear x0 x1 x2 x3 x4 x5 x6 xf0 xf1 Yv Yw Qx Yx xf6 xlt;unfold Ip at E2 E1 E3 EO EL YK;generalize (((((((w3b).setCell ⟨w.heap.size+1,0,aj⟩ (O U y1)).setCell ⟨w.heap.size+1,1,aj⟩ (O U y2)).setCell ⟨w.heap.size+1,2,aj⟩ (O U y3)).setCell ⟨w.heap.size+1,3,aj⟩ (O U y4)).setCell ⟨w.heap.size+1,4,aj⟩ (J u1 u2 u3)).setCell ⟨w.heap.size+1,5,aj⟩ (O U y6)).setCell ⟨w.heap.size+1,6,aj⟩ (au y7)=w4b at *;have x6:=E2.out.cell 6;have xf6:=E2.out.fr 6;have xlt:=E2.out.lt;simp only [ah,V,Z] at x6;have bs:=dP w4b (w.heap.size+1) 6 (au aC);have T2:=L (show dJ (w4b.setCell ⟨w.heap.size+1,6,aj⟩ (au aC)) (w.heap.size+1) #[O U y1,O U y2,O U y3,O U y4,J u1 u2 u3,O U y6,au aC] 66 by simpa using dR (k:=6) E2.out (au aC));have T1:=L (bs.box E1.out (by omega));have T3:=L (bs.box E3.out (by omega));have OC:=L (bs.own EO.out E2.out (by decide));have BW:=L (EL.out.setCell (p:=⟨w.heap.size+1,6,aj⟩) (by simp) (au aC));have S45:=L (show w3.heap.size<=(w4b.setCell ⟨w.heap.size+1,6,aj⟩ (au aC)).heap.size by have:=YK.out; simp; omega);clear bs E1 E2 E3 EO EL YK;go_upto_region 8 with fail;clear x6 xf6 xlt;generalize w4b.setCell ⟨w.heap.size+1,6,aj⟩ (au aC)=w5 at *;have LQ:=L (show gQ b e=({ b with ent:=fU b.ent k { e with up:=aC } },aC) from by
      rw [<- wL HR.out];unfold K9;obtain⟨a,h0,h1⟩:∃ a,gL b.dQ e.tree=aA a/\r4=a.par:=by
       rw [ET.out];rcases HI.out with⟨h,_⟩|⟨_,h⟩
       ·cases h
       ·exact h
      rw [h0];simp only;rw [if_neg (by rw [ET.out,ES.out,TH.out]; simp),if_neg ?_,show fB (b.ent.map fJ) (e.tree,e.sub)=k by rw [ET.out,ES.out]; exact HK.out,<- h1,RT.out]
      ·rfl
      ·rintro⟨_,g⟩;rw [<- h1] at g;have:=RT.out;simp at this;exact g this)
     have Q1:=T1.out;obtain⟨x0,x1,x2,x3,x4,x5⟩:=Q1.fu;clear Q1;go_wp2_with fail;refine (tV b (no,nn,nc) (ao,an,ac) (so,sn,sc) (eo,en,ec) (oo,dY,oc) w w5 BW.out HH.out HF.out HP.out).mono ?_;rintro e6 w6 ⟨⟨⟨p1,q1,s1⟩,⟨p2,q2,s2⟩,⟨p3,q3,s3⟩,⟨p4,q4,s4⟩,⟨p5,q5,s5⟩,rfl,cp⟩,hb6⟩;clear x0 x1 x2 x3 x4 x5;have V1:=T1.out.on hb6;have V2:=L (T2.out.on hb6);have V3:=L (T3.out.on hb6);obtain⟨x0,x1,x2,x3,x4,x5⟩:=V1.fu;obtain⟨xf0,xf1,Yv,Yw,Qx,Yx⟩:=V1.kD;have xlt:=V1.lt;have bs:=eX w6 w.heap.size (O U b.me) (J p1 q1 s1) (J p2 q2 s2) (J p3 q3 s3) (J p4 q4 s4) (J p5 q5 s5);have FB:=L (dL V1 (O U b.me) (J p1 q1 s1) (J p2 q2 s2) (J p3 q3 s3) (J p4 q4 s4) (J p5 q5 s5));have FC:=L (Sb.Cp.less (cp.but bs V1) (show w3.heap.size<=w5.heap.size from S45.out));have FO:=L (bs.own (Bk.dI OC.out hb6) V1 (by decide));have FL:=L (dG (b:=w.heap.size) (BW.out.trans (hb6.mono BW.out.size)) (aL _) (O U b.me) (J p1 q1 s1) (J p2 q2 s2) (J p3 q3 s3) (J p4 q4 s4) (J p5 q5 s5));have F2:=L (bs.box V2.out (by omega));have F3:=L (bs.box V3.out (by omega));have SZ:=L (show w3.heap.size<=(gF w6 w.heap.size (O U b.me) (J p1 q1 s1) (J p2 q2 s2) (J p3 q3 s3) (J p4 q4 s4) (J p5 q5 s5)).heap.size by have:=hb6.size; have:=S45.out; simp; omega);clear V1 V2 V3 cp hb6 bs T1 T2 T3 OC BW;go_upto_region 9 with fail;clear x0 x1 x2 x3 x4 x5 xf0 xf1 Yv Yw Qx Yx xlt;unfold gF at FB FC FL F2 F3 SZ FO;generalize ((((((w6).setCell ⟨w.heap.size,0,aj⟩ (O U b.me)).setCell ⟨w.heap.size,1,aj⟩ (J p1 q1 s1)).setCell ⟨w.heap.size,2,aj⟩ (J p2 q2 s2)).setCell ⟨w.heap.size,3,aj⟩ (J p3 q3 s3)).setCell ⟨w.heap.size,4,aj⟩ (J p4 q4 s4)).setCell ⟨w.heap.size,5,aj⟩ (J p5 q5 s5)=w7 at *;obtain⟨le,hle1,hle2⟩:=FC.out.ent;have wX:=L hle1;have HL2:=L hle2;clear hle1 hle2;have nb:=gu w7 (aH #[O U y1,O U y2,O U y3,O U y4,J u1 u2 u3,O U y6,au aC] 66);have bx:=dO w7 #[O U y1,O U y2,O U y3,O U y4,J u1 u2 u3,O U y6,au aC] 66;have IN:=L (yw w3.heap.size (J p4 q4 s4) le k (y1,y2,y3,y4,(u1,u2,u3),y6,aC) w7.heap.size _ (Bk.dI wX.out nb) bx (fun e=>by
      obtain⟨d,hd⟩:=ku wX.out _ e;have:=hd.lt;omega) (by rw [HL2.out.len]; exact KL.out) (by rw [HL2.out.len]; exact HF.out.ent) (aU SZ.out nb.size))
     have FB2:=L (FB.out.on nb);have F22:=L (F2.out.on nb);have F32:=L (F3.out.on nb);have FO2:=L (Bk.dI FO.out nb);have FC2:=L (FC.out.grow nb);have FL2:=L (FL.out.trans (nb.mono FL.out.size));have HA2:=L (HL2.out.mono fun _ _ q=>q.grow nb);have Fg:=L (ku (Bk.dI wX.out nb));have x4:=FB.out.cell 4;simp only [ah,V,Z] at x4;obtain⟨d0,d1,d2,d3,d4,d5,d6⟩:=F2.out.oJ;clear nb bx;go_wp2_with fail;refine IN.out.mono ?_;rintro e8 w8 ⟨v8,rfl,hown,hbel,hoth⟩;clear x4;clear d0 d1 d2 d3 d4 d5 d6;generalize w7.alloc (aH #[O U y1,O U y2,O U y3,O U y4,J u1 u2 u3,O U y6,au aC] 66)=w7a at *;obtain⟨t1,t2,hv8⟩:=(Row.dH hown).len;subst hv8;generalize (le.take k++(y1,y2,y3,y4,(u1,u2,u3),y6,aC)::le.drop k).length=tn at *;have hoff:Off (J p4 q4 s4).ownBlock w7a w8:=⟨hoth,hbel.size⟩;have CP:=L (FC2.out.acg (ev':=(t1,tn,t2)) (el:=fU b.ent k { e with up:=aC }) hoff ⟨fU le k (y1,y2,y3,y4,(u1,u2,u3),y6,aC),by unfold fU; rw [aV]; exact hown,zZ (HA2.out.mono fun _ _ q=>q.off hoff Fg.out (by decide)) k ⟨EE.out.1,EE.out.2.1,EE.out.2.2.1,rfl,aK (hoff.own FO2.out Fg.out (by decide))⟩⟩);have G1:=hoff.box FB2.out Fg.out (by decide);have G3:=hoff.box F32.out Fg.out (by decide);have G2:=L (show dJ w8 (w.heap.size+1) #[O U y1,O U y2,O U y3,O U y4,J u1 u2 u3,O U y6,au aC] 66 from (hoth _ F22.out.lt (fun e=>by
      have:=Nn wX.out _ e.symm;have:=L4.out;omega)).trans F22.out)
     have NC:=L (show dJ (w8.setCell ⟨w.heap.size,4,aj⟩ (J t1 tn t2)) w.heap.size #[O U b.me,J p1 q1 s1,J p2 q2 s2,J p3 q3 s3,J t1 tn t2,J p5 q5 s5] 28 by simpa using dR (k:=4) G1 (J t1 tn t2));have MC:=L (CP.out.but (dP w8 w.heap.size 4 (J t1 tn t2)) G1);have M3:=L ((dP w8 w.heap.size 4 (J t1 tn t2)).box G3 (by omega));have M2:=L ((dP w8 w.heap.size 4 (J t1 tn t2)).box G2.out (by omega));have ML:=L (show Below w.heap.size w (w8.setCell ⟨w.heap.size,4,aj⟩ (J t1 tn t2)) from (FL2.out.trans (hbel.mono (by have:=L4.out; omega))).setCell (p:=⟨w.heap.size,4,aj⟩) (aL _) _);have x4:=G1.cell 4;have Qx:=G1.fr 4;have xlt:=G1.lt;simp only [ah,V,Z] at x4;clear hown hbel hoth hoff G1 G2 G3 CP FB FB2 FC FC2 FO FO2 F2 F22 F3 F32 FL FL2 wX HL2 HA2 Fg IN SZ;go_upto_region 10 with fail;clear x4 Qx xlt;generalize w8.setCell ⟨w.heap.size,4,aj⟩ (J t1 tn t2)=w9 at *;have Q1:=NC.out;have Q2:=M2.out;have Q3:=M3.out;obtain⟨x0,x1,x2,x3,x4,x5⟩:=Q1.fu;have d6:=Q2.cell 6;simp only [ah,V,Z] at d6;obtain⟨z0,z1,z2,z3,z4,z5⟩:=Q3.fu;obtain⟨zf0,zf1,zf2,zf3,zf4,zf5⟩:=Q3.kD;have zlt:=Q3.lt;have FB:=L ((dL Q3 (O U b.me) (J p1 q1 s1) (J p2 q2 s2) (J p3 q3 s3) (J t1 tn t2) (J p5 q5 s5)).on (ay _ _).drew);have FC:=L ((MC.out.but (eX w9 (w.heap.size+1+1) (O U b.me) (J p1 q1 s1) (J p2 q2 s2) (J p3 q3 s3) (J t1 tn t2) (J p5 q5 s5)) Q3).grow (ay _ _).drew);have FL:=L (dG (b:=w.heap.size+1+1) ML.out (by omega) (O U b.me) (J p1 q1 s1) (J p2 q2 s2) (J p3 q3 s3) (J t1 tn t2) (J p5 q5 s5)).drew;clear Q1 Q2 Q3 NC MC M2 M3 ML;go_wp2
     go_region
     all_goals simp only [Exit.then]
     all_goals apply_assumption
     all_goals
      clear x0 x1 x2 x3 x4 x5;clear z0 z1 z2 z3 z4 z5 zf0 zf1 zf2 zf3 zf4 zf5 zlt;clear d6;unfold gF at FB FC FL;generalize (((((((w9).setCell ⟨w.heap.size+1+1,0,aj⟩ (O U b.me)).setCell ⟨w.heap.size+1+1,1,aj⟩ (J p1 q1 s1)).setCell ⟨w.heap.size+1+1,2,aj⟩ (J p2 q2 s2)).setCell ⟨w.heap.size+1+1,3,aj⟩ (J p3 q3 s3)).setCell ⟨w.heap.size+1+1,4,aj⟩ (J t1 tn t2)).setCell ⟨w.heap.size+1+1,5,aj⟩ (J p5 q5 s5)).drew=wz at *;obtain⟨v0,v1,v2,v3,v4,v5⟩:=FB.out.fu;go_wp2;refine bodyPost_ret (v:=.tuple #[aO #[O U b.me,J p1 q1 s1,J p2 q2 s2,J p3 q3 s3,J t1 tn t2,J p5 q5 s5],au aC]) (by simp [results,aI,go_sem,v0,v1,v2,v3,v4,v5]) rfl ?_;rw [LQ.out];exact⟨⟨(p1,q1,s1),(p2,q2,s2),(p3,q3,s3),(t1,tn,t2),(p5,q5,s5),rfl,FC.out.vbr,fun _=>⟨_,FC.out.near⟩,fun _=>⟨_,_,FC.out⟩⟩,FL.out⟩
  ·have LQ:=L (show gQ b e=(b,aC) from by
    rw [<- wL HR.out];unfold K9;obtain⟨a,h0,h1⟩:∃ a,gL b.dQ e.tree=aA a/\r4=a.par:=by
     rw [ET.out];rcases HI.out with⟨h,_⟩|⟨_,h⟩
     ·cases h
     ·exact h
    rw [h0];simp only;rw [if_pos (by rw [ET.out,ES.out,TH.out])])
   have Q1:=T1.out;have Q3:=T3.out;obtain⟨x0,x1,x2,x3,x4,x5⟩:=Q1.fu;obtain⟨z0,z1,z2,z3,z4,z5⟩:=Q3.fu;obtain⟨zf0,zf1,zf2,zf3,zf4,zf5⟩:=Q3.kD;have zlt:=Q3.lt;have FB:=L (dL Q3 (O U b.me) (J no nn nc) (J ao an ac) (J so sn sc) (J eo en ec) (J oo dY oc));have FL:=L (dG (b:=w.heap.size+1+1) BW.out (by omega) (O U b.me) (J no nn nc) (J ao an ac) (J so sn sc) (J eo en ec) (J oo dY oc));clear Q1 Q3;go_wp2_with fail;clear z0 z1 z2 z3 z4 z5;obtain⟨v0,v1,v2,v3,v4,v5⟩:=FB.out.fu;refine bodyPost_ret (v:=.tuple #[aO #[O U b.me,J no nn nc,J ao an ac,J so sn sc,J eo en ec,J oo dY oc],au aC]) (by simp [results,aI,go_sem,v0,v1,v2,v3,v4,v5]) rfl ?_;rw [LQ.out];exact⟨⟨(no,nn,nc),(ao,an,ac),(so,sn,sc),(eo,en,ec),(oo,dY,oc),rfl,HH.out.on FL.out,fun h=>h.on FL.out,fun h=>(h.resolve_right (by simp)).on FL.out⟩,FL.out⟩
end Sb
namespace Rl
open Go.RowKit Go.Sort Pu Rw Pr Va
def Ur (a b:List Cn) (w:aD) (e:Ending) (w':aD):Prop:=Below w.heap.size w w'/\(match jW a.length a b with
 | .ok p=>∃ pv,e=aF (.tuple #[pv,au aW])/\fH w' pv (p.map r5)
 | .error _=>∃ pv,e=aF (.tuple #[pv,au aC]))
theorem Iy {a b:List Cn} (na:NF a) (nb:NF b):Sy (a++b):=⟨by have:=na.five; have:=nb.five; simp; omega,fun c hc=>by
 rcases aX.1 hc with h|h
 ·exact na.small c h
 ·exact nb.small c h⟩
theorem YL (oL bv:aJ) (a b:List Cn) (w:aD) (ha:fH w oL (a.map r5)) (hb:fH w bv (b.map r5)) (na:NF a) (nb:NF b):aR aB 75 #[oL,bv] w (Ur a b w):=by
 have B0:=L (show Below w.heap.size w (w.alloc (aH #[oL,bv] 32)) from (ay _ _).alloc (aL _) _);have CT:=L (Ko w.heap.size oL bv (a.map r5) (b.map r5) (w.alloc (aH #[oL,bv] 32)) (by simp [go_sem]) (by simp [go_sem]) (ha.on B0.out) (hb.on B0.out) (by rw [aM]; have:=na.five; omega) (by rw [aM]; have:=nb.five; omega));have SP:=L (Iy na nb);have GD:=L (show ∀ c∈a++b,uF c=aW from fun c hc=>by
  rcases aX.1 hc with h|h
  ·exact na.good c h
  ·exact nb.good c h)
 have MB:=L (PG (b:=b) na.rise na.five);obtain⟨ao,ac,rfl⟩:=ha.len;obtain⟨bo,bc,rfl⟩:=hb.len;clear ha hb na nb;simp only [aM] at CT B0 ⊢;obtain⟨res,hres⟩:∃ r,r=jW a.length a b:=⟨_,rfl⟩;have MQ:=L (show ∀ e w',(Below w.heap.size w w'/\(match res with
  | .ok p=>∃ pv,e=aF (.tuple #[pv,au aW])/\fH w' pv (p.map r5)
  | .error _=>∃ pv,e=aF (.tuple #[pv,au aC])))->Ur a b w e w' from fun e w' h=>by unfold Ur; rw [<- hres]; exact h)
 rw [<- hres] at MB;generalize hq:Ur a b w=q at *;clear hq hres;go_enter Tryz.func75,Tryz.ntmps75;go_wp2_with fail;refine CT.out.mono ?_;rintro e1 w1 ⟨v1,rfl,ho,hb1⟩;have B1:=L (B0.out.trans (hb1.mono B0.out.size));have MK:=L (Uk v1 (a++b) w1 (by rw [List.map_append]; exact Row.dH ho) SP.out GD.out);clear ho hb1 CT SP GD B0;go_wp2_with fail;refine MK.out.mono ?_;rintro e2 w2 ⟨hb2,h2⟩;have B2:=L (B1.out.trans (hb2.mono B1.out.size));rw [MB.out] at h2;clear hb2 MK B1 MB;rcases res with _|p
 ·obtain⟨bb,rfl⟩:=h2;go_wp2
  go_region
  all_goals simp only [Exit.then]
  all_goals apply_assumption
  all_goals go_wp2
  all_goals exact MQ.out _ _ ⟨B2.out.drew,_,rfl⟩
 ·obtain⟨pv,rfl,hp⟩:=h2;have HP:=L hp;clear hp;go_wp2
  go_region
  all_goals simp only [Exit.then]
  all_goals apply_assumption
  all_goals go_wp2
  all_goals exact MQ.out _ _ ⟨B2.out.drew,_,rfl,HP.out.on (ay _ _).drew⟩
theorem La (oL bv:aJ) (a b:List Cn) (w:aD) (ha:fH w oL (a.map r5)) (hb:fH w bv (b.map r5)) (na:NF a) (nb:NF b):aR aB 24 #[oL,bv] w fun e w'=>e=aF (au (sD a b))/\Below w.heap.size w w':=by
 have T:=L (YL oL bv a b w ha hb na nb);have MM:=L (show sD a b=match jW a.length a b with
  | .ok _=>aW
  | .error _=>aC from rfl)
 unfold Ur at T;generalize sD a b=r at *;generalize jW a.length a b=res at *;clear ha hb na nb;go_enter Tryz.func24,Tryz.ntmps24;go_wp2_with fail;refine T.out.mono ?_;rintro e1 w1 ⟨hb1,h1⟩;have B1:=L hb1;clear hb1 T;rcases res with _|p
 ·obtain⟨pv,rfl⟩:=h1;have M:=L (show r=aC from MM.out);clear MM;go_wp2;go_ret;exact⟨eD M.out.symm,B1.out⟩
 ·obtain⟨pv,rfl,hp⟩:=h1;have M:=L (show r=aW from MM.out);clear MM hp;go_wp2;go_ret;exact⟨eD M.out.symm,B1.out⟩
end Rl
namespace Sb
open Go.RowKit Go.Sort Rw YtmklifheakemeaaGreat.Nm Pr Bk Av
end Sb
namespace Sb
open Go.RowKit Go.Sort Rw YtmklifheakemeaaGreat.Nm Pr Bk Av Rl
end Sb
end Go.Proofs.YtmklifheakemeaaGreat
