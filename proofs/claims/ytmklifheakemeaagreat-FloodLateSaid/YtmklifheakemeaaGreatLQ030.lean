/-
  copyMessage and Sub . Conditions as told.
-/
import Derived.Test.YtmklifheakemeaaGreatLQ028
import Derived.Test.YtmklifheakemeaaGreatLQ029
set_option maxRecDepth 100000
set_option maxHeartbeats 64000000
open _root_.Go renaming World->aA,Value->aD,Addr->aM,Calls->aO
open Go.Ending renaming returned->aC
open Go.IntKind renaming i64->J
open Go.Lib renaming hid->U
open Go.Obj renaming cells->aG
open Go.Operand renaming tmp->ay
open Go.Proofs.Tryz renaming prog->au,ntmps159->aS,func126->aU,func123->aV,func159->aX
open Go.Proofs.YtmklifheakemeaaGreat.Rg renaming dF->aF,get_put->aK,dH->aL,eP->aQ,eu->aT,fP->aY,fO->bf,gN->bg,jN->bq,gB->bF,gF->bG
open Go.RowKit.Below renaming refl->ah
open Go.Value renaming int->L,slice->O,pointer->V,bool->aH,agg->aI
open _root_.List renaming getElem?_toArray->Y,getElem?_cons_zero->aj,getElem?_cons_succ->ak,length_map->aJ,map_toArray->aN,mem_append->aP,map_cons->aR,map_nil->aW
open _root_.Option renaming none->X,some->Z
open _root_.Or renaming inr->aB,inl->aZ
namespace Go.Proofs.YtmklifheakemeaaGreat
namespace Fl
open Go.RowKit Go.Sort Rw YtmklifheakemeaaGreat.Nm Pr Bk Av
theorem Vr (a:Option aM) (n c:Nat) (w:aA):(binOp .eql 39 (O a n c) (O X 0 0)).run au w=.ok (aH a.isNone) w:=by
 simp [go_sem,binOp,run_equal_slice_nil (P:=au) w 39 156 a n c Tryz.underlying39]
theorem EK (w:aA):aO au 126 #[O X 0 0] w fun e w'=>e=aC (O X 0 0)/\Below w.heap.size w w':=by
 have q:∀ w',(binOp .eql 39 (O X 0 0) (O X 0 0)).run au w'=.ok (aH true) w':=fun w'=>Vr X 0 0 w';go_enter aU,Tryz.ntmps126;go_wp2;go_ret;exact⟨rfl,ah _ _⟩
theorem Q6 {W:aA} {b:Nat} {z0 z1 z2 z3 z4 z5 z6:aD} (h:dI W b #[z0,z1,z2,z3,z4,z5,z6] 41) (a0 a1 a2 a3 a4:Int) (o5:Option aM) (n5 c5:Nat) (o6:Option aM) (n6 c6:Nat) :
  (Instr.storeAt 41 (V (Z ⟨b,0,X⟩)) (aI #[L J a0,L J a1,L J a2,L J a3,L J a4,O o5 n5 c5,O o6 n6 c6])).run au W=.ok () (Bl W b (L J a0) (L J a1) (L J a2) (L J a3) (L J a4) (O o5 n5 c5) (O o6 n6 c6)):=by
 obtain⟨x0,x1,x2,x3,x4,x5,x6⟩:=h.mE;obtain⟨f0,f1,f2,f3,f4,f5,f6⟩:=h.RA;simp [go_sem,x0,x1,x2,x3,x4,x5,x6,f0,f1,f2,f3,f4,f5,f6]
theorem Ca (w:aA) (b:Nat) (a0 a1 a2 a3 a4 a5 a6:aD):But b w (Bl w b a0 a1 a2 a3 a4 a5 a6) :=
 (((dM _ b _ _).trans (dM _ b _ _)).trans ((dM _ b _ _).trans (dM _ b _ _))).trans (((dM _ b _ _).trans (dM _ b _ _)).trans (dM _ b _ _))
theorem tH {w W:aA} {B b:Nat} (h:Below B w W) (hb:B<=b) (a0 a1 a2 a3 a4 a5 a6:aD):Below B w (Bl W b a0 a1 a2 a3 a4 a5 a6) :=
 ((((((h.setCell (p:=⟨b,0,X⟩) hb a0).setCell (p:=⟨b,1,X⟩) hb a1).setCell (p:=⟨b,2,X⟩) hb a2).setCell (p:=⟨b,3,X⟩) hb a3).setCell (p:=⟨b,4,X⟩) hb a4).setCell (p:=⟨b,5,X⟩) hb a5).setCell (p:=⟨b,6,X⟩) hb a6
def Q7 (B:Nat) (b1:Nat) (_k _tc _ts _ic _is_:Int) (po:Option aM) (pn pc:Nat) (p:List C5) (i:Nat) (v:aD) (x:aA):Prop :=
 match i with
 | 0=>v=V (Z ⟨b1,5,X⟩)
 | 1=>v=O po pn pc
 | 2=>∃ s:Sl,v=dO s/\gG x B v p
 | 3=>v=V (Z ⟨b1,6,X⟩)
 | 4=>v=O X 0 0
 | 5=>v=O X 0 0
 | 6=>v=V (Z ⟨b1,5,X⟩)
 | _=>True
noncomputable def Ym:Code:=((Tryz.f78.body.bind (eT 1)).getD .skip)
theorem Q8 (B:Nat) (b1:Nat) (k tc ts ic nV:Int) (po:Option aM) (pn pc:Nat) (p:List C5) (i:Nat) (v:aD) (x x':aA) (h:Q7 B b1 k tc ts ic nV po pn pc p i v x) (hb:Below x.heap.size x x'):Q7 B b1 k tc ts ic nV po pn pc p i v x':=by
 by_cases hi:i<7
 ·rcases (by omega:i=0\/i=1\/i=2\/i=3\/i=4\/i=5\/i=6) with rfl|rfl|rfl|rfl|rfl|rfl|rfl
  ·exact h
  ·exact h
  ·obtain⟨s,h1,h2⟩:=h; exact⟨s,h1,Bk.dJ h2 hb⟩
  ·exact h
  ·exact h
  ·exact h
  ·exact h
 ·unfold Q7
  split <;> first | omega | trivial
theorem cm1 (Q:Exit->Act->aA->Prop) (W:aA) (b1:Nat) (k tc ts ic nV:Int) (po:Option aM) (pn pc:Nat) (p:List C5) (u0 u2 u3 u4 u5 u6 u7 u8 u9 u10 u11:aD)
  (h1:dI W b1 #[L J k,L J tc,L J ts,L J ic,L J nV,O po pn pc,O X 0 0] 41) (r5:eY W (O po pn pc) p) (l5:p.length<=900)
  (hQ:∀ (x:aA) (v3 v4 v5 v6 v7 v8 v9 v10:aD) (q1:Option aM) (q2 q3:Nat),dI x b1 #[L J k,L J tc,L J ts,L J ic,L J nV,O q1 q2 q3,O X 0 0] 41->gG x W.heap.size (O q1 q2 q3) p->(∀ B,B<=b1->Below B W x)->But b1 W x->Q .normal ⟨(u0::V (Z ⟨b1,0,X⟩)::u2::v3::v4::v5::v6::v7::v8::v9::v10::u11::[]).toArray,[]⟩ x) :
  Code.wp au Ym Q ⟨(u0::V (Z ⟨b1,0,X⟩)::u2::u3::u4::u5::u6::u7::u8::u9::u10::u11::[]).toArray,[]⟩ W:=by
 have HQ:=U hQ;have H1:=U h1;have R5:=U r5;have L5:=U l5;clear hQ h1 r5 l5;have jG:=Q8 W.heap.size b1 k tc ts ic nV po pn pc p;unfold Ym
 conv=>arg 2; whnf
 have nd:∀ j,(j<3\/10<=j)->∀ i,i<7->(fun i=>3+i) i≠j:=by
  intro j hj i hi h;simp only at h;omega
 refine bg 10 7 (fun i=>3+i) (fun _=>7) (Q7 W.heap.size b1 k tc ts ic nV po pn pc p) (by kernel_rfl) (by kernel_rfl) rfl (by decide) (fun i j _ _ h=>by have h2:3+i=3+j:=h; omega) (fun i hi=>by show 3+i<12; omega) ?_ (fun _=>bq 14 (by kernel_rfl)) ?_ ?_
 ·intro i o hi ho a x D hnd hc hD hb seen K hK;clear HQ;rcases (by omega:i=0\/i=1\/i=2\/i=3\/i=4\/i=5\/i=6) with rfl|rfl|rfl|rfl|rfl|rfl|rfl
  ·cases ho;have e1:a.eval (ay 1)=V (Z ⟨b1,0,X⟩):=seen.kp 1 _ (nd 1 (by omega)) rfl;exact aF rfl rfl (aQ a.eval _ 41 (ay 1) 3 rfl (by rw [e1]; simp [go_sem])) (hK _ _ rfl (ah _ _) fun _ _ _ _ _ _ _ h=>h)
  ·cases ho;have e3:a.eval (ay 3)=V (Z ⟨b1,5,X⟩):=seen.at_ ⟨0,.data⟩ (by simp) rfl (aB (by decide));have y5:=(H1.out.on hb).cell 5;simp only [Y,aj,ak] at y5;exact aF rfl rfl (aT a.eval _ 32 (ay 3) rfl (by rw [e3]; simp [go_sem,y5])) (hK _ _ rfl (ah _ _) fun _ _ _ _ _ _ _ h=>h)
  ·cases ho;have e4:a.eval (ay 4)=O po pn pc:=seen.at_ ⟨1,.data⟩ (by simp) rfl (aB (by decide));exact bf rfl rfl (Rw.gu a.eval _ (ay 4) 32 123 rfl e4 rfl _ (fI aV rfl rfl _ _)) (kE (po,pn,pc) p x (R5.out.on hb) L5.out) fun e w1 h=>by
    obtain⟨⟨s,rfl,h1⟩,h3⟩:=h;exact⟨_,rfl,hK _ _ ⟨s,rfl,dK h1 hb.size⟩ (h3.mono hb.size) fun j u hj _ _ _ hne h=>jG j u _ _ h h3⟩
  ·cases ho;have e1:a.eval (ay 1)=V (Z ⟨b1,0,X⟩):=seen.kp 1 _ (nd 1 (by omega)) rfl;exact aF rfl rfl (aQ a.eval _ 41 (ay 1) 4 rfl (by rw [e1]; simp [go_sem])) (hK _ _ rfl (ah _ _) fun _ _ _ _ _ _ _ h=>h)
  ·cases ho;have e6:a.eval (ay 6)=V (Z ⟨b1,6,X⟩):=seen.at_ ⟨3,.data⟩ (by simp) rfl (aB (by decide));have y6:=(H1.out.on hb).cell 6;simp only [Y,aj,ak] at y6;exact aF rfl rfl (aT a.eval _ 39 (ay 6) rfl (by rw [e6]; simp [go_sem,y6])) (hK _ _ rfl (ah _ _) fun _ _ _ _ _ _ _ h=>h)
  ·cases ho;have e7:a.eval (ay 7)=O X 0 0:=seen.at_ ⟨4,.data⟩ (by simp) rfl (aB (by decide));exact bf rfl rfl (Rw.gu a.eval _ (ay 7) 39 126 rfl e7 rfl _ (fI aU rfl rfl _ _)) (EK x) fun e w1 h=>by
    obtain⟨rfl,h3⟩:=h;exact⟨_,rfl,hK _ _ rfl (h3.mono hb.size) fun j u hj _ _ _ hne h=>jG j u _ _ h h3⟩
  ·cases ho;have e1:a.eval (ay 1)=V (Z ⟨b1,0,X⟩):=seen.kp 1 _ (nd 1 (by omega)) rfl;exact aF rfl rfl (aQ a.eval _ 41 (ay 1) 3 rfl (by rw [e1]; simp [go_sem])) (hK _ _ rfl (ah _ _) fun _ _ _ _ _ _ _ h=>h)
 ·intro kk o h1 h2 ho;rcases (by omega:kk=8\/kk=9) with rfl|rfl
  ·cases ho;exact⟨⟨7,.phase⟩,by simp,rfl,rfl⟩
  ·cases ho;exact⟨⟨8,.data⟩,by simp,rfl,rfl⟩
 ·intro a w' df sz kp ⟨vs,hv⟩ hb;have sz':a.tmps.size=12:=sz;have g1:a.tmps[1]?=Z (V (Z ⟨b1,0,X⟩)):=(kp 1 (nd 1 (by omega))).trans rfl;have g8:a.tmps[8]?=Z (O X 0 0):=by
   have h:vs 5=O X 0 0:=(hv 5 (by omega)).2 (by decide);rw [<- h];exact (hv 5 (by omega)).1
  have g9:a.tmps[9]?=Z (V (Z ⟨b1,5,X⟩)):=by
   have h:vs 6=V (Z ⟨b1,5,X⟩):=(hv 6 (by omega)).2 (by decide);rw [<- h];exact (hv 6 (by omega)).1
  obtain⟨⟨q1,q2,q3⟩,hs,ho⟩:=(hv 2 (by omega)).2 (by decide);have g5:a.tmps[5]?=Z (O q1 q2 q3):=((hv 2 (by omega)).1).trans (congrArg Z hs);rw [hs] at ho;have hB:=H1.out.on hb;have hlt:=H1.out.lt;show aY _ _ _ 3 7 a w';simp only [aY];have XV:=hB.cell 5;have f5x:=hB.fr 5;simp only [Y,aj,ak] at XV;refine bF 32 (ay 9) (ay 5) rfl rfl rfl rfl (aL g9) (aL g5) (w':=(w').setCell ⟨b1,5,X⟩ (O q1 q2 q3)) (by simp [go_sem,XV,f5x]) ?_;have XW:dI ((w').setCell ⟨b1,5,X⟩ (O q1 q2 q3)) b1 #[L J k,L J tc,L J ts,L J ic,L J nV,O q1 q2 q3,O X 0 0] 41:=by simpa using eD (k:=5) hB (O q1 q2 q3)
  refine aF rfl rfl (aQ _ _ 41 (ay 1) 4 rfl (v:=V (Z ⟨b1,6,X⟩)) (by rw [aL g1]; simp [go_sem])) ?_;have abm:(a.put (Z 10) (V (Z ⟨b1,6,X⟩))).tmps[10]?=Z (V (Z ⟨b1,6,X⟩)):=by simp [Act.put,sz']
  show Go.wpOp _ _ _ 9 _ (a.put (Z 10) (V (Z ⟨b1,6,X⟩))) _;have c6x:=XW.cell 6;have f6x:=XW.fr 6;simp only [Y,aj,ak] at c6x;refine bF 39 (ay 10) (ay 8) rfl rfl rfl rfl (aL abm) (aL ((aK _ 10 _ 8 (by decide)).trans g8)) (w':=((w').setCell ⟨b1,5,X⟩ (O q1 q2 q3)).setCell ⟨b1,6,X⟩ (O X 0 0)) (by simp [go_sem,c6x,f6x]) ?_;have hB6:dI (((w').setCell ⟨b1,5,X⟩ (O q1 q2 q3)).setCell ⟨b1,6,X⟩ (O X 0 0)) b1 #[L J k,L J tc,L J ts,L J ic,L J nV,O q1 q2 q3,O X 0 0] 41:=by simpa using eD (k:=6) XW (O X 0 0)
  have pQ:∀ j,(j<3\/11<=j)->((a.put (Z 10) (V (Z ⟨b1,6,X⟩)))).tmps[j]?=(u0::V (Z ⟨b1,0,X⟩)::u2::u3::u4::u5::u6::u7::u8::u9::u10::u11::[])[j]?:=fun j hj=>(aK _ 10 _ j (by omega)).trans ((kp j (nd j (by omega))).trans Y);obtain⟨mid,hmid,hfr⟩:=bG (a:=(a.put (Z 10) (V (Z ⟨b1,6,X⟩)))) 3 8 df (by simp [Rg.size_put,sz']) (by simp) pQ;show Q .normal ((a.put (Z 10) (V (Z ⟨b1,6,X⟩)))) _;rw [hfr]
  match mid,hmid with
  | [v3,v4,v5,v6,v7,v8,v9,v10],_ =>
   exact HQ.out _ _ _ _ _ _ _ _ _ q1 q2 q3 hB6 (eU (eU ho b1 5 (O q1 q2 q3) hlt) b1 6 (O X 0 0) hlt) (fun B hBl=>(((hb.mono (Nat.le_of_lt (Nat.lt_of_le_of_lt hBl hlt))).setCell (p:=⟨b1,5,X⟩) hBl (O q1 q2 q3)).setCell (p:=⟨b1,6,X⟩) hBl (O X 0 0))) (((But.of_below hb).trans (dM _ b1 5 _)).trans (dM _ b1 6 _))
def GJ (B:Nat) (b1 _b2:Nat) (y1 y2 y3 y4:Int) (po:Option aM) (pn pc:Nat) (_y6:Int) (_y7:Bool) (p:List C5) (i:Nat) (v:aD) (x:aA):Prop :=
 match i with
 | 0=>v=V (Z ⟨b1,0,X⟩)
 | 1=>v=aI #[L J y1,L J y2]
 | 2=>v=V (Z ⟨b1,2,X⟩)
 | 3=>v=aI #[L J y3,L J y4]
 | 4=>v=V (Z ⟨b1,4,X⟩)
 | 5=>v=O po pn pc
 | 6=>∃ s:Sl,v=dO s/\gG x B (dO s) p
 | 7=>∃ s:Sl,v=aI #[L J 3,L J y1,L J y2,L J y3,L J y4,dO s,O X 0 0]/\gG x B (dO s) p
 | _=>True
noncomputable def Si:Code:=((Tryz.f95.body.bind (eT 1)).getD .skip)
theorem MU (B:Nat) (b1 b2:Nat) (y1 y2 y3 y4:Int) (po:Option aM) (pn pc:Nat) (y6:Int) (y7:Bool) (p:List C5) (i:Nat) (v:aD) (x x':aA) (h:GJ B b1 b2 y1 y2 y3 y4 po pn pc y6 y7 p i v x) (hb:Below x.heap.size x x'):GJ B b1 b2 y1 y2 y3 y4 po pn pc y6 y7 p i v x':=by
 by_cases hi:i<8
 ·rcases (by omega:i=0\/i=1\/i=2\/i=3\/i=4\/i=5\/i=6\/i=7) with rfl|rfl|rfl|rfl|rfl|rfl|rfl|rfl
  ·exact h
  ·exact h
  ·exact h
  ·exact h
  ·exact h
  ·exact h
  ·obtain⟨s,h1,h2⟩:=h; exact⟨s,h1,Bk.dJ h2 hb⟩
  ·obtain⟨s,h1,h2⟩:=h; exact⟨s,h1,Bk.dJ h2 hb⟩
 ·unfold GJ
  split <;> first | omega | trivial
theorem abn (Q:Exit->Act->aA->Prop) (W:aA) (b1 b2:Nat) (y1 y2 y3 y4:Int) (po:Option aM) (pn pc:Nat) (y6:Int) (y7:Bool) (p:List C5) (u0 u3 u4 u5 u6 u7 u8 u9 u10:aD)
  (h1:dI W b1 #[L J y1,L J y2,L J y3,L J y4,O po pn pc,L J y6,aH y7] 66) (h2:dI W b2 #[L J 0,L J 0,L J 0,L J 0,L J 0,O X 0 0,O X 0 0] 41) (r5:eY W (O po pn pc) p) (l5:p.length<=900)
  (hQ:∀ (x:aA) (v3 v4 v5 v6 v7 v8 v9 v10:aD) (q1:Option aM) (q2 q3:Nat),dI x b2 #[L J 3,L J y1,L J y2,L J y3,L J y4,O q1 q2 q3,O X 0 0] 41->gG x W.heap.size (O q1 q2 q3) p->(∀ B,B<=b2->Below B W x)->Q .normal ⟨(u0::V (Z ⟨b1,0,X⟩)::V (Z ⟨b2,0,X⟩)::v3::v4::v5::v6::v7::v8::v9::v10::[]).toArray,[]⟩ x) :
  Code.wp au Si Q ⟨(u0::V (Z ⟨b1,0,X⟩)::V (Z ⟨b2,0,X⟩)::u3::u4::u5::u6::u7::u8::u9::u10::[]).toArray,[]⟩ W:=by
 have HQ:=U hQ;have H1:=U h1;have H2:=U h2;have R5:=U r5;have L5:=U l5;clear hQ h1 h2 r5 l5;have jG:=MU W.heap.size b1 b2 y1 y2 y3 y4 po pn pc y6 y7 p;unfold Si
 conv=>arg 2; whnf
 have nd:∀ j,(j<3\/11<=j)->∀ i,i<8->(fun i=>3+i) i≠j:=by
  intro j hj i hi h;simp only at h;omega
 refine bg 9 8 (fun i=>3+i) (fun _=>8) (GJ W.heap.size b1 b2 y1 y2 y3 y4 po pn pc y6 y7 p) (by kernel_rfl) (by kernel_rfl) rfl (by decide) (fun i j _ _ h=>by have h2:3+i=3+j:=h; omega) (fun i hi=>by show 3+i<11; omega) ?_ (fun _=>bq 14 (by kernel_rfl)) ?_ ?_
 ·intro i o hi ho a x D hnd hc hD hb seen K hK;clear HQ;rcases (by omega:i=0\/i=1\/i=2\/i=3\/i=4\/i=5\/i=6\/i=7) with rfl|rfl|rfl|rfl|rfl|rfl|rfl|rfl
  ·cases ho;have e1:a.eval (ay 1)=V (Z ⟨b1,0,X⟩):=seen.kp 1 _ (nd 1 (by omega)) rfl;exact aF rfl rfl (aQ a.eval _ 66 (ay 1) 0 rfl (by rw [e1]; simp [go_sem])) (hK _ _ rfl (ah _ _) fun _ _ _ _ _ _ _ h=>h)
  ·cases ho;have e3:a.eval (ay 3)=V (Z ⟨b1,0,X⟩):=seen.at_ ⟨0,.data⟩ (by simp) rfl (aB (by decide));have y1:=(H1.out.on hb).cell 1;have y0:=(H1.out.on hb).cell 0;simp only [Y,aj,ak] at y0 y1;exact aF rfl rfl (aT a.eval _ 31 (ay 3) rfl (by rw [e3]; simp [go_sem,y0,y1])) (hK _ _ rfl (ah _ _) fun _ _ _ _ _ _ _ h=>h)
  ·cases ho;have e1:a.eval (ay 1)=V (Z ⟨b1,0,X⟩):=seen.kp 1 _ (nd 1 (by omega)) rfl;exact aF rfl rfl (aQ a.eval _ 66 (ay 1) 1 rfl (by rw [e1]; simp [go_sem])) (hK _ _ rfl (ah _ _) fun _ _ _ _ _ _ _ h=>h)
  ·cases ho;have e5:a.eval (ay 5)=V (Z ⟨b1,2,X⟩):=seen.at_ ⟨2,.data⟩ (by simp) rfl (aB (by decide));have y2:=(H1.out.on hb).cell 2;have y3:=(H1.out.on hb).cell 3;simp only [Y,aj,ak] at y2 y3;exact aF rfl rfl (aT a.eval _ 31 (ay 5) rfl (by rw [e5]; simp [go_sem,y2,y3])) (hK _ _ rfl (ah _ _) fun _ _ _ _ _ _ _ h=>h)
  ·cases ho;have e1:a.eval (ay 1)=V (Z ⟨b1,0,X⟩):=seen.kp 1 _ (nd 1 (by omega)) rfl;exact aF rfl rfl (aQ a.eval _ 66 (ay 1) 2 rfl (by rw [e1]; simp [go_sem])) (hK _ _ rfl (ah _ _) fun _ _ _ _ _ _ _ h=>h)
  ·cases ho;have e7:a.eval (ay 7)=V (Z ⟨b1,4,X⟩):=seen.at_ ⟨4,.data⟩ (by simp) rfl (aB (by decide));have y4:=(H1.out.on hb).cell 4;simp only [Y,aj,ak] at y4;exact aF rfl rfl (aT a.eval _ 32 (ay 7) rfl (by rw [e7]; simp [go_sem,y4])) (hK _ _ rfl (ah _ _) fun _ _ _ _ _ _ _ h=>h)
  ·cases ho;have e8:a.eval (ay 8)=O po pn pc:=seen.at_ ⟨5,.data⟩ (by simp) rfl (aB (by decide));exact bf rfl rfl (Rw.gu a.eval _ (ay 8) 32 123 rfl e8 rfl _ (fI aV rfl rfl _ _)) (kE (po,pn,pc) p x (R5.out.on hb) L5.out) fun e w1 h=>by
    obtain⟨⟨s,rfl,h1⟩,h3⟩:=h;exact⟨_,rfl,hK _ _ ⟨s,rfl,dK h1 hb.size⟩ (h3.mono hb.size) fun j u hj _ _ _ hne h=>jG j u _ _ h h3⟩
  ·cases ho;have e4:a.eval (ay 4)=aI #[L J y1,L J y2]:=seen.at_ ⟨1,.data⟩ (by simp) rfl (aB (by decide));have e6:a.eval (ay 6)=aI #[L J y3,L J y4]:=seen.at_ ⟨3,.data⟩ (by simp) rfl (aB (by decide));have E9:=seen.at_ ⟨6,.data⟩ (by simp) rfl (aB (by decide));obtain⟨s,q0,q1⟩:=E9;have q0:a.eval (ay 9)=dO s:=q0;exact aF rfl rfl (Rg.mI a.eval _ 41 #[(0,.const (L J 3)),(1,ay 4),(2,ay 6),(3,ay 9)] rfl (by simp only [aN,aR,aW,e4,e6,q0]; rfl) (v:=aI #[L J 3,L J y1,L J y2,L J y3,L J y4,dO s,O X 0 0]) (by simp [go_sem])) (hK _ _ ⟨s,rfl,q1⟩ (ah _ _) fun _ _ _ _ _ _ _ h=>h)
 ·intro kk o h1 h2 ho;omega
 ·intro a w' df sz kp ⟨vs,hv⟩ hb;have sz':a.tmps.size=11:=sz;have g2:a.tmps[2]?=Z (V (Z ⟨b2,0,X⟩)):=(kp 2 (nd 2 (by omega))).trans rfl;obtain⟨⟨q1,q2,q3⟩,hs,ho⟩:=(hv 7 (by omega)).2 (by decide);have g10:a.tmps[10]?=Z (aI #[L J 3,L J y1,L J y2,L J y3,L J y4,O q1 q2 q3,O X 0 0]):=((hv 7 (by omega)).1).trans (congrArg Z hs);have hB:=H2.out.on hb;have hlt:=H2.out.lt;show aY _ _ _ 1 8 a w';simp only [aY];refine bF 41 (ay 2) (ay 10) rfl rfl rfl rfl (aL g2) (aL g10) (w':=Bl w' b2 (L J 3) (L J y1) (L J y2) (L J y3) (L J y4) (O q1 q2 q3) (O X 0 0)) (Q6 hB _ _ _ _ _ _ _ _ _ _ _) ?_;have hbx:=sG hB (L J 3) (L J y1) (L J y2) (L J y3) (L J y4) (O q1 q2 q3) (O X 0 0);have hbt:=Ca w' b2 (L J 3) (L J y1) (L J y2) (L J y3) (L J y4) (O q1 q2 q3) (O X 0 0);have pQ:∀ j,(j<3\/11<=j)->(a).tmps[j]?=(u0::V (Z ⟨b1,0,X⟩)::V (Z ⟨b2,0,X⟩)::u3::u4::u5::u6::u7::u8::u9::u10::[])[j]?:=fun j hj=>(kp j (nd j (by omega))).trans Y;obtain⟨mid,hmid,hfr⟩:=bG (a:=a) 3 8 df (by simp [sz']) (by simp) pQ;show Q .normal (a) _;rw [hfr]
  match mid,hmid with
  | [v3,v4,v5,v6,v7,v8,v9,v10],_ =>
   exact HQ.out _ _ _ _ _ _ _ _ _ q1 q2 q3 hbx (hbt.own ho hB (by decide)) (fun B hBl=>tH (hb.mono (Nat.le_of_lt (Nat.lt_of_le_of_lt hBl hlt))) hBl _ _ _ _ _ _ _)
theorem Vs (k tc ts ic nV:Int) (pv:Sl) (p:List C5) (w:aA) (hp:eY w (dO pv) p) (hl:p.length<=900) :
  aO au 78 #[aI #[L J k,L J tc,L J ts,L J ic,L J nV,dO pv,O X 0 0]] w fun e w'=>(∃ s:Sl,e=aC (aI #[L J k,L J tc,L J ts,L J ic,L J nV,dO s,O X 0 0])/\gG w' w.heap.size (dO s) p)/\Below w.heap.size w w':=by
 obtain⟨po,pn,pc⟩:=pv;obtain⟨h0,h1,h2⟩:=gT w #[L J k,L J tc,L J ts,L J ic,L J nV,O po pn pc,O X 0 0] #[L J 0,L J 0,L J 0,L J 0,L J 0,O X 0 0,O X 0 0] 41 41;have GB:=U h0;have X1:=U h1;have X2:=U h2;have HP:=U (hp.on h0);clear h0 h1 h2 hp;show aO au 78 #[aI #[L J k,L J tc,L J ts,L J ic,L J nV,O po pn pc,O X 0 0]] w _;go_enter Tryz.func78,Tryz.ntmps78;go_upto_region 1 with fail;generalize (w.alloc (aG #[L J k,L J tc,L J ts,L J ic,L J nV,O po pn pc,O X 0 0] 41)).alloc (aG #[L J 0,L J 0,L J 0,L J 0,L J 0,O X 0 0,O X 0 0] 41)=W at *;refine cm1 _ W w.heap.size k tc ts ic nV po pn pc p _ _ _ _ _ _ _ _ _ _ _ X1.out HP.out hl ?_;intro x v3 v4 v5 v6 v7 v8 v9 v10 q1 q2 q3 hbx ho hbl hbt;have Y1:=U hbx;have Y2:=U (hbt.box X2.out (by omega));have OO:=U (dK ho GB.out.size);have G2:=U (GB.out.trans (hbl w.heap.size (Nat.le_refl _)));clear hbx ho hbl hbt GB X1 X2 HP;obtain⟨x0,x1,x2,x3,x4,x5,x6⟩:=Y1.out.mE;obtain⟨r0,r1,r2,r3,r4,r5,r6⟩:=Y2.out.mE;obtain⟨t0,t1,t2,t3,t4,t5,t6⟩:=Y2.out.RA;have zz:=Y2.out.lt;have FB:=U (sG Y2.out (L J k) (L J tc) (L J ts) (L J ic) (L J nV) (O q1 q2 q3) (O X 0 0));have BL:=U (tH (b:=w.heap.size+1) G2.out (by omega) (L J k) (L J tc) (L J ts) (L J ic) (L J nV) (O q1 q2 q3) (O X 0 0));have OX:=U ((Ca x (w.heap.size+1) (L J k) (L J tc) (L J ts) (L J ic) (L J nV) (O q1 q2 q3) (O X 0 0)).own OO.out Y2.out (by decide));clear Y1 Y2 OO G2;go_wp2_with fail;obtain⟨v0,v1,v2,v3,v4,v5,v6⟩:=FB.out.mE;refine bodyPost_ret (v:=aI #[L J k,L J tc,L J ts,L J ic,L J nV,O q1 q2 q3,O X 0 0]) (by simp [results,Tryz.results78,go_sem,v0,v1,v2,v3,v4,v5,v6]) rfl ?_;exact⟨⟨(q1,q2,q3),rfl,OX.out⟩,BL.out⟩
theorem JR (z:gW) (p:List C5) (w:aA) (hp:eY w (dO z.2.2.2.2.1) p) (hl:p.length<=900) :
  aO au 95 #[nY z] w fun e w'=>(∃ s:Sl,e=aC (aI #[L J 3,L J z.1,L J z.2.1,L J z.2.2.1,L J z.2.2.2.1,dO s,O X 0 0])/\gG w' w.heap.size (dO s) p)/\Below w.heap.size w w':=by
 obtain⟨y1,y2,y3,y4,⟨po,pn,pc⟩,y6,y7⟩:=z;obtain⟨h0,h1,h2⟩:=gT w #[L J y1,L J y2,L J y3,L J y4,O po pn pc,L J y6,aH y7] #[L J 0,L J 0,L J 0,L J 0,L J 0,O X 0 0,O X 0 0] 66 41;have GB:=U h0;have X1:=U h1;have X2:=U h2;have HP:=U (hp.on h0);clear h0 h1 h2 hp;show aO au 95 #[aI #[L J y1,L J y2,L J y3,L J y4,O po pn pc,L J y6,aH y7]] w _;go_enter Tryz.func95,Tryz.ntmps95;go_upto_region 1 with fail;generalize (w.alloc (aG #[L J y1,L J y2,L J y3,L J y4,O po pn pc,L J y6,aH y7] 66)).alloc (aG #[L J 0,L J 0,L J 0,L J 0,L J 0,O X 0 0,O X 0 0] 41)=W at *;refine abn _ W w.heap.size (w.heap.size+1) y1 y2 y3 y4 po pn pc y6 y7 p _ _ _ _ _ _ _ _ _ X1.out X2.out HP.out hl ?_;intro x v3 v4 v5 v6 v7 v8 v9 v10 q1 q2 q3 hbx ho hbl;have FB:=U hbx;have OO:=U (dK ho GB.out.size);have G2:=U (GB.out.trans (hbl w.heap.size (by omega)));clear hbx ho hbl GB X1 X2 HP;go_wp2_with fail;obtain⟨v0,v1,v2,v3,v4,v5,v6⟩:=FB.out.mE;refine bodyPost_ret (v:=aI #[L J 3,L J y1,L J y2,L J y3,L J y4,O q1 q2 q3,O X 0 0]) (by simp [results,Tryz.results95,go_sem,v0,v1,v2,v3,v4,v5,v6]) rfl ?_;exact⟨⟨(q1,q2,q3),rfl,OO.out⟩,G2.out⟩
end Fl
namespace Bk
open Go.RowKit Go.Sort Rw YtmklifheakemeaaGreat.Nm Pr
end Bk
namespace Bk
open Go.RowKit Go.Sort Rw YtmklifheakemeaaGreat.Nm Pr
def uR (B:Nat) (b11 _ _:Nat) (_ _ sO c d c2 d2 fr:Int) (up:Bool) (_ po:Option aM) (_ _ pn pc:Nat) (rv:aD) (_:List mg) (i:Nat) (v:aD) (x:aA):Prop :=
 match i with
 | 0=>v=rv
 | 1=>v=V (Z ⟨b11,3,X⟩)
 | 2=>v=L J sO
 | 3=>v=aI #[L J c,L J d,L J c2,L J d2,O po pn pc,L J fr,aH up]
 | 4=>v=aI #[L J 3,L J c,L J d,L J c2,L J d2,O po pn pc,O X 0 0]
 | 5=>v=AV (sO,3,c,d,c2,d2,(po,pn,pc),(X,0,0))
 | 6=>vL x B v [(sO,3,c,d,c2,d2,(po,pn,pc),(X,0,0))]
 | _=>True
noncomputable def GK:Code:=((Tryz.f23.body.bind (eT 16)).getD .skip)
theorem EM (B:Nat) (b11 b12 F0:Nat) (z1 z2 sO c d c2 d2 fr:Int) (up:Bool) (z3 po:Option aM) (z4 z5 pn pc:Nat) (rv:aD) (lo:List mg) (i:Nat) (v:aD) (x x':aA) (h:uR B b11 b12 F0 z1 z2 sO c d c2 d2 fr up z3 po z4 z5 pn pc rv lo i v x) (hb:Below x.heap.size x x'):uR B b11 b12 F0 z1 z2 sO c d c2 d2 fr up z3 po z4 z5 pn pc rv lo i v x':=by
 by_cases hi:i<7
 ·rcases (by omega:i=0\/i=1\/i=2\/i=3\/i=4\/i=5\/i=6) with rfl|rfl|rfl|rfl|rfl|rfl|rfl
  ·exact h
  ·exact h
  ·exact h
  ·exact h
  ·exact h
  ·exact h
  ·exact dJ h hb
 ·unfold uR
  split <;> first | omega | trivial
theorem MW (Q:Exit->Act->aA->Prop) (W:aA) (b11 b12 F0:Nat) (z1 z2 sO c d c2 d2 fr:Int) (up:Bool) (z3 po:Option aM) (z4 z5 pn pc:Nat) (rv:aD) (lo:List mg) (u0 u1 u2 u3 u4 u5 u6 u7 u8 u10 u13 u14 u15 u16 u17 u18 u19 u20 u21 u22 u23 u24 u25 u26 u27 u28 u29 u30 u31 u32 u33 u34 u35 u36 u37 u38 u39 u40 u41 u42 u43 u44 u45 u46 u47 u48 u49 u50 u51 u52 u53 u54 u55 u56 u57 u58 u59 u60 u61 u62 u63 u64 u65 u66 u67 u68 u69 u70 u71 u72 u73 u74 u75 u76 u77 u78 u79 u80 u81 u82 u83 u84 u85 u86 u87 u88 u89 u90 u91 u92 u93 u94 u95 u96 u97 u98:aD)
  (h11:dI W b11 #[L J z1,L J z2,O z3 z4 z5,L J sO] 74) (h12:dI W b12 #[L J c,L J d,L J c2,L J d2,O po pn pc,L J fr,aH up] 66) (fw:F0<=W.heap.size) (ho:vL W F0 rv lo) (hl:lo.length<=1000000)
  (hQ:∀ (x0 x:aA) (w9:aD) (v88 v89 v90 v91 v92 v93 v94 v95:aD),Below W.heap.size W x0->x0.grownBy x rv.ownBlock->vL x F0 w9 (lo++[(sO,3,c,d,c2,d2,(po,pn,pc),(X,0,0))])->Q .normal ⟨(u0::u1::u2::u3::u4::u5::u6::u7::u8::w9::u10::V (Z ⟨b11,0,X⟩)::V (Z ⟨b12,0,X⟩)::u13::u14::u15::u16::u17::u18::u19::u20::u21::u22::u23::u24::u25::u26::u27::u28::u29::u30::u31::u32::u33::u34::u35::u36::u37::u38::u39::u40::u41::u42::u43::u44::u45::u46::u47::u48::u49::u50::u51::u52::u53::u54::u55::u56::u57::u58::u59::u60::u61::u62::u63::u64::u65::u66::u67::u68::u69::u70::u71::u72::u73::u74::u75::u76::u77::u78::u79::u80::u81::u82::u83::u84::u85::u86::u87::v88::v89::v90::v91::v92::v93::v94::v95::u96::u97::u98::[]).toArray,[]⟩ x) :
  Code.wp au GK Q ⟨(u0::u1::u2::u3::u4::u5::u6::u7::u8::rv::u10::V (Z ⟨b11,0,X⟩)::V (Z ⟨b12,0,X⟩)::u13::u14::u15::u16::u17::u18::u19::u20::u21::u22::u23::u24::u25::u26::u27::u28::u29::u30::u31::u32::u33::u34::u35::u36::u37::u38::u39::u40::u41::u42::u43::u44::u45::u46::u47::u48::u49::u50::u51::u52::u53::u54::u55::u56::u57::u58::u59::u60::u61::u62::u63::u64::u65::u66::u67::u68::u69::u70::u71::u72::u73::u74::u75::u76::u77::u78::u79::u80::u81::u82::u83::u84::u85::u86::u87::u88::u89::u90::u91::u92::u93::u94::u95::u96::u97::u98::[]).toArray,[]⟩ W:=by
 have HQ:=U hQ;have H11:=U h11;have H12:=U h12;have FW:=U fw;have HO:=U ho;have HL:=U hl;clear hQ h11 h12 fw ho hl;have jG:=EM W.heap.size b11 b12 F0 z1 z2 sO c d c2 d2 fr up z3 po z4 z5 pn pc rv lo;unfold GK
 conv=>arg 2; whnf
 have nd:∀ j,(∀ i,i<7->[88,89,90,91,92,93,94].getD i 0≠j)->∀ i,i<7->(fun i=>[88,89,90,91,92,93,94].getD i 0) i≠j:=fun j h=>h;refine bg 9 7 (fun i=>[88,89,90,91,92,93,94].getD i 0) (fun _=>7) (uR W.heap.size b11 b12 F0 z1 z2 sO c d c2 d2 fr up z3 po z4 z5 pn pc rv lo) (by kernel_rfl) (by kernel_rfl) rfl (by decide) (fun i j hi hj h=>(by decide:∀ i,i<7->∀ j,j<7->[88,89,90,91,92,93,94].getD i 0=[88,89,90,91,92,93,94].getD j 0->i=j) i hi j hj h) (fun i hi=>(by decide:∀ i,i<7->[88,89,90,91,92,93,94].getD i 0<99) i hi) ?_ (fun _=>bq 14 (by kernel_rfl)) ?_ ?_
 ·intro i o hi ho a x D hnd hc hD hb seen K hK;clear HQ;rcases (by omega:i=0\/i=1\/i=2\/i=3\/i=4\/i=5\/i=6) with rfl|rfl|rfl|rfl|rfl|rfl|rfl
  ·cases ho;have e9:a.eval (ay 9)=rv:=seen.kp 9 _ (nd 9 (by decide)) rfl;exact aF rfl rfl (Rg.fM a.eval _ (ay 9) rfl x) (hK _ _ e9 (ah _ _) fun _ _ _ _ _ _ _ h=>h)
  ·cases ho;have e11:a.eval (ay 11)=V (Z ⟨b11,0,X⟩):=seen.kp 11 _ (nd 11 (by decide)) rfl;exact aF rfl rfl (aQ a.eval _ 74 (ay 11) 2 rfl (by rw [e11]; simp [go_sem])) (hK _ _ rfl (ah _ _) fun _ _ _ _ _ _ _ h=>h)
  ·cases ho;have e89:a.eval (ay 89)=V (Z ⟨b11,3,X⟩):=seen.at_ ⟨1,.data⟩ (by simp) rfl (aB (by decide));have y3:=(H11.out.on hb).cell 3;simp only [Y,aj,ak] at y3;exact aF rfl rfl (aT a.eval _ 3 (ay 89) rfl (by rw [e89]; simp [go_sem,y3])) (hK _ _ rfl (ah _ _) fun _ _ _ _ _ _ _ h=>h)
  ·cases ho;have e12:a.eval (ay 12)=V (Z ⟨b12,0,X⟩):=seen.kp 12 _ (nd 12 (by decide)) rfl;obtain⟨y0,y1,y2,y3,y4,y5,y6⟩:=(H12.out.on hb).mE;exact aF rfl rfl (aT a.eval _ 66 (ay 12) rfl (by rw [e12]; simp [go_sem,y0,y1,y2,y3,y4,y5,y6])) (hK _ _ rfl (ah _ _) fun _ _ _ _ _ _ _ h=>h)
  ·cases ho;have e91:a.eval (ay 91)=aI #[L J c,L J d,L J c2,L J d2,O po pn pc,L J fr,aH up]:=seen.at_ ⟨3,.data⟩ (by simp) rfl (aB (by decide));exact bf rfl rfl (gu a.eval _ (ay 91) 66 48 rfl e91 rfl _ (fI Tryz.func48 rfl rfl _ _)) (QZ (c,d,c2,d2,(po,pn,pc),fr,up) x) fun e w1 h=>by
    obtain⟨rfl,h3⟩:=h;exact⟨_,rfl,hK _ _ rfl (h3.mono hb.size) fun j u _ _ _ _ _ h=>jG j u _ _ h h3⟩
  ·cases ho;have e90:a.eval (ay 90)=L J sO:=seen.at_ ⟨2,.data⟩ (by simp) rfl (aB (by decide));have e92:a.eval (ay 92)=aI #[L J 3,L J c,L J d,L J c2,L J d2,O po pn pc,O X 0 0]:=seen.at_ ⟨4,.data⟩ (by simp) rfl (aB (by decide));exact aF rfl rfl (Rg.mI a.eval _ 43 #[(0,ay 90),(1,ay 92)] rfl (ps:=#[(0,L J sO),(1,aI #[L J 3,L J c,L J d,L J c2,L J d2,O po pn pc,O X 0 0])]) (by simp only [aN,aR,aW,e90,e92]) (by simp [go_sem])) (hK _ _ rfl (ah _ _) fun _ _ _ _ _ _ _ h=>h)
  ·cases ho;have e93:a.eval (ay 93)=AV (sO,3,c,d,c2,d2,(po,pn,pc),(X,0,0)):=seen.at_ ⟨5,.data⟩ (by simp) rfl (aB (by decide));have hl:=kK QF x [((sO,3,c,d,c2,d2,(po,pn,pc),(X,0,0)):mg)] 1 rfl (by simp) (nK (sO,3,c,d,c2,d2,(po,pn,pc),(X,0,0))).toArray (by simp [flat,EU]);have nb:=gM x (aG (nK (sO,3,c,d,c2,d2,(po,pn,pc),(X,0,0))).toArray 43);exact aF rfl rfl (Rg.mH a.eval _ 35 1 #[(0,ay 93)] rfl (ps:=#[(0,AV (sO,3,c,d,c2,d2,(po,pn,pc),(X,0,0)))]) (by simp [e93]) (by simp [go_sem])) (hK (O (Z ⟨x.heap.size,0,X⟩) 1 1) (x.alloc (aG (nK (sO,3,c,d,c2,d2,(po,pn,pc),(X,0,0))).toArray 43)) (dK hl hb.size) (nb.mono hb.size) fun j u _ _ _ _ _ h=>jG j u _ _ h nb)
 ·intro kk o h1 h2 ho;rcases (by omega:kk=8) with rfl
  ·cases ho;exact⟨⟨7,.data⟩,by simp,rfl,rfl⟩
 ·intro a w' df sz kp ⟨vs,hv⟩ hb;have sz':a.tmps.size=99:=sz;have g88:a.tmps[88]?=Z (rv):=by
   have h:vs 0=rv:=(hv 0 (by omega)).2 (by decide);rw [<- h];exact (hv 0 (by omega)).1
  have g94:a.tmps[94]?=Z (vs 6):=(hv 6 (by omega)).1;have G94:=(hv 6 (by omega)).2 (by decide);have o94:vL w' W.heap.size (vs 6) [(sO,3,c,d,c2,d2,(po,pn,pc),(X,0,0))]:=G94;generalize vs 6=v6 at *;obtain⟨v',x',r,o',gr⟩:=MI QF F0 (dJ HO.out hb) (Row.dG o94) HL.out (by simp) (Nat.le_trans FW.out hb.size) 35;show aY _ _ _ 2 7 a w';simp only [aY];refine aF rfl rfl (Rg.jB a.eval _ (ay 88) (ay 94) 35 rfl (aL g88) (aL g94) r) ?_;have e95:(a.put (Z 95) v').eval (ay 95)=v':=aL (by simp [Act.put,sz']);refine aF rfl rfl (Rg.kD _ _ (ay 95) rfl x') ?_;show Q .normal ((a.put (Z 95) v').put (Z 9) ((a.put (Z 95) v').eval (ay 95))) x';rw [e95];show Q .normal ((a.put (Z 95) v').put (Z 9) v') x';have ka:∀ j,j≠95->j≠9->((a.put (Z 95) v').put (Z 9) v').tmps[j]?=a.tmps[j]?:=fun j h1 h2=>by rw [aK _ _ _ _ (by omega),aK _ _ _ _ (by omega)]
  have kt:((a.put (Z 95) v').put (Z 9) v').tmps[9]?=Z (v'):=by simp [Act.put,sz']
  have pQ:∀ j,(j<88\/96<=j)->((a.put (Z 95) v').put (Z 9) v').tmps[j]?=(u0::u1::u2::u3::u4::u5::u6::u7::u8::v'::u10::V (Z ⟨b11,0,X⟩)::V (Z ⟨b12,0,X⟩)::u13::u14::u15::u16::u17::u18::u19::u20::u21::u22::u23::u24::u25::u26::u27::u28::u29::u30::u31::u32::u33::u34::u35::u36::u37::u38::u39::u40::u41::u42::u43::u44::u45::u46::u47::u48::u49::u50::u51::u52::u53::u54::u55::u56::u57::u58::u59::u60::u61::u62::u63::u64::u65::u66::u67::u68::u69::u70::u71::u72::u73::u74::u75::u76::u77::u78::u79::u80::u81::u82::u83::u84::u85::u86::u87::u88::u89::u90::u91::u92::u93::u94::u95::u96::u97::u98::[])[j]?:=fun j hj=>by
   by_cases hj2:j=9
   ·subst hj2;exact kt
   ·have hs:(u0::u1::u2::u3::u4::u5::u6::u7::u8::v'::u10::V (Z ⟨b11,0,X⟩)::V (Z ⟨b12,0,X⟩)::u13::u14::u15::u16::u17::u18::u19::u20::u21::u22::u23::u24::u25::u26::u27::u28::u29::u30::u31::u32::u33::u34::u35::u36::u37::u38::u39::u40::u41::u42::u43::u44::u45::u46::u47::u48::u49::u50::u51::u52::u53::u54::u55::u56::u57::u58::u59::u60::u61::u62::u63::u64::u65::u66::u67::u68::u69::u70::u71::u72::u73::u74::u75::u76::u77::u78::u79::u80::u81::u82::u83::u84::u85::u86::u87::u88::u89::u90::u91::u92::u93::u94::u95::u96::u97::u98::[]:List aD)=(u0::u1::u2::u3::u4::u5::u6::u7::u8::rv::u10::V (Z ⟨b11,0,X⟩)::V (Z ⟨b12,0,X⟩)::u13::u14::u15::u16::u17::u18::u19::u20::u21::u22::u23::u24::u25::u26::u27::u28::u29::u30::u31::u32::u33::u34::u35::u36::u37::u38::u39::u40::u41::u42::u43::u44::u45::u46::u47::u48::u49::u50::u51::u52::u53::u54::u55::u56::u57::u58::u59::u60::u61::u62::u63::u64::u65::u66::u67::u68::u69::u70::u71::u72::u73::u74::u75::u76::u77::u78::u79::u80::u81::u82::u83::u84::u85::u86::u87::u88::u89::u90::u91::u92::u93::u94::u95::u96::u97::u98::[]).set 9 (v'):=rfl;rw [hs,List.getElem?_set_ne (Ne.symm hj2)];exact (ka j (by omega) hj2).trans ((kp j (nd j fun i hi h=>by have:=(by decide:∀ i,i<7->88<=[88,89,90,91,92,93,94].getD i 0/\[88,89,90,91,92,93,94].getD i 0<96) i hi; omega)).trans Y)
  obtain⟨mid,hmid,hfr⟩:=bG (a:=(a.put (Z 95) v').put (Z 9) v') 88 8 (by simp [Act.put,df]) (by simp [Act.put,sz']) (by simp) pQ;rw [hfr]
  match mid,hmid with
  | [v88,v89,v90,v91,v92,v93,v94,v95],_ =>
   exact HQ.out w' x' _ _ _ _ _ _ _ _ _ hb gr o'
end Bk
namespace Pr
open Go.RowKit Pu Rw
theorem MX {α:Type} {E:Ek α} (K:E.Ok) (tn:TypeId) (htn:Tryz.prog.underlying tn=Z (.int .i64)) (n:Nat) (h0:0<n) (hn:n<=1000) (W:aA) :
  ∃ (G:Nat) (R:Array aD),n<=G/\G<=maxLen/\R.size=G * E.n /\
   ∀ ty,(Builtin.append_ #[E.ts,tn] ty #[O X 0 0,L J n]).run au W=.ok (O (Z ⟨W.heap.size,0,X⟩) n G) (W.drew.alloc (aG R E.t)):=by
 obtain⟨i,i1,i2,i3,i4⟩:=K.info;have hf:=K.few;have hpos:=K.pos;have happ:=fun ty=>Lib.run_append_grow_zeros (P:=au) W E.ts tn ty E.t i _ J J K.hu htn i1 i2 X 0 0 [] (run_firstCells_none _ _ _ _ _) n h0 (by rw [i3]; exact hpos) (by omega) (by omega)
  (by rw [i4]; exact Nat.le_trans (Nat.mul_le_mul hn hf) (by decide))
  (growslice_fits (by omega) (by rw [i4]; exact Nat.le_trans (Nat.mul_le_mul (show 0+n<=2000 by omega) hf) (by decide)))
 rw [Nat.zero_add] at happ;have hG1:=grownCap_ge W n 0 E.t;have hG2:=grownCap_le_maxLen W n 0 E.t (by unfold maxLen; omega);generalize grownCap W n 0 E.t=G at happ hG1 hG2;refine⟨G,_,hG1,hG2,?_,happ⟩;simp only [Array.size_append,List.size_toArray,List.length_nil,size_zeroCells,K.zs,Nat.zero_add,<- Nat.add_mul];rw [show n+(G-n)=G by omega]
def M0 (l:List C5) (w:aA) (e:Ending) (w':aA):Prop:=∃ v,e=aC v/\gG w' w.heap.size v l/\Below w.heap.size w w'
theorem M4 (n:Nat) (w:aA) (hn:n<=200) :
  aO au 159 #[O X 0 0,L J n] w (M0 [] w):=by
 rcases Nat.eq_zero_or_pos n with rfl|h0
 ·have Q:=U (show M0 [] w (aC (O X 0 0)) w from ⟨_,rfl,jg _ _,ah _ _⟩);go_enter aX,aS;go_wp2;go_ret;exact Q.out
 ·obtain⟨G,R,g1,g2,g3,hr⟩:=MX (E:=EC) p9 3 Tryz.underlying3 n h0 (by omega) w;have r:=hr 32;have s1:=jc (E:=EC) p9 ⟨w.heap.size,0,X⟩ 0 n G (Nat.zero_le _);have Q:=U (show M0 [] w (aC (O (Z ⟨w.heap.size,0,X⟩) 0 G)) (w.drew.alloc (aG R 70)) from
   ⟨_,rfl,mG p9 (l:=[]) rfl (Nat.le_refl _) (dL w.drew R 70) (Nat.zero_le _) g2 g3 (by simp [flat]),(ah _ _).drew.alloc (by simp) _⟩)
  change (Builtin.append_ #[32,3] 32 #[O X 0 0,L J (n:Int)]).run au w=.ok (O (Z ⟨w.heap.size,0,X⟩) n G) (w.drew.alloc (aG R 70)) at r;change ∀ W,(Instr.sliceAt 32 (O (Z ⟨w.heap.size,0,X⟩) n G) X (Z (L J 0)) X).run au W=.ok (O (Z ⟨w.heap.size,0,X⟩) 0 G) W at s1;have e1:decide ((n:Int)<0)=false:=by simp
  have e2:decide ((0:Int)<(n:Int))=true:=by simp; omega
  unfold maxLen at g2;clear hr g3;go_enter aX,aS;go_wp2_with (first | (at_builtin; refine iA rfl _ _ 32 3 rfl rfl rfl r ?_) | fail);go_ret;exact Q.out
def abo (n m:Nat) (s i:aD):Prop:=(i=L J 0/\s=L J 0)\/(i=L J 1/\s=L J (n:Int))\/(i=L J 2/\s=L J ((n+m:Nat):Int))
def abp (w:aA) (a b:List C5) (v i:aD) (wr:aA):Prop:=((i=L J 0/\gG wr w.heap.size v [])\/(i=L J 1/\gG wr w.heap.size v a)\/(i=L J 2/\gG wr w.heap.size v (a++b)))/\Below w.heap.size w wr
theorem EP (g:Nat) (nA bv:aD) (a b:List C5) (w:aA) (c0:w.cell? ⟨g,0,X⟩=Z nA) (c1:w.cell? ⟨g,1,X⟩=Z bv) (ha:eY w nA a) (hb:eY w bv b) (la:a.length<=100) (lb:b.length<=100) :
  aO au 122 #[O (Z ⟨g,0,X⟩) 2 2] w (M0 (a++b) w):=by
 have HA:=U ha;have HB:=U hb;have C0:=U c0;have C1:=U c1;have hg:g<w.heap.size:=World.block_lt_of_cell? w _ c0;obtain⟨ao,ac,rfl⟩:=ha.len;obtain⟨bo,bc,rfl⟩:=hb.len;clear ha hb c0 c1;go_enter Tryz.func122,Tryz.ntmps122;go_wp2
 go_loop [3,11] (fun s i=>abo a.length b.length s i) (fun _ i=>(2-intOf i).toNat)
 case atStart=>exact aZ ⟨rfl,rfl⟩
 case round =>
  rcases hrel with⟨rfl,rfl⟩|⟨rfl,rfl⟩|⟨rfl,rfl⟩
  ·have c0:=C0.out;go_wp2
   go_round
   case rel=>exact aB (aZ ⟨rfl,rfl⟩)
   case measure=>simp [intOf]
  ·have c1:=C1.out;go_wp2
   go_round
   case rel=>exact aB (aB ⟨rfl,by go_num⟩)
   case measure=>simp [intOf]
  ·have GR:=U (M4 (a.length+b.length) w (by omega));go_wp2_with fail;refine GR.out.mono ?_;rintro e1 w1 ⟨v1,rfl,ho,hb1⟩;have O1:=U ho;have B1:=U hb1;clear ho hb1 GR;go_wp2
   go_loopw [6,27] (fun v i wr=>abp w a b v i wr) (fun _ i _=>(2-intOf i).toNat)
   case atStart=>exact⟨aZ ⟨rfl,O1.out⟩,B1.out⟩
   case round =>
    obtain⟨hc,hbw⟩:=hrel;have BW:=U hbw;clear hbw;rcases hc with⟨rfl,ho⟩|⟨rfl,ho⟩|⟨rfl,ho⟩
    ·have c0:=(BW.out.cell (p:=⟨g,0,X⟩) hg).trans C0.out;obtain⟨v',w',r,o',gr⟩:=xJ w.heap.size ho (HA.out.on BW.out) (by simp) (by omega) BW.out.size;have B':=U (BW.out.grown gr BW.out.size (fun j hj=>(ho.lt j hj).1));have O':=U o';clear ho o' gr;go_wp2_with (first | (at_builtin; refine wpList_append_run rfl _ _ 32 rfl rfl rfl r ?_) | fail)
     go_roundw
     case rel=>exact⟨aB (aZ ⟨rfl,O'.out⟩),B'.out⟩
     case measure=>simp [intOf]
    ·have c1:=(BW.out.cell (p:=⟨g,1,X⟩) hg).trans C1.out;obtain⟨v',w',r,o',gr⟩:=xJ w.heap.size ho (HB.out.on BW.out) (by omega) (by omega) BW.out.size;have B':=U (BW.out.grown gr BW.out.size (fun j hj=>(ho.lt j hj).1));have O':=U o';clear ho o' gr;go_wp2_with (first | (at_builtin; refine wpList_append_run rfl _ _ 32 rfl rfl rfl r ?_) | fail)
     go_roundw
     case rel=>exact⟨aB (aB ⟨rfl,O'.out⟩),B'.out⟩
     case measure=>simp [intOf]
    ·have Q:=U (show M0 (a++b) w (aC _) _ from ⟨_,rfl,ho,BW.out⟩);clear ho;go_wp2;go_ret;exact Q.out
end Pr
namespace Rl
open Go.RowKit Go.Sort Pu Rw Pr Va
def M6 (a b:List Cn) (w:aA) (e:Ending) (w':aA):Prop:=Below w.heap.size w w'/\(match iW a.length a b with
 | .ok p=>∃ pv,e=aC (.tuple #[pv,aH true])/\eY w' pv (p.map r5)
 | .error _=>∃ pv,e=aC (.tuple #[pv,aH false]))
theorem Cb {a b:List Cn} (na:NF a) (nb:NF b):Ls (a++b):=⟨by have:=na.five; have:=nb.five; simp; omega,fun c hc=>by
 rcases aP.1 hc with h|h
 ·exact na.small c h
 ·exact nb.small c h⟩
theorem Q9 (nA bv:aD) (a b:List Cn) (w:aA) (ha:eY w nA (a.map r5)) (hb:eY w bv (b.map r5)) (na:NF a) (nb:NF b):aO au 75 #[nA,bv] w (M6 a b w):=by
 have B0:=U (show Below w.heap.size w (w.alloc (aG #[nA,bv] 32)) from (ah _ _).alloc (Nat.le_refl _) _);have CT:=U (EP w.heap.size nA bv (a.map r5) (b.map r5) (w.alloc (aG #[nA,bv] 32)) (by simp [go_sem]) (by simp [go_sem]) (ha.on B0.out) (hb.on B0.out) (by rw [aJ]; have:=na.five; omega) (by rw [aJ]; have:=nb.five; omega));have SP:=U (Cb na nb);have GD:=U (show ∀ c∈a++b,pY c=true from fun c hc=>by
  rcases aP.1 hc with h|h
  ·exact na.good c h
  ·exact nb.good c h)
 have MB:=U (Jp (b:=b) na.rise na.five);obtain⟨ao,ac,rfl⟩:=ha.len;obtain⟨bo,bc,rfl⟩:=hb.len;clear ha hb na nb;simp only [aJ] at CT B0 ⊢;obtain⟨res,hres⟩:∃ r,r=iW a.length a b:=⟨_,rfl⟩;have MQ:=U (show ∀ e w',(Below w.heap.size w w'/\(match res with
  | .ok p=>∃ pv,e=aC (.tuple #[pv,aH true])/\eY w' pv (p.map r5)
  | .error _=>∃ pv,e=aC (.tuple #[pv,aH false])))->M6 a b w e w' from fun e w' h=>by unfold M6; rw [<- hres]; exact h)
 rw [<- hres] at MB;generalize hq:M6 a b w=q at *;clear hq hres;go_enter Tryz.func75,Tryz.ntmps75;go_wp2_with fail;refine CT.out.mono ?_;rintro e1 w1 ⟨v1,rfl,ho,hb1⟩;have B1:=U (B0.out.trans (hb1.mono B0.out.size));have MK:=U (LU v1 (a++b) w1 (by rw [List.map_append]; exact Row.dG ho) SP.out GD.out);clear ho hb1 CT SP GD B0;go_wp2_with fail;refine MK.out.mono ?_;rintro e2 w2 ⟨hb2,h2⟩;have B2:=U (B1.out.trans (hb2.mono B1.out.size));rw [MB.out] at h2;clear hb2 MK B1 MB;rcases res with _|p
 ·obtain⟨bb,rfl⟩:=h2;go_wp2
  go_region
  all_goals simp only [Exit.then]
  all_goals apply_assumption
  all_goals go_wp2
  all_goals exact MQ.out _ _ ⟨B2.out.drew,_,rfl⟩
 ·obtain⟨pv,rfl,hp⟩:=h2;have HP:=U hp;clear hp;go_wp2
  go_region
  all_goals simp only [Exit.then]
  all_goals apply_assumption
  all_goals go_wp2
  all_goals exact MQ.out _ _ ⟨B2.out.drew,_,rfl,HP.out.on (ah _ _).drew⟩
theorem ER (nA bv:aD) (a b:List Cn) (w:aA) (ha:eY w nA (a.map r5)) (hb:eY w bv (b.map r5)) (na:NF a) (nb:NF b):aO au 24 #[nA,bv] w fun e w'=>e=aC (aH (oh a b))/\Below w.heap.size w w':=by
 have T:=U (Q9 nA bv a b w ha hb na nb);have MM:=U (show oh a b=match iW a.length a b with
  | .ok _=>true
  | .error _=>false from rfl)
 unfold M6 at T;generalize oh a b=r at *;generalize iW a.length a b=res at *;clear ha hb na nb;go_enter Tryz.func24,Tryz.ntmps24;go_wp2_with fail;refine T.out.mono ?_;rintro e1 w1 ⟨hb1,h1⟩;have B1:=U hb1;clear hb1 T;rcases res with _|p
 ·obtain⟨pv,rfl⟩:=h1;have M:=U (show r=false from MM.out);clear MM;go_wp2;go_ret;exact⟨dP M.out.symm,B1.out⟩
 ·obtain⟨pv,rfl,hp⟩:=h1;have M:=U (show r=true from MM.out);clear MM hp;go_wp2;go_ret;exact⟨dP M.out.symm,B1.out⟩
end Rl
end Go.Proofs.YtmklifheakemeaaGreat
