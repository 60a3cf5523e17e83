/-
  sub of broadsideref9. Conditions as told.
-/
import Derived.Test.YtmklifheakemeaaGreatCQ015
import Derived.Test.YtmklifheakemeaaGreatCQ012
import Derived.Test.YtmklifheakemeaaGreatCQ017
set_option maxRecDepth 100000
set_option maxHeartbeats 64000000
open _root_.Bool renaming eq_iff_iff->aN,false->aS,true->bG
open _root_.Go renaming World->aB,Value->aG,Calls->aO,Addr->aV
open Go.Ending renaming returned->aD
open Go.IntKind renaming i64->O
open Go.Lib renaming hid->U
open Go.Obj renaming cells->aK
open Go.Operand renaming tmp->aC
open Go.Proofs.Tryz renaming prog->au,ntmps116->aF,func116->aI,results15->aW,func126->aZ,func123->bf,ntmps71->bD,func71->bH
open Go.RowKit.Below renaming refl->ay,heap_setCell->aX
open Go.Value renaming slice->J,int->L,pointer->Z,string->aH,bool->aJ,agg->aL
open _root_.List renaming getElem?_toArray->ah,getElem?_cons_zero->aj,getElem?_cons_succ->ak,getElem?_eq_getElem->aQ,map_toArray->aU,map_cons->aY,map_nil->bg
open _root_.Nat renaming lt_of_le_of_lt->aP,le_of_lt->aR,le_refl->aT,lt_or_ge->bF
open _root_.Option renaming none->V,some->aA
open _root_.Or renaming inr->aM
namespace Go.Proofs.YtmklifheakemeaaGreat
namespace Bk
open Go.RowKit Go.Sort Rw YtmklifheakemeaaGreat.Nm Pr
abbrev JF (W:aB) (b:Nat) (a0 a1 a2 a3 a4 a5 a6:aG):aB:=((((((W.setCell ⟨b,0,V⟩ a0).setCell ⟨b,1,V⟩ a1).setCell ⟨b,2,V⟩ a2).setCell ⟨b,3,V⟩ a3).setCell ⟨b,4,V⟩ a4).setCell ⟨b,5,V⟩ a5).setCell ⟨b,6,V⟩ a6
theorem yT {W:aB} {b:Nat} {t:TypeId} {z0 z1 z2 z3 z4 z5 z6:aG} (h:dJ W b #[z0,z1,z2,z3,z4,z5,z6] t) (a0 a1 a2 a3 a4 a5 a6:aG):dJ (JF W b a0 a1 a2 a3 a4 a5 a6) b #[a0,a1,a2,a3,a4,a5,a6] t:=by
 have h2:=dZ (k:=6) (dZ (k:=5) (dZ (k:=4) (dZ (k:=3) (dZ (k:=2) (dZ (k:=1) (dZ (k:=0) h a0) a1) a2) a3) a4) a5) a6;simp only [List.setIfInBounds_toArray,List.set_cons_zero,List.set_cons_succ] at h2;exact h2
theorem Au (z:iH) (w:aB):aO au 48 #[nW z] w fun e w'=>e=aD (aL #[L O 3,L O z.1,L O z.2.1,L O z.2.2.1,L O z.2.2.2.1,dY z.2.2.2.2.1,J V 0 0])/\Below w.heap.size w w':=by
 obtain⟨c,d,g,h,⟨po,pn,pc⟩,fr,up⟩:=z;obtain⟨h0,h1,h2⟩:=gM w #[L O c,L O d,L O g,L O h,J po pn pc,L O fr,aJ up] #[L O 0,L O 0,L O 0,L O 0,L O 0,J V 0 0,J V 0 0] 66 41;obtain⟨x0,x1,x2,x3,x4,x5,x6⟩:=h1.nJ;obtain⟨r0,r1,r2,r3,r4,r5,r6⟩:=h2.nJ;obtain⟨t0,t1,t2,t3,t4,t5,t6⟩:=h2.fs7;have zz:=h2.lt;have FB:=U (yT h2 (L O 3) (L O c) (L O d) (L O g) (L O h) (J po pn pc) (J V 0 0));have BL:=U ((((((((h0.setCell (p:=⟨w.heap.size+1,0,V⟩) (by show w.heap.size<=w.heap.size+1; omega) (L O 3)).setCell (p:=⟨w.heap.size+1,1,V⟩) (by show w.heap.size<=w.heap.size+1; omega) (L O c)).setCell (p:=⟨w.heap.size+1,2,V⟩) (by show w.heap.size<=w.heap.size+1; omega) (L O d)).setCell (p:=⟨w.heap.size+1,3,V⟩) (by show w.heap.size<=w.heap.size+1; omega) (L O g)).setCell (p:=⟨w.heap.size+1,4,V⟩) (by show w.heap.size<=w.heap.size+1; omega) (L O h)).setCell (p:=⟨w.heap.size+1,5,V⟩) (by show w.heap.size<=w.heap.size+1; omega) (J po pn pc)).setCell (p:=⟨w.heap.size+1,6,V⟩) (by show w.heap.size<=w.heap.size+1; omega) (J V 0 0)));clear h0 h1 h2;show aO au 48 #[aL #[L O c,L O d,L O g,L O h,J po pn pc,L O fr,aJ up]] w _;go_enter Tryz.func48,Tryz.ntmps48;go_upto_region 1 with fail;generalize (w.alloc (aK #[L O c,L O d,L O g,L O h,J po pn pc,L O fr,aJ up] 66)).alloc (aK #[L O 0,L O 0,L O 0,L O 0,L O 0,J V 0 0,J V 0 0] 41)=W at *;go_wp2_with fail;obtain⟨v0,v1,v2,v3,v4,v5,v6⟩:=FB.out.nJ;refine bodyPost_ret (v:=aL #[L O 3,L O c,L O d,L O g,L O h,J po pn pc,J V 0 0]) (by simp [results,Tryz.results48,go_sem,v0,v1,v2,v3,v4,v5,v6]) rfl ?_;exact⟨rfl,BL.out⟩
end Bk
namespace Fl
open Go.RowKit Go.Sort Rw YtmklifheakemeaaGreat.Nm Pr Bk Av
theorem af0 (a:Option aV) (n c:Nat) (w:aB):(binOp .eql 39 (J a n c) (J V 0 0)).run au w=.ok (aJ a.isNone) w:=by
 simp [go_sem,binOp,run_equal_slice_nil (P:=au) w 39 156 a n c Tryz.underlying39]
theorem M7 (w:aB):aO au 126 #[J V 0 0] w fun e w'=>e=aD (J V 0 0)/\Below w.heap.size w w':=by
 have q:∀ w',(binOp .eql 39 (J V 0 0) (J V 0 0)).run au w'=.ok (aJ bG) w':=fun w'=>af0 V 0 0 w';go_enter aZ,Tryz.ntmps126;go_wp2;go_ret;exact⟨rfl,ay _ _⟩
theorem aaA {W:aB} {b:Nat} {z0 z1 z2 z3 z4 z5 z6:aG} (h:dJ W b #[z0,z1,z2,z3,z4,z5,z6] 41) (a0 a1 a2 a3 a4:Int) (o5:Option aV) (n5 c5:Nat) (o6:Option aV) (n6 c6:Nat) :
  (Instr.storeAt 41 (Z (aA ⟨b,0,V⟩)) (aL #[L O a0,L O a1,L O a2,L O a3,L O a4,J o5 n5 c5,J o6 n6 c6])).run au W=.ok () (JF W b (L O a0) (L O a1) (L O a2) (L O a3) (L O a4) (J o5 n5 c5) (J o6 n6 c6)):=by
 obtain⟨x0,x1,x2,x3,x4,x5,x6⟩:=h.nJ;obtain⟨f0,f1,f2,f3,f4,f5,f6⟩:=h.fs7;simp [go_sem,x0,x1,x2,x3,x4,x5,x6,f0,f1,f2,f3,f4,f5,f6]
theorem JG (w:aB) (b:Nat) (a0 a1 a2 a3 a4 a5 a6:aG):But b w (JF w b a0 a1 a2 a3 a4 a5 a6) :=
 (((dQ _ b _ _).trans (dQ _ b _ _)).trans ((dQ _ b _ _).trans (dQ _ b _ _))).trans (((dQ _ b _ _).trans (dQ _ b _ _)).trans (dQ _ b _ _))
theorem zA {w W:aB} {B b:Nat} (h:Below B w W) (hb:B<=b) (a0 a1 a2 a3 a4 a5 a6:aG):Below B w (JF W b a0 a1 a2 a3 a4 a5 a6) :=
 ((((((h.setCell (p:=⟨b,0,V⟩) hb a0).setCell (p:=⟨b,1,V⟩) hb a1).setCell (p:=⟨b,2,V⟩) hb a2).setCell (p:=⟨b,3,V⟩) hb a3).setCell (p:=⟨b,4,V⟩) hb a4).setCell (p:=⟨b,5,V⟩) hb a5).setCell (p:=⟨b,6,V⟩) hb a6
def aaB (B:Nat) (b1:Nat) (_k _tc _ts _ic _is_:Int) (po:Option aV) (pn pc:Nat) (p:List C5) (i:Nat) (v:aG) (x:aB):Prop :=
 match i with
 | 0=>v=Z (aA ⟨b1,5,V⟩)
 | 1=>v=J po pn pc
 | 2=>∃ s:Sl,v=dY s/\iq x B v p
 | 3=>v=Z (aA ⟨b1,6,V⟩)
 | 4=>v=J V 0 0
 | 5=>v=J V 0 0
 | 6=>v=Z (aA ⟨b1,5,V⟩)
 | _=>True
noncomputable def ahO:Code:=((Tryz.f78.body.bind (eO 1)).getD .skip)
theorem aaC (B:Nat) (b1:Nat) (k tc ts ic tK:Int) (po:Option aV) (pn pc:Nat) (p:List C5) (i:Nat) (v:aG) (x x':aB) (h:aaB B b1 k tc ts ic tK po pn pc p i v x) (hb:Below x.heap.size x x'):aaB B b1 k tc ts ic tK po pn pc p i v x':=by
 by_cases hi:i<7
 ·rcases (by omega:i=0\/i=1\/i=2\/i=3\/i=4\/i=5\/i=6) with rfl|rfl|rfl|rfl|rfl|rfl|rfl
  ·exact h
  ·exact h
  ·obtain⟨s,h1,h2⟩:=h; exact⟨s,h1,Bk.dI h2 hb⟩
  ·exact h
  ·exact h
  ·exact h
  ·exact h
 ·unfold aaB
  split <;> first | omega | trivial
theorem cm1 (Q:Exit->Act->aB->Prop) (W:aB) (b1:Nat) (k tc ts ic tK:Int) (po:Option aV) (pn pc:Nat) (p:List C5) (u0 u2 u3 u4 u5 u6 u7 u8 u9 u10 u11:aG)
  (h1:dJ W b1 #[L O k,L O tc,L O ts,L O ic,L O tK,J po pn pc,J V 0 0] 41) (r5:fK W (J po pn pc) p) (l5:p.length<=900)
  (hQ:∀ (x:aB) (v3 v4 v5 v6 v7 v8 v9 v10:aG) (q1:Option aV) (q2 q3:Nat),dJ x b1 #[L O k,L O tc,L O ts,L O ic,L O tK,J q1 q2 q3,J V 0 0] 41->iq x W.heap.size (J q1 q2 q3) p->(∀ B,B<=b1->Below B W x)->But b1 W x->Q .normal ⟨(u0::Z (aA ⟨b1,0,V⟩)::u2::v3::v4::v5::v6::v7::v8::v9::v10::u11::[]).toArray,[]⟩ x) :
  Code.wp au ahO Q ⟨(u0::Z (aA ⟨b1,0,V⟩)::u2::u3::u4::u5::u6::u7::u8::u9::u10::u11::[]).toArray,[]⟩ W:=by
 have HQ:=U hQ;have H1:=U h1;have R5:=U r5;have L5:=U l5;clear hQ h1 r5 l5;have iO:=aaC W.heap.size b1 k tc ts ic tK po pn pc p;unfold ahO
 conv=>arg 2; whnf
 have nd:∀ j,(j<3\/10<=j)->∀ i,i<7->(fun i=>3+i) i≠j:=by
  intro j hj i hi h;simp only at h;omega
 refine Rg.fQ 10 7 (fun i=>3+i) (fun _=>7) (aaB W.heap.size b1 k tc ts ic tK po pn pc p) (by kernel_rfl) (by kernel_rfl) rfl (by decide) (fun i j _ _ h=>by have h2:3+i=3+j:=h; omega) (fun i hi=>by show 3+i<12; omega) ?_ (fun _=>Rg.jq 14 (by kernel_rfl)) ?_ ?_
 ·intro i o hi ho a x D hnd hc hD hb seen K hK;clear HQ;rcases (by omega:i=0\/i=1\/i=2\/i=3\/i=4\/i=5\/i=6) with rfl|rfl|rfl|rfl|rfl|rfl|rfl
  ·cases ho;have e1:a.eval (aC 1)=Z (aA ⟨b1,0,V⟩):=seen.kp 1 _ (nd 1 (by omega)) rfl;exact Rg.dD rfl rfl (Rg.dW a.eval _ 41 (aC 1) 3 rfl (by rw [e1]; simp [go_sem])) (hK _ _ rfl (ay _ _) fun _ _ _ _ _ _ _ h=>h)
  ·cases ho;have e3:a.eval (aC 3)=Z (aA ⟨b1,5,V⟩):=seen.at_ ⟨0,.data⟩ (by simp) rfl (aM (by decide));have y5:=(H1.out.on hb).cell 5;simp only [ah,aj,ak] at y5;exact Rg.dD rfl rfl (Rg.dR a.eval _ 32 (aC 3) rfl (by rw [e3]; simp [go_sem,y5])) (hK _ _ rfl (ay _ _) fun _ _ _ _ _ _ _ h=>h)
  ·cases ho;have e4:a.eval (aC 4)=J po pn pc:=seen.at_ ⟨1,.data⟩ (by simp) rfl (aM (by decide));exact Rg.gL rfl rfl (Rw.iB a.eval _ (aC 4) 32 123 rfl e4 rfl _ (gD bf rfl rfl _ _)) (mY (po,pn,pc) p x (R5.out.on hb) L5.out) fun e w1 h=>by
    obtain⟨⟨s,rfl,h1⟩,h3⟩:=h;exact⟨_,rfl,hK _ _ ⟨s,rfl,dM h1 hb.size⟩ (h3.mono hb.size) fun j u hj _ _ _ hne h=>iO j u _ _ h h3⟩
  ·cases ho;have e1:a.eval (aC 1)=Z (aA ⟨b1,0,V⟩):=seen.kp 1 _ (nd 1 (by omega)) rfl;exact Rg.dD rfl rfl (Rg.dW a.eval _ 41 (aC 1) 4 rfl (by rw [e1]; simp [go_sem])) (hK _ _ rfl (ay _ _) fun _ _ _ _ _ _ _ h=>h)
  ·cases ho;have e6:a.eval (aC 6)=Z (aA ⟨b1,6,V⟩):=seen.at_ ⟨3,.data⟩ (by simp) rfl (aM (by decide));have y6:=(H1.out.on hb).cell 6;simp only [ah,aj,ak] at y6;exact Rg.dD rfl rfl (Rg.dR a.eval _ 39 (aC 6) rfl (by rw [e6]; simp [go_sem,y6])) (hK _ _ rfl (ay _ _) fun _ _ _ _ _ _ _ h=>h)
  ·cases ho;have e7:a.eval (aC 7)=J V 0 0:=seen.at_ ⟨4,.data⟩ (by simp) rfl (aM (by decide));exact Rg.gL rfl rfl (Rw.iB a.eval _ (aC 7) 39 126 rfl e7 rfl _ (gD aZ rfl rfl _ _)) (M7 x) fun e w1 h=>by
    obtain⟨rfl,h3⟩:=h;exact⟨_,rfl,hK _ _ rfl (h3.mono hb.size) fun j u hj _ _ _ hne h=>iO j u _ _ h h3⟩
  ·cases ho;have e1:a.eval (aC 1)=Z (aA ⟨b1,0,V⟩):=seen.kp 1 _ (nd 1 (by omega)) rfl;exact Rg.dD rfl rfl (Rg.dW a.eval _ 41 (aC 1) 3 rfl (by rw [e1]; simp [go_sem])) (hK _ _ rfl (ay _ _) fun _ _ _ _ _ _ _ h=>h)
 ·intro kk o h1 h2 ho;rcases (by omega:kk=8\/kk=9) with rfl|rfl
  ·cases ho;exact⟨⟨7,.phase⟩,by simp,rfl,rfl⟩
  ·cases ho;exact⟨⟨8,.data⟩,by simp,rfl,rfl⟩
 ·intro a w' df sz kp ⟨vs,hv⟩ hb;have sz':a.tmps.size=12:=sz;have g1:a.tmps[1]?=aA (Z (aA ⟨b1,0,V⟩)):=(kp 1 (nd 1 (by omega))).trans rfl;have g8:a.tmps[8]?=aA (J V 0 0):=by
   have h:vs 5=J V 0 0:=(hv 5 (by omega)).2 (by decide);rw [<- h];exact (hv 5 (by omega)).1
  have g9:a.tmps[9]?=aA (Z (aA ⟨b1,5,V⟩)):=by
   have h:vs 6=Z (aA ⟨b1,5,V⟩):=(hv 6 (by omega)).2 (by decide);rw [<- h];exact (hv 6 (by omega)).1
  obtain⟨⟨q1,q2,q3⟩,hs,ho⟩:=(hv 2 (by omega)).2 (by decide);have g5:a.tmps[5]?=aA (J q1 q2 q3):=((hv 2 (by omega)).1).trans (congrArg aA hs);rw [hs] at ho;have hB:=H1.out.on hb;have hlt:=H1.out.lt;show Rg.fH _ _ _ 3 7 a w';simp only [Rg.fH];have c5x:=hB.cell 5;have f5x:=hB.fr 5;simp only [ah,aj,ak] at c5x;refine Rg.fT 32 (aC 9) (aC 5) rfl rfl rfl rfl (Rg.dL g9) (Rg.dL g5) (w':=(w').setCell ⟨b1,5,V⟩ (J q1 q2 q3)) (by simp [go_sem,c5x,f5x]) ?_;have hB5:dJ ((w').setCell ⟨b1,5,V⟩ (J q1 q2 q3)) b1 #[L O k,L O tc,L O ts,L O ic,L O tK,J q1 q2 q3,J V 0 0] 41:=by simpa using dZ (k:=5) hB (J q1 q2 q3)
  refine Rg.dD rfl rfl (Rg.dW _ _ 41 (aC 1) 4 rfl (v:=Z (aA ⟨b1,6,V⟩)) (by rw [Rg.dL g1]; simp [go_sem])) ?_;have akH:(a.put (aA 10) (Z (aA ⟨b1,6,V⟩))).tmps[10]?=aA (Z (aA ⟨b1,6,V⟩)):=by simp [Act.put,sz']
  show Go.wpOp _ _ _ 9 _ (a.put (aA 10) (Z (aA ⟨b1,6,V⟩))) _;have c6x:=hB5.cell 6;have f6x:=hB5.fr 6;simp only [ah,aj,ak] at c6x;refine Rg.fT 39 (aC 10) (aC 8) rfl rfl rfl rfl (Rg.dL akH) (Rg.dL ((Rg.get_put _ 10 _ 8 (by decide)).trans g8)) (w':=((w').setCell ⟨b1,5,V⟩ (J q1 q2 q3)).setCell ⟨b1,6,V⟩ (J V 0 0)) (by simp [go_sem,c6x,f6x]) ?_;have hB6:dJ (((w').setCell ⟨b1,5,V⟩ (J q1 q2 q3)).setCell ⟨b1,6,V⟩ (J V 0 0)) b1 #[L O k,L O tc,L O ts,L O ic,L O tK,J q1 q2 q3,J V 0 0] 41:=by simpa using dZ (k:=6) hB5 (J V 0 0)
  have qI:∀ j,(j<3\/11<=j)->((a.put (aA 10) (Z (aA ⟨b1,6,V⟩)))).tmps[j]?=(u0::Z (aA ⟨b1,0,V⟩)::u2::u3::u4::u5::u6::u7::u8::u9::u10::u11::[])[j]?:=fun j hj=>(Rg.get_put _ 10 _ j (by omega)).trans ((kp j (nd j (by omega))).trans ah);obtain⟨mid,hmid,hfr⟩:=Rg.gJ (a:=(a.put (aA 10) (Z (aA ⟨b1,6,V⟩)))) 3 8 df (by simp [Rg.size_put,sz']) (by simp) qI;show Q .normal ((a.put (aA 10) (Z (aA ⟨b1,6,V⟩)))) _;rw [hfr]
  match mid,hmid with
  | [v3,v4,v5,v6,v7,v8,v9,v10],_ =>
   exact HQ.out _ _ _ _ _ _ _ _ _ q1 q2 q3 hB6 (dX (dX ho b1 5 (J q1 q2 q3) hlt) b1 6 (J V 0 0) hlt) (fun B hBl=>(((hb.mono (aR (aP hBl hlt))).setCell (p:=⟨b1,5,V⟩) hBl (J q1 q2 q3)).setCell (p:=⟨b1,6,V⟩) hBl (J V 0 0))) (((But.of_below hb).trans (dQ _ b1 5 _)).trans (dQ _ b1 6 _))
def OZ (B:Nat) (b1 _b2:Nat) (y1 y2 y3 y4:Int) (po:Option aV) (pn pc:Nat) (_y6:Int) (_y7:Bool) (p:List C5) (i:Nat) (v:aG) (x:aB):Prop :=
 match i with
 | 0=>v=Z (aA ⟨b1,0,V⟩)
 | 1=>v=aL #[L O y1,L O y2]
 | 2=>v=Z (aA ⟨b1,2,V⟩)
 | 3=>v=aL #[L O y3,L O y4]
 | 4=>v=Z (aA ⟨b1,4,V⟩)
 | 5=>v=J po pn pc
 | 6=>∃ s:Sl,v=dY s/\iq x B (dY s) p
 | 7=>∃ s:Sl,v=aL #[L O 3,L O y1,L O y2,L O y3,L O y4,dY s,J V 0 0]/\iq x B (dY s) p
 | _=>True
noncomputable def abE:Code:=((Tryz.f95.body.bind (eO 1)).getD .skip)
theorem UQ (B:Nat) (b1 b2:Nat) (y1 y2 y3 y4:Int) (po:Option aV) (pn pc:Nat) (y6:Int) (y7:Bool) (p:List C5) (i:Nat) (v:aG) (x x':aB) (h:OZ B b1 b2 y1 y2 y3 y4 po pn pc y6 y7 p i v x) (hb:Below x.heap.size x x'):OZ B b1 b2 y1 y2 y3 y4 po pn pc y6 y7 p i v x':=by
 by_cases hi:i<8
 ·rcases (by omega:i=0\/i=1\/i=2\/i=3\/i=4\/i=5\/i=6\/i=7) with rfl|rfl|rfl|rfl|rfl|rfl|rfl|rfl
  ·exact h
  ·exact h
  ·exact h
  ·exact h
  ·exact h
  ·exact h
  ·obtain⟨s,h1,h2⟩:=h; exact⟨s,h1,Bk.dI h2 hb⟩
  ·obtain⟨s,h1,h2⟩:=h; exact⟨s,h1,Bk.dI h2 hb⟩
 ·unfold OZ
  split <;> first | omega | trivial
theorem akI (Q:Exit->Act->aB->Prop) (W:aB) (b1 b2:Nat) (y1 y2 y3 y4:Int) (po:Option aV) (pn pc:Nat) (y6:Int) (y7:Bool) (p:List C5) (u0 u3 u4 u5 u6 u7 u8 u9 u10:aG)
  (h1:dJ W b1 #[L O y1,L O y2,L O y3,L O y4,J po pn pc,L O y6,aJ y7] 66) (h2:dJ W b2 #[L O 0,L O 0,L O 0,L O 0,L O 0,J V 0 0,J V 0 0] 41) (r5:fK W (J po pn pc) p) (l5:p.length<=900)
  (hQ:∀ (x:aB) (v3 v4 v5 v6 v7 v8 v9 v10:aG) (q1:Option aV) (q2 q3:Nat),dJ x b2 #[L O 3,L O y1,L O y2,L O y3,L O y4,J q1 q2 q3,J V 0 0] 41->iq x W.heap.size (J q1 q2 q3) p->(∀ B,B<=b2->Below B W x)->Q .normal ⟨(u0::Z (aA ⟨b1,0,V⟩)::Z (aA ⟨b2,0,V⟩)::v3::v4::v5::v6::v7::v8::v9::v10::[]).toArray,[]⟩ x) :
  Code.wp au abE Q ⟨(u0::Z (aA ⟨b1,0,V⟩)::Z (aA ⟨b2,0,V⟩)::u3::u4::u5::u6::u7::u8::u9::u10::[]).toArray,[]⟩ W:=by
 have HQ:=U hQ;have H1:=U h1;have H2:=U h2;have R5:=U r5;have L5:=U l5;clear hQ h1 h2 r5 l5;have iO:=UQ W.heap.size b1 b2 y1 y2 y3 y4 po pn pc y6 y7 p;unfold abE
 conv=>arg 2; whnf
 have nd:∀ j,(j<3\/11<=j)->∀ i,i<8->(fun i=>3+i) i≠j:=by
  intro j hj i hi h;simp only at h;omega
 refine Rg.fQ 9 8 (fun i=>3+i) (fun _=>8) (OZ W.heap.size b1 b2 y1 y2 y3 y4 po pn pc y6 y7 p) (by kernel_rfl) (by kernel_rfl) rfl (by decide) (fun i j _ _ h=>by have h2:3+i=3+j:=h; omega) (fun i hi=>by show 3+i<11; omega) ?_ (fun _=>Rg.jq 14 (by kernel_rfl)) ?_ ?_
 ·intro i o hi ho a x D hnd hc hD hb seen K hK;clear HQ;rcases (by omega:i=0\/i=1\/i=2\/i=3\/i=4\/i=5\/i=6\/i=7) with rfl|rfl|rfl|rfl|rfl|rfl|rfl|rfl
  ·cases ho;have e1:a.eval (aC 1)=Z (aA ⟨b1,0,V⟩):=seen.kp 1 _ (nd 1 (by omega)) rfl;exact Rg.dD rfl rfl (Rg.dW a.eval _ 66 (aC 1) 0 rfl (by rw [e1]; simp [go_sem])) (hK _ _ rfl (ay _ _) fun _ _ _ _ _ _ _ h=>h)
  ·cases ho;have e3:a.eval (aC 3)=Z (aA ⟨b1,0,V⟩):=seen.at_ ⟨0,.data⟩ (by simp) rfl (aM (by decide));have y1:=(H1.out.on hb).cell 1;have y0:=(H1.out.on hb).cell 0;simp only [ah,aj,ak] at y0 y1;exact Rg.dD rfl rfl (Rg.dR a.eval _ 31 (aC 3) rfl (by rw [e3]; simp [go_sem,y0,y1])) (hK _ _ rfl (ay _ _) fun _ _ _ _ _ _ _ h=>h)
  ·cases ho;have e1:a.eval (aC 1)=Z (aA ⟨b1,0,V⟩):=seen.kp 1 _ (nd 1 (by omega)) rfl;exact Rg.dD rfl rfl (Rg.dW a.eval _ 66 (aC 1) 1 rfl (by rw [e1]; simp [go_sem])) (hK _ _ rfl (ay _ _) fun _ _ _ _ _ _ _ h=>h)
  ·cases ho;have e5:a.eval (aC 5)=Z (aA ⟨b1,2,V⟩):=seen.at_ ⟨2,.data⟩ (by simp) rfl (aM (by decide));have y2:=(H1.out.on hb).cell 2;have y3:=(H1.out.on hb).cell 3;simp only [ah,aj,ak] at y2 y3;exact Rg.dD rfl rfl (Rg.dR a.eval _ 31 (aC 5) rfl (by rw [e5]; simp [go_sem,y2,y3])) (hK _ _ rfl (ay _ _) fun _ _ _ _ _ _ _ h=>h)
  ·cases ho;have e1:a.eval (aC 1)=Z (aA ⟨b1,0,V⟩):=seen.kp 1 _ (nd 1 (by omega)) rfl;exact Rg.dD rfl rfl (Rg.dW a.eval _ 66 (aC 1) 2 rfl (by rw [e1]; simp [go_sem])) (hK _ _ rfl (ay _ _) fun _ _ _ _ _ _ _ h=>h)
  ·cases ho;have e7:a.eval (aC 7)=Z (aA ⟨b1,4,V⟩):=seen.at_ ⟨4,.data⟩ (by simp) rfl (aM (by decide));have y4:=(H1.out.on hb).cell 4;simp only [ah,aj,ak] at y4;exact Rg.dD rfl rfl (Rg.dR a.eval _ 32 (aC 7) rfl (by rw [e7]; simp [go_sem,y4])) (hK _ _ rfl (ay _ _) fun _ _ _ _ _ _ _ h=>h)
  ·cases ho;have e8:a.eval (aC 8)=J po pn pc:=seen.at_ ⟨5,.data⟩ (by simp) rfl (aM (by decide));exact Rg.gL rfl rfl (Rw.iB a.eval _ (aC 8) 32 123 rfl e8 rfl _ (gD bf rfl rfl _ _)) (mY (po,pn,pc) p x (R5.out.on hb) L5.out) fun e w1 h=>by
    obtain⟨⟨s,rfl,h1⟩,h3⟩:=h;exact⟨_,rfl,hK _ _ ⟨s,rfl,dM h1 hb.size⟩ (h3.mono hb.size) fun j u hj _ _ _ hne h=>iO j u _ _ h h3⟩
  ·cases ho;have e4:a.eval (aC 4)=aL #[L O y1,L O y2]:=seen.at_ ⟨1,.data⟩ (by simp) rfl (aM (by decide));have e6:a.eval (aC 6)=aL #[L O y3,L O y4]:=seen.at_ ⟨3,.data⟩ (by simp) rfl (aM (by decide));have E9:=seen.at_ ⟨6,.data⟩ (by simp) rfl (aM (by decide));obtain⟨s,q0,q1⟩:=E9;have q0:a.eval (aC 9)=dY s:=q0;exact Rg.dD rfl rfl (Rg.jZ a.eval _ 41 #[(0,.const (L O 3)),(1,aC 4),(2,aC 6),(3,aC 9)] rfl (by simp only [aU,aY,bg,e4,e6,q0]; rfl) (v:=aL #[L O 3,L O y1,L O y2,L O y3,L O y4,dY s,J V 0 0]) (by simp [go_sem])) (hK _ _ ⟨s,rfl,q1⟩ (ay _ _) fun _ _ _ _ _ _ _ h=>h)
 ·intro kk o h1 h2 ho;omega
 ·intro a w' df sz kp ⟨vs,hv⟩ hb;have sz':a.tmps.size=11:=sz;have g2:a.tmps[2]?=aA (Z (aA ⟨b2,0,V⟩)):=(kp 2 (nd 2 (by omega))).trans rfl;obtain⟨⟨q1,q2,q3⟩,hs,ho⟩:=(hv 7 (by omega)).2 (by decide);have g10:a.tmps[10]?=aA (aL #[L O 3,L O y1,L O y2,L O y3,L O y4,J q1 q2 q3,J V 0 0]):=((hv 7 (by omega)).1).trans (congrArg aA hs);have hB:=H2.out.on hb;have hlt:=H2.out.lt;show Rg.fH _ _ _ 1 8 a w';simp only [Rg.fH];refine Rg.fT 41 (aC 2) (aC 10) rfl rfl rfl rfl (Rg.dL g2) (Rg.dL g10) (w':=JF w' b2 (L O 3) (L O y1) (L O y2) (L O y3) (L O y4) (J q1 q2 q3) (J V 0 0)) (aaA hB _ _ _ _ _ _ _ _ _ _ _) ?_;have hbx:=yT hB (L O 3) (L O y1) (L O y2) (L O y3) (L O y4) (J q1 q2 q3) (J V 0 0);have hbt:=JG w' b2 (L O 3) (L O y1) (L O y2) (L O y3) (L O y4) (J q1 q2 q3) (J V 0 0);have qI:∀ j,(j<3\/11<=j)->(a).tmps[j]?=(u0::Z (aA ⟨b1,0,V⟩)::Z (aA ⟨b2,0,V⟩)::u3::u4::u5::u6::u7::u8::u9::u10::[])[j]?:=fun j hj=>(kp j (nd j (by omega))).trans ah;obtain⟨mid,hmid,hfr⟩:=Rg.gJ (a:=a) 3 8 df (by simp [sz']) (by simp) qI;show Q .normal (a) _;rw [hfr]
  match mid,hmid with
  | [v3,v4,v5,v6,v7,v8,v9,v10],_ =>
   exact HQ.out _ _ _ _ _ _ _ _ _ q1 q2 q3 hbx (hbt.own ho hB (by decide)) (fun B hBl=>zA (hb.mono (aR (aP hBl hlt))) hBl _ _ _ _ _ _ _)
theorem af2 (k tc ts ic tK:Int) (pv:Sl) (p:List C5) (w:aB) (hp:fK w (dY pv) p) (hl:p.length<=900) :
  aO au 78 #[aL #[L O k,L O tc,L O ts,L O ic,L O tK,dY pv,J V 0 0]] w fun e w'=>(∃ s:Sl,e=aD (aL #[L O k,L O tc,L O ts,L O ic,L O tK,dY s,J V 0 0])/\iq w' w.heap.size (dY s) p)/\Below w.heap.size w w':=by
 obtain⟨po,pn,pc⟩:=pv;obtain⟨h0,h1,h2⟩:=gM w #[L O k,L O tc,L O ts,L O ic,L O tK,J po pn pc,J V 0 0] #[L O 0,L O 0,L O 0,L O 0,L O 0,J V 0 0,J V 0 0] 41 41;have GB:=U h0;have X1:=U h1;have X2:=U h2;have HP:=U (hp.on h0);clear h0 h1 h2 hp;show aO au 78 #[aL #[L O k,L O tc,L O ts,L O ic,L O tK,J po pn pc,J V 0 0]] w _;go_enter Tryz.func78,Tryz.ntmps78;go_upto_region 1 with fail;generalize (w.alloc (aK #[L O k,L O tc,L O ts,L O ic,L O tK,J po pn pc,J V 0 0] 41)).alloc (aK #[L O 0,L O 0,L O 0,L O 0,L O 0,J V 0 0,J V 0 0] 41)=W at *;refine cm1 _ W w.heap.size k tc ts ic tK po pn pc p _ _ _ _ _ _ _ _ _ _ _ X1.out HP.out hl ?_;intro x v3 v4 v5 v6 v7 v8 v9 v10 q1 q2 q3 hbx ho hbl hbt;have Y1:=U hbx;have Y2:=U (hbt.box X2.out (by omega));have OO:=U (dM ho GB.out.size);have G2:=U (GB.out.trans (hbl w.heap.size (aT _)));clear hbx ho hbl hbt GB X1 X2 HP;obtain⟨x0,x1,x2,x3,x4,x5,x6⟩:=Y1.out.nJ;obtain⟨r0,r1,r2,r3,r4,r5,r6⟩:=Y2.out.nJ;obtain⟨t0,t1,t2,t3,t4,t5,t6⟩:=Y2.out.fs7;have zz:=Y2.out.lt;have FB:=U (yT Y2.out (L O k) (L O tc) (L O ts) (L O ic) (L O tK) (J q1 q2 q3) (J V 0 0));have BL:=U (zA (b:=w.heap.size+1) G2.out (by omega) (L O k) (L O tc) (L O ts) (L O ic) (L O tK) (J q1 q2 q3) (J V 0 0));have OX:=U ((JG x (w.heap.size+1) (L O k) (L O tc) (L O ts) (L O ic) (L O tK) (J q1 q2 q3) (J V 0 0)).own OO.out Y2.out (by decide));clear Y1 Y2 OO G2;go_wp2_with fail;obtain⟨v0,v1,v2,v3,v4,v5,v6⟩:=FB.out.nJ;refine bodyPost_ret (v:=aL #[L O k,L O tc,L O ts,L O ic,L O tK,J q1 q2 q3,J V 0 0]) (by simp [results,Tryz.results78,go_sem,v0,v1,v2,v3,v4,v5,v6]) rfl ?_;exact⟨⟨(q1,q2,q3),rfl,OX.out⟩,BL.out⟩
theorem Ro (z:iH) (p:List C5) (w:aB) (hp:fK w (dY z.2.2.2.2.1) p) (hl:p.length<=900) :
  aO au 95 #[nW z] w fun e w'=>(∃ s:Sl,e=aD (aL #[L O 3,L O z.1,L O z.2.1,L O z.2.2.1,L O z.2.2.2.1,dY s,J V 0 0])/\iq w' w.heap.size (dY s) p)/\Below w.heap.size w w':=by
 obtain⟨y1,y2,y3,y4,⟨po,pn,pc⟩,y6,y7⟩:=z;obtain⟨h0,h1,h2⟩:=gM w #[L O y1,L O y2,L O y3,L O y4,J po pn pc,L O y6,aJ y7] #[L O 0,L O 0,L O 0,L O 0,L O 0,J V 0 0,J V 0 0] 66 41;have GB:=U h0;have X1:=U h1;have X2:=U h2;have HP:=U (hp.on h0);clear h0 h1 h2 hp;show aO au 95 #[aL #[L O y1,L O y2,L O y3,L O y4,J po pn pc,L O y6,aJ y7]] w _;go_enter Tryz.func95,Tryz.ntmps95;go_upto_region 1 with fail;generalize (w.alloc (aK #[L O y1,L O y2,L O y3,L O y4,J po pn pc,L O y6,aJ y7] 66)).alloc (aK #[L O 0,L O 0,L O 0,L O 0,L O 0,J V 0 0,J V 0 0] 41)=W at *;refine akI _ W w.heap.size (w.heap.size+1) y1 y2 y3 y4 po pn pc y6 y7 p _ _ _ _ _ _ _ _ _ X1.out X2.out HP.out hl ?_;intro x v3 v4 v5 v6 v7 v8 v9 v10 q1 q2 q3 hbx ho hbl;have FB:=U hbx;have OO:=U (dM ho GB.out.size);have G2:=U (GB.out.trans (hbl w.heap.size (by omega)));clear hbx ho hbl GB X1 X2 HP;go_wp2_with fail;obtain⟨v0,v1,v2,v3,v4,v5,v6⟩:=FB.out.nJ;refine bodyPost_ret (v:=aL #[L O 3,L O y1,L O y2,L O y3,L O y4,J q1 q2 q3,J V 0 0]) (by simp [results,Tryz.results95,go_sem,v0,v1,v2,v3,v4,v5,v6]) rfl ?_;exact⟨⟨(q1,q2,q3),rfl,OO.out⟩,G2.out⟩
end Fl
namespace Avp
open Go.RowKit Go.Sort Rw YtmklifheakemeaaGreat.Nm At Pr Wr Va
theorem uR (w:aB) (o:Obj):Below w.heap.size w (w.alloc o):=(ay _ _).alloc (aT _) _
theorem Rp (t:ByteArray):t.toList.isEmpty=decide (t.size=0):=by
 rw [ByteArray.toList_eq];obtain⟨⟨l⟩⟩:=t;cases l <;> simp [ByteArray.size]
theorem Aw (s:ByteArray) (w:aB) (hs:s.size<=maxLen) :
  aO au 155 #[aH s] w fun e w'=>e=aD (aJ (kQ s))/\w=w':=Pr.EM s w hs
theorem M8 (s t:ByteArray) (lo hi:Int) (w:aB) (hs:s.size<=maxLen) :
  aO au 116 #[cv (s,1,lo,hi,t)] w fun e w'=>e=aD (aJ (oz (s,1,lo,hi,t)))/\Below w.heap.size w w':=by
 have B:=U (uR w (aK #[aH s,L O 1,L O lo,L O hi,aH t] 70));have NM:=U (fun w=>Aw s w hs);have R:=U (show oz (s,1,lo,hi,t)=(At.kQ s && (decide (lo<=hi) && t.toList.isEmpty)) by simp [oz,Rp,Bool.and_comm]);generalize At.kQ s=b at *;cases b
 ·go_enter aI,aF;go_wp2_with fail;refine (NM.out _).mono ?_;rintro e w' ⟨rfl,rfl⟩;go_wp2;go_ret;exact⟨by rw [R.out]; rfl,B.out⟩
 obtain⟨b1,h1⟩:∃ b,decide (lo<=hi)=b:=⟨_,rfl⟩;rw [h1] at R;cases b1
 ·go_enter aI,aF;go_wp2_with fail;refine (NM.out _).mono ?_;rintro e w' ⟨rfl,rfl⟩;go_wp2;go_ret;exact⟨by rw [R.out]; rfl,B.out⟩
 by_cases he:t.toList=[]
 ·have R2:=U (show oz (s,1,lo,hi,t)=bG by rw [R.out,he]; rfl);go_enter aI,aF;go_wp2_with fail;refine (NM.out _).mono ?_;rintro e w' ⟨rfl,rfl⟩;go_wp2;go_ret;exact⟨by rw [R2.out]; rfl,B.out⟩
 ·have he2:t.toList.isEmpty=aS:=by simpa using he
  have R2:=U (show oz (s,1,lo,hi,t)=aS by rw [R.out,he2]; rfl);go_enter aI,aF;go_wp2_with fail;refine (NM.out _).mono ?_;rintro e w' ⟨rfl,rfl⟩;go_wp2;go_ret;exact⟨by rw [R2.out]; rfl,B.out⟩
theorem M9 (s t:ByteArray) (lo hi:Int):oz (s,2,lo,hi,t)=(At.kQ s && ((lo == 0) && ((hi == 0) && decide ((t.size:Int)<=12)))):=by
 have e:∀ x:Int,decide (x=0)=(x == 0):=fun x=>by rw [aN]; simp
 have e3:decide ((t.size:Int)<=12)=decide (t.size<=12):=by rw [aN]; simp; omega
 unfold oz;simp [e,e3]
theorem Na (s t:ByteArray) (lo hi:Int):oz (s,3,lo,hi,t)=(At.kQ s && (!decide ((12:Int)<=(t.size:Int)) && ((lo == 0) && (hi == 0)))):=by
 have e:∀ x:Int,decide (x=0)=(x == 0):=fun x=>by rw [aN]; simp
 unfold oz;simp only [e];rw [aN];simp;omega
theorem Rq (s t:ByteArray) (lo hi:Int) (w:aB) (hs:s.size<=maxLen) (_ht:t.size<=maxLen) :
  aO au 116 #[cv (s,2,lo,hi,t)] w fun e w'=>e=aD (aJ (oz (s,2,lo,hi,t)))/\Below w.heap.size w w':=by
 have B:=U (uR w (aK #[aH s,L O 2,L O lo,L O hi,aH t] 70));have NM:=U (fun w=>Aw s w hs);have R:=U (M9 s t lo hi);generalize At.kQ s=b at *;obtain⟨b1,h1⟩:∃ x,(lo == 0)=x:=⟨_,rfl⟩;obtain⟨b2,h2⟩:∃ x,(hi == 0)=x:=⟨_,rfl⟩;obtain⟨b3,h3⟩:∃ x,decide ((t.size:Int)<=12)=x:=⟨_,rfl⟩;rw [h1,h2,h3] at R;cases b <;> cases b1 <;> cases b2 <;> cases b3 <;> (
  go_enter aI,aF;go_wp2_with fail;refine (NM.out _).mono ?_;rintro e w' ⟨rfl,rfl⟩;go_wp2;go_ret;exact⟨by rw [R.out]; rfl,B.out⟩)
theorem JH (s t:ByteArray) (lo hi:Int) (w:aB) (hs:s.size<=maxLen) (_ht:t.size<=maxLen) :
  aO au 116 #[cv (s,3,lo,hi,t)] w fun e w'=>e=aD (aJ (oz (s,3,lo,hi,t)))/\Below w.heap.size w w':=by
 have B:=U (uR w (aK #[aH s,L O 3,L O lo,L O hi,aH t] 70));have NM:=U (fun w=>Aw s w hs);have R:=U (Na s t lo hi);have h4:decide ((12:Int)<=(t.size:Int))=aS->decide ((t.size:Int)<=12)=bG:=by
  intro h;simp at h ⊢;omega
 generalize At.kQ s=b at *;obtain⟨b1,h1⟩:∃ x,(lo == 0)=x:=⟨_,rfl⟩;obtain⟨b2,h2⟩:∃ x,(hi == 0)=x:=⟨_,rfl⟩;obtain⟨b3,h3⟩:∃ x,decide ((12:Int)<=(t.size:Int))=x:=⟨_,rfl⟩;rw [h1,h2,h3] at R;cases b3
 ·have h5:=h4 h3;clear h4;cases b <;> cases b1 <;> cases b2 <;> (
   go_enter aI,aF;go_wp2_with fail;refine (NM.out _).mono ?_;rintro e w' ⟨rfl,rfl⟩;go_wp2;go_ret;exact⟨by rw [R.out]; rfl,B.out⟩)
 ·clear h4;cases b <;> (
   go_enter aI,aF;go_wp2_with fail;refine (NM.out _).mono ?_;rintro e w' ⟨rfl,rfl⟩;go_wp2;go_ret;exact⟨by rw [R.out]; rfl,B.out⟩)
theorem Nb (s t:ByteArray) (k lo hi:Int) (w:aB) (hs:s.size<=maxLen) (h1:k≠1) (h2:k≠2) (h3:k≠3) :
  aO au 116 #[cv (s,k,lo,hi,t)] w fun e w'=>e=aD (aJ (oz (s,k,lo,hi,t)))/\Below w.heap.size w w':=by
 have B:=U (uR w (aK #[aH s,L O k,L O lo,L O hi,aH t] 70));have NM:=U (fun w=>Aw s w hs);have R:=U (show oz (s,k,lo,hi,t)=aS by simp [oz,h1,h2,h3]);have e1:(k == 1)=aS:=by simpa using h1
 have e2:(k == 2)=aS:=by simpa using h2
 have e3:(k == 3)=aS:=by simpa using h3
 clear h1 h2 h3;generalize At.kQ s=b at *;cases b <;> (
  go_enter aI,aF;go_wp2_with fail;refine (NM.out _).mono ?_;rintro e w' ⟨rfl,rfl⟩;go_wp2;go_ret;exact⟨by rw [R.out]; rfl,B.out⟩)
theorem UR (c:C5) (w:aB) (hs:c.1.size<=maxLen) (ht:c.2.2.2.2.size<=maxLen) :
  aO au 116 #[cv c] w fun e w'=>e=aD (aJ (oz c))/\Below w.heap.size w w':=by
 obtain⟨s,k,lo,hi,t⟩:=c;by_cases h1:k=1
 ·subst h1; exact M8 s t lo hi w hs
 by_cases h2:k=2
 ·subst h2; exact Rq s t lo hi w hs ht
 by_cases h3:k=3
 ·subst h3; exact JH s t lo hi w hs ht
 exact Nb s t k lo hi w hs h1 h2 h3
theorem wH (lv:aG) (l:List C5) (w:aB) (hl:fK w lv l) (hs:∀ x∈l,x.1.size<=maxLen/\x.2.2.2.2.size<=maxLen) :
  aO au 71 #[lv] w fun e w'=>e=aD (aJ (fU l))/\Below w.heap.size w w':=by
 have HL:=U hl;have HS:=U hs;have HM:=U hl.most;obtain⟨ao,ac,rfl⟩:=hl.len;clear hl hs;by_cases akJ:l.length<=5
 ·have d0:decide ((5:Int)<(l.length:Int))=aS:=by simp; omega
  go_enter bH,bD;go_wp2
  go_loopw [10] (fun i wr=>∃ k:Nat,k<=l.length/\i=L O k/\Below w.heap.size w wr/\∀ j,j<k->sQ l j=bG) (fun i _=>l.length-(intOf i).toNat)
  case atStart=>exact⟨0,Nat.zero_le _,rfl,ay _ _,fun j h=>by omega⟩
  case round =>
   obtain⟨k,hk,rfl,hb,hall⟩:=hrel;have HB:=U hb;have AL:=U hall;clear hb hall d0;by_cases hlt:k<l.length
   ·obtain⟨⟨xn,xk,xi,xj,xs⟩,hx⟩:∃ x,l[k]?=aA x:=⟨_,aQ hlt⟩;obtain⟨p,ix,px⟩:=Tm HL.out rfl rfl hx;obtain⟨p0,p1,p2,p3,p4⟩:=px _ HB.out;have hsz:=HS.out _ (List.mem_of_getElem? hx);have C:=U (UR (xn,xk,xi,xj,xs) (wr.alloc (aK #[aH xn,L O xk,L O xi,L O xj,aH xs] 70)) hsz.1 hsz.2);have B4:=U (HB.out.alloc HB.out.size (aK #[aH xn,L O xk,L O xi,L O xj,aH xs] 70));have X4:=U (dO wr #[aH xn,L O xk,L O xi,L O xj,aH xs] 70);have HX:=U hx;obtain⟨r1,h1⟩:∃ r,oz (xn,xk,xi,xj,xs)=r:=⟨_,rfl⟩;have E1:=U h1;rw [h1] at C;clear hx px hsz h1;simp only at p0 p1 p2 p3 p4;go_wp2_with fail;refine C.out.mono ?_;rintro e5 w6 ⟨rfl,hb5⟩;have BN:=U (B4.out.trans (hb5.mono B4.out.size));have b0:=cell_regrown (show w6.cell? ⟨wr.heap.size,0,V⟩=aA (aH xn) from (X4.out.on hb5).cell 0);clear hb5 C B4 ix p0 p1 p2 p3 p4 X4;cases r1
    ·have R:=U (show fU l=aS from Bg l k hlt (by simp [sQ,HX.out,E1.out]));go_wp2;go_ret;exact⟨eu R.out.symm,BN.out⟩
    ·cases k with
     | zero =>
      have G:=U (show sQ l 0=bG by simp [sQ,HX.out,E1.out]);rw [show ((0:Nat):Int)=0 from rfl];go_wp2;refine wp_region_quiet_below (by kernel_rfl) (by kernel_rfl) ?_
      repeat (go_big_quiet_step (fail))
      refine wpQuiet_nil ?_;intro _ hw';obtain⟨⟨dq,osq⟩,hw''⟩:=hw';subst hw'';have BZ:=U (BN.out.trans ((below_regrown w6 dq osq).mono BN.out.size));clear b0;go_wp2
      go_roundw
      case rel=>exact⟨0+1,by omega,by go_num,BZ.out,fun j hj=>by
       rcases bF j (0) with h3|h3
       ·exact AL.out j h3
       ·obtain rfl:j=0:=by omega
        exact G.out⟩
      case measure=>simp [intOf]; omega
     | succ m =>
      obtain⟨⟨yn,yt,yi,yj,ys⟩,hy⟩:∃ y,l[m]?=aA y:=⟨_,aQ (by omega)⟩;obtain⟨q,iy,qx⟩:=Tm HL.out rfl rfl hy;have y0:=cell_regrown (qx _ BN.out).1;have HY:=U hy;obtain⟨r3,h3⟩:∃ r,Op.bytesLess yn.toList xn.toList=r:=⟨_,rfl⟩;have E3:=U h3;clear hy qx;simp only at y0;rw [show ((m+1:Nat):Int)=(m:Int)+1 from rfl];have e35:IntKind.i64.wrap ((m:Int)+1-1)=m:=by rw [show (m:Int)+1-1=m by omega]; exact IntWalk.i64_in _ (by omega)
      have e36:(m:Int)+1-1=m:=by omega
      cases r3
      ·have R:=U (show fU l=aS from Bg l (m+1) hlt (by simp [sQ,HX.out,E1.out,HY.out,Uk,E3.out]));go_wp2;refine wp_region_quiet_below (by kernel_rfl) (by kernel_rfl) ?_
       repeat (go_big_quiet_step (fail))
       refine wpQuiet_nil ?_;intro _ hw';obtain⟨⟨dq,osq⟩,hw''⟩:=hw';subst hw'';have BZ:=U (BN.out.trans ((below_regrown w6 dq osq).mono BN.out.size));go_wp2;go_ret;exact⟨eu R.out.symm,BZ.out⟩
      ·have G:=U (show sQ l (m+1)=bG by simp [sQ,HX.out,E1.out,HY.out,Uk,E3.out]);go_wp2;refine wp_region_quiet_below (by kernel_rfl) (by kernel_rfl) ?_
       repeat (go_big_quiet_step (fail))
       refine wpQuiet_nil ?_;intro _ hw';obtain⟨⟨dq,osq⟩,hw''⟩:=hw';subst hw'';have BZ:=U (BN.out.trans ((below_regrown w6 dq osq).mono BN.out.size));clear iy y0 e35 e36 h3 b0;go_wp2
       go_roundw
       case rel=>exact⟨m+1+1,by omega,by go_num,BZ.out,fun j hj=>by
        rcases bF j (m+1) with h3|h3
        ·exact AL.out j h3
        ·obtain rfl:j=m+1:=by omega
         exact G.out⟩
       case measure=>simp [intOf]; omega
   ·obtain rfl:k=l.length:=by omega
    have R:=U (show fU l=bG by rw [Bh l AL.out]; simp; omega);go_wp2;go_ret;exact⟨eu R.out.symm,HB.out⟩
 ·have d0:decide ((5:Int)<(l.length:Int))=bG:=by simp; omega
  have R:=U (show fU l=aS by simp [fU,akJ]);go_enter bH,bD;go_wp2;go_ret;exact⟨eu R.out.symm,ay _ _⟩
end Avp
namespace Rl
open Go.RowKit Pu Rw Pr Va
end Rl
namespace Bk
open Go.RowKit Go.Sort Rw YtmklifheakemeaaGreat.Nm Pr
def uV (B:Nat) (bv:aG) (f c d:Int) (l:List Int) (i:Nat) (v:aG) (x:aB):Prop :=
 match i with
 | 0=>v=bv
 | 1=>v=bv
 | 2=>v=L O f
 | 3=>v=mW (c,d)
 | 4=>v=aL #[L O 2,L O c,L O d,L O 0,L O 0,J V 0 0,J V 0 0]
 | 5=>∃ sl:Sl,v=dY sl/\jT x B v (mF l f fun n=>(n,2,c,d,0,0,(V,0,0),(V,0,0)))
 | _=>True
noncomputable def O6:Code:=((Tryz.f15.body.bind (eO 4)).getD .skip)
theorem UU (Q:Exit->Act->aB->Prop) (W:aB) (b3 b5 b6:Nat) (me f c d:Int) (o1 o2 o3 o4 o5:Option aV) (n1 c1 n2 c2 n3 c3 n4 c4 n5 c5:Nat) (l:List Int) (z0 z1 z2 z3 z4 z5:aG) (u0 u2 u4 u7 u8 u9 u10 u11 u12 u13 u14 u15 u16 u17 u18 u19 u20 u21 u22 u23 u24:aG)
  (h3:dJ W b3 #[L O me,J o1 n1 c1,J o2 n2 c2,J o3 n3 c3,J o4 n4 c4,J o5 n5 c5] 28) (h5:dJ W b5 #[L O c,L O d] 31) (h6:dJ W b6 #[z0,z1,z2,z3,z4,z5] 28) (hl:qF W (J o1 n1 c1) l) (hlen:l.length<=900)
  (hQ:∀ (a:Act) (x:aB) (sl:Sl),a.defers=[]->a.tmps[6]?=aA (Z (aA ⟨b6,0,V⟩))->a.tmps[7]?=aA (dY sl)->dJ x b6 #[L O me,J o1 n1 c1,J o2 n2 c2,J o3 n3 c3,J o4 n4 c4,J o5 n5 c5] 28->jT x W.heap.size (dY sl) (mF l f fun n=>(n,2,c,d,0,0,(V,0,0),(V,0,0)))->(∀ k,k<W.heap.size->k≠b6->x.heap[k]?=W.heap[k]?)->(∀ B,B<=b6->Below B W x)->Q .normal a x) :
  Code.wp au O6 Q ⟨(u0::L O f::u2::Z (aA ⟨b3,0,V⟩)::u4::Z (aA ⟨b5,0,V⟩)::Z (aA ⟨b6,0,V⟩)::u7::u8::u9::u10::u11::u12::u13::u14::u15::u16::u17::u18::u19::u20::u21::u22::u23::u24::[]).toArray,[]⟩ W:=by
 have HQ:=U hQ;have H3:=U h3;have H5:=U h5;have H6:=U h6;have HL:=U hl;have LL:=U hlen;clear hQ h3 h5 h6 hl hlen;have iO:∀ (j:Nat) (u:aG) (x x':aB),j<6->uV W.heap.size (aL #[L O me,J o1 n1 c1,J o2 n2 c2,J o3 n3 c3,J o4 n4 c4,J o5 n5 c5]) f c d l j u x->Below x.heap.size x x'->uV W.heap.size (aL #[L O me,J o1 n1 c1,J o2 n2 c2,J o3 n3 c3,J o4 n4 c4,J o5 n5 c5]) f c d l j u x':=by
  intro i u x x' hi h hb;rcases (by omega:i=0\/i=1\/i=2\/i=3\/i=4\/i=5) with rfl|rfl|rfl|rfl|rfl|rfl
  ·exact h
  ·exact h
  ·exact h
  ·exact h
  ·exact h
  ·obtain⟨sl,h1,h2⟩:=h;exact⟨sl,h1,dI h2 hb⟩
 unfold O6
 conv=>arg 2; whnf
 have nd:∀ j,(j<19\/25<=j)->∀ i,i<6->(fun i=>19+i) i≠j:=by
  intro j hj i hi h;simp only at h;omega
 refine Rg.fQ 8 6 (fun i=>19+i) (fun _=>6) (uV W.heap.size (aL #[L O me,J o1 n1 c1,J o2 n2 c2,J o3 n3 c3,J o4 n4 c4,J o5 n5 c5]) f c d l) (by kernel_rfl) (by kernel_rfl) rfl (by decide) (fun i j _ _ h=>by have h2:19+i=19+j:=h; omega) (fun i hi=>by show 19+i<25; omega) ?_ (fun _=>Rg.jq 3 (by kernel_rfl)) ?_ ?_
 ·intro i o hi ho a x D hnd hc hD hb seen K hK;clear HQ;rcases (by omega:i=0\/i=1\/i=2\/i=3\/i=4\/i=5) with rfl|rfl|rfl|rfl|rfl|rfl
  ·cases ho;have e3:a.eval (aC 3)=Z (aA ⟨b3,0,V⟩):=seen.kp 3 _ (nd 3 (by omega)) rfl;exact Rg.dD rfl rfl (Rg.dR a.eval _ 28 (aC 3) rfl (by rw [e3]; exact tY (H3.out.on hb))) (hK _ _ rfl (ay _ _) fun _ _ _ _ _ _ _ h=>h)
  ·cases ho;have e3:a.eval (aC 3)=Z (aA ⟨b3,0,V⟩):=seen.kp 3 _ (nd 3 (by omega)) rfl;exact Rg.dD rfl rfl (Rg.dR a.eval _ 28 (aC 3) rfl (by rw [e3]; exact tY (H3.out.on hb))) (hK _ _ rfl (ay _ _) fun _ _ _ _ _ _ _ h=>h)
  ·cases ho;have e1:a.eval (aC 1)=L O f:=seen.kp 1 _ (nd 1 (by omega)) rfl;exact Rg.dD rfl rfl (Rg.fV a.eval _ (aC 1) rfl x) (hK _ _ e1 (ay _ _) fun _ _ _ _ _ _ _ h=>h)
  ·cases ho;have e5:a.eval (aC 5)=Z (aA ⟨b5,0,V⟩):=seen.kp 5 _ (nd 5 (by omega)) rfl;exact Rg.dD rfl rfl (Rg.dR a.eval _ 31 (aC 5) rfl (by rw [e5]; exact Ej x _ (c,d) (OM (H5.out.on hb)))) (hK _ _ rfl (ay _ _) fun _ _ _ _ _ _ _ h=>h)
  ·cases ho;have e22:a.eval (aC 22)=mW (c,d):=seen.at_ ⟨3,.data⟩ (by simp) rfl (aM (by decide));exact Rg.dD rfl rfl (Rg.jZ a.eval _ 41 #[(0,.const (L O 2)),(1,aC 22)] rfl (ps:=#[(0,L O 2),(1,mW (c,d))]) (by simp only [aU,aY,bg,e22]; rfl) (by simp [go_sem])) (hK _ _ rfl (ay _ _) fun _ _ _ _ _ _ _ h=>h)
  ·cases ho;have e20:a.eval (aC 20)=aL #[L O me,J o1 n1 c1,J o2 n2 c2,J o3 n3 c3,J o4 n4 c4,J o5 n5 c5]:=seen.at_ ⟨1,.data⟩ (by simp) rfl (aM (by decide));have e21:a.eval (aC 21)=L O f:=seen.at_ ⟨2,.data⟩ (by simp) rfl (aM (by decide));have e23:a.eval (aC 23)=aL #[L O 2,L O c,L O d,L O 0,L O 0,J V 0 0,J V 0 0]:=seen.at_ ⟨4,.data⟩ (by simp) rfl (aM (by decide));exact Rg.gL rfl rfl (yQ a.eval _ (aC 20) (aC 21) (aC 23) 28 3 41 41 rfl e20 e21 e23 rfl _ (gD Tryz.func41 rfl rfl _ _)) (Bz me f 2 c d 0 0 (o1,n1,c1) _ _ _ _ (V,0,0) (V,0,0) l x (HL.out.on hb) LL.out) fun e w1 h=>by
    obtain⟨⟨v,rfl,h1⟩,h3⟩:=h;exact⟨_,rfl,hK _ _ ⟨v,rfl,dM h1 hb.size⟩ (h3.mono hb.size) fun j u hj _ _ _ hne h=>iO j u _ _ (by omega) h h3⟩
 ·intro kk o h1 h2 ho;obtain rfl:kk=7:=by omega
  cases ho;exact⟨⟨6,.chain⟩,by simp,rfl,rfl⟩
 ·intro a w' df sz kp ⟨vs,hv⟩ hb;have g19:a.tmps[19]?=aA (aL #[L O me,J o1 n1 c1,J o2 n2 c2,J o3 n3 c3,J o4 n4 c4,J o5 n5 c5]):=by
   have h:vs 0=aL #[L O me,J o1 n1 c1,J o2 n2 c2,J o3 n3 c3,J o4 n4 c4,J o5 n5 c5]:=(hv 0 (by omega)).2 (by decide);rw [<- h];exact (hv 0 (by omega)).1
  obtain⟨sl,hsl,ho⟩:=(hv 5 (by omega)).2 (by decide);have g24:a.tmps[24]?=aA (dY sl):=by
   rw [<- hsl];exact (hv 5 (by omega)).1
  rw [hsl] at ho;have g6:a.tmps[6]?=aA (Z (aA ⟨b6,0,V⟩)):=(kp 6 (nd 6 (by omega))).trans rfl;have sz':a.tmps.size=25:=sz;have H6':=H6.out.on hb;have lt6:=H6.out.lt;show Rg.fH _ _ _ 2 6 a w';simp only [Rg.fH];refine Rg.fT 28 (aC 6) (aC 19) rfl rfl rfl rfl (Rg.dL g6) (Rg.dL g19) (w':=gN w' b6 (L O me) (J o1 n1 c1) (J o2 n2 c2) (J o3 n3 c3) (J o4 n4 c4) (J o5 n5 c5)) (oC H6' me _ _ _ _ _ _ _ _ _ _ _ _ _ _ _) ?_;refine Rg.dD rfl rfl (Rg.jJ a.eval _ (aC 24) rfl _) ?_;rw [Rg.dL g24];refine HQ.out _ _ sl df ((Rg.get_put a 7 (dY sl) 6 (by decide)).trans g6) ?_ (dK H6' _ _ _ _ _ _) (fI ho b6 lt6 _ _ _ _ _ _) ?_ ?_
  ·have:7<a.tmps.size:=by omega
   show (a.put (aA 7) (dY sl)).tmps[7]?=_;simp [Act.put,this]
  ·intro k hk hne;exact (dN w' b6 (L O me) (J o1 n1 c1) (J o2 n2 c2) (J o3 n3 c3) (J o4 n4 c4) (J o5 n5 c5) k hne).trans (hb.block k hk)
  ·exact fun B hB=>dG (hb.mono (aR (aP hB lt6))) hB _ _ _ _ _ _
def Cc (b:Br) (f:Int) (x:Id):List mE:=if (iD b x f).2=bG then mF b.near f (fun n=>(n,2,x.1,x.2,0,0,(V,0,0),(V,0,0))) else []
theorem jL (b:Br) (x:Id) (f:Int):(iD b x f).1.near=b.near/\(iD b x f).1.me=b.me:=by
 unfold iD
 split
 ·exact⟨rfl,rfl⟩
 ·split
  ·exact⟨rfl,rfl⟩
  ·split <;> exact⟨rfl,rfl⟩
theorem Ce (b:Br) (nv av sv ev ov:Sl) (x:Id) (f:Int) (w:aB) (h:iN w b nv av sv ev ov) (l1:b.near.length<=900) (l2:b.dP.length<=900) (l3:b.ent.length<=900) :
  aO au 15 #[mo b.me nv av sv ev ov,L O f,mW x] w fun e w'=>(∃ Ac ev' sl:Sl,e=aD (.tuple #[mo b.me nv Ac sv ev' ov,dY sl])/\iN w' (iD b x f).1 nv Ac sv ev' ov/\Ju w' (dY sl) (Cc b f x))/\Below w.heap.size w w':=by
 obtain⟨no,nn,nc⟩:=nv;obtain⟨ao,an,ac⟩:=av;obtain⟨so,sn,sc⟩:=sv;obtain⟨eo,en,ec⟩:=ev;obtain⟨oo,dU,oc⟩:=ov;obtain⟨c,d⟩:=x;have FG:=U (fun W hb'=>Jm b (no,nn,nc) (ao,an,ac) (so,sn,sc) (eo,en,ec) (oo,dU,oc) (c,d) f W (h.on (show Below w.heap.size w W from hb')) l2 l3);have yE:=U h.near;have L1:=U l1;obtain⟨h0,h1,h2,h3⟩:=gV w #[L O b.me,J no nn nc,J ao an ac,J so sn sc,J eo en ec,J oo dU oc] #[L O c,L O d] #[L O 0,J V 0 0,J V 0 0,J V 0 0,J V 0 0,J V 0 0] 28 31 28;obtain⟨me,hme⟩:∃ me,me=b.me:=⟨_,rfl⟩;simp only [<- hme] at h0 h1 h2 h3 FG ⊢;have B0:=U h0;have X2:=U h1;have X3:=U h2;have X5:=U h3;clear h0 h1 h2 h3 h l1 l2 l3 hme;show aO au 15 #[aL #[L O me,J no nn nc,J ao an ac,J so sn sc,J eo en ec,J oo dU oc],L O f,aL #[L O c,L O d]] w _;go_enter Tryz.func15,Tryz.ntmps15;go_upto_region 1 with fail;generalize (((w.alloc (aK #[L O me,J no nn nc,J ao an ac,J so sn sc,J eo en ec,J oo dU oc] 28)).alloc (aK #[L O c,L O d] 31)).alloc (aK #[L O 0,J V 0 0,J V 0 0,J V 0 0,J V 0 0,J V 0 0] 28))=W at *;have SW:=U (FG.out W B0.out);have x_:=X2.out;have y_:=X3.out;obtain⟨x0,x1,x2,x3,x4,x5⟩:=x_.eX;obtain⟨y0,y1⟩:=y_.cs2;clear x_ y_ FG;go_wp2_with fail;refine SW.out.mono ?_;rintro e1 w1 ⟨⟨⟨DY,kW,lq⟩,⟨Hz,iI,iJ⟩,rfl,hbr⟩,hb⟩;obtain⟨fb,Nc⟩:∃ r,(iD b (c,d) f).2=r:=⟨_,rfl⟩;have LB:=U Nc;rw [Nc];have B1:=U (B0.out.trans (hb.mono B0.out.size));have Y2:=X2.out.on hb;have Y3:=X3.out.on hb;have Y5:=X5.out.on hb;obtain⟨k0,k1,k2,k3,k4,k5⟩:=Y2.eX;obtain⟨t0,t1,t2,t3,t4,t5⟩:=Y2.kI;have zz:=Y2.lt;have FB:=U (dK Y2 (L O me) (J no nn nc) (J DY kW lq) (J so sn sc) (J Hz iI iJ) (J oo dU oc));have B2:=U (dG (b:=w.heap.size) B1.out (aT _) (L O me) (J no nn nc) (J DY kW lq) (J so sn sc) (J Hz iI iJ) (J oo dU oc));have F3:=U (show dJ _ _ _ _ from (dN w1 w.heap.size (L O me) (J no nn nc) (J DY kW lq) (J so sn sc) (J Hz iI iJ) (J oo dU oc) (w.heap.size+1) (by omega)).trans Y3);have F5:=U (show dJ _ _ _ _ from (dN w1 w.heap.size (L O me) (J no nn nc) (J DY kW lq) (J so sn sc) (J Hz iI iJ) (J oo dU oc) (w.heap.size+1+1) (by omega)).trans Y5);have HB:=U (fJ (s1:=(no,nn,nc)) (s2:=(ao,an,ac)) (s3:=(so,sn,sc)) (s4:=(eo,en,ec)) (s5:=(oo,dU,oc)) hbr Y2 (fun j _ hj=>dN w1 w.heap.size (L O me) (J no nn nc) (J DY kW lq) (J so sn sc) (J Hz iI iJ) (J oo dU oc) j hj) (by rw [(jL b (c,d) f).1]; exact yE.out.on B2.out));clear Nc hbr hb SW X2 X3 X5 B1 Y2 Y3 Y5 x0 x1 x2 x3 x4 x5 y0 y1;go_upto_region 2 with fail;clear zz k0 k1 k2 k3 k4 k5 t0 t1 t2 t3 t4 t5;unfold gN at FB B2 F3 F5 HB;generalize ((((((w1.setCell ⟨w.heap.size,0,V⟩ (L O me)).setCell ⟨w.heap.size,1,V⟩ (J no nn nc)).setCell ⟨w.heap.size,2,V⟩ (J DY kW lq)).setCell ⟨w.heap.size,3,V⟩ (J so sn sc)).setCell ⟨w.heap.size,4,V⟩ (J Hz iI iJ)).setCell ⟨w.heap.size,5,V⟩ (J oo dU oc))=w2 at *;cases fb
 ·have x_:=FB.out;have r_:=F5.out;obtain⟨x0,x1,x2,x3,x4,x5⟩:=x_.eX;obtain⟨r0,r1,r2,r3,r4,r5⟩:=r_.eX;obtain⟨t0,t1,t2,t3,t4,t5⟩:=r_.kI;have zz:=r_.lt;have GB:=U (dK r_ (L O me) (J no nn nc) (J DY kW lq) (J so sn sc) (J Hz iI iJ) (J oo dU oc));have BL:=U (dG (b:=w.heap.size+1+1) B2.out (by omega) (L O me) (J no nn nc) (J DY kW lq) (J so sn sc) (J Hz iI iJ) (J oo dU oc));have HC:=U (fJ (s1:=(V,0,0)) (s2:=(V,0,0)) (s3:=(V,0,0)) (s4:=(V,0,0)) (s5:=(V,0,0)) HB.out r_ (fun j _ hj=>dN w2 (w.heap.size+1+1) (L O me) (J no nn nc) (J DY kW lq) (J so sn sc) (J Hz iI iJ) (J oo dU oc) j hj) (by rw [(jL b (c,d) f).1]; exact yE.out.on BL.out));clear x_ r_ HB FB F3 F5;go_wp2_with fail;obtain⟨v0,v1,v2,v3,v4,v5⟩:=GB.out.eX;refine bodyPost_ret (v:=.tuple #[aL #[L O me,J no nn nc,J DY kW lq,J so sn sc,J Hz iI iJ,J oo dU oc],J V 0 0]) (by simp [results,aW,go_sem,v0,v1,v2,v3,v4,v5]) rfl ?_;exact⟨⟨(DY,kW,lq),(Hz,iI,iJ),(V,0,0),rfl,HC.out,by unfold Cc; rw [LB.out]; exact Or.inl ⟨rfl,rfl⟩⟩,BL.out⟩
 ·go_upto_region 4 with fail;refine UU _ w2 w.heap.size (w.heap.size+1) (w.heap.size+1+1) me f c d no DY so Hz oo nn nc kW lq sn sc iI iJ dU oc b.near _ _ _ _ _ _ _ _ _ _ _ _ _ _ _ _ _ _ _ _ _ _ _ _ _ _ _ FB.out F3.out F5.out (yE.out.on B2.out) L1.out ?_;intro a9 x9 sl JJ h69 h79 hbx ho hblk hbl;have BL:=U (B2.out.trans (hbl w.heap.size (by omega)));have HC:=U (fJ (s1:=(V,0,0)) (s2:=(V,0,0)) (s3:=(V,0,0)) (s4:=(V,0,0)) (s5:=(V,0,0)) HB.out F5.out (fun j hlt hj=>hblk j hlt hj) (by rw [(jL b (c,d) f).1]; exact yE.out.on BL.out));have HU:=U (Row.dH ho);have ahR:=hbx;obtain⟨v0,v1,v2,v3,v4,v5⟩:=ahR.eX;clear ahR hbx ho hblk hbl HB FB F3 F5;simp only [Exit.then]
  apply_assumption
  go_wp2_with fail;refine bodyPost_ret (v:=.tuple #[aL #[L O me,J no nn nc,J DY kW lq,J so sn sc,J Hz iI iJ,J oo dU oc],dY sl]) (by simp [results,aW,go_sem,h69,h79,v0,v1,v2,v3,v4,v5]) JJ ?_;exact⟨⟨(DY,kW,lq),(Hz,iI,iJ),sl,rfl,HC.out,by unfold Cc; rw [LB.out]; exact HU.out⟩,BL.out⟩
end Bk
namespace Sb
open Go.RowKit Go.Sort Rw YtmklifheakemeaaGreat.Nm Pr Bk Av
abbrev JK (W:aB) (b:Nat) (a0 a1 a2 a3 a4 a5 a6:aG):aB:=((((((W.setCell ⟨b,0,V⟩ a0).setCell ⟨b,1,V⟩ a1).setCell ⟨b,2,V⟩ a2).setCell ⟨b,3,V⟩ a3).setCell ⟨b,4,V⟩ a4).setCell ⟨b,5,V⟩ a5).setCell ⟨b,6,V⟩ a6
theorem Cg {W:aB} {b:Nat} {t:TypeId} {z0 z1 z2 z3 z4 z5 z6:aG} (h:dJ W b #[z0,z1,z2,z3,z4,z5,z6] t) (a0 a1 a2 a3 a4 a5 a6:aG):dJ (JK W b a0 a1 a2 a3 a4 a5 a6) b #[a0,a1,a2,a3,a4,a5,a6] t:=by
 have h2:=dZ (k:=6) (dZ (k:=5) (dZ (k:=4) (dZ (k:=3) (dZ (k:=2) (dZ (k:=1) (dZ (k:=0) h a0) a1) a2) a3) a4) a5) a6;simpa using h2
theorem wI {B:Nat} {W0 W:aB} {b:Nat} (h:Below B W0 W) (hb:B<=b) (a0 a1 a2 a3 a4 a5 a6:aG):Below B W0 (JK W b a0 a1 a2 a3 a4 a5 a6):=(((((((h).setCell (p:=⟨b,0,V⟩) hb a0).setCell (p:=⟨b,1,V⟩) hb a1).setCell (p:=⟨b,2,V⟩) hb a2).setCell (p:=⟨b,3,V⟩) hb a3).setCell (p:=⟨b,4,V⟩) hb a4).setCell (p:=⟨b,5,V⟩) hb a5).setCell (p:=⟨b,6,V⟩) hb a6
theorem UW {α:Type} {E:Ek α} {W:aB} {B:Nat} {v:aG} {l:List α} (h:Own E W B v l) (b:Nat) (hb:b<B) (a0 a1 a2 a3 a4 a5 a6:aG):Own E (JK W b a0 a1 a2 a3 a4 a5 a6) B v l :=
 dX (dX (dX (dX (dX (dX (dX (h) b 0 a0 hb) b 1 a1 hb) b 2 a2 hb) b 3 a3 hb) b 4 a4 hb) b 5 a5 hb) b 6 a6 hb
theorem JL (w:aB) (b:Nat) (a0 a1 a2 a3 a4 a5 a6:aG):But b w (JK w b a0 a1 a2 a3 a4 a5 a6) :=
 ((((((dQ _ b _ _).trans (dQ _ b _ _)).trans (dQ _ b _ _)).trans (dQ _ b _ _)).trans (dQ _ b _ _)).trans (dQ _ b _ _)).trans (dQ _ b _ _)
theorem O7 (x:iH) (p:List C5) (w:aB) (hp:fK w (dY x.2.2.2.2.1) p) (hl:p.length<=900) :
  aO au 76 #[nW x] w fun e w'=>(∃ v':Sl,e=aD (nW (x.1,x.2.1,x.2.2.1,x.2.2.2.1,v',x.2.2.2.2.2.1,x.2.2.2.2.2.2))/\iq w' w.heap.size (dY v') p)/\Below w.heap.size w w':=by
 obtain⟨y1,y2,y3,y4,⟨s1,s2,s3⟩,y6,y7⟩:=x;obtain⟨h0,X,Y⟩:=gM w #[L O y1,L O y2,L O y3,L O y4,J s1 s2 s3,L O y6,aJ y7] #[L O 0,L O 0,L O 0,L O 0,J V 0 0,L O 0,aJ aS] 66 66;have C:=U (mY (s1,s2,s3) p _ (hp.on h0) hl);have B:=U h0;have x4:=X.cell 4;simp only [ah,aj,ak] at x4;have X:=U X;have Y:=U Y;clear h0 hp hl;go_enter Tryz.func76,Tryz.ntmps76;go_wp2_with fail;generalize (w.alloc (aK #[L O y1,L O y2,L O y3,L O y4,J s1 s2 s3,L O y6,aJ y7] 66)).alloc (aK #[L O 0,L O 0,L O 0,L O 0,J V 0 0,L O 0,aJ aS] 66)=W at *;refine C.out.mono ?_;rintro e w1 ⟨⟨⟨u1,u2,u3⟩,rfl,ho⟩,hb⟩;have X1:=X.out.on hb;have Y1:=Y.out.on hb;have hs:w.heap.size<W.heap.size:=X.out.lt;have O1:=U (dX ho w.heap.size 4 (J u1 u2 u3) hs);have XB:=U (show dJ _ _ #[L O y1,L O y2,L O y3,L O y4,J u1 u2 u3,L O y6,aJ y7] _ from by simpa using dZ (k:=4) X1 (J u1 u2 u3));have YB:=U (show dJ _ _ _ _ from (aX w1 ⟨w.heap.size,4,V⟩ (J u1 u2 u3) _ (show w.heap.size+1≠w.heap.size by omega)).trans Y1);have B1:=U ((B.out.trans (hb.mono B.out.size)).setCell (p:=⟨w.heap.size,4,V⟩) (aT _) (J u1 u2 u3));have y4':=X1.cell 4;have f4:=X1.fr 4;have z4:=X1.lt;simp only [ah,aj,ak] at y4';clear X1 Y1 ho hb x4 C;go_upto_region 2 with fail;clear y4' f4 z4;generalize w1.setCell ⟨w.heap.size,4,V⟩ (J u1 u2 u3)=w2 at *;obtain⟨x0,x1,x2,x3,x4,x5,x6⟩:=XB.out.nJ;obtain⟨r0,r1,r2,r3,r4,r5,r6⟩:=YB.out.nJ;obtain⟨t0,t1,t2,t3,t4,t5,t6⟩:=YB.out.fs7;have zz:=YB.out.lt;have hs2:w.heap.size+1<W.heap.size:=Y.out.lt;have FB:=U (Cg YB.out (L O y1) (L O y2) (L O y3) (L O y4) (J u1 u2 u3) (L O y6) (aJ y7));have BL:=U (wI (b:=w.heap.size+1) B1.out (by omega) (L O y1) (L O y2) (L O y3) (L O y4) (J u1 u2 u3) (L O y6) (aJ y7));have FO:=U (UW O1.out (w.heap.size+1) hs2 (L O y1) (L O y2) (L O y3) (L O y4) (J u1 u2 u3) (L O y6) (aJ y7));have HS:=U hs;clear hs hs2;go_wp2_with fail;obtain⟨v0,v1,v2,v3,v4,v5,v6⟩:=FB.out.nJ;refine bodyPost_ret (v:=aL #[L O y1,L O y2,L O y3,L O y4,J u1 u2 u3,L O y6,aJ y7]) (by simp [results,Tryz.results76,go_sem,v0,v1,v2,v3,v4,v5,v6]) rfl ?_;exact⟨⟨(u1,u2,u3),rfl,dM FO.out (aR HS.out)⟩,BL.out⟩
end Sb
end Go.Proofs.YtmklifheakemeaaGreat
