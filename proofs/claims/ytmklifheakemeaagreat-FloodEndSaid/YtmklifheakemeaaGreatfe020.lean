/-
  sub of broadsideref9. Conditions as told.
-/
import Derived.Test.YtmklifheakemeaaGreatfe016
import Derived.Test.YtmklifheakemeaaGreatfe017
import Derived.Test.YtmklifheakemeaaGreatfe019
set_option maxRecDepth 100000
set_option maxHeartbeats 64000000
open _root_.Bool renaming true->aR
open _root_.Go renaming World->aC,Value->aG,Calls->aT,Addr->aX,Act->bg
open Go.Ending renaming returned->aH
open Go.IntKind renaming i64->O
open Go.Lib renaming hid->X
open Go.Obj renaming cells->aD
open Go.Operand renaming tmp->aF
open Go.Proofs.Tryz renaming prog->aB,results176->aW,func126->aY,func123->aZ
open Go.Region renaming binds->aI
open Go.RowKit.Below renaming refl->aA
open Go.Value renaming int->J,slice->U,pointer->Z,string->ay,agg->aP,bool->aQ
open _root_.List renaming getElem?_toArray->ah,getElem?_cons_zero->ak,getElem?_cons_succ->au,getElem?_eq_getElem->aJ,length_map->aM,getElem?_eq_some_iff->aN,getElem?_map->aO,mem_of_getElem?->aS
open _root_.Nat renaming le_refl->aL,lt_of_le_of_lt->aU,zero_le->aV,le_of_lt->bf
open _root_.Option renaming none->Y,some->aj
open _root_.Or renaming inr->aK
namespace Go.Proofs.YtmklifheakemeaaGreat
namespace Bk
open Go.RowKit Go.Sort Rw YtmklifheakemeaaGreat.Nm Pr
abbrev IG (W:aC) (b:Nat) (a0 a1 a2 a3 a4 a5 a6:aG):aC:=((((((W.setCell ⟨b,0,Y⟩ a0).setCell ⟨b,1,Y⟩ a1).setCell ⟨b,2,Y⟩ a2).setCell ⟨b,3,Y⟩ a3).setCell ⟨b,4,Y⟩ a4).setCell ⟨b,5,Y⟩ a5).setCell ⟨b,6,Y⟩ a6
theorem yG {W:aC} {b:Nat} {t:TypeId} {z0 z1 z2 z3 z4 z5 z6:aG} (h:dK W b #[z0,z1,z2,z3,z4,z5,z6] t) (a0 a1 a2 a3 a4 a5 a6:aG):dK (IG W b a0 a1 a2 a3 a4 a5 a6) b #[a0,a1,a2,a3,a4,a5,a6] t:=by
 have h2:=dW (k:=6) (dW (k:=5) (dW (k:=4) (dW (k:=3) (dW (k:=2) (dW (k:=1) (dW (k:=0) h a0) a1) a2) a3) a4) a5) a6;simp only [List.setIfInBounds_toArray,List.set_cons_zero,List.set_cons_succ] at h2;exact h2
theorem z8 (z:iq) (w:aC):aT aB 48 #[pF z] w fun e w'=>e=aH (aP #[J O 3,J O z.1,J O z.2.1,J O z.2.2.1,J O z.2.2.2.1,dU z.2.2.2.2.1,U Y 0 0])/\Below w.heap.size w w':=by
 obtain⟨c,d,g,h,⟨po,pn,pc⟩,fr,up⟩:=z;obtain⟨h0,h1,h2⟩:=gP w #[J O c,J O d,J O g,J O h,U po pn pc,J O fr,aQ up] #[J O 0,J O 0,J O 0,J O 0,J O 0,U Y 0 0,U Y 0 0] 66 41;obtain⟨x0,x1,x2,x3,x4,x5,x6⟩:=h1.mI;obtain⟨r0,r1,r2,r3,r4,r5,r6⟩:=h2.mI;obtain⟨t0,t1,t2,t3,t4,t5,t6⟩:=h2.Yb;have zz:=h2.lt;have FB:=X (yG h2 (J O 3) (J O c) (J O d) (J O g) (J O h) (U po pn pc) (U Y 0 0));have BL:=X ((((((((h0.setCell (p:=⟨w.heap.size+1,0,Y⟩) (by show w.heap.size<=w.heap.size+1; omega) (J O 3)).setCell (p:=⟨w.heap.size+1,1,Y⟩) (by show w.heap.size<=w.heap.size+1; omega) (J O c)).setCell (p:=⟨w.heap.size+1,2,Y⟩) (by show w.heap.size<=w.heap.size+1; omega) (J O d)).setCell (p:=⟨w.heap.size+1,3,Y⟩) (by show w.heap.size<=w.heap.size+1; omega) (J O g)).setCell (p:=⟨w.heap.size+1,4,Y⟩) (by show w.heap.size<=w.heap.size+1; omega) (J O h)).setCell (p:=⟨w.heap.size+1,5,Y⟩) (by show w.heap.size<=w.heap.size+1; omega) (U po pn pc)).setCell (p:=⟨w.heap.size+1,6,Y⟩) (by show w.heap.size<=w.heap.size+1; omega) (U Y 0 0)));clear h0 h1 h2;show aT aB 48 #[aP #[J O c,J O d,J O g,J O h,U po pn pc,J O fr,aQ up]] w _;go_enter Tryz.func48,Tryz.ntmps48;go_upto_region 1 with fail;generalize (w.alloc (aD #[J O c,J O d,J O g,J O h,U po pn pc,J O fr,aQ up] 66)).alloc (aD #[J O 0,J O 0,J O 0,J O 0,J O 0,U Y 0 0,U Y 0 0] 41)=W at *;go_wp2_with fail;obtain⟨v0,v1,v2,v3,v4,v5,v6⟩:=FB.out.mI;refine bodyPost_ret (v:=aP #[J O 3,J O c,J O d,J O g,J O h,U po pn pc,U Y 0 0]) (by simp [results,Tryz.results48,go_sem,v0,v1,v2,v3,v4,v5,v6]) rfl ?_;exact⟨rfl,BL.out⟩
end Bk
namespace Fl
open Go.RowKit Go.Sort Rw YtmklifheakemeaaGreat.Nm Pr Bk Av
theorem acN (a:Option aX) (n c:Nat) (w:aC):(binOp .eql 39 (U a n c) (U Y 0 0)).run aB w=.ok (aQ a.isNone) w:=by
 simp [go_sem,binOp,run_equal_slice_nil (P:=aB) w 39 156 a n c Tryz.underlying39]
theorem Ld (w:aC):aT aB 126 #[U Y 0 0] w fun e w'=>e=aH (U Y 0 0)/\Below w.heap.size w w':=by
 have q:∀ w',(binOp .eql 39 (U Y 0 0) (U Y 0 0)).run aB w'=.ok (aQ aR) w':=fun w'=>acN Y 0 0 w';go_enter aY,Tryz.ntmps126;go_wp2;go_ret;exact⟨rfl,aA _ _⟩
theorem YJ {W:aC} {b:Nat} {z0 z1 z2 z3 z4 z5 z6:aG} (h:dK W b #[z0,z1,z2,z3,z4,z5,z6] 41) (a0 a1 a2 a3 a4:Int) (o5:Option aX) (n5 c5:Nat) (o6:Option aX) (n6 c6:Nat) :
  (Instr.storeAt 41 (Z (aj ⟨b,0,Y⟩)) (aP #[J O a0,J O a1,J O a2,J O a3,J O a4,U o5 n5 c5,U o6 n6 c6])).run aB W=.ok () (IG W b (J O a0) (J O a1) (J O a2) (J O a3) (J O a4) (U o5 n5 c5) (U o6 n6 c6)):=by
 obtain⟨x0,x1,x2,x3,x4,x5,x6⟩:=h.mI;obtain⟨f0,f1,f2,f3,f4,f5,f6⟩:=h.Yb;simp [go_sem,x0,x1,x2,x3,x4,x5,x6,f0,f1,f2,f3,f4,f5,f6]
theorem II (w:aC) (b:Nat) (a0 a1 a2 a3 a4 a5 a6:aG):But b w (IG w b a0 a1 a2 a3 a4 a5 a6) :=
 (((dP _ b _ _).trans (dP _ b _ _)).trans ((dP _ b _ _).trans (dP _ b _ _))).trans (((dP _ b _ _).trans (dP _ b _ _)).trans (dP _ b _ _))
theorem y8 {w W:aC} {B b:Nat} (h:Below B w W) (hb:B<=b) (a0 a1 a2 a3 a4 a5 a6:aG):Below B w (IG W b a0 a1 a2 a3 a4 a5 a6) :=
 ((((((h.setCell (p:=⟨b,0,Y⟩) hb a0).setCell (p:=⟨b,1,Y⟩) hb a1).setCell (p:=⟨b,2,Y⟩) hb a2).setCell (p:=⟨b,3,Y⟩) hb a3).setCell (p:=⟨b,4,Y⟩) hb a4).setCell (p:=⟨b,5,Y⟩) hb a5).setCell (p:=⟨b,6,Y⟩) hb a6
def YK (B:Nat) (b1:Nat) (_k _tc _ts _ic _is_:Int) (po:Option aX) (pn pc:Nat) (p:List C5) (i:Nat) (v:aG) (x:aC):Prop :=
 match i with
 | 0=>v=Z (aj ⟨b1,5,Y⟩)
 | 1=>v=U po pn pc
 | 2=>∃ s:Sl,v=dU s/\gT x B v p
 | 3=>v=Z (aj ⟨b1,6,Y⟩)
 | 4=>v=U Y 0 0
 | 5=>v=U Y 0 0
 | 6=>v=Z (aj ⟨b1,5,Y⟩)
 | _=>True
noncomputable def aeB:Code:=((Tryz.f78.body.bind (eO 1)).getD .skip)
theorem YL (B:Nat) (b1:Nat) (k tc ts ic sK:Int) (po:Option aX) (pn pc:Nat) (p:List C5) (i:Nat) (v:aG) (x x':aC) (h:YK B b1 k tc ts ic sK po pn pc p i v x) (hb:Below x.heap.size x x'):YK B b1 k tc ts ic sK po pn pc p i v x':=by
 by_cases hi:i<7
 ·rcases (by omega:i=0\/i=1\/i=2\/i=3\/i=4\/i=5\/i=6) with rfl|rfl|rfl|rfl|rfl|rfl|rfl
  ·exact h
  ·exact h
  ·obtain⟨s,h1,h2⟩:=h; exact⟨s,h1,Bk.dI h2 hb⟩
  ·exact h
  ·exact h
  ·exact h
  ·exact h
 ·unfold YK
  split <;> first | omega | trivial
theorem cm1 (Q:Exit->bg->aC->Prop) (W:aC) (b1:Nat) (k tc ts ic sK:Int) (po:Option aX) (pn pc:Nat) (p:List C5) (u0 u2 u3 u4 u5 u6 u7 u8 u9 u10 u11:aG)
  (h1:dK W b1 #[J O k,J O tc,J O ts,J O ic,J O sK,U po pn pc,U Y 0 0] 41) (r5:fI W (U po pn pc) p) (l5:p.length<=900)
  (hQ:∀ (x:aC) (v3 v4 v5 v6 v7 v8 v9 v10:aG) (q1:Option aX) (q2 q3:Nat),dK x b1 #[J O k,J O tc,J O ts,J O ic,J O sK,U q1 q2 q3,U Y 0 0] 41->gT x W.heap.size (U q1 q2 q3) p->(∀ B,B<=b1->Below B W x)->But b1 W x->Q .normal ⟨(u0::Z (aj ⟨b1,0,Y⟩)::u2::v3::v4::v5::v6::v7::v8::v9::v10::u11::[]).toArray,[]⟩ x) :
  Code.wp aB aeB Q ⟨(u0::Z (aj ⟨b1,0,Y⟩)::u2::u3::u4::u5::u6::u7::u8::u9::u10::u11::[]).toArray,[]⟩ W:=by
 have HQ:=X hQ;have H1:=X h1;have R5:=X r5;have L5:=X l5;clear hQ h1 r5 l5;have iQ:=YL W.heap.size b1 k tc ts ic sK po pn pc p;unfold aeB
 conv=>arg 2; whnf
 have nd:∀ j,(j<3\/10<=j)->∀ i,i<7->(fun i=>3+i) i≠j:=by
  intro j hj i hi h;simp only at h;omega
 refine Rg.fQ 10 7 (fun i=>3+i) (fun _=>7) (YK W.heap.size b1 k tc ts ic sK po pn pc p) (by kernel_rfl) (by kernel_rfl) rfl (by decide) (fun i j _ _ h=>by have h2:3+i=3+j:=h; omega) (fun i hi=>by show 3+i<12; omega) ?_ (fun _=>Rg.jl 14 (by kernel_rfl)) ?_ ?_
 ·intro i o hi ho a x D hnd hc hD hb seen K hK;clear HQ;rcases (by omega:i=0\/i=1\/i=2\/i=3\/i=4\/i=5\/i=6) with rfl|rfl|rfl|rfl|rfl|rfl|rfl
  ·cases ho;have e1:a.eval (aF 1)=Z (aj ⟨b1,0,Y⟩):=seen.kp 1 _ (nd 1 (by omega)) rfl;exact Rg.dD rfl rfl (Rg.dR a.eval _ 41 (aF 1) 3 rfl (by rw [e1]; simp [go_sem])) (hK _ _ rfl (aA _ _) fun _ _ _ _ _ _ _ h=>h)
  ·cases ho;have e3:a.eval (aF 3)=Z (aj ⟨b1,5,Y⟩):=seen.at_ ⟨0,.data⟩ (by simp) rfl (aK (by decide));have y5:=(H1.out.on hb).cell 5;simp only [ah,ak,au] at y5;exact Rg.dD rfl rfl (Rg.dX a.eval _ 32 (aF 3) rfl (by rw [e3]; simp [go_sem,y5])) (hK _ _ rfl (aA _ _) fun _ _ _ _ _ _ _ h=>h)
  ·cases ho;have e4:a.eval (aF 4)=U po pn pc:=seen.at_ ⟨1,.data⟩ (by simp) rfl (aK (by decide));exact Rg.gU rfl rfl (Rw.iG a.eval _ (aF 4) 32 123 rfl e4 rfl _ (gF aZ rfl rfl _ _)) (mW (po,pn,pc) p x (R5.out.on hb) L5.out) fun e w1 h=>by
    obtain⟨⟨s,rfl,h1⟩,h3⟩:=h;exact⟨_,rfl,hK _ _ ⟨s,rfl,dO h1 hb.size⟩ (h3.mono hb.size) fun j u hj _ _ _ hne h=>iQ j u _ _ h h3⟩
  ·cases ho;have e1:a.eval (aF 1)=Z (aj ⟨b1,0,Y⟩):=seen.kp 1 _ (nd 1 (by omega)) rfl;exact Rg.dD rfl rfl (Rg.dR a.eval _ 41 (aF 1) 4 rfl (by rw [e1]; simp [go_sem])) (hK _ _ rfl (aA _ _) fun _ _ _ _ _ _ _ h=>h)
  ·cases ho;have e6:a.eval (aF 6)=Z (aj ⟨b1,6,Y⟩):=seen.at_ ⟨3,.data⟩ (by simp) rfl (aK (by decide));have y6:=(H1.out.on hb).cell 6;simp only [ah,ak,au] at y6;exact Rg.dD rfl rfl (Rg.dX a.eval _ 39 (aF 6) rfl (by rw [e6]; simp [go_sem,y6])) (hK _ _ rfl (aA _ _) fun _ _ _ _ _ _ _ h=>h)
  ·cases ho;have e7:a.eval (aF 7)=U Y 0 0:=seen.at_ ⟨4,.data⟩ (by simp) rfl (aK (by decide));exact Rg.gU rfl rfl (Rw.iG a.eval _ (aF 7) 39 126 rfl e7 rfl _ (gF aY rfl rfl _ _)) (Ld x) fun e w1 h=>by
    obtain⟨rfl,h3⟩:=h;exact⟨_,rfl,hK _ _ rfl (h3.mono hb.size) fun j u hj _ _ _ hne h=>iQ j u _ _ h h3⟩
  ·cases ho;have e1:a.eval (aF 1)=Z (aj ⟨b1,0,Y⟩):=seen.kp 1 _ (nd 1 (by omega)) rfl;exact Rg.dD rfl rfl (Rg.dR a.eval _ 41 (aF 1) 3 rfl (by rw [e1]; simp [go_sem])) (hK _ _ rfl (aA _ _) fun _ _ _ _ _ _ _ h=>h)
 ·intro kk o h1 h2 ho;rcases (by omega:kk=8\/kk=9) with rfl|rfl
  ·cases ho;exact⟨⟨7,.phase⟩,by simp,rfl,rfl⟩
  ·cases ho;exact⟨⟨8,.data⟩,by simp,rfl,rfl⟩
 ·intro a w' df sz kp ⟨vs,hv⟩ hb;have sz':a.tmps.size=12:=sz;have g1:a.tmps[1]?=aj (Z (aj ⟨b1,0,Y⟩)):=(kp 1 (nd 1 (by omega))).trans rfl;have g8:a.tmps[8]?=aj (U Y 0 0):=by
   have h:vs 5=U Y 0 0:=(hv 5 (by omega)).2 (by decide);rw [<- h];exact (hv 5 (by omega)).1
  have g9:a.tmps[9]?=aj (Z (aj ⟨b1,5,Y⟩)):=by
   have h:vs 6=Z (aj ⟨b1,5,Y⟩):=(hv 6 (by omega)).2 (by decide);rw [<- h];exact (hv 6 (by omega)).1
  obtain⟨⟨q1,q2,q3⟩,hs,ho⟩:=(hv 2 (by omega)).2 (by decide);have g5:a.tmps[5]?=aj (U q1 q2 q3):=((hv 2 (by omega)).1).trans (congrArg aj hs);rw [hs] at ho;have hB:=H1.out.on hb;have hlt:=H1.out.lt;show Rg.fH _ _ _ 3 7 a w';simp only [Rg.fH];have c5x:=hB.cell 5;have f5x:=hB.fr 5;simp only [ah,ak,au] at c5x;refine Rg.fP 32 (aF 9) (aF 5) rfl rfl rfl rfl (Rg.dN g9) (Rg.dN g5) (w':=(w').setCell ⟨b1,5,Y⟩ (U q1 q2 q3)) (by simp [go_sem,c5x,f5x]) ?_;have hB5:dK ((w').setCell ⟨b1,5,Y⟩ (U q1 q2 q3)) b1 #[J O k,J O tc,J O ts,J O ic,J O sK,U q1 q2 q3,U Y 0 0] 41:=by simpa using dW (k:=5) hB (U q1 q2 q3)
  refine Rg.dD rfl rfl (Rg.dR _ _ 41 (aF 1) 4 rfl (v:=Z (aj ⟨b1,6,Y⟩)) (by rw [Rg.dN g1]; simp [go_sem])) ?_;have agP:(a.put (aj 10) (Z (aj ⟨b1,6,Y⟩))).tmps[10]?=aj (Z (aj ⟨b1,6,Y⟩)):=by simp [Act.put,sz']
  show Go.wpOp _ _ _ 9 _ (a.put (aj 10) (Z (aj ⟨b1,6,Y⟩))) _;have c6x:=hB5.cell 6;have f6x:=hB5.fr 6;simp only [ah,ak,au] at c6x;refine Rg.fP 39 (aF 10) (aF 8) rfl rfl rfl rfl (Rg.dN agP) (Rg.dN ((Rg.get_put _ 10 _ 8 (by decide)).trans g8)) (w':=((w').setCell ⟨b1,5,Y⟩ (U q1 q2 q3)).setCell ⟨b1,6,Y⟩ (U Y 0 0)) (by simp [go_sem,c6x,f6x]) ?_;have hB6:dK (((w').setCell ⟨b1,5,Y⟩ (U q1 q2 q3)).setCell ⟨b1,6,Y⟩ (U Y 0 0)) b1 #[J O k,J O tc,J O ts,J O ic,J O sK,U q1 q2 q3,U Y 0 0] 41:=by simpa using dW (k:=6) hB5 (U Y 0 0)
  have rV:∀ j,(j<3\/11<=j)->((a.put (aj 10) (Z (aj ⟨b1,6,Y⟩)))).tmps[j]?=(u0::Z (aj ⟨b1,0,Y⟩)::u2::u3::u4::u5::u6::u7::u8::u9::u10::u11::[])[j]?:=fun j hj=>(Rg.get_put _ 10 _ j (by omega)).trans ((kp j (nd j (by omega))).trans ah);obtain⟨mid,hmid,hfr⟩:=Rg.gI (a:=(a.put (aj 10) (Z (aj ⟨b1,6,Y⟩)))) 3 8 df (by simp [Rg.size_put,sz']) (by simp) rV;show Q .normal ((a.put (aj 10) (Z (aj ⟨b1,6,Y⟩)))) _;rw [hfr]
  match mid,hmid with
  | [v3,v4,v5,v6,v7,v8,v9,v10],_ =>
   exact HQ.out _ _ _ _ _ _ _ _ _ q1 q2 q3 hB6 (eF (eF ho b1 5 (U q1 q2 q3) hlt) b1 6 (U Y 0 0) hlt) (fun B hBl=>(((hb.mono (bf (aU hBl hlt))).setCell (p:=⟨b1,5,Y⟩) hBl (U q1 q2 q3)).setCell (p:=⟨b1,6,Y⟩) hBl (U Y 0 0))) (((But.of_below hb).trans (dP _ b1 5 _)).trans (dP _ b1 6 _))
def Nz (B:Nat) (b1 _b2:Nat) (y1 y2 y3 y4:Int) (po:Option aX) (pn pc:Nat) (_y6:Int) (_y7:Bool) (p:List C5) (i:Nat) (v:aG) (x:aC):Prop :=
 match i with
 | 0=>v=Z (aj ⟨b1,0,Y⟩)
 | 1=>v=aP #[J O y1,J O y2]
 | 2=>v=Z (aj ⟨b1,2,Y⟩)
 | 3=>v=aP #[J O y3,J O y4]
 | 4=>v=Z (aj ⟨b1,4,Y⟩)
 | 5=>v=U po pn pc
 | 6=>∃ s:Sl,v=dU s/\gT x B (dU s) p
 | 7=>∃ s:Sl,v=aP #[J O 3,J O y1,J O y2,J O y3,J O y4,dU s,U Y 0 0]/\gT x B (dU s) p
 | _=>True
noncomputable def Z9:Code:=((Tryz.f95.body.bind (eO 1)).getD .skip)
theorem TJ (B:Nat) (b1 b2:Nat) (y1 y2 y3 y4:Int) (po:Option aX) (pn pc:Nat) (y6:Int) (y7:Bool) (p:List C5) (i:Nat) (v:aG) (x x':aC) (h:Nz B b1 b2 y1 y2 y3 y4 po pn pc y6 y7 p i v x) (hb:Below x.heap.size x x'):Nz B b1 b2 y1 y2 y3 y4 po pn pc y6 y7 p i v x':=by
 by_cases hi:i<8
 ·rcases (by omega:i=0\/i=1\/i=2\/i=3\/i=4\/i=5\/i=6\/i=7) with rfl|rfl|rfl|rfl|rfl|rfl|rfl|rfl
  ·exact h
  ·exact h
  ·exact h
  ·exact h
  ·exact h
  ·exact h
  ·obtain⟨s,h1,h2⟩:=h; exact⟨s,h1,Bk.dI h2 hb⟩
  ·obtain⟨s,h1,h2⟩:=h; exact⟨s,h1,Bk.dI h2 hb⟩
 ·unfold Nz
  split <;> first | omega | trivial
theorem agQ (Q:Exit->bg->aC->Prop) (W:aC) (b1 b2:Nat) (y1 y2 y3 y4:Int) (po:Option aX) (pn pc:Nat) (y6:Int) (y7:Bool) (p:List C5) (u0 u3 u4 u5 u6 u7 u8 u9 u10:aG)
  (h1:dK W b1 #[J O y1,J O y2,J O y3,J O y4,U po pn pc,J O y6,aQ y7] 66) (h2:dK W b2 #[J O 0,J O 0,J O 0,J O 0,J O 0,U Y 0 0,U Y 0 0] 41) (r5:fI W (U po pn pc) p) (l5:p.length<=900)
  (hQ:∀ (x:aC) (v3 v4 v5 v6 v7 v8 v9 v10:aG) (q1:Option aX) (q2 q3:Nat),dK x b2 #[J O 3,J O y1,J O y2,J O y3,J O y4,U q1 q2 q3,U Y 0 0] 41->gT x W.heap.size (U q1 q2 q3) p->(∀ B,B<=b2->Below B W x)->Q .normal ⟨(u0::Z (aj ⟨b1,0,Y⟩)::Z (aj ⟨b2,0,Y⟩)::v3::v4::v5::v6::v7::v8::v9::v10::[]).toArray,[]⟩ x) :
  Code.wp aB Z9 Q ⟨(u0::Z (aj ⟨b1,0,Y⟩)::Z (aj ⟨b2,0,Y⟩)::u3::u4::u5::u6::u7::u8::u9::u10::[]).toArray,[]⟩ W:=by
 have HQ:=X hQ;have H1:=X h1;have H2:=X h2;have R5:=X r5;have L5:=X l5;clear hQ h1 h2 r5 l5;have iQ:=TJ W.heap.size b1 b2 y1 y2 y3 y4 po pn pc y6 y7 p;unfold Z9
 conv=>arg 2; whnf
 have nd:∀ j,(j<3\/11<=j)->∀ i,i<8->(fun i=>3+i) i≠j:=by
  intro j hj i hi h;simp only at h;omega
 refine Rg.fQ 9 8 (fun i=>3+i) (fun _=>8) (Nz W.heap.size b1 b2 y1 y2 y3 y4 po pn pc y6 y7 p) (by kernel_rfl) (by kernel_rfl) rfl (by decide) (fun i j _ _ h=>by have h2:3+i=3+j:=h; omega) (fun i hi=>by show 3+i<11; omega) ?_ (fun _=>Rg.jl 14 (by kernel_rfl)) ?_ ?_
 ·intro i o hi ho a x D hnd hc hD hb seen K hK;clear HQ;rcases (by omega:i=0\/i=1\/i=2\/i=3\/i=4\/i=5\/i=6\/i=7) with rfl|rfl|rfl|rfl|rfl|rfl|rfl|rfl
  ·cases ho;have e1:a.eval (aF 1)=Z (aj ⟨b1,0,Y⟩):=seen.kp 1 _ (nd 1 (by omega)) rfl;exact Rg.dD rfl rfl (Rg.dR a.eval _ 66 (aF 1) 0 rfl (by rw [e1]; simp [go_sem])) (hK _ _ rfl (aA _ _) fun _ _ _ _ _ _ _ h=>h)
  ·cases ho;have e3:a.eval (aF 3)=Z (aj ⟨b1,0,Y⟩):=seen.at_ ⟨0,.data⟩ (by simp) rfl (aK (by decide));have y1:=(H1.out.on hb).cell 1;have y0:=(H1.out.on hb).cell 0;simp only [ah,ak,au] at y0 y1;exact Rg.dD rfl rfl (Rg.dX a.eval _ 31 (aF 3) rfl (by rw [e3]; simp [go_sem,y0,y1])) (hK _ _ rfl (aA _ _) fun _ _ _ _ _ _ _ h=>h)
  ·cases ho;have e1:a.eval (aF 1)=Z (aj ⟨b1,0,Y⟩):=seen.kp 1 _ (nd 1 (by omega)) rfl;exact Rg.dD rfl rfl (Rg.dR a.eval _ 66 (aF 1) 1 rfl (by rw [e1]; simp [go_sem])) (hK _ _ rfl (aA _ _) fun _ _ _ _ _ _ _ h=>h)
  ·cases ho;have e5:a.eval (aF 5)=Z (aj ⟨b1,2,Y⟩):=seen.at_ ⟨2,.data⟩ (by simp) rfl (aK (by decide));have y2:=(H1.out.on hb).cell 2;have y3:=(H1.out.on hb).cell 3;simp only [ah,ak,au] at y2 y3;exact Rg.dD rfl rfl (Rg.dX a.eval _ 31 (aF 5) rfl (by rw [e5]; simp [go_sem,y2,y3])) (hK _ _ rfl (aA _ _) fun _ _ _ _ _ _ _ h=>h)
  ·cases ho;have e1:a.eval (aF 1)=Z (aj ⟨b1,0,Y⟩):=seen.kp 1 _ (nd 1 (by omega)) rfl;exact Rg.dD rfl rfl (Rg.dR a.eval _ 66 (aF 1) 2 rfl (by rw [e1]; simp [go_sem])) (hK _ _ rfl (aA _ _) fun _ _ _ _ _ _ _ h=>h)
  ·cases ho;have e7:a.eval (aF 7)=Z (aj ⟨b1,4,Y⟩):=seen.at_ ⟨4,.data⟩ (by simp) rfl (aK (by decide));have y4:=(H1.out.on hb).cell 4;simp only [ah,ak,au] at y4;exact Rg.dD rfl rfl (Rg.dX a.eval _ 32 (aF 7) rfl (by rw [e7]; simp [go_sem,y4])) (hK _ _ rfl (aA _ _) fun _ _ _ _ _ _ _ h=>h)
  ·cases ho;have e8:a.eval (aF 8)=U po pn pc:=seen.at_ ⟨5,.data⟩ (by simp) rfl (aK (by decide));exact Rg.gU rfl rfl (Rw.iG a.eval _ (aF 8) 32 123 rfl e8 rfl _ (gF aZ rfl rfl _ _)) (mW (po,pn,pc) p x (R5.out.on hb) L5.out) fun e w1 h=>by
    obtain⟨⟨s,rfl,h1⟩,h3⟩:=h;exact⟨_,rfl,hK _ _ ⟨s,rfl,dO h1 hb.size⟩ (h3.mono hb.size) fun j u hj _ _ _ hne h=>iQ j u _ _ h h3⟩
  ·cases ho;have e4:a.eval (aF 4)=aP #[J O y1,J O y2]:=seen.at_ ⟨1,.data⟩ (by simp) rfl (aK (by decide));have e6:a.eval (aF 6)=aP #[J O y3,J O y4]:=seen.at_ ⟨3,.data⟩ (by simp) rfl (aK (by decide));have E9:=seen.at_ ⟨6,.data⟩ (by simp) rfl (aK (by decide));obtain⟨s,q0,q1⟩:=E9;have q0:a.eval (aF 9)=dU s:=q0;exact Rg.dD rfl rfl (Rg.jM a.eval _ 41 #[(0,.const (J O 3)),(1,aF 4),(2,aF 6),(3,aF 9)] rfl (by simp only [List.map_toArray,List.map_cons,List.map_nil,e4,e6,q0]; rfl) (v:=aP #[J O 3,J O y1,J O y2,J O y3,J O y4,dU s,U Y 0 0]) (by simp [go_sem])) (hK _ _ ⟨s,rfl,q1⟩ (aA _ _) fun _ _ _ _ _ _ _ h=>h)
 ·intro kk o h1 h2 ho;omega
 ·intro a w' df sz kp ⟨vs,hv⟩ hb;have sz':a.tmps.size=11:=sz;have g2:a.tmps[2]?=aj (Z (aj ⟨b2,0,Y⟩)):=(kp 2 (nd 2 (by omega))).trans rfl;obtain⟨⟨q1,q2,q3⟩,hs,ho⟩:=(hv 7 (by omega)).2 (by decide);have g10:a.tmps[10]?=aj (aP #[J O 3,J O y1,J O y2,J O y3,J O y4,U q1 q2 q3,U Y 0 0]):=((hv 7 (by omega)).1).trans (congrArg aj hs);have hB:=H2.out.on hb;have hlt:=H2.out.lt;show Rg.fH _ _ _ 1 8 a w';simp only [Rg.fH];refine Rg.fP 41 (aF 2) (aF 10) rfl rfl rfl rfl (Rg.dN g2) (Rg.dN g10) (w':=IG w' b2 (J O 3) (J O y1) (J O y2) (J O y3) (J O y4) (U q1 q2 q3) (U Y 0 0)) (YJ hB _ _ _ _ _ _ _ _ _ _ _) ?_;have hbx:=yG hB (J O 3) (J O y1) (J O y2) (J O y3) (J O y4) (U q1 q2 q3) (U Y 0 0);have hbt:=II w' b2 (J O 3) (J O y1) (J O y2) (J O y3) (J O y4) (U q1 q2 q3) (U Y 0 0);have rV:∀ j,(j<3\/11<=j)->(a).tmps[j]?=(u0::Z (aj ⟨b1,0,Y⟩)::Z (aj ⟨b2,0,Y⟩)::u3::u4::u5::u6::u7::u8::u9::u10::[])[j]?:=fun j hj=>(kp j (nd j (by omega))).trans ah;obtain⟨mid,hmid,hfr⟩:=Rg.gI (a:=a) 3 8 df (by simp [sz']) (by simp) rV;show Q .normal (a) _;rw [hfr]
  match mid,hmid with
  | [v3,v4,v5,v6,v7,v8,v9,v10],_ =>
   exact HQ.out _ _ _ _ _ _ _ _ _ q1 q2 q3 hbx (hbt.own ho hB (by decide)) (fun B hBl=>y8 (hb.mono (bf (aU hBl hlt))) hBl _ _ _ _ _ _ _)
theorem acO (k tc ts ic sK:Int) (pv:Sl) (p:List C5) (w:aC) (hp:fI w (dU pv) p) (hl:p.length<=900) :
  aT aB 78 #[aP #[J O k,J O tc,J O ts,J O ic,J O sK,dU pv,U Y 0 0]] w fun e w'=>(∃ s:Sl,e=aH (aP #[J O k,J O tc,J O ts,J O ic,J O sK,dU s,U Y 0 0])/\gT w' w.heap.size (dU s) p)/\Below w.heap.size w w':=by
 obtain⟨po,pn,pc⟩:=pv;obtain⟨h0,h1,h2⟩:=gP w #[J O k,J O tc,J O ts,J O ic,J O sK,U po pn pc,U Y 0 0] #[J O 0,J O 0,J O 0,J O 0,J O 0,U Y 0 0,U Y 0 0] 41 41;have GB:=X h0;have X1:=X h1;have X2:=X h2;have HP:=X (hp.on h0);clear h0 h1 h2 hp;show aT aB 78 #[aP #[J O k,J O tc,J O ts,J O ic,J O sK,U po pn pc,U Y 0 0]] w _;go_enter Tryz.func78,Tryz.ntmps78;go_upto_region 1 with fail;generalize (w.alloc (aD #[J O k,J O tc,J O ts,J O ic,J O sK,U po pn pc,U Y 0 0] 41)).alloc (aD #[J O 0,J O 0,J O 0,J O 0,J O 0,U Y 0 0,U Y 0 0] 41)=W at *;refine cm1 _ W w.heap.size k tc ts ic sK po pn pc p _ _ _ _ _ _ _ _ _ _ _ X1.out HP.out hl ?_;intro x v3 v4 v5 v6 v7 v8 v9 v10 q1 q2 q3 hbx ho hbl hbt;have Y1:=X hbx;have Y2:=X (hbt.box X2.out (by omega));have OO:=X (dO ho GB.out.size);have G2:=X (GB.out.trans (hbl w.heap.size (aL _)));clear hbx ho hbl hbt GB X1 X2 HP;obtain⟨x0,x1,x2,x3,x4,x5,x6⟩:=Y1.out.mI;obtain⟨r0,r1,r2,r3,r4,r5,r6⟩:=Y2.out.mI;obtain⟨t0,t1,t2,t3,t4,t5,t6⟩:=Y2.out.Yb;have zz:=Y2.out.lt;have FB:=X (yG Y2.out (J O k) (J O tc) (J O ts) (J O ic) (J O sK) (U q1 q2 q3) (U Y 0 0));have BL:=X (y8 (b:=w.heap.size+1) G2.out (by omega) (J O k) (J O tc) (J O ts) (J O ic) (J O sK) (U q1 q2 q3) (U Y 0 0));have OX:=X ((II x (w.heap.size+1) (J O k) (J O tc) (J O ts) (J O ic) (J O sK) (U q1 q2 q3) (U Y 0 0)).own OO.out Y2.out (by decide));clear Y1 Y2 OO G2;go_wp2_with fail;obtain⟨v0,v1,v2,v3,v4,v5,v6⟩:=FB.out.mI;refine bodyPost_ret (v:=aP #[J O k,J O tc,J O ts,J O ic,J O sK,U q1 q2 q3,U Y 0 0]) (by simp [results,Tryz.results78,go_sem,v0,v1,v2,v3,v4,v5,v6]) rfl ?_;exact⟨⟨(q1,q2,q3),rfl,OX.out⟩,BL.out⟩
theorem Qq (z:iq) (p:List C5) (w:aC) (hp:fI w (dU z.2.2.2.2.1) p) (hl:p.length<=900) :
  aT aB 95 #[pF z] w fun e w'=>(∃ s:Sl,e=aH (aP #[J O 3,J O z.1,J O z.2.1,J O z.2.2.1,J O z.2.2.2.1,dU s,U Y 0 0])/\gT w' w.heap.size (dU s) p)/\Below w.heap.size w w':=by
 obtain⟨y1,y2,y3,y4,⟨po,pn,pc⟩,y6,y7⟩:=z;obtain⟨h0,h1,h2⟩:=gP w #[J O y1,J O y2,J O y3,J O y4,U po pn pc,J O y6,aQ y7] #[J O 0,J O 0,J O 0,J O 0,J O 0,U Y 0 0,U Y 0 0] 66 41;have GB:=X h0;have X1:=X h1;have X2:=X h2;have HP:=X (hp.on h0);clear h0 h1 h2 hp;show aT aB 95 #[aP #[J O y1,J O y2,J O y3,J O y4,U po pn pc,J O y6,aQ y7]] w _;go_enter Tryz.func95,Tryz.ntmps95;go_upto_region 1 with fail;generalize (w.alloc (aD #[J O y1,J O y2,J O y3,J O y4,U po pn pc,J O y6,aQ y7] 66)).alloc (aD #[J O 0,J O 0,J O 0,J O 0,J O 0,U Y 0 0,U Y 0 0] 41)=W at *;refine agQ _ W w.heap.size (w.heap.size+1) y1 y2 y3 y4 po pn pc y6 y7 p _ _ _ _ _ _ _ _ _ X1.out X2.out HP.out hl ?_;intro x v3 v4 v5 v6 v7 v8 v9 v10 q1 q2 q3 hbx ho hbl;have FB:=X hbx;have OO:=X (dO ho GB.out.size);have G2:=X (GB.out.trans (hbl w.heap.size (by omega)));clear hbx ho hbl GB X1 X2 HP;go_wp2_with fail;obtain⟨v0,v1,v2,v3,v4,v5,v6⟩:=FB.out.mI;refine bodyPost_ret (v:=aP #[J O 3,J O y1,J O y2,J O y3,J O y4,U q1 q2 q3,U Y 0 0]) (by simp [results,Tryz.results95,go_sem,v0,v1,v2,v3,v4,v5,v6]) rfl ?_;exact⟨⟨(q1,q2,q3),rfl,OO.out⟩,G2.out⟩
end Fl
namespace Av
open Go.RowKit Go.Sort Rw YtmklifheakemeaaGreat.Nm Pr Bk
def kW (near:List Int) (f:Int):Bool:=decide (f∈near) || f == -1
end Av
namespace Bk
open Go.RowKit Go.Sort Rw YtmklifheakemeaaGreat.Nm
end Bk
namespace Rg
open Go.RowKit
structure aac (i N:Nat) (dst:Nat->Option Nat) (last:Nat->Nat) (V:Nat->aG->aC->Prop) (base:bg) (o:Oper) (a:bg) (w:aC):Prop where
 kp:∀ j u,(∀ k,k<N->dst k≠aj j)->base.tmps[j]?=aj u->a.eval (aF j)=u
 at_:∀ e∈o.after,aI .any e=aR->(last e.on=i\/N<=last e.on)->∀ d,dst e.on=aj d->V e.on (a.eval (aF d)) w
 st:∀ e∈o.after,aI .any e=aR->(last e.on=i\/N<=last e.on)->∃ v,V e.on v w
theorem Ec (a:bg) (d:Option Nat) (v:aG) (j:Nat) (hj:d≠aj j):(a.put d v).tmps[j]?=a.tmps[j]?:=by
 cases d with
 | none=>rfl
 | some d=>exact get_put _ _ _ _ (fun e=>hj (by rw [e]))
theorem TL (a:bg) (d:Option Nat) (v:aG):(a.put d v).tmps.size=a.tmps.size:=by
 cases d with
 | none=>rfl
 | some d=>exact size_put _ _ _
theorem put_defers (a:bg) (d:Option Nat) (v:aG):(a.put d v).defers=a.defers:=by
 cases d <;> rfl
structure PhD (l:List Oper) (N:Nat) (dst:Nat->Option Nat) (last:Nat->Nat) (V:Nat->aG->aC->Prop) (F:(Nat->Prop)->aC->Prop) (base:bg) (L:Array Bool) (a:bg) (x:aC):Prop where
 cl:∀ i o,done L i->l[i]?=aj o->∀ e∈o.after,aI .any e=aR->done L e.on
 df:a.defers=base.defers
 sz:a.tmps.size=base.tmps.size
 kp:∀ j,(∀ i,i<N->dst i≠aj j)->a.tmps[j]?=base.tmps[j]?
 fr:F (done L) x
 no:∀ i,N<=i->¬ done L i
 val:∃ vs:Nat->aG,∀ i,i<N->done L i->(∀ d,dst i=aj d->a.tmps[d]?=aj (vs i))/\(¬ done L (last i)->V i (vs i) x)
theorem p9 {P:Program} {Q:Exit->bg->aC->Prop} {id:Nat} {base:bg} {w:aC} {l:List Oper} (N:Nat) (dst:Nat->Option Nat) (last:Nat->Nat) (V:Nat->aG->aC->Prop) (F:(Nat->Prop)->aC->Prop)
  (hm:P.follows .mixedOrders=aR) (hf:Pn l.toArray=aR) (hN:l.length=N) (hinj:∀ i j d,i<N->j<N->dst i=aj d->dst j=aj d->i=j) (hs:∀ i d,i<N->dst i=aj d->d<base.tmps.size) (h0:F (fun _=>False) w.drew)
  (hop:∀ i o,i<N->l[i]?=aj o->∀ a w' (D:Nat->Prop),¬ D i->(∀ j oj,D j->l[j]?=aj oj->∀ e∈oj.after,aI .any e=aR->D e.on)->(∀ e∈o.after,aI .any e=aR->D e.on)->F D w'->aac i N dst last V base o a w'->∀ K:bg->aC->Prop,(∀ v w'',V i v w''->F (fun j=>j=i\/D j) w''->(∀ j u,j<N->D j->¬ D (last j)->last j≠i->j≠i->V j u w'->V j u w'')->K (a.put (dst i) v) w'')->wpOp P l.toArray Q i K a w')
  (hend:∀ a w',a.defers=base.defers->a.tmps.size=base.tmps.size->(∀ j,(∀ i,i<N->dst i≠aj j)->a.tmps[j]?=base.tmps[j]?)->(∃ vs:Nat->aG,∀ i,i<N->(∀ d,dst i=aj d->a.tmps[d]?=aj (vs i))/\(N<=last i->V i (vs i) w'))->(∃ D:Nat->Prop,(∀ i,i<N->D i)/\F D w')->Q .normal a w'):(Code.region id l.toArray aR).wp P Q base w:=by
 refine rU (fun L a x=>PhD l N dst last V F base L a x) hm hf ?_ ?_ ?_
 ·exact⟨fun i o h=>absurd h (gQ _ _),rfl,rfl,fun _ _=>rfl,by rw [show done (Array.replicate l.length false)=fun _=>False from funext fun i=>propext ⟨fun h=>gQ _ _ h,False.elim⟩]; exact h0,fun i _=>gQ _ _,fun _=>.bool aR,fun i _ h=>absurd h (gQ _ _)⟩
 ·intro L a x i o hsz I ho hnd oK;have hi:i<l.length:=(aN.1 ho).1;have C9:i<L.size:=by omega
  have hiM:i<N:=by omega
  obtain⟨vs,q1⟩:=I.val;have hon:∀ e∈o.after,aI .any e=aR->e.on<N:=fun e he hb=>by
   have h7:=List.all_eq_true.1 hf i (List.mem_range.2 (by simpa using hi));have ho':(l.toArray)[i]?=aj o:=by simpa using ho
   rw [ho'] at h7;have h8:=Array.all_eq_true'.1 h7 e he;rw [hb] at h8;have:e.on<i:=by simpa using h8
   omega
  have lv:∀ e∈o.after,aI .any e=aR->(last e.on=i\/N<=last e.on)->V e.on (vs e.on) x:=fun e he hbd hl=>by
   refine (q1 e.on (hon e he hbd) (oK e he hbd)).2 ?_;rcases hl with hl|hl
   ·rw [hl]; exact hnd
   ·exact I.no _ hl
  have seen:aac i N dst last V base o a x:=⟨fun j u hj hu=>dN (by rw [I.kp j hj]; exact hu),fun e he hbd hl d hd=>by
   rw [dN ((q1 e.on (hon e he hbd) (oK e he hbd)).1 d hd)];exact lv e he hbd hl,fun e he hbd hl=>⟨_,lv e he hbd hl⟩⟩
  refine hop i o hiM ho a x (done L) hnd I.cl oK I.fr seen _ fun v w'' hvw hfw hpr=>?_;refine⟨fun k q hk hq e he hb=>?_,by rw [put_defers]; exact I.df,by rw [TL]; exact I.sz,fun j hj=>?_,by rw [show done (L.setIfInBounds i aR)=fun j=>j=i\/done L j from funext fun j=>propext (iw C9 j)]; exact hfw,fun k hk hd=>?_,fun k=>if k=i then v else vs k,fun k Yd hk=>?_⟩
  ·rw [iw C9] at hk ⊢;rcases hk with rfl|hk
   ·rw [hq] at ho;cases ho;exact aK (oK e he hb)
   ·exact aK (I.cl k q hk hq e he hb)
  ·rw [Ec _ _ _ _ (hj i hiM)];exact I.kp j hj
  ·rcases (iw C9 k).1 hd with h9|h9
   ·omega
   ·exact I.no k hk h9
  ·by_cases e:k=i
   ·subst e;simp only [if_true];refine⟨fun d hd=>?_,fun _=>hvw⟩;have h9:d<a.tmps.size:=by rw [I.sz]; exact hs k d Yd hd
    rw [hd];simp [Act.put,h9]
   ·simp only [if_neg e];rcases (iw C9 k).1 hk with h9|h9
    ·exact absurd h9 e
    ·obtain⟨p1,p2⟩:=q1 k Yd h9;refine⟨fun d hd=>?_,fun hn=>?_⟩
     ·rw [Ec _ _ _ _ (fun h=>e (hinj k i d Yd hiM hd h))];exact p1 d hd
     ·have n1:last k≠i:=fun e3=>hn ((iw C9 _).2 (Or.inl e3));have n2:¬ done L (last k):=fun e3=>hn ((iw C9 _).2 (aK e3));exact hpr k _ Yd h9 n2 n1 e (p2 n2)
 ·intro L a x I hd;obtain⟨vs,q1⟩:=I.val;exact hend a x I.df I.sz I.kp ⟨vs,fun k hk=>⟨(q1 k hk (hd k (by omega))).1,fun hl=>(q1 k hk (hd k (by omega))).2 (I.no _ hl)⟩⟩ ⟨done L,fun i hi=>hd i (by omega),I.fr⟩
end Rg
namespace Rl
open Go.RowKit Go.Sort Pu Rw Pr Va
abbrev z5:C5:=(⟨#[]⟩,0,0,0,⟨#[]⟩)
def ofV:Option Cn->aG
 | some y=>.tuple #[cv (r5 y),aQ aR]
 | none=>.tuple #[cv z5,aQ false]
theorem Le (pv:aG) (p:List Cn) (n:ByteArray) (w:aC) (hp:fI w pv (p.map r5)) (_h100:p.length<=100) :
  aT aB 176 #[pv,ay n] w fun e w'=>e=aH (ofV (XV p n))/\Below w.heap.size w w':=by
 have HP:=X hp;obtain⟨ao,ac,rfl⟩:=hp.len;rw [aM] at HP ⊢;generalize hm:p.length=m at *;have HM:=X hm;clear hp hm;have B0:=X (show Below w.heap.size w (w.alloc (aD #[ay ⟨#[]⟩,J O 0,J O 0,J O 0,ay ⟨#[]⟩] 70)) from (aA _ _).alloc (aL _) _);have Z0:=X (show dK (w.alloc (aD #[ay ⟨#[]⟩,J O 0,J O 0,J O 0,ay ⟨#[]⟩] 70)) w.heap.size (cells5 z5).toArray 70 from dJ w _ _);go_enter Tryz.func176,Tryz.ntmps176;go_wp2;generalize w.alloc (aD #[ay ⟨#[]⟩,J O 0,J O 0,J O 0,ay ⟨#[]⟩] 70)=w1 at B0 Z0 ⊢
 go_loopw [10] (fun i wr=>∃ k:Nat,k<=m/\i=J O k/\Below w.heap.size w wr/\dK wr w.heap.size (cells5 z5).toArray 70/\∀ (j:Nat) (y:Cn),j<k->p[j]?=aj y->y.1≠n) (fun i _=>m-(intOf i).toNat)
 case atStart=>exact⟨0,aV _,rfl,B0.out,Z0.out,fun j y h=>by omega⟩
 case round =>
  obtain⟨k,hk,rfl,hb,ht,hall⟩:=hrel;have HB:=X hb;have HT:=X ht;have AL:=X hall;clear hb hall ht;by_cases hlt:k<m
  ·obtain⟨⟨xn,xk⟩,hx⟩:∃ x,p[k]?=aj x:=⟨_,aJ (by rw [HM.out]; exact hlt)⟩;obtain⟨q,ix,px⟩:=XT (x:=r5 (xn,xk)) HP.out rfl (by rw [aM]; exact HM.out) (by rw [aO,hx]; rfl);obtain⟨p0,p1,p2,p3,p4⟩:=px _ HB.out;have HX:=X hx;have B4:=X (HB.out.alloc HB.out.size (aD #[ay xn,J O (kN xk),J O (jF xk),J O (jG xk),ay (kT xk)] 70));have T4:=X (HT.out.more (aD #[ay xn,J O (kN xk),J O (jF xk),J O (jG xk),ay (kT xk)] 70));clear hx px;simp only [r5] at p0 p1 p2 p3 p4;by_cases he:xn=n
   ·have hn:(xn.toList == n.toList)=aR:=by rw [he]; exact beq_self_eq_true _
    have R:=X (aeA HX.out he AL.out);clear he;obtain⟨c0,c1,c2,c3,c4⟩:=fA HT.out;have f0:=HT.out.fr 0;have f1:=HT.out.fr 1;have f2:=HT.out.fr 2;have f3:=HT.out.fr 3;have f4:=HT.out.fr 4;have agR:=HT.out.lt;simp only at c0 c1 c2 c3 c4;go_wp2;have T5:=(uM HT.out (xn,kN xk,jF xk,jG xk,kT xk)).more (aD #[ay xn,J O (kN xk),J O (jF xk),J O (jG xk),ay (kT xk)] 70);have B5:=(gZ HB.out w.heap.size (aL _) (ay xn) (J O (kN xk)) (J O (jF xk)) (J O (jG xk)) (ay (kT xk))).alloc (gZ HB.out w.heap.size (aL _) (ay xn) (J O (kN xk)) (J O (jF xk)) (J O (jG xk)) (ay (kT xk))).size (aD #[ay xn,J O (kN xk),J O (jF xk),J O (jG xk),ay (kT xk)] 70);generalize World.alloc _ (aD #[ay xn,J O (kN xk),J O (jF xk),J O (jG xk),ay (kT xk)] 70)=w6 at T5 B5 ⊢;obtain⟨d0,d1,d2,d3,d4⟩:=fA T5;simp only at d0 d1 d2 d3 d4;refine bodyPost_ret (v:=ofV (aj (xn,xk))) (by simp [results,aW,go_sem,d0,d1,d2,d3,d4,ofV,r5]) rfl ⟨by rw [R.out],B5⟩
   ·have hn:(xn.toList == n.toList)=false:=by rw [beq_eq_false_iff_ne]; exact fun h=>he (sN h)
    have HE:=X he;clear he;go_wp2
    go_roundw
    case rel=>exact⟨k+1,by omega,by go_num,B4.out,T4.out,fun j y hj hy=>by
     rcases Nat.lt_or_ge j k with h3|h3
     ·exact AL.out j y h3 hy
     ·obtain rfl:j=k:=by omega
      have e:=HX.out;rw [hy] at e;rw [Option.some.inj e];exact HE.out⟩
    case measure=>simp [intOf]; omega
  ·obtain rfl:k=m:=by omega
   have R:=X (YD (p:=p) (n:=n) (fun j y hj hy=>AL.out j y (by rw [<- HM.out]; exact hj) hy));obtain⟨c0,c1,c2,c3,c4⟩:=fA HT.out;have f0:=HT.out.fr 0;have f1:=HT.out.fr 1;have f2:=HT.out.fr 2;have f3:=HT.out.fr 3;have f4:=HT.out.fr 4;have agR:=HT.out.lt;simp only at c0 c1 c2 c3 c4;go_wp2;have T5:=uM HT.out z5;have B5:=gZ HB.out w.heap.size (aL _) (ay ⟨#[]⟩) (J O 0) (J O 0) (J O 0) (ay ⟨#[]⟩);simp only at T5;generalize World.setCell _ _ (ay ⟨#[]⟩)=w6 at T5 B5 ⊢;obtain⟨d0,d1,d2,d3,d4⟩:=fA T5;simp only at d0 d1 d2 d3 d4;refine bodyPost_ret (v:=ofV Y) (by simp [results,aW,go_sem,d0,d1,d2,d3,d4,ofV]) rfl ⟨by rw [R.out],B5⟩
theorem Qr (n:ByteArray) (c d:Kd) (w:aC) (hc:iN c=aR) (hd:iN d=aR) :
  aT aB 177 #[cv (r5 (n,c)),cv (r5 (n,d))] w fun e w'=>e=aH (aQ (eU d c))/\Below w.heap.size w w':=by
 obtain⟨ba,bb,hb⟩:=Tx w (r5 (n,c)) (r5 (n,d));have BB:=X bb;have B:=X hb;have CB:=X (IC (n,c) (n,d) ((w.alloc (aD (cells5 (r5 (n,c))).toArray 70)).alloc (aD (cells5 (r5 (n,d))).toArray 70)) rfl);have WS:=X (fun k (h:fE c d=aj k)=>K6 (n:=n) hc hd h);have WN:=X (fun (h:fE c d=Y)=>K7 hd h);simp only at CB;generalize fE c d=r at *;generalize eU d c=i at *;clear ba bb hb hc hd;simp only [r5] at CB ⊢;go_enter Tryz.func177,Tryz.ntmps177;go_wp2_with fail;refine CB.out.mono ?_;rintro e w2 ⟨⟨y,rfl,hy⟩,hb2⟩;have B2:=X (B.out.trans (hb2.mono B.out.size));obtain⟨b0,b1,b2,b3,b4⟩:=fA (BB.out.on hb2);simp only [r5] at b0 b1 b2 b3 b4;have B3:=X (B2.out.alloc B2.out.size (aD #[ay y.1,J O y.2.1,J O y.2.2.1,J O y.2.2.2.1,ay y.2.2.2.2] 70));have HY:=X hy;have hw2:w.heap.size+1<w2.heap.size:=by have:=hb2.size; simp at this; omega
 clear hb2 CB BB B hy;rcases r with _|k
 ·have E:=X (WN.out rfl);clear WN WS;go_wp2;go_ret;exact⟨eG E.out.symm,B3.out⟩
 ·have E:=X (show zK y (r5 (n,d))=i by rw [HY.out k rfl]; exact WS.out k rfl);obtain⟨y0,y1,y2,y3,y4⟩:=y;clear WN WS HY B3;go_wp2
  all_goals go_ret
  all_goals exact⟨eG (by rw [<- E.out]; simp [zK,r5, *]),B2.out.alloc B2.out.size _⟩
end Rl
namespace Pr
open Go.RowKit Go.Sort Pu Rw Va
def YM:ByteArray:=⟨#[112,114,101,100]⟩
def ND (w:aC) (l:List Cn) (e:Ending) (w':aC):Prop:=Below w.heap.size w w'/\(match Al l with
 | .ok m=>∃ pv,e=aH (.tuple #[pv,.nilIface])/\fI w' pv (m.map r5)
 | .error _=>∃ b,e=aH (.tuple #[U Y 0 0,.iface 223 (Z (aj ⟨b,0,Y⟩))]))
theorem YN (op:ByteArray) (at_:Int) (tx:Nat) (x:aG) (w:aC) :
  aT aB 157 #[ay op,J O at_,.iface tx x] w fun e w'=>e=aH (.iface 223 (Z (aj ⟨w.heap.size,0,Y⟩)))/\w'=w.alloc (aD #[ay op,J O at_,.iface tx x] 225):=by
 go_enter Tryz.func157,Tryz.ntmps157;go_wp2;go_ret;exact⟨rfl,rfl⟩
theorem Lf (at_:Nat) (m r:List Cn) (c:Cn):jX at_ m (c::r)=match nJ m c with
  | .ok m'=>jX (at_+1) m' r
  | .error k=>.error (k,at_):=by
 simp only [jX,nJ];cases oM m c with
 | none=>rfl
 | some m'=>simp only; split <;> rfl
theorem Qs {m:List Cn} {c:Cn} {m':List Cn} (h:jN m) (hs:nJ m c=.ok m'):jN m'/\m'.length<=5:=by
 unfold nJ at hs;cases hi:oM m c with
 | none=>rw [hi] at hs; cases hs
 | some n =>
  rw [hi] at hs;simp only at hs
  split at hs
  ·cases hs
  ·rename_i h5
   injection hs with hs
   subst hs;exact⟨(kG m c n h hi).1,by omega⟩
theorem TM (lv:aG) (l:List Cn) (w:aC) (hl:fI w lv (l.map r5)) (hs:Tp l) (hgd:∀ c∈l,vD c=aR):aT aB 121 #[lv] w (ND w l):=by
 have HL:=X hl;have LN:=X (show (l.map r5).length=l.length from aM ..);have h100:=hs.1;have SM:=X hs.2;have GD:=X hgd;obtain⟨ao,ac,rfl⟩:=hl.len;rw [aM] at HL ⊢;obtain⟨n,hn⟩:∃ n,n=l.length:=⟨_,rfl⟩;rw [<- hn] at HL h100 ⊢;have HN:=X hn;obtain⟨res,hres⟩:∃ r,r=Al l:=⟨_,rfl⟩;have MQ:=X (show ∀ e w',(Below w.heap.size w w'/\(match res with
 | .ok m=>∃ pv,e=aH (.tuple #[pv,.nilIface])/\fI w' pv (m.map r5)
 | .error _=>∃ b,e=aH (.tuple #[U Y 0 0,.iface 223 (Z (aj ⟨b,0,Y⟩))])))->ND w l e w' from fun e w' h=>by unfold ND; rw [<- hres]; exact h)
 have HR:=X hres;clear hl hs hgd hn hres;generalize hq:ND w l=q at *;clear hq;go_enter Tryz.func121,Tryz.ntmps121;go_wp2
 go_loopw [13] (fun i wr=>∃ k:Nat,k<=n/\i=J O k/\Below w.heap.size w wr) (fun i _=>n-(intOf i).toNat)
 case atStart=>exact⟨0,aV _,rfl,aA _ _⟩
 case round =>
  obtain⟨k,hk,rfl,hb⟩:=hrel;have HB:=X hb;clear hb;by_cases hlt:k<n
  ·obtain⟨⟨xn,xk⟩,hx⟩:∃ x,l[k]?=aj x:=⟨_,aJ (by have:=HN.out; omega)⟩;obtain⟨p,ix,px⟩:=XT (x:=r5 (xn,xk)) HL.out rfl (LN.out.trans HN.out.symm) (by rw [aO,hx]; rfl);obtain⟨p0,p1,p2,p3,p4⟩:=px _ HB.out;have C:=X (Yo (xn,xk) (wr.alloc (aD (cells5 (r5 (xn,xk))).toArray 70)) (by have:=(SM.out _ (aS hx)).1; unfold maxLen; omega));rw [GD.out _ (aS hx)] at C;have B4:=X (HB.out.alloc HB.out.size (aD (cells5 (r5 (xn,xk))).toArray 70));simp only [r5] at p0 p1 p2 p3 p4 C;clear hx px;go_wp2_with fail;refine C.out.mono ?_;rintro e5 w5 ⟨rfl,hb5⟩;have B5:=X (B4.out.trans (hb5.mono B4.out.size));clear hb5 C B4 ix p0 p1 p2 p3 p4;go_wp2
   go_roundw
   case rel=>exact⟨k+1,by omega,by go_num,B5.out⟩
   case measure=>simp [intOf]; omega
  ·obtain rfl:k=n:=by omega
   go_wp2
   go_loopw [6,27] (fun mv i wr=>∃ (j:Nat) (m:List Cn),j<=k/\i=J O j/\gT wr w.heap.size mv (m.map r5)/\jN m/\m.length<=5/\res=jX j m (l.drop j)/\Below w.heap.size w wr) (fun _ i _=>k-(intOf i).toNat)
   case atStart=>exact⟨0,[],aV _,rfl,iM _ _,List.Pairwise.nil,by simp,by rw [HR.out]; rfl,HB.out⟩
   case round =>
    obtain⟨j,m,hj,rfl,hown,hrise,hm5,IJ,hb⟩:=hrel;have BW:=X hb;have OW:=X hown;have RM:=X hrise;have FO:=X IJ;clear hb hown hrise IJ;by_cases hjl:j<k
    ·obtain⟨⟨xn,xk⟩,hx⟩:∃ x,l[j]?=aj x:=⟨_,aJ (by have:=HN.out; omega)⟩;obtain⟨p,ix,px⟩:=XT (x:=r5 (xn,xk)) HL.out rfl (LN.out.trans HN.out.symm) (by rw [aO,hx]; rfl);obtain⟨p0,p1,p2,p3,p4⟩:=px _ BW.out;have B4:=X (BW.out.alloc BW.out.size (aD (cells5 (r5 (xn,xk))).toArray 70));have C:=X (Bd w.heap.size _ m (xn,xk) (wr.alloc (aD (cells5 (r5 (xn,xk))).toArray 70)) (dI OW.out ((aA _ _).alloc (aL _) _)) RM.out hm5 B4.out.size);have DR:l.drop j=(xn,xk)::l.drop (j+1):=by
      have h:=List.drop_eq_getElem_cons (l:=l) (i:=j) (by have:=HN.out; omega);rw [h]
      congr 1
      exact (aN.1 hx).2
     have F2:=FO.out;rw [DR,Lf] at F2;have F3:=X F2;simp only [r5] at p0 p1 p2 p3 p4 C;clear hx px F2 DR FO;cases hst:nJ m (xn,xk) with
     | ok m' =>
      have RR:=X (Qs RM.out hst);have F4:=X (show res=jX (j+1) m' (l.drop (j+1)) by rw [F3.out,hst]);rw [hst] at C;clear hst F3;go_wp2_with fail;refine C.out.mono ?_;rintro e5 w5 ⟨hb5,v',rfl,ho5⟩;have B5:=X (B4.out.trans hb5);have O5:=X ho5;clear hb5 ho5 C B4 ix p0 p1 p2 p3 p4 OW BW RM;go_wp2
      go_roundw
      case rel=>exact⟨j+1,m',by omega,by go_num,O5.out,RR.out.1,RR.out.2,F4.out,B5.out⟩
      case measure=>simp [intOf]; omega
     | error er =>
      have F4:=X (show res=.error (er,j) by rw [F3.out,hst]);rw [hst] at C;clear hst F3;go_wp2_with fail;refine C.out.mono ?_;rintro e5 w5 ⟨hb5,rfl⟩;have B5:=X (B4.out.trans hb5);clear hb5 C B4 ix p0 p1 p2 p3 p4 OW BW RM;go_wp2_with fail;refine (YN YM j 205 (J O er) w5).mono ?_;rintro e6 w6 ⟨rfl,rfl⟩;go_wp2;refine MQ.out _ _ ⟨B5.out.alloc B5.out.size _,?_⟩;rw [F4.out];exact⟨w5.heap.size,rfl⟩
    ·obtain rfl:j=k:=by omega
     have F2:=X (show res=.ok m by rw [FO.out,List.drop_of_length_le (by have:=HN.out; omega)]; rfl);go_wp2;refine MQ.out _ _ ⟨BW.out,?_⟩;rw [F2.out];exact⟨_,rfl,Row.dH OW.out⟩
end Pr
end Go.Proofs.YtmklifheakemeaaGreat
