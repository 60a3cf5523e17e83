/-
  copyMessage of packa. Conditions as told.
-/
import Derived.Test.YtkcfgbddlpomgaaGreatOQ036
set_option maxRecDepth 100000
set_option maxHeartbeats 64000000
open _root_.Go renaming Value->aB,World->aC,Addr->aF
open Go.IntKind renaming i64->U
open Go.Lib renaming hid->ak
open Go.Operand renaming tmp->ay
open Go.RowKit.Below renaming refl->au
open Go.Value renaming slice->J,int->O,pointer->V,agg->aD
open _root_.List renaming getElem?_toArray->X,getElem?_cons_zero->Z,getElem?_cons_succ->ah
open _root_.Option renaming none->Y,some->aj
open _root_.Or renaming inr->aA
namespace Go.Proofs.YtkcfgbddlpomgaaGreat.Ca
open Go.RowKit Go.Sort Rw YtkcfgbddlpomgaaGreat.Nm Pr Bk Av Rl Sb Fl
def O6 (B:Nat) (b1:Nat) (_k _tc _ts _ic _is_:Int) (po:Option aF) (pn pc:Nat) (p:List An) (i:Nat) (v:aB) (x:aC):Prop :=
 match i with
 | 0=>v=V (aj ⟨b1,5,Y⟩)
 | 1=>v=J Y 0 0
 | 2=>v=J Y 0 0
 | 3=>v=V (aj ⟨b1,6,Y⟩)
 | 4=>v=J po pn pc
 | 5=>∃ s:Sl,v=dU s/\Fy x B v p
 | 6=>v=V (aj ⟨b1,5,Y⟩)
 | _=>True
noncomputable def abx:Code:=((Tryz.f34.body.bind (eP 1)).getD .skip)
theorem Xi (B:Nat) (b1:Nat) (k tc ts ic EM:Int) (po:Option aF) (pn pc:Nat) (p:List An) (i:Nat) (v:aB) (x x':aC) (h:O6 B b1 k tc ts ic EM po pn pc p i v x) (hb:Below x.heap.size x x'):O6 B b1 k tc ts ic EM po pn pc p i v x':=by
 by_cases hi:i<7
 ·rcases (by omega:i=0\/i=1\/i=2\/i=3\/i=4\/i=5\/i=6) with rfl|rfl|rfl|rfl|rfl|rfl|rfl
  ·exact h
  ·exact h
  ·exact h
  ·exact h
  ·exact h
  ·obtain⟨s,h1,h2⟩:=h; exact⟨s,h1,Bk.dG h2 hb⟩
  ·exact h
 ·unfold O6
  split <;> first | omega | trivial
theorem aje (Q:Exit->Act->aC->Prop) (W:aC) (b1:Nat) (k tc ts ic EM:Int) (po:Option aF) (pn pc:Nat) (p:List An) (u0 u2 u3 u4 u5 u6 u7 u8 u9 u10 u11:aB)
  (h1:dN W b1 #[O U k,O U tc,O U ts,O U ic,O U EM,J Y 0 0,J po pn pc] 43) (r5:wH W (J po pn pc) p) (l5:p.length<=900)
  (hQ:∀ (x:aC) (v3 v4 v5 v6 v7 v8 v9 v10:aB) (q1:Option aF) (q2 q3:Nat),dN x b1 #[O U k,O U tc,O U ts,O U ic,O U EM,J Y 0 0,J q1 q2 q3] 43->Fy x W.heap.size (J q1 q2 q3) p->(∀ B,B<=b1->Below B W x)->But b1 W x->Q .normal ⟨(u0::V (aj ⟨b1,0,Y⟩)::u2::v3::v4::v5::v6::v7::v8::v9::v10::u11::[]).toArray,[]⟩ x) :
  Code.wp Tryz.prog abx Q ⟨(u0::V (aj ⟨b1,0,Y⟩)::u2::u3::u4::u5::u6::u7::u8::u9::u10::u11::[]).toArray,[]⟩ W:=by
 have HQ:=ak hQ;have H1:=ak h1;have R5:=ak r5;have L5:=ak l5;clear hQ h1 r5 l5;have iN:=Xi W.heap.size b1 k tc ts ic EM po pn pc p;unfold abx
 conv=>arg 2; whnf
 have nd:∀ j,(j<3\/10<=j)->∀ i,i<7->(fun i=>3+i) i≠j:=by
  intro j hj i hi h;simp only at h;omega
 refine Rg.fM 10 7 (fun i=>3+i) (fun _=>7) (O6 W.heap.size b1 k tc ts ic EM po pn pc p) (by kernel_rfl) (by kernel_rfl) rfl (by decide) (fun i j _ _ h=>by have h2:3+i=3+j:=h; omega) (fun i hi=>by show 3+i<12; omega) ?_ (fun _=>Rg.jq 14 (by kernel_rfl)) ?_ ?_
 ·intro i o hi ho a x D hnd hc hD hb seen K hK;clear HQ;rcases (by omega:i=0\/i=1\/i=2\/i=3\/i=4\/i=5\/i=6) with rfl|rfl|rfl|rfl|rfl|rfl|rfl
  ·cases ho;have e1:a.eval (ay 1)=V (aj ⟨b1,0,Y⟩):=seen.kp 1 _ (nd 1 (by omega)) rfl;exact Rg.dD rfl rfl (Rg.dX a.eval _ 43 (ay 1) 3 rfl (by rw [e1]; simp [go_sem])) (hK _ _ rfl (au _ _) fun _ _ _ _ _ _ _ h=>h)
  ·cases ho;have e3:a.eval (ay 3)=V (aj ⟨b1,5,Y⟩):=seen.at_ ⟨0,.data⟩ (by simp) rfl (aA (by decide));have y5:=(H1.out.on hb).cell 5;simp only [X,Z,ah] at y5;exact Rg.dD rfl rfl (Rg.dZ a.eval _ 41 (ay 3) rfl (by rw [e3]; simp [go_sem,y5])) (hK _ _ rfl (au _ _) fun _ _ _ _ _ _ _ h=>h)
  ·cases ho;have e4:a.eval (ay 4)=J Y 0 0:=seen.at_ ⟨1,.data⟩ (by simp) rfl (aA (by decide));exact Rg.gH rfl rfl (Rw.iG a.eval _ (ay 4) 41 66 rfl e4 rfl _ (fT Tryz.func66 rfl rfl _ _)) (Ml x) fun e w1 h=>by
    obtain⟨rfl,h3⟩:=h;exact⟨_,rfl,hK _ _ rfl (h3.mono hb.size) fun j u hj _ _ _ hne h=>iN j u _ _ h h3⟩
  ·cases ho;have e1:a.eval (ay 1)=V (aj ⟨b1,0,Y⟩):=seen.kp 1 _ (nd 1 (by omega)) rfl;exact Rg.dD rfl rfl (Rg.dX a.eval _ 43 (ay 1) 4 rfl (by rw [e1]; simp [go_sem])) (hK _ _ rfl (au _ _) fun _ _ _ _ _ _ _ h=>h)
  ·cases ho;have e6:a.eval (ay 6)=V (aj ⟨b1,6,Y⟩):=seen.at_ ⟨3,.data⟩ (by simp) rfl (aA (by decide));have y6:=(H1.out.on hb).cell 6;simp only [X,Z,ah] at y6;exact Rg.dD rfl rfl (Rg.dZ a.eval _ 39 (ay 6) rfl (by rw [e6]; simp [go_sem,y6])) (hK _ _ rfl (au _ _) fun _ _ _ _ _ _ _ h=>h)
  ·cases ho;have e7:a.eval (ay 7)=J po pn pc:=seen.at_ ⟨4,.data⟩ (by simp) rfl (aA (by decide));exact Rg.gH rfl rfl (Rw.iG a.eval _ (ay 7) 39 35 rfl e7 rfl _ (fT Tryz.func35 rfl rfl _ _)) (Ci (po,pn,pc) p x (R5.out.on hb) L5.out) fun e w1 h=>by
    obtain⟨⟨s,rfl,h1⟩,h3⟩:=h;exact⟨_,rfl,hK _ _ ⟨s,rfl,dJ h1 hb.size⟩ (h3.mono hb.size) fun j u hj _ _ _ hne h=>iN j u _ _ h h3⟩
  ·cases ho;have e1:a.eval (ay 1)=V (aj ⟨b1,0,Y⟩):=seen.kp 1 _ (nd 1 (by omega)) rfl;exact Rg.dD rfl rfl (Rg.dX a.eval _ 43 (ay 1) 3 rfl (by rw [e1]; simp [go_sem])) (hK _ _ rfl (au _ _) fun _ _ _ _ _ _ _ h=>h)
 ·intro kk o h1 h2 ho;rcases (by omega:kk=8\/kk=9) with rfl|rfl
  ·cases ho;exact⟨⟨7,.phase⟩,by simp,rfl,rfl⟩
  ·cases ho;exact⟨⟨8,.data⟩,by simp,rfl,rfl⟩
 ·intro a w' df sz kp ⟨vs,hv⟩ hb;have sz':a.tmps.size=12:=sz;have g1:a.tmps[1]?=aj (V (aj ⟨b1,0,Y⟩)):=(kp 1 (nd 1 (by omega))).trans rfl;have g5:a.tmps[5]?=aj (J Y 0 0):=by
   have h:vs 2=J Y 0 0:=(hv 2 (by omega)).2 (by decide);rw [<- h];exact (hv 2 (by omega)).1
  have g9:a.tmps[9]?=aj (V (aj ⟨b1,5,Y⟩)):=by
   have h:vs 6=V (aj ⟨b1,5,Y⟩):=(hv 6 (by omega)).2 (by decide);rw [<- h];exact (hv 6 (by omega)).1
  obtain⟨⟨q1,q2,q3⟩,hs,ho⟩:=(hv 5 (by omega)).2 (by decide);have g8:a.tmps[8]?=aj (J q1 q2 q3):=((hv 5 (by omega)).1).trans (congrArg aj hs);rw [hs] at ho;have hB:=H1.out.on hb;have hlt:=H1.out.lt;show Rg.fF _ _ _ 3 7 a w';simp only [Rg.fF];have c5x:=hB.cell 5;have f5x:=hB.fr 5;simp only [X,Z,ah] at c5x;refine Rg.fP 41 (ay 9) (ay 5) rfl rfl rfl rfl (Rg.dK g9) (Rg.dK g5) (w':=(w').setCell ⟨b1,5,Y⟩ (J Y 0 0)) (by simp [go_sem,c5x,f5x]) ?_;have hB5:dN ((w').setCell ⟨b1,5,Y⟩ (J Y 0 0)) b1 #[O U k,O U tc,O U ts,O U ic,O U EM,J Y 0 0,J po pn pc] 43:=by simpa using dR (k:=5) hB (J Y 0 0)
  refine Rg.dD rfl rfl (Rg.dX _ _ 43 (ay 1) 4 rfl (v:=V (aj ⟨b1,6,Y⟩)) (by rw [Rg.dK g1]; simp [go_sem])) ?_;have ajf:(a.put (aj 10) (V (aj ⟨b1,6,Y⟩))).tmps[10]?=aj (V (aj ⟨b1,6,Y⟩)):=by simp [Act.put,sz']
  show Go.wpOp _ _ _ 9 _ (a.put (aj 10) (V (aj ⟨b1,6,Y⟩))) _;have c6x:=hB5.cell 6;have f6x:=hB5.fr 6;simp only [X,Z,ah] at c6x;refine Rg.fP 39 (ay 10) (ay 8) rfl rfl rfl rfl (Rg.dK ajf) (Rg.dK ((Rg.get_put _ 10 _ 8 (by decide)).trans g8)) (w':=((w').setCell ⟨b1,5,Y⟩ (J Y 0 0)).setCell ⟨b1,6,Y⟩ (J q1 q2 q3)) (by simp [go_sem,c6x,f6x]) ?_;have hB6:dN (((w').setCell ⟨b1,5,Y⟩ (J Y 0 0)).setCell ⟨b1,6,Y⟩ (J q1 q2 q3)) b1 #[O U k,O U tc,O U ts,O U ic,O U EM,J Y 0 0,J q1 q2 q3] 43:=by simpa using dR (k:=6) hB5 (J q1 q2 q3)
  have sI:∀ j,(j<3\/11<=j)->((a.put (aj 10) (V (aj ⟨b1,6,Y⟩)))).tmps[j]?=(u0::V (aj ⟨b1,0,Y⟩)::u2::u3::u4::u5::u6::u7::u8::u9::u10::u11::[])[j]?:=fun j hj=>(Rg.get_put _ 10 _ j (by omega)).trans ((kp j (nd j (by omega))).trans X);obtain⟨mid,hmid,hfr⟩:=Rg.gF (a:=(a.put (aj 10) (V (aj ⟨b1,6,Y⟩)))) 3 8 df (by simp [Rg.size_put,sz']) (by simp) sI;show Q .normal ((a.put (aj 10) (V (aj ⟨b1,6,Y⟩)))) _;rw [hfr]
  match mid,hmid with
  | [v3,v4,v5,v6,v7,v8,v9,v10],_ =>
   exact HQ.out _ _ _ _ _ _ _ _ _ q1 q2 q3 hB6 (dP (dP ho b1 5 (J Y 0 0) hlt) b1 6 (J q1 q2 q3) hlt) (fun B hBl=>(((hb.mono (Nat.le_of_lt (Nat.lt_of_le_of_lt hBl hlt))).setCell (p:=⟨b1,5,Y⟩) hBl (J Y 0 0)).setCell (p:=⟨b1,6,Y⟩) hBl (J q1 q2 q3))) (((But.of_below hb).trans (dY _ b1 5 _)).trans (dY _ b1 6 _))
theorem ZG (k tc ts ic EM:Int) (pv:Sl) (p:List An) (w:aC) (hp:wH w (dU pv) p) (hl:p.length<=900) :
  Calls Tryz.prog 34 #[aD #[O U k,O U tc,O U ts,O U ic,O U EM,J Y 0 0,dU pv]] w fun e w'=>(∃ s:Sl,e=.returned (aD #[O U k,O U tc,O U ts,O U ic,O U EM,J Y 0 0,dU s])/\Fy w' w.heap.size (dU s) p)/\Below w.heap.size w w':=by
 obtain⟨po,pn,pc⟩:=pv;obtain⟨h0,h1,h2⟩:=iE w #[O U k,O U tc,O U ts,O U ic,O U EM,J Y 0 0,J po pn pc] #[O U 0,O U 0,O U 0,O U 0,O U 0,J Y 0 0,J Y 0 0] 43 43;have GB:=ak h0;have X1:=ak h1;have X2:=ak h2;have HP:=ak (hp.on h0);clear h0 h1 h2 hp;show Calls Tryz.prog 34 #[aD #[O U k,O U tc,O U ts,O U ic,O U EM,J Y 0 0,J po pn pc]] w _;go_enter Tryz.func34,Tryz.ntmps34;go_upto_region 1 with fail;generalize (w.alloc (.cells #[O U k,O U tc,O U ts,O U ic,O U EM,J Y 0 0,J po pn pc] 43)).alloc (.cells #[O U 0,O U 0,O U 0,O U 0,O U 0,J Y 0 0,J Y 0 0] 43)=W at *;refine aje _ W w.heap.size k tc ts ic EM po pn pc p _ _ _ _ _ _ _ _ _ _ _ X1.out HP.out hl ?_;intro x v3 v4 v5 v6 v7 v8 v9 v10 q1 q2 q3 hbx ho hbl hbt;have Y1:=ak hbx;have Y2:=ak (hbt.box X2.out (by omega));have OO:=ak (dJ ho GB.out.size);have G2:=ak (GB.out.trans (hbl w.heap.size (Nat.le_refl _)));clear hbx ho hbl hbt GB X1 X2 HP;obtain⟨x0,x1,x2,x3,x4,x5,x6⟩:=Y1.out.oI;obtain⟨r0,r1,r2,r3,r4,r5,r6⟩:=Y2.out.oI;obtain⟨t0,t1,t2,t3,t4,t5,t6⟩:=Y2.out.Z9;have zz:=Y2.out.lt;have FB:=ak (Dy Y2.out (O U k) (O U tc) (O U ts) (O U ic) (O U EM) (J Y 0 0) (J q1 q2 q3));have BL:=ak (JI (b:=w.heap.size+1) G2.out (by omega) (O U k) (O U tc) (O U ts) (O U ic) (O U EM) (J Y 0 0) (J q1 q2 q3));have OX:=ak ((V7 x (w.heap.size+1) (O U k) (O U tc) (O U ts) (O U ic) (O U EM) (J Y 0 0) (J q1 q2 q3)).own OO.out Y2.out (by decide));clear Y1 Y2 OO G2;go_wp2_with fail;obtain⟨v0,v1,v2,v3,v4,v5,v6⟩:=FB.out.oI;refine bodyPost_ret (v:=aD #[O U k,O U tc,O U ts,O U ic,O U EM,J Y 0 0,J q1 q2 q3]) (by simp [results,Tryz.results34,go_sem,v0,v1,v2,v3,v4,v5,v6]) rfl ?_;exact⟨⟨(q1,q2,q3),rfl,OX.out⟩,BL.out⟩
def GD (B:Nat) (_B0 b5:Nat) (_k0 _t1 _t2 x1 x2 n:Int) (po:Option aF) (pn pc:Nat) (p:List An) (v0:aB) (_ly:List FZ) (_L:List ((Int×eT)×List An)) (i:Nat) (v:aB) (x:aC):Prop :=
 match i with
 | 0=>v=v0
 | 1=>v=O U n
 | 2=>v=V (aj ⟨b5,3,Y⟩)
 | 3=>v=aD #[O U x1,O U x2]
 | 4=>v=V (aj ⟨b5,6,Y⟩)
 | 5=>v=J po pn pc
 | 6=>∃ s:Sl,v=dU s/\Fy x B (dU s) p
 | 7=>∃ s:Sl,v=aD #[O U n,O U x1,O U x2,dU s]/\Fy x B (dU s) p
 | 8=>∃ s:Sl,IE x B v [(n,x1,x2,s)]/\Fy x B (dU s) p
 | _=>True
noncomputable def Xj:Code:=((Tryz.f11.body.bind (eP 14)).getD .skip)
theorem RV (B:Nat) (B0 b5:Nat) (k0 t1 t2 x1 x2 n:Int) (po:Option aF) (pn pc:Nat) (p:List An) (v0:aB) (ly:List FZ) (L:List ((Int×eT)×List An)) (i:Nat) (v:aB) (x x':aC) (h:GD B B0 b5 k0 t1 t2 x1 x2 n po pn pc p v0 ly L i v x) (hb:Below x.heap.size x x'):GD B B0 b5 k0 t1 t2 x1 x2 n po pn pc p v0 ly L i v x':=by
 by_cases hi:i<9
 ·rcases (by omega:i=0\/i=1\/i=2\/i=3\/i=4\/i=5\/i=6\/i=7\/i=8) with rfl|rfl|rfl|rfl|rfl|rfl|rfl|rfl|rfl
  ·exact h
  ·exact h
  ·exact h
  ·exact h
  ·exact h
  ·exact h
  ·obtain⟨s,h1,h2⟩:=h; exact⟨s,h1,Bk.dG h2 hb⟩
  ·obtain⟨s,h1,h2⟩:=h; exact⟨s,h1,Bk.dG h2 hb⟩
  ·obtain⟨s,h1,h2⟩:=h; exact⟨s,Bk.dG h1 hb,Bk.dG h2 hb⟩
 ·unfold GD
  split <;> first | omega | trivial
theorem agD (Q:Exit->Act->aC->Prop) (W:aC) (B0 b5:Nat) (k0 t1 t2 x1 x2 n:Int) (po:Option aF) (pn pc:Nat) (p:List An) (v0:aB) (ly:List FZ) (L:List ((Int×eT)×List An)) (u0 u1 u2 u3 u4 u6 u7 u8 u9 u10 u11 u12 u14 u16 u17 u18 u19 u20 u21 u22 u23 u24 u25 u26 u27 u28 u29 u30 u31 u32 u33 u34 u35 u36 u37 u38 u39 u40 u41 u42 u43 u44 u45 u46 u47 u48 u49 u50 u51 u52 u53 u54 u55 u56 u57 u58 u59 u60 u61 u62 u63 u64 u65 u66 u67 u68 u69 u70 u71:aB)
  (h5:dN W b5 #[O U k0,O U t1,O U t2,O U x1,O U x2,J Y 0 0,J po pn pc] 43) (r5:wH W (J po pn pc) p) (l5:p.length<=900) (ov:IE W B0 v0 ly) (al:eH (Ka W B0) ly L) (hb0:B0<=W.heap.size) (ln:ly.length<=900)
  (hQ:∀ (x:aC) (w13:aB) (v59 v60 v61 v62 v63 v64 v65 v66 v67 v68:aB) (q:Sl),IE x B0 w13 (ly++[(n,x1,x2,q)])->eH (Ka x B0) (ly++[(n,x1,x2,q)]) (L++[((n,(x1,x2)),p)])->Below B0 W x->Q .normal ⟨(u0::u1::u2::u3::u4::V (aj ⟨b5,0,Y⟩)::u6::u7::u8::u9::u10::u11::u12::w13::u14::O U n::u16::u17::u18::u19::u20::u21::u22::u23::u24::u25::u26::u27::u28::u29::u30::u31::u32::u33::u34::u35::u36::u37::u38::u39::u40::u41::u42::u43::u44::u45::u46::u47::u48::u49::u50::u51::u52::u53::u54::u55::u56::u57::u58::v59::v60::v61::v62::v63::v64::v65::v66::v67::v68::u69::u70::u71::[]).toArray,[]⟩ x) :
  Code.wp Tryz.prog Xj Q ⟨(u0::u1::u2::u3::u4::V (aj ⟨b5,0,Y⟩)::u6::u7::u8::u9::u10::u11::u12::v0::u14::O U n::u16::u17::u18::u19::u20::u21::u22::u23::u24::u25::u26::u27::u28::u29::u30::u31::u32::u33::u34::u35::u36::u37::u38::u39::u40::u41::u42::u43::u44::u45::u46::u47::u48::u49::u50::u51::u52::u53::u54::u55::u56::u57::u58::u59::u60::u61::u62::u63::u64::u65::u66::u67::u68::u69::u70::u71::[]).toArray,[]⟩ W:=by
 have HQ:=ak hQ;have H5:=ak h5;have R5:=ak r5;have L5:=ak l5;have OV:=ak ov;have AL:=ak al;have HB:=ak hb0;have LN:=ak ln;clear hQ h5 r5 l5 ov al hb0 ln;have iN:=RV W.heap.size B0 b5 k0 t1 t2 x1 x2 n po pn pc p v0 ly L;unfold Xj
 conv=>arg 2; whnf
 have nd:∀ j,(∀ i,i<9->[59,60,61,62,63,64,65,66,67].getD i 0≠j)->∀ i,i<9->(fun i=>[59,60,61,62,63,64,65,66,67].getD i 0) i≠j:=fun j h=>h;refine Rg.fM 11 9 (fun i=>[59,60,61,62,63,64,65,66,67].getD i 0) (fun _=>9) (GD W.heap.size B0 b5 k0 t1 t2 x1 x2 n po pn pc p v0 ly L) (by kernel_rfl) (by kernel_rfl) rfl (by decide) (fun i j hi hj h=>(by decide:∀ i,i<9->∀ j,j<9->[59,60,61,62,63,64,65,66,67].getD i 0=[59,60,61,62,63,64,65,66,67].getD j 0->i=j) i hi j hj h) (fun i hi=>(by decide:∀ i,i<9->[59,60,61,62,63,64,65,66,67].getD i 0<72) i hi) ?_ (fun _=>Rg.jq 14 (by kernel_rfl)) ?_ ?_
 ·intro i o hi ho a x D hnd hc hD hb seen K hK;clear HQ;rcases (by omega:i=0\/i=1\/i=2\/i=3\/i=4\/i=5\/i=6\/i=7\/i=8) with rfl|rfl|rfl|rfl|rfl|rfl|rfl|rfl|rfl
  ·cases ho;have e13:a.eval (ay 13)=v0:=seen.kp 13 _ (nd 13 (by decide)) rfl;exact Rg.dD rfl rfl (Rg.fQ a.eval _ (ay 13) rfl x) (hK _ _ e13 (au _ _) fun _ _ _ _ _ _ _ h=>h)
  ·cases ho;have e15:a.eval (ay 15)=O U n:=seen.kp 15 _ (nd 15 (by decide)) rfl;exact Rg.dD rfl rfl (Rg.fQ a.eval _ (ay 15) rfl x) (hK _ _ e15 (au _ _) fun _ _ _ _ _ _ _ h=>h)
  ·cases ho;have e5:a.eval (ay 5)=V (aj ⟨b5,0,Y⟩):=seen.kp 5 _ (nd 5 (by decide)) rfl;exact Rg.dD rfl rfl (Rg.dX a.eval _ 43 (ay 5) 2 rfl (by rw [e5]; simp [go_sem])) (hK _ _ rfl (au _ _) fun _ _ _ _ _ _ _ h=>h)
  ·cases ho;have e61:a.eval (ay 61)=V (aj ⟨b5,3,Y⟩):=seen.at_ ⟨2,.data⟩ (by simp) rfl (aA (by decide));have y3:=(H5.out.on hb).cell 3;have y4:=(H5.out.on hb).cell 4;simp only [X,Z,ah] at y3 y4;exact Rg.dD rfl rfl (Rg.dZ a.eval _ 38 (ay 61) rfl (by rw [e61]; simp [go_sem,y3,y4])) (hK _ _ rfl (au _ _) fun _ _ _ _ _ _ _ h=>h)
  ·cases ho;have e5:a.eval (ay 5)=V (aj ⟨b5,0,Y⟩):=seen.kp 5 _ (nd 5 (by decide)) rfl;exact Rg.dD rfl rfl (Rg.dX a.eval _ 43 (ay 5) 4 rfl (by rw [e5]; simp [go_sem])) (hK _ _ rfl (au _ _) fun _ _ _ _ _ _ _ h=>h)
  ·cases ho;have e63:a.eval (ay 63)=V (aj ⟨b5,6,Y⟩):=seen.at_ ⟨4,.data⟩ (by simp) rfl (aA (by decide));have y6:=(H5.out.on hb).cell 6;simp only [X,Z,ah] at y6;exact Rg.dD rfl rfl (Rg.dZ a.eval _ 39 (ay 63) rfl (by rw [e63]; simp [go_sem,y6])) (hK _ _ rfl (au _ _) fun _ _ _ _ _ _ _ h=>h)
  ·cases ho;have e64:a.eval (ay 64)=J po pn pc:=seen.at_ ⟨5,.data⟩ (by simp) rfl (aA (by decide));exact Rg.gH rfl rfl (Rw.iG a.eval _ (ay 64) 39 35 rfl e64 rfl _ (fT Tryz.func35 rfl rfl _ _)) (Ci (po,pn,pc) p x (R5.out.on hb) L5.out) fun e w1 h=>by
    obtain⟨⟨s,rfl,h1⟩,h3⟩:=h;exact⟨_,rfl,hK _ _ ⟨s,rfl,dJ h1 hb.size⟩ (h3.mono hb.size) fun j u hj _ _ _ hne h=>iN j u _ _ h h3⟩
  ·cases ho;have e60:a.eval (ay 60)=O U n:=seen.at_ ⟨1,.data⟩ (by simp) rfl (aA (by decide));have e62:a.eval (ay 62)=aD #[O U x1,O U x2]:=seen.at_ ⟨3,.data⟩ (by simp) rfl (aA (by decide));have E65:=seen.at_ ⟨6,.data⟩ (by simp) rfl (aA (by decide));obtain⟨s,q0,q1⟩:=E65;have q0:a.eval (ay 65)=dU s:=q0;exact Rg.dD rfl rfl (Rg.iW a.eval _ 65 #[(0,ay 60),(1,ay 62),(2,ay 65)] rfl (by simp only [List.map_toArray,List.map_cons,List.map_nil,e60,e62,q0]; rfl) (v:=aD #[O U n,O U x1,O U x2,dU s]) (by simp [go_sem])) (hK _ _ ⟨s,rfl,q1⟩ (au _ _) fun _ _ _ _ _ _ _ h=>h)
  ·cases ho;have E66:=seen.at_ ⟨7,.data⟩ (by simp) rfl (aA (by decide));obtain⟨s,q0,q1⟩:=E66;have q0:a.eval (ay 66)=aD #[O U n,O U x1,O U x2,dU s]:=q0;have hl:=iD okG x [(n,x1,x2,s)] 1 rfl (by simp) (yD (n,x1,x2,s)).toArray (by simp [flat,EG]);have nb:=fI x (.cells (yD (n,x1,x2,s)).toArray 65);exact Rg.dD rfl rfl (Rg.iQ a.eval _ 45 1 #[(0,ay 66)] rfl (ps:=#[(0,adr (n,x1,x2,s))]) (by simp [q0]) (by simp [go_sem])) (hK (J (aj ⟨x.heap.size,0,Y⟩) 1 1) (x.alloc (.cells (yD (n,x1,x2,s)).toArray 65)) ⟨s,dJ hl hb.size,Bk.dG q1 nb⟩ (nb.mono hb.size) fun j u _ _ _ _ _ h=>iN j u _ _ h nb)
 ·intro kk o h1 h2 ho;rcases (by omega:kk=10) with rfl
  ·cases ho;exact⟨⟨9,.data⟩,by simp,rfl,rfl⟩
 ·intro a w' df sz kp ⟨vs,hv⟩ hb;have sz':a.tmps.size=72:=sz;have g59:a.tmps[59]?=aj (v0):=by
   have h:vs 0=v0:=(hv 0 (by omega)).2 (by decide);rw [<- h];exact (hv 0 (by omega)).1
  have g67:a.tmps[67]?=aj (vs 8):=(hv 8 (by omega)).1;have G67:=(hv 8 (by omega)).2 (by decide);obtain⟨⟨q1,q2,q3⟩,o67,ho⟩:=G67;obtain⟨v',x',r',o',a',bl⟩:=Zy (n,x1,x2,(q1,q2,q3)) ((n,(x1,x2)),p) (Bk.dG OV.out hb) (Row.dH o67) (AL.out.mono fun _ _ q=>q.on hb) ⟨rfl,rfl,dJ ho HB.out⟩ (by have:=LN.out; omega) (Nat.le_trans HB.out hb.size) (hb.mono HB.out);show Rg.fF _ _ _ 2 9 a w';simp only [Rg.fF];refine Rg.dD rfl rfl (Rg.gq _ _ (ay 59) (ay 67) 45 rfl (Rg.dK g59) (Rg.dK g67) r') ?_;show Go.wpOp _ _ _ 10 _ (a.put (aj 68) v') _;refine Rg.dD rfl rfl (Rg.jM _ _ (ay 68) rfl _) ?_;rw [show (a.put (aj 68) v').eval (ay 68)=v' from Rg.dK (by simp [Act.put,sz'])];show Q .normal ((a.put (aj 68) v').put (aj 13) v') x';have ka:∀ j,j≠68->j≠13->((a.put (aj 68) v').put (aj 13) v').tmps[j]?=a.tmps[j]?:=fun j h1 h2=>by rw [Rg.get_put _ _ _ _ (by omega),Rg.get_put _ _ _ _ (by omega)]
  have kt:((a.put (aj 68) v').put (aj 13) v').tmps[13]?=aj (v'):=by simp [Act.put,sz']
  have sI:∀ j,(j<59\/69<=j)->((a.put (aj 68) v').put (aj 13) v').tmps[j]?=(u0::u1::u2::u3::u4::V (aj ⟨b5,0,Y⟩)::u6::u7::u8::u9::u10::u11::u12::v'::u14::O U n::u16::u17::u18::u19::u20::u21::u22::u23::u24::u25::u26::u27::u28::u29::u30::u31::u32::u33::u34::u35::u36::u37::u38::u39::u40::u41::u42::u43::u44::u45::u46::u47::u48::u49::u50::u51::u52::u53::u54::u55::u56::u57::u58::u59::u60::u61::u62::u63::u64::u65::u66::u67::u68::u69::u70::u71::[])[j]?:=fun j hj=>by
   by_cases hj2:j=13
   ·subst hj2;exact kt
   ·have hs:(u0::u1::u2::u3::u4::V (aj ⟨b5,0,Y⟩)::u6::u7::u8::u9::u10::u11::u12::v'::u14::O U n::u16::u17::u18::u19::u20::u21::u22::u23::u24::u25::u26::u27::u28::u29::u30::u31::u32::u33::u34::u35::u36::u37::u38::u39::u40::u41::u42::u43::u44::u45::u46::u47::u48::u49::u50::u51::u52::u53::u54::u55::u56::u57::u58::u59::u60::u61::u62::u63::u64::u65::u66::u67::u68::u69::u70::u71::[]:List aB)=(u0::u1::u2::u3::u4::V (aj ⟨b5,0,Y⟩)::u6::u7::u8::u9::u10::u11::u12::v0::u14::O U n::u16::u17::u18::u19::u20::u21::u22::u23::u24::u25::u26::u27::u28::u29::u30::u31::u32::u33::u34::u35::u36::u37::u38::u39::u40::u41::u42::u43::u44::u45::u46::u47::u48::u49::u50::u51::u52::u53::u54::u55::u56::u57::u58::u59::u60::u61::u62::u63::u64::u65::u66::u67::u68::u69::u70::u71::[]).set 13 (v'):=rfl;rw [hs,List.getElem?_set_ne (Ne.symm hj2)];exact (ka j (by omega) hj2).trans ((kp j (nd j fun i hi h=>by have:=(by decide:∀ i,i<9->59<=[59,60,61,62,63,64,65,66,67].getD i 0/\[59,60,61,62,63,64,65,66,67].getD i 0<69) i hi; omega)).trans X)
  obtain⟨mid,hmid,hfr⟩:=Rg.gF (a:=(a.put (aj 68) v').put (aj 13) v') 59 10 (by simp [Act.put,df]) (by simp [Act.put,sz']) (by simp) sI;rw [hfr]
  match mid,hmid with
  | [v59,v60,v61,v62,v63,v64,v65,v66,v67,v68],_ =>
   exact HQ.out x' _ _ _ _ _ _ _ _ _ _ _ (q1,q2,q3) o' a' bl
end Go.Proofs.YtkcfgbddlpomgaaGreat.Ca
