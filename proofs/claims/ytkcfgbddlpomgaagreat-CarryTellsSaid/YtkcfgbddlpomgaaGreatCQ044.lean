/-
  copyMessage of packa. Conditions as told.
-/
import Derived.Test.YtkcfgbddlpomgaaGreatCQ042
set_option maxRecDepth 100000
set_option maxHeartbeats 64000000
open Go.IntKind renaming i64->L
open Go.Lib renaming hid->Z
open Go.Operand renaming tmp->ak
open Go.Proofs.YtkcfgbddlpomgaaGreat.Wi renaming within->V
open Go.RowKit.Below renaming refl->aj
open Go.Value renaming int->J,slice->O,pointer->U,agg->aD
open _root_.List renaming getElem?_toArray->ah,getElem?_cons_zero->au,getElem?_cons_succ->ay,map_toArray->aC,map_cons->aF,map_nil->aG
open _root_.Option renaming none->X,some->aA
open Option.some renaming inj->Y
open _root_.Or renaming inr->aB
namespace Go.Proofs.YtkcfgbddlpomgaaGreat
namespace Ca
open Go.RowKit Go.Sort Rw YtkcfgbddlpomgaaGreat.Nm Pr Bk Av Rl Sb Fl
def Mj (B:Nat) (b1:Nat) (_k _tc _ts _ic _is_:Int) (po:Option Addr) (pn pc:Nat) (p:List An) (i:Nat) (v:Value) (x:World):Prop :=
 match i with
 | 0=>v=U (aA ⟨b1,5,X⟩)
 | 1=>v=O X 0 0
 | 2=>v=O X 0 0
 | 3=>v=U (aA ⟨b1,6,X⟩)
 | 4=>v=O po pn pc
 | 5=>∃ s:Sl,v=dK s/\xJ x B v p
 | 6=>v=U (aA ⟨b1,5,X⟩)
 | _=>True
noncomputable def YS:Code:=((Tryz.f34.body.bind (eu 1)).getD .skip)
theorem Uj (B:Nat) (b1:Nat) (k tc ts ic Dt:Int) (po:Option Addr) (pn pc:Nat) (p:List An) (i:Nat) (v:Value) (x x':World) (h:Mj B b1 k tc ts ic Dt po pn pc p i v x) (hb:Below x.heap.size x x'):Mj B b1 k tc ts ic Dt po pn pc p i v x':=by
 by_cases hi:i<7
 ·rcases (by omega:i=0\/i=1\/i=2\/i=3\/i=4\/i=5\/i=6) with rfl|rfl|rfl|rfl|rfl|rfl|rfl
  ·exact h
  ·exact h
  ·exact h
  ·exact h
  ·exact h
  ·obtain⟨s,h1,h2⟩:=h; exact⟨s,h1,Bk.dh h2 hb⟩
  ·exact h
 ·unfold Mj
  split <;> first | omega | trivial
theorem afb (Q:Exit->Act->World->Prop) (W:World) (b1:Nat) (k tc ts ic Dt:Int) (po:Option Addr) (pn pc:Nat) (p:List An) (u0 u2 u3 u4 u5 u6 u7 u8 u9 u10 u11:Value)
  (h1:dG W b1 #[J L k,J L tc,J L ts,J L ic,J L Dt,O X 0 0,O po pn pc] 43) (r5:mF W (O po pn pc) p) (l5:p.length<=900)
  (hQ:∀ (x:World) (v3 v4 v5 v6 v7 v8 v9 v10:Value) (q1:Option Addr) (q2 q3:Nat),dG x b1 #[J L k,J L tc,J L ts,J L ic,J L Dt,O X 0 0,O q1 q2 q3] 43->xJ x W.heap.size (O q1 q2 q3) p->(∀ B,B<=b1->Below B W x)->But b1 W x->Q .normal ⟨(u0::U (aA ⟨b1,0,X⟩)::u2::v3::v4::v5::v6::v7::v8::v9::v10::u11::[]).toArray,[]⟩ x) :
  Code.wp Tryz.prog YS Q ⟨(u0::U (aA ⟨b1,0,X⟩)::u2::u3::u4::u5::u6::u7::u8::u9::u10::u11::[]).toArray,[]⟩ W:=by
 have HQ:=Z hQ;have H1:=Z h1;have R5:=Z r5;have L5:=Z l5;clear hQ h1 r5 l5;have iJ:=Uj W.heap.size b1 k tc ts ic Dt po pn pc p;unfold YS
 conv=>arg 2; whnf
 have nd:∀ j,(j<3\/10<=j)->∀ i,i<7->(fun i=>3+i) i≠j:=by
  intro j hj i hi h;simp only at h;omega
 refine Rg.fH 10 7 (fun i=>3+i) (fun _=>7) (Mj W.heap.size b1 k tc ts ic Dt po pn pc p) (by kernel_rfl) (by kernel_rfl) rfl (by decide) (fun i j _ _ h=>by have h2:3+i=3+j:=h; omega) (fun i hi=>by show 3+i<12; omega) ?_ (fun _=>Rg.iW 14 (by kernel_rfl)) ?_ ?_
 ·intro i o hi ho a x D hnd hc hD hb seen K hK;clear HQ;rcases (by omega:i=0\/i=1\/i=2\/i=3\/i=4\/i=5\/i=6) with rfl|rfl|rfl|rfl|rfl|rfl|rfl
  ·cases ho;have e1:a.eval (ak 1)=U (aA ⟨b1,0,X⟩):=seen.kp 1 _ (nd 1 (by omega)) rfl;exact Rg.cZ rfl rfl (Rg.dJ a.eval _ 43 (ak 1) 3 rfl (by rw [e1]; simp [go_sem])) (hK _ _ rfl (aj _ _) fun _ _ _ _ _ _ _ h=>h)
  ·cases ho;have e3:a.eval (ak 3)=U (aA ⟨b1,5,X⟩):=seen.at_ ⟨0,.data⟩ (by simp) rfl (aB (by decide));have y5:=(H1.out.on hb).cell 5;simp only [ah,au,ay] at y5;exact Rg.cZ rfl rfl (Rg.dR a.eval _ 41 (ak 3) rfl (by rw [e3]; simp [go_sem,y5])) (hK _ _ rfl (aj _ _) fun _ _ _ _ _ _ _ h=>h)
  ·cases ho;have e4:a.eval (ak 4)=O X 0 0:=seen.at_ ⟨1,.data⟩ (by simp) rfl (aB (by decide));exact Rg.gq rfl rfl (Rw.gY a.eval _ (ak 4) 41 66 rfl e4 rfl _ (fK Tryz.func66 rfl rfl _ _)) (J3 x) fun e w1 h=>by
    obtain⟨rfl,h3⟩:=h;exact⟨_,rfl,hK _ _ rfl (h3.mono hb.size) fun j u hj _ _ _ hne h=>iJ j u _ _ h h3⟩
  ·cases ho;have e1:a.eval (ak 1)=U (aA ⟨b1,0,X⟩):=seen.kp 1 _ (nd 1 (by omega)) rfl;exact Rg.cZ rfl rfl (Rg.dJ a.eval _ 43 (ak 1) 4 rfl (by rw [e1]; simp [go_sem])) (hK _ _ rfl (aj _ _) fun _ _ _ _ _ _ _ h=>h)
  ·cases ho;have e6:a.eval (ak 6)=U (aA ⟨b1,6,X⟩):=seen.at_ ⟨3,.data⟩ (by simp) rfl (aB (by decide));have y6:=(H1.out.on hb).cell 6;simp only [ah,au,ay] at y6;exact Rg.cZ rfl rfl (Rg.dR a.eval _ 39 (ak 6) rfl (by rw [e6]; simp [go_sem,y6])) (hK _ _ rfl (aj _ _) fun _ _ _ _ _ _ _ h=>h)
  ·cases ho;have e7:a.eval (ak 7)=O po pn pc:=seen.at_ ⟨4,.data⟩ (by simp) rfl (aB (by decide));exact Rg.gq rfl rfl (Rw.gY a.eval _ (ak 7) 39 35 rfl e7 rfl _ (fK Tryz.func35 rfl rfl _ _)) (Ah (po,pn,pc) p x (R5.out.on hb) L5.out) fun e w1 h=>by
    obtain⟨⟨s,rfl,h1⟩,h3⟩:=h;exact⟨_,rfl,hK _ _ ⟨s,rfl,dx h1 hb.size⟩ (h3.mono hb.size) fun j u hj _ _ _ hne h=>iJ j u _ _ h h3⟩
  ·cases ho;have e1:a.eval (ak 1)=U (aA ⟨b1,0,X⟩):=seen.kp 1 _ (nd 1 (by omega)) rfl;exact Rg.cZ rfl rfl (Rg.dJ a.eval _ 43 (ak 1) 3 rfl (by rw [e1]; simp [go_sem])) (hK _ _ rfl (aj _ _) fun _ _ _ _ _ _ _ h=>h)
 ·intro kk o h1 h2 ho;rcases (by omega:kk=8\/kk=9) with rfl|rfl
  ·cases ho;exact⟨⟨7,.phase⟩,by simp,rfl,rfl⟩
  ·cases ho;exact⟨⟨8,.data⟩,by simp,rfl,rfl⟩
 ·intro a w' df sz kp ⟨vs,hv⟩ hb;have sz':a.tmps.size=12:=sz;have g1:a.tmps[1]?=aA (U (aA ⟨b1,0,X⟩)):=(kp 1 (nd 1 (by omega))).trans rfl;have g5:a.tmps[5]?=aA (O X 0 0):=by
   have h:vs 2=O X 0 0:=(hv 2 (by omega)).2 (by decide);rw [<- h];exact (hv 2 (by omega)).1
  have g9:a.tmps[9]?=aA (U (aA ⟨b1,5,X⟩)):=by
   have h:vs 6=U (aA ⟨b1,5,X⟩):=(hv 6 (by omega)).2 (by decide);rw [<- h];exact (hv 6 (by omega)).1
  obtain⟨⟨q1,q2,q3⟩,hs,ho⟩:=(hv 5 (by omega)).2 (by decide);have g8:a.tmps[8]?=aA (O q1 q2 q3):=((hv 5 (by omega)).1).trans (congrArg aA hs);rw [hs] at ho;have hB:=H1.out.on hb;have hlt:=H1.out.lt;show Rg.fu _ _ _ 3 7 a w';simp only [Rg.fu];have c5x:=hB.cell 5;have f5x:=hB.fr 5;simp only [ah,au,ay] at c5x;refine Rg.fI 41 (ak 9) (ak 5) rfl rfl rfl rfl (Rg.dD g9) (Rg.dD g5) (w':=(w').setCell ⟨b1,5,X⟩ (O X 0 0)) (by simp [go_sem,c5x,f5x]) ?_;have hB5:dG ((w').setCell ⟨b1,5,X⟩ (O X 0 0)) b1 #[J L k,J L tc,J L ts,J L ic,J L Dt,O X 0 0,O po pn pc] 43:=by simpa using dO (k:=5) hB (O X 0 0)
  refine Rg.cZ rfl rfl (Rg.dJ _ _ 43 (ak 1) 4 rfl (v:=U (aA ⟨b1,6,X⟩)) (by rw [Rg.dD g1]; simp [go_sem])) ?_;have afc:(a.put (aA 10) (U (aA ⟨b1,6,X⟩))).tmps[10]?=aA (U (aA ⟨b1,6,X⟩)):=by simp [Act.put,sz']
  show Go.wpOp _ _ _ 9 _ (a.put (aA 10) (U (aA ⟨b1,6,X⟩))) _;have c6x:=hB5.cell 6;have f6x:=hB5.fr 6;simp only [ah,au,ay] at c6x;refine Rg.fI 39 (ak 10) (ak 8) rfl rfl rfl rfl (Rg.dD afc) (Rg.dD ((Rg.get_put _ 10 _ 8 (by decide)).trans g8)) (w':=((w').setCell ⟨b1,5,X⟩ (O X 0 0)).setCell ⟨b1,6,X⟩ (O q1 q2 q3)) (by simp [go_sem,c6x,f6x]) ?_;have hB6:dG (((w').setCell ⟨b1,5,X⟩ (O X 0 0)).setCell ⟨b1,6,X⟩ (O q1 q2 q3)) b1 #[J L k,J L tc,J L ts,J L ic,J L Dt,O X 0 0,O q1 q2 q3] 43:=by simpa using dO (k:=6) hB5 (O q1 q2 q3)
  have qF:∀ j,(j<3\/11<=j)->((a.put (aA 10) (U (aA ⟨b1,6,X⟩)))).tmps[j]?=(u0::U (aA ⟨b1,0,X⟩)::u2::u3::u4::u5::u6::u7::u8::u9::u10::u11::[])[j]?:=fun j hj=>(Rg.get_put _ 10 _ j (by omega)).trans ((kp j (nd j (by omega))).trans ah);obtain⟨mid,hmid,hfr⟩:=Rg.fQ (a:=(a.put (aA 10) (U (aA ⟨b1,6,X⟩)))) 3 8 df (by simp [Rg.size_put,sz']) (by simp) qF;show Q .normal ((a.put (aA 10) (U (aA ⟨b1,6,X⟩)))) _;rw [hfr]
  match mid,hmid with
  | [v3,v4,v5,v6,v7,v8,v9,v10],_ =>
   exact HQ.out _ _ _ _ _ _ _ _ _ q1 q2 q3 hB6 (dW (dW ho b1 5 (O X 0 0) hlt) b1 6 (O q1 q2 q3) hlt) (fun B hBl=>(((hb.mono (Nat.le_of_lt (Nat.lt_of_le_of_lt hBl hlt))).setCell (p:=⟨b1,5,X⟩) hBl (O X 0 0)).setCell (p:=⟨b1,6,X⟩) hBl (O q1 q2 q3))) (((But.of_below hb).trans (dQ _ b1 5 _)).trans (dQ _ b1 6 _))
theorem WO (k tc ts ic Dt:Int) (pv:Sl) (p:List An) (w:World) (hp:mF w (dK pv) p) (hl:p.length<=900) :
  Calls Tryz.prog 34 #[aD #[J L k,J L tc,J L ts,J L ic,J L Dt,O X 0 0,dK pv]] w fun e w'=>(∃ s:Sl,e=.returned (aD #[J L k,J L tc,J L ts,J L ic,J L Dt,O X 0 0,dK s])/\xJ w' w.heap.size (dK s) p)/\Below w.heap.size w w':=by
 obtain⟨po,pn,pc⟩:=pv;obtain⟨h0,h1,h2⟩:=gG w #[J L k,J L tc,J L ts,J L ic,J L Dt,O X 0 0,O po pn pc] #[J L 0,J L 0,J L 0,J L 0,J L 0,O X 0 0,O X 0 0] 43 43;have GB:=Z h0;have X1:=Z h1;have X2:=Z h2;have HP:=Z (hp.on h0);clear h0 h1 h2 hp;show Calls Tryz.prog 34 #[aD #[J L k,J L tc,J L ts,J L ic,J L Dt,O X 0 0,O po pn pc]] w _;go_enter Tryz.func34,Tryz.ntmps34;go_upto_region 1 with fail;generalize (w.alloc (.cells #[J L k,J L tc,J L ts,J L ic,J L Dt,O X 0 0,O po pn pc] 43)).alloc (.cells #[J L 0,J L 0,J L 0,J L 0,J L 0,O X 0 0,O X 0 0] 43)=W at *;refine afb _ W w.heap.size k tc ts ic Dt po pn pc p _ _ _ _ _ _ _ _ _ _ _ X1.out HP.out hl ?_;intro x v3 v4 v5 v6 v7 v8 v9 v10 q1 q2 q3 hbx ho hbl hbt;have Y1:=Z hbx;have Y2:=Z (hbt.box X2.out (by omega));have OO:=Z (dx ho GB.out.size);have G2:=Z (GB.out.trans (hbl w.heap.size (Nat.le_refl _)));clear hbx ho hbl hbt GB X1 X2 HP;obtain⟨x0,x1,x2,x3,x4,x5,x6⟩:=Y1.out.mP;obtain⟨r0,r1,r2,r3,r4,r5,r6⟩:=Y2.out.mP;obtain⟨t0,t1,t2,t3,t4,t5,t6⟩:=Y2.out.Zn;have zz:=Y2.out.lt;have FB:=Z (vV Y2.out (J L k) (J L tc) (J L ts) (J L ic) (J L Dt) (O X 0 0) (O q1 q2 q3));have BL:=Z (xC (b:=w.heap.size+1) G2.out (by omega) (J L k) (J L tc) (J L ts) (J L ic) (J L Dt) (O X 0 0) (O q1 q2 q3));have OX:=Z ((Hl x (w.heap.size+1) (J L k) (J L tc) (J L ts) (J L ic) (J L Dt) (O X 0 0) (O q1 q2 q3)).own OO.out Y2.out (by decide));clear Y1 Y2 OO G2;go_wp2_with fail;obtain⟨v0,v1,v2,v3,v4,v5,v6⟩:=FB.out.mP;refine bodyPost_ret (v:=aD #[J L k,J L tc,J L ts,J L ic,J L Dt,O X 0 0,O q1 q2 q3]) (by simp [results,Tryz.results34,go_sem,v0,v1,v2,v3,v4,v5,v6]) rfl ?_;exact⟨⟨(q1,q2,q3),rfl,OX.out⟩,BL.out⟩
end Ca
namespace Sb
open Go.RowKit Go.Sort Rw YtkcfgbddlpomgaaGreat.Nm Pr Bk Av
end Sb
namespace Ca
open Go.RowKit Go.Sort Rw YtkcfgbddlpomgaaGreat.Nm Pr Bk Av Rl Sb Fl
def ac6 (_B:Nat) (_bX:Nat) (tr sq:Int) (h1:Option Addr) (h2 h3:Nat) (g1:Option Addr) (g2 g3:Nat) (has vals:List Int) (i:Nat) (v:Value) (x:World):Prop :=
 match i with
 | 0=>v=J L tr
 | 1=>v=J L (V tr 0 2)
 | 2=>v=aD #[J L (V tr 0 2),J L 0]
 | 3=>v=J L sq
 | 4=>v=J L (V sq 0 99)
 | 5=>v=aD #[J L 7,J L (V sq 0 99)]
 | 6=>v=aD #[O h1 h2 h3,O g1 g2 g3]
 | 7=>∃ sl:Sl,v=dK sl/\xJ x _B (dK sl) (At.qP has vals 7)
 | 8=>∃ sl:Sl,v=aD #[J L 5,J L (V tr 0 2),J L 0,J L 7,J L (V sq 0 99),O X 0 0,dK sl]/\xJ x _B (dK sl) (At.qP has vals 7)
 | 9=>True
 | 10=>True
 | _=>True
noncomputable def YT:Code:=((Tryz.f3.body.bind (eu 3)).getD .skip)
theorem afd (Q:Exit->Act->World->Prop) (W:World) (bX:Nat) (tr sq:Int) (h1:Option Addr) (h2 h3:Nat) (g1:Option Addr) (g2 g3:Nat) (has vals:List Int) (u0 u1 u3 u5 u6 u7 u9 u10 u11 u12 u13 u14 u15 u16 u17 u18 u19 u20 u21 u22 u23 u24 u25 u26 u27 u28 u29 u30 u31 u32 u33 u34 u35 u36 u37 u38 u39 u40 u41 u42 u43 u44 u45 u46 u47 u48 u49 u50 u51 u52 u53 u54 u55 u56:Value)
  (xx:dG W bX #[O h1 h2 h3,O g1 g2 g3] 27) (ih:In.iU W (O h1 h2 h3) has) (iv:In.iU W (O g1 g2 g3) vals) (lh:has.length<=maxLen) (lv:vals.length<=maxLen) (dt:-9223372036854775808<=tr/\tr<=9223372036854775807) (ds:-9223372036854775808<=sq/\sq<=9223372036854775807)
  (hQ:∀ (x:World) (bb:Nat) (v23 v24 v25 v26 v27 v28 v29 v30 v31:Value) (m1:Option Addr) (m2 m3:Nat),W.heap.size<=bb->dG x bb #[J L 5,J L (V tr 0 2),J L 0,J L 7,J L (V sq 0 99),O X 0 0,O m1 m2 m3] 43->xJ x W.heap.size (O m1 m2 m3) (At.qP has vals 7)->Below W.heap.size W x->Q .normal ⟨(u0::u1::J L tr::u3::J L sq::u5::u6::u7::U (aA ⟨bX,0,X⟩)::u9::u10::u11::u12::U (aA ⟨bb,0,X⟩)::u14::u15::u16::u17::u18::u19::u20::u21::u22::v23::v24::v25::v26::v27::v28::v29::v30::v31::u32::u33::u34::u35::u36::u37::u38::u39::u40::u41::u42::u43::u44::u45::u46::u47::u48::u49::u50::u51::u52::u53::u54::u55::u56::[]).toArray,[]⟩ x) :
  Code.wp Tryz.prog YT Q ⟨(u0::u1::J L tr::u3::J L sq::u5::u6::u7::U (aA ⟨bX,0,X⟩)::u9::u10::u11::u12::u13::u14::u15::u16::u17::u18::u19::u20::u21::u22::u23::u24::u25::u26::u27::u28::u29::u30::u31::u32::u33::u34::u35::u36::u37::u38::u39::u40::u41::u42::u43::u44::u45::u46::u47::u48::u49::u50::u51::u52::u53::u54::u55::u56::[]).toArray,[]⟩ W:=by
 have HQ:=Z hQ;have HX:=Z xx;have IH:=Z ih;have IV:=Z iv;have LH:=Z lh;have LV:=Z lv;have DT:=Z dt;have DS:=Z ds;clear hQ xx ih iv lh lv dt ds;unfold YT
 conv=>arg 2; whnf
 have nb2:∀ i,i<11->[23,24,25,26,27,28,29,30,31,13,13].getD i 0≠2:=by decide
 have nb4:∀ i,i<11->[23,24,25,26,27,28,29,30,31,13,13].getD i 0≠4:=by decide
 have nb8:∀ i,i<11->[23,24,25,26,27,28,29,30,31,13,13].getD i 0≠8:=by decide
 refine Rg.sG 11 9 10 8 (fun i=>[23,24,25,26,27,28,29,30,31,13,13].getD i 0) (fun i=>11) (ac6 W.heap.size bX tr sq h1 h2 h3 g1 g2 g3 has vals) 43 #[J L 0,J L 0,J L 0,J L 0,J L 0,O X 0 0,O X 0 0] (fun v=>match v with | aD c=>c | _=>#[]) (by kernel_rfl) (by kernel_rfl) rfl (by decide) (by decide) (by decide) (by decide) (by decide) (by decide) (by decide) (fun i j hi hj h1 h2 h=>(by decide:∀ i,i<11->∀ j,j<11->i≠10->j≠10->[23,24,25,26,27,28,29,30,31,13,13].getD i 0=[23,24,25,26,27,28,29,30,31,13,13].getD j 0->i=j) i hi j hj h1 h2 h) (fun i hi=>(by decide:∀ i,i<11->[23,24,25,26,27,28,29,30,31,13,13].getD i 0<57) i hi) ?_ ?_ ?_ ?_ ?_ ?_
 ·intro i v x x' hi h hb;rcases (by omega:i=0\/i=1\/i=2\/i=3\/i=4\/i=5\/i=6\/i=7\/i=8\/i=9\/i=10) with rfl|rfl|rfl|rfl|rfl|rfl|rfl|rfl|rfl|rfl|rfl
  ·exact h
  ·exact h
  ·exact h
  ·exact h
  ·exact h
  ·exact h
  ·exact h
  ·obtain⟨s,h1,h2⟩:=h; exact⟨s,h1,Bk.dh h2 hb⟩
  ·obtain⟨s,h1,h2⟩:=h; exact⟨s,h1,Bk.dh h2 hb⟩
  ·exact h
  ·exact h
 ·intro o ho;cases ho;exact⟨⟨⟨9,.data⟩,by simp,rfl,rfl⟩,⟨⟨8,.data⟩,by simp,rfl,rfl⟩⟩
 ·intro i o hi Vt Ng ho a x hb seen K hK;clear HQ;rcases (by omega:i=0\/i=1\/i=2\/i=3\/i=4\/i=5\/i=6\/i=7\/i=8) with rfl|rfl|rfl|rfl|rfl|rfl|rfl|rfl|rfl
  ·cases ho;have e2:a.eval (ak 2)=J L tr:=seen.kp 2 _ nb2 rfl;exact Rg.cZ rfl rfl (Rg.fJ a.eval _ (ak 2) rfl x) (hK _ x e2 (aj _ _))
  ·cases ho;have e23:a.eval (ak 23)=J L tr:=seen.at_ ⟨0,.data⟩ (by simp) rfl (by decide) (by decide) (aB (by decide));exact Rg.gq rfl rfl (Rg.rF a.eval _ (ak 23) (.const (J L 0)) (.const (J L 2)) 3 9 rfl e23 rfl rfl rfl _ (fK Tryz.func9 rfl rfl _ _)) (Wi.gI tr 0 2 x (by omega) (by omega) (by omega) DT.out.1 DT.out.2) fun e w1 h=>by
    obtain⟨rfl,rfl⟩:=h;exact⟨_,rfl,hK _ _ rfl (aj _ _)⟩
  ·cases ho;have e24:a.eval (ak 24)=J L (V tr 0 2):=seen.at_ ⟨1,.data⟩ (by simp) rfl (by decide) (by decide) (aB (by decide));exact Rg.cZ rfl rfl (Rg.iM a.eval _ 38 #[(0,ak 24)] rfl (ps:=#[(0,J L (V tr 0 2))]) (by simp only [aC,aF,aG,e24]) (by simp [go_sem])) (hK _ x rfl (aj _ _))
  ·cases ho;have e4:a.eval (ak 4)=J L sq:=seen.kp 4 _ nb4 rfl;exact Rg.cZ rfl rfl (Rg.fJ a.eval _ (ak 4) rfl x) (hK _ x e4 (aj _ _))
  ·cases ho;have e26:a.eval (ak 26)=J L sq:=seen.at_ ⟨3,.data⟩ (by simp) rfl (by decide) (by decide) (aB (by decide));exact Rg.gq rfl rfl (Rg.rF a.eval _ (ak 26) (.const (J L 0)) (.const (J L 99)) 3 9 rfl e26 rfl rfl rfl _ (fK Tryz.func9 rfl rfl _ _)) (Wi.gI sq 0 99 x (by omega) (by omega) (by omega) DS.out.1 DS.out.2) fun e w1 h=>by
    obtain⟨rfl,rfl⟩:=h;exact⟨_,rfl,hK _ _ rfl (aj _ _)⟩
  ·cases ho;have e27:a.eval (ak 27)=J L (V sq 0 99):=seen.at_ ⟨4,.data⟩ (by simp) rfl (by decide) (by decide) (aB (by decide));exact Rg.cZ rfl rfl (Rg.iM a.eval _ 38 #[(0,.const (J L 7)),(1,ak 27)] rfl (ps:=#[(0,J L 7),(1,J L (V sq 0 99))]) (by simp only [aC,aF,aG,e27]; rfl) (by simp [go_sem])) (hK _ x rfl (aj _ _))
  ·cases ho;have e8:a.eval (ak 8)=U (aA ⟨bX,0,X⟩):=seen.kp 8 _ nb8 rfl;obtain⟨y0,y1⟩:=(HX.out.on hb).cs2;exact Rg.cZ rfl rfl (Rg.dR a.eval _ 27 (ak 8) rfl (by rw [e8]; simp [go_sem,y0,y1])) (hK _ x rfl (aj _ _))
  ·cases ho;have e29:a.eval (ak 29)=aD #[O h1 h2 h3,O g1 g2 g3]:=seen.at_ ⟨6,.data⟩ (by simp) rfl (by decide) (by decide) (aB (by decide));exact Rg.gq rfl rfl (Rw.gY a.eval _ (ak 29) 27 10 rfl e29 rfl _ (fK Tryz.func10 rfl rfl _ _)) (At.Nn (O h1 h2 h3) (O g1 g2 g3) has vals x (IH.out.on hb) (IV.out.on hb) LH.out LV.out) fun e w1 h=>by
    obtain⟨v,rfl,q1,q2⟩:=h;have q1:=ZK q1;obtain⟨a1,a2,hvv⟩:=(Row.dn q1).len;exact⟨_,rfl,hK _ _ ⟨(a1,_,a2),hvv,by rw [hvv] at q1; exact dx q1 hb.size⟩ q2⟩
  ·cases ho;have e25:a.eval (ak 25)=aD #[J L (V tr 0 2),J L 0]:=seen.at_ ⟨2,.data⟩ (by simp) rfl (by decide) (by decide) (aB (by decide));have e28:a.eval (ak 28)=aD #[J L 7,J L (V sq 0 99)]:=seen.at_ ⟨5,.data⟩ (by simp) rfl (by decide) (by decide) (aB (by decide));have E30:=seen.at_ ⟨7,.data⟩ (by simp) rfl (by decide) (by decide) (aB (by decide));obtain⟨s,q0,q1⟩:=E30;have q0:a.eval (ak 30)=dK s:=q0;exact Rg.cZ rfl rfl (Rg.iM a.eval _ 43 #[(0,.const (J L 5)),(1,ak 25),(2,ak 28),(4,ak 30)] rfl (ps:=#[(0,J L 5),(1,aD #[J L (V tr 0 2),J L 0]),(2,aD #[J L 7,J L (V sq 0 99)]),(4,dK s)]) (by simp only [aC,aF,aG,e25,e28,q0]; rfl) (by simp [go_sem])) (hK _ x ⟨s,rfl,q1⟩ (aj _ _))
 ·intro o ho a x K hK;cases ho;exact Rg.cZ rfl rfl (Rg.uG a.eval _ 43 rfl (by simp [go_sem])) hK
 ·intro o ho a x bb v D hc hD hb hA hC JU hbb jQ K hK;clear HQ;cases ho;obtain⟨⟨m1,m2,m3⟩,hv1,hv2⟩:=JU;subst hv1;have JV:=Go.Proofs.YtkcfgbddlpomgaaGreat.Fl.Hl x bb (J L 5) (J L (V tr 0 2)) (J L 0) (J L 7) (J L (V sq 0 99)) (O X 0 0) (O m1 m2 m3);refine Rg.fI 43 (ak 13) (ak 31) rfl rfl rfl rfl hA hC (w':=FN x bb (J L 5) (J L (V tr 0 2)) (J L 0) (J L 7) (J L (V sq 0 99)) (O X 0 0) (O m1 m2 m3)) (Wp jQ _ _ _ _ _ _ _ _ _ _ _) (hK _ (xC hb hbb _ _ _ _ _ _ _) (vV jQ _ _ _ _ _ _ _) ?_);exact fun j u hj hjA hjS hdj hnl hls h=>by
   rcases (by omega:j=0\/j=1\/j=2\/j=3\/j=4\/j=5\/j=6\/j=7\/j=8) with rfl|rfl|rfl|rfl|rfl|rfl|rfl|rfl|rfl
   ·have h2:u=J L tr:=h; exact h2
   ·have h2:u=J L (V tr 0 2):=h; exact h2
   ·have h2:u=aD #[J L (V tr 0 2),J L 0]:=h; exact h2
   ·have h2:u=J L sq:=h; exact h2
   ·have h2:u=J L (V sq 0 99):=h; exact h2
   ·have h2:u=aD #[J L 7,J L (V sq 0 99)]:=h; exact h2
   ·have h2:u=aD #[O h1 h2 h3,O g1 g2 g3]:=h; exact h2
   ·obtain⟨s,h1,h2⟩:=h; exact⟨s,h1,JV.own h2 jQ (by decide)⟩
   ·obtain⟨s,h1,h2⟩:=h; exact⟨s,h1,JV.own h2 jQ (by decide)⟩
 ·intro a x bb v df sz kp gA gC hbb jQ JU hbel ⟨vs,hv⟩;obtain⟨⟨m1,m2,m3⟩,hv1,hv2⟩:=JU;subst hv1;have g13:a.tmps[13]?=aA (U (aA ⟨bb,0,X⟩)):=gA;have qF:∀ j,(j<13\/32<=j)->a.tmps[j]?=(u0::u1::J L tr::u3::J L sq::u5::u6::u7::U (aA ⟨bX,0,X⟩)::u9::u10::u11::u12::u13::u14::u15::u16::u17::u18::u19::u20::u21::u22::u23::u24::u25::u26::u27::u28::u29::u30::u31::u32::u33::u34::u35::u36::u37::u38::u39::u40::u41::u42::u43::u44::u45::u46::u47::u48::u49::u50::u51::u52::u53::u54::u55::u56::[])[j]?:=fun j hj=>(kp j (fun i hi h=>by have:=(by decide:∀ i,i<11->13<=[23,24,25,26,27,28,29,30,31,13,13].getD i 0/\[23,24,25,26,27,28,29,30,31,13,13].getD i 0<32) i hi; omega)).trans ah;obtain⟨mid,hmid,rfl⟩:=Rg.fQ 13 19 df sz (by simp) qF
  match mid,hmid with
  | [v13,v14,v15,v16,v17,v18,v19,v20,v21,v22,v23,v24,v25,v26,v27,v28,v29,v30,v31],_ =>
   obtain rfl:v13=U (aA ⟨bb,0,X⟩):=Y g13;obtain rfl:v14=u14:=Y (kp 14 (fun i hi h=>(by decide:∀ i,i<11->[23,24,25,26,27,28,29,30,31,13,13].getD i 0≠14) i hi h));obtain rfl:v15=u15:=Y (kp 15 (fun i hi h=>(by decide:∀ i,i<11->[23,24,25,26,27,28,29,30,31,13,13].getD i 0≠15) i hi h));obtain rfl:v16=u16:=Y (kp 16 (fun i hi h=>(by decide:∀ i,i<11->[23,24,25,26,27,28,29,30,31,13,13].getD i 0≠16) i hi h));obtain rfl:v17=u17:=Y (kp 17 (fun i hi h=>(by decide:∀ i,i<11->[23,24,25,26,27,28,29,30,31,13,13].getD i 0≠17) i hi h));obtain rfl:v18=u18:=Y (kp 18 (fun i hi h=>(by decide:∀ i,i<11->[23,24,25,26,27,28,29,30,31,13,13].getD i 0≠18) i hi h));obtain rfl:v19=u19:=Y (kp 19 (fun i hi h=>(by decide:∀ i,i<11->[23,24,25,26,27,28,29,30,31,13,13].getD i 0≠19) i hi h));obtain rfl:v20=u20:=Y (kp 20 (fun i hi h=>(by decide:∀ i,i<11->[23,24,25,26,27,28,29,30,31,13,13].getD i 0≠20) i hi h));obtain rfl:v21=u21:=Y (kp 21 (fun i hi h=>(by decide:∀ i,i<11->[23,24,25,26,27,28,29,30,31,13,13].getD i 0≠21) i hi h));obtain rfl:v22=u22:=Y (kp 22 (fun i hi h=>(by decide:∀ i,i<11->[23,24,25,26,27,28,29,30,31,13,13].getD i 0≠22) i hi h));exact HQ.out x bb _ _ _ _ _ _ _ _ _ m1 m2 m3 hbb jQ hv2 hbel
end Ca
end Go.Proofs.YtkcfgbddlpomgaaGreat
