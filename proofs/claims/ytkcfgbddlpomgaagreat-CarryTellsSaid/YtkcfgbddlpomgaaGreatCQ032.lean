/-
  The region of Learn . Conditions as told.
-/
import Derived.Test.YtkcfgbddlpomgaaGreatCQ030
set_option maxRecDepth 100000
set_option maxHeartbeats 64000000
open Go.Lib renaming hid->V
open Go.Value renaming pointer->J,slice->L,int->ah
open _root_.List renaming getElem?_toArray->U,getElem?_cons_zero->X,getElem?_cons_succ->Y
open _root_.Option renaming some->O,none->Z
namespace Go.Proofs.YtkcfgbddlpomgaaGreat.Av
open Go.RowKit Go.Sort Rw YtkcfgbddlpomgaaGreat.Nm Pr Bk
def Le (B:Nat) (b1 _b2:Nat) (_me:Int) (_z1:Value) (o2:Option Addr) (n2 c2:Nat) (_z3 _z4 _z5:Value) (y1 y2:Int) (yo:Option Addr) (yn yc:Nat) (y4:Int) (p:List C5) (i:Nat) (v:Value) (x:World):Prop :=
 match i with
 | 0=>v=J (O ⟨b1,2,Z⟩)
 | 1=>v=L o2 n2 c2
 | 2=>v=.agg #[ah .i64 y1,ah .i64 y2,L yo yn yc,ah .i64 y4]
 | 3=>∃ s:Sl,v=mD (y1,y2,s,y4)/\jL x B (dK s) p
 | _=>True
noncomputable def X6:Code:=((Tryz.f40.body.bind (eu 4)).getD .skip)
theorem Sk (B:Nat) (b1 b2:Nat) (me:Int) (z1:Value) (o2:Option Addr) (n2 c2:Nat) (z3 z4 z5:Value) (y1 y2:Int) (yo:Option Addr) (yn yc:Nat) (y4:Int) (p:List C5) (i:Nat) (v:Value) (x x':World) (h:Le B b1 b2 me z1 o2 n2 c2 z3 z4 z5 y1 y2 yo yn yc y4 p i v x) (hb:Below x.heap.size x x'):Le B b1 b2 me z1 o2 n2 c2 z3 z4 z5 y1 y2 yo yn yc y4 p i v x':=by
 by_cases hi:i<4
 ·rcases (by omega:i=0\/i=1\/i=2\/i=3) with rfl|rfl|rfl|rfl
  ·exact h
  ·exact h
  ·exact h
  ·obtain⟨s,h1,h2⟩:=h; exact⟨s,h1,Bk.dh h2 hb⟩
 ·unfold Le
  split <;> first | omega | trivial
theorem aeS (Q:Exit->Act->World->Prop) (W:World) (B0:Nat) (l:List jv) (b1 b2:Nat) (me:Int) (z1:Value) (o2:Option Addr) (n2 c2:Nat) (z3 z4 z5:Value) (y1 y2:Int) (yo:Option Addr) (yn yc:Nat) (y4:Int) (p:List C5) (u0 u1 u4 u5 u6 u7 u8 u9 u10 u11 u12 u13 u14 u15 u16 u17 u18 u19 u20 u21 u22 u23 u24 u25:Value)
  (h1:dG W b1 #[ah .i64 me,z1,L o2 n2 c2,z3,z4,z5] 33) (h2:dG W b2 #[ah .i64 y1,ah .i64 y2,L yo yn yc,ah .i64 y4] 53) (ho:kR W B0 (L o2 n2 c2) l) (hr:j5 qN l) (hl:l.length<=900) (hB:B0<=W.heap.size) (hb0:b1<B0) (hp:fG W (L yo yn yc) p) (lp:p.length<=900)
  (hQ:∀ (w1:World) (v13 v14 v15 v16 v17 v18:Value) (s1:Option Addr) (s2 s3:Nat) (t1:Option Addr) (t2 t3:Nat),dG w1 b1 #[ah .i64 me,z1,L o2 n2 c2,z3,z4,z5] 33->kR w1 B0 (L t1 t2 t3) (fP l (fZ qN l (y1,y2)) (y1,y2,(s1,s2,s3),y4))->jL w1 W.heap.size (L s1 s2 s3) p->Off (dK (o2,n2,c2)).ownBlock W w1->Below B0 W w1->Q .normal ⟨(u0::u1::J (O ⟨b1,0,Z⟩)::J (O ⟨b2,0,Z⟩)::u4::u5::u6::u7::u8::u9::u10::u11::u12::v13::v14::v15::v16::v17::v18::u19::u20::u21::u22::u23::u24::u25::[]).toArray,[]⟩ (w1.setCell ⟨b1,2,Z⟩ (L t1 t2 t3))) :
  Code.wp Tryz.prog X6 Q ⟨(u0::u1::J (O ⟨b1,0,Z⟩)::J (O ⟨b2,0,Z⟩)::u4::u5::u6::u7::u8::u9::u10::u11::u12::u13::u14::u15::u16::u17::u18::u19::u20::u21::u22::u23::u24::u25::[]).toArray,[]⟩ W:=by
 have HQ:=V hQ;have H1:=V h1;have H2:=V h2;have HO:=V ho;have HR:=V hr;have HL:=V hl;have HB:=V hB;have H0:=V hb0;have HP:=V hp;have LP:=V lp;clear hQ h1 h2 ho hr hl hB hb0 hp lp;have iJ:=Sk W.heap.size b1 b2 me z1 o2 n2 c2 z3 z4 z5 y1 y2 yo yn yc y4 p;unfold X6
 conv=>arg 2; whnf
 have nd:∀ j,(j<13\/17<=j)->∀ i,i<4->(fun i=>13+i) i≠j:=by
  intro j hj i hi h;simp only at h;omega
 refine Rg.fH 7 4 (fun i=>13+i) (fun _=>4) (Le W.heap.size b1 b2 me z1 o2 n2 c2 z3 z4 z5 y1 y2 yo yn yc y4 p) (by kernel_rfl) (by kernel_rfl) rfl (by decide) (fun i j _ _ h=>by have h2:13+i=13+j:=h; omega) (fun i hi=>by show 13+i<26; omega) ?_ (fun _=>Rg.iW 14 (by kernel_rfl)) ?_ ?_
 ·intro i o hi ho a x D hnd hc hD hb seen K hK;clear HQ;rcases (by omega:i=0\/i=1\/i=2\/i=3) with rfl|rfl|rfl|rfl
  ·cases ho;have e2:a.eval (.tmp 2)=J (O ⟨b1,0,Z⟩):=seen.kp 2 _ (nd 2 (by omega)) rfl;exact Rg.cZ rfl rfl (Rg.dJ a.eval _ 33 (.tmp 2) 2 rfl (by rw [e2]; simp [go_sem])) (hK _ _ rfl (Below.refl _ _) fun _ _ _ _ _ _ _ h=>h)
  ·cases ho;have e13:a.eval (.tmp 13)=J (O ⟨b1,2,Z⟩):=seen.at_ ⟨0,.data⟩ (by simp) rfl (Or.inr (by decide));have y2:=(H1.out.on hb).cell 2;simp only [U,X,Y] at y2;exact Rg.cZ rfl rfl (Rg.dR a.eval _ 28 (.tmp 13) rfl (by rw [e13]; simp [go_sem,y2])) (hK _ _ rfl (Below.refl _ _) fun _ _ _ _ _ _ _ h=>h)
  ·cases ho;have e3:a.eval (.tmp 3)=J (O ⟨b2,0,Z⟩):=seen.kp 3 _ (nd 3 (by omega)) rfl;obtain⟨y0,y1,y2,y3⟩:=(H2.out.on hb).IQ;exact Rg.cZ rfl rfl (Rg.dR a.eval _ 53 (.tmp 3) rfl (by rw [e3]; simp [go_sem,y0,y1,y2,y3])) (hK _ _ rfl (Below.refl _ _) fun _ _ _ _ _ _ _ h=>h)
  ·cases ho;have e15:a.eval (.tmp 15)=.agg #[ah .i64 y1,ah .i64 y2,L yo yn yc,ah .i64 y4]:=seen.at_ ⟨2,.data⟩ (by simp) rfl (Or.inr (by decide));exact Rg.gq rfl rfl (Rw.gY a.eval _ (.tmp 15) 53 42 rfl e15 rfl _ (fK Tryz.func42 rfl rfl _ _)) (yR (y1,y2,(yo,yn,yc),y4) p x (HP.out.on hb) LP.out) fun e w1 h=>by
    obtain⟨⟨s,rfl,h1⟩,h3⟩:=h;exact⟨_,rfl,hK _ _ ⟨s,rfl,dx h1 hb.size⟩ (h3.mono hb.size) fun j u hj _ _ _ hne h=>iJ j u _ _ h h3⟩
 ·intro kk o h1 h2 ho;rcases (by omega:kk=5\/kk=6) with rfl|rfl
  ·cases ho;exact⟨⟨4,.phase⟩,by simp,rfl,rfl⟩
  ·cases ho;exact⟨⟨5,.data⟩,by simp,rfl,rfl⟩
 ·intro a w' df sz kp ⟨vs,hv⟩ hb;have sz':a.tmps.size=26:=sz;have g2:a.tmps[2]?=O (J (O ⟨b1,0,Z⟩)):=(kp 2 (nd 2 (by omega))).trans rfl;have g14:a.tmps[14]?=O (L o2 n2 c2):=by
   have h:vs 1=L o2 n2 c2:=(hv 1 (by omega)).2 (by decide);rw [<- h];exact (hv 1 (by omega)).1
  obtain⟨⟨s1,s2,s3⟩,hs,hc⟩:=(hv 3 (by omega)).2 (by decide);have g16:a.tmps[16]?=O (mD (y1,y2,(s1,s2,s3),y4)):=((hv 3 (by omega)).1).trans (congrArg O hs);have B1:=H1.out.on hb;show Rg.fu _ _ _ 3 4 a w';simp only [Rg.fu];refine Rg.gq rfl rfl (Ce a.eval _ (.tmp 14) (.tmp 16) (.func 71) 28 53 131 70 rfl (Rg.dD g14) (Rg.dD g16) rfl rfl _ (fK Tryz.func70 rfl rfl _ _)) (Sj B0 (o2,n2,c2) l (y1,y2,(s1,s2,s3),y4) w' (Bk.dh HO.out hb) HR.out HL.out (Nat.le_trans HB.out hb.size)) fun e w1 h=>?_;obtain⟨⟨⟨t1,t2,t3⟩,rfl,hown⟩,hbel,hoth⟩:=h;refine⟨_,rfl,?_⟩;have aeT:(a.put (O 17) (L t1 t2 t3)).tmps[17]?=O (L t1 t2 t3):=by simp [Act.put,sz']
  show Go.wpOp _ _ _ 5 _ (a.put (O 17) (L t1 t2 t3)) _;refine Rg.cZ rfl rfl (Rg.dJ _ _ 33 (.tmp 2) 2 rfl (v:=J (O ⟨b1,2,Z⟩)) (by rw [Rg.dD ((Rg.get_put _ 17 _ 2 (by decide)).trans g2)]; simp [go_sem])) ?_;have aeU:((a.put (O 17) (L t1 t2 t3)).put (O 18) (J (O ⟨b1,2,Z⟩))).tmps[18]?=O (J (O ⟨b1,2,Z⟩)):=by simp [Act.put,sz']
  show Go.wpOp _ _ _ 6 _ ((a.put (O 17) (L t1 t2 t3)).put (O 18) (J (O ⟨b1,2,Z⟩))) _;have B2:dG w1 b1 _ _:=(hbel.block b1 H0.out).trans B1;have cx:=B2.cell 2;have fx:=B2.fr 2;simp only [U,X,Y] at cx;refine Rg.fI 28 (.tmp 18) (.tmp 17) rfl rfl rfl rfl (Rg.dD aeU) (Rg.dD ((Rg.get_put _ 18 _ 17 (by decide)).trans aeT)) (w':=w1.setCell ⟨b1,2,Z⟩ (L t1 t2 t3)) (by simp [go_sem,cx,fx]) ?_;have of1:Off (dK (o2,n2,c2)).ownBlock w' w1:=⟨hoth,hbel.size⟩;have of2:Off (dK (o2,n2,c2)).ownBlock W w1:=⟨fun j hj hne=>(hoth j (Nat.lt_of_lt_of_le hj hb.size) hne).trans (hb.block j hj),Nat.le_trans hb.size hbel.size⟩;have qF:∀ j,(j<13\/19<=j)->((a.put (O 17) (L t1 t2 t3)).put (O 18) (J (O ⟨b1,2,Z⟩))).tmps[j]?=(u0::u1::J (O ⟨b1,0,Z⟩)::J (O ⟨b2,0,Z⟩)::u4::u5::u6::u7::u8::u9::u10::u11::u12::u13::u14::u15::u16::u17::u18::u19::u20::u21::u22::u23::u24::u25::[])[j]?:=fun j hj=>(Rg.get_put _ 18 _ j (by omega)).trans ((Rg.get_put _ 17 _ j (by omega)).trans ((kp j (nd j (by omega))).trans U));obtain⟨mid,hmid,hfr⟩:=Rg.fQ (a:=(a.put (O 17) (L t1 t2 t3)).put (O 18) (J (O ⟨b1,2,Z⟩))) 13 6 df (by simp [Rg.size_put,sz']) (by simp) qF;show Q .normal ((a.put (O 17) (L t1 t2 t3)).put (O 18) (J (O ⟨b1,2,Z⟩))) _;rw [hfr]
  match mid,hmid with
  | [v13,v14,v15,v16,v17,v18],_ =>
   exact HQ.out w1 _ _ _ _ _ _ s1 s2 s3 t1 t2 t3 B2 hown (of1.own hc (kG (Bk.dh HO.out hb)) (by decide)) of2 ((hb.mono HB.out).trans hbel)
end Go.Proofs.YtkcfgbddlpomgaaGreat.Av
