/-
  The region of Learn . Conditions as told.
-/
import Derived.Test.YtkcfgbddlpomgaaGreatOQ023
set_option maxRecDepth 100000
set_option maxHeartbeats 64000000
open _root_.Go renaming World->au,Value->aA,bodyPost_ret->aB,Addr->aC
open Go.IntKind renaming i64->Y
open Go.Lib renaming hid->L
open Go.Obj renaming cells->ay
open Go.Value renaming slice->J,pointer->O,int->X,bool->aD
open _root_.List renaming getElem?_toArray->Z,getElem?_cons_zero->ah,getElem?_cons_succ->aj
open _root_.Option renaming none->U,some->ak
namespace Go.Proofs.YtkcfgbddlpomgaaGreat.Av
open Go.RowKit Go.Sort Rw YtkcfgbddlpomgaaGreat.Nm Pr Bk
def NJ (B:Nat) (b1 _b2:Nat) (_me:Int) (_z1:aA) (o2:Option aC) (n2 c2:Nat) (_z3 _z4 _z5:aA) (y1 y2:Int) (yo:Option aC) (yn yc:Nat) (y4:Int) (p:List C5) (i:Nat) (v:aA) (x:au):Prop :=
 match i with
 | 0=>v=O (ak ⟨b1,2,U⟩)
 | 1=>v=J o2 n2 c2
 | 2=>v=.agg #[X Y y1,X Y y2,J yo yn yc,X Y y4]
 | 3=>∃ s:Sl,v=nR (y1,y2,s,y4)/\jP x B (dU s) p
 | _=>True
noncomputable def aaK:Code:=((Tryz.f40.body.bind (eP 4)).getD .skip)
theorem U8 (B:Nat) (b1 b2:Nat) (me:Int) (z1:aA) (o2:Option aC) (n2 c2:Nat) (z3 z4 z5:aA) (y1 y2:Int) (yo:Option aC) (yn yc:Nat) (y4:Int) (p:List C5) (i:Nat) (v:aA) (x x':au) (h:NJ B b1 b2 me z1 o2 n2 c2 z3 z4 z5 y1 y2 yo yn yc y4 p i v x) (hb:Below x.heap.size x x'):NJ B b1 b2 me z1 o2 n2 c2 z3 z4 z5 y1 y2 yo yn yc y4 p i v x':=by
 by_cases hi:i<4
 ·rcases (by omega:i=0\/i=1\/i=2\/i=3) with rfl|rfl|rfl|rfl
  ·exact h
  ·exact h
  ·exact h
  ·obtain⟨s,h1,h2⟩:=h; exact⟨s,h1,Bk.dG h2 hb⟩
 ·unfold NJ
  split <;> first | omega | trivial
theorem aip (Q:Exit->Act->au->Prop) (W:au) (B0:Nat) (l:List kr) (b1 b2:Nat) (me:Int) (z1:aA) (o2:Option aC) (n2 c2:Nat) (z3 z4 z5:aA) (y1 y2:Int) (yo:Option aC) (yn yc:Nat) (y4:Int) (p:List C5) (u0 u1 u4 u5 u6 u7 u8 u9 u10 u11 u12 u13 u14 u15 u16 u17 u18 u19 u20 u21 u22 u23 u24 u25:aA)
  (h1:dN W b1 #[X Y me,z1,J o2 n2 c2,z3,z4,z5] 33) (h2:dN W b2 #[X Y y1,X Y y2,J yo yn yc,X Y y4] 53) (ho:lD W B0 (J o2 n2 c2) l) (hr:kW sQ l) (hl:l.length<=900) (hB:B0<=W.heap.size) (hb0:b1<B0) (hp:gu W (J yo yn yc) p) (lp:p.length<=900)
  (hQ:∀ (w1:au) (v13 v14 v15 v16 v17 v18:aA) (s1:Option aC) (s2 s3:Nat) (t1:Option aC) (t2 t3:Nat),dN w1 b1 #[X Y me,z1,J o2 n2 c2,z3,z4,z5] 33->lD w1 B0 (J t1 t2 t3) (fV l (gN sQ l (y1,y2)) (y1,y2,(s1,s2,s3),y4))->jP w1 W.heap.size (J s1 s2 s3) p->Off (dU (o2,n2,c2)).ownBlock W w1->Below B0 W w1->Q .normal ⟨(u0::u1::O (ak ⟨b1,0,U⟩)::O (ak ⟨b2,0,U⟩)::u4::u5::u6::u7::u8::u9::u10::u11::u12::v13::v14::v15::v16::v17::v18::u19::u20::u21::u22::u23::u24::u25::[]).toArray,[]⟩ (w1.setCell ⟨b1,2,U⟩ (J t1 t2 t3))) :
  Code.wp Tryz.prog aaK Q ⟨(u0::u1::O (ak ⟨b1,0,U⟩)::O (ak ⟨b2,0,U⟩)::u4::u5::u6::u7::u8::u9::u10::u11::u12::u13::u14::u15::u16::u17::u18::u19::u20::u21::u22::u23::u24::u25::[]).toArray,[]⟩ W:=by
 have HQ:=L hQ;have H1:=L h1;have H2:=L h2;have HO:=L ho;have HR:=L hr;have HL:=L hl;have HB:=L hB;have H0:=L hb0;have HP:=L hp;have LP:=L lp;clear hQ h1 h2 ho hr hl hB hb0 hp lp;have iN:=U8 W.heap.size b1 b2 me z1 o2 n2 c2 z3 z4 z5 y1 y2 yo yn yc y4 p;unfold aaK
 conv=>arg 2; whnf
 have nd:∀ j,(j<13\/17<=j)->∀ i,i<4->(fun i=>13+i) i≠j:=by
  intro j hj i hi h;simp only at h;omega
 refine Rg.fM 7 4 (fun i=>13+i) (fun _=>4) (NJ W.heap.size b1 b2 me z1 o2 n2 c2 z3 z4 z5 y1 y2 yo yn yc y4 p) (by kernel_rfl) (by kernel_rfl) rfl (by decide) (fun i j _ _ h=>by have h2:13+i=13+j:=h; omega) (fun i hi=>by show 13+i<26; omega) ?_ (fun _=>Rg.jq 14 (by kernel_rfl)) ?_ ?_
 ·intro i o hi ho a x D hnd hc hD hb seen K hK;clear HQ;rcases (by omega:i=0\/i=1\/i=2\/i=3) with rfl|rfl|rfl|rfl
  ·cases ho;have e2:a.eval (.tmp 2)=O (ak ⟨b1,0,U⟩):=seen.kp 2 _ (nd 2 (by omega)) rfl;exact Rg.dD rfl rfl (Rg.dX a.eval _ 33 (.tmp 2) 2 rfl (by rw [e2]; simp [go_sem])) (hK _ _ rfl (Below.refl _ _) fun _ _ _ _ _ _ _ h=>h)
  ·cases ho;have e13:a.eval (.tmp 13)=O (ak ⟨b1,2,U⟩):=seen.at_ ⟨0,.data⟩ (by simp) rfl (Or.inr (by decide));have y2:=(H1.out.on hb).cell 2;simp only [Z,ah,aj] at y2;exact Rg.dD rfl rfl (Rg.dZ a.eval _ 28 (.tmp 13) rfl (by rw [e13]; simp [go_sem,y2])) (hK _ _ rfl (Below.refl _ _) fun _ _ _ _ _ _ _ h=>h)
  ·cases ho;have e3:a.eval (.tmp 3)=O (ak ⟨b2,0,U⟩):=seen.kp 3 _ (nd 3 (by omega)) rfl;obtain⟨y0,y1,y2,y3⟩:=(H2.out.on hb).Ke;exact Rg.dD rfl rfl (Rg.dZ a.eval _ 53 (.tmp 3) rfl (by rw [e3]; simp [go_sem,y0,y1,y2,y3])) (hK _ _ rfl (Below.refl _ _) fun _ _ _ _ _ _ _ h=>h)
  ·cases ho;have e15:a.eval (.tmp 15)=.agg #[X Y y1,X Y y2,J yo yn yc,X Y y4]:=seen.at_ ⟨2,.data⟩ (by simp) rfl (Or.inr (by decide));exact Rg.gH rfl rfl (Rw.iG a.eval _ (.tmp 15) 53 42 rfl e15 rfl _ (fT Tryz.func42 rfl rfl _ _)) (Ac (y1,y2,(yo,yn,yc),y4) p x (HP.out.on hb) LP.out) fun e w1 h=>by
    obtain⟨⟨s,rfl,h1⟩,h3⟩:=h;exact⟨_,rfl,hK _ _ ⟨s,rfl,dJ h1 hb.size⟩ (h3.mono hb.size) fun j u hj _ _ _ hne h=>iN j u _ _ h h3⟩
 ·intro kk o h1 h2 ho;rcases (by omega:kk=5\/kk=6) with rfl|rfl
  ·cases ho;exact⟨⟨4,.phase⟩,by simp,rfl,rfl⟩
  ·cases ho;exact⟨⟨5,.data⟩,by simp,rfl,rfl⟩
 ·intro a w' df sz kp ⟨vs,hv⟩ hb;have sz':a.tmps.size=26:=sz;have g2:a.tmps[2]?=ak (O (ak ⟨b1,0,U⟩)):=(kp 2 (nd 2 (by omega))).trans rfl;have g14:a.tmps[14]?=ak (J o2 n2 c2):=by
   have h:vs 1=J o2 n2 c2:=(hv 1 (by omega)).2 (by decide);rw [<- h];exact (hv 1 (by omega)).1
  obtain⟨⟨s1,s2,s3⟩,hs,hc⟩:=(hv 3 (by omega)).2 (by decide);have g16:a.tmps[16]?=ak (nR (y1,y2,(s1,s2,s3),y4)):=((hv 3 (by omega)).1).trans (congrArg ak hs);have B1:=H1.out.on hb;show Rg.fF _ _ _ 3 4 a w';simp only [Rg.fF];refine Rg.gH rfl rfl (yh a.eval _ (.tmp 14) (.tmp 16) (.func 71) 28 53 131 70 rfl (Rg.dK g14) (Rg.dK g16) rfl rfl _ (fT Tryz.func70 rfl rfl _ _)) (U7 B0 (o2,n2,c2) l (y1,y2,(s1,s2,s3),y4) w' (Bk.dG HO.out hb) HR.out HL.out (Nat.le_trans HB.out hb.size)) fun e w1 h=>?_;obtain⟨⟨⟨t1,t2,t3⟩,rfl,hown⟩,hbel,hoth⟩:=h;refine⟨_,rfl,?_⟩;have aiq:(a.put (ak 17) (J t1 t2 t3)).tmps[17]?=ak (J t1 t2 t3):=by simp [Act.put,sz']
  show Go.wpOp _ _ _ 5 _ (a.put (ak 17) (J t1 t2 t3)) _;refine Rg.dD rfl rfl (Rg.dX _ _ 33 (.tmp 2) 2 rfl (v:=O (ak ⟨b1,2,U⟩)) (by rw [Rg.dK ((Rg.get_put _ 17 _ 2 (by decide)).trans g2)]; simp [go_sem])) ?_;have air:((a.put (ak 17) (J t1 t2 t3)).put (ak 18) (O (ak ⟨b1,2,U⟩))).tmps[18]?=ak (O (ak ⟨b1,2,U⟩)):=by simp [Act.put,sz']
  show Go.wpOp _ _ _ 6 _ ((a.put (ak 17) (J t1 t2 t3)).put (ak 18) (O (ak ⟨b1,2,U⟩))) _;have B2:dN w1 b1 _ _:=(hbel.block b1 H0.out).trans B1;have cx:=B2.cell 2;have fx:=B2.fr 2;simp only [Z,ah,aj] at cx;refine Rg.fP 28 (.tmp 18) (.tmp 17) rfl rfl rfl rfl (Rg.dK air) (Rg.dK ((Rg.get_put _ 18 _ 17 (by decide)).trans aiq)) (w':=w1.setCell ⟨b1,2,U⟩ (J t1 t2 t3)) (by simp [go_sem,cx,fx]) ?_;have of1:Off (dU (o2,n2,c2)).ownBlock w' w1:=⟨hoth,hbel.size⟩;have of2:Off (dU (o2,n2,c2)).ownBlock W w1:=⟨fun j hj hne=>(hoth j (Nat.lt_of_lt_of_le hj hb.size) hne).trans (hb.block j hj),Nat.le_trans hb.size hbel.size⟩;have sI:∀ j,(j<13\/19<=j)->((a.put (ak 17) (J t1 t2 t3)).put (ak 18) (O (ak ⟨b1,2,U⟩))).tmps[j]?=(u0::u1::O (ak ⟨b1,0,U⟩)::O (ak ⟨b2,0,U⟩)::u4::u5::u6::u7::u8::u9::u10::u11::u12::u13::u14::u15::u16::u17::u18::u19::u20::u21::u22::u23::u24::u25::[])[j]?:=fun j hj=>(Rg.get_put _ 18 _ j (by omega)).trans ((Rg.get_put _ 17 _ j (by omega)).trans ((kp j (nd j (by omega))).trans Z));obtain⟨mid,hmid,hfr⟩:=Rg.gF (a:=(a.put (ak 17) (J t1 t2 t3)).put (ak 18) (O (ak ⟨b1,2,U⟩))) 13 6 df (by simp [Rg.size_put,sz']) (by simp) sI;show Q .normal ((a.put (ak 17) (J t1 t2 t3)).put (ak 18) (O (ak ⟨b1,2,U⟩))) _;rw [hfr]
  match mid,hmid with
  | [v13,v14,v15,v16,v17,v18],_ =>
   exact HQ.out w1 _ _ _ _ _ _ s1 s2 s3 t1 t2 t3 B2 hown (of1.own hc (jL (Bk.dG HO.out hb)) (by decide)) of2 ((hb.mono HB.out).trans hbel)
abbrev ug (l:List Ad):Prop:=kW Ad.id l
abbrev I5 (l:List eT):Prop:=kW (fun x:eT=>x) l
def kI (W:au) (nv:Sl) (l:List Int):Prop:=∃ B,kS W B (dU nv) l
theorem kI.on {W W':au} {nv:Sl} {l:List Int} (h:kI W nv l) (hb:Below W.heap.size W W'):kI W' nv l:=by obtain⟨B,h⟩:=h; exact⟨B,Bk.dG h hb⟩
def Lm (W:au) (P:Prop) (r:Br×Bool) (e:Ending) (w':au):Prop:=(∃ nv av sv ev ov:Sl,e=.returned (.tuple #[mJ r.1.me nv av sv ev ov,aD r.2])/\iI w' r.1 nv av sv ev ov/\(P->kI w' nv r.1.near))/\Below W.heap.size W w'
def Yk (W:au) (b:Br) (nv av sv ev ov:Sl):Prop:=∃ (V:au) (B:Nat),Cp (vw V) B W b nv av sv ev ov
theorem Yk.on {W W':au} {b:Br} {nv av sv ev ov:Sl} (h:Yk W b nv av sv ev ov) (hb:Below W.heap.size W W'):Yk W' b nv av sv ev ov:=by
 obtain⟨V,B,h⟩:=h;exact⟨V,B,h.grow hb⟩
theorem Cp.vbr {V wr:au} {B:Nat} {b:Br} {nv av sv ev ov:Sl} (h:Cp (vw V) B wr b nv av sv ev ov):iI wr b nv av sv ev ov where
 near:=Row.dH h.near
 dQ:=by obtain⟨l,h1,h2⟩:=h.dQ; exact⟨l,Row.dH h1,h2.mono fun _ _ q=>⟨q.1,q.2.1,q.2.2.elim KU Row.dH⟩⟩
 seen:=Row.dH h.seen
 ent:=by obtain⟨l,h1,h2⟩:=h.ent; exact⟨l,Row.dH h1,h2.mono fun _ _ q=>⟨q.1,q.2.1,q.2.2.1,q.2.2.2.1,q.2.2.2.2.elim KU Row.dH⟩⟩
 own:=by obtain⟨l,h1,h2⟩:=h.own; exact⟨l,Row.dH h1,h2.mono fun _ _ q=>⟨q.1,q.2.elim KU Row.dH⟩⟩
def wW (W:au) (P R:Prop) (r:Br×Bool) (e:Ending) (w':au):Prop:=(∃ nv av sv ev ov:Sl,e=.returned (.tuple #[mJ r.1.me nv av sv ev ov,aD r.2])/\iI w' r.1 nv av sv ev ov/\(P->kI w' nv r.1.near)/\(R\/r.2=true->Yk w' r.1 nv av sv ev ov))/\Below W.heap.size W w'
theorem wW.one {W:au} {P R:Prop} {r:Br×Bool} {e:Ending} {w':au} (h:wW W P R r e w'):Lm W P r e w':=by
 obtain⟨⟨a1,a2,a3,a4,a5,h1,h2,h3,_⟩,h5⟩:=h;exact⟨⟨a1,a2,a3,a4,a5,h1,h2,h3⟩,h5⟩
theorem yJ {b:Br} {a:Ad} (h:a.id∈b.seen):fJ b a=(b,false):=by unfold fJ; rw [if_pos h]
theorem vU {b:Br} {a:Ad} (h:¬ a.id∈b.seen):fJ b a=({ b with seen:=fV b.seen (fO b.seen a.id) a.id,dQ:=fV b.dQ (fO (b.dQ.map Ad.id) a.id) a },true):=by unfold fJ; rw [if_neg h]
theorem Qx (b:Br) (a:Ad) (nv av sv ev ov:Sl) (x:kr) (w:au) (h:iI w b nv av sv ev ov) (ha:vM w x a) (hf:Kw b) (hp:wL b) (hla:a.p.length<=900) (hr1:I5 b.seen) (hr2:ug b.dQ) :
  Calls Tryz.prog 40 #[mJ b.me nv av sv ev ov,nR x] w (wW w (kI w nv b.near) (Yk w b nv av sv ev ov) (fJ b a)):=by
 obtain⟨no,nn,nc⟩:=nv;obtain⟨ao,an,ac⟩:=av;obtain⟨so,sn,sc⟩:=sv;obtain⟨eo,en,ec⟩:=ev;obtain⟨oo,eB,oc⟩:=ov;obtain⟨y1,y2,⟨yo,yn,yc⟩,y4⟩:=x;obtain⟨h0,h1,h2⟩:=iE w #[X Y b.me,J no nn nc,J ao an ac,J so sn sc,J eo en ec,J oo eB oc] #[X Y y1,X Y y2,J yo yn yc,X Y y4] 33 53;have h3:=fI ((w.alloc (ay #[X Y b.me,J no nn nc,J ao an ac,J so sn sc,J eo en ec,J oo eB oc] 33)).alloc (ay #[X Y y1,X Y y2,J yo yn yc,X Y y4] 53)) (ay #[X Y 0,J U 0 0,J U 0 0,J U 0 0,J U 0 0,J U 0 0] 33);have h4:=dO ((w.alloc (ay #[X Y b.me,J no nn nc,J ao an ac,J so sn sc,J eo en ec,J oo eB oc] 33)).alloc (ay #[X Y y1,X Y y2,J yo yn yc,X Y y4] 53)) #[X Y 0,J U 0 0,J U 0 0,J U 0 0,J U 0 0,J U 0 0] 33;have hsz:((w.alloc (ay #[X Y b.me,J no nn nc,J ao an ac,J so sn sc,J eo en ec,J oo eB oc] 33)).alloc (ay #[X Y y1,X Y y2,J yo yn yc,X Y y4] 53)).heap.size=w.heap.size+1+1:=by simp
 rw [hsz] at h4;have BB:=L (h0.trans (h3.mono h0.size));have X1:=L (h1.on h3);have X2:=L (h2.on h3);have X3:=L h4;have HH:=L h;have HA:=L ha;have HF:=L hf;have HP:=L hp;have LA:=L hla;have R1:=L hr1;have R2:=L hr2;have ei:a.id=(y1,y2):=ha.1.symm;have SW:=L (PU b.me (J no nn nc) (J ao an ac) (J eo en ec) (J oo eB oc) (so,sn,sc) b.seen (y1,y2) _ (h.seen.on BB.out));obtain⟨r,hr⟩:∃ r,decide ((y1,y2)∈b.seen)=r:=⟨_,rfl⟩;rw [hr] at SW;have HR:=L hr;have EI:=L ei;obtain⟨x0,x1,x2,x3,x4,x5⟩:=X1.out.fB;obtain⟨d0,d1,d2,d3⟩:=X2.out.Ke;obtain⟨z0,z1,z2,z3,z4,z5⟩:=X3.out.fB;obtain⟨t0,t1,t2,t3,t4,t5⟩:=X3.out.kJ;have zz:=X3.out.lt;clear h0 h1 h2 h3 h4 hsz h ha hf hp hla hr1 hr2 hr ei;go_enter Tryz.func40,Tryz.ntmps40;go_wp2_with fail;generalize ((w.alloc (ay #[X Y b.me,J no nn nc,J ao an ac,J so sn sc,J eo en ec,J oo eB oc] 33)).alloc (ay #[X Y y1,X Y y2,J yo yn yc,X Y y4] 53)).alloc (ay #[X Y 0,J U 0 0,J U 0 0,J U 0 0,J U 0 0,J U 0 0] 33)=W at *;refine SW.out.mono ?_;rintro e1 w1 ⟨rfl,hb⟩;have B1:=L (BB.out.trans (hb.mono BB.out.size));have Y1:=X1.out.on hb;have Y2:=X2.out.on hb;have Y3:=X3.out.on hb;clear SW hb x0 x1 x2 x3 x4 x5 d0 d1 d2 d3 z0 z1 z2 z3 z4 z5 t0 t1 t2 t3 t4 t5 zz X1 X2 X3;obtain⟨x0,x1,x2,x3,x4,x5⟩:=Y1.fB;obtain⟨z0,z1,z2,z3,z4,z5⟩:=Y3.fB;obtain⟨t0,t1,t2,t3,t4,t5⟩:=Y3.kJ;have zz:=Y3.lt;cases r
 ·have nin:¬ a.id∈b.seen:=by rw [EI.out]; exact of_decide_eq_false HR.out
  have LQ:=L (vU nin);have Z1:=L Y1;have Z2:=L Y2;have Z3:=L Y3;have L1:=L Y1.lt;have L3:=L (show w.heap.size+1<w1.heap.size from Y2.lt);clear z0 z1 z2 z3 z4 z5 t0 t1 t2 t3 t4 t5 zz nin;go_wp2_with fail;refine (uK b (no,nn,nc) (ao,an,ac) (so,sn,sc) (eo,en,ec) (oo,eB,oc) w w1 B1.out HH.out HF.out HP.out).mono ?_;rintro e2 w2 ⟨⟨⟨p1,q1,s1⟩,⟨p2,q2,s2⟩,⟨p3,q3,s3⟩,⟨p4,q4,s4⟩,⟨p5,q5,s5⟩,rfl,cp⟩,hb2⟩;have V1:=Z1.out.on hb2;have V2:=L (Z2.out.on hb2);have V3:=L (Z3.out.on hb2);clear x0 x1 x2 x3 x4 x5;obtain⟨x0,x1,x2,x3,x4,x5⟩:=V1.fB;obtain⟨t0,t1,t2,t3,t4,t5⟩:=V1.kJ;have zz:=V1.lt;have FB:=L (dM V1 (X Y b.me) (J p1 q1 s1) (J p2 q2 s2) (J p3 q3 s3) (J p4 q4 s4) (J p5 q5 s5));have FC:=L (cp.but (fZ w2 w.heap.size (X Y b.me) (J p1 q1 s1) (J p2 q2 s2) (J p3 q3 s3) (J p4 q4 s4) (J p5 q5 s5)) V1);have FL:=L (dI (b:=w.heap.size) (B1.out.trans (hb2.mono B1.out.size)) (Nat.le_refl _) (X Y b.me) (J p1 q1 s1) (J p2 q2 s2) (J p3 q3 s3) (J p4 q4 s4) (J p5 q5 s5));have F2:=L ((fZ w2 w.heap.size (X Y b.me) (J p1 q1 s1) (J p2 q2 s2) (J p3 q3 s3) (J p4 q4 s4) (J p5 q5 s5)).box V2.out (by omega));have F3:=L ((fZ w2 w.heap.size (X Y b.me) (J p1 q1 s1) (J p2 q2 s2) (J p3 q3 s3) (J p4 q4 s4) (J p5 q5 s5)).box V3.out (by omega));have SZ:=L (show w1.heap.size<=(gY w2 w.heap.size (X Y b.me) (J p1 q1 s1) (J p2 q2 s2) (J p3 q3 s3) (J p4 q4 s4) (J p5 q5 s5)).heap.size by have:=hb2.size; simp; omega);have L2:=L (show w.heap.size<w1.heap.size from L1.out);clear V1 V2 V3 cp hb2 Z1 Z2 Z3 L1;go_upto_region 4 with fail;clear x0 x1 x2 x3 x4 x5 t0 t1 t2 t3 t4 t5 zz;unfold gY at FB FC FL F2 F3 SZ;generalize ((((((w2).setCell ⟨w.heap.size,0,U⟩ (X Y b.me)).setCell ⟨w.heap.size,1,U⟩ (J p1 q1 s1)).setCell ⟨w.heap.size,2,U⟩ (J p2 q2 s2)).setCell ⟨w.heap.size,3,U⟩ (J p3 q3 s3)).setCell ⟨w.heap.size,4,U⟩ (J p4 q4 s4)).setCell ⟨w.heap.size,5,U⟩ (J p5 q5 s5)=w3 at *;obtain⟨la,afy,adD⟩:=FC.out.dQ;have vV:=L afy;have HL2:=L adD;have KE:=L (keys_eq adD);clear afy adD;refine aip _ w3 w1.heap.size la w.heap.size (w.heap.size+1) b.me (J p1 q1 s1) p2 q2 s2 (J p3 q3 s3) (J p4 q4 s4) (J p5 q5 s5) y1 y2 yo yn yc y4 a.p _ _ _ _ _ _ _ _ _ _ _ _ _ _ _ _ _ _ _ _ _ _ _ _ FB.out F2.out vV.out ?_ ?_ SZ.out L2.out (HA.out.2.2.on FL.out) LA.out ?_
  ·rw [Ed,KE.out,<- Ed]; exact R2.out
  ·rw [HL2.out.len]; exact HF.out.dQ
  intro w4 v13 v14 v15 v16 v17 v18 s1' s2' s3' t1 t2 t3 hbx hown hc hoff hbel;have CP2:=L (FC.out.ail (zx:=(t1,t2,t3)) (al:=fV b.dQ (fO (b.dQ.map Ad.id) a.id) a) hoff ⟨_,hown,by
   have hg:=jL vV.out;have h2:=HL2.out.mono fun _ _ q=>q.off hoff hg (by decide);have hk:gN sQ la (y1,y2)=fO (b.dQ.map Ad.id) a.id:=by rw [jm,KE.out,EI.out]
   rw [<- hk];exact Az h2 _ ⟨HA.out.1,HA.out.2.1,Or.inr (dJ hc SZ.out)⟩⟩)
  have G2:=L (show dN w4 (w.heap.size+1) _ _ from (hbel.block _ L3.out).trans F2.out);have G3:=L (show dN w4 (w.heap.size+1+1) _ _ from hoff.box F3.out (jL vV.out) (by decide));have G1:=L (show dN (w4.setCell ⟨w.heap.size,2,U⟩ (J t1 t2 t3)) w.heap.size #[X Y b.me,J p1 q1 s1,J t1 t2 t3,J p3 q3 s3,J p4 q4 s4,J p5 q5 s5] 33 by simpa using dR (k:=2) hbx (J t1 t2 t3));have CP3:=L (CP2.out.but (dY w4 w.heap.size 2 (J t1 t2 t3)) hbx);have G2':=L ((dY w4 w.heap.size 2 (J t1 t2 t3)).box G2.out (by omega));have G3':=L ((dY w4 w.heap.size 2 (J t1 t2 t3)).box G3.out (by omega));have GL:=L (show Below w.heap.size w (w4.setCell ⟨w.heap.size,2,U⟩ (J t1 t2 t3)) from (FL.out.trans (hbel.mono (Nat.le_of_lt L2.out))).setCell (p:=⟨w.heap.size,2,U⟩) (Nat.le_refl _) _);have GZ:=L (show w1.heap.size<=(w4.setCell ⟨w.heap.size,2,U⟩ (J t1 t2 t3)).heap.size by have:=SZ.out; have:=hbel.size; simp; omega);clear hbx hown hc hoff hbel CP2 G2 G3 FB FC F2 F3 FL SZ vV HL2 KE;generalize w4.setCell ⟨w.heap.size,2,U⟩ (J t1 t2 t3)=w5 at *;have x3:=G1.out.cell 3;have d1:=G2'.out.cell 1;have d0:=G2'.out.cell 0;simp only [Z,ah,aj] at x3 d0 d1;go_wp2_with fail;refine (U6 w1.heap.size (p3,q3,s3) b.seen (y1,y2) w5 CP3.out.seen R1.out HF.out.seen GZ.out).mono ?_;rintro e3 w6 ⟨⟨⟨r1,r2,r3⟩,rfl,hown⟩,hbel,hoth⟩;have hoff:Off (dU (p3,q3,s3)).ownBlock w5 w6:=⟨hoth,hbel.size⟩;have CP4:=L (CP3.out.ain (He:=(r1,r2,r3)) (sl:=fV b.seen (fO b.seen a.id) a.id) hoff (by
   have hk:gN uX b.seen (uX (y1,y2))=fO b.seen a.id:=by rw [jm,EI.out]; simp
   rw [<- hk,EI.out];exact hown))
  have hg:=jL CP3.out.seen;have K1:=hoff.box G1.out hg (by decide);have K3:=hoff.box G3'.out hg (by decide);have KL:=GL.out.trans (hbel.mono (Nat.le_of_lt L2.out));have M1:=L (show dN (w6.setCell ⟨w.heap.size,3,U⟩ (J r1 r2 r3)) w.heap.size #[X Y b.me,J p1 q1 s1,J t1 t2 t3,J r1 r2 r3,J p4 q4 s4,J p5 q5 s5] 33 by simpa using dR (k:=3) K1 (J r1 r2 r3));have M3:=L ((dY w6 w.heap.size 3 (J r1 r2 r3)).box K3 (by omega));have MC:=L (CP4.out.but (dY w6 w.heap.size 3 (J r1 r2 r3)) K1);have ML:=L (show Below w.heap.size w (w6.setCell ⟨w.heap.size,3,U⟩ (J r1 r2 r3)) from KL.setCell (p:=⟨w.heap.size,3,U⟩) (Nat.le_refl _) _);clear x3 d0 d1;have x3:=K1.cell 3;have t3:=K1.fr 3;have zz:=K1.lt;simp only [Z,ah,aj] at x3;clear hown hbel hoth hoff hg K1 K3 KL CP4 CP3 G1 G2' G3' GL GZ;go_upto_region 6 with fail;clear x3 t3 zz;generalize w6.setCell ⟨w.heap.size,3,U⟩ (J r1 r2 r3)=w7 at *;have U1:=M1.out;have U3:=M3.out;obtain⟨x0,x1,x2,x3,x4,x5⟩:=U1.fB;obtain⟨z0,z1,z2,z3,z4,z5⟩:=U3.fB;obtain⟨f0,f1,f2,f3,f4,f5⟩:=U3.kJ;have zz:=U3.lt;have FB:=L (dM U3 (X Y b.me) (J p1 q1 s1) (J t1 t2 t3) (J r1 r2 r3) (J p4 q4 s4) (J p5 q5 s5));have FC:=L (MC.out.but (fZ w7 (w.heap.size+1+1) (X Y b.me) (J p1 q1 s1) (J t1 t2 t3) (J r1 r2 r3) (J p4 q4 s4) (J p5 q5 s5)) U3);have FL:=L (dI (b:=w.heap.size+1+1) ML.out (by omega) (X Y b.me) (J p1 q1 s1) (J t1 t2 t3) (J r1 r2 r3) (J p4 q4 s4) (J p5 q5 s5));clear U1 U3 M1 M3 MC ML;go_wp2_with fail;obtain⟨v0,v1,v2,v3,v4,v5⟩:=FB.out.fB;refine aB (v:=.tuple #[.agg #[X Y b.me,J p1 q1 s1,J t1 t2 t3,J r1 r2 r3,J p4 q4 s4,J p5 q5 s5],aD true]) (by simp [results,Tryz.results40,go_sem,v0,v1,v2,v3,v4,v5]) rfl ?_;rw [LQ.out];exact⟨⟨(p1,q1,s1),(t1,t2,t3),(r1,r2,r3),(p4,q4,s4),(p5,q5,s5),rfl,FC.out.vbr,fun _=>⟨_,FC.out.near⟩,fun _=>⟨_,_,FC.out⟩⟩,FL.out⟩
 ·have hin:a.id∈b.seen:=by rw [EI.out]; exact of_decide_eq_true HR.out
  have LQ:=L (yJ hin);have FB:=L (dM Y3 (X Y b.me) (J no nn nc) (J ao an ac) (J so sn sc) (J eo en ec) (J oo eB oc));have FL:=L (dI (b:=w.heap.size+1+1) B1.out (by omega) (X Y b.me) (J no nn nc) (J ao an ac) (J so sn sc) (J eo en ec) (J oo eB oc));clear hin Y1 Y2 Y3;go_wp2_with fail;obtain⟨v0,v1,v2,v3,v4,v5⟩:=FB.out.fB;refine aB (v:=.tuple #[.agg #[X Y b.me,J no nn nc,J ao an ac,J so sn sc,J eo en ec,J oo eB oc],aD false]) (by simp [results,Tryz.results40,go_sem,v0,v1,v2,v3,v4,v5]) rfl ?_;rw [LQ.out];exact⟨⟨(no,nn,nc),(ao,an,ac),(so,sn,sc),(eo,en,ec),(oo,eB,oc),rfl,HH.out.on FL.out,fun h=>h.on FL.out,fun h=>(h.resolve_right (by simp)).on FL.out⟩,FL.out⟩
theorem Qy (b:Br) (a:Ad) (nv av sv ev ov:Sl) (x:kr) (w:au) (h:iI w b nv av sv ev ov) (ha:vM w x a) (hf:Kw b) (hp:wL b) (hla:a.p.length<=900) (hr1:I5 b.seen) (hr2:ug b.dQ) :
  Calls Tryz.prog 40 #[mJ b.me nv av sv ev ov,nR x] w (Lm w (kI w nv b.near) (fJ b a)) :=
 (Qx b a nv av sv ev ov x w h ha hf hp hla hr1 hr2).mono fun _ _ h=>h.one
end Go.Proofs.YtkcfgbddlpomgaaGreat.Av
