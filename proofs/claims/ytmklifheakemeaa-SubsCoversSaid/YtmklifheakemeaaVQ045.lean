/-
  SubsRuns' regions th. Conditions as told.
-/
import Derived.Test.YtmklifheakemeaaVQ043
set_option maxRecDepth 100000
set_option maxHeartbeats 64000000
open _root_.Bool renaming false->X,true->aL
open _root_.Go renaming Addr->aC,Value->aI,World->aJ
open Go.IntKind renaming i64->V
open Go.Lib renaming hid->ak
open Go.Operand renaming tmp->Z
open Go.Proofs.Ytmklifheakemeaa.Rg renaming dz->aB,fH->aO,dV->aP,jw->aQ,eH->aR,ig->aS,fK->aT,gQ->aU
open Go.RowKit.Below renaming refl->L
open Go.Value renaming slice->J,pointer->O,int->U,bool->aj,agg->aH,string->aN
open _root_.List renaming map_toArray->ay,map_cons->aD,map_nil->aF,getElem?_toArray->aG,getElem?_set_ne->aK
open _root_.Option renaming none->Y,some->au
open Option.some renaming inj->ah
open _root_.Or renaming inr->aA,inl->aM
namespace Go.Proofs.Ytmklifheakemeaa.Sb
open Go.RowKit Go.Sort Rw Ytmklifheakemeaa.Nm Pr Bk Av Rl
abbrev Es:Br:=⟨0,[1,2],[⟨(1,0),[],1⟩],[(1,0)],[],[]⟩
theorem D5:mK (mR 0 [1,2]) ⟨(1,0),[],1⟩=(Es,aL):=rfl
theorem GJ:wM (mR 0 [1,2]):=⟨by simp,by simp,by simp,by simp,by simp⟩
theorem D7:lW (mR 0 [1,2]):=⟨by simp,by simp,by simp⟩
abbrev iI (lo hi:Int):List C5:=[(⟨#[97]⟩,1,lo,hi,⟨#[]⟩)]
theorem Ck (lo hi:Int) (w:aJ):Calls Try.prog 42 #[U V lo,U V hi] w fun e w'=>(∃ sl:Sl,e=.returned (dR sl)/\iy w' (dR sl) (iI lo hi))/\Below w.heap.size w w':=by
 have h:=Row.dM (nR Ib w (iI lo hi) 1 rfl (by simp) #[aN ⟨#[97]⟩,U V 1,U V lo,U V hi,aN ⟨#[]⟩] rfl);have n:=iG w (.cells #[aN ⟨#[97]⟩,U V 1,U V lo,U V hi,aN ⟨#[]⟩] 56);have H:=ak h;have N:=ak n;clear h n;go_enter Try.func42,Try.ntmps42;go_wp2;go_ret;exact⟨⟨(au ⟨w.heap.size,0,Y⟩,1,1),rfl,H.out⟩,N.out⟩
theorem wB {P:Program} (ρ:Operand->aI) (o:Oper) (g x y:Operand) (t s:TypeId) (f:FuncId) (ho:o.op=.call { callee:=.value g,args:=#[x,y],argTypes:=#[t,s] }) {v u:aI} (hx:ρ x=v) (hy:ρ y=u) (hf:ρ g=.func (.func f) #[] #[]) (w:aJ)
  (hc:(callFunc f #[v,u]).run P w=.ok (.enter f #[v,u]) w):(execOp ρ o).run P w=.ok (.enter f #[v,u]) w:=by
 simp [execOp,ho,resolve,invoke,hx,hy,hf,Deferred.ofValue,hc]
def Qt (_B:Nat) (_b1:Nat) (i:Nat) (v:aI) (x:aJ):Prop :=
 match i with
 | 0=>∃ sl:Sl,v=dR sl/\xD x v [1,2]
 | 1=>∃ nv:Sl,v=iN 0 nv (Y,0,0) (Y,0,0) (Y,0,0) (Y,0,0)/\l6 x (mR 0 [1,2]) nv (Y,0,0) (Y,0,0) (Y,0,0) (Y,0,0)
 | 2=>v=aH #[U V 1,U V 0]
 | 3=>v=aH #[U V 1,U V 0,J Y 0 0,U V 1]
 | 4=>∃ nv av sv ev ov:Sl,v=.tuple #[iN 0 nv av sv ev ov,aj aL]/\l6 x Es nv av sv ev ov
 | 5=>∃ nv av sv ev ov:Sl,v=.tuple #[iN 0 nv av sv ev ov,aj aL]/\l6 x Es nv av sv ev ov
 | 6=>∃ nv av sv ev ov:Sl,v=iN 0 nv av sv ev ov/\l6 x Es nv av sv ev ov
 | 7=>v=aj aL
 | 8=>True
 | 9=>True
 | 10=>v=aj aL
 | _=>True
noncomputable def Np:Code:=((Try.f16.body.bind (dZ 3)).getD .skip)
theorem TM (Q:Exit->Act->aJ->Prop) (W:aJ) (b1:Nat) (u0 u2 u3 u4 u5 u6 u7 u8 u9 u10 u11 u12 u13 u14 u15 u16 u17 u18 u19 u20 u21 u22 u23 u24 u25 u26 u27 u28 u29 u30 u31 u32 u33 u34 u35 u36 u37 u38 u39 u40 u41 u42 u43 u44 u45 u46 u47 u48 u49 u50 u51 u52 u53 u54 u55 u56 u57 u58 u59 u60 u61 u62 u63 u64 u65 u66 u67 u68 u69 u70 u71 u72 u73 u74 u75 u76 u77:aI)
  (h1:dH W b1 #[U V 1,U V 0] 25)
  (hQ:∀ (x:aJ) (bb:Nat) (v11 v12 v13 v14 v15 v16 v17 v18:aI) (m1:Option aC) (m2 m3:Nat) (m4:Option aC) (m5 m6:Nat) (m7:Option aC) (m8 m9:Nat) (m10:Option aC) (m11 m12:Nat) (m13:Option aC) (m14 m15:Nat),W.heap.size<=bb->dH x bb #[U V 0,J m1 m2 m3,J m4 m5 m6,J m7 m8 m9,J m10 m11 m12,J m13 m14 m15] 31->l6 x Es (m1,m2,m3) (m4,m5,m6) (m7,m8,m9) (m10,m11,m12) (m13,m14,m15)->Below W.heap.size W x->Q .normal ⟨(u0::O (au ⟨b1,0,Y⟩)::u2::O (au ⟨bb,0,Y⟩)::aj aL::u5::u6::u7::u8::u9::u10::v11::v12::v13::v14::v15::v16::v17::v18::u19::u20::u21::u22::u23::u24::u25::u26::u27::u28::u29::u30::u31::u32::u33::u34::u35::u36::u37::u38::u39::u40::u41::u42::u43::u44::u45::u46::u47::u48::u49::u50::u51::u52::u53::u54::u55::u56::u57::u58::u59::u60::u61::u62::u63::u64::u65::u66::u67::u68::u69::u70::u71::u72::u73::u74::u75::u76::u77::[]).toArray,[]⟩ x) :
  Code.wp Try.prog Np Q ⟨(u0::O (au ⟨b1,0,Y⟩)::u2::u3::u4::u5::u6::u7::u8::u9::u10::u11::u12::u13::u14::u15::u16::u17::u18::u19::u20::u21::u22::u23::u24::u25::u26::u27::u28::u29::u30::u31::u32::u33::u34::u35::u36::u37::u38::u39::u40::u41::u42::u43::u44::u45::u46::u47::u48::u49::u50::u51::u52::u53::u54::u55::u56::u57::u58::u59::u60::u61::u62::u63::u64::u65::u66::u67::u68::u69::u70::u71::u72::u73::u74::u75::u76::u77::[]).toArray,[]⟩ W:=by
 have HQ:=ak hQ;have H1:=ak h1;clear hQ h1;unfold Np
 conv=>arg 2; whnf
 have Nq:∀ i,i<11->[12,13,14,15,16,11,17,18,3,3,4].getD i 0≠1:=by decide
 refine Rg.lF 11 8 9 6 (fun i=>[12,13,14,15,16,11,17,18,3,3,4].getD i 0) (fun i=>if i=0 then 1 else if i=1 then 4 else if i=4 then 5 else 11) (Qt W.heap.size b1) 31 #[U V 0,J Y 0 0,J Y 0 0,J Y 0 0,J Y 0 0,J Y 0 0] (fun v=>match v with | aH c=>c | _=>#[]) (by kernel_rfl) (by kernel_rfl) rfl (by decide) (by decide) (by decide) (by decide) (by decide) (by decide) (by decide) (fun i j hi hj h1 h2 h=>(by decide:∀ i,i<11->∀ j,j<11->i≠9->j≠9->[12,13,14,15,16,11,17,18,3,3,4].getD i 0=[12,13,14,15,16,11,17,18,3,3,4].getD j 0->i=j) i hi j hj h1 h2 h) (fun i hi=>(by decide:∀ i,i<11->[12,13,14,15,16,11,17,18,3,3,4].getD i 0<78) i hi) ?_ ?_ ?_ ?_ ?_ ?_
 ·intro i v x x' hi h hb;rcases (by omega:i=0\/i=1\/i=2\/i=3\/i=4\/i=5\/i=6\/i=7\/i=8\/i=9\/i=10) with rfl|rfl|rfl|rfl|rfl|rfl|rfl|rfl|rfl|rfl|rfl
  ·obtain⟨s,h1,h2⟩:=h; exact⟨s,h1,h2.on hb⟩
  ·obtain⟨s,h1,h2⟩:=h; exact⟨s,h1,h2.on hb⟩
  ·exact h
  ·exact h
  ·obtain⟨a1,a2,a3,a4,a5,h1,h2⟩:=h; exact⟨a1,a2,a3,a4,a5,h1,h2.on hb⟩
  ·obtain⟨a1,a2,a3,a4,a5,h1,h2⟩:=h; exact⟨a1,a2,a3,a4,a5,h1,h2.on hb⟩
  ·obtain⟨a1,a2,a3,a4,a5,h1,h2⟩:=h; exact⟨a1,a2,a3,a4,a5,h1,h2.on hb⟩
  ·exact h
  ·exact h
  ·exact h
  ·exact h
 ·intro o ho;cases ho;exact⟨⟨⟨8,.data⟩,by simp,rfl,rfl⟩,⟨⟨6,.data⟩,by simp,rfl,rfl⟩⟩
 ·intro i o hi Ie qC ho a x hb seen K hK;clear HQ;rcases (by omega:i=0\/i=1\/i=2\/i=3\/i=4\/i=5\/i=6\/i=7\/i=10) with rfl|rfl|rfl|rfl|rfl|rfl|rfl|rfl|rfl
  ·cases ho;have hl:=nR Nm.Il x [1,2] 2 rfl (by simp) #[U V 1,U V 2] (by rfl);exact aB rfl rfl (Rg.o9 a.eval _ 23 2 #[(0,.const (U V 1)),(1,.const (U V 2))] rfl (ps:=#[(0,U V 1),(1,U V 2)]) (by simp only [ay,aD,aF]; rfl) (by simp [go_sem])) (hK (J (au ⟨x.heap.size,0,Y⟩) 2 2) (x.alloc (.cells #[U V 1,U V 2] 3)) ⟨(au ⟨x.heap.size,0,Y⟩,2,2),rfl,Row.dM hl⟩ ((L _ _).alloc (Nat.le_refl _) _))
  ·cases ho;have TN:=seen.at_ ⟨0,.data⟩ (by simp) rfl (by decide) (by decide) (aM rfl);obtain⟨sl,q0,q1⟩:=TN;have q0:a.eval (Z 12)=dR sl:=q0;have q1:xD x (dR sl) [1,2]:=by rw [<- q0]; exact q1
   exact aO rfl rfl (Rw.jh a.eval _ (.const (U V 0)) (Z 12) 3 23 6 rfl rfl q0 rfl _ (eT Try.func6 rfl rfl _ _)) (xQ 0 sl [1,2] x q1 (by decide)) fun e w1 h=>by
    obtain⟨⟨l',nv,rfl,h1,h2,h3,h4⟩,h5⟩:=h;have e1:l'=[1,2]:=qR h3 (by decide) (fun y=>(h4 y).trans (by simp));subst e1;exact⟨_,rfl,hK _ _ ⟨nv,rfl,h1,h2⟩ h5⟩
  ·cases ho;have e1:a.eval (Z 1)=O (au ⟨b1,0,Y⟩):=seen.kp 1 _ Nq rfl;obtain⟨y0,y1⟩:=(H1.out.on hb).cs2;exact aB rfl rfl (aP a.eval _ 25 (Z 1) rfl (by rw [e1]; simp [go_sem,y0,y1])) (hK _ x rfl (L _ _))
  ·cases ho;have e14:a.eval (Z 14)=aH #[U V 1,U V 0]:=seen.at_ ⟨2,.data⟩ (by simp) rfl (by decide) (by decide) (aA (by decide));exact aB rfl rfl (aQ a.eval _ 37 #[(0,Z 14),(2,.const (U V 1))] rfl (by simp only [ay,aD,aF,e14]; rfl) (by simp [go_sem])) (hK _ x rfl (L _ _))
  ·cases ho;have TP:=seen.at_ ⟨1,.data⟩ (by simp) rfl (by decide) (by decide) (aM rfl);have e15:a.eval (Z 15)=aH #[U V 1,U V 0,J Y 0 0,U V 1]:=seen.at_ ⟨3,.data⟩ (by simp) rfl (by decide) (by decide) (aA (by decide));obtain⟨nv,q0,q1⟩:=TP;have hx:uO x (1,0,(Y,0,0),1) ⟨(1,0),[],1⟩:=⟨rfl,rfl,jL _⟩;exact aO rfl rfl (Rw.jh a.eval _ (Z 13) (Z 15) 31 37 5 rfl q0 e15 rfl _ (eT Try.func5 rfl rfl _ _)) (vR (mR 0 [1,2]) ⟨(1,0),[],1⟩ nv (Y,0,0) (Y,0,0) (Y,0,0) (Y,0,0) (1,0,(Y,0,0),1) x q1.br hx GJ D7 (by simp) List.Pairwise.nil List.Pairwise.nil) fun e w1 h=>by
    rw [D5] at h;obtain⟨⟨a1,a2,a3,a4,a5,rfl,h2,h3⟩,h5⟩:=h;exact⟨_,rfl,hK _ _ ⟨a1,a2,a3,a4,a5,rfl,h2,h3 q1.no⟩ h5⟩
  ·cases ho;have TQ:=seen.at_ ⟨4,.data⟩ (by simp) rfl (by decide) (by decide) (aM rfl);exact aB rfl rfl (aR a.eval _ (Z 16) rfl x) (hK _ x TQ (L _ _))
  ·cases ho;have Qu:=seen.at_ ⟨5,.data⟩ (by simp) rfl (by decide) (by decide) (aA (by decide));obtain⟨a1,a2,a3,a4,a5,h1,h2⟩:=Qu;exact aB rfl rfl (fF a.eval _ (Z 11) 0 rfl (c:=#[iN 0 a1 a2 a3 a4 a5,aj aL]) h1 rfl x) (hK _ x ⟨a1,a2,a3,a4,a5,rfl,h2⟩ (L _ _))
  ·cases ho;have Qu:=seen.at_ ⟨5,.data⟩ (by simp) rfl (by decide) (by decide) (aA (by decide));obtain⟨a1,a2,a3,a4,a5,h1,h2⟩:=Qu;exact aB rfl rfl (fF a.eval _ (Z 11) 1 rfl (c:=#[iN 0 a1 a2 a3 a4 a5,aj aL]) h1 rfl x) (hK _ x rfl (L _ _))
  ·cases ho;have e18:a.eval (Z 18)=aj aL:=seen.at_ ⟨7,.data⟩ (by simp) rfl (by decide) (by decide) (aA (by decide));exact aB rfl rfl (aS a.eval _ (Z 18) rfl x) (hK _ x e18 (L _ _))
 ·intro o ho a x K hK;cases ho;exact aB rfl rfl (Rg.mI a.eval _ 31 rfl (by simp [go_sem])) hK
 ·intro o ho a x bb v D hc hD hb hA hC qX hbb eP K hK;clear HQ;cases ho;obtain⟨⟨m1,m2,m3⟩,⟨m4,m5,m6⟩,⟨m7,m8,m9⟩,⟨m10,m11,m12⟩,⟨m13,m14,m15⟩,hv1,hv2⟩:=qX;subst hv1;have gK:=eZ x bb (U V 0) (J m1 m2 m3) (J m4 m5 m6) (J m7 m8 m9) (J m10 m11 m12) (J m13 m14 m15);refine aT 31 (Z 3) (Z 17) rfl rfl rfl rfl hA hC (w':=iD x bb (U V 0) (J m1 m2 m3) (J m4 m5 m6) (J m7 m8 m9) (J m10 m11 m12) (J m13 m14 m15)) (kS eP _ _ _ _ _ _ _ _ _ _ _ _ _ _ _ _) (hK _ (dQ hb hbb _ _ _ _ _ _) (eD eP _ _ _ _ _ _) ?_);exact fun j u hj O7 Mf hdj hnl hls h=>by
   rcases (by omega:j=0\/j=1\/j=2\/j=3\/j=4\/j=5\/j=6\/j=7\/j=10) with rfl|rfl|rfl|rfl|rfl|rfl|rfl|rfl|rfl
   ·exact absurd (hD ⟨1,.phase⟩ (by simp) rfl) hnl
   ·exact absurd (hD ⟨4,.chain⟩ (by simp) rfl) hnl
   ·have h2:u=aH #[U V 1,U V 0]:=h; exact h2
   ·have h2:u=aH #[U V 1,U V 0,J Y 0 0,U V 1]:=h; exact h2
   ·exact absurd (hD ⟨5,.phase⟩ (by simp) rfl) hnl
   ·obtain⟨a1,a2,a3,a4,a5,h1,h2⟩:=h; exact⟨a1,a2,a3,a4,a5,h1,h2.keep (s1:=(Y,0,0)) (s2:=(Y,0,0)) (s3:=(Y,0,0)) (s4:=(Y,0,0)) (s5:=(Y,0,0)) (me:=0) eP gK⟩
   ·obtain⟨a1,a2,a3,a4,a5,h1,h2⟩:=h; exact⟨a1,a2,a3,a4,a5,h1,h2.keep (s1:=(Y,0,0)) (s2:=(Y,0,0)) (s3:=(Y,0,0)) (s4:=(Y,0,0)) (s5:=(Y,0,0)) (me:=0) eP gK⟩
   ·have h2:u=aj aL:=h; exact h2
   ·have h2:u=aj aL:=h; exact h2
 ·intro a x bb v df sz kp gA gC hbb eP qX hbel ⟨vs,hv⟩;obtain⟨⟨m1,m2,m3⟩,⟨m4,m5,m6⟩,⟨m7,m8,m9⟩,⟨m10,m11,m12⟩,⟨m13,m14,m15⟩,hv1,hv2⟩:=qX;subst hv1;have g3:a.tmps[3]?=au (O (au ⟨bb,0,Y⟩)):=gA;have g4:a.tmps[4]?=au (aj aL):=by
   have h:vs 10=aj aL:=(hv 10 (by decide) (by decide) (by decide)).2 (by decide);rw [<- h];exact (hv 10 (by decide) (by decide) (by decide)).1
  have uR:∀ j,(j<3\/19<=j)->a.tmps[j]?=(u0::O (au ⟨b1,0,Y⟩)::u2::u3::u4::u5::u6::u7::u8::u9::u10::u11::u12::u13::u14::u15::u16::u17::u18::u19::u20::u21::u22::u23::u24::u25::u26::u27::u28::u29::u30::u31::u32::u33::u34::u35::u36::u37::u38::u39::u40::u41::u42::u43::u44::u45::u46::u47::u48::u49::u50::u51::u52::u53::u54::u55::u56::u57::u58::u59::u60::u61::u62::u63::u64::u65::u66::u67::u68::u69::u70::u71::u72::u73::u74::u75::u76::u77::[])[j]?:=fun j hj=>(kp j (fun i hi h=>by have:=(by decide:∀ i,i<11->3<=[12,13,14,15,16,11,17,18,3,3,4].getD i 0/\[12,13,14,15,16,11,17,18,3,3,4].getD i 0<19) i hi; omega)).trans aG;obtain⟨mid,hmid,rfl⟩:=aU 3 16 df sz (by simp) uR
  match mid,hmid with
  | [v3,v4,v5,v6,v7,v8,v9,v10,v11,v12,v13,v14,v15,v16,v17,v18],_ =>
   obtain rfl:v3=O (au ⟨bb,0,Y⟩):=ah g3;obtain rfl:v4=aj aL:=ah g4;obtain rfl:v5=u5:=ah (kp 5 (fun i hi h=>(by decide:∀ i,i<11->[12,13,14,15,16,11,17,18,3,3,4].getD i 0≠5) i hi h));obtain rfl:v6=u6:=ah (kp 6 (fun i hi h=>(by decide:∀ i,i<11->[12,13,14,15,16,11,17,18,3,3,4].getD i 0≠6) i hi h));obtain rfl:v7=u7:=ah (kp 7 (fun i hi h=>(by decide:∀ i,i<11->[12,13,14,15,16,11,17,18,3,3,4].getD i 0≠7) i hi h));obtain rfl:v8=u8:=ah (kp 8 (fun i hi h=>(by decide:∀ i,i<11->[12,13,14,15,16,11,17,18,3,3,4].getD i 0≠8) i hi h));obtain rfl:v9=u9:=ah (kp 9 (fun i hi h=>(by decide:∀ i,i<11->[12,13,14,15,16,11,17,18,3,3,4].getD i 0≠9) i hi h));obtain rfl:v10=u10:=ah (kp 10 (fun i hi h=>(by decide:∀ i,i<11->[12,13,14,15,16,11,17,18,3,3,4].getD i 0≠10) i hi h));exact HQ.out x bb _ _ _ _ _ _ _ _ m1 m2 m3 m4 m5 m6 m7 m8 m9 m10 m11 m12 m13 m14 m15 hbb eP hv2 hbel
def Qv (_B:Nat) (_bb _b1:Nat) (b:Br) (s1:Option aC) (s2 s3:Nat) (s4:Option aC) (s5 s6:Nat) (s7:Option aC) (s8 s9:Nat) (s10:Option aC) (s11 s12:Nat) (s13:Option aC) (s14 s15:Nat) (i:Nat) (v:aI) (x:aJ):Prop :=
 match i with
 | 0=>v=iN b.me (s1,s2,s3) (s4,s5,s6) (s7,s8,s9) (s10,s11,s12) (s13,s14,s15)
 | 1=>v=aH #[U V 1,U V 0]
 | 2=>v=aH #[U V 2,U V 0]
 | 3=>v=.func (.func 42) #[] #[]
 | 4=>∃ sl:Sl,v=dR sl/\iy x v (iI 1 9)
 | 5=>∃ z:gM,v=kX z/\iC x z (⟨(1,0),(2,0),iI 1 9,2,X⟩:En)
 | 6=>∃ nv av sv ev ov:Sl,v=.tuple #[iN (dU b (⟨(1,0),(2,0),iI 1 9,2,X⟩:En)).1.me nv av sv ev ov,aj (dU b (⟨(1,0),(2,0),iI 1 9,2,X⟩:En)).2]/\l6 x (dU b (⟨(1,0),(2,0),iI 1 9,2,X⟩:En)).1 nv av sv ev ov
 | 7=>∃ nv av sv ev ov:Sl,v=.tuple #[iN (dU b (⟨(1,0),(2,0),iI 1 9,2,X⟩:En)).1.me nv av sv ev ov,aj (dU b (⟨(1,0),(2,0),iI 1 9,2,X⟩:En)).2]/\l6 x (dU b (⟨(1,0),(2,0),iI 1 9,2,X⟩:En)).1 nv av sv ev ov
 | 8=>∃ nv av sv ev ov:Sl,v=iN (dU b (⟨(1,0),(2,0),iI 1 9,2,X⟩:En)).1.me nv av sv ev ov/\l6 x (dU b (⟨(1,0),(2,0),iI 1 9,2,X⟩:En)).1 nv av sv ev ov
 | 9=>v=aj (dU b (⟨(1,0),(2,0),iI 1 9,2,X⟩:En)).2
 | 10=>True
 | 11=>v=aj (dU b (⟨(1,0),(2,0),iI 1 9,2,X⟩:En)).2
 | _=>True
noncomputable def Nr:Code:=((Try.f16.body.bind (dZ 4)).getD .skip)
theorem TR (Q:Exit->Act->aJ->Prop) (W:aJ) (bb b1:Nat) (b:Br) (s1:Option aC) (s2 s3:Nat) (s4:Option aC) (s5 s6:Nat) (s7:Option aC) (s8 s9:Nat) (s10:Option aC) (s11 s12:Nat) (s13:Option aC) (s14 s15:Nat) (u0 u4 u5 u6 u7 u8 u9 u10 u11 u12 u13 u14 u15 u16 u17 u18 u19 u20 u21 u22 u23 u24 u25 u26 u27 u28 u29 u30 u31 u32 u33 u34 u35 u36 u37 u38 u39 u40 u41 u42 u43 u44 u45 u46 u47 u48 u49 u50 u51 u52 u53 u54 u55 u56 u57 u58 u59 u60 u61 u62 u63 u64 u65 u66 u67 u68 u69 u70 u71 u72 u73 u74 u75 u76 u77:aI)
  (h1:dH W b1 #[U V 1,U V 0] 25) (eP:dH W bb #[U V b.me,J s1 s2 s3,J s4 s5 s6,J s7 s8 s9,J s10 s11 s12,J s13 s14 s15] 31) (bn:l6 W b (s1,s2,s3) (s4,s5,s6) (s7,s8,s9) (s10,s11,s12) (s13,s14,s15)) (fw:wM b) (fp:lW b) (re:fC b.ent) (ok:∀ e∈b.ent,eO e.p) (oe:eO (iI 1 9))
  (hQ:∀ (x:aJ) (v19 v20 v21 v22 v23 v24 v25 v26 v27 v28:aI) (m1:Option aC) (m2 m3:Nat) (m4:Option aC) (m5 m6:Nat) (m7:Option aC) (m8 m9:Nat) (m10:Option aC) (m11 m12:Nat) (m13:Option aC) (m14 m15:Nat),dH x bb #[U V (dU b (⟨(1,0),(2,0),iI 1 9,2,X⟩:En)).1.me,J m1 m2 m3,J m4 m5 m6,J m7 m8 m9,J m10 m11 m12,J m13 m14 m15] 31->l6 x (dU b (⟨(1,0),(2,0),iI 1 9,2,X⟩:En)).1 (m1,m2,m3) (m4,m5,m6) (m7,m8,m9) (m10,m11,m12) (m13,m14,m15)->Rg.JI bb W x->Q .normal ⟨(u0::O (au ⟨b1,0,Y⟩)::.func (.func 42) #[] #[]::O (au ⟨bb,0,Y⟩)::u4::aj (dU b (⟨(1,0),(2,0),iI 1 9,2,X⟩:En)).2::u6::u7::u8::u9::u10::u11::u12::u13::u14::u15::u16::u17::u18::v19::v20::v21::v22::v23::v24::v25::v26::v27::v28::u29::u30::u31::u32::u33::u34::u35::u36::u37::u38::u39::u40::u41::u42::u43::u44::u45::u46::u47::u48::u49::u50::u51::u52::u53::u54::u55::u56::u57::u58::u59::u60::u61::u62::u63::u64::u65::u66::u67::u68::u69::u70::u71::u72::u73::u74::u75::u76::u77::[]).toArray,[]⟩ x) :
  Code.wp Try.prog Nr Q ⟨(u0::O (au ⟨b1,0,Y⟩)::.func (.func 42) #[] #[]::O (au ⟨bb,0,Y⟩)::u4::u5::u6::u7::u8::u9::u10::u11::u12::u13::u14::u15::u16::u17::u18::u19::u20::u21::u22::u23::u24::u25::u26::u27::u28::u29::u30::u31::u32::u33::u34::u35::u36::u37::u38::u39::u40::u41::u42::u43::u44::u45::u46::u47::u48::u49::u50::u51::u52::u53::u54::u55::u56::u57::u58::u59::u60::u61::u62::u63::u64::u65::u66::u67::u68::u69::u70::u71::u72::u73::u74::u75::u76::u77::[]).toArray,[]⟩ W:=by
 have HQ:=ak hQ;have H1:=ak h1;have HB:=ak eP;have BN:=ak bn;have FW:=ak fw;have FP:=ak fp;have RE:=ak re;have OK:=ak ok;have OE:=ak oe;clear hQ h1 eP bn fw fp re ok oe;unfold Nr
 conv=>arg 2; whnf
 have Nq:∀ i,i<12->[20,21,22,23,24,25,26,19,27,28,27,5].getD i 0≠1:=by decide
 have Qw:∀ i,i<12->[20,21,22,23,24,25,26,19,27,28,27,5].getD i 0≠2:=by decide
 have Ns:∀ i,i<12->[20,21,22,23,24,25,26,19,27,28,27,5].getD i 0≠3:=by decide
 refine Rg.vL 12 10 8 (fun i=>[20,21,22,23,24,25,26,19,27,28,27,5].getD i 0) (fun i=>if i=4 then 5 else if i=5 then 6 else 12) (Qv W.heap.size bb b1 b s1 s2 s3 s4 s5 s6 s7 s8 s9 s10 s11 s12 s13 s14 s15) (fun i=>i == 9 || i == 11) 31 bb #[U V b.me,J s1 s2 s3,J s4 s5 s6,J s7 s8 s9,J s10 s11 s12,J s13 s14 s15] (fun v=>match v with | aH c=>c | _=>#[]) (by kernel_rfl) (by kernel_rfl) rfl (by decide) (by decide) (by decide) (by decide) HB.out (fun i j hi hj h1 h2 h=>(by decide:∀ i,i<12->∀ j,j<12->i≠10->j≠10->[20,21,22,23,24,25,26,19,27,28,27,5].getD i 0=[20,21,22,23,24,25,26,19,27,28,27,5].getD j 0->i=j) i hi j hj h1 h2 h) (fun i hi _=>(by decide:∀ i,i<12->[20,21,22,23,24,25,26,19,27,28,27,5].getD i 0<78) i hi) ?_ ?_ (by decide) ?_ ?_ (fun j h1 h2=>(by decide:∀ j,j<12->j≠10->12<=(fun i=>if i=4 then 5 else if i=5 then 6 else 12) j\/((fun i=>if i=4 then 5 else if i=5 then 6 else 12) j<12/\(fun i=>if i=4 then 5 else if i=5 then 6 else 12) j≠10/\(fun i=>i == 9 || i == 11) ((fun i=>if i=4 then 5 else if i=5 then 6 else 12) j)=X)) j h1 h2) ?_
 ·intro i v x x' hi h hb;rcases (by omega:i=0\/i=1\/i=2\/i=3\/i=4\/i=5\/i=6\/i=7\/i=8\/i=9\/i=10\/i=11) with rfl|rfl|rfl|rfl|rfl|rfl|rfl|rfl|rfl|rfl|rfl|rfl
  ·exact h
  ·exact h
  ·exact h
  ·exact h
  ·obtain⟨s,h1,h2⟩:=h; exact⟨s,h1,h2.on hb⟩
  ·obtain⟨z,h1,h2⟩:=h; exact⟨z,h1,h2.on hb⟩
  ·obtain⟨a1,a2,a3,a4,a5,h1,h2⟩:=h; exact⟨a1,a2,a3,a4,a5,h1,h2.on hb⟩
  ·obtain⟨a1,a2,a3,a4,a5,h1,h2⟩:=h; exact⟨a1,a2,a3,a4,a5,h1,h2.on hb⟩
  ·obtain⟨a1,a2,a3,a4,a5,h1,h2⟩:=h; exact⟨a1,a2,a3,a4,a5,h1,h2.on hb⟩
  ·exact h
  ·exact h
  ·exact h
 ·intro o ho i hi qC hfi;cases ho;have h9:i≠9:=fun e=>by rw [e] at hfi; simp at hfi
  have h11:i≠11:=fun e=>by rw [e] at hfi; simp at hfi
  rcases (by omega:i=0\/i=1\/i=2\/i=3\/i=4\/i=5\/i=6\/i=7\/i=8) with rfl|rfl|rfl|rfl|rfl|rfl|rfl|rfl|rfl
  ·exact⟨⟨0,.phase⟩,by simp,rfl,rfl⟩
  ·exact⟨⟨1,.phase⟩,by simp,rfl,rfl⟩
  ·exact⟨⟨2,.phase⟩,by simp,rfl,rfl⟩
  ·exact⟨⟨3,.phase⟩,by simp,rfl,rfl⟩
  ·exact⟨⟨4,.phase⟩,by simp,rfl,rfl⟩
  ·exact⟨⟨5,.phase⟩,by simp,rfl,rfl⟩
  ·exact⟨⟨6,.chain⟩,by simp,rfl,rfl⟩
  ·exact⟨⟨7,.phase⟩,by simp,rfl,rfl⟩
  ·exact⟨⟨8,.data⟩,by simp,rfl,rfl⟩
 ·intro i o hi qC ho a x hpre seen K hK;clear HQ;rcases (by omega:i=0\/i=1\/i=2\/i=3\/i=4\/i=5\/i=6\/i=7\/i=8\/i=9\/i=11) with rfl|rfl|rfl|rfl|rfl|rfl|rfl|rfl|rfl|rfl|rfl
  ·cases ho;obtain⟨hb,hbx⟩:=hpre rfl;have e3:a.eval (Z 3)=O (au ⟨bb,0,Y⟩):=seen.kp 3 _ Ns rfl;exact aB rfl rfl (aP a.eval _ 31 (Z 3) rfl (by rw [e3]; exact oN hbx)) (hK _ x rfl (L _ _))
  ·cases ho;obtain⟨hb,hbx⟩:=hpre rfl;have e1:a.eval (Z 1)=O (au ⟨b1,0,Y⟩):=seen.kp 1 _ Nq rfl;obtain⟨y0,y1⟩:=(H1.out.on hb).cs2;exact aB rfl rfl (aP a.eval _ 25 (Z 1) rfl (by rw [e1]; simp [go_sem,y0,y1])) (hK _ x rfl (L _ _))
  ·cases ho;obtain⟨hb,hbx⟩:=hpre rfl;exact aB rfl rfl (aQ a.eval _ 25 #[(0,.const (U V 2))] rfl (by simp only [ay,aD,aF]; rfl) (by simp [go_sem])) (hK _ x rfl (L _ _))
  ·cases ho;obtain⟨hb,hbx⟩:=hpre rfl;have e2:a.eval (Z 2)=.func (.func 42) #[] #[]:=seen.kp 2 _ Qw rfl;exact aB rfl rfl (aR a.eval _ (Z 2) rfl x) (hK _ x e2 (L _ _))
  ·cases ho;obtain⟨hb,hbx⟩:=hpre rfl;have e23:a.eval (Z 23)=.func (.func 42) #[] #[]:=seen.at_ ⟨3,.data⟩ (by simp) rfl (by decide) (aA (by decide));exact aO rfl rfl (wB a.eval _ (Z 23) (.const (U V 1)) (.const (U V 9)) 3 3 42 rfl rfl rfl e23 _ (eT Try.func42 rfl rfl _ _)) (Ck 1 9 x) fun e w1 h=>by
    obtain⟨⟨sl,rfl,h2⟩,h5⟩:=h;exact⟨_,rfl,hK _ _ ⟨sl,rfl,h2⟩ h5⟩
  ·cases ho;obtain⟨hb,hbx⟩:=hpre rfl;have e21:a.eval (Z 21)=aH #[U V 1,U V 0]:=seen.at_ ⟨1,.data⟩ (by simp) rfl (by decide) (aA (by decide));have e22:a.eval (Z 22)=aH #[U V 2,U V 0]:=seen.at_ ⟨2,.data⟩ (by simp) rfl (by decide) (aA (by decide));have TT:=seen.at_ ⟨4,.data⟩ (by simp) rfl (by decide) (aM rfl);obtain⟨⟨l1,l2,l3⟩,q0,q1⟩:=TT;have q0:a.eval (Z 24)=J l1 l2 l3:=q0;have q2:iy x (J l1 l2 l3) (iI 1 9):=by rw [<- q0]; exact q1
   exact aB rfl rfl (aQ a.eval _ 43 #[(0,Z 21),(1,Z 22),(2,Z 24),(3,.const (U V 2))] rfl (by simp only [ay,aD,aF,e21,e22,q0]; rfl) (v:=aH #[U V 1,U V 0,U V 2,U V 0,J l1 l2 l3,U V 2,aj X]) (by simp [go_sem])) (hK _ x ⟨(1,0,2,0,(l1,l2,l3),2,X),rfl,rfl,rfl,rfl,rfl,q2⟩ (L _ _))
  ·cases ho;obtain⟨hb,hbx⟩:=hpre rfl;have e20:a.eval (Z 20)=iN b.me (s1,s2,s3) (s4,s5,s6) (s7,s8,s9) (s10,s11,s12) (s13,s14,s15):=seen.at_ ⟨0,.data⟩ (by simp) rfl (by decide) (aA (by decide));have Nt:=seen.at_ ⟨5,.data⟩ (by simp) rfl (by decide) (aM rfl);obtain⟨z,q0,q1⟩:=Nt;exact aO rfl rfl (Rw.jh a.eval _ (Z 20) (Z 25) 31 43 7 rfl e20 q0 rfl _ (eT Try.func7 rfl rfl _ _)) (yJ b (⟨(1,0),(2,0),iI 1 9,2,X⟩:En) (s1,s2,s3) (s4,s5,s6) (s7,s8,s9) (s10,s11,s12) (s13,s14,s15) z x (BN.out.on hb).br q1 FW.out FP.out RE.out OK.out OE.out) fun e w1 h=>by
    obtain⟨⟨a1,a2,a3,a4,a5,rfl,h2,h3⟩,h5⟩:=h;exact⟨_,rfl,hK _ _ ⟨a1,a2,a3,a4,a5,rfl,h2,h3 (BN.out.on hb).no⟩ h5⟩
  ·cases ho;obtain⟨hb,hbx⟩:=hpre rfl;have Qx:=seen.at_ ⟨6,.data⟩ (by simp) rfl (by decide) (aA (by decide));exact aB rfl rfl (aR a.eval _ (Z 26) rfl x) (hK _ x Qx (L _ _))
  ·cases ho;obtain⟨hb,hbx⟩:=hpre rfl;have Qy:=seen.at_ ⟨7,.data⟩ (by simp) rfl (by decide) (aA (by decide));obtain⟨a1,a2,a3,a4,a5,h1,h2⟩:=Qy;exact aB rfl rfl (fF a.eval _ (Z 19) 0 rfl (c:=#[iN (dU b (⟨(1,0),(2,0),iI 1 9,2,X⟩:En)).1.me a1 a2 a3 a4 a5,aj (dU b (⟨(1,0),(2,0),iI 1 9,2,X⟩:En)).2]) h1 rfl x) (hK _ x ⟨a1,a2,a3,a4,a5,rfl,h2⟩ (L _ _))
  ·cases ho;have Qy:=seen.at_ ⟨7,.data⟩ (by simp) rfl (by decide) (aA (by decide));obtain⟨a1,a2,a3,a4,a5,h1,h2⟩:=Qy;exact aB rfl rfl (fF a.eval _ (Z 19) 1 rfl (c:=#[iN (dU b (⟨(1,0),(2,0),iI 1 9,2,X⟩:En)).1.me a1 a2 a3 a4 a5,aj (dU b (⟨(1,0),(2,0),iI 1 9,2,X⟩:En)).2]) h1 rfl x) (hK _ x rfl (L _ _))
  ·cases ho;have e28:a.eval (Z 28)=aj (dU b (⟨(1,0),(2,0),iI 1 9,2,X⟩:En)).2:=seen.at_ ⟨9,.data⟩ (by simp) rfl (by decide) (aA (by decide));exact aB rfl rfl (aS a.eval _ (Z 28) rfl x) (hK _ x e28 (L _ _))
 ·intro o ho a x v hb hbx hC qX hbase K hK;clear HQ;cases ho;have eB:a.eval (Z 3)=O (au ⟨bb,0,Y⟩):=hbase 3 _ rfl Ns;obtain⟨⟨m1,m2,m3⟩,⟨m4,m5,m6⟩,⟨m7,m8,m9⟩,⟨m10,m11,m12⟩,⟨m13,m14,m15⟩,hv1,hv2⟩:=qX;subst hv1;have gK:=eZ x bb (U V (dU b (⟨(1,0),(2,0),iI 1 9,2,X⟩:En)).1.me) (J m1 m2 m3) (J m4 m5 m6) (J m7 m8 m9) (J m10 m11 m12) (J m13 m14 m15);refine aT 31 (Z 3) (Z 27) rfl rfl rfl rfl eB hC (w':=iD x bb (U V (dU b (⟨(1,0),(2,0),iI 1 9,2,X⟩:En)).1.me) (J m1 m2 m3) (J m4 m5 m6) (J m7 m8 m9) (J m10 m11 m12) (J m13 m14 m15)) (kS hbx _ _ _ _ _ _ _ _ _ _ _ _ _ _ _ _) (hK _ gK (fun B w hB h=>dQ h hB _ _ _ _ _ _) (eD hbx _ _ _ _ _ _) ?_);exact fun j u hj Mf hl h=>by
   rcases (by omega:j=0\/j=1\/j=2\/j=3\/j=4\/j=5\/j=6\/j=7\/j=8\/j=9\/j=11) with rfl|rfl|rfl|rfl|rfl|rfl|rfl|rfl|rfl|rfl|rfl
   ·have h2:u=iN b.me (s1,s2,s3) (s4,s5,s6) (s7,s8,s9) (s10,s11,s12) (s13,s14,s15):=h; exact h2
   ·have h2:u=aH #[U V 1,U V 0]:=h; exact h2
   ·have h2:u=aH #[U V 2,U V 0]:=h; exact h2
   ·have h2:u=.func (.func 42) #[] #[]:=h; exact h2
   ·exact absurd hl (by decide)
   ·exact absurd hl (by decide)
   ·obtain⟨a1,a2,a3,a4,a5,h1,h2⟩:=h; exact⟨a1,a2,a3,a4,a5,h1,h2.keep (s1:=(s1,s2,s3)) (s2:=(s4,s5,s6)) (s3:=(s7,s8,s9)) (s4:=(s10,s11,s12)) (s5:=(s13,s14,s15)) hbx gK⟩
   ·obtain⟨a1,a2,a3,a4,a5,h1,h2⟩:=h; exact⟨a1,a2,a3,a4,a5,h1,h2.keep (s1:=(s1,s2,s3)) (s2:=(s4,s5,s6)) (s3:=(s7,s8,s9)) (s4:=(s10,s11,s12)) (s5:=(s13,s14,s15)) hbx gK⟩
   ·obtain⟨a1,a2,a3,a4,a5,h1,h2⟩:=h; exact⟨a1,a2,a3,a4,a5,h1,h2.keep (s1:=(s1,s2,s3)) (s2:=(s4,s5,s6)) (s3:=(s7,s8,s9)) (s4:=(s10,s11,s12)) (s5:=(s13,s14,s15)) hbx gK⟩
   ·have h2:u=aj (dU b (⟨(1,0),(2,0),iI 1 9,2,X⟩:En)).2:=h; exact h2
   ·have h2:u=aj (dU b (⟨(1,0),(2,0),iI 1 9,2,X⟩:En)).2:=h; exact h2
 ·intro a x v df sz kp gC hbx qX tF ⟨vs,hv⟩;obtain⟨⟨m1,m2,m3⟩,⟨m4,m5,m6⟩,⟨m7,m8,m9⟩,⟨m10,m11,m12⟩,⟨m13,m14,m15⟩,hv1,hv2⟩:=qX;subst hv1;have g5:a.tmps[5]?=au (aj (dU b (⟨(1,0),(2,0),iI 1 9,2,X⟩:En)).2):=by
   have h:vs 11=aj (dU b (⟨(1,0),(2,0),iI 1 9,2,X⟩:En)).2:=(hv 11 (by decide) (by decide)).2 (by decide);rw [<- h];exact (hv 11 (by decide) (by decide)).1
  obtain⟨w5,R7⟩:∃ v,a.tmps[5]?=au v:=⟨_,Array.getElem?_eq_getElem (by rw [sz]; simp)⟩;have uR:∀ j,(j<19\/29<=j)->a.tmps[j]?=(u0::O (au ⟨b1,0,Y⟩)::.func (.func 42) #[] #[]::O (au ⟨bb,0,Y⟩)::u4::w5::u6::u7::u8::u9::u10::u11::u12::u13::u14::u15::u16::u17::u18::u19::u20::u21::u22::u23::u24::u25::u26::u27::u28::u29::u30::u31::u32::u33::u34::u35::u36::u37::u38::u39::u40::u41::u42::u43::u44::u45::u46::u47::u48::u49::u50::u51::u52::u53::u54::u55::u56::u57::u58::u59::u60::u61::u62::u63::u64::u65::u66::u67::u68::u69::u70::u71::u72::u73::u74::u75::u76::u77::[])[j]?:=fun j hj=>by
   by_cases R8:j=5
   ·subst R8; exact R7
   have hs:(u0::O (au ⟨b1,0,Y⟩)::.func (.func 42) #[] #[]::O (au ⟨bb,0,Y⟩)::u4::w5::u6::u7::u8::u9::u10::u11::u12::u13::u14::u15::u16::u17::u18::u19::u20::u21::u22::u23::u24::u25::u26::u27::u28::u29::u30::u31::u32::u33::u34::u35::u36::u37::u38::u39::u40::u41::u42::u43::u44::u45::u46::u47::u48::u49::u50::u51::u52::u53::u54::u55::u56::u57::u58::u59::u60::u61::u62::u63::u64::u65::u66::u67::u68::u69::u70::u71::u72::u73::u74::u75::u76::u77::[]:List aI)=((u0::O (au ⟨b1,0,Y⟩)::.func (.func 42) #[] #[]::O (au ⟨bb,0,Y⟩)::u4::u5::u6::u7::u8::u9::u10::u11::u12::u13::u14::u15::u16::u17::u18::u19::u20::u21::u22::u23::u24::u25::u26::u27::u28::u29::u30::u31::u32::u33::u34::u35::u36::u37::u38::u39::u40::u41::u42::u43::u44::u45::u46::u47::u48::u49::u50::u51::u52::u53::u54::u55::u56::u57::u58::u59::u60::u61::u62::u63::u64::u65::u66::u67::u68::u69::u70::u71::u72::u73::u74::u75::u76::u77::[]:List aI)).set 5 w5:=rfl;rw [hs,aK (Ne.symm R8)];exact (kp j (fun i hi h=>by have:=(by decide:∀ i,i<12->[20,21,22,23,24,25,26,19,27,28,27,5].getD i 0=5\/(19<=[20,21,22,23,24,25,26,19,27,28,27,5].getD i 0/\[20,21,22,23,24,25,26,19,27,28,27,5].getD i 0<29)) i hi; omega)).trans aG
  obtain⟨mid,hmid,rfl⟩:=aU 19 10 df (by rw [sz]; rfl) (by simp) uR
  match mid,hmid with
  | [v19,v20,v21,v22,v23,v24,v25,v26,v27,v28],_ =>
   obtain rfl:w5=aj (dU b (⟨(1,0),(2,0),iI 1 9,2,X⟩:En)).2:=ah (R7.symm.trans g5);exact HQ.out x _ _ _ _ _ _ _ _ _ _ m1 m2 m3 m4 m5 m6 m7 m8 m9 m10 m11 m12 m13 m14 m15 hbx hv2 tF
def Qz (_B:Nat) (_bb _b1:Nat) (b:Br) (s1:Option aC) (s2 s3:Nat) (s4:Option aC) (s5 s6:Nat) (s7:Option aC) (s8 s9:Nat) (s10:Option aC) (s11 s12:Nat) (s13:Option aC) (s14 s15:Nat) (i:Nat) (v:aI) (x:aJ):Prop :=
 match i with
 | 0=>v=iN b.me (s1,s2,s3) (s4,s5,s6) (s7,s8,s9) (s10,s11,s12) (s13,s14,s15)
 | 1=>v=aH #[U V 1,U V 0]
 | 2=>v=aH #[U V 3,U V 0]
 | 3=>v=.func (.func 42) #[] #[]
 | 4=>∃ sl:Sl,v=dR sl/\iy x v (iI 2 3)
 | 5=>∃ z:gM,v=kX z/\iC x z (⟨(1,0),(3,0),iI 2 3,2,X⟩:En)
 | 6=>∃ nv av sv ev ov:Sl,v=.tuple #[iN (dU b (⟨(1,0),(3,0),iI 2 3,2,X⟩:En)).1.me nv av sv ev ov,aj (dU b (⟨(1,0),(3,0),iI 2 3,2,X⟩:En)).2]/\l6 x (dU b (⟨(1,0),(3,0),iI 2 3,2,X⟩:En)).1 nv av sv ev ov
 | 7=>∃ nv av sv ev ov:Sl,v=.tuple #[iN (dU b (⟨(1,0),(3,0),iI 2 3,2,X⟩:En)).1.me nv av sv ev ov,aj (dU b (⟨(1,0),(3,0),iI 2 3,2,X⟩:En)).2]/\l6 x (dU b (⟨(1,0),(3,0),iI 2 3,2,X⟩:En)).1 nv av sv ev ov
 | 8=>∃ nv av sv ev ov:Sl,v=iN (dU b (⟨(1,0),(3,0),iI 2 3,2,X⟩:En)).1.me nv av sv ev ov/\l6 x (dU b (⟨(1,0),(3,0),iI 2 3,2,X⟩:En)).1 nv av sv ev ov
 | 9=>v=aj (dU b (⟨(1,0),(3,0),iI 2 3,2,X⟩:En)).2
 | 10=>True
 | 11=>v=aj (dU b (⟨(1,0),(3,0),iI 2 3,2,X⟩:En)).2
 | _=>True
noncomputable def Nu:Code:=((Try.f16.body.bind (dZ 5)).getD .skip)
theorem TU (Q:Exit->Act->aJ->Prop) (W:aJ) (bb b1:Nat) (b:Br) (s1:Option aC) (s2 s3:Nat) (s4:Option aC) (s5 s6:Nat) (s7:Option aC) (s8 s9:Nat) (s10:Option aC) (s11 s12:Nat) (s13:Option aC) (s14 s15:Nat) (u0 u4 u5 u6 u7 u8 u9 u10 u11 u12 u13 u14 u15 u16 u17 u18 u19 u20 u21 u22 u23 u24 u25 u26 u27 u28 u29 u30 u31 u32 u33 u34 u35 u36 u37 u38 u39 u40 u41 u42 u43 u44 u45 u46 u47 u48 u49 u50 u51 u52 u53 u54 u55 u56 u57 u58 u59 u60 u61 u62 u63 u64 u65 u66 u67 u68 u69 u70 u71 u72 u73 u74 u75 u76 u77:aI)
  (h1:dH W b1 #[U V 1,U V 0] 25) (eP:dH W bb #[U V b.me,J s1 s2 s3,J s4 s5 s6,J s7 s8 s9,J s10 s11 s12,J s13 s14 s15] 31) (bn:l6 W b (s1,s2,s3) (s4,s5,s6) (s7,s8,s9) (s10,s11,s12) (s13,s14,s15)) (fw:wM b) (fp:lW b) (re:fC b.ent) (ok:∀ e∈b.ent,eO e.p) (oe:eO (iI 2 3))
  (hQ:∀ (x:aJ) (v29 v30 v31 v32 v33 v34 v35 v36 v37 v38:aI) (m1:Option aC) (m2 m3:Nat) (m4:Option aC) (m5 m6:Nat) (m7:Option aC) (m8 m9:Nat) (m10:Option aC) (m11 m12:Nat) (m13:Option aC) (m14 m15:Nat),dH x bb #[U V (dU b (⟨(1,0),(3,0),iI 2 3,2,X⟩:En)).1.me,J m1 m2 m3,J m4 m5 m6,J m7 m8 m9,J m10 m11 m12,J m13 m14 m15] 31->l6 x (dU b (⟨(1,0),(3,0),iI 2 3,2,X⟩:En)).1 (m1,m2,m3) (m4,m5,m6) (m7,m8,m9) (m10,m11,m12) (m13,m14,m15)->Rg.JI bb W x->Q .normal ⟨(u0::O (au ⟨b1,0,Y⟩)::.func (.func 42) #[] #[]::O (au ⟨bb,0,Y⟩)::u4::u5::aj (dU b (⟨(1,0),(3,0),iI 2 3,2,X⟩:En)).2::u7::u8::u9::u10::u11::u12::u13::u14::u15::u16::u17::u18::u19::u20::u21::u22::u23::u24::u25::u26::u27::u28::v29::v30::v31::v32::v33::v34::v35::v36::v37::v38::u39::u40::u41::u42::u43::u44::u45::u46::u47::u48::u49::u50::u51::u52::u53::u54::u55::u56::u57::u58::u59::u60::u61::u62::u63::u64::u65::u66::u67::u68::u69::u70::u71::u72::u73::u74::u75::u76::u77::[]).toArray,[]⟩ x) :
  Code.wp Try.prog Nu Q ⟨(u0::O (au ⟨b1,0,Y⟩)::.func (.func 42) #[] #[]::O (au ⟨bb,0,Y⟩)::u4::u5::u6::u7::u8::u9::u10::u11::u12::u13::u14::u15::u16::u17::u18::u19::u20::u21::u22::u23::u24::u25::u26::u27::u28::u29::u30::u31::u32::u33::u34::u35::u36::u37::u38::u39::u40::u41::u42::u43::u44::u45::u46::u47::u48::u49::u50::u51::u52::u53::u54::u55::u56::u57::u58::u59::u60::u61::u62::u63::u64::u65::u66::u67::u68::u69::u70::u71::u72::u73::u74::u75::u76::u77::[]).toArray,[]⟩ W:=by
 have HQ:=ak hQ;have H1:=ak h1;have HB:=ak eP;have BN:=ak bn;have FW:=ak fw;have FP:=ak fp;have RE:=ak re;have OK:=ak ok;have OE:=ak oe;clear hQ h1 eP bn fw fp re ok oe;unfold Nu
 conv=>arg 2; whnf
 have Nq:∀ i,i<12->[30,31,32,33,34,35,36,29,37,38,37,6].getD i 0≠1:=by decide
 have Qw:∀ i,i<12->[30,31,32,33,34,35,36,29,37,38,37,6].getD i 0≠2:=by decide
 have Ns:∀ i,i<12->[30,31,32,33,34,35,36,29,37,38,37,6].getD i 0≠3:=by decide
 refine Rg.vL 12 10 8 (fun i=>[30,31,32,33,34,35,36,29,37,38,37,6].getD i 0) (fun i=>if i=4 then 5 else if i=5 then 6 else 12) (Qz W.heap.size bb b1 b s1 s2 s3 s4 s5 s6 s7 s8 s9 s10 s11 s12 s13 s14 s15) (fun i=>i == 9 || i == 11) 31 bb #[U V b.me,J s1 s2 s3,J s4 s5 s6,J s7 s8 s9,J s10 s11 s12,J s13 s14 s15] (fun v=>match v with | aH c=>c | _=>#[]) (by kernel_rfl) (by kernel_rfl) rfl (by decide) (by decide) (by decide) (by decide) HB.out (fun i j hi hj h1 h2 h=>(by decide:∀ i,i<12->∀ j,j<12->i≠10->j≠10->[30,31,32,33,34,35,36,29,37,38,37,6].getD i 0=[30,31,32,33,34,35,36,29,37,38,37,6].getD j 0->i=j) i hi j hj h1 h2 h) (fun i hi _=>(by decide:∀ i,i<12->[30,31,32,33,34,35,36,29,37,38,37,6].getD i 0<78) i hi) ?_ ?_ (by decide) ?_ ?_ (fun j h1 h2=>(by decide:∀ j,j<12->j≠10->12<=(fun i=>if i=4 then 5 else if i=5 then 6 else 12) j\/((fun i=>if i=4 then 5 else if i=5 then 6 else 12) j<12/\(fun i=>if i=4 then 5 else if i=5 then 6 else 12) j≠10/\(fun i=>i == 9 || i == 11) ((fun i=>if i=4 then 5 else if i=5 then 6 else 12) j)=X)) j h1 h2) ?_
 ·intro i v x x' hi h hb;rcases (by omega:i=0\/i=1\/i=2\/i=3\/i=4\/i=5\/i=6\/i=7\/i=8\/i=9\/i=10\/i=11) with rfl|rfl|rfl|rfl|rfl|rfl|rfl|rfl|rfl|rfl|rfl|rfl
  ·exact h
  ·exact h
  ·exact h
  ·exact h
  ·obtain⟨s,h1,h2⟩:=h; exact⟨s,h1,h2.on hb⟩
  ·obtain⟨z,h1,h2⟩:=h; exact⟨z,h1,h2.on hb⟩
  ·obtain⟨a1,a2,a3,a4,a5,h1,h2⟩:=h; exact⟨a1,a2,a3,a4,a5,h1,h2.on hb⟩
  ·obtain⟨a1,a2,a3,a4,a5,h1,h2⟩:=h; exact⟨a1,a2,a3,a4,a5,h1,h2.on hb⟩
  ·obtain⟨a1,a2,a3,a4,a5,h1,h2⟩:=h; exact⟨a1,a2,a3,a4,a5,h1,h2.on hb⟩
  ·exact h
  ·exact h
  ·exact h
 ·intro o ho i hi qC hfi;cases ho;have h9:i≠9:=fun e=>by rw [e] at hfi; simp at hfi
  have h11:i≠11:=fun e=>by rw [e] at hfi; simp at hfi
  rcases (by omega:i=0\/i=1\/i=2\/i=3\/i=4\/i=5\/i=6\/i=7\/i=8) with rfl|rfl|rfl|rfl|rfl|rfl|rfl|rfl|rfl
  ·exact⟨⟨0,.phase⟩,by simp,rfl,rfl⟩
  ·exact⟨⟨1,.phase⟩,by simp,rfl,rfl⟩
  ·exact⟨⟨2,.phase⟩,by simp,rfl,rfl⟩
  ·exact⟨⟨3,.phase⟩,by simp,rfl,rfl⟩
  ·exact⟨⟨4,.phase⟩,by simp,rfl,rfl⟩
  ·exact⟨⟨5,.phase⟩,by simp,rfl,rfl⟩
  ·exact⟨⟨6,.chain⟩,by simp,rfl,rfl⟩
  ·exact⟨⟨7,.phase⟩,by simp,rfl,rfl⟩
  ·exact⟨⟨8,.data⟩,by simp,rfl,rfl⟩
 ·intro i o hi qC ho a x hpre seen K hK;clear HQ;rcases (by omega:i=0\/i=1\/i=2\/i=3\/i=4\/i=5\/i=6\/i=7\/i=8\/i=9\/i=11) with rfl|rfl|rfl|rfl|rfl|rfl|rfl|rfl|rfl|rfl|rfl
  ·cases ho;obtain⟨hb,hbx⟩:=hpre rfl;have e3:a.eval (Z 3)=O (au ⟨bb,0,Y⟩):=seen.kp 3 _ Ns rfl;exact aB rfl rfl (aP a.eval _ 31 (Z 3) rfl (by rw [e3]; exact oN hbx)) (hK _ x rfl (L _ _))
  ·cases ho;obtain⟨hb,hbx⟩:=hpre rfl;have e1:a.eval (Z 1)=O (au ⟨b1,0,Y⟩):=seen.kp 1 _ Nq rfl;obtain⟨y0,y1⟩:=(H1.out.on hb).cs2;exact aB rfl rfl (aP a.eval _ 25 (Z 1) rfl (by rw [e1]; simp [go_sem,y0,y1])) (hK _ x rfl (L _ _))
  ·cases ho;obtain⟨hb,hbx⟩:=hpre rfl;exact aB rfl rfl (aQ a.eval _ 25 #[(0,.const (U V 3))] rfl (by simp only [ay,aD,aF]; rfl) (by simp [go_sem])) (hK _ x rfl (L _ _))
  ·cases ho;obtain⟨hb,hbx⟩:=hpre rfl;have e2:a.eval (Z 2)=.func (.func 42) #[] #[]:=seen.kp 2 _ Qw rfl;exact aB rfl rfl (aR a.eval _ (Z 2) rfl x) (hK _ x e2 (L _ _))
  ·cases ho;obtain⟨hb,hbx⟩:=hpre rfl;have e33:a.eval (Z 33)=.func (.func 42) #[] #[]:=seen.at_ ⟨3,.data⟩ (by simp) rfl (by decide) (aA (by decide));exact aO rfl rfl (wB a.eval _ (Z 33) (.const (U V 2)) (.const (U V 3)) 3 3 42 rfl rfl rfl e33 _ (eT Try.func42 rfl rfl _ _)) (Ck 2 3 x) fun e w1 h=>by
    obtain⟨⟨sl,rfl,h2⟩,h5⟩:=h;exact⟨_,rfl,hK _ _ ⟨sl,rfl,h2⟩ h5⟩
  ·cases ho;obtain⟨hb,hbx⟩:=hpre rfl;have e31:a.eval (Z 31)=aH #[U V 1,U V 0]:=seen.at_ ⟨1,.data⟩ (by simp) rfl (by decide) (aA (by decide));have e32:a.eval (Z 32)=aH #[U V 3,U V 0]:=seen.at_ ⟨2,.data⟩ (by simp) rfl (by decide) (aA (by decide));have TV:=seen.at_ ⟨4,.data⟩ (by simp) rfl (by decide) (aM rfl);obtain⟨⟨l1,l2,l3⟩,q0,q1⟩:=TV;have q0:a.eval (Z 34)=J l1 l2 l3:=q0;have q2:iy x (J l1 l2 l3) (iI 2 3):=by rw [<- q0]; exact q1
   exact aB rfl rfl (aQ a.eval _ 43 #[(0,Z 31),(1,Z 32),(2,Z 34),(3,.const (U V 2))] rfl (by simp only [ay,aD,aF,e31,e32,q0]; rfl) (v:=aH #[U V 1,U V 0,U V 3,U V 0,J l1 l2 l3,U V 2,aj X]) (by simp [go_sem])) (hK _ x ⟨(1,0,3,0,(l1,l2,l3),2,X),rfl,rfl,rfl,rfl,rfl,q2⟩ (L _ _))
  ·cases ho;obtain⟨hb,hbx⟩:=hpre rfl;have e30:a.eval (Z 30)=iN b.me (s1,s2,s3) (s4,s5,s6) (s7,s8,s9) (s10,s11,s12) (s13,s14,s15):=seen.at_ ⟨0,.data⟩ (by simp) rfl (by decide) (aA (by decide));have TW:=seen.at_ ⟨5,.data⟩ (by simp) rfl (by decide) (aM rfl);obtain⟨z,q0,q1⟩:=TW;exact aO rfl rfl (Rw.jh a.eval _ (Z 30) (Z 35) 31 43 7 rfl e30 q0 rfl _ (eT Try.func7 rfl rfl _ _)) (yJ b (⟨(1,0),(3,0),iI 2 3,2,X⟩:En) (s1,s2,s3) (s4,s5,s6) (s7,s8,s9) (s10,s11,s12) (s13,s14,s15) z x (BN.out.on hb).br q1 FW.out FP.out RE.out OK.out OE.out) fun e w1 h=>by
    obtain⟨⟨a1,a2,a3,a4,a5,rfl,h2,h3⟩,h5⟩:=h;exact⟨_,rfl,hK _ _ ⟨a1,a2,a3,a4,a5,rfl,h2,h3 (BN.out.on hb).no⟩ h5⟩
  ·cases ho;obtain⟨hb,hbx⟩:=hpre rfl;have TY:=seen.at_ ⟨6,.data⟩ (by simp) rfl (by decide) (aA (by decide));exact aB rfl rfl (aR a.eval _ (Z 36) rfl x) (hK _ x TY (L _ _))
  ·cases ho;obtain⟨hb,hbx⟩:=hpre rfl;have QA:=seen.at_ ⟨7,.data⟩ (by simp) rfl (by decide) (aA (by decide));obtain⟨a1,a2,a3,a4,a5,h1,h2⟩:=QA;exact aB rfl rfl (fF a.eval _ (Z 29) 0 rfl (c:=#[iN (dU b (⟨(1,0),(3,0),iI 2 3,2,X⟩:En)).1.me a1 a2 a3 a4 a5,aj (dU b (⟨(1,0),(3,0),iI 2 3,2,X⟩:En)).2]) h1 rfl x) (hK _ x ⟨a1,a2,a3,a4,a5,rfl,h2⟩ (L _ _))
  ·cases ho;have QA:=seen.at_ ⟨7,.data⟩ (by simp) rfl (by decide) (aA (by decide));obtain⟨a1,a2,a3,a4,a5,h1,h2⟩:=QA;exact aB rfl rfl (fF a.eval _ (Z 29) 1 rfl (c:=#[iN (dU b (⟨(1,0),(3,0),iI 2 3,2,X⟩:En)).1.me a1 a2 a3 a4 a5,aj (dU b (⟨(1,0),(3,0),iI 2 3,2,X⟩:En)).2]) h1 rfl x) (hK _ x rfl (L _ _))
  ·cases ho;have e38:a.eval (Z 38)=aj (dU b (⟨(1,0),(3,0),iI 2 3,2,X⟩:En)).2:=seen.at_ ⟨9,.data⟩ (by simp) rfl (by decide) (aA (by decide));exact aB rfl rfl (aS a.eval _ (Z 38) rfl x) (hK _ x e38 (L _ _))
 ·intro o ho a x v hb hbx hC qX hbase K hK;clear HQ;cases ho;have eB:a.eval (Z 3)=O (au ⟨bb,0,Y⟩):=hbase 3 _ rfl Ns;obtain⟨⟨m1,m2,m3⟩,⟨m4,m5,m6⟩,⟨m7,m8,m9⟩,⟨m10,m11,m12⟩,⟨m13,m14,m15⟩,hv1,hv2⟩:=qX;subst hv1;have gK:=eZ x bb (U V (dU b (⟨(1,0),(3,0),iI 2 3,2,X⟩:En)).1.me) (J m1 m2 m3) (J m4 m5 m6) (J m7 m8 m9) (J m10 m11 m12) (J m13 m14 m15);refine aT 31 (Z 3) (Z 37) rfl rfl rfl rfl eB hC (w':=iD x bb (U V (dU b (⟨(1,0),(3,0),iI 2 3,2,X⟩:En)).1.me) (J m1 m2 m3) (J m4 m5 m6) (J m7 m8 m9) (J m10 m11 m12) (J m13 m14 m15)) (kS hbx _ _ _ _ _ _ _ _ _ _ _ _ _ _ _ _) (hK _ gK (fun B w hB h=>dQ h hB _ _ _ _ _ _) (eD hbx _ _ _ _ _ _) ?_);exact fun j u hj Mf hl h=>by
   rcases (by omega:j=0\/j=1\/j=2\/j=3\/j=4\/j=5\/j=6\/j=7\/j=8\/j=9\/j=11) with rfl|rfl|rfl|rfl|rfl|rfl|rfl|rfl|rfl|rfl|rfl
   ·have h2:u=iN b.me (s1,s2,s3) (s4,s5,s6) (s7,s8,s9) (s10,s11,s12) (s13,s14,s15):=h; exact h2
   ·have h2:u=aH #[U V 1,U V 0]:=h; exact h2
   ·have h2:u=aH #[U V 3,U V 0]:=h; exact h2
   ·have h2:u=.func (.func 42) #[] #[]:=h; exact h2
   ·exact absurd hl (by decide)
   ·exact absurd hl (by decide)
   ·obtain⟨a1,a2,a3,a4,a5,h1,h2⟩:=h; exact⟨a1,a2,a3,a4,a5,h1,h2.keep (s1:=(s1,s2,s3)) (s2:=(s4,s5,s6)) (s3:=(s7,s8,s9)) (s4:=(s10,s11,s12)) (s5:=(s13,s14,s15)) hbx gK⟩
   ·obtain⟨a1,a2,a3,a4,a5,h1,h2⟩:=h; exact⟨a1,a2,a3,a4,a5,h1,h2.keep (s1:=(s1,s2,s3)) (s2:=(s4,s5,s6)) (s3:=(s7,s8,s9)) (s4:=(s10,s11,s12)) (s5:=(s13,s14,s15)) hbx gK⟩
   ·obtain⟨a1,a2,a3,a4,a5,h1,h2⟩:=h; exact⟨a1,a2,a3,a4,a5,h1,h2.keep (s1:=(s1,s2,s3)) (s2:=(s4,s5,s6)) (s3:=(s7,s8,s9)) (s4:=(s10,s11,s12)) (s5:=(s13,s14,s15)) hbx gK⟩
   ·have h2:u=aj (dU b (⟨(1,0),(3,0),iI 2 3,2,X⟩:En)).2:=h; exact h2
   ·have h2:u=aj (dU b (⟨(1,0),(3,0),iI 2 3,2,X⟩:En)).2:=h; exact h2
 ·intro a x v df sz kp gC hbx qX tF ⟨vs,hv⟩;obtain⟨⟨m1,m2,m3⟩,⟨m4,m5,m6⟩,⟨m7,m8,m9⟩,⟨m10,m11,m12⟩,⟨m13,m14,m15⟩,hv1,hv2⟩:=qX;subst hv1;have g6:a.tmps[6]?=au (aj (dU b (⟨(1,0),(3,0),iI 2 3,2,X⟩:En)).2):=by
   have h:vs 11=aj (dU b (⟨(1,0),(3,0),iI 2 3,2,X⟩:En)).2:=(hv 11 (by decide) (by decide)).2 (by decide);rw [<- h];exact (hv 11 (by decide) (by decide)).1
  obtain⟨w6,R9⟩:∃ v,a.tmps[6]?=au v:=⟨_,Array.getElem?_eq_getElem (by rw [sz]; simp)⟩;have uR:∀ j,(j<29\/39<=j)->a.tmps[j]?=(u0::O (au ⟨b1,0,Y⟩)::.func (.func 42) #[] #[]::O (au ⟨bb,0,Y⟩)::u4::u5::w6::u7::u8::u9::u10::u11::u12::u13::u14::u15::u16::u17::u18::u19::u20::u21::u22::u23::u24::u25::u26::u27::u28::u29::u30::u31::u32::u33::u34::u35::u36::u37::u38::u39::u40::u41::u42::u43::u44::u45::u46::u47::u48::u49::u50::u51::u52::u53::u54::u55::u56::u57::u58::u59::u60::u61::u62::u63::u64::u65::u66::u67::u68::u69::u70::u71::u72::u73::u74::u75::u76::u77::[])[j]?:=fun j hj=>by
   by_cases Sc:j=6
   ·subst Sc; exact R9
   have hs:(u0::O (au ⟨b1,0,Y⟩)::.func (.func 42) #[] #[]::O (au ⟨bb,0,Y⟩)::u4::u5::w6::u7::u8::u9::u10::u11::u12::u13::u14::u15::u16::u17::u18::u19::u20::u21::u22::u23::u24::u25::u26::u27::u28::u29::u30::u31::u32::u33::u34::u35::u36::u37::u38::u39::u40::u41::u42::u43::u44::u45::u46::u47::u48::u49::u50::u51::u52::u53::u54::u55::u56::u57::u58::u59::u60::u61::u62::u63::u64::u65::u66::u67::u68::u69::u70::u71::u72::u73::u74::u75::u76::u77::[]:List aI)=((u0::O (au ⟨b1,0,Y⟩)::.func (.func 42) #[] #[]::O (au ⟨bb,0,Y⟩)::u4::u5::u6::u7::u8::u9::u10::u11::u12::u13::u14::u15::u16::u17::u18::u19::u20::u21::u22::u23::u24::u25::u26::u27::u28::u29::u30::u31::u32::u33::u34::u35::u36::u37::u38::u39::u40::u41::u42::u43::u44::u45::u46::u47::u48::u49::u50::u51::u52::u53::u54::u55::u56::u57::u58::u59::u60::u61::u62::u63::u64::u65::u66::u67::u68::u69::u70::u71::u72::u73::u74::u75::u76::u77::[]:List aI)).set 6 w6:=rfl;rw [hs,aK (Ne.symm Sc)];exact (kp j (fun i hi h=>by have:=(by decide:∀ i,i<12->[30,31,32,33,34,35,36,29,37,38,37,6].getD i 0=6\/(29<=[30,31,32,33,34,35,36,29,37,38,37,6].getD i 0/\[30,31,32,33,34,35,36,29,37,38,37,6].getD i 0<39)) i hi; omega)).trans aG
  obtain⟨mid,hmid,rfl⟩:=aU 29 10 df (by rw [sz]; rfl) (by simp) uR
  match mid,hmid with
  | [v29,v30,v31,v32,v33,v34,v35,v36,v37,v38],_ =>
   obtain rfl:w6=aj (dU b (⟨(1,0),(3,0),iI 2 3,2,X⟩:En)).2:=ah (R9.symm.trans g6);exact HQ.out x _ _ _ _ _ _ _ _ _ _ m1 m2 m3 m4 m5 m6 m7 m8 m9 m10 m11 m12 m13 m14 m15 hbx hv2 tF
end Go.Proofs.Ytmklifheakemeaa.Sb
