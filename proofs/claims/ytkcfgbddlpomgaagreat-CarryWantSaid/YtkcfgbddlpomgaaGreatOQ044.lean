/-
  CarryRuns' region th. Conditions as told.
-/
import Derived.Test.YtkcfgbddlpomgaaGreatOQ040
set_option maxRecDepth 100000
set_option maxHeartbeats 64000000
open Go.IntKind renaming i64->V
open Go.RowKit.Below renaming refl->X
open Go.Value renaming slice->L,int->U,pointer->Y,bool->Z,agg->aj
open _root_.Option renaming none->O,some->ah
open Option.some renaming inj->J
namespace Go.Proofs.YtkcfgbddlpomgaaGreat.Ca
open Go.RowKit Go.Sort Rw YtkcfgbddlpomgaaGreat.Nm Pr Bk Av Rl Sb Fl
abbrev ZJ:Br:=⟨0,[2,3],[⟨(1,0),[],-1⟩],[(1,0)],[],[]⟩
theorem RZ:fJ (D7 0 [2,3]) ⟨(1,0),[],-1⟩=(ZJ,true):=rfl
theorem Xo:Kw (D7 0 [2,3]):=⟨by simp,by simp,by simp,by simp,by simp⟩
theorem R6:wL (D7 0 [2,3]):=⟨by simp,by simp,by simp⟩
def agT (_B:Nat) (_b1:Nat) (i:Nat) (v:Value) (x:World):Prop :=
 match i with
 | 0=>∃ sl:Sl,v=dU sl/\qI x v [2,3]
 | 1=>∃ nv:Sl,v=mJ 0 nv (O,0,0) (O,0,0) (O,0,0) (O,0,0)/\vY x (D7 0 [2,3]) nv (O,0,0) (O,0,0) (O,0,0) (O,0,0)
 | 2=>v=aj #[U V 1,U V 0]
 | 3=>v=aj #[U V 1,U V 0,L O 0 0,U V (-1)]
 | 4=>∃ nv av sv ev ov:Sl,v=.tuple #[mJ 0 nv av sv ev ov,Z true]/\vY x ZJ nv av sv ev ov
 | 5=>∃ nv av sv ev ov:Sl,v=.tuple #[mJ 0 nv av sv ev ov,Z true]/\vY x ZJ nv av sv ev ov
 | 6=>∃ nv av sv ev ov:Sl,v=mJ 0 nv av sv ev ov/\vY x ZJ nv av sv ev ov
 | 7=>v=Z true
 | 8=>True
 | 9=>True
 | 10=>v=Z true
 | _=>True
noncomputable def abC:Code:=((Tryz.f15.body.bind (eP 2)).getD .skip)
theorem ajg (Q:Exit->Act->World->Prop) (W:World) (b1:Nat) (u0 u2 u3 u4 u5 u6 u7 u8 u9 u10 u11 u12 u13 u14 u15 u16 u17 u18 u19 u20 u21 u22 u23 u24 u25 u26 u27 u28 u29 u30 u31 u32 u33 u34 u35 u36 u37 u38 u39 u40 u41 u42 u43 u44 u45 u46 u47 u48 u49 u50 u51 u52 u53 u54 u55 u56 u57 u58 u59 u60 u61 u62 u63 u64 u65 u66 u67 u68 u69 u70 u71:Value)
  (h1:dN W b1 #[U V 1,U V 0] 38)
  (hQ:∀ (x:World) (bb:Nat) (v10 v11 v12 v13 v14 v15 v16 v17:Value) (m1:Option Addr) (m2 m3:Nat) (m4:Option Addr) (m5 m6:Nat) (m7:Option Addr) (m8 m9:Nat) (m10:Option Addr) (m11 m12:Nat) (m13:Option Addr) (m14 m15:Nat),W.heap.size<=bb->dN x bb #[U V 0,L m1 m2 m3,L m4 m5 m6,L m7 m8 m9,L m10 m11 m12,L m13 m14 m15] 33->vY x ZJ (m1,m2,m3) (m4,m5,m6) (m7,m8,m9) (m10,m11,m12) (m13,m14,m15)->Below W.heap.size W x->Q .normal ⟨(u0::Y (ah ⟨b1,0,O⟩)::Y (ah ⟨bb,0,O⟩)::Z true::u4::u5::u6::u7::u8::u9::v10::v11::v12::v13::v14::v15::v16::v17::u18::u19::u20::u21::u22::u23::u24::u25::u26::u27::u28::u29::u30::u31::u32::u33::u34::u35::u36::u37::u38::u39::u40::u41::u42::u43::u44::u45::u46::u47::u48::u49::u50::u51::u52::u53::u54::u55::u56::u57::u58::u59::u60::u61::u62::u63::u64::u65::u66::u67::u68::u69::u70::u71::[]).toArray,[]⟩ x) :
  Code.wp Tryz.prog abC Q ⟨(u0::Y (ah ⟨b1,0,O⟩)::u2::u3::u4::u5::u6::u7::u8::u9::u10::u11::u12::u13::u14::u15::u16::u17::u18::u19::u20::u21::u22::u23::u24::u25::u26::u27::u28::u29::u30::u31::u32::u33::u34::u35::u36::u37::u38::u39::u40::u41::u42::u43::u44::u45::u46::u47::u48::u49::u50::u51::u52::u53::u54::u55::u56::u57::u58::u59::u60::u61::u62::u63::u64::u65::u66::u67::u68::u69::u70::u71::[]).toArray,[]⟩ W:=by
 have HQ:=Lib.hid hQ;have H1:=Lib.hid h1;clear hQ h1;unfold abC
 conv=>arg 2; whnf
 have nb1:∀ i,i<11->[11,12,13,14,15,10,16,17,2,2,3].getD i 0≠1:=by decide
 refine Rg.uJ 11 8 9 6 (fun i=>[11,12,13,14,15,10,16,17,2,2,3].getD i 0) (fun i=>if i=0 then 1 else if i=1 then 4 else if i=4 then 5 else 11) (agT W.heap.size b1) 33 #[U V 0,L O 0 0,L O 0 0,L O 0 0,L O 0 0,L O 0 0] (fun v=>match v with | aj c=>c | _=>#[]) (by kernel_rfl) (by kernel_rfl) rfl (by decide) (by decide) (by decide) (by decide) (by decide) (by decide) (by decide) (fun i j hi hj h1 h2 h=>(by decide:∀ i,i<11->∀ j,j<11->i≠9->j≠9->[11,12,13,14,15,10,16,17,2,2,3].getD i 0=[11,12,13,14,15,10,16,17,2,2,3].getD j 0->i=j) i hi j hj h1 h2 h) (fun i hi=>(by decide:∀ i,i<11->[11,12,13,14,15,10,16,17,2,2,3].getD i 0<72) i hi) ?_ ?_ ?_ ?_ ?_ ?_
 ·intro i v x x' hi h hb;rcases (by omega:i=0\/i=1\/i=2\/i=3\/i=4\/i=5\/i=6\/i=7\/i=8\/i=9\/i=10) with rfl|rfl|rfl|rfl|rfl|rfl|rfl|rfl|rfl|rfl|rfl
  ·obtain⟨s,h1,h2⟩:=h; exact⟨s,h1,h2.on hb⟩
  ·obtain⟨s,h1,h2⟩:=h; exact⟨s,h1,h2.on hb⟩
  ·exact h
  ·exact h
  ·obtain⟨a1,a2,a3,a4,a5,h1,h2⟩:=h; exact⟨a1,a2,a3,a4,a5,h1,h2.on hb⟩
  ·obtain⟨a1,a2,a3,a4,a5,h1,h2⟩:=h; exact⟨a1,a2,a3,a4,a5,h1,h2.on hb⟩
  ·obtain⟨a1,a2,a3,a4,a5,h1,h2⟩:=h; exact⟨a1,a2,a3,a4,a5,h1,h2.on hb⟩
  ·exact h
  ·exact h
  ·exact h
  ·exact h
 ·intro o ho;cases ho;exact⟨⟨⟨8,.data⟩,by simp,rfl,rfl⟩,⟨⟨6,.data⟩,by simp,rfl,rfl⟩⟩
 ·intro i o hi YC Qc ho a x hb seen K hK;clear HQ;rcases (by omega:i=0\/i=1\/i=2\/i=3\/i=4\/i=5\/i=6\/i=7\/i=10) with rfl|rfl|rfl|rfl|rfl|rfl|rfl|rfl|rfl
  ·cases ho;have hl:=iD Nm.Hl x [2,3] 2 rfl (by simp) #[U V 2,U V 3] (by rfl);exact Rg.dD rfl rfl (Rg.iQ a.eval _ 25 2 #[(0,.const (U V 2)),(1,.const (U V 3))] rfl (ps:=#[(0,U V 2),(1,U V 3)]) (by simp only [List.map_toArray,List.map_cons,List.map_nil]; rfl) (by simp [go_sem])) (hK (L (ah ⟨x.heap.size,0,O⟩) 2 2) (x.alloc (.cells #[U V 2,U V 3] 3)) ⟨(ah ⟨x.heap.size,0,O⟩,2,2),rfl,Row.dH hl⟩ ((X _ _).alloc (Nat.le_refl _) _))
  ·cases ho;have E11:=seen.at_ ⟨0,.data⟩ (by simp) rfl (by decide) (by decide) (Or.inl rfl);obtain⟨sl,q0,q1⟩:=E11;have q0:a.eval (.tmp 11)=dU sl:=q0;have q1:qI x (dU sl) [2,3]:=by rw [<- q0]; exact q1
   exact Rg.gH rfl rfl (Rw.pE a.eval _ (.const (U V 0)) (.tmp 11) 3 25 41 rfl rfl q0 rfl _ (fT Tryz.func41 rfl rfl _ _)) (UW 0 sl [2,3] x q1 (by decide)) fun e w1 h=>by
    obtain⟨⟨l',nv,rfl,h1,h2,h3,h4⟩,h5⟩:=h;have e1:l'=[2,3]:=uP h3 (by decide) (fun y=>(h4 y).trans (by simp));subst e1;exact⟨_,rfl,hK _ _ ⟨nv,rfl,h1,h2⟩ h5⟩
  ·cases ho;have e1:a.eval (.tmp 1)=Y (ah ⟨b1,0,O⟩):=seen.kp 1 _ nb1 rfl;obtain⟨y0,y1⟩:=(H1.out.on hb).cs2;exact Rg.dD rfl rfl (Rg.dZ a.eval _ 38 (.tmp 1) rfl (by rw [e1]; simp [go_sem,y0,y1])) (hK _ x rfl (X _ _))
  ·cases ho;have e13:a.eval (.tmp 13)=aj #[U V 1,U V 0]:=seen.at_ ⟨2,.data⟩ (by simp) rfl (by decide) (by decide) (Or.inr (by decide));exact Rg.dD rfl rfl (Rg.iW a.eval _ 53 #[(0,.tmp 13),(2,.const (U V (-1)))] rfl (by simp only [List.map_toArray,List.map_cons,List.map_nil,e13]; rfl) (by simp [go_sem])) (hK _ x rfl (X _ _))
  ·cases ho;have E12:=seen.at_ ⟨1,.data⟩ (by simp) rfl (by decide) (by decide) (Or.inl rfl);have e14:a.eval (.tmp 14)=aj #[U V 1,U V 0,L O 0 0,U V (-1)]:=seen.at_ ⟨3,.data⟩ (by simp) rfl (by decide) (by decide) (Or.inr (by decide));obtain⟨nv,q0,q1⟩:=E12;have hx:vM x (1,0,(O,0,0),-1) ⟨(1,0),[],-1⟩:=⟨rfl,rfl,je _⟩;exact Rg.gH rfl rfl (Rw.pE a.eval _ (.tmp 12) (.tmp 14) 33 53 40 rfl q0 e14 rfl _ (fT Tryz.func40 rfl rfl _ _)) (Qy (D7 0 [2,3]) ⟨(1,0),[],-1⟩ nv (O,0,0) (O,0,0) (O,0,0) (O,0,0) (1,0,(O,0,0),-1) x q1.br hx Xo R6 (by simp) List.Pairwise.nil List.Pairwise.nil) fun e w1 h=>by
    rw [RZ] at h;obtain⟨⟨a1,a2,a3,a4,a5,rfl,h2,h3⟩,h5⟩:=h;exact⟨_,rfl,hK _ _ ⟨a1,a2,a3,a4,a5,rfl,h2,h3 q1.no⟩ h5⟩
  ·cases ho;have E15:=seen.at_ ⟨4,.data⟩ (by simp) rfl (by decide) (by decide) (Or.inl rfl);exact Rg.dD rfl rfl (Rg.fQ a.eval _ (.tmp 15) rfl x) (hK _ x E15 (X _ _))
  ·cases ho;have E10:=seen.at_ ⟨5,.data⟩ (by simp) rfl (by decide) (by decide) (Or.inr (by decide));obtain⟨a1,a2,a3,a4,a5,h1,h2⟩:=E10;exact Rg.dD rfl rfl (sW a.eval _ (.tmp 10) 0 rfl (c:=#[mJ 0 a1 a2 a3 a4 a5,Z true]) h1 rfl x) (hK _ x ⟨a1,a2,a3,a4,a5,rfl,h2⟩ (X _ _))
  ·cases ho;have E10:=seen.at_ ⟨5,.data⟩ (by simp) rfl (by decide) (by decide) (Or.inr (by decide));obtain⟨a1,a2,a3,a4,a5,h1,h2⟩:=E10;exact Rg.dD rfl rfl (sW a.eval _ (.tmp 10) 1 rfl (c:=#[mJ 0 a1 a2 a3 a4 a5,Z true]) h1 rfl x) (hK _ x rfl (X _ _))
  ·cases ho;have e17:a.eval (.tmp 17)=Z true:=seen.at_ ⟨7,.data⟩ (by simp) rfl (by decide) (by decide) (Or.inr (by decide));exact Rg.dD rfl rfl (Rg.jM a.eval _ (.tmp 17) rfl x) (hK _ x e17 (X _ _))
 ·intro o ho a x K hK;cases ho;exact Rg.dD rfl rfl (Rg.wD a.eval _ 33 rfl (by simp [go_sem])) hK
 ·intro o ho a x bb v D hc hD hb hA hC Mf hbb ku K hK;clear HQ;cases ho;obtain⟨⟨m1,m2,m3⟩,⟨m4,m5,m6⟩,⟨m7,m8,m9⟩,⟨m10,m11,m12⟩,⟨m13,m14,m15⟩,hv1,hv2⟩:=Mf;subst hv1;have nk:=Go.Proofs.YtkcfgbddlpomgaaGreat.Av.fZ x bb (U V 0) (L m1 m2 m3) (L m4 m5 m6) (L m7 m8 m9) (L m10 m11 m12) (L m13 m14 m15);refine Rg.fP 33 (.tmp 2) (.tmp 16) rfl rfl rfl rfl hA hC (w':=gY x bb (U V 0) (L m1 m2 m3) (L m4 m5 m6) (L m7 m8 m9) (L m10 m11 m12) (L m13 m14 m15)) (sK ku _ _ _ _ _ _ _ _ _ _ _ _ _ _ _ _) (hK _ (dI hb hbb _ _ _ _ _ _) (dM ku _ _ _ _ _ _) ?_);exact fun j u hj hjA hjS hdj hnl hls h=>by
   rcases (by omega:j=0\/j=1\/j=2\/j=3\/j=4\/j=5\/j=6\/j=7\/j=10) with rfl|rfl|rfl|rfl|rfl|rfl|rfl|rfl|rfl
   ·exact absurd (hD ⟨1,.phase⟩ (by simp) rfl) hnl
   ·exact absurd (hD ⟨4,.chain⟩ (by simp) rfl) hnl
   ·have h2:u=aj #[U V 1,U V 0]:=h; exact h2
   ·have h2:u=aj #[U V 1,U V 0,L O 0 0,U V (-1)]:=h; exact h2
   ·exact absurd (hD ⟨5,.phase⟩ (by simp) rfl) hnl
   ·obtain⟨a1,a2,a3,a4,a5,h1,h2⟩:=h; exact⟨a1,a2,a3,a4,a5,h1,h2.keep (s1:=(O,0,0)) (s2:=(O,0,0)) (s3:=(O,0,0)) (s4:=(O,0,0)) (s5:=(O,0,0)) (me:=0) ku nk⟩
   ·obtain⟨a1,a2,a3,a4,a5,h1,h2⟩:=h; exact⟨a1,a2,a3,a4,a5,h1,h2.keep (s1:=(O,0,0)) (s2:=(O,0,0)) (s3:=(O,0,0)) (s4:=(O,0,0)) (s5:=(O,0,0)) (me:=0) ku nk⟩
   ·have h2:u=Z true:=h; exact h2
   ·have h2:u=Z true:=h; exact h2
 ·intro a x bb v df sz kp gA gC hbb ku Mf hbel ⟨vs,hv⟩;obtain⟨⟨m1,m2,m3⟩,⟨m4,m5,m6⟩,⟨m7,m8,m9⟩,⟨m10,m11,m12⟩,⟨m13,m14,m15⟩,hv1,hv2⟩:=Mf;subst hv1;have g2:a.tmps[2]?=ah (Y (ah ⟨bb,0,O⟩)):=gA;have g3:a.tmps[3]?=ah (Z true):=by
   have h:vs 10=Z true:=(hv 10 (by decide) (by decide) (by decide)).2 (by decide);rw [<- h];exact (hv 10 (by decide) (by decide) (by decide)).1
  have sI:∀ j,(j<2\/18<=j)->a.tmps[j]?=(u0::Y (ah ⟨b1,0,O⟩)::u2::u3::u4::u5::u6::u7::u8::u9::u10::u11::u12::u13::u14::u15::u16::u17::u18::u19::u20::u21::u22::u23::u24::u25::u26::u27::u28::u29::u30::u31::u32::u33::u34::u35::u36::u37::u38::u39::u40::u41::u42::u43::u44::u45::u46::u47::u48::u49::u50::u51::u52::u53::u54::u55::u56::u57::u58::u59::u60::u61::u62::u63::u64::u65::u66::u67::u68::u69::u70::u71::[])[j]?:=fun j hj=>(kp j (fun i hi h=>by have:=(by decide:∀ i,i<11->2<=[11,12,13,14,15,10,16,17,2,2,3].getD i 0/\[11,12,13,14,15,10,16,17,2,2,3].getD i 0<18) i hi; omega)).trans List.getElem?_toArray;obtain⟨mid,hmid,rfl⟩:=Rg.gF 2 16 df sz (by simp) sI
  match mid,hmid with
  | [v2,v3,v4,v5,v6,v7,v8,v9,v10,v11,v12,v13,v14,v15,v16,v17],_ =>
   obtain rfl:v2=Y (ah ⟨bb,0,O⟩):=J g2;obtain rfl:v3=Z true:=J g3;obtain rfl:v4=u4:=J (kp 4 (fun i hi h=>(by decide:∀ i,i<11->[11,12,13,14,15,10,16,17,2,2,3].getD i 0≠4) i hi h));obtain rfl:v5=u5:=J (kp 5 (fun i hi h=>(by decide:∀ i,i<11->[11,12,13,14,15,10,16,17,2,2,3].getD i 0≠5) i hi h));obtain rfl:v6=u6:=J (kp 6 (fun i hi h=>(by decide:∀ i,i<11->[11,12,13,14,15,10,16,17,2,2,3].getD i 0≠6) i hi h));obtain rfl:v7=u7:=J (kp 7 (fun i hi h=>(by decide:∀ i,i<11->[11,12,13,14,15,10,16,17,2,2,3].getD i 0≠7) i hi h));obtain rfl:v8=u8:=J (kp 8 (fun i hi h=>(by decide:∀ i,i<11->[11,12,13,14,15,10,16,17,2,2,3].getD i 0≠8) i hi h));obtain rfl:v9=u9:=J (kp 9 (fun i hi h=>(by decide:∀ i,i<11->[11,12,13,14,15,10,16,17,2,2,3].getD i 0≠9) i hi h));exact HQ.out x bb _ _ _ _ _ _ _ _ m1 m2 m3 m4 m5 m6 m7 m8 m9 m10 m11 m12 m13 m14 m15 hbb ku hv2 hbel
end Go.Proofs.YtkcfgbddlpomgaaGreat.Ca
