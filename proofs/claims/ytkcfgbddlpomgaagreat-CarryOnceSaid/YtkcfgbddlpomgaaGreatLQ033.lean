/-
  Messages and Outs of. Conditions as told.
-/
import Derived.Test.YtkcfgbddlpomgaaGreatLQ032
set_option maxRecDepth 100000
set_option maxHeartbeats 64000000
open _root_.Go renaming World->aD,Value->aG,Addr->aJ
open Go.IntKind renaming i64->V
open Go.Lib renaming hid->ay
open Go.Operand renaming tmp->aj
open Go.Proofs.YtkcfgbddlpomgaaGreat.Wi renaming within->L,gW->aK
open Go.RowKit.Below renaming refl->Y
open Go.Value renaming pointer->O,int->U,slice->ah,agg->aC
open _root_.List renaming getElem?_toArray->Z,getElem?_cons_zero->ak,getElem?_cons_succ->aA,map_toArray->aF,map_cons->aH,map_nil->aI
open _root_.Option renaming none->X,some->au
open Option.some renaming inj->J
open _root_.Or renaming inr->aB
namespace Go.Proofs.YtkcfgbddlpomgaaGreat
namespace Ca
open Go.RowKit Go.Sort Rw YtkcfgbddlpomgaaGreat.Nm Pr Bk Rl
def Ym (W:aD) (x:mU) (o:Ou×List An):Prop:=x.1=o.1.gH/\x.2.1=o.1.kind/\(x.2.2.1,x.2.2.2.1)=o.1.tree/\(x.2.2.2.2.1,x.2.2.2.2.2.1)=o.1.id/\fK W (dP x.2.2.2.2.2.2.1) o.1.p/\tX W (dP x.2.2.2.2.2.2.2) o.2
theorem Ym.on {W W':aD} {x:mU} {o:Ou×List An} (h:Ym W x o) (hb:Below W.heap.size W W'):Ym W' x o:=⟨h.1,h.2.1,h.2.2.1,h.2.2.2.1,h.2.2.2.2.1.on hb,h.2.2.2.2.2.on hb⟩
def DlA (W:aD) (x:yX) (o:(Int×eG)×List An):Prop:=x.1=o.1.1/\(x.2.1,x.2.2.1)=o.1.2/\tX W (dP x.2.2.2) o.2
end Ca
namespace Av
open Go.RowKit Go.Sort Rw YtkcfgbddlpomgaaGreat.Nm Pr Bk
theorem zm {P:Program} (ρ:Operand->aG) (o:Oper) (y:Operand) (k:Nat) (ho:o.op=.extract y k) {c:Array aG} {v:aG} (hx:ρ y=.tuple c) (hv:c[k]?=au v) (w:aD):(execOp ρ o).run P w=.ok (.value v) w:=by
 simp [execOp,ho,hx,hv,go_sem]
def ac3 (_:Nat) (bq:Nat) (_ _ _ z3 z4:Int) (_:Option aJ) (_ _:Nat) (_:Option aJ) (_ _:Nat) (i:Nat) (v:aG) (_:aD):Prop :=
 match i with
 | 0=>v=O (au ⟨bq,3,X⟩)
 | 1=>v=U V z3
 | 2=>v=U V (L z3 0 4)
 | 3=>v=O (au ⟨bq,4,X⟩)
 | 4=>v=U V z4
 | 5=>v=U V (L z4 0 2)
 | 6=>v=aC #[U V (L z3 0 4),U V (L z4 0 2)]
 | 7=>True
 | 8=>True
 | _=>True
noncomputable def Yn:Code:=((Tryz.f7.body.bind (eD 12)).getD .skip)
theorem afv (Q:Exit->Act->aD->Prop) (W:aD) (bq:Nat) (z0 z1 z2 z3 z4:Int) (h1:Option aJ) (h2 h3:Nat) (g1:Option aJ) (g2 g3:Nat) (u0 u1 u2 u3 u4 u5 u7 u8 u9 u10 u11 u12 u13 u14 u15 u16 u17 u18 u19 u20 u21 u22 u23 u24 u25 u26 u27 u28 u29 u30 u31 u32 u33 u34 u35 u36 u37 u38 u39 u40 u41 u42 u43 u44 u45 u46 u47 u48 u49 u50 u51 u52 u53 u54 u55 u56 u57 u58 u59 u60 u61 u62 u63 u64 u65 u66 u67 u68 u69 u70 u71 u72 u73 u74 u75 u76 u77 u78 u79 u80 u81 u82 u83 u84 u85 u86 u87 u88 u89 u90 u91 u92 u93 u94 u95 u96 u97 u98 u99 u100 u101 u102 u103 u104 u105 u106 u107 u108 u109 u110 u111 u112 u113 u114 u115 u116 u117 u118 u119 u120 u121 u122 u123:aG)
  (q:dI W bq #[U V z0,U V z1,U V z2,U V z3,U V z4,ah h1 h2 h3,ah g1 g2 g3] 83) (d3:-9223372036854775808<=z3/\z3<=9223372036854775807) (d4:-9223372036854775808<=z4/\z4<=9223372036854775807)
  (hQ:∀ (x:aD) (bb:Nat) (v46 v47 v48 v49 v50 v51 v52:aG),W.heap.size<=bb->dI x bb #[U V (L z3 0 4),U V (L z4 0 2)] 38->Below W.heap.size W x->Q .normal ⟨(u0::u1::u2::u3::u4::u5::O (au ⟨bq,0,X⟩)::u7::O (au ⟨bb,0,X⟩)::u9::u10::u11::u12::u13::u14::u15::u16::u17::u18::u19::u20::u21::u22::u23::u24::u25::u26::u27::u28::u29::u30::u31::u32::u33::u34::u35::u36::u37::u38::u39::u40::u41::u42::u43::u44::u45::v46::v47::v48::v49::v50::v51::v52::u53::u54::u55::u56::u57::u58::u59::u60::u61::u62::u63::u64::u65::u66::u67::u68::u69::u70::u71::u72::u73::u74::u75::u76::u77::u78::u79::u80::u81::u82::u83::u84::u85::u86::u87::u88::u89::u90::u91::u92::u93::u94::u95::u96::u97::u98::u99::u100::u101::u102::u103::u104::u105::u106::u107::u108::u109::u110::u111::u112::u113::u114::u115::u116::u117::u118::u119::u120::u121::u122::u123::[]).toArray,[]⟩ x) :
  Code.wp Tryz.prog Yn Q ⟨(u0::u1::u2::u3::u4::u5::O (au ⟨bq,0,X⟩)::u7::u8::u9::u10::u11::u12::u13::u14::u15::u16::u17::u18::u19::u20::u21::u22::u23::u24::u25::u26::u27::u28::u29::u30::u31::u32::u33::u34::u35::u36::u37::u38::u39::u40::u41::u42::u43::u44::u45::u46::u47::u48::u49::u50::u51::u52::u53::u54::u55::u56::u57::u58::u59::u60::u61::u62::u63::u64::u65::u66::u67::u68::u69::u70::u71::u72::u73::u74::u75::u76::u77::u78::u79::u80::u81::u82::u83::u84::u85::u86::u87::u88::u89::u90::u91::u92::u93::u94::u95::u96::u97::u98::u99::u100::u101::u102::u103::u104::u105::u106::u107::u108::u109::u110::u111::u112::u113::u114::u115::u116::u117::u118::u119::u120::u121::u122::u123::[]).toArray,[]⟩ W:=by
 have HQ:=ay hQ;have HQ6:=ay q;have D3:=ay d3;have D4:=ay d4;clear hQ q d3 d4;unfold Yn
 conv=>arg 2; whnf
 have nb6:∀ i,i<9->[46,47,48,49,50,51,52,8,8].getD i 0≠6:=by decide
 refine Rg.vY 9 7 8 6 (fun i=>[46,47,48,49,50,51,52,8,8].getD i 0) (fun i=>9) (ac3 W.heap.size bq z0 z1 z2 z3 z4 h1 h2 h3 g1 g2 g3) 38 #[U V 0,U V 0] (fun v=>match v with | aC c=>c | _=>#[]) (by kernel_rfl) (by kernel_rfl) rfl (by decide) (by decide) (by decide) (by decide) (by decide) (by decide) (by decide) (fun i j hi hj h1 h2 h=>(by decide:∀ i,i<9->∀ j,j<9->i≠8->j≠8->[46,47,48,49,50,51,52,8,8].getD i 0=[46,47,48,49,50,51,52,8,8].getD j 0->i=j) i hi j hj h1 h2 h) (fun i hi=>(by decide:∀ i,i<9->[46,47,48,49,50,51,52,8,8].getD i 0<124) i hi) ?_ ?_ ?_ ?_ ?_ ?_
 ·intro i v x x' hi h hb;rcases (by omega:i=0\/i=1\/i=2\/i=3\/i=4\/i=5\/i=6\/i=7\/i=8) with rfl|rfl|rfl|rfl|rfl|rfl|rfl|rfl|rfl
  ·exact h
  ·exact h
  ·exact h
  ·exact h
  ·exact h
  ·exact h
  ·exact h
  ·exact h
  ·exact h
 ·intro o ho;cases ho;exact⟨⟨⟨7,.data⟩,by simp,rfl,rfl⟩,⟨⟨6,.data⟩,by simp,rfl,rfl⟩⟩
 ·intro i o hi XM Pz ho a x hb seen K hK;clear HQ;rcases (by omega:i=0\/i=1\/i=2\/i=3\/i=4\/i=5\/i=6) with rfl|rfl|rfl|rfl|rfl|rfl|rfl
  ·cases ho;have e6:a.eval (aj 6)=O (au ⟨bq,0,X⟩):=seen.kp 6 _ nb6 rfl;exact Rg.dn rfl rfl (Rg.dN a.eval _ 83 (aj 6) 3 rfl (by rw [e6]; simp [go_sem])) (hK _ x rfl (Y _ _))
  ·cases ho;have e46:a.eval (aj 46)=O (au ⟨bq,3,X⟩):=seen.at_ ⟨0,.data⟩ (by simp) rfl (by decide) (by decide) (aB (by decide));have y3:=(HQ6.out.on hb).cell 3;simp only [Z,ak,aA] at y3;exact Rg.dn rfl rfl (Rg.dW a.eval _ 3 (aj 46) rfl (by rw [e46]; simp [go_sem,y3])) (hK _ x rfl (Y _ _))
  ·cases ho;have e47:a.eval (aj 47)=U V z3:=seen.at_ ⟨1,.data⟩ (by simp) rfl (by decide) (by decide) (aB (by decide));exact Rg.gI rfl rfl (Rg.yj a.eval _ (aj 47) (.const (U V 0)) (.const (U V 4)) 3 9 rfl e47 rfl rfl rfl _ (fV Tryz.func9 rfl rfl _ _)) (aK z3 0 4 x (by omega) (by omega) (by omega) D3.out.1 D3.out.2) fun e w1 h=>by
    obtain⟨rfl,rfl⟩:=h;exact⟨_,rfl,hK _ _ rfl (Y _ _)⟩
  ·cases ho;have e6:a.eval (aj 6)=O (au ⟨bq,0,X⟩):=seen.kp 6 _ nb6 rfl;exact Rg.dn rfl rfl (Rg.dN a.eval _ 83 (aj 6) 4 rfl (by rw [e6]; simp [go_sem])) (hK _ x rfl (Y _ _))
  ·cases ho;have e49:a.eval (aj 49)=O (au ⟨bq,4,X⟩):=seen.at_ ⟨3,.data⟩ (by simp) rfl (by decide) (by decide) (aB (by decide));have y4:=(HQ6.out.on hb).cell 4;simp only [Z,ak,aA] at y4;exact Rg.dn rfl rfl (Rg.dW a.eval _ 3 (aj 49) rfl (by rw [e49]; simp [go_sem,y4])) (hK _ x rfl (Y _ _))
  ·cases ho;have e50:a.eval (aj 50)=U V z4:=seen.at_ ⟨4,.data⟩ (by simp) rfl (by decide) (by decide) (aB (by decide));exact Rg.gI rfl rfl (Rg.yj a.eval _ (aj 50) (.const (U V 0)) (.const (U V 2)) 3 9 rfl e50 rfl rfl rfl _ (fV Tryz.func9 rfl rfl _ _)) (aK z4 0 2 x (by omega) (by omega) (by omega) D4.out.1 D4.out.2) fun e w1 h=>by
    obtain⟨rfl,rfl⟩:=h;exact⟨_,rfl,hK _ _ rfl (Y _ _)⟩
  ·cases ho;have e48:a.eval (aj 48)=U V (L z3 0 4):=seen.at_ ⟨2,.data⟩ (by simp) rfl (by decide) (by decide) (aB (by decide));have e51:a.eval (aj 51)=U V (L z4 0 2):=seen.at_ ⟨5,.data⟩ (by simp) rfl (by decide) (by decide) (aB (by decide));exact Rg.dn rfl rfl (Rg.jN a.eval _ 38 #[(0,aj 48),(1,aj 51)] rfl (ps:=#[(0,U V (L z3 0 4)),(1,U V (L z4 0 2))]) (by simp only [aF,aH,aI,e48,e51]) (by simp [go_sem])) (hK _ x rfl (Y _ _))
 ·intro o ho a x K hK;cases ho;exact Rg.dn rfl rfl (Rg.yx a.eval _ 38 rfl (by simp [go_sem])) hK
 ·intro o ho a x bb v D hc hD hb hA hC Sg hbb lK K hK;clear HQ;cases ho;have hv:v=aC #[U V (L z3 0 4),U V (L z4 0 2)]:=Sg;subst hv;obtain⟨x0,x1⟩:=lK.cs2;obtain⟨f0,f1⟩:=lK.fs2;have hst:(Instr.storeAt 38 (O (au ⟨bb,0,X⟩)) (aC #[U V (L z3 0 4),U V (L z4 0 2)])).run Tryz.prog x=.ok () ((x.setCell ⟨bb,0,X⟩ (U V (L z3 0 4))).setCell ⟨bb,1,X⟩ (U V (L z4 0 2))):=by simp [go_sem,x0,x1,f0,f1]
  have aa4:=dO (k:=1) (dO (k:=0) lK (U V (L z3 0 4))) (U V (L z4 0 2));refine Rg.fI 38 (aj 8) (aj 52) rfl rfl rfl rfl hA hC hst (hK _ ((hb.setCell (p:=⟨bb,0,X⟩) hbb _).setCell (p:=⟨bb,1,X⟩) hbb _) (by simpa using aa4) ?_);exact fun j u hj hjA hjS hdj hnl hls h=>by
   rcases (by omega:j=0\/j=1\/j=2\/j=3\/j=4\/j=5\/j=6) with rfl|rfl|rfl|rfl|rfl|rfl|rfl
   ·have h2:u=O (au ⟨bq,3,X⟩):=h; exact h2
   ·have h2:u=U V z3:=h; exact h2
   ·have h2:u=U V (L z3 0 4):=h; exact h2
   ·have h2:u=O (au ⟨bq,4,X⟩):=h; exact h2
   ·have h2:u=U V z4:=h; exact h2
   ·have h2:u=U V (L z4 0 2):=h; exact h2
   ·have h2:u=aC #[U V (L z3 0 4),U V (L z4 0 2)]:=h; exact h2
 ·intro a x bb v df sz kp gA gC hbb lK Sg hbel ⟨vs,hv⟩;have hv9:v=aC #[U V (L z3 0 4),U V (L z4 0 2)]:=Sg;subst hv9;have g8:a.tmps[8]?=au (O (au ⟨bb,0,X⟩)):=gA;have q8:∀ j,(j<8\/53<=j)->a.tmps[j]?=(u0::u1::u2::u3::u4::u5::O (au ⟨bq,0,X⟩)::u7::u8::u9::u10::u11::u12::u13::u14::u15::u16::u17::u18::u19::u20::u21::u22::u23::u24::u25::u26::u27::u28::u29::u30::u31::u32::u33::u34::u35::u36::u37::u38::u39::u40::u41::u42::u43::u44::u45::u46::u47::u48::u49::u50::u51::u52::u53::u54::u55::u56::u57::u58::u59::u60::u61::u62::u63::u64::u65::u66::u67::u68::u69::u70::u71::u72::u73::u74::u75::u76::u77::u78::u79::u80::u81::u82::u83::u84::u85::u86::u87::u88::u89::u90::u91::u92::u93::u94::u95::u96::u97::u98::u99::u100::u101::u102::u103::u104::u105::u106::u107::u108::u109::u110::u111::u112::u113::u114::u115::u116::u117::u118::u119::u120::u121::u122::u123::[])[j]?:=fun j hj=>(kp j (fun i hi h=>by have:=(by decide:∀ i,i<9->8<=[46,47,48,49,50,51,52,8,8].getD i 0/\[46,47,48,49,50,51,52,8,8].getD i 0<53) i hi; omega)).trans Z;obtain⟨mid,hmid,rfl⟩:=Rg.fU 8 45 df sz (by simp) q8
  match mid,hmid with
  | v8::v9::v10::v11::v12::v13::v14::v15::v16::v17::v18::v19::v20::v21::v22::v23::v24::v25::v26::v27::v28::v29::v30::v31::v32::v33::v34::v35::v36::v37::v38::v39::v40::v41::v42::v43::v44::v45::v46::v47::v48::v49::v50::v51::v52::[],_ =>
   obtain rfl:v8=O (au ⟨bb,0,X⟩):=J g8;obtain rfl:v9=u9:=J (kp 9 (fun i hi h=>(by decide:∀ i,i<9->[46,47,48,49,50,51,52,8,8].getD i 0≠9) i hi h));obtain rfl:v10=u10:=J (kp 10 (fun i hi h=>(by decide:∀ i,i<9->[46,47,48,49,50,51,52,8,8].getD i 0≠10) i hi h));obtain rfl:v11=u11:=J (kp 11 (fun i hi h=>(by decide:∀ i,i<9->[46,47,48,49,50,51,52,8,8].getD i 0≠11) i hi h));obtain rfl:v12=u12:=J (kp 12 (fun i hi h=>(by decide:∀ i,i<9->[46,47,48,49,50,51,52,8,8].getD i 0≠12) i hi h));obtain rfl:v13=u13:=J (kp 13 (fun i hi h=>(by decide:∀ i,i<9->[46,47,48,49,50,51,52,8,8].getD i 0≠13) i hi h));obtain rfl:v14=u14:=J (kp 14 (fun i hi h=>(by decide:∀ i,i<9->[46,47,48,49,50,51,52,8,8].getD i 0≠14) i hi h));obtain rfl:v15=u15:=J (kp 15 (fun i hi h=>(by decide:∀ i,i<9->[46,47,48,49,50,51,52,8,8].getD i 0≠15) i hi h));obtain rfl:v16=u16:=J (kp 16 (fun i hi h=>(by decide:∀ i,i<9->[46,47,48,49,50,51,52,8,8].getD i 0≠16) i hi h));obtain rfl:v17=u17:=J (kp 17 (fun i hi h=>(by decide:∀ i,i<9->[46,47,48,49,50,51,52,8,8].getD i 0≠17) i hi h));obtain rfl:v18=u18:=J (kp 18 (fun i hi h=>(by decide:∀ i,i<9->[46,47,48,49,50,51,52,8,8].getD i 0≠18) i hi h));obtain rfl:v19=u19:=J (kp 19 (fun i hi h=>(by decide:∀ i,i<9->[46,47,48,49,50,51,52,8,8].getD i 0≠19) i hi h));obtain rfl:v20=u20:=J (kp 20 (fun i hi h=>(by decide:∀ i,i<9->[46,47,48,49,50,51,52,8,8].getD i 0≠20) i hi h));obtain rfl:v21=u21:=J (kp 21 (fun i hi h=>(by decide:∀ i,i<9->[46,47,48,49,50,51,52,8,8].getD i 0≠21) i hi h));obtain rfl:v22=u22:=J (kp 22 (fun i hi h=>(by decide:∀ i,i<9->[46,47,48,49,50,51,52,8,8].getD i 0≠22) i hi h));obtain rfl:v23=u23:=J (kp 23 (fun i hi h=>(by decide:∀ i,i<9->[46,47,48,49,50,51,52,8,8].getD i 0≠23) i hi h));obtain rfl:v24=u24:=J (kp 24 (fun i hi h=>(by decide:∀ i,i<9->[46,47,48,49,50,51,52,8,8].getD i 0≠24) i hi h));obtain rfl:v25=u25:=J (kp 25 (fun i hi h=>(by decide:∀ i,i<9->[46,47,48,49,50,51,52,8,8].getD i 0≠25) i hi h));obtain rfl:v26=u26:=J (kp 26 (fun i hi h=>(by decide:∀ i,i<9->[46,47,48,49,50,51,52,8,8].getD i 0≠26) i hi h));obtain rfl:v27=u27:=J (kp 27 (fun i hi h=>(by decide:∀ i,i<9->[46,47,48,49,50,51,52,8,8].getD i 0≠27) i hi h));obtain rfl:v28=u28:=J (kp 28 (fun i hi h=>(by decide:∀ i,i<9->[46,47,48,49,50,51,52,8,8].getD i 0≠28) i hi h));obtain rfl:v29=u29:=J (kp 29 (fun i hi h=>(by decide:∀ i,i<9->[46,47,48,49,50,51,52,8,8].getD i 0≠29) i hi h));obtain rfl:v30=u30:=J (kp 30 (fun i hi h=>(by decide:∀ i,i<9->[46,47,48,49,50,51,52,8,8].getD i 0≠30) i hi h));obtain rfl:v31=u31:=J (kp 31 (fun i hi h=>(by decide:∀ i,i<9->[46,47,48,49,50,51,52,8,8].getD i 0≠31) i hi h));obtain rfl:v32=u32:=J (kp 32 (fun i hi h=>(by decide:∀ i,i<9->[46,47,48,49,50,51,52,8,8].getD i 0≠32) i hi h));obtain rfl:v33=u33:=J (kp 33 (fun i hi h=>(by decide:∀ i,i<9->[46,47,48,49,50,51,52,8,8].getD i 0≠33) i hi h));obtain rfl:v34=u34:=J (kp 34 (fun i hi h=>(by decide:∀ i,i<9->[46,47,48,49,50,51,52,8,8].getD i 0≠34) i hi h));obtain rfl:v35=u35:=J (kp 35 (fun i hi h=>(by decide:∀ i,i<9->[46,47,48,49,50,51,52,8,8].getD i 0≠35) i hi h));obtain rfl:v36=u36:=J (kp 36 (fun i hi h=>(by decide:∀ i,i<9->[46,47,48,49,50,51,52,8,8].getD i 0≠36) i hi h));obtain rfl:v37=u37:=J (kp 37 (fun i hi h=>(by decide:∀ i,i<9->[46,47,48,49,50,51,52,8,8].getD i 0≠37) i hi h));obtain rfl:v38=u38:=J (kp 38 (fun i hi h=>(by decide:∀ i,i<9->[46,47,48,49,50,51,52,8,8].getD i 0≠38) i hi h));obtain rfl:v39=u39:=J (kp 39 (fun i hi h=>(by decide:∀ i,i<9->[46,47,48,49,50,51,52,8,8].getD i 0≠39) i hi h));obtain rfl:v40=u40:=J (kp 40 (fun i hi h=>(by decide:∀ i,i<9->[46,47,48,49,50,51,52,8,8].getD i 0≠40) i hi h));obtain rfl:v41=u41:=J (kp 41 (fun i hi h=>(by decide:∀ i,i<9->[46,47,48,49,50,51,52,8,8].getD i 0≠41) i hi h));obtain rfl:v42=u42:=J (kp 42 (fun i hi h=>(by decide:∀ i,i<9->[46,47,48,49,50,51,52,8,8].getD i 0≠42) i hi h));obtain rfl:v43=u43:=J (kp 43 (fun i hi h=>(by decide:∀ i,i<9->[46,47,48,49,50,51,52,8,8].getD i 0≠43) i hi h));obtain rfl:v44=u44:=J (kp 44 (fun i hi h=>(by decide:∀ i,i<9->[46,47,48,49,50,51,52,8,8].getD i 0≠44) i hi h));obtain rfl:v45=u45:=J (kp 45 (fun i hi h=>(by decide:∀ i,i<9->[46,47,48,49,50,51,52,8,8].getD i 0≠45) i hi h));exact HQ.out x bb _ _ _ _ _ _ _ hbb lK hbel
def ac5 (B:Nat) (bq _ _:Nat) (z0 _ _ _ _ t1 t2 i1 i2:Int) (h1:Option aJ) (h2 h3:Nat) (g1:Option aJ) (g2 g3:Nat) (has vals:List Int) (i:Nat) (v:aG) (x:aD):Prop :=
 match i with
 | 0=>v=O (au ⟨bq,0,X⟩)
 | 1=>v=U V z0
 | 2=>v=U V (L z0 1 7)
 | 3=>v=aC #[U V t1,U V t2]
 | 4=>v=aC #[U V i1,U V i2]
 | 5=>v=O (au ⟨bq,5,X⟩)
 | 6=>v=aC #[ah h1 h2 h3,ah g1 g2 g3]
 | 7=>∃ s:Sl,v=dP s/\jO x B (dP s) ((pE has vals 7).map r5)
 | 8=>∃ s:Sl,v=aC #[U V (L z0 1 7),U V t1,U V t2,U V i1,U V i2,dP s,ah X 0 0]/\jO x B (dP s) ((pE has vals 7).map r5)
 | 9=>True
 | 10=>True
 | _=>True
noncomputable def Yo:Code:=((Tryz.f7.body.bind (eD 14)).getD .skip)
theorem afw (Q:Exit->Act->aD->Prop) (W:aD) (bq b7 b8:Nat) (z0 z1 z2 z3 z4 t1 t2 i1 i2:Int) (h1:Option aJ) (h2 h3:Nat) (g1:Option aJ) (g2 g3:Nat) (has vals:List Int) (u0 u1 u2 u3 u4 u5 u9 u10 u11 u12 u13 u14 u15 u16 u17 u18 u19 u20 u21 u22 u23 u24 u25 u26 u27 u28 u29 u30 u31 u32 u33 u34 u35 u36 u37 u38 u39 u40 u41 u42 u43 u44 u45 u46 u47 u48 u49 u50 u51 u52 u53 u54 u55 u56 u57 u58 u59 u60 u61 u62 u63 u64 u65 u66 u67 u68 u69 u70 u71 u72 u73 u74 u75 u76 u77 u78 u79 u80 u81 u82 u83 u84 u85 u86 u87 u88 u89 u90 u91 u92 u93 u94 u95 u96 u97 u98 u99 u100 u101 u102 u103 u104 u105 u106 u107 u108 u109 u110 u111 u112 u113 u114 u115 u116 u117 u118 u119 u120 u121 u122 u123:aG)
  (q:dI W bq #[U V z0,U V z1,U V z2,U V z3,U V z4,ah h1 h2 h3,ah g1 g2 g3] 83) (d0:-9223372036854775808<=z0/\z0<=9223372036854775807) (x7:dI W b7 #[U V t1,U V t2] 38) (x8:dI W b8 #[U V i1,U V i2] 38) (ih:In.jl W (ah h1 h2 h3) has) (iv:In.jl W (ah g1 g2 g3) vals) (lh:has.length<=maxLen) (lv:vals.length<=maxLen)
  (hQ:∀ (x:aD) (bb:Nat) (v57 v58 v59 v60 v61 v62 v63 v64 v65:aG) (m1:Option aJ) (m2 m3:Nat),W.heap.size<=bb->dI x bb #[U V (L z0 1 7),U V t1,U V t2,U V i1,U V i2,ah m1 m2 m3,ah X 0 0] 43->jO x W.heap.size (ah m1 m2 m3) ((pE has vals 7).map r5)->Below W.heap.size W x->Q .normal ⟨(u0::u1::u2::u3::u4::u5::O (au ⟨bq,0,X⟩)::O (au ⟨b7,0,X⟩)::O (au ⟨b8,0,X⟩)::u9::O (au ⟨bb,0,X⟩)::u11::u12::u13::u14::u15::u16::u17::u18::u19::u20::u21::u22::u23::u24::u25::u26::u27::u28::u29::u30::u31::u32::u33::u34::u35::u36::u37::u38::u39::u40::u41::u42::u43::u44::u45::u46::u47::u48::u49::u50::u51::u52::u53::u54::u55::u56::v57::v58::v59::v60::v61::v62::v63::v64::v65::u66::u67::u68::u69::u70::u71::u72::u73::u74::u75::u76::u77::u78::u79::u80::u81::u82::u83::u84::u85::u86::u87::u88::u89::u90::u91::u92::u93::u94::u95::u96::u97::u98::u99::u100::u101::u102::u103::u104::u105::u106::u107::u108::u109::u110::u111::u112::u113::u114::u115::u116::u117::u118::u119::u120::u121::u122::u123::[]).toArray,[]⟩ x) :
  Code.wp Tryz.prog Yo Q ⟨(u0::u1::u2::u3::u4::u5::O (au ⟨bq,0,X⟩)::O (au ⟨b7,0,X⟩)::O (au ⟨b8,0,X⟩)::u9::u10::u11::u12::u13::u14::u15::u16::u17::u18::u19::u20::u21::u22::u23::u24::u25::u26::u27::u28::u29::u30::u31::u32::u33::u34::u35::u36::u37::u38::u39::u40::u41::u42::u43::u44::u45::u46::u47::u48::u49::u50::u51::u52::u53::u54::u55::u56::u57::u58::u59::u60::u61::u62::u63::u64::u65::u66::u67::u68::u69::u70::u71::u72::u73::u74::u75::u76::u77::u78::u79::u80::u81::u82::u83::u84::u85::u86::u87::u88::u89::u90::u91::u92::u93::u94::u95::u96::u97::u98::u99::u100::u101::u102::u103::u104::u105::u106::u107::u108::u109::u110::u111::u112::u113::u114::u115::u116::u117::u118::u119::u120::u121::u122::u123::[]).toArray,[]⟩ W:=by
 have HQ:=ay hQ;have HQ6:=ay q;have D0:=ay d0;have H7:=ay x7;have H8:=ay x8;have IH:=ay ih;have IV:=ay iv;have LH:=ay lh;have LV:=ay lv;clear hQ q d0 x7 x8 ih iv lh lv;unfold Yo
 conv=>arg 2; whnf
 have nb6:∀ i,i<11->[57,58,59,60,61,62,63,64,65,10,10].getD i 0≠6:=by decide
 have nb7:∀ i,i<11->[57,58,59,60,61,62,63,64,65,10,10].getD i 0≠7:=by decide
 have nb8:∀ i,i<11->[57,58,59,60,61,62,63,64,65,10,10].getD i 0≠8:=by decide
 refine Rg.vY 11 9 10 8 (fun i=>[57,58,59,60,61,62,63,64,65,10,10].getD i 0) (fun i=>if i=7 then 8 else 11) (ac5 W.heap.size bq b7 b8 z0 z1 z2 z3 z4 t1 t2 i1 i2 h1 h2 h3 g1 g2 g3 has vals) 43 #[U V 0,U V 0,U V 0,U V 0,U V 0,ah X 0 0,ah X 0 0] (fun v=>match v with | aC c=>c | _=>#[]) (by kernel_rfl) (by kernel_rfl) rfl (by decide) (by decide) (by decide) (by decide) (by decide) (by decide) (by decide) (fun i j hi hj h1 h2 h=>(by decide:∀ i,i<11->∀ j,j<11->i≠10->j≠10->[57,58,59,60,61,62,63,64,65,10,10].getD i 0=[57,58,59,60,61,62,63,64,65,10,10].getD j 0->i=j) i hi j hj h1 h2 h) (fun i hi=>(by decide:∀ i,i<11->[57,58,59,60,61,62,63,64,65,10,10].getD i 0<124) i hi) ?_ ?_ ?_ ?_ ?_ ?_
 ·intro i v x x' hi h hb;rcases (by omega:i=0\/i=1\/i=2\/i=3\/i=4\/i=5\/i=6\/i=7\/i=8\/i=9\/i=10) with rfl|rfl|rfl|rfl|rfl|rfl|rfl|rfl|rfl|rfl|rfl
  ·exact h
  ·exact h
  ·exact h
  ·exact h
  ·exact h
  ·exact h
  ·exact h
  ·obtain⟨s,h1,h2⟩:=h; exact⟨s,h1,Bk.dx h2 hb⟩
  ·obtain⟨s,h1,h2⟩:=h; exact⟨s,h1,Bk.dx h2 hb⟩
  ·exact h
  ·exact h
 ·intro o ho;cases ho;exact⟨⟨⟨9,.data⟩,by simp,rfl,rfl⟩,⟨⟨8,.data⟩,by simp,rfl,rfl⟩⟩
 ·intro i o hi XM Pz ho a x hb seen K hK;clear HQ;rcases (by omega:i=0\/i=1\/i=2\/i=3\/i=4\/i=5\/i=6\/i=7\/i=8) with rfl|rfl|rfl|rfl|rfl|rfl|rfl|rfl|rfl
  ·cases ho;have e6:a.eval (aj 6)=O (au ⟨bq,0,X⟩):=seen.kp 6 _ nb6 rfl;exact Rg.dn rfl rfl (Rg.dN a.eval _ 83 (aj 6) 0 rfl (by rw [e6]; simp [go_sem])) (hK _ x rfl (Y _ _))
  ·cases ho;have e57:a.eval (aj 57)=O (au ⟨bq,0,X⟩):=seen.at_ ⟨0,.data⟩ (by simp) rfl (by decide) (by decide) (aB (by decide));have y0:=(HQ6.out.on hb).cell 0;simp only [Z,ak] at y0;exact Rg.dn rfl rfl (Rg.dW a.eval _ 3 (aj 57) rfl (by rw [e57]; simp [go_sem,y0])) (hK _ x rfl (Y _ _))
  ·cases ho;have e58:a.eval (aj 58)=U V z0:=seen.at_ ⟨1,.data⟩ (by simp) rfl (by decide) (by decide) (aB (by decide));exact Rg.gI rfl rfl (Rg.yj a.eval _ (aj 58) (.const (U V 1)) (.const (U V 7)) 3 9 rfl e58 rfl rfl rfl _ (fV Tryz.func9 rfl rfl _ _)) (aK z0 1 7 x (by omega) (by omega) (by omega) D0.out.1 D0.out.2) fun e w1 h=>by
    obtain⟨rfl,rfl⟩:=h;exact⟨_,rfl,hK _ _ rfl (Y _ _)⟩
  ·cases ho;have e7:a.eval (aj 7)=O (au ⟨b7,0,X⟩):=seen.kp 7 _ nb7 rfl;obtain⟨y0,y1⟩:=(H7.out.on hb).cs2;exact Rg.dn rfl rfl (Rg.dW a.eval _ 38 (aj 7) rfl (by rw [e7]; simp [go_sem,y0,y1])) (hK _ x rfl (Y _ _))
  ·cases ho;have e8:a.eval (aj 8)=O (au ⟨b8,0,X⟩):=seen.kp 8 _ nb8 rfl;obtain⟨y0,y1⟩:=(H8.out.on hb).cs2;exact Rg.dn rfl rfl (Rg.dW a.eval _ 38 (aj 8) rfl (by rw [e8]; simp [go_sem,y0,y1])) (hK _ x rfl (Y _ _))
  ·cases ho;have e6:a.eval (aj 6)=O (au ⟨bq,0,X⟩):=seen.kp 6 _ nb6 rfl;exact Rg.dn rfl rfl (Rg.dN a.eval _ 83 (aj 6) 5 rfl (by rw [e6]; simp [go_sem])) (hK _ x rfl (Y _ _))
  ·cases ho;have e62:a.eval (aj 62)=O (au ⟨bq,5,X⟩):=seen.at_ ⟨5,.data⟩ (by simp) rfl (by decide) (by decide) (aB (by decide));have y5:=(HQ6.out.on hb).cell 5;have y6:=(HQ6.out.on hb).cell 6;simp only [Z,ak,aA] at y5 y6;exact Rg.dn rfl rfl (Rg.dW a.eval _ 72 (aj 62) rfl (by rw [e62]; simp [go_sem,y5,y6])) (hK _ x rfl (Y _ _))
  ·cases ho;have e63:a.eval (aj 63)=aC #[ah h1 h2 h3,ah g1 g2 g3]:=seen.at_ ⟨6,.data⟩ (by simp) rfl (by decide) (by decide) (aB (by decide));exact Rg.gI rfl rfl (Rw.iJ a.eval _ (aj 63) 72 23 rfl e63 rfl _ (fV Tryz.func23 rfl rfl _ _)) (Qs (ah h1 h2 h3) (ah g1 g2 g3) has vals x (IH.out.on hb) (IV.out.on hb) LH.out LV.out) fun e w1 h=>by
    obtain⟨v,rfl,q1,q2⟩:=h;obtain⟨a1,a2,hvv⟩:=(Row.dw q1).len;have q3:=dG q1 hb.size;rw [hvv] at q3;exact⟨_,rfl,hK _ _ ⟨(a1,_,a2),hvv,q3⟩ q2⟩
  ·cases ho;have e59:a.eval (aj 59)=U V (L z0 1 7):=seen.at_ ⟨2,.data⟩ (by simp) rfl (by decide) (by decide) (aB (by decide));have e60:a.eval (aj 60)=aC #[U V t1,U V t2]:=seen.at_ ⟨3,.data⟩ (by simp) rfl (by decide) (by decide) (aB (by decide));have e61:a.eval (aj 61)=aC #[U V i1,U V i2]:=seen.at_ ⟨4,.data⟩ (by simp) rfl (by decide) (by decide) (aB (by decide));have E64:=seen.at_ ⟨7,.data⟩ (by simp) rfl (by decide) (by decide) (Or.inl rfl);obtain⟨s,q0,q1⟩:=E64;have q0:a.eval (aj 64)=dP s:=q0;exact Rg.dn rfl rfl (Rg.jN a.eval _ 43 #[(0,aj 59),(1,aj 60),(2,aj 61),(3,aj 64)] rfl (ps:=#[(0,U V (L z0 1 7)),(1,aC #[U V t1,U V t2]),(2,aC #[U V i1,U V i2]),(3,dP s)]) (by simp only [aF,aH,aI,e59,e60,e61,q0]) (by simp [go_sem])) (hK _ x ⟨s,rfl,q1⟩ (Y _ _))
 ·intro o ho a x K hK;cases ho;exact Rg.dn rfl rfl (Rg.yx a.eval _ 43 rfl (by simp [go_sem])) hK
 ·intro o ho a x bb v D hc hD hb hA hC Sg hbb lK K hK;clear HQ;cases ho;obtain⟨⟨m1,m2,m3⟩,hv1,hv2⟩:=Sg;subst hv1;obtain⟨x0,x1,x2,x3,x4,x5,x6⟩:=lK.oq;obtain⟨f0,f1,f2,f3,f4,f5,f6⟩:=lK.fs7;have hst:(Instr.storeAt 43 (O (au ⟨bb,0,X⟩)) (aC #[U V (L z0 1 7),U V t1,U V t2,U V i1,U V i2,ah m1 m2 m3,ah X 0 0])).run Tryz.prog x=.ok () (((((((x.setCell ⟨bb,0,X⟩ (U V (L z0 1 7))).setCell ⟨bb,1,X⟩ (U V t1)).setCell ⟨bb,2,X⟩ (U V t2)).setCell ⟨bb,3,X⟩ (U V i1)).setCell ⟨bb,4,X⟩ (U V i2)).setCell ⟨bb,5,X⟩ (ah m1 m2 m3)).setCell ⟨bb,6,X⟩ (ah X 0 0)):=by simp [go_sem,x0,x1,x2,x3,x4,x5,x6,f0,f1,f2,f3,f4,f5,f6]
  have aa4:=dO (k:=6) (dO (k:=5) (dO (k:=4) (dO (k:=3) (dO (k:=2) (dO (k:=1) (dO (k:=0) lK (U V (L z0 1 7))) (U V t1)) (U V t2)) (U V i1)) (U V i2)) (ah m1 m2 m3)) (ah X 0 0);have WJ:But bb x (((((((x.setCell ⟨bb,0,X⟩ (U V (L z0 1 7))).setCell ⟨bb,1,X⟩ (U V t1)).setCell ⟨bb,2,X⟩ (U V t2)).setCell ⟨bb,3,X⟩ (U V i1)).setCell ⟨bb,4,X⟩ (U V i2)).setCell ⟨bb,5,X⟩ (ah m1 m2 m3)).setCell ⟨bb,6,X⟩ (ah X 0 0)):=(((((((dR _ bb _ _).trans (dR _ bb _ _)).trans (dR _ bb _ _)).trans (dR _ bb _ _)).trans (dR _ bb _ _)).trans (dR _ bb _ _)).trans (dR _ bb _ _));refine Rg.fI 43 (aj 10) (aj 65) rfl rfl rfl rfl hA hC hst (hK _ (((((((hb.setCell (p:=⟨bb,0,X⟩) hbb _).setCell (p:=⟨bb,1,X⟩) hbb _).setCell (p:=⟨bb,2,X⟩) hbb _).setCell (p:=⟨bb,3,X⟩) hbb _).setCell (p:=⟨bb,4,X⟩) hbb _).setCell (p:=⟨bb,5,X⟩) hbb _).setCell (p:=⟨bb,6,X⟩) hbb _) (by simpa using aa4) ?_);exact fun j u hj hjA hjS hdj hnl hls h=>by
   rcases (by omega:j=0\/j=1\/j=2\/j=3\/j=4\/j=5\/j=6\/j=7\/j=8) with rfl|rfl|rfl|rfl|rfl|rfl|rfl|rfl|rfl
   ·have h2:u=O (au ⟨bq,0,X⟩):=h; exact h2
   ·have h2:u=U V z0:=h; exact h2
   ·have h2:u=U V (L z0 1 7):=h; exact h2
   ·have h2:u=aC #[U V t1,U V t2]:=h; exact h2
   ·have h2:u=aC #[U V i1,U V i2]:=h; exact h2
   ·have h2:u=O (au ⟨bq,5,X⟩):=h; exact h2
   ·have h2:u=aC #[ah h1 h2 h3,ah g1 g2 g3]:=h; exact h2
   ·exact absurd (hD ⟨8,.data⟩ (by simp) rfl) hnl
   ·obtain⟨s,h1,h2⟩:=h; exact⟨s,h1,WJ.own h2 lK (by decide)⟩
 ·intro a x bb v df sz kp gA gC hbb lK Sg hbel ⟨vs,hv⟩;obtain⟨⟨m1,m2,m3⟩,hv1,hv2⟩:=Sg;subst hv1;have g10:a.tmps[10]?=au (O (au ⟨bb,0,X⟩)):=gA;have q8:∀ j,(j<10\/66<=j)->a.tmps[j]?=(u0::u1::u2::u3::u4::u5::O (au ⟨bq,0,X⟩)::O (au ⟨b7,0,X⟩)::O (au ⟨b8,0,X⟩)::u9::u10::u11::u12::u13::u14::u15::u16::u17::u18::u19::u20::u21::u22::u23::u24::u25::u26::u27::u28::u29::u30::u31::u32::u33::u34::u35::u36::u37::u38::u39::u40::u41::u42::u43::u44::u45::u46::u47::u48::u49::u50::u51::u52::u53::u54::u55::u56::u57::u58::u59::u60::u61::u62::u63::u64::u65::u66::u67::u68::u69::u70::u71::u72::u73::u74::u75::u76::u77::u78::u79::u80::u81::u82::u83::u84::u85::u86::u87::u88::u89::u90::u91::u92::u93::u94::u95::u96::u97::u98::u99::u100::u101::u102::u103::u104::u105::u106::u107::u108::u109::u110::u111::u112::u113::u114::u115::u116::u117::u118::u119::u120::u121::u122::u123::[])[j]?:=fun j hj=>(kp j (fun i hi h=>by have:=(by decide:∀ i,i<11->10<=[57,58,59,60,61,62,63,64,65,10,10].getD i 0/\[57,58,59,60,61,62,63,64,65,10,10].getD i 0<66) i hi; omega)).trans Z;obtain⟨mid,hmid,rfl⟩:=Rg.fU 10 56 df sz (by simp) q8
  match mid,hmid with
  | v10::v11::v12::v13::v14::v15::v16::v17::v18::v19::v20::v21::v22::v23::v24::v25::v26::v27::v28::v29::v30::v31::v32::v33::v34::v35::v36::v37::v38::v39::v40::v41::v42::v43::v44::v45::v46::v47::v48::v49::v50::v51::v52::v53::v54::v55::v56::v57::v58::v59::v60::v61::v62::v63::v64::v65::[],_ =>
   obtain rfl:v10=O (au ⟨bb,0,X⟩):=J g10;obtain rfl:v11=u11:=J (kp 11 (fun i hi h=>(by decide:∀ i,i<11->[57,58,59,60,61,62,63,64,65,10,10].getD i 0≠11) i hi h));obtain rfl:v12=u12:=J (kp 12 (fun i hi h=>(by decide:∀ i,i<11->[57,58,59,60,61,62,63,64,65,10,10].getD i 0≠12) i hi h));obtain rfl:v13=u13:=J (kp 13 (fun i hi h=>(by decide:∀ i,i<11->[57,58,59,60,61,62,63,64,65,10,10].getD i 0≠13) i hi h));obtain rfl:v14=u14:=J (kp 14 (fun i hi h=>(by decide:∀ i,i<11->[57,58,59,60,61,62,63,64,65,10,10].getD i 0≠14) i hi h));obtain rfl:v15=u15:=J (kp 15 (fun i hi h=>(by decide:∀ i,i<11->[57,58,59,60,61,62,63,64,65,10,10].getD i 0≠15) i hi h));obtain rfl:v16=u16:=J (kp 16 (fun i hi h=>(by decide:∀ i,i<11->[57,58,59,60,61,62,63,64,65,10,10].getD i 0≠16) i hi h));obtain rfl:v17=u17:=J (kp 17 (fun i hi h=>(by decide:∀ i,i<11->[57,58,59,60,61,62,63,64,65,10,10].getD i 0≠17) i hi h));obtain rfl:v18=u18:=J (kp 18 (fun i hi h=>(by decide:∀ i,i<11->[57,58,59,60,61,62,63,64,65,10,10].getD i 0≠18) i hi h));obtain rfl:v19=u19:=J (kp 19 (fun i hi h=>(by decide:∀ i,i<11->[57,58,59,60,61,62,63,64,65,10,10].getD i 0≠19) i hi h));obtain rfl:v20=u20:=J (kp 20 (fun i hi h=>(by decide:∀ i,i<11->[57,58,59,60,61,62,63,64,65,10,10].getD i 0≠20) i hi h));obtain rfl:v21=u21:=J (kp 21 (fun i hi h=>(by decide:∀ i,i<11->[57,58,59,60,61,62,63,64,65,10,10].getD i 0≠21) i hi h));obtain rfl:v22=u22:=J (kp 22 (fun i hi h=>(by decide:∀ i,i<11->[57,58,59,60,61,62,63,64,65,10,10].getD i 0≠22) i hi h));obtain rfl:v23=u23:=J (kp 23 (fun i hi h=>(by decide:∀ i,i<11->[57,58,59,60,61,62,63,64,65,10,10].getD i 0≠23) i hi h));obtain rfl:v24=u24:=J (kp 24 (fun i hi h=>(by decide:∀ i,i<11->[57,58,59,60,61,62,63,64,65,10,10].getD i 0≠24) i hi h));obtain rfl:v25=u25:=J (kp 25 (fun i hi h=>(by decide:∀ i,i<11->[57,58,59,60,61,62,63,64,65,10,10].getD i 0≠25) i hi h));obtain rfl:v26=u26:=J (kp 26 (fun i hi h=>(by decide:∀ i,i<11->[57,58,59,60,61,62,63,64,65,10,10].getD i 0≠26) i hi h));obtain rfl:v27=u27:=J (kp 27 (fun i hi h=>(by decide:∀ i,i<11->[57,58,59,60,61,62,63,64,65,10,10].getD i 0≠27) i hi h));obtain rfl:v28=u28:=J (kp 28 (fun i hi h=>(by decide:∀ i,i<11->[57,58,59,60,61,62,63,64,65,10,10].getD i 0≠28) i hi h));obtain rfl:v29=u29:=J (kp 29 (fun i hi h=>(by decide:∀ i,i<11->[57,58,59,60,61,62,63,64,65,10,10].getD i 0≠29) i hi h));obtain rfl:v30=u30:=J (kp 30 (fun i hi h=>(by decide:∀ i,i<11->[57,58,59,60,61,62,63,64,65,10,10].getD i 0≠30) i hi h));obtain rfl:v31=u31:=J (kp 31 (fun i hi h=>(by decide:∀ i,i<11->[57,58,59,60,61,62,63,64,65,10,10].getD i 0≠31) i hi h));obtain rfl:v32=u32:=J (kp 32 (fun i hi h=>(by decide:∀ i,i<11->[57,58,59,60,61,62,63,64,65,10,10].getD i 0≠32) i hi h));obtain rfl:v33=u33:=J (kp 33 (fun i hi h=>(by decide:∀ i,i<11->[57,58,59,60,61,62,63,64,65,10,10].getD i 0≠33) i hi h));obtain rfl:v34=u34:=J (kp 34 (fun i hi h=>(by decide:∀ i,i<11->[57,58,59,60,61,62,63,64,65,10,10].getD i 0≠34) i hi h));obtain rfl:v35=u35:=J (kp 35 (fun i hi h=>(by decide:∀ i,i<11->[57,58,59,60,61,62,63,64,65,10,10].getD i 0≠35) i hi h));obtain rfl:v36=u36:=J (kp 36 (fun i hi h=>(by decide:∀ i,i<11->[57,58,59,60,61,62,63,64,65,10,10].getD i 0≠36) i hi h));obtain rfl:v37=u37:=J (kp 37 (fun i hi h=>(by decide:∀ i,i<11->[57,58,59,60,61,62,63,64,65,10,10].getD i 0≠37) i hi h));obtain rfl:v38=u38:=J (kp 38 (fun i hi h=>(by decide:∀ i,i<11->[57,58,59,60,61,62,63,64,65,10,10].getD i 0≠38) i hi h));obtain rfl:v39=u39:=J (kp 39 (fun i hi h=>(by decide:∀ i,i<11->[57,58,59,60,61,62,63,64,65,10,10].getD i 0≠39) i hi h));obtain rfl:v40=u40:=J (kp 40 (fun i hi h=>(by decide:∀ i,i<11->[57,58,59,60,61,62,63,64,65,10,10].getD i 0≠40) i hi h));obtain rfl:v41=u41:=J (kp 41 (fun i hi h=>(by decide:∀ i,i<11->[57,58,59,60,61,62,63,64,65,10,10].getD i 0≠41) i hi h));obtain rfl:v42=u42:=J (kp 42 (fun i hi h=>(by decide:∀ i,i<11->[57,58,59,60,61,62,63,64,65,10,10].getD i 0≠42) i hi h));obtain rfl:v43=u43:=J (kp 43 (fun i hi h=>(by decide:∀ i,i<11->[57,58,59,60,61,62,63,64,65,10,10].getD i 0≠43) i hi h));obtain rfl:v44=u44:=J (kp 44 (fun i hi h=>(by decide:∀ i,i<11->[57,58,59,60,61,62,63,64,65,10,10].getD i 0≠44) i hi h));obtain rfl:v45=u45:=J (kp 45 (fun i hi h=>(by decide:∀ i,i<11->[57,58,59,60,61,62,63,64,65,10,10].getD i 0≠45) i hi h));obtain rfl:v46=u46:=J (kp 46 (fun i hi h=>(by decide:∀ i,i<11->[57,58,59,60,61,62,63,64,65,10,10].getD i 0≠46) i hi h));obtain rfl:v47=u47:=J (kp 47 (fun i hi h=>(by decide:∀ i,i<11->[57,58,59,60,61,62,63,64,65,10,10].getD i 0≠47) i hi h));obtain rfl:v48=u48:=J (kp 48 (fun i hi h=>(by decide:∀ i,i<11->[57,58,59,60,61,62,63,64,65,10,10].getD i 0≠48) i hi h));obtain rfl:v49=u49:=J (kp 49 (fun i hi h=>(by decide:∀ i,i<11->[57,58,59,60,61,62,63,64,65,10,10].getD i 0≠49) i hi h));obtain rfl:v50=u50:=J (kp 50 (fun i hi h=>(by decide:∀ i,i<11->[57,58,59,60,61,62,63,64,65,10,10].getD i 0≠50) i hi h));obtain rfl:v51=u51:=J (kp 51 (fun i hi h=>(by decide:∀ i,i<11->[57,58,59,60,61,62,63,64,65,10,10].getD i 0≠51) i hi h));obtain rfl:v52=u52:=J (kp 52 (fun i hi h=>(by decide:∀ i,i<11->[57,58,59,60,61,62,63,64,65,10,10].getD i 0≠52) i hi h));obtain rfl:v53=u53:=J (kp 53 (fun i hi h=>(by decide:∀ i,i<11->[57,58,59,60,61,62,63,64,65,10,10].getD i 0≠53) i hi h));obtain rfl:v54=u54:=J (kp 54 (fun i hi h=>(by decide:∀ i,i<11->[57,58,59,60,61,62,63,64,65,10,10].getD i 0≠54) i hi h));obtain rfl:v55=u55:=J (kp 55 (fun i hi h=>(by decide:∀ i,i<11->[57,58,59,60,61,62,63,64,65,10,10].getD i 0≠55) i hi h));obtain rfl:v56=u56:=J (kp 56 (fun i hi h=>(by decide:∀ i,i<11->[57,58,59,60,61,62,63,64,65,10,10].getD i 0≠56) i hi h));exact HQ.out x bb _ _ _ _ _ _ _ _ _ m1 m2 m3 hbb lK hv2 hbel
end Av
namespace Rl
open Go.RowKit Go.Sort Pu Rw Pr Va
end Rl
namespace Bk
open Go.RowKit Go.Sort Rw YtkcfgbddlpomgaaGreat.Nm Pr
end Bk
end Go.Proofs.YtkcfgbddlpomgaaGreat
