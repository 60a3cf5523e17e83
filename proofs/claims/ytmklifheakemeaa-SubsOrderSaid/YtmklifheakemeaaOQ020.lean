/-
  The region of Copy i. Conditions as told.
-/
import Derived.Test.YtmklifheakemeaaOQ013
import Derived.Test.YtmklifheakemeaaOQ014
set_option maxRecDepth 100000
set_option maxHeartbeats 64000000
open _root_.Go renaming Value->aA,World->aF,Addr->aG
open Go.IntKind renaming i64->aC
open Go.Lib renaming hid->aj
open Go.Operand renaming tmp->ah
open Go.Proofs.Ytmklifheakemeaa.Rg renaming dw->au,eO->aH,dD->aI,eu->aJ,fJ->aK,get_put->aL,eZ->aM,fI->aN,eD->aO,iw->aP,gI->aQ,jy->aR,fO->aS
open Go.RowKit.Below renaming refl->U,heap_setCell->aD
open Go.Value renaming pointer->J,slice->L,int->aB
open _root_.List renaming getElem?_toArray->O,getElem?_cons_zero->X,getElem?_cons_succ->Y,getElem?_eq_some_iff->ay
open _root_.Option renaming some->V,none->Z
open _root_.Or renaming inr->ak
namespace Go.Proofs.Ytmklifheakemeaa
namespace Av
open Go.RowKit Go.Sort Rw Ytmklifheakemeaa.Nm Pr Bk
def Fj (B:Nat) (b1:Nat) (_me:Int) (_z2 _z4 _z5:aA) (o1:Option aG) (n1 c1:Nat) (nl:List Int) (o3:Option aG) (n3 c3:Nat) (sl:List dW) (i:Nat) (v:aA) (x:aF):Prop :=
 match i with
 | 0=>v=J (V ⟨b1,1,Z⟩)
 | 1=>v=L o1 n1 c1
 | 2=>∃ s:Sl,v=dO s/\oK x B v nl
 | 3=>v=J (V ⟨b1,3,Z⟩)
 | 4=>v=L o3 n3 c3
 | 5=>∃ s:Sl,v=dO s/\uf x B v sl
 | 6=>v=J (V ⟨b1,1,Z⟩)
 | _=>True
noncomputable def KP:Code:=((Try.f19.body.bind (dU 1)).getD .skip)
theorem Fp (B:Nat) (b1:Nat) (me:Int) (z2 z4 z5:aA) (o1:Option aG) (n1 c1:Nat) (nl:List Int) (o3:Option aG) (n3 c3:Nat) (sl:List dW) (i:Nat) (v:aA) (x x':aF) (h:Fj B b1 me z2 z4 z5 o1 n1 c1 nl o3 n3 c3 sl i v x) (hb:Below x.heap.size x x'):Fj B b1 me z2 z4 z5 o1 n1 c1 nl o3 n3 c3 sl i v x':=by
 by_cases hi:i<7
 ·rcases (by omega:i=0\/i=1\/i=2\/i=3\/i=4\/i=5\/i=6) with rfl|rfl|rfl|rfl|rfl|rfl|rfl
  ·exact h
  ·exact h
  ·obtain⟨s,h1,h2⟩:=h; exact⟨s,h1,Bk.dB h2 hb⟩
  ·exact h
  ·exact h
  ·obtain⟨s,h1,h2⟩:=h; exact⟨s,h1,Bk.dB h2 hb⟩
  ·exact h
 ·unfold Fj
  split <;> first | omega | trivial
theorem Rc (Q:Exit->Act->aF->Prop) (W:aF) (b1:Nat) (me:Int) (z2 z4 z5:aA) (o1:Option aG) (n1 c1:Nat) (nl:List Int) (o3:Option aG) (n3 c3:Nat) (sl:List dW) (u0 u2 u3 u4 u5 u6 u7 u8 u9 u10 u11 u12 u13 u14 u15 u16 u17 u18 u19 u20 u21 u22 u23 u24 u25 u26 u27 u28 u29 u30 u31 u32 u33 u34 u35 u36 u37 u38 u39 u40 u41 u42 u43 u44 u45 u46 u47 u48 u49 u50 u51 u52 u53 u54 u55 u56 u57 u58 u59 u60 u61 u62 u63 u64 u65 u66 u67 u68 u69 u70 u71 u72 u73 u74 u75 u76 u77 u78 u79 u80 u81:aA)
  (h1:dz W b1 #[aB aC me,L o1 n1 c1,z2,L o3 n3 c3,z4,z5] 31) (r1:qz W (L o1 n1 c1) nl) (r3:sM W (L o3 n3 c3) sl) (l1:nl.length<=900) (l3:sl.length<=900)
  (hQ:∀ (x:aF) (v6 v7 v8 v9 v10 v11 v12 v13:aA) (p1:Option aG) (q1 s1:Nat) (p3:Option aG) (q3 s3:Nat),dz x b1 #[aB aC me,L p1 q1 s1,z2,L p3 q3 s3,z4,z5] 31->oK x W.heap.size (L p1 q1 s1) nl->uf x W.heap.size (L p3 q3 s3) sl->(∀ B,B<=b1->Below B W x)->(∀ k,k<W.heap.size->k≠b1->x.heap[k]?=W.heap[k]?)->Q .normal ⟨(u0::J (V ⟨b1,0,Z⟩)::u2::u3::u4::u5::v6::v7::v8::v9::v10::v11::v12::v13::u14::u15::u16::u17::u18::u19::u20::u21::u22::u23::u24::u25::u26::u27::u28::u29::u30::u31::u32::u33::u34::u35::u36::u37::u38::u39::u40::u41::u42::u43::u44::u45::u46::u47::u48::u49::u50::u51::u52::u53::u54::u55::u56::u57::u58::u59::u60::u61::u62::u63::u64::u65::u66::u67::u68::u69::u70::u71::u72::u73::u74::u75::u76::u77::u78::u79::u80::u81::[]).toArray,[]⟩ x) :
  Code.wp Try.prog KP Q ⟨(u0::J (V ⟨b1,0,Z⟩)::u2::u3::u4::u5::u6::u7::u8::u9::u10::u11::u12::u13::u14::u15::u16::u17::u18::u19::u20::u21::u22::u23::u24::u25::u26::u27::u28::u29::u30::u31::u32::u33::u34::u35::u36::u37::u38::u39::u40::u41::u42::u43::u44::u45::u46::u47::u48::u49::u50::u51::u52::u53::u54::u55::u56::u57::u58::u59::u60::u61::u62::u63::u64::u65::u66::u67::u68::u69::u70::u71::u72::u73::u74::u75::u76::u77::u78::u79::u80::u81::[]).toArray,[]⟩ W:=by
 have HQ:=aj hQ;have H1:=aj h1;have R1:=aj r1;have R3:=aj r3;have L1:=aj l1;have L3:=aj l3;clear hQ h1 r1 r3 l1 l3;have jG:=Fp W.heap.size b1 me z2 z4 z5 o1 n1 c1 nl o3 n3 c3 sl;unfold KP
 conv=>arg 2; whnf
 have nd:∀ j,(j<6\/13<=j)->∀ i,i<7->(fun i=>6+i) i≠j:=by
  intro j hj i hi h;simp only at h;omega
 refine aQ 10 7 (fun i=>6+i) (fun _=>7) (Fj W.heap.size b1 me z2 z4 z5 o1 n1 c1 nl o3 n3 c3 sl) (by kernel_rfl) (by kernel_rfl) rfl (by decide) (fun i j _ _ h=>by have h2:6+i=6+j:=h; omega) (fun i hi=>by show 6+i<82; omega) ?_ (fun _=>aR 14 (by kernel_rfl)) ?_ ?_
 ·intro i o hi ho a x D hnd hc hD hb seen K hK;clear HQ;rcases (by omega:i=0\/i=1\/i=2\/i=3\/i=4\/i=5\/i=6) with rfl|rfl|rfl|rfl|rfl|rfl|rfl
  ·cases ho;have e1:a.eval (ah 1)=J (V ⟨b1,0,Z⟩):=seen.kp 1 _ (nd 1 (by omega)) rfl;exact au rfl rfl (aH a.eval _ 31 (ah 1) 1 rfl (by rw [e1]; simp [go_sem])) (hK _ _ rfl (U _ _) fun _ _ _ _ _ _ _ h=>h)
  ·cases ho;have e6:a.eval (ah 6)=J (V ⟨b1,1,Z⟩):=seen.at_ ⟨0,.data⟩ (by simp) rfl (ak (by decide));have y1:=(H1.out.on hb).cell 1;simp only [O,X,Y] at y1;exact au rfl rfl (aJ a.eval _ 23 (ah 6) rfl (by rw [e6]; simp [go_sem,y1])) (hK _ _ rfl (U _ _) fun _ _ _ _ _ _ _ h=>h)
  ·cases ho;have e7:a.eval (ah 7)=L o1 n1 c1:=seen.at_ ⟨1,.data⟩ (by simp) rfl (ak (by decide));exact aM rfl rfl (Rw.gU a.eval _ (ah 7) 23 25 rfl e7 rfl _ (eG Try.func25 rfl rfl _ _)) (oW (o1,n1,c1) nl x (R1.out.on hb) L1.out) fun e w1 h=>by
    obtain⟨⟨s,rfl,h1⟩,h3⟩:=h;exact⟨_,rfl,hK _ _ ⟨s,rfl,dF h1 hb.size⟩ (h3.mono hb.size) fun j u hj _ _ _ hne h=>jG j u _ _ h h3⟩
  ·cases ho;have e1:a.eval (ah 1)=J (V ⟨b1,0,Z⟩):=seen.kp 1 _ (nd 1 (by omega)) rfl;exact au rfl rfl (aH a.eval _ 31 (ah 1) 3 rfl (by rw [e1]; simp [go_sem])) (hK _ _ rfl (U _ _) fun _ _ _ _ _ _ _ h=>h)
  ·cases ho;have e9:a.eval (ah 9)=J (V ⟨b1,3,Z⟩):=seen.at_ ⟨3,.data⟩ (by simp) rfl (ak (by decide));have y3:=(H1.out.on hb).cell 3;simp only [O,X,Y] at y3;exact au rfl rfl (aJ a.eval _ 27 (ah 9) rfl (by rw [e9]; simp [go_sem,y3])) (hK _ _ rfl (U _ _) fun _ _ _ _ _ _ _ h=>h)
  ·cases ho;have e10:a.eval (ah 10)=L o3 n3 c3:=seen.at_ ⟨4,.data⟩ (by simp) rfl (ak (by decide));exact aM rfl rfl (Rw.gU a.eval _ (ah 10) 27 44 rfl e10 rfl _ (eG Try.func44 rfl rfl _ _)) (vZ (o3,n3,c3) sl x (R3.out.on hb) L3.out) fun e w1 h=>by
    obtain⟨⟨s,rfl,h1⟩,h3⟩:=h;exact⟨_,rfl,hK _ _ ⟨s,rfl,dF h1 hb.size⟩ (h3.mono hb.size) fun j u hj _ _ _ hne h=>jG j u _ _ h h3⟩
  ·cases ho;have e1:a.eval (ah 1)=J (V ⟨b1,0,Z⟩):=seen.kp 1 _ (nd 1 (by omega)) rfl;exact au rfl rfl (aH a.eval _ 31 (ah 1) 1 rfl (by rw [e1]; simp [go_sem])) (hK _ _ rfl (U _ _) fun _ _ _ _ _ _ _ h=>h)
 ·intro kk o h1 h2 ho;rcases (by omega:kk=8\/kk=9) with rfl|rfl
  ·cases ho;exact⟨⟨7,.phase⟩,by simp,rfl,rfl⟩
  ·cases ho;exact⟨⟨8,.data⟩,by simp,rfl,rfl⟩
 ·intro a w' df sz kp ⟨vs,hv⟩ hb;have sz':a.tmps.size=82:=sz;have g1:a.tmps[1]?=V (J (V ⟨b1,0,Z⟩)):=(kp 1 (nd 1 (by omega))).trans rfl;have g12:a.tmps[12]?=V (J (V ⟨b1,1,Z⟩)):=by
   have h:vs 6=J (V ⟨b1,1,Z⟩):=(hv 6 (by omega)).2 (by decide);rw [<- h];exact (hv 6 (by omega)).1
  obtain⟨⟨p1,q1,s1⟩,hs1,ho1⟩:=(hv 2 (by omega)).2 (by decide);have g8:a.tmps[8]?=V (L p1 q1 s1):=((hv 2 (by omega)).1).trans (congrArg V hs1);rw [hs1] at ho1;obtain⟨⟨p3,q3,s3⟩,hs3,ho3⟩:=(hv 5 (by omega)).2 (by decide);have g11:a.tmps[11]?=V (L p3 q3 s3):=((hv 5 (by omega)).1).trans (congrArg V hs3);rw [hs3] at ho3;have hB:=H1.out.on hb;have hlt:=H1.out.lt;show aK _ _ _ 3 7 a w';simp only [aK];have PI:=hB.cell 1;have Rf:=hB.fr 1;simp only [O,X,Y] at PI;refine aN 23 (ah 12) (ah 8) rfl rfl rfl rfl (aI g12) (aI g8) (w':=(w').setCell ⟨b1,1,Z⟩ (L p1 q1 s1)) (by simp [go_sem,PI,Rf]) ?_;have hB1:dz ((w').setCell ⟨b1,1,Z⟩ (L p1 q1 s1)) b1 #[aB aC me,L p1 q1 s1,z2,L o3 n3 c3,z4,z5] 31:=by simpa using dX (k:=1) hB (L p1 q1 s1)
  refine au rfl rfl (aH _ _ 31 (ah 1) 3 rfl (v:=J (V ⟨b1,3,Z⟩)) (by rw [aI g1]; simp [go_sem])) ?_;have NP:((a).put (V 13) (J (V ⟨b1,3,Z⟩))).tmps[13]?=V (J (V ⟨b1,3,Z⟩)):=by simp [Act.put,sz']
  show Go.wpOp _ _ _ 9 _ ((a).put (V 13) (J (V ⟨b1,3,Z⟩))) _;have PN:=hB1.cell 3;have Rh:=hB1.fr 3;simp only [O,X,Y] at PN;refine aN 27 (ah 13) (ah 11) rfl rfl rfl rfl (aI NP) (aI ((aL _ 13 _ 11 (by decide)).trans g11)) (w':=((w').setCell ⟨b1,1,Z⟩ (L p1 q1 s1)).setCell ⟨b1,3,Z⟩ (L p3 q3 s3)) (by simp [go_sem,PN,Rh]) ?_;have hB3:dz (((w').setCell ⟨b1,1,Z⟩ (L p1 q1 s1)).setCell ⟨b1,3,Z⟩ (L p3 q3 s3)) b1 #[aB aC me,L p1 q1 s1,z2,L p3 q3 s3,z4,z5] 31:=by simpa using dX (k:=3) hB1 (L p3 q3 s3)
  have oz:∀ j,(j<6\/14<=j)->((a).put (V 13) (J (V ⟨b1,3,Z⟩))).tmps[j]?=(u0::J (V ⟨b1,0,Z⟩)::u2::u3::u4::u5::u6::u7::u8::u9::u10::u11::u12::u13::u14::u15::u16::u17::u18::u19::u20::u21::u22::u23::u24::u25::u26::u27::u28::u29::u30::u31::u32::u33::u34::u35::u36::u37::u38::u39::u40::u41::u42::u43::u44::u45::u46::u47::u48::u49::u50::u51::u52::u53::u54::u55::u56::u57::u58::u59::u60::u61::u62::u63::u64::u65::u66::u67::u68::u69::u70::u71::u72::u73::u74::u75::u76::u77::u78::u79::u80::u81::[])[j]?:=fun j hj=>(aL _ 13 _ j (by omega)).trans ((kp j (nd j (by omega))).trans O);obtain⟨mid,hmid,hfr⟩:=aS (a:=(a).put (V 13) (J (V ⟨b1,3,Z⟩))) 6 8 df (by simp [Rg.size_put,sz']) (by simp) oz;show Q .normal ((a).put (V 13) (J (V ⟨b1,3,Z⟩))) _;rw [hfr]
  match mid,hmid with
  | [v6,v7,v8,v9,v10,v11,v12,v13],_ =>
   exact HQ.out _ _ _ _ _ _ _ _ _ p1 q1 s1 p3 q3 s3 hB3 (dQ (dQ ho1 b1 1 (L p1 q1 s1) hlt) b1 3 (L p3 q3 s3) hlt) (dQ (dQ ho3 b1 1 (L p1 q1 s1) hlt) b1 3 (L p3 q3 s3) hlt) (fun B hBl=>(((hb.mono (Nat.le_of_lt (Nat.lt_of_le_of_lt hBl hlt))).setCell (p:=⟨b1,1,Z⟩) hBl (L p1 q1 s1)).setCell (p:=⟨b1,3,Z⟩) hBl (L p3 q3 s3))) (fun k hk hne=>((aD ((w').setCell ⟨b1,1,Z⟩ (L p1 q1 s1)) ⟨b1,3,Z⟩ (L p3 q3 s3) k hne).trans ((aD (w') ⟨b1,1,Z⟩ (L p1 q1 s1) k hne).trans (hb.block k hk))))
def Fq (B:Nat) (b1:Nat) (_me:Int) (_z1 _z3 _z4 _z5:aA) (g n cap k:Nat) (y1 y2:Int) (yo:Option aG) (yn yc:Nat) (y4:Int) (p:List C5) (i:Nat) (v:aA) (x:aF):Prop :=
 match i with
 | 0=>v=J (V ⟨b1,2,Z⟩)
 | 1=>v=L (V ⟨g,0,Z⟩) n cap
 | 2=>v=aB aC (k:Int)
 | 3=>v=J (V ⟨b1,2,Z⟩)
 | 4=>v=L (V ⟨g,0,Z⟩) n cap
 | 5=>v=aB aC (k:Int)
 | 6=>v=J (V ⟨g,k * 4,Z⟩)
 | 7=>v=jv (y1,y2,(yo,yn,yc),y4)
 | 8=>∃ s:Sl,v=jv (y1,y2,s,y4)/\kE x B (dO s) p
 | 9=>v=J (V ⟨g,k * 4,Z⟩)
 | _=>True
noncomputable def KR:Code:=((Try.f19.body.bind (dU 6)).getD .skip)
theorem Fu (B:Nat) (b1:Nat) (me:Int) (z1 z3 z4 z5:aA) (g n cap k:Nat) (y1 y2:Int) (yo:Option aG) (yn yc:Nat) (y4:Int) (p:List C5) (i:Nat) (v:aA) (x x':aF) (h:Fq B b1 me z1 z3 z4 z5 g n cap k y1 y2 yo yn yc y4 p i v x) (hb:Below x.heap.size x x'):Fq B b1 me z1 z3 z4 z5 g n cap k y1 y2 yo yn yc y4 p i v x':=by
 by_cases hi:i<10
 ·rcases (by omega:i=0\/i=1\/i=2\/i=3\/i=4\/i=5\/i=6\/i=7\/i=8\/i=9) with rfl|rfl|rfl|rfl|rfl|rfl|rfl|rfl|rfl|rfl
  ·exact h
  ·exact h
  ·exact h
  ·exact h
  ·exact h
  ·exact h
  ·exact h
  ·exact h
  ·obtain⟨s,h1,h2⟩:=h; exact⟨s,h1,Bk.dB h2 hb⟩
  ·exact h
 ·unfold Fq
  split <;> first | omega | trivial
theorem Ri (Q:Exit->Act->aF->Prop) (W:aF) (B0:Nat) (l:List iN) (b1:Nat) (me:Int) (z1 z3 z4 z5:aA) (g n cap k:Nat) (y1 y2:Int) (yo:Option aG) (yn yc:Nat) (y4:Int) (p:List C5) (u0 u2 u4 u5 u6 u7 u8 u9 u10 u11 u12 u13 u14 u15 u16 u17 u18 u19 u20 u21 u22 u23 u24 u25 u26 u27 u28 u29 u30 u31 u32 u33 u34 u35 u36 u37 u38 u39 u40 u41 u42 u43 u44 u45 u46 u47 u48 u49 u50 u51 u52 u53 u54 u55 u56 u57 u58 u59 u60 u61 u62 u63 u64 u65 u66 u67 u68 u69 u70 u71 u72 u73 u74 u75 u76 u77 u78 u79 u80 u81:aA)
  (h1:dz W b1 #[aB aC me,z1,L (V ⟨g,0,Z⟩) n cap,z3,z4,z5] 31) (ho:mo W B0 (L (V ⟨g,0,Z⟩) n cap) l) (hy:l[k]?=V (y1,y2,(yo,yn,yc),y4)) (hp:ig W (L yo yn yc) p) (lp:p.length<=900)
  (hQ:∀ (x:aF) (v32 v33 v34 v35 v36 v37 v38 v39 v40 v41:aA) (s1:Option aG) (s2 s3:Nat),kE x W.heap.size (L s1 s2 s3) p->mo x B0 (L (V ⟨g,0,Z⟩) n cap) (l.set k (y1,y2,(s1,s2,s3),y4))->But g W x->(∀ B1,B1<=g->B1<=W.heap.size->Below B1 W x)->Q .normal ⟨(u0::J (V ⟨b1,0,Z⟩)::u2::aB aC (k:Int)::u4::u5::u6::u7::u8::u9::u10::u11::u12::u13::u14::u15::u16::u17::u18::u19::u20::u21::u22::u23::u24::u25::u26::u27::u28::u29::u30::u31::v32::v33::v34::v35::v36::v37::v38::v39::v40::v41::u42::u43::u44::u45::u46::u47::u48::u49::u50::u51::u52::u53::u54::u55::u56::u57::u58::u59::u60::u61::u62::u63::u64::u65::u66::u67::u68::u69::u70::u71::u72::u73::u74::u75::u76::u77::u78::u79::u80::u81::[]).toArray,[]⟩ x) :
  Code.wp Try.prog KR Q ⟨(u0::J (V ⟨b1,0,Z⟩)::u2::aB aC (k:Int)::u4::u5::u6::u7::u8::u9::u10::u11::u12::u13::u14::u15::u16::u17::u18::u19::u20::u21::u22::u23::u24::u25::u26::u27::u28::u29::u30::u31::u32::u33::u34::u35::u36::u37::u38::u39::u40::u41::u42::u43::u44::u45::u46::u47::u48::u49::u50::u51::u52::u53::u54::u55::u56::u57::u58::u59::u60::u61::u62::u63::u64::u65::u66::u67::u68::u69::u70::u71::u72::u73::u74::u75::u76::u77::u78::u79::u80::u81::[]).toArray,[]⟩ W:=by
 have HQ:=aj hQ;have H1:=aj h1;have HO:=aj ho;have HY:=aj hy;have HP:=aj hp;have LP:=aj lp;have IX:=aj (kX okD g k n cap (by obtain⟨_,_,hv⟩:=(Row.dG ho).len; have h:=(ay.1 hy).1; simp at hv; omega));have EL:=aj (gM okD ho hy);clear hQ h1 ho hy hp lp;have jG:=Fu W.heap.size b1 me z1 z3 z4 z5 g n cap k y1 y2 yo yn yc y4 p;unfold KR
 conv=>arg 2; whnf
 have nd:∀ j,(j<32\/42<=j)->∀ i,i<10->(fun i=>32+i) i≠j:=by
  intro j hj i hi h;simp only at h;omega
 refine aQ 11 10 (fun i=>32+i) (fun _=>10) (Fq W.heap.size b1 me z1 z3 z4 z5 g n cap k y1 y2 yo yn yc y4 p) (by kernel_rfl) (by kernel_rfl) rfl (by decide) (fun i j _ _ h=>by have h2:32+i=32+j:=h; omega) (fun i hi=>by show 32+i<82; omega) ?_ (fun _=>aR 14 (by kernel_rfl)) ?_ ?_
 ·intro i o hi ho a x D hnd hc hD hb seen K hK;clear HQ;rcases (by omega:i=0\/i=1\/i=2\/i=3\/i=4\/i=5\/i=6\/i=7\/i=8\/i=9) with rfl|rfl|rfl|rfl|rfl|rfl|rfl|rfl|rfl|rfl
  ·cases ho;have e1:a.eval (ah 1)=J (V ⟨b1,0,Z⟩):=seen.kp 1 _ (nd 1 (by omega)) rfl;exact au rfl rfl (aH a.eval _ 31 (ah 1) 2 rfl (by rw [e1]; simp [go_sem])) (hK _ _ rfl (U _ _) fun _ _ _ _ _ _ _ h=>h)
  ·cases ho;have e32:a.eval (ah 32)=J (V ⟨b1,2,Z⟩):=seen.at_ ⟨0,.data⟩ (by simp) rfl (ak (by decide));have y2:=(H1.out.on hb).cell 2;simp only [O,X,Y] at y2;exact au rfl rfl (aJ a.eval _ 26 (ah 32) rfl (by rw [e32]; simp [go_sem,y2])) (hK _ _ rfl (U _ _) fun _ _ _ _ _ _ _ h=>h)
  ·cases ho;have e3:a.eval (ah 3)=aB aC (k:Int):=seen.kp 3 _ (nd 3 (by omega)) rfl;exact au rfl rfl (aO a.eval _ (ah 3) rfl x) (hK _ _ e3 (U _ _) fun _ _ _ _ _ _ _ h=>h)
  ·cases ho;have e1:a.eval (ah 1)=J (V ⟨b1,0,Z⟩):=seen.kp 1 _ (nd 1 (by omega)) rfl;exact au rfl rfl (aH a.eval _ 31 (ah 1) 2 rfl (by rw [e1]; simp [go_sem])) (hK _ _ rfl (U _ _) fun _ _ _ _ _ _ _ h=>h)
  ·cases ho;have e35:a.eval (ah 35)=J (V ⟨b1,2,Z⟩):=seen.at_ ⟨3,.data⟩ (by simp) rfl (ak (by decide));have y2:=(H1.out.on hb).cell 2;simp only [O,X,Y] at y2;exact au rfl rfl (aJ a.eval _ 26 (ah 35) rfl (by rw [e35]; simp [go_sem,y2])) (hK _ _ rfl (U _ _) fun _ _ _ _ _ _ _ h=>h)
  ·cases ho;have e3:a.eval (ah 3)=aB aC (k:Int):=seen.kp 3 _ (nd 3 (by omega)) rfl;exact au rfl rfl (aO a.eval _ (ah 3) rfl x) (hK _ _ e3 (U _ _) fun _ _ _ _ _ _ _ h=>h)
  ·cases ho;have e36:a.eval (ah 36)=L (V ⟨g,0,Z⟩) n cap:=seen.at_ ⟨4,.data⟩ (by simp) rfl (ak (by decide));have e37:a.eval (ah 37)=aB aC (k:Int):=seen.at_ ⟨5,.data⟩ (by simp) rfl (ak (by decide));exact au rfl rfl (aP a.eval _ 26 (ah 36) (ah 37) rfl (by rw [e36,e37]; exact IX.out x)) (hK _ _ rfl (U _ _) fun _ _ _ _ _ _ _ h=>h)
  ·cases ho;have e38:a.eval (ah 38)=J (V ⟨g,k * 4,Z⟩):=seen.at_ ⟨6,.data⟩ (by simp) rfl (ak (by decide));exact au rfl rfl (aJ a.eval _ 37 (ah 38) rfl (by rw [e38]; exact Gt x _ (y1,y2,(yo,yn,yc),y4) (EL.out x hb))) (hK _ _ rfl (U _ _) fun _ _ _ _ _ _ _ h=>h)
  ·cases ho;have e39:a.eval (ah 39)=jv (y1,y2,(yo,yn,yc),y4):=seen.at_ ⟨7,.data⟩ (by simp) rfl (ak (by decide));exact aM rfl rfl (Rw.gU a.eval _ (ah 39) 37 21 rfl e39 rfl _ (eG Try.func21 rfl rfl _ _)) (o8 (y1,y2,(yo,yn,yc),y4) p x (HP.out.on hb) LP.out) fun e w1 h=>by
    obtain⟨⟨s,rfl,h1⟩,h3⟩:=h;exact⟨_,rfl,hK _ _ ⟨s,rfl,dF h1 hb.size⟩ (h3.mono hb.size) fun j u hj _ _ _ hne h=>jG j u _ _ h h3⟩
  ·cases ho;have e33:a.eval (ah 33)=L (V ⟨g,0,Z⟩) n cap:=seen.at_ ⟨1,.data⟩ (by simp) rfl (ak (by decide));have e34:a.eval (ah 34)=aB aC (k:Int):=seen.at_ ⟨2,.data⟩ (by simp) rfl (ak (by decide));exact au rfl rfl (aP a.eval _ 26 (ah 33) (ah 34) rfl (by rw [e33,e34]; exact IX.out x)) (hK _ _ rfl (U _ _) fun _ _ _ _ _ _ _ h=>h)
 ·intro kk o h1 h2 ho;omega
 ·intro a w' df sz kp ⟨vs,hv⟩ hb;have sz':a.tmps.size=82:=sz;have g41:a.tmps[41]?=V (J (V ⟨g,k * 4,Z⟩)):=by
   have h:vs 9=J (V ⟨g,k * 4,Z⟩):=(hv 9 (by omega)).2 (by decide);rw [<- h];exact (hv 9 (by omega)).1
  obtain⟨⟨s1,s2,s3⟩,hs,hc⟩:=(hv 8 (by omega)).2 (by decide);have g40:a.tmps[40]?=V (jv (y1,y2,(s1,s2,s3),y4)):=((hv 8 (by omega)).1).trans (congrArg V hs);obtain⟨w2,hr,st1,st2,KS⟩:=Jj (k:=k) (y1,y2,(s1,s2,s3),y4) (Bk.dB HO.out hb) (ay.1 HY.out).1;obtain⟨cur,hg⟩:=fP (Bk.dB HO.out hb);show aK _ _ _ 1 10 a w';simp only [aK];refine aN 37 (ah 41) (ah 40) rfl rfl rfl rfl (aI g41) (aI g40) (w':=w2) hr ?_;have oz:∀ j,(j<32\/42<=j)->(a).tmps[j]?=(u0::J (V ⟨b1,0,Z⟩)::u2::aB aC (k:Int)::u4::u5::u6::u7::u8::u9::u10::u11::u12::u13::u14::u15::u16::u17::u18::u19::u20::u21::u22::u23::u24::u25::u26::u27::u28::u29::u30::u31::u32::u33::u34::u35::u36::u37::u38::u39::u40::u41::u42::u43::u44::u45::u46::u47::u48::u49::u50::u51::u52::u53::u54::u55::u56::u57::u58::u59::u60::u61::u62::u63::u64::u65::u66::u67::u68::u69::u70::u71::u72::u73::u74::u75::u76::u77::u78::u79::u80::u81::[])[j]?:=fun j hj=>(kp j (nd j (by omega))).trans O;obtain⟨mid,hmid,hfr⟩:=aS (a:=a) 32 10 df (by simp [sz']) (by simp) oz;show Q .normal (a) _;rw [hfr]
  match mid,hmid with
  | [v32,v33,v34,v35,v36,v37,v38,v39,v40,v41],_ =>
   exact HQ.out _ _ _ _ _ _ _ _ _ _ _ s1 s2 s3 (st2.own hc hg (by decide)) st1 ((But.of_below hb).trans st2) fun B1 hB hl=>KS B1 W hB (hb.mono hl)
def xK (B:Nat) (b1:Nat) (_me:Int) (_z1 _z2 _z3 _z5:aA) (g n cap k:Nat) (_y1 _y2 _y3 _y4:Int) (yo:Option aG) (yn yc:Nat) (_y6:Int) (_y7:Bool) (p:List C5) (i:Nat) (v:aA) (x:aF):Prop :=
 match i with
 | 0=>v=J (V ⟨b1,4,Z⟩)
 | 1=>v=L (V ⟨g,0,Z⟩) n cap
 | 2=>v=aB aC (k:Int)
 | 3=>v=J (V ⟨b1,4,Z⟩)
 | 4=>v=L (V ⟨g,0,Z⟩) n cap
 | 5=>v=aB aC (k:Int)
 | 6=>v=J (V ⟨g,k * 7,Z⟩)
 | 7=>v=J (V ⟨g,k * 7+4,Z⟩)
 | 8=>v=L yo yn yc
 | 9=>∃ s:Sl,v=dO s/\kE x B v p
 | 10=>v=J (V ⟨g,k * 7,Z⟩)
 | 11=>v=J (V ⟨g,k * 7+4,Z⟩)
 | _=>True
noncomputable def Gy:Code:=((Try.f19.body.bind (dU 11)).getD .skip)
theorem Bl (B:Nat) (b1:Nat) (me:Int) (z1 z2 z3 z5:aA) (g n cap k:Nat) (y1 y2 y3 y4:Int) (yo:Option aG) (yn yc:Nat) (y6:Int) (y7:Bool) (p:List C5) (i:Nat) (v:aA) (x x':aF) (h:xK B b1 me z1 z2 z3 z5 g n cap k y1 y2 y3 y4 yo yn yc y6 y7 p i v x) (hb:Below x.heap.size x x'):xK B b1 me z1 z2 z3 z5 g n cap k y1 y2 y3 y4 yo yn yc y6 y7 p i v x':=by
 by_cases hi:i<12
 ·rcases (by omega:i=0\/i=1\/i=2\/i=3\/i=4\/i=5\/i=6\/i=7\/i=8\/i=9\/i=10\/i=11) with rfl|rfl|rfl|rfl|rfl|rfl|rfl|rfl|rfl|rfl|rfl|rfl
  ·exact h
  ·exact h
  ·exact h
  ·exact h
  ·exact h
  ·exact h
  ·exact h
  ·exact h
  ·exact h
  ·obtain⟨s,h1,h2⟩:=h; exact⟨s,h1,Bk.dB h2 hb⟩
  ·exact h
  ·exact h
 ·unfold xK
  split <;> first | omega | trivial
theorem NQ (Q:Exit->Act->aF->Prop) (W:aF) (B0:Nat) (l:List fE) (b1:Nat) (me:Int) (z1 z2 z3 z5:aA) (g n cap k:Nat) (y1 y2 y3 y4:Int) (yo:Option aG) (yn yc:Nat) (y6:Int) (y7:Bool) (p:List C5) (u0 u2 u3 u5 u6 u7 u8 u9 u10 u11 u12 u13 u14 u15 u16 u17 u18 u19 u20 u21 u22 u23 u24 u25 u26 u27 u28 u29 u30 u31 u32 u33 u34 u35 u36 u37 u38 u39 u40 u41 u42 u43 u44 u45 u46 u47 u48 u49 u50 u51 u52 u53 u54 u55 u56 u57 u58 u59 u60 u61 u62 u63 u64 u65 u66 u67 u68 u69 u70 u71 u72 u73 u74 u75 u76 u77 u78 u79 u80 u81:aA)
  (h1:dz W b1 #[aB aC me,z1,z2,z3,L (V ⟨g,0,Z⟩) n cap,z5] 31) (ho:gF W B0 (L (V ⟨g,0,Z⟩) n cap) l) (hy:l[k]?=V (y1,y2,y3,y4,(yo,yn,yc),y6,y7)) (hp:ig W (L yo yn yc) p) (lp:p.length<=900)
  (hQ:∀ (x:aF) (v49 v50 v51 v52 v53 v54 v55 v56 v57 v58 v59 v60:aA) (s1:Option aG) (s2 s3:Nat),kE x W.heap.size (L s1 s2 s3) p->gF x B0 (L (V ⟨g,0,Z⟩) n cap) (l.set k (y1,y2,y3,y4,(s1,s2,s3),y6,y7))->But g W x->(∀ B1,B1<=g->B1<=W.heap.size->Below B1 W x)->Q .normal ⟨(u0::J (V ⟨b1,0,Z⟩)::u2::u3::aB aC (k:Int)::u5::u6::u7::u8::u9::u10::u11::u12::u13::u14::u15::u16::u17::u18::u19::u20::u21::u22::u23::u24::u25::u26::u27::u28::u29::u30::u31::u32::u33::u34::u35::u36::u37::u38::u39::u40::u41::u42::u43::u44::u45::u46::u47::u48::v49::v50::v51::v52::v53::v54::v55::v56::v57::v58::v59::v60::u61::u62::u63::u64::u65::u66::u67::u68::u69::u70::u71::u72::u73::u74::u75::u76::u77::u78::u79::u80::u81::[]).toArray,[]⟩ x) :
  Code.wp Try.prog Gy Q ⟨(u0::J (V ⟨b1,0,Z⟩)::u2::u3::aB aC (k:Int)::u5::u6::u7::u8::u9::u10::u11::u12::u13::u14::u15::u16::u17::u18::u19::u20::u21::u22::u23::u24::u25::u26::u27::u28::u29::u30::u31::u32::u33::u34::u35::u36::u37::u38::u39::u40::u41::u42::u43::u44::u45::u46::u47::u48::u49::u50::u51::u52::u53::u54::u55::u56::u57::u58::u59::u60::u61::u62::u63::u64::u65::u66::u67::u68::u69::u70::u71::u72::u73::u74::u75::u76::u77::u78::u79::u80::u81::[]).toArray,[]⟩ W:=by
 have HQ:=aj hQ;have H1:=aj h1;have HO:=aj ho;have HY:=aj hy;have HP:=aj hp;have LP:=aj lp;have IX:=aj (kX iO g k n cap (by obtain⟨_,_,hv⟩:=(Row.dG ho).len; have h:=(ay.1 hy).1; simp at hv; omega));have EL:=aj (gM iO ho hy);clear hQ h1 ho hy hp lp;have jG:=Bl W.heap.size b1 me z1 z2 z3 z5 g n cap k y1 y2 y3 y4 yo yn yc y6 y7 p;unfold Gy
 conv=>arg 2; whnf
 have nd:∀ j,(j<49\/61<=j)->∀ i,i<12->(fun i=>49+i) i≠j:=by
  intro j hj i hi h;simp only at h;omega
 refine aQ 13 12 (fun i=>49+i) (fun _=>12) (xK W.heap.size b1 me z1 z2 z3 z5 g n cap k y1 y2 y3 y4 yo yn yc y6 y7 p) (by kernel_rfl) (by kernel_rfl) rfl (by decide) (fun i j _ _ h=>by have h2:49+i=49+j:=h; omega) (fun i hi=>by show 49+i<82; omega) ?_ (fun _=>aR 14 (by kernel_rfl)) ?_ ?_
 ·intro i o hi ho a x D hnd hc hD hb seen K hK;clear HQ;rcases (by omega:i=0\/i=1\/i=2\/i=3\/i=4\/i=5\/i=6\/i=7\/i=8\/i=9\/i=10\/i=11) with rfl|rfl|rfl|rfl|rfl|rfl|rfl|rfl|rfl|rfl|rfl|rfl
  ·cases ho;have e1:a.eval (ah 1)=J (V ⟨b1,0,Z⟩):=seen.kp 1 _ (nd 1 (by omega)) rfl;exact au rfl rfl (aH a.eval _ 31 (ah 1) 4 rfl (by rw [e1]; simp [go_sem])) (hK _ _ rfl (U _ _) fun _ _ _ _ _ _ _ h=>h)
  ·cases ho;have e49:a.eval (ah 49)=J (V ⟨b1,4,Z⟩):=seen.at_ ⟨0,.data⟩ (by simp) rfl (ak (by decide));have y4:=(H1.out.on hb).cell 4;simp only [O,X,Y] at y4;exact au rfl rfl (aJ a.eval _ 28 (ah 49) rfl (by rw [e49]; simp [go_sem,y4])) (hK _ _ rfl (U _ _) fun _ _ _ _ _ _ _ h=>h)
  ·cases ho;have e4:a.eval (ah 4)=aB aC (k:Int):=seen.kp 4 _ (nd 4 (by omega)) rfl;exact au rfl rfl (aO a.eval _ (ah 4) rfl x) (hK _ _ e4 (U _ _) fun _ _ _ _ _ _ _ h=>h)
  ·cases ho;have e1:a.eval (ah 1)=J (V ⟨b1,0,Z⟩):=seen.kp 1 _ (nd 1 (by omega)) rfl;exact au rfl rfl (aH a.eval _ 31 (ah 1) 4 rfl (by rw [e1]; simp [go_sem])) (hK _ _ rfl (U _ _) fun _ _ _ _ _ _ _ h=>h)
  ·cases ho;have e52:a.eval (ah 52)=J (V ⟨b1,4,Z⟩):=seen.at_ ⟨3,.data⟩ (by simp) rfl (ak (by decide));have y4:=(H1.out.on hb).cell 4;simp only [O,X,Y] at y4;exact au rfl rfl (aJ a.eval _ 28 (ah 52) rfl (by rw [e52]; simp [go_sem,y4])) (hK _ _ rfl (U _ _) fun _ _ _ _ _ _ _ h=>h)
  ·cases ho;have e4:a.eval (ah 4)=aB aC (k:Int):=seen.kp 4 _ (nd 4 (by omega)) rfl;exact au rfl rfl (aO a.eval _ (ah 4) rfl x) (hK _ _ e4 (U _ _) fun _ _ _ _ _ _ _ h=>h)
  ·cases ho;have e53:a.eval (ah 53)=L (V ⟨g,0,Z⟩) n cap:=seen.at_ ⟨4,.data⟩ (by simp) rfl (ak (by decide));have e54:a.eval (ah 54)=aB aC (k:Int):=seen.at_ ⟨5,.data⟩ (by simp) rfl (ak (by decide));exact au rfl rfl (aP a.eval _ 28 (ah 53) (ah 54) rfl (by rw [e53,e54]; exact IX.out x)) (hK _ _ rfl (U _ _) fun _ _ _ _ _ _ _ h=>h)
  ·cases ho;have e55:a.eval (ah 55)=J (V ⟨g,k * 7,Z⟩):=seen.at_ ⟨6,.data⟩ (by simp) rfl (ak (by decide));exact au rfl rfl (aH a.eval _ 43 (ah 55) 2 rfl (by rw [e55]; simp [go_sem])) (hK _ _ rfl (U _ _) fun _ _ _ _ _ _ _ h=>h)
  ·cases ho;have e56:a.eval (ah 56)=J (V ⟨g,k * 7+4,Z⟩):=seen.at_ ⟨7,.data⟩ (by simp) rfl (ak (by decide));have y:=EL.out x hb 4 _ rfl;simp [Addr.add,EN] at y;exact au rfl rfl (aJ a.eval _ 35 (ah 56) rfl (by rw [e56]; simp [go_sem,y])) (hK _ _ rfl (U _ _) fun _ _ _ _ _ _ _ h=>h)
  ·cases ho;have e57:a.eval (ah 57)=L yo yn yc:=seen.at_ ⟨8,.data⟩ (by simp) rfl (ak (by decide));exact aM rfl rfl (Rw.gU a.eval _ (ah 57) 35 48 rfl e57 rfl _ (eG Try.func48 rfl rfl _ _)) (jT (yo,yn,yc) p x (HP.out.on hb) LP.out) fun e w1 h=>by
    obtain⟨⟨s,rfl,h1⟩,h3⟩:=h;exact⟨_,rfl,hK _ _ ⟨s,rfl,dF h1 hb.size⟩ (h3.mono hb.size) fun j u hj _ _ _ hne h=>jG j u _ _ h h3⟩
  ·cases ho;have e50:a.eval (ah 50)=L (V ⟨g,0,Z⟩) n cap:=seen.at_ ⟨1,.data⟩ (by simp) rfl (ak (by decide));have e51:a.eval (ah 51)=aB aC (k:Int):=seen.at_ ⟨2,.data⟩ (by simp) rfl (ak (by decide));exact au rfl rfl (aP a.eval _ 28 (ah 50) (ah 51) rfl (by rw [e50,e51]; exact IX.out x)) (hK _ _ rfl (U _ _) fun _ _ _ _ _ _ _ h=>h)
  ·cases ho;have e59:a.eval (ah 59)=J (V ⟨g,k * 7,Z⟩):=seen.at_ ⟨10,.data⟩ (by simp) rfl (ak (by decide));exact au rfl rfl (aH a.eval _ 43 (ah 59) 2 rfl (by rw [e59]; simp [go_sem])) (hK _ _ rfl (U _ _) fun _ _ _ _ _ _ _ h=>h)
 ·intro kk o h1 h2 ho;omega
 ·intro a w' df sz kp ⟨vs,hv⟩ hb;have sz':a.tmps.size=82:=sz;have g60:a.tmps[60]?=V (J (V ⟨g,k * 7+4,Z⟩)):=by
   have h:vs 11=J (V ⟨g,k * 7+4,Z⟩):=(hv 11 (by omega)).2 (by decide);rw [<- h];exact (hv 11 (by omega)).1
  obtain⟨⟨s1,s2,s3⟩,hs,hc⟩:=(hv 9 (by omega)).2 (by decide);have g58:a.tmps[58]?=V (L s1 s2 s3):=((hv 9 (by omega)).1).trans (congrArg V hs);rw [hs] at hc;obtain⟨w2,hr,st1,st2,KS⟩:=Jk (k:=k) s1 s2 s3 (Bk.dB HO.out hb) HY.out;obtain⟨cur,hg⟩:=fP (Bk.dB HO.out hb);show aK _ _ _ 1 12 a w';simp only [aK];refine aN 35 (ah 60) (ah 58) rfl rfl rfl rfl (aI g60) (aI g58) (w':=w2) hr ?_;have oz:∀ j,(j<49\/61<=j)->(a).tmps[j]?=(u0::J (V ⟨b1,0,Z⟩)::u2::u3::aB aC (k:Int)::u5::u6::u7::u8::u9::u10::u11::u12::u13::u14::u15::u16::u17::u18::u19::u20::u21::u22::u23::u24::u25::u26::u27::u28::u29::u30::u31::u32::u33::u34::u35::u36::u37::u38::u39::u40::u41::u42::u43::u44::u45::u46::u47::u48::u49::u50::u51::u52::u53::u54::u55::u56::u57::u58::u59::u60::u61::u62::u63::u64::u65::u66::u67::u68::u69::u70::u71::u72::u73::u74::u75::u76::u77::u78::u79::u80::u81::[])[j]?:=fun j hj=>(kp j (nd j (by omega))).trans O;obtain⟨mid,hmid,hfr⟩:=aS (a:=a) 49 12 df (by simp [sz']) (by simp) oz;show Q .normal (a) _;rw [hfr]
  match mid,hmid with
  | [v49,v50,v51,v52,v53,v54,v55,v56,v57,v58,v59,v60],_ =>
   exact HQ.out _ _ _ _ _ _ _ _ _ _ _ _ _ s1 s2 s3 (st2.own hc hg (by decide)) st1 ((But.of_below hb).trans st2) fun B1 hB hl=>KS B1 W hB (hb.mono hl)
end Av
namespace Rl
open Go.RowKit Pu Rw Pr Va
theorem Bn {α:Type} (f:α->Bool) (l:List α) (k:Nat) (y:α) (h:l[k]?=V y):(l.take (k+1)).all f=((l.take k).all f && f y):=by
 rw [List.take_add_one,h,List.all_append];simp
theorem Fv {α:Type} (f:α->Bool) (l:List α) (k:Nat) (y:α) (h:l[k]?=V y) (hf:f y=false):l.all f=false:=by
 rw [List.all_eq_false];exact⟨y,List.mem_of_getElem? h,by simp [hf]⟩
end Rl
end Go.Proofs.Ytmklifheakemeaa
