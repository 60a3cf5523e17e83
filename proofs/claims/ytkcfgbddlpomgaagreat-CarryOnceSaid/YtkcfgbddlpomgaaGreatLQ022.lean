/-
  The region of Copy i. Conditions as told.
-/
import Derived.Test.YtkcfgbddlpomgaaGreatLQ015
import Derived.Test.YtkcfgbddlpomgaaGreatLQ014
import Derived.Test.YtkcfgbddlpomgaaGreatLQ013
set_option maxRecDepth 100000
set_option maxHeartbeats 64000000
open _root_.Go renaming Value->ay,World->aC,Addr->aH
open Go.ByteArray renaming toList_eq->aB
open Go.IntKind renaming i64->aF
open Go.Lib renaming hid->aj
open Go.Operand renaming tmp->ah
open Go.Proofs.YtkcfgbddlpomgaaGreat.Rg renaming dn->au,dN->aI,dH->aJ,dW->aL,fA->aM,get_put->aN,gI->aO,fI->aP,fQ->aQ,nM->aR,fH->aS,iY->aT,fU->aU
open Go.RowKit.Below renaming refl->U,heap_setCell->aG
open Go.Value renaming pointer->J,slice->L,int->aD
open _root_.List renaming getElem?_toArray->O,getElem?_cons_zero->X,getElem?_cons_succ->Y,getElem?_eq_some_iff->aA,mem_append->aK
open _root_.Option renaming some->V,none->Z
open _root_.Or renaming inr->ak
namespace Go.Proofs.YtkcfgbddlpomgaaGreat
namespace Av
open Go.RowKit Go.Sort Rw YtkcfgbddlpomgaaGreat.Nm Pr Bk
def Ws (B:Nat) (b1:Nat) (_me:Int) (_z2 _z4 _z5:ay) (o1:Option aH) (n1 c1:Nat) (nl:List Int) (o3:Option aH) (n3 c3:Nat) (sl:List eG) (i:Nat) (v:ay) (x:aC):Prop :=
 match i with
 | 0=>v=J (V ⟨b1,1,Z⟩)
 | 1=>v=L o1 n1 c1
 | 2=>∃ s:Sl,v=dP s/\mI x B v nl
 | 3=>v=J (V ⟨b1,3,Z⟩)
 | 4=>v=L o3 n3 c3
 | 5=>∃ s:Sl,v=dP s/\qY x B v sl
 | 6=>v=J (V ⟨b1,1,Z⟩)
 | _=>True
noncomputable def acK:Code:=((Tryz.f50.body.bind (eD 1)).getD .skip)
theorem Wt (B:Nat) (b1:Nat) (me:Int) (z2 z4 z5:ay) (o1:Option aH) (n1 c1:Nat) (nl:List Int) (o3:Option aH) (n3 c3:Nat) (sl:List eG) (i:Nat) (v:ay) (x x':aC) (h:Ws B b1 me z2 z4 z5 o1 n1 c1 nl o3 n3 c3 sl i v x) (hb:Below x.heap.size x x'):Ws B b1 me z2 z4 z5 o1 n1 c1 nl o3 n3 c3 sl i v x':=by
 by_cases hi:i<7
 ·rcases (by omega:i=0\/i=1\/i=2\/i=3\/i=4\/i=5\/i=6) with rfl|rfl|rfl|rfl|rfl|rfl|rfl
  ·exact h
  ·exact h
  ·obtain⟨s,h1,h2⟩:=h; exact⟨s,h1,Bk.dx h2 hb⟩
  ·exact h
  ·exact h
  ·obtain⟨s,h1,h2⟩:=h; exact⟨s,h1,Bk.dx h2 hb⟩
  ·exact h
 ·unfold Ws
  split <;> first | omega | trivial
theorem cp1 (Q:Exit->Act->aC->Prop) (W:aC) (b1:Nat) (me:Int) (z2 z4 z5:ay) (o1:Option aH) (n1 c1:Nat) (nl:List Int) (o3:Option aH) (n3 c3:Nat) (sl:List eG) (u0 u2 u3 u4 u5 u6 u7 u8 u9 u10 u11 u12 u13 u14 u15 u16 u17 u18 u19 u20 u21 u22 u23 u24 u25 u26 u27 u28 u29 u30 u31 u32 u33 u34 u35 u36 u37 u38 u39 u40 u41 u42 u43 u44 u45 u46 u47 u48 u49 u50 u51 u52 u53 u54 u55 u56 u57 u58 u59 u60 u61 u62 u63 u64 u65 u66 u67 u68 u69 u70 u71 u72 u73 u74 u75 u76 u77 u78 u79 u80 u81:ay)
  (h1:dI W b1 #[aD aF me,L o1 n1 c1,z2,L o3 n3 c3,z4,z5] 33) (r1:qH W (L o1 n1 c1) nl) (r3:vM W (L o3 n3 c3) sl) (l1:nl.length<=900) (l3:sl.length<=900)
  (hQ:∀ (x:aC) (v6 v7 v8 v9 v10 v11 v12 v13:ay) (p1:Option aH) (q1 s1:Nat) (p3:Option aH) (q3 s3:Nat),dI x b1 #[aD aF me,L p1 q1 s1,z2,L p3 q3 s3,z4,z5] 33->mI x W.heap.size (L p1 q1 s1) nl->qY x W.heap.size (L p3 q3 s3) sl->(∀ B,B<=b1->Below B W x)->(∀ k,k<W.heap.size->k≠b1->x.heap[k]?=W.heap[k]?)->Q .normal ⟨(u0::J (V ⟨b1,0,Z⟩)::u2::u3::u4::u5::v6::v7::v8::v9::v10::v11::v12::v13::u14::u15::u16::u17::u18::u19::u20::u21::u22::u23::u24::u25::u26::u27::u28::u29::u30::u31::u32::u33::u34::u35::u36::u37::u38::u39::u40::u41::u42::u43::u44::u45::u46::u47::u48::u49::u50::u51::u52::u53::u54::u55::u56::u57::u58::u59::u60::u61::u62::u63::u64::u65::u66::u67::u68::u69::u70::u71::u72::u73::u74::u75::u76::u77::u78::u79::u80::u81::[]).toArray,[]⟩ x) :
  Code.wp Tryz.prog acK Q ⟨(u0::J (V ⟨b1,0,Z⟩)::u2::u3::u4::u5::u6::u7::u8::u9::u10::u11::u12::u13::u14::u15::u16::u17::u18::u19::u20::u21::u22::u23::u24::u25::u26::u27::u28::u29::u30::u31::u32::u33::u34::u35::u36::u37::u38::u39::u40::u41::u42::u43::u44::u45::u46::u47::u48::u49::u50::u51::u52::u53::u54::u55::u56::u57::u58::u59::u60::u61::u62::u63::u64::u65::u66::u67::u68::u69::u70::u71::u72::u73::u74::u75::u76::u77::u78::u79::u80::u81::[]).toArray,[]⟩ W:=by
 have HQ:=aj hQ;have H1:=aj h1;have R1:=aj r1;have R3:=aj r3;have L1:=aj l1;have L3:=aj l3;clear hQ h1 r1 r3 l1 l3;have iM:=Wt W.heap.size b1 me z2 z4 z5 o1 n1 c1 nl o3 n3 c3 sl;unfold acK
 conv=>arg 2; whnf
 have nd:∀ j,(j<6\/13<=j)->∀ i,i<7->(fun i=>6+i) i≠j:=by
  intro j hj i hi h;simp only at h;omega
 refine aS 10 7 (fun i=>6+i) (fun _=>7) (Ws W.heap.size b1 me z2 z4 z5 o1 n1 c1 nl o3 n3 c3 sl) (by kernel_rfl) (by kernel_rfl) rfl (by decide) (fun i j _ _ h=>by have h2:6+i=6+j:=h; omega) (fun i hi=>by show 6+i<82; omega) ?_ (fun _=>aT 14 (by kernel_rfl)) ?_ ?_
 ·intro i o hi ho a x D hnd hc hD hb seen K hK;clear HQ;rcases (by omega:i=0\/i=1\/i=2\/i=3\/i=4\/i=5\/i=6) with rfl|rfl|rfl|rfl|rfl|rfl|rfl
  ·cases ho;have e1:a.eval (ah 1)=J (V ⟨b1,0,Z⟩):=seen.kp 1 _ (nd 1 (by omega)) rfl;exact au rfl rfl (aI a.eval _ 33 (ah 1) 1 rfl (by rw [e1]; simp [go_sem])) (hK _ _ rfl (U _ _) fun _ _ _ _ _ _ _ h=>h)
  ·cases ho;have e6:a.eval (ah 6)=J (V ⟨b1,1,Z⟩):=seen.at_ ⟨0,.data⟩ (by simp) rfl (ak (by decide));have y1:=(H1.out.on hb).cell 1;simp only [O,X,Y] at y1;exact au rfl rfl (aL a.eval _ 25 (ah 6) rfl (by rw [e6]; simp [go_sem,y1])) (hK _ _ rfl (U _ _) fun _ _ _ _ _ _ _ h=>h)
  ·cases ho;have e7:a.eval (ah 7)=L o1 n1 c1:=seen.at_ ⟨1,.data⟩ (by simp) rfl (ak (by decide));exact aO rfl rfl (Rw.iJ a.eval _ (ah 7) 25 74 rfl e7 rfl _ (fV Tryz.func74 rfl rfl _ _)) (yI (o1,n1,c1) nl x (R1.out.on hb) L1.out) fun e w1 h=>by
    obtain⟨⟨s,rfl,h1⟩,h3⟩:=h;exact⟨_,rfl,hK _ _ ⟨s,rfl,dG h1 hb.size⟩ (h3.mono hb.size) fun j u hj _ _ _ hne h=>iM j u _ _ h h3⟩
  ·cases ho;have e1:a.eval (ah 1)=J (V ⟨b1,0,Z⟩):=seen.kp 1 _ (nd 1 (by omega)) rfl;exact au rfl rfl (aI a.eval _ 33 (ah 1) 3 rfl (by rw [e1]; simp [go_sem])) (hK _ _ rfl (U _ _) fun _ _ _ _ _ _ _ h=>h)
  ·cases ho;have e9:a.eval (ah 9)=J (V ⟨b1,3,Z⟩):=seen.at_ ⟨3,.data⟩ (by simp) rfl (ak (by decide));have y3:=(H1.out.on hb).cell 3;simp only [O,X,Y] at y3;exact au rfl rfl (aL a.eval _ 29 (ah 9) rfl (by rw [e9]; simp [go_sem,y3])) (hK _ _ rfl (U _ _) fun _ _ _ _ _ _ _ h=>h)
  ·cases ho;have e10:a.eval (ah 10)=L o3 n3 c3:=seen.at_ ⟨4,.data⟩ (by simp) rfl (ak (by decide));exact aO rfl rfl (Rw.iJ a.eval _ (ah 10) 29 84 rfl e10 rfl _ (fV Tryz.func84 rfl rfl _ _)) (Jg (o3,n3,c3) sl x (R3.out.on hb) L3.out) fun e w1 h=>by
    obtain⟨⟨s,rfl,h1⟩,h3⟩:=h;exact⟨_,rfl,hK _ _ ⟨s,rfl,dG h1 hb.size⟩ (h3.mono hb.size) fun j u hj _ _ _ hne h=>iM j u _ _ h h3⟩
  ·cases ho;have e1:a.eval (ah 1)=J (V ⟨b1,0,Z⟩):=seen.kp 1 _ (nd 1 (by omega)) rfl;exact au rfl rfl (aI a.eval _ 33 (ah 1) 1 rfl (by rw [e1]; simp [go_sem])) (hK _ _ rfl (U _ _) fun _ _ _ _ _ _ _ h=>h)
 ·intro kk o h1 h2 ho;rcases (by omega:kk=8\/kk=9) with rfl|rfl
  ·cases ho;exact⟨⟨7,.phase⟩,by simp,rfl,rfl⟩
  ·cases ho;exact⟨⟨8,.data⟩,by simp,rfl,rfl⟩
 ·intro a w' df sz kp ⟨vs,hv⟩ hb;have sz':a.tmps.size=82:=sz;have g1:a.tmps[1]?=V (J (V ⟨b1,0,Z⟩)):=(kp 1 (nd 1 (by omega))).trans rfl;have g12:a.tmps[12]?=V (J (V ⟨b1,1,Z⟩)):=by
   have h:vs 6=J (V ⟨b1,1,Z⟩):=(hv 6 (by omega)).2 (by decide);rw [<- h];exact (hv 6 (by omega)).1
  obtain⟨⟨p1,q1,s1⟩,hs1,ho1⟩:=(hv 2 (by omega)).2 (by decide);have g8:a.tmps[8]?=V (L p1 q1 s1):=((hv 2 (by omega)).1).trans (congrArg V hs1);rw [hs1] at ho1;obtain⟨⟨p3,q3,s3⟩,hs3,ho3⟩:=(hv 5 (by omega)).2 (by decide);have g11:a.tmps[11]?=V (L p3 q3 s3):=((hv 5 (by omega)).1).trans (congrArg V hs3);rw [hs3] at ho3;have hB:=H1.out.on hb;have hlt:=H1.out.lt;show aM _ _ _ 3 7 a w';simp only [aM];have c1x:=hB.cell 1;have f1x:=hB.fr 1;simp only [O,X,Y] at c1x;refine aP 25 (ah 12) (ah 8) rfl rfl rfl rfl (aJ g12) (aJ g8) (w':=(w').setCell ⟨b1,1,Z⟩ (L p1 q1 s1)) (by simp [go_sem,c1x,f1x]) ?_;have hB1:dI ((w').setCell ⟨b1,1,Z⟩ (L p1 q1 s1)) b1 #[aD aF me,L p1 q1 s1,z2,L o3 n3 c3,z4,z5] 33:=by simpa using dO (k:=1) hB (L p1 q1 s1)
  refine au rfl rfl (aI _ _ 33 (ah 1) 3 rfl (v:=J (V ⟨b1,3,Z⟩)) (by rw [aJ g1]; simp [go_sem])) ?_;have afb:((a).put (V 13) (J (V ⟨b1,3,Z⟩))).tmps[13]?=V (J (V ⟨b1,3,Z⟩)):=by simp [Act.put,sz']
  show Go.wpOp _ _ _ 9 _ ((a).put (V 13) (J (V ⟨b1,3,Z⟩))) _;have c3x:=hB1.cell 3;have f3x:=hB1.fr 3;simp only [O,X,Y] at c3x;refine aP 29 (ah 13) (ah 11) rfl rfl rfl rfl (aJ afb) (aJ ((aN _ 13 _ 11 (by decide)).trans g11)) (w':=((w').setCell ⟨b1,1,Z⟩ (L p1 q1 s1)).setCell ⟨b1,3,Z⟩ (L p3 q3 s3)) (by simp [go_sem,c3x,f3x]) ?_;have hB3:dI (((w').setCell ⟨b1,1,Z⟩ (L p1 q1 s1)).setCell ⟨b1,3,Z⟩ (L p3 q3 s3)) b1 #[aD aF me,L p1 q1 s1,z2,L p3 q3 s3,z4,z5] 33:=by simpa using dO (k:=3) hB1 (L p3 q3 s3)
  have q8:∀ j,(j<6\/14<=j)->((a).put (V 13) (J (V ⟨b1,3,Z⟩))).tmps[j]?=(u0::J (V ⟨b1,0,Z⟩)::u2::u3::u4::u5::u6::u7::u8::u9::u10::u11::u12::u13::u14::u15::u16::u17::u18::u19::u20::u21::u22::u23::u24::u25::u26::u27::u28::u29::u30::u31::u32::u33::u34::u35::u36::u37::u38::u39::u40::u41::u42::u43::u44::u45::u46::u47::u48::u49::u50::u51::u52::u53::u54::u55::u56::u57::u58::u59::u60::u61::u62::u63::u64::u65::u66::u67::u68::u69::u70::u71::u72::u73::u74::u75::u76::u77::u78::u79::u80::u81::[])[j]?:=fun j hj=>(aN _ 13 _ j (by omega)).trans ((kp j (nd j (by omega))).trans O);obtain⟨mid,hmid,hfr⟩:=aU (a:=(a).put (V 13) (J (V ⟨b1,3,Z⟩))) 6 8 df (by simp [Rg.size_put,sz']) (by simp) q8;show Q .normal ((a).put (V 13) (J (V ⟨b1,3,Z⟩))) _;rw [hfr]
  match mid,hmid with
  | [v6,v7,v8,v9,v10,v11,v12,v13],_ =>
   exact HQ.out _ _ _ _ _ _ _ _ _ p1 q1 s1 p3 q3 s3 hB3 (dY (dY ho1 b1 1 (L p1 q1 s1) hlt) b1 3 (L p3 q3 s3) hlt) (dY (dY ho3 b1 1 (L p1 q1 s1) hlt) b1 3 (L p3 q3 s3) hlt) (fun B hBl=>(((hb.mono (Nat.le_of_lt (Nat.lt_of_le_of_lt hBl hlt))).setCell (p:=⟨b1,1,Z⟩) hBl (L p1 q1 s1)).setCell (p:=⟨b1,3,Z⟩) hBl (L p3 q3 s3))) (fun k hk hne=>((aG ((w').setCell ⟨b1,1,Z⟩ (L p1 q1 s1)) ⟨b1,3,Z⟩ (L p3 q3 s3) k hne).trans ((aG (w') ⟨b1,1,Z⟩ (L p1 q1 s1) k hne).trans (hb.block k hk))))
def Wu (B:Nat) (b1:Nat) (_me:Int) (_z1 _z3 _z4 _z5:ay) (g n cap k:Nat) (y1 y2:Int) (yo:Option aH) (yn yc:Nat) (y4:Int) (p:List C5) (i:Nat) (v:ay) (x:aC):Prop :=
 match i with
 | 0=>v=J (V ⟨b1,2,Z⟩)
 | 1=>v=L (V ⟨g,0,Z⟩) n cap
 | 2=>v=aD aF (k:Int)
 | 3=>v=J (V ⟨b1,2,Z⟩)
 | 4=>v=L (V ⟨g,0,Z⟩) n cap
 | 5=>v=aD aF (k:Int)
 | 6=>v=J (V ⟨g,k * 4,Z⟩)
 | 7=>v=lU (y1,y2,(yo,yn,yc),y4)
 | 8=>∃ s:Sl,v=lU (y1,y2,s,y4)/\jO x B (dP s) p
 | 9=>v=J (V ⟨g,k * 4,Z⟩)
 | _=>True
noncomputable def acL:Code:=((Tryz.f50.body.bind (eD 6)).getD .skip)
theorem Wv (B:Nat) (b1:Nat) (me:Int) (z1 z3 z4 z5:ay) (g n cap k:Nat) (y1 y2:Int) (yo:Option aH) (yn yc:Nat) (y4:Int) (p:List C5) (i:Nat) (v:ay) (x x':aC) (h:Wu B b1 me z1 z3 z4 z5 g n cap k y1 y2 yo yn yc y4 p i v x) (hb:Below x.heap.size x x'):Wu B b1 me z1 z3 z4 z5 g n cap k y1 y2 yo yn yc y4 p i v x':=by
 by_cases hi:i<10
 ·rcases (by omega:i=0\/i=1\/i=2\/i=3\/i=4\/i=5\/i=6\/i=7\/i=8\/i=9) with rfl|rfl|rfl|rfl|rfl|rfl|rfl|rfl|rfl|rfl
  ·exact h
  ·exact h
  ·exact h
  ·exact h
  ·exact h
  ·exact h
  ·exact h
  ·exact h
  ·obtain⟨s,h1,h2⟩:=h; exact⟨s,h1,Bk.dx h2 hb⟩
  ·exact h
 ·unfold Wu
  split <;> first | omega | trivial
theorem cp6 (Q:Exit->Act->aC->Prop) (W:aC) (B0:Nat) (l:List jC) (b1:Nat) (me:Int) (z1 z3 z4 z5:ay) (g n cap k:Nat) (y1 y2:Int) (yo:Option aH) (yn yc:Nat) (y4:Int) (p:List C5) (u0 u2 u4 u5 u6 u7 u8 u9 u10 u11 u12 u13 u14 u15 u16 u17 u18 u19 u20 u21 u22 u23 u24 u25 u26 u27 u28 u29 u30 u31 u32 u33 u34 u35 u36 u37 u38 u39 u40 u41 u42 u43 u44 u45 u46 u47 u48 u49 u50 u51 u52 u53 u54 u55 u56 u57 u58 u59 u60 u61 u62 u63 u64 u65 u66 u67 u68 u69 u70 u71 u72 u73 u74 u75 u76 u77 u78 u79 u80 u81:ay)
  (h1:dI W b1 #[aD aF me,z1,L (V ⟨g,0,Z⟩) n cap,z3,z4,z5] 33) (ho:kW W B0 (L (V ⟨g,0,Z⟩) n cap) l) (hy:l[k]?=V (y1,y2,(yo,yn,yc),y4)) (hp:fK W (L yo yn yc) p) (lp:p.length<=900)
  (hQ:∀ (x:aC) (v32 v33 v34 v35 v36 v37 v38 v39 v40 v41:ay) (s1:Option aH) (s2 s3:Nat),jO x W.heap.size (L s1 s2 s3) p->kW x B0 (L (V ⟨g,0,Z⟩) n cap) (l.set k (y1,y2,(s1,s2,s3),y4))->But g W x->(∀ B1,B1<=g->B1<=W.heap.size->Below B1 W x)->Q .normal ⟨(u0::J (V ⟨b1,0,Z⟩)::u2::aD aF (k:Int)::u4::u5::u6::u7::u8::u9::u10::u11::u12::u13::u14::u15::u16::u17::u18::u19::u20::u21::u22::u23::u24::u25::u26::u27::u28::u29::u30::u31::v32::v33::v34::v35::v36::v37::v38::v39::v40::v41::u42::u43::u44::u45::u46::u47::u48::u49::u50::u51::u52::u53::u54::u55::u56::u57::u58::u59::u60::u61::u62::u63::u64::u65::u66::u67::u68::u69::u70::u71::u72::u73::u74::u75::u76::u77::u78::u79::u80::u81::[]).toArray,[]⟩ x) :
  Code.wp Tryz.prog acL Q ⟨(u0::J (V ⟨b1,0,Z⟩)::u2::aD aF (k:Int)::u4::u5::u6::u7::u8::u9::u10::u11::u12::u13::u14::u15::u16::u17::u18::u19::u20::u21::u22::u23::u24::u25::u26::u27::u28::u29::u30::u31::u32::u33::u34::u35::u36::u37::u38::u39::u40::u41::u42::u43::u44::u45::u46::u47::u48::u49::u50::u51::u52::u53::u54::u55::u56::u57::u58::u59::u60::u61::u62::u63::u64::u65::u66::u67::u68::u69::u70::u71::u72::u73::u74::u75::u76::u77::u78::u79::u80::u81::[]).toArray,[]⟩ W:=by
 have HQ:=aj hQ;have H1:=aj h1;have HO:=aj ho;have HY:=aj hy;have HP:=aj hp;have LP:=aj lp;have IX:=aj (nG okD g k n cap (by obtain⟨_,_,hv⟩:=(Row.dw ho).len; have h:=(aA.1 hy).1; simp at hv; omega));have EL:=aj (jW okD ho hy);clear hQ h1 ho hy hp lp;have iM:=Wv W.heap.size b1 me z1 z3 z4 z5 g n cap k y1 y2 yo yn yc y4 p;unfold acL
 conv=>arg 2; whnf
 have nd:∀ j,(j<32\/42<=j)->∀ i,i<10->(fun i=>32+i) i≠j:=by
  intro j hj i hi h;simp only at h;omega
 refine aS 11 10 (fun i=>32+i) (fun _=>10) (Wu W.heap.size b1 me z1 z3 z4 z5 g n cap k y1 y2 yo yn yc y4 p) (by kernel_rfl) (by kernel_rfl) rfl (by decide) (fun i j _ _ h=>by have h2:32+i=32+j:=h; omega) (fun i hi=>by show 32+i<82; omega) ?_ (fun _=>aT 14 (by kernel_rfl)) ?_ ?_
 ·intro i o hi ho a x D hnd hc hD hb seen K hK;clear HQ;rcases (by omega:i=0\/i=1\/i=2\/i=3\/i=4\/i=5\/i=6\/i=7\/i=8\/i=9) with rfl|rfl|rfl|rfl|rfl|rfl|rfl|rfl|rfl|rfl
  ·cases ho;have e1:a.eval (ah 1)=J (V ⟨b1,0,Z⟩):=seen.kp 1 _ (nd 1 (by omega)) rfl;exact au rfl rfl (aI a.eval _ 33 (ah 1) 2 rfl (by rw [e1]; simp [go_sem])) (hK _ _ rfl (U _ _) fun _ _ _ _ _ _ _ h=>h)
  ·cases ho;have e32:a.eval (ah 32)=J (V ⟨b1,2,Z⟩):=seen.at_ ⟨0,.data⟩ (by simp) rfl (ak (by decide));have y2:=(H1.out.on hb).cell 2;simp only [O,X,Y] at y2;exact au rfl rfl (aL a.eval _ 28 (ah 32) rfl (by rw [e32]; simp [go_sem,y2])) (hK _ _ rfl (U _ _) fun _ _ _ _ _ _ _ h=>h)
  ·cases ho;have e3:a.eval (ah 3)=aD aF (k:Int):=seen.kp 3 _ (nd 3 (by omega)) rfl;exact au rfl rfl (aQ a.eval _ (ah 3) rfl x) (hK _ _ e3 (U _ _) fun _ _ _ _ _ _ _ h=>h)
  ·cases ho;have e1:a.eval (ah 1)=J (V ⟨b1,0,Z⟩):=seen.kp 1 _ (nd 1 (by omega)) rfl;exact au rfl rfl (aI a.eval _ 33 (ah 1) 2 rfl (by rw [e1]; simp [go_sem])) (hK _ _ rfl (U _ _) fun _ _ _ _ _ _ _ h=>h)
  ·cases ho;have e35:a.eval (ah 35)=J (V ⟨b1,2,Z⟩):=seen.at_ ⟨3,.data⟩ (by simp) rfl (ak (by decide));have y2:=(H1.out.on hb).cell 2;simp only [O,X,Y] at y2;exact au rfl rfl (aL a.eval _ 28 (ah 35) rfl (by rw [e35]; simp [go_sem,y2])) (hK _ _ rfl (U _ _) fun _ _ _ _ _ _ _ h=>h)
  ·cases ho;have e3:a.eval (ah 3)=aD aF (k:Int):=seen.kp 3 _ (nd 3 (by omega)) rfl;exact au rfl rfl (aQ a.eval _ (ah 3) rfl x) (hK _ _ e3 (U _ _) fun _ _ _ _ _ _ _ h=>h)
  ·cases ho;have e36:a.eval (ah 36)=L (V ⟨g,0,Z⟩) n cap:=seen.at_ ⟨4,.data⟩ (by simp) rfl (ak (by decide));have e37:a.eval (ah 37)=aD aF (k:Int):=seen.at_ ⟨5,.data⟩ (by simp) rfl (ak (by decide));exact au rfl rfl (aR a.eval _ 28 (ah 36) (ah 37) rfl (by rw [e36,e37]; exact IX.out x)) (hK _ _ rfl (U _ _) fun _ _ _ _ _ _ _ h=>h)
  ·cases ho;have e38:a.eval (ah 38)=J (V ⟨g,k * 4,Z⟩):=seen.at_ ⟨6,.data⟩ (by simp) rfl (ak (by decide));exact au rfl rfl (aL a.eval _ 53 (ah 38) rfl (by rw [e38]; exact P6 x _ (y1,y2,(yo,yn,yc),y4) (EL.out x hb))) (hK _ _ rfl (U _ _) fun _ _ _ _ _ _ _ h=>h)
  ·cases ho;have e39:a.eval (ah 39)=lU (y1,y2,(yo,yn,yc),y4):=seen.at_ ⟨7,.data⟩ (by simp) rfl (ak (by decide));exact aO rfl rfl (Rw.iJ a.eval _ (ah 39) 53 42 rfl e39 rfl _ (fV Tryz.func42 rfl rfl _ _)) (yR (y1,y2,(yo,yn,yc),y4) p x (HP.out.on hb) LP.out) fun e w1 h=>by
    obtain⟨⟨s,rfl,h1⟩,h3⟩:=h;exact⟨_,rfl,hK _ _ ⟨s,rfl,dG h1 hb.size⟩ (h3.mono hb.size) fun j u hj _ _ _ hne h=>iM j u _ _ h h3⟩
  ·cases ho;have e33:a.eval (ah 33)=L (V ⟨g,0,Z⟩) n cap:=seen.at_ ⟨1,.data⟩ (by simp) rfl (ak (by decide));have e34:a.eval (ah 34)=aD aF (k:Int):=seen.at_ ⟨2,.data⟩ (by simp) rfl (ak (by decide));exact au rfl rfl (aR a.eval _ 28 (ah 33) (ah 34) rfl (by rw [e33,e34]; exact IX.out x)) (hK _ _ rfl (U _ _) fun _ _ _ _ _ _ _ h=>h)
 ·intro kk o h1 h2 ho;omega
 ·intro a w' df sz kp ⟨vs,hv⟩ hb;have sz':a.tmps.size=82:=sz;have g41:a.tmps[41]?=V (J (V ⟨g,k * 4,Z⟩)):=by
   have h:vs 9=J (V ⟨g,k * 4,Z⟩):=(hv 9 (by omega)).2 (by decide);rw [<- h];exact (hv 9 (by omega)).1
  obtain⟨⟨s1,s2,s3⟩,hs,hc⟩:=(hv 8 (by omega)).2 (by decide);have g40:a.tmps[40]?=V (lU (y1,y2,(s1,s2,s3),y4)):=((hv 8 (by omega)).1).trans (congrArg V hs);obtain⟨w2,hr,st1,st2,st3⟩:=aaC (k:=k) (y1,y2,(s1,s2,s3),y4) (Bk.dx HO.out hb) (aA.1 HY.out).1;obtain⟨cur,hg⟩:=jR (Bk.dx HO.out hb);show aM _ _ _ 1 10 a w';simp only [aM];refine aP 53 (ah 41) (ah 40) rfl rfl rfl rfl (aJ g41) (aJ g40) (w':=w2) hr ?_;have q8:∀ j,(j<32\/42<=j)->(a).tmps[j]?=(u0::J (V ⟨b1,0,Z⟩)::u2::aD aF (k:Int)::u4::u5::u6::u7::u8::u9::u10::u11::u12::u13::u14::u15::u16::u17::u18::u19::u20::u21::u22::u23::u24::u25::u26::u27::u28::u29::u30::u31::u32::u33::u34::u35::u36::u37::u38::u39::u40::u41::u42::u43::u44::u45::u46::u47::u48::u49::u50::u51::u52::u53::u54::u55::u56::u57::u58::u59::u60::u61::u62::u63::u64::u65::u66::u67::u68::u69::u70::u71::u72::u73::u74::u75::u76::u77::u78::u79::u80::u81::[])[j]?:=fun j hj=>(kp j (nd j (by omega))).trans O;obtain⟨mid,hmid,hfr⟩:=aU (a:=a) 32 10 df (by simp [sz']) (by simp) q8;show Q .normal (a) _;rw [hfr]
  match mid,hmid with
  | [v32,v33,v34,v35,v36,v37,v38,v39,v40,v41],_ =>
   exact HQ.out _ _ _ _ _ _ _ _ _ _ _ s1 s2 s3 (st2.own hc hg (by decide)) st1 ((But.of_below hb).trans st2) fun B1 hB hl=>st3 B1 W hB (hb.mono hl)
def KQ (B:Nat) (b1:Nat) (_me:Int) (_z1 _z2 _z3 _z4:ay) (g n cap k:Nat) (_y1 _y2:Int) (yo:Option aH) (yn yc:Nat) (p:List C5) (i:Nat) (v:ay) (x:aC):Prop :=
 match i with
 | 0=>v=J (V ⟨b1,5,Z⟩)
 | 1=>v=L (V ⟨g,0,Z⟩) n cap
 | 2=>v=aD aF (k:Int)
 | 3=>v=J (V ⟨b1,5,Z⟩)
 | 4=>v=L (V ⟨g,0,Z⟩) n cap
 | 5=>v=aD aF (k:Int)
 | 6=>v=J (V ⟨g,k * 3,Z⟩)
 | 7=>v=J (V ⟨g,k * 3+2,Z⟩)
 | 8=>v=L yo yn yc
 | 9=>∃ s:Sl,v=dP s/\jO x B v p
 | 10=>v=J (V ⟨g,k * 3,Z⟩)
 | 11=>v=J (V ⟨g,k * 3+2,Z⟩)
 | _=>True
noncomputable def Ye:Code:=((Tryz.f50.body.bind (eD 16)).getD .skip)
theorem Ru (B:Nat) (b1:Nat) (me:Int) (z1 z2 z3 z4:ay) (g n cap k:Nat) (y1 y2:Int) (yo:Option aH) (yn yc:Nat) (p:List C5) (i:Nat) (v:ay) (x x':aC) (h:KQ B b1 me z1 z2 z3 z4 g n cap k y1 y2 yo yn yc p i v x) (hb:Below x.heap.size x x'):KQ B b1 me z1 z2 z3 z4 g n cap k y1 y2 yo yn yc p i v x':=by
 by_cases hi:i<12
 ·rcases (by omega:i=0\/i=1\/i=2\/i=3\/i=4\/i=5\/i=6\/i=7\/i=8\/i=9\/i=10\/i=11) with rfl|rfl|rfl|rfl|rfl|rfl|rfl|rfl|rfl|rfl|rfl|rfl
  ·exact h
  ·exact h
  ·exact h
  ·exact h
  ·exact h
  ·exact h
  ·exact h
  ·exact h
  ·exact h
  ·obtain⟨s,h1,h2⟩:=h; exact⟨s,h1,Bk.dx h2 hb⟩
  ·exact h
  ·exact h
 ·unfold KQ
  split <;> first | omega | trivial
theorem afc (Q:Exit->Act->aC->Prop) (W:aC) (B0:Nat) (l:List qK) (b1:Nat) (me:Int) (z1 z2 z3 z4:ay) (g n cap k:Nat) (y1 y2:Int) (yo:Option aH) (yn yc:Nat) (p:List C5) (u0 u2 u3 u4 u6 u7 u8 u9 u10 u11 u12 u13 u14 u15 u16 u17 u18 u19 u20 u21 u22 u23 u24 u25 u26 u27 u28 u29 u30 u31 u32 u33 u34 u35 u36 u37 u38 u39 u40 u41 u42 u43 u44 u45 u46 u47 u48 u49 u50 u51 u52 u53 u54 u55 u56 u57 u58 u59 u60 u61 u62 u63 u64 u65 u66 u67 u68 u69 u70 u71 u72 u73 u74 u75 u76 u77 u78 u79 u80 u81:ay)
  (h1:dI W b1 #[aD aF me,z1,z2,z3,z4,L (V ⟨g,0,Z⟩) n cap] 33) (ho:pI W B0 (L (V ⟨g,0,Z⟩) n cap) l) (hy:l[k]?=V (y1,y2,(yo,yn,yc))) (hp:fK W (L yo yn yc) p) (lp:p.length<=900)
  (hQ:∀ (x:aC) (v68 v69 v70 v71 v72 v73 v74 v75 v76 v77 v78 v79:ay) (s1:Option aH) (s2 s3:Nat),jO x W.heap.size (L s1 s2 s3) p->pI x B0 (L (V ⟨g,0,Z⟩) n cap) (l.set k (y1,y2,(s1,s2,s3)))->But g W x->(∀ B1,B1<=g->B1<=W.heap.size->Below B1 W x)->Q .normal ⟨(u0::J (V ⟨b1,0,Z⟩)::u2::u3::u4::aD aF (k:Int)::u6::u7::u8::u9::u10::u11::u12::u13::u14::u15::u16::u17::u18::u19::u20::u21::u22::u23::u24::u25::u26::u27::u28::u29::u30::u31::u32::u33::u34::u35::u36::u37::u38::u39::u40::u41::u42::u43::u44::u45::u46::u47::u48::u49::u50::u51::u52::u53::u54::u55::u56::u57::u58::u59::u60::u61::u62::u63::u64::u65::u66::u67::v68::v69::v70::v71::v72::v73::v74::v75::v76::v77::v78::v79::u80::u81::[]).toArray,[]⟩ x) :
  Code.wp Tryz.prog Ye Q ⟨(u0::J (V ⟨b1,0,Z⟩)::u2::u3::u4::aD aF (k:Int)::u6::u7::u8::u9::u10::u11::u12::u13::u14::u15::u16::u17::u18::u19::u20::u21::u22::u23::u24::u25::u26::u27::u28::u29::u30::u31::u32::u33::u34::u35::u36::u37::u38::u39::u40::u41::u42::u43::u44::u45::u46::u47::u48::u49::u50::u51::u52::u53::u54::u55::u56::u57::u58::u59::u60::u61::u62::u63::u64::u65::u66::u67::u68::u69::u70::u71::u72::u73::u74::u75::u76::u77::u78::u79::u80::u81::[]).toArray,[]⟩ W:=by
 have HQ:=aj hQ;have H1:=aj h1;have HO:=aj ho;have HY:=aj hy;have HP:=aj hp;have LP:=aj lp;have IX:=aj (nG okW g k n cap (by obtain⟨_,_,hv⟩:=(Row.dw ho).len; have h:=(aA.1 hy).1; simp at hv; omega));have EL:=aj (jW okW ho hy);clear hQ h1 ho hy hp lp;have iM:=Ru W.heap.size b1 me z1 z2 z3 z4 g n cap k y1 y2 yo yn yc p;unfold Ye
 conv=>arg 2; whnf
 have nd:∀ j,(j<68\/80<=j)->∀ i,i<12->(fun i=>68+i) i≠j:=by
  intro j hj i hi h;simp only at h;omega
 refine aS 13 12 (fun i=>68+i) (fun _=>12) (KQ W.heap.size b1 me z1 z2 z3 z4 g n cap k y1 y2 yo yn yc p) (by kernel_rfl) (by kernel_rfl) rfl (by decide) (fun i j _ _ h=>by have h2:68+i=68+j:=h; omega) (fun i hi=>by show 68+i<82; omega) ?_ (fun _=>aT 14 (by kernel_rfl)) ?_ ?_
 ·intro i o hi ho a x D hnd hc hD hb seen K hK;clear HQ;rcases (by omega:i=0\/i=1\/i=2\/i=3\/i=4\/i=5\/i=6\/i=7\/i=8\/i=9\/i=10\/i=11) with rfl|rfl|rfl|rfl|rfl|rfl|rfl|rfl|rfl|rfl|rfl|rfl
  ·cases ho;have e1:a.eval (ah 1)=J (V ⟨b1,0,Z⟩):=seen.kp 1 _ (nd 1 (by omega)) rfl;exact au rfl rfl (aI a.eval _ 33 (ah 1) 5 rfl (by rw [e1]; simp [go_sem])) (hK _ _ rfl (U _ _) fun _ _ _ _ _ _ _ h=>h)
  ·cases ho;have e68:a.eval (ah 68)=J (V ⟨b1,5,Z⟩):=seen.at_ ⟨0,.data⟩ (by simp) rfl (ak (by decide));have y5:=(H1.out.on hb).cell 5;simp only [O,X,Y] at y5;exact au rfl rfl (aL a.eval _ 31 (ah 68) rfl (by rw [e68]; simp [go_sem,y5])) (hK _ _ rfl (U _ _) fun _ _ _ _ _ _ _ h=>h)
  ·cases ho;have e5:a.eval (ah 5)=aD aF (k:Int):=seen.kp 5 _ (nd 5 (by omega)) rfl;exact au rfl rfl (aQ a.eval _ (ah 5) rfl x) (hK _ _ e5 (U _ _) fun _ _ _ _ _ _ _ h=>h)
  ·cases ho;have e1:a.eval (ah 1)=J (V ⟨b1,0,Z⟩):=seen.kp 1 _ (nd 1 (by omega)) rfl;exact au rfl rfl (aI a.eval _ 33 (ah 1) 5 rfl (by rw [e1]; simp [go_sem])) (hK _ _ rfl (U _ _) fun _ _ _ _ _ _ _ h=>h)
  ·cases ho;have e71:a.eval (ah 71)=J (V ⟨b1,5,Z⟩):=seen.at_ ⟨3,.data⟩ (by simp) rfl (ak (by decide));have y5:=(H1.out.on hb).cell 5;simp only [O,X,Y] at y5;exact au rfl rfl (aL a.eval _ 31 (ah 71) rfl (by rw [e71]; simp [go_sem,y5])) (hK _ _ rfl (U _ _) fun _ _ _ _ _ _ _ h=>h)
  ·cases ho;have e5:a.eval (ah 5)=aD aF (k:Int):=seen.kp 5 _ (nd 5 (by omega)) rfl;exact au rfl rfl (aQ a.eval _ (ah 5) rfl x) (hK _ _ e5 (U _ _) fun _ _ _ _ _ _ _ h=>h)
  ·cases ho;have e72:a.eval (ah 72)=L (V ⟨g,0,Z⟩) n cap:=seen.at_ ⟨4,.data⟩ (by simp) rfl (ak (by decide));have e73:a.eval (ah 73)=aD aF (k:Int):=seen.at_ ⟨5,.data⟩ (by simp) rfl (ak (by decide));exact au rfl rfl (aR a.eval _ 31 (ah 72) (ah 73) rfl (by rw [e72,e73]; exact IX.out x)) (hK _ _ rfl (U _ _) fun _ _ _ _ _ _ _ h=>h)
  ·cases ho;have e74:a.eval (ah 74)=J (V ⟨g,k * 3,Z⟩):=seen.at_ ⟨6,.data⟩ (by simp) rfl (ak (by decide));exact au rfl rfl (aI a.eval _ 61 (ah 74) 1 rfl (by rw [e74]; simp [go_sem])) (hK _ _ rfl (U _ _) fun _ _ _ _ _ _ _ h=>h)
  ·cases ho;have e75:a.eval (ah 75)=J (V ⟨g,k * 3+2,Z⟩):=seen.at_ ⟨7,.data⟩ (by simp) rfl (ak (by decide));have y:=EL.out x hb 2 _ rfl;simp [Addr.add,EW] at y;exact au rfl rfl (aL a.eval _ 41 (ah 75) rfl (by rw [e75]; simp [go_sem,y])) (hK _ _ rfl (U _ _) fun _ _ _ _ _ _ _ h=>h)
  ·cases ho;have e76:a.eval (ah 76)=L yo yn yc:=seen.at_ ⟨8,.data⟩ (by simp) rfl (ak (by decide));exact aO rfl rfl (Rw.iJ a.eval _ (ah 76) 41 66 rfl e76 rfl _ (fV Tryz.func66 rfl rfl _ _)) (qL (yo,yn,yc) p x (HP.out.on hb) LP.out) fun e w1 h=>by
    obtain⟨⟨s,rfl,h1⟩,h3⟩:=h;exact⟨_,rfl,hK _ _ ⟨s,rfl,dG h1 hb.size⟩ (h3.mono hb.size) fun j u hj _ _ _ hne h=>iM j u _ _ h h3⟩
  ·cases ho;have e69:a.eval (ah 69)=L (V ⟨g,0,Z⟩) n cap:=seen.at_ ⟨1,.data⟩ (by simp) rfl (ak (by decide));have e70:a.eval (ah 70)=aD aF (k:Int):=seen.at_ ⟨2,.data⟩ (by simp) rfl (ak (by decide));exact au rfl rfl (aR a.eval _ 31 (ah 69) (ah 70) rfl (by rw [e69,e70]; exact IX.out x)) (hK _ _ rfl (U _ _) fun _ _ _ _ _ _ _ h=>h)
  ·cases ho;have e78:a.eval (ah 78)=J (V ⟨g,k * 3,Z⟩):=seen.at_ ⟨10,.data⟩ (by simp) rfl (ak (by decide));exact au rfl rfl (aI a.eval _ 61 (ah 78) 1 rfl (by rw [e78]; simp [go_sem])) (hK _ _ rfl (U _ _) fun _ _ _ _ _ _ _ h=>h)
 ·intro kk o h1 h2 ho;omega
 ·intro a w' df sz kp ⟨vs,hv⟩ hb;have sz':a.tmps.size=82:=sz;have g79:a.tmps[79]?=V (J (V ⟨g,k * 3+2,Z⟩)):=by
   have h:vs 11=J (V ⟨g,k * 3+2,Z⟩):=(hv 11 (by omega)).2 (by decide);rw [<- h];exact (hv 11 (by omega)).1
  obtain⟨⟨s1,s2,s3⟩,hs,hc⟩:=(hv 9 (by omega)).2 (by decide);have g77:a.tmps[77]?=V (L s1 s2 s3):=((hv 9 (by omega)).1).trans (congrArg V hs);rw [hs] at hc;obtain⟨w2,hr,st1,st2,st3⟩:=aaE (k:=k) s1 s2 s3 (Bk.dx HO.out hb) HY.out;obtain⟨cur,hg⟩:=jR (Bk.dx HO.out hb);show aM _ _ _ 1 12 a w';simp only [aM];refine aP 41 (ah 79) (ah 77) rfl rfl rfl rfl (aJ g79) (aJ g77) (w':=w2) hr ?_;have q8:∀ j,(j<68\/80<=j)->(a).tmps[j]?=(u0::J (V ⟨b1,0,Z⟩)::u2::u3::u4::aD aF (k:Int)::u6::u7::u8::u9::u10::u11::u12::u13::u14::u15::u16::u17::u18::u19::u20::u21::u22::u23::u24::u25::u26::u27::u28::u29::u30::u31::u32::u33::u34::u35::u36::u37::u38::u39::u40::u41::u42::u43::u44::u45::u46::u47::u48::u49::u50::u51::u52::u53::u54::u55::u56::u57::u58::u59::u60::u61::u62::u63::u64::u65::u66::u67::u68::u69::u70::u71::u72::u73::u74::u75::u76::u77::u78::u79::u80::u81::[])[j]?:=fun j hj=>(kp j (nd j (by omega))).trans O;obtain⟨mid,hmid,hfr⟩:=aU (a:=a) 68 12 df (by simp [sz']) (by simp) q8;show Q .normal (a) _;rw [hfr]
  match mid,hmid with
  | [v68,v69,v70,v71,v72,v73,v74,v75,v76,v77,v78,v79],_ =>
   exact HQ.out _ _ _ _ _ _ _ _ _ _ _ _ _ s1 s2 s3 (st2.own hc hg (by decide)) st1 ((But.of_below hb).trans st2) fun B1 hB hl=>st3 B1 W hB (hb.mono hl)
end Av
namespace At
open Go.RowKit Va
abbrev V3:=Bool×Int×ByteArray
theorem nO {a b:ByteArray} (h:a.toList=b.toList):a=b:=by
 rw [aB,aB] at h;exact WideShapes.bytes_inj h
def wF:List A4->ByteArray->Option V3
 | [],_=>Z
 | x::r,n=>if x.1=n then V x.2 else wF r n
def acN (l:List A4):Prop:=l.Pairwise fun x y=>Op.bytesLess x.1.toList y.1.toList=true
theorem get_none:∀ (l:List A4) (n:ByteArray),(∀ x∈l,x.1≠n)->wF l n=Z
 | [],_,_=>rfl
 | x::r,n,h=>by
  simp only [wF];rw [if_neg (h x (List.mem_cons_self ..)),get_none r n (fun y hy=>h y (List.mem_cons_of_mem _ hy))]
/-! ### the publications that numbers make -/
theorem KR (i:Nat):(nm i).toList=[UInt8.ofNat (97+i)]:=by rw [aB]; rfl
theorem Dy (i j:Nat) (h:i<j) (hj:j<7):Op.bytesLess (nm i).toList (nm j).toList=true:=by
 rw [KR,KR,VaP.xO];left;simp only [UInt8.toNat_ofNat'];omega
theorem sJ (has vals:List Int):∀ k,∀ x∈rH has vals k,∃ i,i<k/\x.1=nm i
 | 0,x,h=>by simp [rH] at h
 | k+1,x,h=>by
  simp only [rH] at h
  split at h
  ·rcases aK.1 h with h|h
   ·obtain⟨i,h1,h2⟩:=sJ has vals k x h;exact⟨i,by omega,h2⟩
   ·simp at h;exact⟨k,by omega,by rw [h]⟩
  ·obtain⟨i,h1,h2⟩:=sJ has vals k x h;exact⟨i,by omega,h2⟩
theorem ze (has vals:List Int):∀ k,k<=7->acN (rH has vals k)
 | 0,_=>List.Pairwise.nil
 | k+1,hk=>by
  simp only [rH]
  split
  ·unfold acN;rw [List.pairwise_append];refine⟨ze has vals k (by omega),by simp,fun x hx y hy=>?_⟩;obtain⟨i,h1,h2⟩:=sJ has vals k x hx;simp at hy;rw [h2,hy];exact Dy i k h1 (by omega)
  ·exact ze has vals k (by omega)
theorem wG (has vals:List Int):∀ k,∀ x∈rH has vals k,Dp x.2.1 x.2.2.1 x.2.2.2=true/\x.2.2.2.size<=3
 | 0,x,h=>by simp [rH] at h
 | k+1,x,h=>by
  simp only [rH] at h
  split at h
  ·rcases aK.1 h with h|h
   ·exact wG has vals k x h
   ·simp at h;rw [h];exact⟨PW _,E8 _⟩
  ·exact wG has vals k x h
theorem Gn (has vals:List Int):∀ k,(rH has vals k).length<=5
 | 0=>by simp [rH]
 | k+1=>by
  have:=Gn has vals k;simp only [rH]
  split
  ·rename_i h
   simp; omega
  ·exact this
theorem Dz (i:Nat):(nm i).size=1:=rfl
end At
namespace At
open Go.RowKit Go.Sort Va In
def JC:Option V3->ay
 | some v=>.tuple #[vl v.1 v.2.1 v.2.2,.bool true]
 | none=>.tuple #[vl false 0 ⟨#[]⟩,.bool false]
def acO:Prop:=∀ (lv:ay) (l:List A4) (n:ByteArray) (w:aC),xA w lv l->l.length<=100->n.size<=maxLen ->
 Calls Tryz.prog 44 #[lv,.string n] w fun e w'=>e=.returned (JC (wF l n))/\Below w.heap.size w w'
end At
end Go.Proofs.YtkcfgbddlpomgaaGreat
