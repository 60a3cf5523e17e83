/-
  The region of Copy i. Conditions as told.
-/
import Derived.Test.YtkcfgbddlpomgaaBQ015
set_option maxRecDepth 100000
set_option maxHeartbeats 64000000
open _root_.Go renaming Value->aG,World->aH,Addr->aM,bodyPost_ret->aT,wpOp->bf
open Go.IntKind renaming i64->au
open Go.IntWalk renaming i64_in->aN
open Go.Lib renaming hid->L
open Go.Obj renaming cells->aL
open Go.Operand renaming tmp->ay
open Go.Proofs.Ytkcfgbddlpomgaa.Rg renaming cu->aF,get_put->aK,cO->aO,dH->aQ,dO->aU,eU->aW,dW->aX,eZ->aY,size_put->aZ,eP->bq,iw->bA,fH->bB
open Go.RowKit.Below renaming refl->ah,heap_setCell->aB
open Go.Value renaming slice->J,pointer->O,int->ak,bool->bn
open _root_.List renaming getElem?_toArray->U,getElem?_cons_zero->V,getElem?_cons_succ->X,getElem?_eq_getElem->aj,take_of_length_le->aA,getElem?_eq_some_iff->aC,mem_of_getElem?->aI
open _root_.Nat renaming le_refl->aP,zero_le->aR,lt_of_le_of_lt->aS,le_of_lt->aV
open _root_.Option renaming some->Y,none->Z
open Option.some renaming inj->aJ
open _root_.Or renaming inr->aD,inl->bg
namespace Go.Proofs.Ytkcfgbddlpomgaa.Av
open Go.RowKit Go.Sort Rw Ytkcfgbddlpomgaa.Nm Pr Bk
def zQ (B:Nat) (b1:Nat) (_me:Int) (_z2 _z4 _z5:aG) (o1:Option aM) (n1 c1:Nat) (nl:List Int) (o3:Option aM) (n3 c3:Nat) (sl:List dI) (i:Nat) (v:aG) (x:aH):Prop :=
 match i with
 | 0=>v=O (Y ⟨b1,1,Z⟩)
 | 1=>v=J o1 n1 c1
 | 2=>∃ s:Sl,v=dz s/\gK x B v nl
 | 3=>v=O (Y ⟨b1,3,Z⟩)
 | 4=>v=J o3 n3 c3
 | 5=>∃ s:Sl,v=dz s/\pG x B v sl
 | 6=>v=O (Y ⟨b1,1,Z⟩)
 | _=>True
noncomputable def Ef:Code:=((Try.f9.body.bind (dL 1)).getD .skip)
theorem zR (B:Nat) (b1:Nat) (me:Int) (z2 z4 z5:aG) (o1:Option aM) (n1 c1:Nat) (nl:List Int) (o3:Option aM) (n3 c3:Nat) (sl:List dI) (i:Nat) (v:aG) (x x':aH) (h:zQ B b1 me z2 z4 z5 o1 n1 c1 nl o3 n3 c3 sl i v x) (hb:Below x.heap.size x x'):zQ B b1 me z2 z4 z5 o1 n1 c1 nl o3 n3 c3 sl i v x':=by
 by_cases hi:i<7
 ·rcases (by omega:i=0\/i=1\/i=2\/i=3\/i=4\/i=5\/i=6) with rfl|rfl|rfl|rfl|rfl|rfl|rfl
  ·exact h
  ·exact h
  ·obtain⟨s,h1,h2⟩:=h; exact⟨s,h1,Bk.dx h2 hb⟩
  ·exact h
  ·exact h
  ·obtain⟨s,h1,h2⟩:=h; exact⟨s,h1,Bk.dx h2 hb⟩
  ·exact h
 ·unfold zQ
  split <;> first | omega | trivial
theorem Jo (Q:Exit->Act->aH->Prop) (W:aH) (b1:Nat) (me:Int) (z2 z4 z5:aG) (o1:Option aM) (n1 c1:Nat) (nl:List Int) (o3:Option aM) (n3 c3:Nat) (sl:List dI) (u0 u2 u3 u4 u5 u6 u7 u8 u9 u10 u11 u12 u13 u14 u15 u16 u17 u18 u19 u20 u21 u22 u23 u24 u25 u26 u27 u28 u29 u30 u31 u32 u33 u34 u35 u36 u37 u38 u39 u40 u41 u42 u43 u44 u45 u46 u47 u48 u49 u50 u51 u52 u53 u54 u55 u56 u57 u58 u59 u60 u61 u62 u63 u64 u65 u66 u67 u68 u69 u70 u71 u72 u73 u74 u75 u76 u77 u78 u79 u80 u81:aG)
  (h1:dh W b1 #[ak au me,J o1 n1 c1,z2,J o3 n3 c3,z4,z5] 30) (r1:om W (J o1 n1 c1) nl) (r3:oq W (J o3 n3 c3) sl) (l1:nl.length<=900) (l3:sl.length<=900)
  (hQ:∀ (x:aH) (v6 v7 v8 v9 v10 v11 v12 v13:aG) (p1:Option aM) (q1 s1:Nat) (p3:Option aM) (q3 s3:Nat),dh x b1 #[ak au me,J p1 q1 s1,z2,J p3 q3 s3,z4,z5] 30->gK x W.heap.size (J p1 q1 s1) nl->pG x W.heap.size (J p3 q3 s3) sl->(∀ B,B<=b1->Below B W x)->(∀ k,k<W.heap.size->k≠b1->x.heap[k]?=W.heap[k]?)->Q .normal ⟨(u0::O (Y ⟨b1,0,Z⟩)::u2::u3::u4::u5::v6::v7::v8::v9::v10::v11::v12::v13::u14::u15::u16::u17::u18::u19::u20::u21::u22::u23::u24::u25::u26::u27::u28::u29::u30::u31::u32::u33::u34::u35::u36::u37::u38::u39::u40::u41::u42::u43::u44::u45::u46::u47::u48::u49::u50::u51::u52::u53::u54::u55::u56::u57::u58::u59::u60::u61::u62::u63::u64::u65::u66::u67::u68::u69::u70::u71::u72::u73::u74::u75::u76::u77::u78::u79::u80::u81::[]).toArray,[]⟩ x) :
  Code.wp Try.prog Ef Q ⟨(u0::O (Y ⟨b1,0,Z⟩)::u2::u3::u4::u5::u6::u7::u8::u9::u10::u11::u12::u13::u14::u15::u16::u17::u18::u19::u20::u21::u22::u23::u24::u25::u26::u27::u28::u29::u30::u31::u32::u33::u34::u35::u36::u37::u38::u39::u40::u41::u42::u43::u44::u45::u46::u47::u48::u49::u50::u51::u52::u53::u54::u55::u56::u57::u58::u59::u60::u61::u62::u63::u64::u65::u66::u67::u68::u69::u70::u71::u72::u73::u74::u75::u76::u77::u78::u79::u80::u81::[]).toArray,[]⟩ W:=by
 have HQ:=L hQ;have H1:=L h1;have R1:=L r1;have R3:=L r3;have L1:=L l1;have L3:=L l3;clear hQ h1 r1 r3 l1 l3;have iG:=zR W.heap.size b1 me z2 z4 z5 o1 n1 c1 nl o3 n3 c3 sl;unfold Ef
 conv=>arg 2; whnf
 have nd:∀ j,(j<6\/13<=j)->∀ i,i<7->(fun i=>6+i) i≠j:=by
  intro j hj i hi h;simp only at h;omega
 refine bq 10 7 (fun i=>6+i) (fun _=>7) (zQ W.heap.size b1 me z2 z4 z5 o1 n1 c1 nl o3 n3 c3 sl) (by kernel_rfl) (by kernel_rfl) rfl (by decide) (fun i j _ _ h=>by have h2:6+i=6+j:=h; omega) (fun i hi=>by show 6+i<82; omega) ?_ (fun _=>bA 14 (by kernel_rfl)) ?_ ?_
 ·intro i o hi ho a x D hnd hc hD hb seen K hK;clear HQ;rcases (by omega:i=0\/i=1\/i=2\/i=3\/i=4\/i=5\/i=6) with rfl|rfl|rfl|rfl|rfl|rfl|rfl
  ·cases ho;have e1:a.eval (ay 1)=O (Y ⟨b1,0,Z⟩):=seen.kp 1 _ (nd 1 (by omega)) rfl;exact aF rfl rfl (aQ a.eval _ 30 (ay 1) 1 rfl (by rw [e1]; simp [go_sem])) (hK _ _ rfl (ah _ _) fun _ _ _ _ _ _ _ h=>h)
  ·cases ho;have e6:a.eval (ay 6)=O (Y ⟨b1,1,Z⟩):=seen.at_ ⟨0,.data⟩ (by simp) rfl (aD (by decide));have y1:=(H1.out.on hb).cell 1;simp only [U,V,X] at y1;exact aF rfl rfl (aU a.eval _ 24 (ay 6) rfl (by rw [e6]; simp [go_sem,y1])) (hK _ _ rfl (ah _ _) fun _ _ _ _ _ _ _ h=>h)
  ·cases ho;have e7:a.eval (ay 7)=J o1 n1 c1:=seen.at_ ⟨1,.data⟩ (by simp) rfl (aD (by decide));exact aW rfl rfl (Rw.eO a.eval _ (ay 7) 24 15 rfl e7 rfl _ (dV Try.func15 rfl rfl _ _)) (lK (o1,n1,c1) nl x (R1.out.on hb) L1.out) fun e w1 h=>by
    obtain⟨⟨s,rfl,h1⟩,h3⟩:=h;exact⟨_,rfl,hK _ _ ⟨s,rfl,cK h1 hb.size⟩ (h3.mono hb.size) fun j u hj _ _ _ hne h=>iG j u _ _ h h3⟩
  ·cases ho;have e1:a.eval (ay 1)=O (Y ⟨b1,0,Z⟩):=seen.kp 1 _ (nd 1 (by omega)) rfl;exact aF rfl rfl (aQ a.eval _ 30 (ay 1) 3 rfl (by rw [e1]; simp [go_sem])) (hK _ _ rfl (ah _ _) fun _ _ _ _ _ _ _ h=>h)
  ·cases ho;have e9:a.eval (ay 9)=O (Y ⟨b1,3,Z⟩):=seen.at_ ⟨3,.data⟩ (by simp) rfl (aD (by decide));have y3:=(H1.out.on hb).cell 3;simp only [U,V,X] at y3;exact aF rfl rfl (aU a.eval _ 26 (ay 9) rfl (by rw [e9]; simp [go_sem,y3])) (hK _ _ rfl (ah _ _) fun _ _ _ _ _ _ _ h=>h)
  ·cases ho;have e10:a.eval (ay 10)=J o3 n3 c3:=seen.at_ ⟨4,.data⟩ (by simp) rfl (aD (by decide));exact aW rfl rfl (Rw.eO a.eval _ (ay 10) 26 28 rfl e10 rfl _ (dV Try.func28 rfl rfl _ _)) (qW (o3,n3,c3) sl x (R3.out.on hb) L3.out) fun e w1 h=>by
    obtain⟨⟨s,rfl,h1⟩,h3⟩:=h;exact⟨_,rfl,hK _ _ ⟨s,rfl,cK h1 hb.size⟩ (h3.mono hb.size) fun j u hj _ _ _ hne h=>iG j u _ _ h h3⟩
  ·cases ho;have e1:a.eval (ay 1)=O (Y ⟨b1,0,Z⟩):=seen.kp 1 _ (nd 1 (by omega)) rfl;exact aF rfl rfl (aQ a.eval _ 30 (ay 1) 1 rfl (by rw [e1]; simp [go_sem])) (hK _ _ rfl (ah _ _) fun _ _ _ _ _ _ _ h=>h)
 ·intro kk o h1 h2 ho;rcases (by omega:kk=8\/kk=9) with rfl|rfl
  ·cases ho;exact⟨⟨7,.phase⟩,by simp,rfl,rfl⟩
  ·cases ho;exact⟨⟨8,.data⟩,by simp,rfl,rfl⟩
 ·intro a w' df sz kp ⟨vs,hv⟩ hb;have sz':a.tmps.size=82:=sz;have g1:a.tmps[1]?=Y (O (Y ⟨b1,0,Z⟩)):=(kp 1 (nd 1 (by omega))).trans rfl;have g12:a.tmps[12]?=Y (O (Y ⟨b1,1,Z⟩)):=by
   have h:vs 6=O (Y ⟨b1,1,Z⟩):=(hv 6 (by omega)).2 (by decide);rw [<- h];exact (hv 6 (by omega)).1
  obtain⟨⟨p1,q1,s1⟩,hs1,ho1⟩:=(hv 2 (by omega)).2 (by decide);have g8:a.tmps[8]?=Y (J p1 q1 s1):=((hv 2 (by omega)).1).trans (congrArg Y hs1);rw [hs1] at ho1;obtain⟨⟨p3,q3,s3⟩,hs3,ho3⟩:=(hv 5 (by omega)).2 (by decide);have g11:a.tmps[11]?=Y (J p3 q3 s3):=((hv 5 (by omega)).1).trans (congrArg Y hs3);rw [hs3] at ho3;have hB:=H1.out.on hb;have hlt:=H1.out.lt;show aX _ _ _ 3 7 a w';simp only [aX];have Iq:=hB.cell 1;have Jp:=hB.fr 1;simp only [U,V,X] at Iq;refine aY 24 (ay 12) (ay 8) rfl rfl rfl rfl (aO g12) (aO g8) (w':=(w').setCell ⟨b1,1,Z⟩ (J p1 q1 s1)) (by simp [go_sem,Iq,Jp]) ?_;have hB1:dh ((w').setCell ⟨b1,1,Z⟩ (J p1 q1 s1)) b1 #[ak au me,J p1 q1 s1,z2,J o3 n3 c3,z4,z5] 30:=by simpa using dG (k:=1) hB (J p1 q1 s1)
  refine aF rfl rfl (aQ _ _ 30 (ay 1) 3 rfl (v:=O (Y ⟨b1,3,Z⟩)) (by rw [aO g1]; simp [go_sem])) ?_;have Gt:((a).put (Y 13) (O (Y ⟨b1,3,Z⟩))).tmps[13]?=Y (O (Y ⟨b1,3,Z⟩)):=by simp [Act.put,sz']
  show bf _ _ _ 9 _ ((a).put (Y 13) (O (Y ⟨b1,3,Z⟩))) _;have Ir:=hB1.cell 3;have Jq:=hB1.fr 3;simp only [U,V,X] at Ir;refine aY 26 (ay 13) (ay 11) rfl rfl rfl rfl (aO Gt) (aO ((aK _ 13 _ 11 (by decide)).trans g11)) (w':=((w').setCell ⟨b1,1,Z⟩ (J p1 q1 s1)).setCell ⟨b1,3,Z⟩ (J p3 q3 s3)) (by simp [go_sem,Ir,Jq]) ?_;have hB3:dh (((w').setCell ⟨b1,1,Z⟩ (J p1 q1 s1)).setCell ⟨b1,3,Z⟩ (J p3 q3 s3)) b1 #[ak au me,J p1 q1 s1,z2,J p3 q3 s3,z4,z5] 30:=by simpa using dG (k:=3) hB1 (J p3 q3 s3)
  have pX:∀ j,(j<6\/14<=j)->((a).put (Y 13) (O (Y ⟨b1,3,Z⟩))).tmps[j]?=(u0::O (Y ⟨b1,0,Z⟩)::u2::u3::u4::u5::u6::u7::u8::u9::u10::u11::u12::u13::u14::u15::u16::u17::u18::u19::u20::u21::u22::u23::u24::u25::u26::u27::u28::u29::u30::u31::u32::u33::u34::u35::u36::u37::u38::u39::u40::u41::u42::u43::u44::u45::u46::u47::u48::u49::u50::u51::u52::u53::u54::u55::u56::u57::u58::u59::u60::u61::u62::u63::u64::u65::u66::u67::u68::u69::u70::u71::u72::u73::u74::u75::u76::u77::u78::u79::u80::u81::[])[j]?:=fun j hj=>(aK _ 13 _ j (by omega)).trans ((kp j (nd j (by omega))).trans U);obtain⟨mid,hmid,hfr⟩:=bB (a:=(a).put (Y 13) (O (Y ⟨b1,3,Z⟩))) 6 8 df (by simp [aZ,sz']) (by simp) pX;show Q .normal ((a).put (Y 13) (O (Y ⟨b1,3,Z⟩))) _;rw [hfr]
  match mid,hmid with
  | [v6,v7,v8,v9,v10,v11,v12,v13],_ =>
   exact HQ.out _ _ _ _ _ _ _ _ _ p1 q1 s1 p3 q3 s3 hB3 (dF (dF ho1 b1 1 (J p1 q1 s1) hlt) b1 3 (J p3 q3 s3) hlt) (dF (dF ho3 b1 1 (J p1 q1 s1) hlt) b1 3 (J p3 q3 s3) hlt) (fun B hBl=>(((hb.mono (aV (aS hBl hlt))).setCell (p:=⟨b1,1,Z⟩) hBl (J p1 q1 s1)).setCell (p:=⟨b1,3,Z⟩) hBl (J p3 q3 s3))) (fun k hk hne=>((aB ((w').setCell ⟨b1,1,Z⟩ (J p1 q1 s1)) ⟨b1,3,Z⟩ (J p3 q3 s3) k hne).trans ((aB (w') ⟨b1,1,Z⟩ (J p1 q1 s1) k hne).trans (hb.block k hk))))
def zS (B:Nat) (b1:Nat) (_me:Int) (_z1 _z3:aG) (o2:Option aM) (n2 c2:Nat) (al:List gD) (o4:Option aM) (n4 c4:Nat) (el:List gq) (o5:Option aM) (n5 c5:Nat) (ol:List lg) (i:Nat) (v:aG) (x:aH):Prop :=
 match i with
 | 0=>v=O (Y ⟨b1,2,Z⟩)
 | 1=>v=J o2 n2 c2
 | 2=>∃ s:Sl,v=dz s/\jD x B v al
 | 3=>v=O (Y ⟨b1,4,Z⟩)
 | 4=>v=J o4 n4 c4
 | 5=>∃ s:Sl,v=dz s/\iZ x B v el
 | 6=>v=O (Y ⟨b1,5,Z⟩)
 | 7=>v=J o5 n5 c5
 | 8=>∃ s:Sl,v=dz s/\oz x B v ol
 | 9=>v=O (Y ⟨b1,2,Z⟩)
 | _=>True
noncomputable def Eh:Code:=((Try.f9.body.bind (dL 2)).getD .skip)
theorem zT (B:Nat) (b1:Nat) (me:Int) (z1 z3:aG) (o2:Option aM) (n2 c2:Nat) (al:List gD) (o4:Option aM) (n4 c4:Nat) (el:List gq) (o5:Option aM) (n5 c5:Nat) (ol:List lg) (i:Nat) (v:aG) (x x':aH) (h:zS B b1 me z1 z3 o2 n2 c2 al o4 n4 c4 el o5 n5 c5 ol i v x) (hb:Below x.heap.size x x'):zS B b1 me z1 z3 o2 n2 c2 al o4 n4 c4 el o5 n5 c5 ol i v x':=by
 by_cases hi:i<10
 ·rcases (by omega:i=0\/i=1\/i=2\/i=3\/i=4\/i=5\/i=6\/i=7\/i=8\/i=9) with rfl|rfl|rfl|rfl|rfl|rfl|rfl|rfl|rfl|rfl
  ·exact h
  ·exact h
  ·obtain⟨s,h1,h2⟩:=h; exact⟨s,h1,Bk.dx h2 hb⟩
  ·exact h
  ·exact h
  ·obtain⟨s,h1,h2⟩:=h; exact⟨s,h1,Bk.dx h2 hb⟩
  ·exact h
  ·exact h
  ·obtain⟨s,h1,h2⟩:=h; exact⟨s,h1,Bk.dx h2 hb⟩
  ·exact h
 ·unfold zS
  split <;> first | omega | trivial
theorem cp2 (Q:Exit->Act->aH->Prop) (W:aH) (b1:Nat) (me:Int) (z1 z3:aG) (o2:Option aM) (n2 c2:Nat) (al:List gD) (o4:Option aM) (n4 c4:Nat) (el:List gq) (o5:Option aM) (n5 c5:Nat) (ol:List lg) (u0 u2 u3 u4 u5 u6 u7 u8 u9 u10 u11 u12 u13 u14 u15 u16 u17 u18 u19 u20 u21 u22 u23 u24 u25 u26 u27 u28 u29 u30 u31 u32 u33 u34 u35 u36 u37 u38 u39 u40 u41 u42 u43 u44 u45 u46 u47 u48 u49 u50 u51 u52 u53 u54 u55 u56 u57 u58 u59 u60 u61 u62 u63 u64 u65 u66 u67 u68 u69 u70 u71 u72 u73 u74 u75 u76 u77 u78 u79 u80 u81:aG)
  (h1:dh W b1 #[ak au me,z1,J o2 n2 c2,z3,J o4 n4 c4,J o5 n5 c5] 30) (r2:qQ W (J o2 n2 c2) al) (r4:iY W (J o4 n4 c4) el) (r5:Bq W (J o5 n5 c5) ol) (l2:al.length<=900) (l4:el.length<=900) (l5:ol.length<=900)
  (hQ:∀ (x:aH) (v14 v15 v16 v17 v18 v19 v20 v21 v22 v23 v24 v25:aG) (p2:Option aM) (q2 s2:Nat) (p4:Option aM) (q4 s4:Nat) (p5:Option aM) (q5 s5:Nat),dh x b1 #[ak au me,z1,J p2 q2 s2,z3,J p4 q4 s4,J p5 q5 s5] 30->jD x W.heap.size (J p2 q2 s2) al->iZ x W.heap.size (J p4 q4 s4) el->oz x W.heap.size (J p5 q5 s5) ol->(∀ B,B<=b1->Below B W x)->(∀ k,k<W.heap.size->k≠b1->x.heap[k]?=W.heap[k]?)->Q .normal ⟨(u0::O (Y ⟨b1,0,Z⟩)::u2::u3::u4::u5::u6::u7::u8::u9::u10::u11::u12::u13::v14::v15::v16::v17::v18::v19::v20::v21::v22::v23::v24::v25::u26::u27::u28::u29::u30::u31::u32::u33::u34::u35::u36::u37::u38::u39::u40::u41::u42::u43::u44::u45::u46::u47::u48::u49::u50::u51::u52::u53::u54::u55::u56::u57::u58::u59::u60::u61::u62::u63::u64::u65::u66::u67::u68::u69::u70::u71::u72::u73::u74::u75::u76::u77::u78::u79::u80::u81::[]).toArray,[]⟩ x) :
  Code.wp Try.prog Eh Q ⟨(u0::O (Y ⟨b1,0,Z⟩)::u2::u3::u4::u5::u6::u7::u8::u9::u10::u11::u12::u13::u14::u15::u16::u17::u18::u19::u20::u21::u22::u23::u24::u25::u26::u27::u28::u29::u30::u31::u32::u33::u34::u35::u36::u37::u38::u39::u40::u41::u42::u43::u44::u45::u46::u47::u48::u49::u50::u51::u52::u53::u54::u55::u56::u57::u58::u59::u60::u61::u62::u63::u64::u65::u66::u67::u68::u69::u70::u71::u72::u73::u74::u75::u76::u77::u78::u79::u80::u81::[]).toArray,[]⟩ W:=by
 have HQ:=L hQ;have H1:=L h1;have R2:=L r2;have R4:=L r4;have R5:=L r5;have L2:=L l2;have L4:=L l4;have L5:=L l5;clear hQ h1 r2 r4 r5 l2 l4 l5;have iG:=zT W.heap.size b1 me z1 z3 o2 n2 c2 al o4 n4 c4 el o5 n5 c5 ol;unfold Eh
 conv=>arg 2; whnf
 have nd:∀ j,(j<14\/24<=j)->∀ i,i<10->(fun i=>14+i) i≠j:=by
  intro j hj i hi h;simp only at h;omega
 refine bq 15 10 (fun i=>14+i) (fun _=>10) (zS W.heap.size b1 me z1 z3 o2 n2 c2 al o4 n4 c4 el o5 n5 c5 ol) (by kernel_rfl) (by kernel_rfl) rfl (by decide) (fun i j _ _ h=>by have h2:14+i=14+j:=h; omega) (fun i hi=>by show 14+i<82; omega) ?_ (fun _=>bA 14 (by kernel_rfl)) ?_ ?_
 ·intro i o hi ho a x D hnd hc hD hb seen K hK;clear HQ;rcases (by omega:i=0\/i=1\/i=2\/i=3\/i=4\/i=5\/i=6\/i=7\/i=8\/i=9) with rfl|rfl|rfl|rfl|rfl|rfl|rfl|rfl|rfl|rfl
  ·cases ho;have e1:a.eval (ay 1)=O (Y ⟨b1,0,Z⟩):=seen.kp 1 _ (nd 1 (by omega)) rfl;exact aF rfl rfl (aQ a.eval _ 30 (ay 1) 2 rfl (by rw [e1]; simp [go_sem])) (hK _ _ rfl (ah _ _) fun _ _ _ _ _ _ _ h=>h)
  ·cases ho;have e14:a.eval (ay 14)=O (Y ⟨b1,2,Z⟩):=seen.at_ ⟨0,.data⟩ (by simp) rfl (aD (by decide));have y2:=(H1.out.on hb).cell 2;simp only [U,V,X] at y2;exact aF rfl rfl (aU a.eval _ 25 (ay 14) rfl (by rw [e14]; simp [go_sem,y2])) (hK _ _ rfl (ah _ _) fun _ _ _ _ _ _ _ h=>h)
  ·cases ho;have e15:a.eval (ay 15)=J o2 n2 c2:=seen.at_ ⟨1,.data⟩ (by simp) rfl (aD (by decide));exact aW rfl rfl (Rw.eO a.eval _ (ay 15) 25 29 rfl e15 rfl _ (dV Try.func29 rfl rfl _ _)) (qX (o2,n2,c2) al x (R2.out.on hb) L2.out) fun e w1 h=>by
    obtain⟨⟨s,rfl,h1⟩,h3⟩:=h;exact⟨_,rfl,hK _ _ ⟨s,rfl,cK h1 hb.size⟩ (h3.mono hb.size) fun j u hj _ _ _ hne h=>iG j u _ _ h h3⟩
  ·cases ho;have e1:a.eval (ay 1)=O (Y ⟨b1,0,Z⟩):=seen.kp 1 _ (nd 1 (by omega)) rfl;exact aF rfl rfl (aQ a.eval _ 30 (ay 1) 4 rfl (by rw [e1]; simp [go_sem])) (hK _ _ rfl (ah _ _) fun _ _ _ _ _ _ _ h=>h)
  ·cases ho;have e17:a.eval (ay 17)=O (Y ⟨b1,4,Z⟩):=seen.at_ ⟨3,.data⟩ (by simp) rfl (aD (by decide));have y4:=(H1.out.on hb).cell 4;simp only [U,V,X] at y4;exact aF rfl rfl (aU a.eval _ 27 (ay 17) rfl (by rw [e17]; simp [go_sem,y4])) (hK _ _ rfl (ah _ _) fun _ _ _ _ _ _ _ h=>h)
  ·cases ho;have e18:a.eval (ay 18)=J o4 n4 c4:=seen.at_ ⟨4,.data⟩ (by simp) rfl (aD (by decide));exact aW rfl rfl (Rw.eO a.eval _ (ay 18) 27 30 rfl e18 rfl _ (dV Try.func30 rfl rfl _ _)) (qY (o4,n4,c4) el x (R4.out.on hb) L4.out) fun e w1 h=>by
    obtain⟨⟨s,rfl,h1⟩,h3⟩:=h;exact⟨_,rfl,hK _ _ ⟨s,rfl,cK h1 hb.size⟩ (h3.mono hb.size) fun j u hj _ _ _ hne h=>iG j u _ _ h h3⟩
  ·cases ho;have e1:a.eval (ay 1)=O (Y ⟨b1,0,Z⟩):=seen.kp 1 _ (nd 1 (by omega)) rfl;exact aF rfl rfl (aQ a.eval _ 30 (ay 1) 5 rfl (by rw [e1]; simp [go_sem])) (hK _ _ rfl (ah _ _) fun _ _ _ _ _ _ _ h=>h)
  ·cases ho;have e20:a.eval (ay 20)=O (Y ⟨b1,5,Z⟩):=seen.at_ ⟨6,.data⟩ (by simp) rfl (aD (by decide));have y5:=(H1.out.on hb).cell 5;simp only [U,V,X] at y5;exact aF rfl rfl (aU a.eval _ 28 (ay 20) rfl (by rw [e20]; simp [go_sem,y5])) (hK _ _ rfl (ah _ _) fun _ _ _ _ _ _ _ h=>h)
  ·cases ho;have e21:a.eval (ay 21)=J o5 n5 c5:=seen.at_ ⟨7,.data⟩ (by simp) rfl (aD (by decide));exact aW rfl rfl (Rw.eO a.eval _ (ay 21) 28 31 rfl e21 rfl _ (dV Try.func31 rfl rfl _ _)) (qZ (o5,n5,c5) ol x (R5.out.on hb) L5.out) fun e w1 h=>by
    obtain⟨⟨s,rfl,h1⟩,h3⟩:=h;exact⟨_,rfl,hK _ _ ⟨s,rfl,cK h1 hb.size⟩ (h3.mono hb.size) fun j u hj _ _ _ hne h=>iG j u _ _ h h3⟩
  ·cases ho;have e1:a.eval (ay 1)=O (Y ⟨b1,0,Z⟩):=seen.kp 1 _ (nd 1 (by omega)) rfl;exact aF rfl rfl (aQ a.eval _ 30 (ay 1) 2 rfl (by rw [e1]; simp [go_sem])) (hK _ _ rfl (ah _ _) fun _ _ _ _ _ _ _ h=>h)
 ·intro kk o h1 h2 ho;rcases (by omega:kk=11\/kk=12\/kk=13\/kk=14) with rfl|rfl|rfl|rfl
  ·cases ho;exact⟨⟨10,.phase⟩,by simp,rfl,rfl⟩
  ·cases ho;exact⟨⟨11,.data⟩,by simp,rfl,rfl⟩
  ·cases ho;exact⟨⟨12,.phase⟩,by simp,rfl,rfl⟩
  ·cases ho;exact⟨⟨13,.data⟩,by simp,rfl,rfl⟩
 ·intro a w' df sz kp ⟨vs,hv⟩ hb;have sz':a.tmps.size=82:=sz;have g1:a.tmps[1]?=Y (O (Y ⟨b1,0,Z⟩)):=(kp 1 (nd 1 (by omega))).trans rfl;have g23:a.tmps[23]?=Y (O (Y ⟨b1,2,Z⟩)):=by
   have h:vs 9=O (Y ⟨b1,2,Z⟩):=(hv 9 (by omega)).2 (by decide);rw [<- h];exact (hv 9 (by omega)).1
  obtain⟨⟨p2,q2,s2⟩,hs2,ho2⟩:=(hv 2 (by omega)).2 (by decide);have g16:a.tmps[16]?=Y (J p2 q2 s2):=((hv 2 (by omega)).1).trans (congrArg Y hs2);rw [hs2] at ho2;obtain⟨⟨p4,q4,s4⟩,hs4,Iu⟩:=(hv 5 (by omega)).2 (by decide);have g19:a.tmps[19]?=Y (J p4 q4 s4):=((hv 5 (by omega)).1).trans (congrArg Y hs4);rw [hs4] at Iu;obtain⟨⟨p5,q5,s5⟩,hs5,Iw⟩:=(hv 8 (by omega)).2 (by decide);have g22:a.tmps[22]?=Y (J p5 q5 s5):=((hv 8 (by omega)).1).trans (congrArg Y hs5);rw [hs5] at Iw;have hB:=H1.out.on hb;have hlt:=H1.out.lt;show aX _ _ _ 5 10 a w';simp only [aX];have Iy:=hB.cell 2;have Jr:=hB.fr 2;simp only [U,V,X] at Iy;refine aY 25 (ay 23) (ay 16) rfl rfl rfl rfl (aO g23) (aO g16) (w':=(w').setCell ⟨b1,2,Z⟩ (J p2 q2 s2)) (by simp [go_sem,Iy,Jr]) ?_;have hB2:dh ((w').setCell ⟨b1,2,Z⟩ (J p2 q2 s2)) b1 #[ak au me,z1,J p2 q2 s2,z3,J o4 n4 c4,J o5 n5 c5] 30:=by simpa using dG (k:=2) hB (J p2 q2 s2)
  refine aF rfl rfl (aQ _ _ 30 (ay 1) 4 rfl (v:=O (Y ⟨b1,4,Z⟩)) (by rw [aO g1]; simp [go_sem])) ?_;have Gu:((a).put (Y 24) (O (Y ⟨b1,4,Z⟩))).tmps[24]?=Y (O (Y ⟨b1,4,Z⟩)):=by simp [Act.put,sz']
  show bf _ _ _ 12 _ ((a).put (Y 24) (O (Y ⟨b1,4,Z⟩))) _;have Iz:=hB2.cell 4;have Js:=hB2.fr 4;simp only [U,V,X] at Iz;refine aY 27 (ay 24) (ay 19) rfl rfl rfl rfl (aO Gu) (aO ((aK _ 24 _ 19 (by decide)).trans g19)) (w':=((w').setCell ⟨b1,2,Z⟩ (J p2 q2 s2)).setCell ⟨b1,4,Z⟩ (J p4 q4 s4)) (by simp [go_sem,Iz,Js]) ?_;have hB4:dh (((w').setCell ⟨b1,2,Z⟩ (J p2 q2 s2)).setCell ⟨b1,4,Z⟩ (J p4 q4 s4)) b1 #[ak au me,z1,J p2 q2 s2,z3,J p4 q4 s4,J o5 n5 c5] 30:=by simpa using dG (k:=4) hB2 (J p4 q4 s4)
  refine aF rfl rfl (aQ _ _ 30 (ay 1) 5 rfl (v:=O (Y ⟨b1,5,Z⟩)) (by rw [aO ((aK _ 24 _ 1 (by decide)).trans g1)]; simp [go_sem])) ?_;have Gv:(((a).put (Y 24) (O (Y ⟨b1,4,Z⟩))).put (Y 25) (O (Y ⟨b1,5,Z⟩))).tmps[25]?=Y (O (Y ⟨b1,5,Z⟩)):=by simp [Act.put,sz']
  show bf _ _ _ 14 _ (((a).put (Y 24) (O (Y ⟨b1,4,Z⟩))).put (Y 25) (O (Y ⟨b1,5,Z⟩))) _;have Ei:=hB4.cell 5;have Gw:=hB4.fr 5;simp only [U,V,X] at Ei;refine aY 28 (ay 25) (ay 22) rfl rfl rfl rfl (aO Gv) (aO ((aK _ 25 _ 22 (by decide)).trans ((aK _ 24 _ 22 (by decide)).trans g22))) (w':=(((w').setCell ⟨b1,2,Z⟩ (J p2 q2 s2)).setCell ⟨b1,4,Z⟩ (J p4 q4 s4)).setCell ⟨b1,5,Z⟩ (J p5 q5 s5)) (by simp [go_sem,Ei,Gw]) ?_;have Ej:dh ((((w').setCell ⟨b1,2,Z⟩ (J p2 q2 s2)).setCell ⟨b1,4,Z⟩ (J p4 q4 s4)).setCell ⟨b1,5,Z⟩ (J p5 q5 s5)) b1 #[ak au me,z1,J p2 q2 s2,z3,J p4 q4 s4,J p5 q5 s5] 30:=by simpa using dG (k:=5) hB4 (J p5 q5 s5)
  have pX:∀ j,(j<14\/26<=j)->(((a).put (Y 24) (O (Y ⟨b1,4,Z⟩))).put (Y 25) (O (Y ⟨b1,5,Z⟩))).tmps[j]?=(u0::O (Y ⟨b1,0,Z⟩)::u2::u3::u4::u5::u6::u7::u8::u9::u10::u11::u12::u13::u14::u15::u16::u17::u18::u19::u20::u21::u22::u23::u24::u25::u26::u27::u28::u29::u30::u31::u32::u33::u34::u35::u36::u37::u38::u39::u40::u41::u42::u43::u44::u45::u46::u47::u48::u49::u50::u51::u52::u53::u54::u55::u56::u57::u58::u59::u60::u61::u62::u63::u64::u65::u66::u67::u68::u69::u70::u71::u72::u73::u74::u75::u76::u77::u78::u79::u80::u81::[])[j]?:=fun j hj=>(aK _ 25 _ j (by omega)).trans ((aK _ 24 _ j (by omega)).trans ((kp j (nd j (by omega))).trans U));obtain⟨mid,hmid,hfr⟩:=bB (a:=((a).put (Y 24) (O (Y ⟨b1,4,Z⟩))).put (Y 25) (O (Y ⟨b1,5,Z⟩))) 14 12 df (by simp [aZ,sz']) (by simp) pX;show Q .normal (((a).put (Y 24) (O (Y ⟨b1,4,Z⟩))).put (Y 25) (O (Y ⟨b1,5,Z⟩))) _;rw [hfr]
  match mid,hmid with
  | [v14,v15,v16,v17,v18,v19,v20,v21,v22,v23,v24,v25],_ =>
   exact HQ.out _ _ _ _ _ _ _ _ _ _ _ _ _ p2 q2 s2 p4 q4 s4 p5 q5 s5 Ej (dF (dF (dF ho2 b1 2 (J p2 q2 s2) hlt) b1 4 (J p4 q4 s4) hlt) b1 5 (J p5 q5 s5) hlt) (dF (dF (dF Iu b1 2 (J p2 q2 s2) hlt) b1 4 (J p4 q4 s4) hlt) b1 5 (J p5 q5 s5) hlt) (dF (dF (dF Iw b1 2 (J p2 q2 s2) hlt) b1 4 (J p4 q4 s4) hlt) b1 5 (J p5 q5 s5) hlt) (fun B hBl=>((((hb.mono (aV (aS hBl hlt))).setCell (p:=⟨b1,2,Z⟩) hBl (J p2 q2 s2)).setCell (p:=⟨b1,4,Z⟩) hBl (J p4 q4 s4)).setCell (p:=⟨b1,5,Z⟩) hBl (J p5 q5 s5))) (fun k hk hne=>((aB (((w').setCell ⟨b1,2,Z⟩ (J p2 q2 s2)).setCell ⟨b1,4,Z⟩ (J p4 q4 s4)) ⟨b1,5,Z⟩ (J p5 q5 s5) k hne).trans ((aB ((w').setCell ⟨b1,2,Z⟩ (J p2 q2 s2)) ⟨b1,4,Z⟩ (J p4 q4 s4) k hne).trans ((aB (w') ⟨b1,2,Z⟩ (J p2 q2 s2) k hne).trans (hb.block k hk)))))
def sK (B:Nat) (b1:Nat) (_me:Int) (_z1 _z2 _z3 _z5:aG) (g n cap k:Nat) (_y1 _y2 _y3 _y4:Int) (yo:Option aM) (yn yc:Nat) (_y6:Int) (_y7:Bool) (p:List C5) (i:Nat) (v:aG) (x:aH):Prop :=
 match i with
 | 0=>v=O (Y ⟨b1,4,Z⟩)
 | 1=>v=J (Y ⟨g,0,Z⟩) n cap
 | 2=>v=ak au (k:Int)
 | 3=>v=O (Y ⟨b1,4,Z⟩)
 | 4=>v=J (Y ⟨g,0,Z⟩) n cap
 | 5=>v=ak au (k:Int)
 | 6=>v=O (Y ⟨g,k * 7,Z⟩)
 | 7=>v=O (Y ⟨g,k * 7+4,Z⟩)
 | 8=>v=J yo yn yc
 | 9=>∃ s:Sl,v=dz s/\kW x B v p
 | 10=>v=O (Y ⟨g,k * 7,Z⟩)
 | 11=>v=O (Y ⟨g,k * 7+4,Z⟩)
 | _=>True
noncomputable def AO:Code:=((Try.f9.body.bind (dL 11)).getD .skip)
theorem xP (B:Nat) (b1:Nat) (me:Int) (z1 z2 z3 z5:aG) (g n cap k:Nat) (y1 y2 y3 y4:Int) (yo:Option aM) (yn yc:Nat) (y6:Int) (y7:Bool) (p:List C5) (i:Nat) (v:aG) (x x':aH) (h:sK B b1 me z1 z2 z3 z5 g n cap k y1 y2 y3 y4 yo yn yc y6 y7 p i v x) (hb:Below x.heap.size x x'):sK B b1 me z1 z2 z3 z5 g n cap k y1 y2 y3 y4 yo yn yc y6 y7 p i v x':=by
 by_cases hi:i<12
 ·rcases (by omega:i=0\/i=1\/i=2\/i=3\/i=4\/i=5\/i=6\/i=7\/i=8\/i=9\/i=10\/i=11) with rfl|rfl|rfl|rfl|rfl|rfl|rfl|rfl|rfl|rfl|rfl|rfl
  ·exact h
  ·exact h
  ·exact h
  ·exact h
  ·exact h
  ·exact h
  ·exact h
  ·exact h
  ·exact h
  ·obtain⟨s,h1,h2⟩:=h; exact⟨s,h1,Bk.dx h2 hb⟩
  ·exact h
  ·exact h
 ·unfold sK
  split <;> first | omega | trivial
theorem Gx (Q:Exit->Act->aH->Prop) (W:aH) (B0:Nat) (l:List gq) (b1:Nat) (me:Int) (z1 z2 z3 z5:aG) (g n cap k:Nat) (y1 y2 y3 y4:Int) (yo:Option aM) (yn yc:Nat) (y6:Int) (y7:Bool) (p:List C5) (u0 u2 u3 u5 u6 u7 u8 u9 u10 u11 u12 u13 u14 u15 u16 u17 u18 u19 u20 u21 u22 u23 u24 u25 u26 u27 u28 u29 u30 u31 u32 u33 u34 u35 u36 u37 u38 u39 u40 u41 u42 u43 u44 u45 u46 u47 u48 u49 u50 u51 u52 u53 u54 u55 u56 u57 u58 u59 u60 u61 u62 u63 u64 u65 u66 u67 u68 u69 u70 u71 u72 u73 u74 u75 u76 u77 u78 u79 u80 u81:aG)
  (h1:dh W b1 #[ak au me,z1,z2,z3,J (Y ⟨g,0,Z⟩) n cap,z5] 30) (ho:iZ W B0 (J (Y ⟨g,0,Z⟩) n cap) l) (hy:l[k]?=Y (y1,y2,y3,y4,(yo,yn,yc),y6,y7)) (hp:gL W (J yo yn yc) p) (lp:p.length<=900)
  (hQ:∀ (x:aH) (v49 v50 v51 v52 v53 v54 v55 v56 v57 v58 v59 v60:aG) (s1:Option aM) (s2 s3:Nat),kW x W.heap.size (J s1 s2 s3) p->iZ x B0 (J (Y ⟨g,0,Z⟩) n cap) (l.set k (y1,y2,y3,y4,(s1,s2,s3),y6,y7))->But g W x->(∀ B1,B1<=g->B1<=W.heap.size->Below B1 W x)->Q .normal ⟨(u0::O (Y ⟨b1,0,Z⟩)::u2::u3::ak au (k:Int)::u5::u6::u7::u8::u9::u10::u11::u12::u13::u14::u15::u16::u17::u18::u19::u20::u21::u22::u23::u24::u25::u26::u27::u28::u29::u30::u31::u32::u33::u34::u35::u36::u37::u38::u39::u40::u41::u42::u43::u44::u45::u46::u47::u48::v49::v50::v51::v52::v53::v54::v55::v56::v57::v58::v59::v60::u61::u62::u63::u64::u65::u66::u67::u68::u69::u70::u71::u72::u73::u74::u75::u76::u77::u78::u79::u80::u81::[]).toArray,[]⟩ x) :
  Code.wp Try.prog AO Q ⟨(u0::O (Y ⟨b1,0,Z⟩)::u2::u3::ak au (k:Int)::u5::u6::u7::u8::u9::u10::u11::u12::u13::u14::u15::u16::u17::u18::u19::u20::u21::u22::u23::u24::u25::u26::u27::u28::u29::u30::u31::u32::u33::u34::u35::u36::u37::u38::u39::u40::u41::u42::u43::u44::u45::u46::u47::u48::u49::u50::u51::u52::u53::u54::u55::u56::u57::u58::u59::u60::u61::u62::u63::u64::u65::u66::u67::u68::u69::u70::u71::u72::u73::u74::u75::u76::u77::u78::u79::u80::u81::[]).toArray,[]⟩ W:=by
 have HQ:=L hQ;have H1:=L h1;have HO:=L ho;have HY:=L hy;have HP:=L hp;have LP:=L lp;have IX:=L (ji ko g k n cap (by obtain⟨_,_,hv⟩:=(Row.dw ho).len; have h:=(aC.1 hy).1; simp at hv; omega));have EL:=L (gG ko ho hy);clear hQ h1 ho hy hp lp;have iG:=xP W.heap.size b1 me z1 z2 z3 z5 g n cap k y1 y2 y3 y4 yo yn yc y6 y7 p;unfold AO
 conv=>arg 2; whnf
 have nd:∀ j,(j<49\/61<=j)->∀ i,i<12->(fun i=>49+i) i≠j:=by
  intro j hj i hi h;simp only at h;omega
 refine bq 13 12 (fun i=>49+i) (fun _=>12) (sK W.heap.size b1 me z1 z2 z3 z5 g n cap k y1 y2 y3 y4 yo yn yc y6 y7 p) (by kernel_rfl) (by kernel_rfl) rfl (by decide) (fun i j _ _ h=>by have h2:49+i=49+j:=h; omega) (fun i hi=>by show 49+i<82; omega) ?_ (fun _=>bA 14 (by kernel_rfl)) ?_ ?_
 ·intro i o hi ho a x D hnd hc hD hb seen K hK;clear HQ;rcases (by omega:i=0\/i=1\/i=2\/i=3\/i=4\/i=5\/i=6\/i=7\/i=8\/i=9\/i=10\/i=11) with rfl|rfl|rfl|rfl|rfl|rfl|rfl|rfl|rfl|rfl|rfl|rfl
  ·cases ho;have e1:a.eval (ay 1)=O (Y ⟨b1,0,Z⟩):=seen.kp 1 _ (nd 1 (by omega)) rfl;exact aF rfl rfl (aQ a.eval _ 30 (ay 1) 4 rfl (by rw [e1]; simp [go_sem])) (hK _ _ rfl (ah _ _) fun _ _ _ _ _ _ _ h=>h)
  ·cases ho;have e49:a.eval (ay 49)=O (Y ⟨b1,4,Z⟩):=seen.at_ ⟨0,.data⟩ (by simp) rfl (aD (by decide));have y4:=(H1.out.on hb).cell 4;simp only [U,V,X] at y4;exact aF rfl rfl (aU a.eval _ 27 (ay 49) rfl (by rw [e49]; simp [go_sem,y4])) (hK _ _ rfl (ah _ _) fun _ _ _ _ _ _ _ h=>h)
  ·cases ho;have e4:a.eval (ay 4)=ak au (k:Int):=seen.kp 4 _ (nd 4 (by omega)) rfl;exact aF rfl rfl (Rg.gN a.eval _ (ay 4) rfl x) (hK _ _ e4 (ah _ _) fun _ _ _ _ _ _ _ h=>h)
  ·cases ho;have e1:a.eval (ay 1)=O (Y ⟨b1,0,Z⟩):=seen.kp 1 _ (nd 1 (by omega)) rfl;exact aF rfl rfl (aQ a.eval _ 30 (ay 1) 4 rfl (by rw [e1]; simp [go_sem])) (hK _ _ rfl (ah _ _) fun _ _ _ _ _ _ _ h=>h)
  ·cases ho;have e52:a.eval (ay 52)=O (Y ⟨b1,4,Z⟩):=seen.at_ ⟨3,.data⟩ (by simp) rfl (aD (by decide));have y4:=(H1.out.on hb).cell 4;simp only [U,V,X] at y4;exact aF rfl rfl (aU a.eval _ 27 (ay 52) rfl (by rw [e52]; simp [go_sem,y4])) (hK _ _ rfl (ah _ _) fun _ _ _ _ _ _ _ h=>h)
  ·cases ho;have e4:a.eval (ay 4)=ak au (k:Int):=seen.kp 4 _ (nd 4 (by omega)) rfl;exact aF rfl rfl (Rg.gN a.eval _ (ay 4) rfl x) (hK _ _ e4 (ah _ _) fun _ _ _ _ _ _ _ h=>h)
  ·cases ho;have e53:a.eval (ay 53)=J (Y ⟨g,0,Z⟩) n cap:=seen.at_ ⟨4,.data⟩ (by simp) rfl (aD (by decide));have e54:a.eval (ay 54)=ak au (k:Int):=seen.at_ ⟨5,.data⟩ (by simp) rfl (aD (by decide));exact aF rfl rfl (Rg.iD a.eval _ 27 (ay 53) (ay 54) rfl (by rw [e53,e54]; exact IX.out x)) (hK _ _ rfl (ah _ _) fun _ _ _ _ _ _ _ h=>h)
  ·cases ho;have e55:a.eval (ay 55)=O (Y ⟨g,k * 7,Z⟩):=seen.at_ ⟨6,.data⟩ (by simp) rfl (aD (by decide));exact aF rfl rfl (aQ a.eval _ 41 (ay 55) 2 rfl (by rw [e55]; simp [go_sem])) (hK _ _ rfl (ah _ _) fun _ _ _ _ _ _ _ h=>h)
  ·cases ho;have e56:a.eval (ay 56)=O (Y ⟨g,k * 7+4,Z⟩):=seen.at_ ⟨7,.data⟩ (by simp) rfl (aD (by decide));have y:=EL.out x hb 4 _ rfl;simp [Addr.add,EN] at y;exact aF rfl rfl (aU a.eval _ 34 (ay 56) rfl (by rw [e56]; simp [go_sem,y])) (hK _ _ rfl (ah _ _) fun _ _ _ _ _ _ _ h=>h)
  ·cases ho;have e57:a.eval (ay 57)=J yo yn yc:=seen.at_ ⟨8,.data⟩ (by simp) rfl (aD (by decide));exact aW rfl rfl (Rw.eO a.eval _ (ay 57) 34 32 rfl e57 rfl _ (dV Try.func32 rfl rfl _ _)) (iK (yo,yn,yc) p x (HP.out.on hb) LP.out) fun e w1 h=>by
    obtain⟨⟨s,rfl,h1⟩,h3⟩:=h;exact⟨_,rfl,hK _ _ ⟨s,rfl,cK h1 hb.size⟩ (h3.mono hb.size) fun j u hj _ _ _ hne h=>iG j u _ _ h h3⟩
  ·cases ho;have e50:a.eval (ay 50)=J (Y ⟨g,0,Z⟩) n cap:=seen.at_ ⟨1,.data⟩ (by simp) rfl (aD (by decide));have e51:a.eval (ay 51)=ak au (k:Int):=seen.at_ ⟨2,.data⟩ (by simp) rfl (aD (by decide));exact aF rfl rfl (Rg.iD a.eval _ 27 (ay 50) (ay 51) rfl (by rw [e50,e51]; exact IX.out x)) (hK _ _ rfl (ah _ _) fun _ _ _ _ _ _ _ h=>h)
  ·cases ho;have e59:a.eval (ay 59)=O (Y ⟨g,k * 7,Z⟩):=seen.at_ ⟨10,.data⟩ (by simp) rfl (aD (by decide));exact aF rfl rfl (aQ a.eval _ 41 (ay 59) 2 rfl (by rw [e59]; simp [go_sem])) (hK _ _ rfl (ah _ _) fun _ _ _ _ _ _ _ h=>h)
 ·intro kk o h1 h2 ho;omega
 ·intro a w' df sz kp ⟨vs,hv⟩ hb;have sz':a.tmps.size=82:=sz;have g60:a.tmps[60]?=Y (O (Y ⟨g,k * 7+4,Z⟩)):=by
   have h:vs 11=O (Y ⟨g,k * 7+4,Z⟩):=(hv 11 (by omega)).2 (by decide);rw [<- h];exact (hv 11 (by omega)).1
  obtain⟨⟨s1,s2,s3⟩,hs,hc⟩:=(hv 9 (by omega)).2 (by decide);have g58:a.tmps[58]?=Y (J s1 s2 s3):=((hv 9 (by omega)).1).trans (congrArg Y hs);rw [hs] at hc;obtain⟨w2,hr,st1,st2,DZ⟩:=BD (k:=k) s1 s2 s3 (Bk.dx HO.out hb) HY.out;obtain⟨cur,hg⟩:=fP (Bk.dx HO.out hb);show aX _ _ _ 1 12 a w';simp only [aX];refine aY 34 (ay 60) (ay 58) rfl rfl rfl rfl (aO g60) (aO g58) (w':=w2) hr ?_;have pX:∀ j,(j<49\/61<=j)->(a).tmps[j]?=(u0::O (Y ⟨b1,0,Z⟩)::u2::u3::ak au (k:Int)::u5::u6::u7::u8::u9::u10::u11::u12::u13::u14::u15::u16::u17::u18::u19::u20::u21::u22::u23::u24::u25::u26::u27::u28::u29::u30::u31::u32::u33::u34::u35::u36::u37::u38::u39::u40::u41::u42::u43::u44::u45::u46::u47::u48::u49::u50::u51::u52::u53::u54::u55::u56::u57::u58::u59::u60::u61::u62::u63::u64::u65::u66::u67::u68::u69::u70::u71::u72::u73::u74::u75::u76::u77::u78::u79::u80::u81::[])[j]?:=fun j hj=>(kp j (nd j (by omega))).trans U;obtain⟨mid,hmid,hfr⟩:=bB (a:=a) 49 12 df (by simp [sz']) (by simp) pX;show Q .normal (a) _;rw [hfr]
  match mid,hmid with
  | [v49,v50,v51,v52,v53,v54,v55,v56,v57,v58,v59,v60],_ =>
   exact HQ.out _ _ _ _ _ _ _ _ _ _ _ _ _ s1 s2 s3 (st2.own hc hg (by decide)) st1 ((But.of_below hb).trans st2) fun B1 hB hl=>DZ B1 W hB (hb.mono hl)
structure mZ (b:Br):Prop where
 dU:∀ a∈b.dU,a.p.length<=900
 ent:∀ a∈b.ent,a.p.length<=900
 own:∀ a∈b.own,a.p.length<=900
theorem dX {α:Type} {E:Ek α} {W:aH} {B n cap:Nat} {o:Option aM} {l:List α} (h:Own E W B (J o n cap) l):l.length=n:=by
 obtain⟨_,_,hv⟩:=(Row.dw h).len;have:n=l.length:=by simpa using congrArg (fun v=>match v with | Value.slice _ n _=>n | _=>0) hv
 exact this.symm
theorem lZ {α:Type} {E:Ek α} {W:aH} {B n cap:Nat} {o:Option aM} {l:List α} (h:Own E W B (J o n cap) l) (hn:0<n):∃ g,o=Y ⟨g,0,Z⟩/\B<=g:=by
 have hl:=dX h;rcases eH h with⟨_,h2⟩|⟨g,c',cur,h1,h2,_⟩
 ·rw [h2] at hl; simp at hl; omega
 ·exact⟨g,by simp at h1; exact h1.1,h2⟩
theorem fA (w:aH) (b:Nat) (a0 a1 a2 a3 a4 a5:aG):But b w (iU w b a0 a1 a2 a3 a4 a5) :=
 (((dn _ b _ _).trans (dn _ b _ _)).trans ((dn _ b _ _).trans (dn _ b _ _))).trans ((dn _ b _ _).trans (dn _ b _ _))
theorem Cs.done {w0 w wr:aH} {b:Br} {nv sv:Sl} {p2 p4 p5:Option aM} {q2 s2 q4 s4 q5 s5:Nat} (h:Cs w0 w wr b q2 q4 q5 nv (p2,q2,s2) sv (p4,q4,s4) (p5,q5,s5)) (a0 a1 a2 a3 a4 a5:aG):Cp (vw w0) w.heap.size (iU wr (w.heap.size+1) a0 a1 a2 a3 a4 a5) b nv (p2,q2,s2) sv (p4,q4,s4) (p5,q5,s5)/\Below w.heap.size w (iU wr (w.heap.size+1) a0 a1 a2 a3 a4 a5):=by
 obtain⟨l1,d1,d2,d3⟩:=h.dU;obtain⟨l2,e1,e2,e3⟩:=h.ent;obtain⟨l3,f1,f2,f3⟩:=h.own;have n1:l1.length=q2:=dX d1;have n2:l2.length=q4:=dX e1;have n3:l3.length=q5:=dX f1;rw [aA (by omega),aA (by have:=d2.len; omega)] at d3;rw [aA (by omega),aA (by have:=e2.len; omega)] at e3;rw [aA (by omega),aA (by have:=f2.len; omega)] at f3;exact⟨Cp.but ⟨h.near,h.seen,⟨l1,d1,d3⟩,⟨l2,e1,e3⟩,⟨l3,f1,f3⟩⟩ (fA wr (w.heap.size+1) a0 a1 a2 a3 a4 a5) h.bz,dM h.jw (by omega) a0 a1 a2 a3 a4 a5⟩
theorem kK (b:Br) (nv av sv ev ov:Sl) (w0 w:aH) (hw0:Below w0.heap.size w0 w) (h:iF w0 b nv av sv ev ov) (hf:zB b) (hp:mZ b) :
  Calls Try.prog 9 #[nE b.me nv av sv ev ov] w fun e w'=>(∃ IB Dj Dk ev' IC:Sl,e=.returned (nE b.me IB Dj Dk ev' IC)/\Cp (vw w0) w.heap.size w' b IB Dj Dk ev' IC)/\Below w.heap.size w w':=by
 obtain⟨no,nn,nc⟩:=nv;obtain⟨ao,an,ac⟩:=av;obtain⟨so,sn,sc⟩:=sv;obtain⟨eo,en,ec⟩:=ev;obtain⟨oo,iN,oc⟩:=ov;obtain⟨la,ha1,ha2⟩:=h.dU;obtain⟨le,he1,he2⟩:=h.ent;obtain⟨Gy,ho1,ho2⟩:=h.own;have HA:=L ha2;have HE:=L he2;have HO:=L ho2;have R0:=L (h.near.on hw0);have R1:=L (ha1.on hw0);have R2:=L (h.seen.on hw0);have R3:=L (he1.on hw0);have R4:=L (ho1.on hw0);have W0:=L hw0;have HP:=L hp;have IE:=L hf.near;have Gz:=L (show la.length<=900 by rw [ha2.len]; exact hf.dU);have IG:=L hf.seen;have GA:=L (show le.length<=900 by rw [he2.len]; exact hf.ent);have GD:=L (show Gy.length<=900 by rw [ho2.len]; exact hf.own);obtain⟨h0,h1,h2⟩:=eX w #[ak au b.me,J no nn nc,J ao an ac,J so sn sc,J eo en ec,J oo iN oc] #[ak au 0,J Z 0 0,J Z 0 0,J Z 0 0,J Z 0 0,J Z 0 0] 30 30;have B0:=L h0;have XB:=L h1;have ZB:=L h2;clear h0 h1 h2 h hf hp hw0 ha1 ha2 he1 he2 ho1 ho2;go_enter Try.func9,Try.ntmps9;go_upto_region 1 with fail;generalize (w.alloc (aL #[ak au b.me,J no nn nc,J ao an ac,J so sn sc,J eo en ec,J oo iN oc] 30)).alloc (aL #[ak au 0,J Z 0 0,J Z 0 0,J Z 0 0,J Z 0 0,J Z 0 0] 30)=W at *;refine Jo _ W w.heap.size b.me (J ao an ac) (J eo en ec) (J oo iN oc) no nn nc b.near so sn sc b.seen _ _ _ _ _ _ _ _ _ _ _ _ _ _ _ _ _ _ _ _ _ _ _ _ _ _ _ _ _ _ _ _ _ _ _ _ _ _ _ _ _ _ _ _ _ _ _ _ _ _ _ _ _ _ _ _ _ _ _ _ _ _ _ _ _ _ _ _ _ _ _ _ _ _ _ _ _ _ _ _ _ XB.out (R0.out.on B0.out) (R2.out.on B0.out) IE.out IG.out ?_;intro x1 v6 v7 v8 v9 v10 v11 v12 v13 p1 q1 s1 p3 q3 s3 hb1 hn1 hs1 xQ xR;have B1:=L (B0.out.trans (xQ _ (aP _)));have S1:=L (show W.heap.size<=x1.heap.size from (xQ _ (aP _)).size);have GH:=L (show dh x1 (w.heap.size+1) _ _ from (xR _ ZB.out.lt (by omega)).trans ZB.out);have F7:=L hb1;have N1:=L (cK hn1 B0.out.size);have J1:=L (cK hs1 B0.out.size);clear hb1 hn1 hs1 xQ xR XB ZB;go_upto_region 2 with fail;refine cp2 _ x1 w.heap.size b.me (J p1 q1 s1) (J p3 q3 s3) ao an ac la eo en ec le oo iN oc Gy _ _ _ _ _ _ _ _ _ _ _ _ _ _ _ _ _ _ _ _ _ _ _ _ _ _ _ _ _ _ _ _ _ _ _ _ _ _ _ _ _ _ _ _ _ _ _ _ _ _ _ _ _ _ _ _ _ _ _ _ _ _ _ _ _ _ _ _ _ _ _ _ _ _ _ _ _ _ _ _ _ F7.out (R1.out.on B1.out) (R3.out.on B1.out) (R4.out.on B1.out) Gz.out GA.out GD.out ?_;intro x2 v14 v15 v16 v17 v18 v19 v20 v21 v22 v23 v24 v25 p2 q2 s2 p4 q4 s4 p5 q5 s5 hb2 ha2 he2 ho2 sM oM;have CS:=L (show Cs w0 w x2 b 0 0 0 (p1,q1,s1) (p2,q2,s2) (p3,q3,s3) (p4,q4,s4) (p5,q5,s5) from {
  jw:=B1.out.trans (sM _ (aP _))
  bx:=hb2
  bz:=(oM _ GH.out.lt (by omega)).trans GH.out
  near:=But.own ⟨oM,(sM _ (aP _)).size⟩ N1.out F7.out (by decide)
  seen:=But.own ⟨oM,(sM _ (aP _)).size⟩ J1.out F7.out (by decide)
  dU:=⟨la,cK ha2 B1.out.size,HA.out.mono fun _ _ q=>⟨q.1,q.2.1,bg q.2.2⟩,.nil⟩
  ent:=⟨le,cK he2 B1.out.size,HE.out.mono fun _ _ q=>⟨q.1,q.2.1,q.2.2.1,q.2.2.2.1,bg q.2.2.2.2⟩,.nil⟩
  own:=⟨Gy,cK ho2 B1.out.size,HO.out.mono fun _ _ q=>⟨q.1,bg q.2⟩,.nil⟩ })
 have Q2:=L (show q2<=900 from by rw [<- dX ha2]; exact Gz.out);have Q4:=L (show q4<=900 from by rw [<- dX he2]; exact GA.out);have Q5:=L (show q5<=900 from by rw [<- dX ho2]; exact GD.out);clear hb2 ha2 he2 ho2 sM oM F7 GH N1 J1 B1 S1 R0 R1 R2 R3 R4 HA HE HO IE Gz IG GA GD B0;have II:=CS.out.bx.cell 2;simp only [U,V,X] at II;go_wp2
 go_loopw [29] (fun i wr=>∃ k:Nat,k<=q2/\i=ak au k/\Cs w0 w wr b k 0 0 (p1,q1,s1) (p2,q2,s2) (p3,q3,s3) (p4,q4,s4) (p5,q5,s5)) (fun i _=>q2-(intOf i).toNat)
 case atStart=>exact⟨0,aR _,rfl,CS.out⟩
 case round =>
  obtain⟨k,hk,rfl,hcs⟩:=hrel;have CS:=L hcs;have hq:=Q2.out;clear hcs;by_cases hlt:k<q2
  ·obtain⟨l,hl,hA,hV⟩:=CS.out.dU;have hln:l.length=q2:=dX hl;obtain⟨g,rfl,hBg⟩:∃ g,p2=Y ⟨g,0,Z⟩/\w.heap.size<=g:=lZ hl (show 0<q2 by omega);obtain⟨y,hy⟩:∃ y,l[k]?=Y y:=⟨_,aj (by omega)⟩;obtain⟨a,ha⟩:∃ a,b.dU[k]?=Y a:=⟨_,aj (by have h:=hA.len; have h2:l.length=q2:=hln; omega)⟩;obtain⟨y',hy',hym⟩:=hA.at k a ha;rw [hy] at hy';obtain rfl:=aJ hy';obtain⟨y1,y2,⟨yo,yn,yc⟩,y4⟩:=y;have HW:=L hl;have AP:=L hA;have AQ:=L hV;have mW:=L hym;have xS:=L hy;have sN:=L ha;have AU:=L hBg;have hw3:IntKind.i64.wrap ((k:Int)+1)=(k:Int)+1:=aN _ (by omega);clear hl hA hV hln hy ha hy' hym hBg II;go_upto_region 6 with fail;refine Jj _ wr w.heap.size l w.heap.size b.me (J p1 q1 s1) (J p3 q3 s3) (J p4 q4 s4) (J p5 q5 s5) g q2 s2 k y1 y2 yo yn yc y4 a.p _ _ _ _ _ _ _ _ _ _ _ _ _ _ _ _ _ _ _ _ _ _ _ _ _ _ _ _ _ _ _ _ _ _ _ _ _ _ _ _ _ _ _ _ _ _ _ _ _ _ _ _ _ _ _ _ _ _ _ _ _ _ _ _ _ _ _ _ _ _ _ _ _ _ _ _ _ _ _ _ CS.out.bx HW.out xS.out (mW.out.2.2.row (W0.out.trans (CS.out.jw.mono W0.out.size))) (HP.out.dU a (aI sN.out)) ?_;intro x v32 v33 v34 v35 v36 v37 v38 v39 v40 v41 t1 t2 t3 hC hO jY hBel;have El:=L (show Cs w0 w x b (k+1) 0 0 (p1,q1,s1) (Y ⟨g,0,Z⟩,q2,s2) (p3,q3,s3) (p4,q4,s4) (p5,q5,s5) from by
    obtain⟨cur,hg⟩:=fP HW.out;exact CS.out.xA HW.out hO jY (CS.out.jw.trans (hBel _ AU.out CS.out.jw.size)) (dJ.set k _ a (AP.out.mono fun _ _ q=>q.but jY hg (by decide)) sN.out ⟨mW.out.1,mW.out.2.1,aD (cK hC CS.out.jw.size)⟩) (kE (AQ.out.mono fun _ _ q=>q.but jY hg (by decide)) (aC.1 xS.out).1 sN.out ⟨mW.out.1,mW.out.2.1,aD (cK hC CS.out.jw.size)⟩))
   clear hC hO jY hBel CS HW AP AQ mW xS sN AU;go_wp2
   go_roundw
   case rel=>exact⟨k+1,by omega,by go_num,El.out⟩
   case measure=>simp [intOf]; omega
  ·obtain rfl:q2=k:=by omega
   have IJ:=CS.out.bx.cell 4;simp only [U,V,X] at IJ;clear hlt;go_wp2
   go_loopw [46] (fun i wr=>∃ k:Nat,k<=q4/\i=ak au k/\Cs w0 w wr b q2 k 0 (p1,q1,s1) (p2,q2,s2) (p3,q3,s3) (p4,q4,s4) (p5,q5,s5)) (fun i _=>q4-(intOf i).toNat)
   case atStart=>exact⟨0,aR _,rfl,CS.out⟩
   case round =>
    obtain⟨k,hk,rfl,hcs⟩:=hrel;have CS:=L hcs;have hq:=Q4.out;clear hcs;by_cases hlt:k<q4
    ·obtain⟨l,hl,hA,hV⟩:=CS.out.ent;have hln:l.length=q4:=dX hl;obtain⟨g,rfl,hBg⟩:∃ g,p4=Y ⟨g,0,Z⟩/\w.heap.size<=g:=lZ hl (show 0<q4 by omega);obtain⟨y,hy⟩:∃ y,l[k]?=Y y:=⟨_,aj (by omega)⟩;obtain⟨a,ha⟩:∃ a,b.ent[k]?=Y a:=⟨_,aj (by have h:=hA.len; have h2:l.length=q4:=hln; omega)⟩;obtain⟨y',hy',hym⟩:=hA.at k a ha;rw [hy] at hy';obtain rfl:=aJ hy';obtain⟨y1,y2,y3,y4,⟨yo,yn,yc⟩,y6,y7⟩:=y;have HW:=L hl;have AP:=L hA;have AQ:=L hV;have mW:=L hym;have xS:=L hy;have sN:=L ha;have AU:=L hBg;have hw3:IntKind.i64.wrap ((k:Int)+1)=(k:Int)+1:=aN _ (by omega);clear hl hA hV hln hy ha hy' hym hBg IJ;go_upto_region 11 with fail;refine Gx _ wr w.heap.size l w.heap.size b.me (J p1 q1 s1) (J p2 q2 s2) (J p3 q3 s3) (J p5 q5 s5) g q4 s4 k y1 y2 y3 y4 yo yn yc y6 y7 a.p _ _ _ _ _ _ _ _ _ _ _ _ _ _ _ _ _ _ _ _ _ _ _ _ _ _ _ _ _ _ _ _ _ _ _ _ _ _ _ _ _ _ _ _ _ _ _ _ _ _ _ _ _ _ _ _ _ _ _ _ _ _ _ _ _ _ _ _ _ _ _ _ _ _ _ _ _ _ _ _ CS.out.bx HW.out xS.out (mW.out.2.2.2.2.row (W0.out.trans (CS.out.jw.mono W0.out.size))) (HP.out.ent a (aI sN.out)) ?_;intro x v49 v50 v51 v52 v53 v54 v55 v56 v57 v58 v59 v60 t1 t2 t3 hC hO jY hBel;have El:=L (show Cs w0 w x b q2 (k+1) 0 (p1,q1,s1) (p2,q2,s2) (p3,q3,s3) (Y ⟨g,0,Z⟩,q4,s4) (p5,q5,s5) from by
      obtain⟨cur,hg⟩:=fP HW.out;exact CS.out.Gl HW.out hO jY (CS.out.jw.trans (hBel _ AU.out CS.out.jw.size)) (dJ.set k _ a (AP.out.mono fun _ _ q=>q.but jY hg (by decide)) sN.out ⟨mW.out.1,mW.out.2.1,mW.out.2.2.1,mW.out.2.2.2.1,aD (cK hC CS.out.jw.size)⟩) (kE (AQ.out.mono fun _ _ q=>q.but jY hg (by decide)) (aC.1 xS.out).1 sN.out ⟨mW.out.1,mW.out.2.1,mW.out.2.2.1,mW.out.2.2.2.1,aD (cK hC CS.out.jw.size)⟩))
     clear hC hO jY hBel CS HW AP AQ mW xS sN AU;go_wp2
     go_roundw
     case rel=>exact⟨k+1,by omega,by go_num,El.out⟩
     case measure=>simp [intOf]; omega
    ·obtain rfl:q4=k:=by omega
     have IK:=CS.out.bx.cell 5;simp only [U,V,X] at IK;clear hlt;go_wp2
     go_loopw [65] (fun i wr=>∃ k:Nat,k<=q5/\i=ak au k/\Cs w0 w wr b q2 q4 k (p1,q1,s1) (p2,q2,s2) (p3,q3,s3) (p4,q4,s4) (p5,q5,s5)) (fun i _=>q5-(intOf i).toNat)
     case atStart=>exact⟨0,aR _,rfl,CS.out⟩
     case round =>
      obtain⟨k,hk,rfl,hcs⟩:=hrel;have CS:=L hcs;have hq:=Q5.out;clear hcs;by_cases hlt:k<q5
      ·obtain⟨l,hl,hA,hV⟩:=CS.out.own;have hln:l.length=q5:=dX hl;obtain⟨g,rfl,hBg⟩:∃ g,p5=Y ⟨g,0,Z⟩/\w.heap.size<=g:=lZ hl (show 0<q5 by omega);obtain⟨y,hy⟩:∃ y,l[k]?=Y y:=⟨_,aj (by omega)⟩;obtain⟨a,ha⟩:∃ a,b.own[k]?=Y a:=⟨_,aj (by have h:=hA.len; have h2:l.length=q5:=hln; omega)⟩;obtain⟨y',hy',hym⟩:=hA.at k a ha;rw [hy] at hy';obtain rfl:=aJ hy';obtain⟨y1,y2,⟨yo,yn,yc⟩⟩:=y;have HW:=L hl;have AP:=L hA;have AQ:=L hV;have mW:=L hym;have xS:=L hy;have sN:=L ha;have AU:=L hBg;have hw3:IntKind.i64.wrap ((k:Int)+1)=(k:Int)+1:=aN _ (by omega);clear hl hA hV hln hy ha hy' hym hBg IK;go_upto_region 16 with fail;refine Gp _ wr w.heap.size l w.heap.size b.me (J p1 q1 s1) (J p2 q2 s2) (J p3 q3 s3) (J p4 q4 s4) g q5 s5 k y1 y2 yo yn yc a.p _ _ _ _ _ _ _ _ _ _ _ _ _ _ _ _ _ _ _ _ _ _ _ _ _ _ _ _ _ _ _ _ _ _ _ _ _ _ _ _ _ _ _ _ _ _ _ _ _ _ _ _ _ _ _ _ _ _ _ _ _ _ _ _ _ _ _ _ _ _ _ _ _ _ _ _ _ _ _ _ CS.out.bx HW.out xS.out (mW.out.2.row (W0.out.trans (CS.out.jw.mono W0.out.size))) (HP.out.own a (aI sN.out)) ?_;intro x v68 v69 v70 v71 v72 v73 v74 v75 v76 v77 v78 v79 t1 t2 t3 hC hO jY hBel;have El:=L (show Cs w0 w x b q2 q4 (k+1) (p1,q1,s1) (p2,q2,s2) (p3,q3,s3) (p4,q4,s4) (Y ⟨g,0,Z⟩,q5,s5) from by
        obtain⟨cur,hg⟩:=fP HW.out;exact CS.out.setW HW.out hO jY (CS.out.jw.trans (hBel _ AU.out CS.out.jw.size)) (dJ.set k _ a (AP.out.mono fun _ _ q=>q.but jY hg (by decide)) sN.out ⟨mW.out.1,aD (cK hC CS.out.jw.size)⟩) (kE (AQ.out.mono fun _ _ q=>q.but jY hg (by decide)) (aC.1 xS.out).1 sN.out ⟨mW.out.1,aD (cK hC CS.out.jw.size)⟩))
       clear hC hO jY hBel CS HW AP AQ mW xS sN AU;go_wp2
       go_roundw
       case rel=>exact⟨k+1,by omega,by go_num,El.out⟩
       case measure=>simp [intOf]; omega
      ·obtain rfl:q5=k:=by omega
       have X1:=CS.out.bx;have Z1:=CS.out.bz;obtain⟨x0,x1,x2,x3,x4,x5⟩:=X1.gX;obtain⟨r0,r1,r2,r3,r4,r5⟩:=Z1.gX;obtain⟨t0,t1,t2,t3,t4,t5⟩:=Z1.qH;have zz:=Z1.lt;have FB:=L (dY Z1 (ak au b.me) (J p1 q1 s1) (J p2 q2 s2) (J p3 q3 s3) (J p4 q4 s4) (J p5 q5 s5));have FD:=L (CS.out.done (ak au b.me) (J p1 q1 s1) (J p2 q2 s2) (J p3 q3 s3) (J p4 q4 s4) (J p5 q5 s5));clear X1 Z1 CS;go_wp2_with fail;obtain⟨v0,v1,v2,v3,v4,v5⟩:=FB.out.gX;refine aT (v:=.agg #[ak au b.me,J p1 q1 s1,J p2 q2 s2,J p3 q3 s3,J p4 q4 s4,J p5 q5 s5]) (by simp [results,Try.results9,go_sem,v0,v1,v2,v3,v4,v5]) rfl ?_;exact⟨⟨(p1,q1,s1),(p2,q2,s2),(p3,q3,s3),(p4,q4,s4),(p5,q5,s5),rfl,FD.out.1⟩,FD.out.2⟩
def fD (l:List Ad) (x:dI):Option Ad:=l.find? fun a=>decide (a.id=x)
theorem mg {l:List Ad} {x:dI} (h:∀ (j:Nat) (a:Ad),l[j]?=Y a->a.id≠x):fD l x=Z:=by
 unfold fD;rw [List.find?_eq_none];intro a ha;obtain⟨j,hj⟩:=List.mem_iff_getElem?.1 ha;simpa using h j a hj
theorem mh:∀ {l:List Ad} {x:dI} {k:Nat} {a:Ad},l[k]?=Y a->a.id=x->(∀ (j:Nat) (z:Ad),j<k->l[j]?=Y z->z.id≠x)->fD l x=Y a
 | [],_,_,_,h,_,_=>by simp at h
 | b::l,x,0,a,h,hx,_=>by
  obtain rfl:b=a:=by simpa using h
  simp [fD,hx]
 | b::l,x,k+1,a,h,hx,hall=>by
  have hb:=hall 0 b (by omega) rfl;have ih:=mh (l:=l) (x:=x) (k:=k) (a:=a) (by simpa using h) hx fun j z hj hz=>hall (j+1) z (by omega) (by simpa using hz);unfold fD at *;rw [List.find?_cons_of_neg (by simpa using hb)];exact ih
def Em (W:aH) (o:Option Ad) (w:aH) (e:Ending) (w':aH):Prop:=(match o with
 | none=>e=.returned (.tuple #[gY (0,0,(Z,0,0),0),bn false])
 | some a=>∃ r:gD,e=.returned (.tuple #[gY r,bn true])/\oC w' r a)/\Below W.heap.size w w'
theorem qj (me:Int) (nv sv ev ov:aG) (av:Sl) (l:List gD) (al:List Ad) (x:dI) (w:aH) (hs:qQ w (dz av) l) (hA:dJ (oC w) l al) (hf:∀ a∈al,a.p.length<=900) :
  Calls Try.prog 18 #[.agg #[ak au me,nv,dz av,sv,ev,ov],lq x] w (Em w (fD al x) w):=by
 obtain⟨c,d⟩:=x;obtain⟨so,sn,sc⟩:=av;obtain⟨ao,ac,hv⟩:=hs.len;have hv:J so sn sc=J ao l.length ac:=hv;obtain⟨rfl,rfl,rfl⟩:so=ao/\sn=l.length/\sc=ac:=by simpa using hv
 obtain⟨h0,h1,h2⟩:=eX w #[ak au me,nv,J so l.length sc,sv,ev,ov] #[ak au c,ak au d] 30 23;have h3:=fK ((w.alloc (aL #[ak au me,nv,J so l.length sc,sv,ev,ov] 30)).alloc (aL #[ak au c,ak au d] 23)) (aL #[ak au 0,ak au 0,J Z 0 0,ak au 0] 36);have h4:=dB ((w.alloc (aL #[ak au me,nv,J so l.length sc,sv,ev,ov] 30)).alloc (aL #[ak au c,ak au d] 23)) #[ak au 0,ak au 0,J Z 0 0,ak au 0] 36;have hsz:((w.alloc (aL #[ak au me,nv,J so l.length sc,sv,ev,ov] 30)).alloc (aL #[ak au c,ak au d] 23)).heap.size=w.heap.size+1+1:=by simp
 rw [hsz] at h4;have B:=L (h0.trans (h3.mono h0.size));have HS:=L (hs.on B.out);have HA:=L (hA.mono fun _ _ h=>h.on B.out);have X2:=L (h1.on h3);have X3:=L (h2.on h3);have X4:=L h4;have HF:=L hf;have lm:=hs.most;unfold maxLen at lm;obtain⟨n,hn⟩:∃ n,n=l.length:=⟨_,rfl⟩;have q3:=X2.out.cell 2;simp only [U,V,X] at q3;rw [<- hn] at HS X2 X3 X4 HA lm q3 B ⊢;have HN:=L hn.symm;obtain⟨fo,hfo⟩:∃ o,o=fD al (c,d):=⟨_,rfl⟩;rw [<- hfo];have FO:=L hfo;clear h0 h1 h2 h3 h4 hs hv hn hA hf hsz hfo;go_enter Try.func18,Try.ntmps18;go_upto_region 1 with fail;generalize ((w.alloc (aL #[ak au me,nv,J so n sc,sv,ev,ov] 30)).alloc (aL #[ak au c,ak au d] 23)).alloc (aL #[ak au 0,ak au 0,J Z 0 0,ak au 0] 36)=W at *;go_wp2
 go_loopw [11] (fun i wr=>∃ k:Nat,k<=n/\i=ak au k/\Below W.heap.size W wr/\∀ (j:Nat) (y:gD),j<k->l[j]?=Y y->(y.1,y.2.1)≠(c,d)) (fun i _=>n-(intOf i).toNat)
 case atStart=>exact⟨0,aR _,rfl,ah _ _,fun j y h=>by omega⟩
 case round =>
  obtain⟨k,hk,rfl,hbe,hall⟩:=hrel;have BE:=L hbe;have AL:=L hall;clear hbe hall;by_cases hlt:k<n
  ·obtain⟨y,hy⟩:∃ y,l[k]?=Y y:=⟨_,aj (by rw [HN.out]; exact hlt)⟩;obtain⟨p,ix,px⟩:=Ig HS.out rfl HN.out hy;obtain⟨p0,p1,p2,p3⟩:=px wr BE.out;obtain⟨y1,y2,⟨yo,yn,yc⟩,y4⟩:=y;simp only at p0 p1 p2 p3;have NB:=L (fK wr (aL #[ak au y1,ak au y2,J yo yn yc,ak au y4] 36));obtain⟨x0,x1⟩:=((X3.out.on BE.out).on NB.out).cs2;have hw3:IntKind.i64.wrap ((k:Int)+1)=(k:Int)+1:=aN _ (by omega);obtain⟨r,hr⟩:∃ r,(y1 == c && y2 == d)=r:=⟨_,rfl⟩;have he:=uy y1 y2 c d r hr;have HY:=L hy;have HR:=L hr;clear px hy hr;cases r
   ·go_wp2
    go_roundw
    case rel=>exact⟨k+1,by omega,by go_num,BE.out.trans (NB.out.mono BE.out.size),fun j y' hj h1=>by
     rcases Nat.lt_or_ge j k with h3|h3
     ·exact AL.out j y' h3 h1
     ·obtain rfl:j=k:=by omega
      have e1:=HY.out;rw [h1] at e1;rw [aJ e1];intro e;obtain⟨rfl,rfl⟩:y1=c/\y2=d:=by simpa using e
      have:=HR.out;simp at this⟩
    case measure=>simp [intOf]; omega
   ·obtain⟨a,ha⟩:∃ a,al[k]?=Y a:=⟨_,aj (by rw [<- HA.out.len,HN.out]; exact hlt)⟩;obtain⟨z,hz1,hz2⟩:=HA.out.at k a ha;rw [HY.out] at hz1;obtain rfl:=aJ hz1;have BA:=L (BE.out.trans (NB.out.mono BE.out.size));have C:=L (lS (y1,y2,(yo,yn,yc),y4) a.p _ (hz2.2.2.on BA.out) (HF.out a (aI ha)));have HZ:=L hz2;have h8:=HR.out;obtain⟨rfl,rfl⟩:y1=c/\y2=d:=by simpa using h8
    have FA:=L (show fo=Y a by
     rw [FO.out];refine mh ha hz2.1.symm fun j z hj hzz=>?_;obtain⟨u,hu1,hu2⟩:=HA.out.at j z hzz;rw [<- hu2.1];exact AL.out j u hj hu1)
    have GI:=(X4.out.on BE.out).on NB.out;clear hz1 hz2 ha h8;go_wp2_with fail;refine C.out.mono ?_;rintro e w1 ⟨⟨⟨u1,u2,u3⟩,rfl,ho⟩,hb⟩;have Y1:=GI.on hb;have B1:=L (BA.out.trans (hb.mono BA.out.size));obtain⟨r0,r1,r2,r3⟩:=Y1.wG;obtain⟨t0,t1,t2,t3⟩:=Y1.Gb;have zz:=Y1.lt;have hs2:w.heap.size+1+1<(wr.alloc (aL #[ak au y1,ak au y2,J yo yn yc,ak au y4] 36)).heap.size:=GI.lt;have FB:=L (lQ Y1 (ak au y1) (ak au y2) (J u1 u2 u3) (ak au y4));have BL:=L (jH (b:=w.heap.size+1+1) (B.out.trans (B1.out.mono B.out.size)) (by omega) (ak au y1) (ak au y2) (J u1 u2 u3) (ak au y4));have FW:=L (pU ho (w.heap.size+1+1) hs2 (ak au y1) (ak au y2) (J u1 u2 u3) (ak au y4));clear Y1 ho hb hs2 GI;go_wp2_with fail;obtain⟨v0,v1,v2,v3⟩:=FB.out.wG;refine aT (v:=.tuple #[.agg #[ak au y1,ak au y2,J u1 u2 u3,ak au y4],bn true]) (by simp [results,Try.results18,go_sem,v0,v1,v2,v3]) rfl ?_;rw [FA.out];exact⟨⟨(y1,y2,(u1,u2,u3),y4),rfl,HZ.out.1,HZ.out.2.1,Row.dw FW.out⟩,BL.out⟩
  ·obtain rfl:k=n:=by omega
   have FA:=L (show fo=Z by
    rw [FO.out];refine mg fun j z hzz=>?_;obtain⟨u,hu1,hu2⟩:=HA.out.at j z hzz;rw [<- hu2.1];exact AL.out j u (by rw [<- HN.out]; exact (aC.1 hu1).1) hu1)
   have Y1:=X4.out.on BE.out;obtain⟨r0,r1,r2,r3⟩:=Y1.wG;obtain⟨t0,t1,t2,t3⟩:=Y1.Gb;have zz:=Y1.lt;have FB:=L (lQ Y1 (ak au 0) (ak au 0) (J Z 0 0) (ak au 0));have BL:=L (jH (b:=w.heap.size+1+1) (B.out.trans (BE.out.mono B.out.size)) (by omega) (ak au 0) (ak au 0) (J Z 0 0) (ak au 0));clear Y1;go_wp2_with fail;obtain⟨v0,v1,v2,v3⟩:=FB.out.wG;refine aT (v:=.tuple #[.agg #[ak au 0,ak au 0,J Z 0 0,ak au 0],bn false]) (by simp [results,Try.results18,go_sem,v0,v1,v2,v3]) rfl ?_;rw [FA.out];exact⟨rfl,BL.out⟩
end Go.Proofs.Ytkcfgbddlpomgaa.Av
