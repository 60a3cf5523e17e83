/-
  The region of Copy i. Conditions as told.
-/
import Derived.Test.YtghlpefopidlaaaGreatOQ014
import Derived.Test.YtghlpefopidlaaaGreatOQ017
set_option maxRecDepth 100000
set_option maxHeartbeats 64000000
open _root_.Go renaming Value->aC,World->aD,Addr->aJ
open Go.IntKind renaming i64->au
open Go.Lib renaming hid->V
open Go.Obj renaming cells->aF
open Go.Operand renaming tmp->aj
open Go.Proofs.YtghlpefopidlaaaGreat.Rg renaming dw->aB,eD->aI,eH->aK,dL->aL,iy->aM,iw->aN,kM->aO,get_put->aP,gG->aQ,gN->aR,iV->aS,nu->aT,iC->aU
open Go.RowKit.Below renaming refl->O,heap_setCell->aG
open Go.Value renaming pointer->J,slice->L,int->ak,bool->aV
open _root_.List renaming getElem?_toArray->U,getElem?_cons_zero->Y,getElem?_cons_succ->Z,getElem?_eq_some_iff->aA,getElem?_eq_getElem->aH
open _root_.Option renaming some->X,none->ah
open _root_.Or renaming inr->ay
namespace Go.Proofs.YtghlpefopidlaaaGreat
namespace Av
open Go.RowKit Go.Sort Rw YtghlpefopidlaaaGreat.Nm Pr Bk
def NJ (B:Nat) (b1:Nat) (_me:Int) (_z2 _z4 _z5:aC) (o1:Option aJ) (n1 c1:Nat) (nl:List Int) (o3:Option aJ) (n3 c3:Nat) (sl:List dO) (i:Nat) (v:aC) (x:aD):Prop :=
 match i with
 | 0=>v=J (X ⟨b1,1,ah⟩)
 | 1=>v=L o1 n1 c1
 | 2=>∃ s:Sl,v=dN s/\um x B v nl
 | 3=>v=J (X ⟨b1,3,ah⟩)
 | 4=>v=L o3 n3 c3
 | 5=>∃ s:Sl,v=dN s/\Ac x B v sl
 | 6=>v=J (X ⟨b1,1,ah⟩)
 | _=>True
noncomputable def UC:Code:=((Tryz.f33.body.bind (eP 1)).getD .skip)
theorem NK (B:Nat) (b1:Nat) (me:Int) (z2 z4 z5:aC) (o1:Option aJ) (n1 c1:Nat) (nl:List Int) (o3:Option aJ) (n3 c3:Nat) (sl:List dO) (i:Nat) (v:aC) (x x':aD) (h:NJ B b1 me z2 z4 z5 o1 n1 c1 nl o3 n3 c3 sl i v x) (hb:Below x.heap.size x x'):NJ B b1 me z2 z4 z5 o1 n1 c1 nl o3 n3 c3 sl i v x':=by
 by_cases hi:i<7
 ·rcases (by omega:i=0\/i=1\/i=2\/i=3\/i=4\/i=5\/i=6) with rfl|rfl|rfl|rfl|rfl|rfl|rfl
  ·exact h
  ·exact h
  ·obtain⟨s,h1,h2⟩:=h; exact⟨s,h1,Bk.dI h2 hb⟩
  ·exact h
  ·exact h
  ·obtain⟨s,h1,h2⟩:=h; exact⟨s,h1,Bk.dI h2 hb⟩
  ·exact h
 ·unfold NJ
  split <;> first | omega | trivial
theorem cp1 (Q:Exit->Act->aD->Prop) (W:aD) (b1:Nat) (me:Int) (z2 z4 z5:aC) (o1:Option aJ) (n1 c1:Nat) (nl:List Int) (o3:Option aJ) (n3 c3:Nat) (sl:List dO) (u0 u2 u3 u4 u5 u6 u7 u8 u9 u10 u11 u12 u13 u14 u15 u16 u17 u18 u19 u20 u21 u22 u23 u24 u25 u26 u27 u28 u29 u30 u31 u32 u33 u34 u35 u36 u37 u38 u39 u40 u41 u42 u43 u44 u45 u46 u47 u48 u49 u50 u51 u52 u53 u54 u55 u56 u57 u58 u59 u60 u61 u62 u63 u64 u65 u66 u67 u68 u69 u70 u71 u72 u73 u74 u75 u76 u77 u78 u79 u80 u81:aC)
  (h1:dx W b1 #[ak au me,L o1 n1 c1,z2,L o3 n3 c3,z4,z5] 30) (r1:Gq W (L o1 n1 c1) nl) (r3:yZ W (L o3 n3 c3) sl) (l1:nl.length<=900) (l3:sl.length<=900)
  (hQ:∀ (x:aD) (v6 v7 v8 v9 v10 v11 v12 v13:aC) (p1:Option aJ) (q1 s1:Nat) (p3:Option aJ) (q3 s3:Nat),dx x b1 #[ak au me,L p1 q1 s1,z2,L p3 q3 s3,z4,z5] 30->um x W.heap.size (L p1 q1 s1) nl->Ac x W.heap.size (L p3 q3 s3) sl->(∀ B,B<=b1->Below B W x)->(∀ k,k<W.heap.size->k≠b1->x.heap[k]?=W.heap[k]?)->Q .normal ⟨(u0::J (X ⟨b1,0,ah⟩)::u2::u3::u4::u5::v6::v7::v8::v9::v10::v11::v12::v13::u14::u15::u16::u17::u18::u19::u20::u21::u22::u23::u24::u25::u26::u27::u28::u29::u30::u31::u32::u33::u34::u35::u36::u37::u38::u39::u40::u41::u42::u43::u44::u45::u46::u47::u48::u49::u50::u51::u52::u53::u54::u55::u56::u57::u58::u59::u60::u61::u62::u63::u64::u65::u66::u67::u68::u69::u70::u71::u72::u73::u74::u75::u76::u77::u78::u79::u80::u81::[]).toArray,[]⟩ x) :
  Code.wp Tryz.prog UC Q ⟨(u0::J (X ⟨b1,0,ah⟩)::u2::u3::u4::u5::u6::u7::u8::u9::u10::u11::u12::u13::u14::u15::u16::u17::u18::u19::u20::u21::u22::u23::u24::u25::u26::u27::u28::u29::u30::u31::u32::u33::u34::u35::u36::u37::u38::u39::u40::u41::u42::u43::u44::u45::u46::u47::u48::u49::u50::u51::u52::u53::u54::u55::u56::u57::u58::u59::u60::u61::u62::u63::u64::u65::u66::u67::u68::u69::u70::u71::u72::u73::u74::u75::u76::u77::u78::u79::u80::u81::[]).toArray,[]⟩ W:=by
 have HQ:=V hQ;have H1:=V h1;have R1:=V r1;have R3:=V r3;have L1:=V l1;have L3:=V l3;clear hQ h1 r1 r3 l1 l3;have o9:=NK W.heap.size b1 me z2 z4 z5 o1 n1 c1 nl o3 n3 c3 sl;unfold UC
 conv=>arg 2; whnf
 have nd:∀ j,(j<6\/13<=j)->∀ i,i<7->(fun i=>6+i) i≠j:=by
  intro j hj i hi h;simp only at h;omega
 refine aS 10 7 (fun i=>6+i) (fun _=>7) (NJ W.heap.size b1 me z2 z4 z5 o1 n1 c1 nl o3 n3 c3 sl) (by kernel_rfl) (by kernel_rfl) rfl (by decide) (fun i j _ _ h=>by have h2:6+i=6+j:=h; omega) (fun i hi=>by show 6+i<82; omega) ?_ (fun _=>aT 14 (by kernel_rfl)) ?_ ?_
 ·intro i o hi ho a x D hnd hc hD hb seen K hK;clear HQ;rcases (by omega:i=0\/i=1\/i=2\/i=3\/i=4\/i=5\/i=6) with rfl|rfl|rfl|rfl|rfl|rfl|rfl
  ·cases ho;have e1:a.eval (aj 1)=J (X ⟨b1,0,ah⟩):=seen.kp 1 _ (nd 1 (by omega)) rfl;exact aB rfl rfl (aI a.eval _ 30 (aj 1) 1 rfl (by rw [e1]; simp [go_sem])) (hK _ _ rfl (O _ _) fun _ _ _ _ _ _ _ h=>h)
  ·cases ho;have e6:a.eval (aj 6)=J (X ⟨b1,1,ah⟩):=seen.at_ ⟨0,.data⟩ (by simp) rfl (ay (by decide));have y1:=(H1.out.on hb).cell 1;simp only [U,Y,Z] at y1;exact aB rfl rfl (aK a.eval _ 24 (aj 6) rfl (by rw [e6]; simp [go_sem,y1])) (hK _ _ rfl (O _ _) fun _ _ _ _ _ _ _ h=>h)
  ·cases ho;have e7:a.eval (aj 7)=L o1 n1 c1:=seen.at_ ⟨1,.data⟩ (by simp) rfl (ay (by decide));exact aQ rfl rfl (Rw.iq a.eval _ (aj 7) 24 39 rfl e7 rfl _ (fG Tryz.func39 rfl rfl _ _)) (uF (o1,n1,c1) nl x (R1.out.on hb) L1.out) fun e w1 h=>by
    obtain⟨⟨s,rfl,h1⟩,h3⟩:=h;exact⟨_,rfl,hK _ _ ⟨s,rfl,dH h1 hb.size⟩ (h3.mono hb.size) fun j u hj _ _ _ hne h=>o9 j u _ _ h h3⟩
  ·cases ho;have e1:a.eval (aj 1)=J (X ⟨b1,0,ah⟩):=seen.kp 1 _ (nd 1 (by omega)) rfl;exact aB rfl rfl (aI a.eval _ 30 (aj 1) 3 rfl (by rw [e1]; simp [go_sem])) (hK _ _ rfl (O _ _) fun _ _ _ _ _ _ _ h=>h)
  ·cases ho;have e9:a.eval (aj 9)=J (X ⟨b1,3,ah⟩):=seen.at_ ⟨3,.data⟩ (by simp) rfl (ay (by decide));have y3:=(H1.out.on hb).cell 3;simp only [U,Y,Z] at y3;exact aB rfl rfl (aK a.eval _ 26 (aj 9) rfl (by rw [e9]; simp [go_sem,y3])) (hK _ _ rfl (O _ _) fun _ _ _ _ _ _ _ h=>h)
  ·cases ho;have e10:a.eval (aj 10)=L o3 n3 c3:=seen.at_ ⟨4,.data⟩ (by simp) rfl (ay (by decide));exact aQ rfl rfl (Rw.iq a.eval _ (aj 10) 26 99 rfl e10 rfl _ (fG Tryz.func99 rfl rfl _ _)) (Di (o3,n3,c3) sl x (R3.out.on hb) L3.out) fun e w1 h=>by
    obtain⟨⟨s,rfl,h1⟩,h3⟩:=h;exact⟨_,rfl,hK _ _ ⟨s,rfl,dH h1 hb.size⟩ (h3.mono hb.size) fun j u hj _ _ _ hne h=>o9 j u _ _ h h3⟩
  ·cases ho;have e1:a.eval (aj 1)=J (X ⟨b1,0,ah⟩):=seen.kp 1 _ (nd 1 (by omega)) rfl;exact aB rfl rfl (aI a.eval _ 30 (aj 1) 1 rfl (by rw [e1]; simp [go_sem])) (hK _ _ rfl (O _ _) fun _ _ _ _ _ _ _ h=>h)
 ·intro kk o h1 h2 ho;rcases (by omega:kk=8\/kk=9) with rfl|rfl
  ·cases ho;exact⟨⟨7,.phase⟩,by simp,rfl,rfl⟩
  ·cases ho;exact⟨⟨8,.data⟩,by simp,rfl,rfl⟩
 ·intro a w' df sz kp ⟨vs,hv⟩ hb;have sz':a.tmps.size=82:=sz;have g1:a.tmps[1]?=X (J (X ⟨b1,0,ah⟩)):=(kp 1 (nd 1 (by omega))).trans rfl;have g12:a.tmps[12]?=X (J (X ⟨b1,1,ah⟩)):=by
   have h:vs 6=J (X ⟨b1,1,ah⟩):=(hv 6 (by omega)).2 (by decide);rw [<- h];exact (hv 6 (by omega)).1
  obtain⟨⟨p1,q1,s1⟩,hs1,ho1⟩:=(hv 2 (by omega)).2 (by decide);have g8:a.tmps[8]?=X (L p1 q1 s1):=((hv 2 (by omega)).1).trans (congrArg X hs1);rw [hs1] at ho1;obtain⟨⟨p3,q3,s3⟩,hs3,ho3⟩:=(hv 5 (by omega)).2 (by decide);have g11:a.tmps[11]?=X (L p3 q3 s3):=((hv 5 (by omega)).1).trans (congrArg X hs3);rw [hs3] at ho3;have hB:=H1.out.on hb;have hlt:=H1.out.lt;show aM _ _ _ 3 7 a w';simp only [aM];have Zv:=hB.cell 1;have f1x:=hB.fr 1;simp only [U,Y,Z] at Zv;refine aR 24 (aj 12) (aj 8) rfl rfl rfl rfl (aL g12) (aL g8) (w':=(w').setCell ⟨b1,1,ah⟩ (L p1 q1 s1)) (by simp [go_sem,Zv,f1x]) ?_;have hB1:dx ((w').setCell ⟨b1,1,ah⟩ (L p1 q1 s1)) b1 #[ak au me,L p1 q1 s1,z2,L o3 n3 c3,z4,z5] 30:=by simpa using dY (k:=1) hB (L p1 q1 s1)
  refine aB rfl rfl (aI _ _ 30 (aj 1) 3 rfl (v:=J (X ⟨b1,3,ah⟩)) (by rw [aL g1]; simp [go_sem])) ?_;have XT:((a).put (X 13) (J (X ⟨b1,3,ah⟩))).tmps[13]?=X (J (X ⟨b1,3,ah⟩)):=by simp [Act.put,sz']
  show Go.wpOp _ _ _ 9 _ ((a).put (X 13) (J (X ⟨b1,3,ah⟩))) _;have Zw:=hB1.cell 3;have f3x:=hB1.fr 3;simp only [U,Y,Z] at Zw;refine aR 26 (aj 13) (aj 11) rfl rfl rfl rfl (aL XT) (aL ((aP _ 13 _ 11 (by decide)).trans g11)) (w':=((w').setCell ⟨b1,1,ah⟩ (L p1 q1 s1)).setCell ⟨b1,3,ah⟩ (L p3 q3 s3)) (by simp [go_sem,Zw,f3x]) ?_;have hB3:dx (((w').setCell ⟨b1,1,ah⟩ (L p1 q1 s1)).setCell ⟨b1,3,ah⟩ (L p3 q3 s3)) b1 #[ak au me,L p1 q1 s1,z2,L p3 q3 s3,z4,z5] 30:=by simpa using dY (k:=3) hB1 (L p3 q3 s3)
  have wL:∀ j,(j<6\/14<=j)->((a).put (X 13) (J (X ⟨b1,3,ah⟩))).tmps[j]?=(u0::J (X ⟨b1,0,ah⟩)::u2::u3::u4::u5::u6::u7::u8::u9::u10::u11::u12::u13::u14::u15::u16::u17::u18::u19::u20::u21::u22::u23::u24::u25::u26::u27::u28::u29::u30::u31::u32::u33::u34::u35::u36::u37::u38::u39::u40::u41::u42::u43::u44::u45::u46::u47::u48::u49::u50::u51::u52::u53::u54::u55::u56::u57::u58::u59::u60::u61::u62::u63::u64::u65::u66::u67::u68::u69::u70::u71::u72::u73::u74::u75::u76::u77::u78::u79::u80::u81::[])[j]?:=fun j hj=>(aP _ 13 _ j (by omega)).trans ((kp j (nd j (by omega))).trans U);obtain⟨mid,hmid,hfr⟩:=aU (a:=(a).put (X 13) (J (X ⟨b1,3,ah⟩))) 6 8 df (by simp [Rg.size_put,sz']) (by simp) wL;show Q .normal ((a).put (X 13) (J (X ⟨b1,3,ah⟩))) _;rw [hfr]
  match mid,hmid with
  | [v6,v7,v8,v9,v10,v11,v12,v13],_ =>
   exact HQ.out _ _ _ _ _ _ _ _ _ p1 q1 s1 p3 q3 s3 hB3 (dZ (dZ ho1 b1 1 (L p1 q1 s1) hlt) b1 3 (L p3 q3 s3) hlt) (dZ (dZ ho3 b1 1 (L p1 q1 s1) hlt) b1 3 (L p3 q3 s3) hlt) (fun B hBl=>(((hb.mono (Nat.le_of_lt (Nat.lt_of_le_of_lt hBl hlt))).setCell (p:=⟨b1,1,ah⟩) hBl (L p1 q1 s1)).setCell (p:=⟨b1,3,ah⟩) hBl (L p3 q3 s3))) (fun k hk hne=>((aG ((w').setCell ⟨b1,1,ah⟩ (L p1 q1 s1)) ⟨b1,3,ah⟩ (L p3 q3 s3) k hne).trans ((aG (w') ⟨b1,1,ah⟩ (L p1 q1 s1) k hne).trans (hb.block k hk))))
def NM (B:Nat) (b1:Nat) (_me:Int) (_z1 _z3 _z4 _z5:aC) (g n cap k:Nat) (y1 y2:Int) (yo:Option aJ) (yn yc:Nat) (y4:Int) (p:List C5) (i:Nat) (v:aC) (x:aD):Prop :=
 match i with
 | 0=>v=J (X ⟨b1,2,ah⟩)
 | 1=>v=L (X ⟨g,0,ah⟩) n cap
 | 2=>v=ak au (k:Int)
 | 3=>v=J (X ⟨b1,2,ah⟩)
 | 4=>v=L (X ⟨g,0,ah⟩) n cap
 | 5=>v=ak au (k:Int)
 | 6=>v=J (X ⟨g,k * 4,ah⟩)
 | 7=>v=kR (y1,y2,(yo,yn,yc),y4)
 | 8=>∃ s:Sl,v=kR (y1,y2,s,y4)/\ig x B (dN s) p
 | 9=>v=J (X ⟨g,k * 4,ah⟩)
 | _=>True
noncomputable def UD:Code:=((Tryz.f33.body.bind (eP 6)).getD .skip)
theorem NP (B:Nat) (b1:Nat) (me:Int) (z1 z3 z4 z5:aC) (g n cap k:Nat) (y1 y2:Int) (yo:Option aJ) (yn yc:Nat) (y4:Int) (p:List C5) (i:Nat) (v:aC) (x x':aD) (h:NM B b1 me z1 z3 z4 z5 g n cap k y1 y2 yo yn yc y4 p i v x) (hb:Below x.heap.size x x'):NM B b1 me z1 z3 z4 z5 g n cap k y1 y2 yo yn yc y4 p i v x':=by
 by_cases hi:i<10
 ·rcases (by omega:i=0\/i=1\/i=2\/i=3\/i=4\/i=5\/i=6\/i=7\/i=8\/i=9) with rfl|rfl|rfl|rfl|rfl|rfl|rfl|rfl|rfl|rfl
  ·exact h
  ·exact h
  ·exact h
  ·exact h
  ·exact h
  ·exact h
  ·exact h
  ·exact h
  ·obtain⟨s,h1,h2⟩:=h; exact⟨s,h1,Bk.dI h2 hb⟩
  ·exact h
 ·unfold NM
  split <;> first | omega | trivial
theorem cp6 (Q:Exit->Act->aD->Prop) (W:aD) (B0:Nat) (l:List jD) (b1:Nat) (me:Int) (z1 z3 z4 z5:aC) (g n cap k:Nat) (y1 y2:Int) (yo:Option aJ) (yn yc:Nat) (y4:Int) (p:List C5) (u0 u2 u4 u5 u6 u7 u8 u9 u10 u11 u12 u13 u14 u15 u16 u17 u18 u19 u20 u21 u22 u23 u24 u25 u26 u27 u28 u29 u30 u31 u32 u33 u34 u35 u36 u37 u38 u39 u40 u41 u42 u43 u44 u45 u46 u47 u48 u49 u50 u51 u52 u53 u54 u55 u56 u57 u58 u59 u60 u61 u62 u63 u64 u65 u66 u67 u68 u69 u70 u71 u72 u73 u74 u75 u76 u77 u78 u79 u80 u81:aC)
  (h1:dx W b1 #[ak au me,z1,L (X ⟨g,0,ah⟩) n cap,z3,z4,z5] 30) (ho:p9 W B0 (L (X ⟨g,0,ah⟩) n cap) l) (hy:l[k]?=X (y1,y2,(yo,yn,yc),y4)) (hp:gq W (L yo yn yc) p) (lp:p.length<=900)
  (hQ:∀ (x:aD) (v32 v33 v34 v35 v36 v37 v38 v39 v40 v41:aC) (s1:Option aJ) (s2 s3:Nat),ig x W.heap.size (L s1 s2 s3) p->p9 x B0 (L (X ⟨g,0,ah⟩) n cap) (l.set k (y1,y2,(s1,s2,s3),y4))->But g W x->(∀ B1,B1<=g->B1<=W.heap.size->Below B1 W x)->Q .normal ⟨(u0::J (X ⟨b1,0,ah⟩)::u2::ak au (k:Int)::u4::u5::u6::u7::u8::u9::u10::u11::u12::u13::u14::u15::u16::u17::u18::u19::u20::u21::u22::u23::u24::u25::u26::u27::u28::u29::u30::u31::v32::v33::v34::v35::v36::v37::v38::v39::v40::v41::u42::u43::u44::u45::u46::u47::u48::u49::u50::u51::u52::u53::u54::u55::u56::u57::u58::u59::u60::u61::u62::u63::u64::u65::u66::u67::u68::u69::u70::u71::u72::u73::u74::u75::u76::u77::u78::u79::u80::u81::[]).toArray,[]⟩ x) :
  Code.wp Tryz.prog UD Q ⟨(u0::J (X ⟨b1,0,ah⟩)::u2::ak au (k:Int)::u4::u5::u6::u7::u8::u9::u10::u11::u12::u13::u14::u15::u16::u17::u18::u19::u20::u21::u22::u23::u24::u25::u26::u27::u28::u29::u30::u31::u32::u33::u34::u35::u36::u37::u38::u39::u40::u41::u42::u43::u44::u45::u46::u47::u48::u49::u50::u51::u52::u53::u54::u55::u56::u57::u58::u59::u60::u61::u62::u63::u64::u65::u66::u67::u68::u69::u70::u71::u72::u73::u74::u75::u76::u77::u78::u79::u80::u81::[]).toArray,[]⟩ W:=by
 have HQ:=V hQ;have H1:=V h1;have HO:=V ho;have HY:=V hy;have HP:=V hp;have LP:=V lp;have IX:=V (lZ okD g k n cap (by obtain⟨_,_,hv⟩:=(Row.dB ho).len; have h:=(aA.1 hy).1; simp at hv; omega));have EL:=V (iJ okD ho hy);clear hQ h1 ho hy hp lp;have o9:=NP W.heap.size b1 me z1 z3 z4 z5 g n cap k y1 y2 yo yn yc y4 p;unfold UD
 conv=>arg 2; whnf
 have nd:∀ j,(j<32\/42<=j)->∀ i,i<10->(fun i=>32+i) i≠j:=by
  intro j hj i hi h;simp only at h;omega
 refine aS 11 10 (fun i=>32+i) (fun _=>10) (NM W.heap.size b1 me z1 z3 z4 z5 g n cap k y1 y2 yo yn yc y4 p) (by kernel_rfl) (by kernel_rfl) rfl (by decide) (fun i j _ _ h=>by have h2:32+i=32+j:=h; omega) (fun i hi=>by show 32+i<82; omega) ?_ (fun _=>aT 14 (by kernel_rfl)) ?_ ?_
 ·intro i o hi ho a x D hnd hc hD hb seen K hK;clear HQ;rcases (by omega:i=0\/i=1\/i=2\/i=3\/i=4\/i=5\/i=6\/i=7\/i=8\/i=9) with rfl|rfl|rfl|rfl|rfl|rfl|rfl|rfl|rfl|rfl
  ·cases ho;have e1:a.eval (aj 1)=J (X ⟨b1,0,ah⟩):=seen.kp 1 _ (nd 1 (by omega)) rfl;exact aB rfl rfl (aI a.eval _ 30 (aj 1) 2 rfl (by rw [e1]; simp [go_sem])) (hK _ _ rfl (O _ _) fun _ _ _ _ _ _ _ h=>h)
  ·cases ho;have e32:a.eval (aj 32)=J (X ⟨b1,2,ah⟩):=seen.at_ ⟨0,.data⟩ (by simp) rfl (ay (by decide));have y2:=(H1.out.on hb).cell 2;simp only [U,Y,Z] at y2;exact aB rfl rfl (aK a.eval _ 25 (aj 32) rfl (by rw [e32]; simp [go_sem,y2])) (hK _ _ rfl (O _ _) fun _ _ _ _ _ _ _ h=>h)
  ·cases ho;have e3:a.eval (aj 3)=ak au (k:Int):=seen.kp 3 _ (nd 3 (by omega)) rfl;exact aB rfl rfl (aN a.eval _ (aj 3) rfl x) (hK _ _ e3 (O _ _) fun _ _ _ _ _ _ _ h=>h)
  ·cases ho;have e1:a.eval (aj 1)=J (X ⟨b1,0,ah⟩):=seen.kp 1 _ (nd 1 (by omega)) rfl;exact aB rfl rfl (aI a.eval _ 30 (aj 1) 2 rfl (by rw [e1]; simp [go_sem])) (hK _ _ rfl (O _ _) fun _ _ _ _ _ _ _ h=>h)
  ·cases ho;have e35:a.eval (aj 35)=J (X ⟨b1,2,ah⟩):=seen.at_ ⟨3,.data⟩ (by simp) rfl (ay (by decide));have y2:=(H1.out.on hb).cell 2;simp only [U,Y,Z] at y2;exact aB rfl rfl (aK a.eval _ 25 (aj 35) rfl (by rw [e35]; simp [go_sem,y2])) (hK _ _ rfl (O _ _) fun _ _ _ _ _ _ _ h=>h)
  ·cases ho;have e3:a.eval (aj 3)=ak au (k:Int):=seen.kp 3 _ (nd 3 (by omega)) rfl;exact aB rfl rfl (aN a.eval _ (aj 3) rfl x) (hK _ _ e3 (O _ _) fun _ _ _ _ _ _ _ h=>h)
  ·cases ho;have e36:a.eval (aj 36)=L (X ⟨g,0,ah⟩) n cap:=seen.at_ ⟨4,.data⟩ (by simp) rfl (ay (by decide));have e37:a.eval (aj 37)=ak au (k:Int):=seen.at_ ⟨5,.data⟩ (by simp) rfl (ay (by decide));exact aB rfl rfl (aO a.eval _ 25 (aj 36) (aj 37) rfl (by rw [e36,e37]; exact IX.out x)) (hK _ _ rfl (O _ _) fun _ _ _ _ _ _ _ h=>h)
  ·cases ho;have e38:a.eval (aj 38)=J (X ⟨g,k * 4,ah⟩):=seen.at_ ⟨6,.data⟩ (by simp) rfl (ay (by decide));exact aB rfl rfl (aK a.eval _ 36 (aj 38) rfl (by rw [e38]; exact Pv x _ (y1,y2,(yo,yn,yc),y4) (EL.out x hb))) (hK _ _ rfl (O _ _) fun _ _ _ _ _ _ _ h=>h)
  ·cases ho;have e39:a.eval (aj 39)=kR (y1,y2,(yo,yn,yc),y4):=seen.at_ ⟨7,.data⟩ (by simp) rfl (ay (by decide));exact aQ rfl rfl (Rw.iq a.eval _ (aj 39) 36 35 rfl e39 rfl _ (fG Tryz.func35 rfl rfl _ _)) (uH (y1,y2,(yo,yn,yc),y4) p x (HP.out.on hb) LP.out) fun e w1 h=>by
    obtain⟨⟨s,rfl,h1⟩,h3⟩:=h;exact⟨_,rfl,hK _ _ ⟨s,rfl,dH h1 hb.size⟩ (h3.mono hb.size) fun j u hj _ _ _ hne h=>o9 j u _ _ h h3⟩
  ·cases ho;have e33:a.eval (aj 33)=L (X ⟨g,0,ah⟩) n cap:=seen.at_ ⟨1,.data⟩ (by simp) rfl (ay (by decide));have e34:a.eval (aj 34)=ak au (k:Int):=seen.at_ ⟨2,.data⟩ (by simp) rfl (ay (by decide));exact aB rfl rfl (aO a.eval _ 25 (aj 33) (aj 34) rfl (by rw [e33,e34]; exact IX.out x)) (hK _ _ rfl (O _ _) fun _ _ _ _ _ _ _ h=>h)
 ·intro kk o h1 h2 ho;omega
 ·intro a w' df sz kp ⟨vs,hv⟩ hb;have sz':a.tmps.size=82:=sz;have g41:a.tmps[41]?=X (J (X ⟨g,k * 4,ah⟩)):=by
   have h:vs 9=J (X ⟨g,k * 4,ah⟩):=(hv 9 (by omega)).2 (by decide);rw [<- h];exact (hv 9 (by omega)).1
  obtain⟨⟨s1,s2,s3⟩,hs,hc⟩:=(hv 8 (by omega)).2 (by decide);have g40:a.tmps[40]?=X (kR (y1,y2,(s1,s2,s3),y4)):=((hv 8 (by omega)).1).trans (congrArg X hs);obtain⟨w2,hr,st1,st2,UF⟩:=Ro (k:=k) (y1,y2,(s1,s2,s3),y4) (Bk.dI HO.out hb) (aA.1 HY.out).1;obtain⟨cur,hg⟩:=gX (Bk.dI HO.out hb);show aM _ _ _ 1 10 a w';simp only [aM];refine aR 36 (aj 41) (aj 40) rfl rfl rfl rfl (aL g41) (aL g40) (w':=w2) hr ?_;have wL:∀ j,(j<32\/42<=j)->(a).tmps[j]?=(u0::J (X ⟨b1,0,ah⟩)::u2::ak au (k:Int)::u4::u5::u6::u7::u8::u9::u10::u11::u12::u13::u14::u15::u16::u17::u18::u19::u20::u21::u22::u23::u24::u25::u26::u27::u28::u29::u30::u31::u32::u33::u34::u35::u36::u37::u38::u39::u40::u41::u42::u43::u44::u45::u46::u47::u48::u49::u50::u51::u52::u53::u54::u55::u56::u57::u58::u59::u60::u61::u62::u63::u64::u65::u66::u67::u68::u69::u70::u71::u72::u73::u74::u75::u76::u77::u78::u79::u80::u81::[])[j]?:=fun j hj=>(kp j (nd j (by omega))).trans U;obtain⟨mid,hmid,hfr⟩:=aU (a:=a) 32 10 df (by simp [sz']) (by simp) wL;show Q .normal (a) _;rw [hfr]
  match mid,hmid with
  | [v32,v33,v34,v35,v36,v37,v38,v39,v40,v41],_ =>
   exact HQ.out _ _ _ _ _ _ _ _ _ _ _ s1 s2 s3 (st2.own hc hg (by decide)) st1 ((But.of_below hb).trans st2) fun B1 hB hl=>UF B1 W hB (hb.mono hl)
def Fq (B:Nat) (b1:Nat) (_me:Int) (_z1 _z2 _z3 _z5:aC) (g n cap k:Nat) (_y1 _y2 _y3 _y4:Int) (yo:Option aJ) (yn yc:Nat) (_y6:Int) (_y7:Bool) (p:List C5) (i:Nat) (v:aC) (x:aD):Prop :=
 match i with
 | 0=>v=J (X ⟨b1,4,ah⟩)
 | 1=>v=L (X ⟨g,0,ah⟩) n cap
 | 2=>v=ak au (k:Int)
 | 3=>v=J (X ⟨b1,4,ah⟩)
 | 4=>v=L (X ⟨g,0,ah⟩) n cap
 | 5=>v=ak au (k:Int)
 | 6=>v=J (X ⟨g,k * 7,ah⟩)
 | 7=>v=J (X ⟨g,k * 7+4,ah⟩)
 | 8=>v=L yo yn yc
 | 9=>∃ s:Sl,v=dN s/\ig x B v p
 | 10=>v=J (X ⟨g,k * 7,ah⟩)
 | 11=>v=J (X ⟨g,k * 7+4,ah⟩)
 | _=>True
noncomputable def Py:Code:=((Tryz.f33.body.bind (eP 11)).getD .skip)
theorem Kg (B:Nat) (b1:Nat) (me:Int) (z1 z2 z3 z5:aC) (g n cap k:Nat) (y1 y2 y3 y4:Int) (yo:Option aJ) (yn yc:Nat) (y6:Int) (y7:Bool) (p:List C5) (i:Nat) (v:aC) (x x':aD) (h:Fq B b1 me z1 z2 z3 z5 g n cap k y1 y2 y3 y4 yo yn yc y6 y7 p i v x) (hb:Below x.heap.size x x'):Fq B b1 me z1 z2 z3 z5 g n cap k y1 y2 y3 y4 yo yn yc y6 y7 p i v x':=by
 by_cases hi:i<12
 ·rcases (by omega:i=0\/i=1\/i=2\/i=3\/i=4\/i=5\/i=6\/i=7\/i=8\/i=9\/i=10\/i=11) with rfl|rfl|rfl|rfl|rfl|rfl|rfl|rfl|rfl|rfl|rfl|rfl
  ·exact h
  ·exact h
  ·exact h
  ·exact h
  ·exact h
  ·exact h
  ·exact h
  ·exact h
  ·exact h
  ·obtain⟨s,h1,h2⟩:=h; exact⟨s,h1,Bk.dI h2 hb⟩
  ·exact h
  ·exact h
 ·unfold Fq
  split <;> first | omega | trivial
theorem XU (Q:Exit->Act->aD->Prop) (W:aD) (B0:Nat) (l:List iT) (b1:Nat) (me:Int) (z1 z2 z3 z5:aC) (g n cap k:Nat) (y1 y2 y3 y4:Int) (yo:Option aJ) (yn yc:Nat) (y6:Int) (y7:Bool) (p:List C5) (u0 u2 u3 u5 u6 u7 u8 u9 u10 u11 u12 u13 u14 u15 u16 u17 u18 u19 u20 u21 u22 u23 u24 u25 u26 u27 u28 u29 u30 u31 u32 u33 u34 u35 u36 u37 u38 u39 u40 u41 u42 u43 u44 u45 u46 u47 u48 u49 u50 u51 u52 u53 u54 u55 u56 u57 u58 u59 u60 u61 u62 u63 u64 u65 u66 u67 u68 u69 u70 u71 u72 u73 u74 u75 u76 u77 u78 u79 u80 u81:aC)
  (h1:dx W b1 #[ak au me,z1,z2,z3,L (X ⟨g,0,ah⟩) n cap,z5] 30) (ho:jy W B0 (L (X ⟨g,0,ah⟩) n cap) l) (hy:l[k]?=X (y1,y2,y3,y4,(yo,yn,yc),y6,y7)) (hp:gq W (L yo yn yc) p) (lp:p.length<=900)
  (hQ:∀ (x:aD) (v49 v50 v51 v52 v53 v54 v55 v56 v57 v58 v59 v60:aC) (s1:Option aJ) (s2 s3:Nat),ig x W.heap.size (L s1 s2 s3) p->jy x B0 (L (X ⟨g,0,ah⟩) n cap) (l.set k (y1,y2,y3,y4,(s1,s2,s3),y6,y7))->But g W x->(∀ B1,B1<=g->B1<=W.heap.size->Below B1 W x)->Q .normal ⟨(u0::J (X ⟨b1,0,ah⟩)::u2::u3::ak au (k:Int)::u5::u6::u7::u8::u9::u10::u11::u12::u13::u14::u15::u16::u17::u18::u19::u20::u21::u22::u23::u24::u25::u26::u27::u28::u29::u30::u31::u32::u33::u34::u35::u36::u37::u38::u39::u40::u41::u42::u43::u44::u45::u46::u47::u48::v49::v50::v51::v52::v53::v54::v55::v56::v57::v58::v59::v60::u61::u62::u63::u64::u65::u66::u67::u68::u69::u70::u71::u72::u73::u74::u75::u76::u77::u78::u79::u80::u81::[]).toArray,[]⟩ x) :
  Code.wp Tryz.prog Py Q ⟨(u0::J (X ⟨b1,0,ah⟩)::u2::u3::ak au (k:Int)::u5::u6::u7::u8::u9::u10::u11::u12::u13::u14::u15::u16::u17::u18::u19::u20::u21::u22::u23::u24::u25::u26::u27::u28::u29::u30::u31::u32::u33::u34::u35::u36::u37::u38::u39::u40::u41::u42::u43::u44::u45::u46::u47::u48::u49::u50::u51::u52::u53::u54::u55::u56::u57::u58::u59::u60::u61::u62::u63::u64::u65::u66::u67::u68::u69::u70::u71::u72::u73::u74::u75::u76::u77::u78::u79::u80::u81::[]).toArray,[]⟩ W:=by
 have HQ:=V hQ;have H1:=V h1;have HO:=V ho;have HY:=V hy;have HP:=V hp;have LP:=V lp;have IX:=V (lZ lF g k n cap (by obtain⟨_,_,hv⟩:=(Row.dB ho).len; have h:=(aA.1 hy).1; simp at hv; omega));have EL:=V (iJ lF ho hy);clear hQ h1 ho hy hp lp;have o9:=Kg W.heap.size b1 me z1 z2 z3 z5 g n cap k y1 y2 y3 y4 yo yn yc y6 y7 p;unfold Py
 conv=>arg 2; whnf
 have nd:∀ j,(j<49\/61<=j)->∀ i,i<12->(fun i=>49+i) i≠j:=by
  intro j hj i hi h;simp only at h;omega
 refine aS 13 12 (fun i=>49+i) (fun _=>12) (Fq W.heap.size b1 me z1 z2 z3 z5 g n cap k y1 y2 y3 y4 yo yn yc y6 y7 p) (by kernel_rfl) (by kernel_rfl) rfl (by decide) (fun i j _ _ h=>by have h2:49+i=49+j:=h; omega) (fun i hi=>by show 49+i<82; omega) ?_ (fun _=>aT 14 (by kernel_rfl)) ?_ ?_
 ·intro i o hi ho a x D hnd hc hD hb seen K hK;clear HQ;rcases (by omega:i=0\/i=1\/i=2\/i=3\/i=4\/i=5\/i=6\/i=7\/i=8\/i=9\/i=10\/i=11) with rfl|rfl|rfl|rfl|rfl|rfl|rfl|rfl|rfl|rfl|rfl|rfl
  ·cases ho;have e1:a.eval (aj 1)=J (X ⟨b1,0,ah⟩):=seen.kp 1 _ (nd 1 (by omega)) rfl;exact aB rfl rfl (aI a.eval _ 30 (aj 1) 4 rfl (by rw [e1]; simp [go_sem])) (hK _ _ rfl (O _ _) fun _ _ _ _ _ _ _ h=>h)
  ·cases ho;have e49:a.eval (aj 49)=J (X ⟨b1,4,ah⟩):=seen.at_ ⟨0,.data⟩ (by simp) rfl (ay (by decide));have y4:=(H1.out.on hb).cell 4;simp only [U,Y,Z] at y4;exact aB rfl rfl (aK a.eval _ 27 (aj 49) rfl (by rw [e49]; simp [go_sem,y4])) (hK _ _ rfl (O _ _) fun _ _ _ _ _ _ _ h=>h)
  ·cases ho;have e4:a.eval (aj 4)=ak au (k:Int):=seen.kp 4 _ (nd 4 (by omega)) rfl;exact aB rfl rfl (aN a.eval _ (aj 4) rfl x) (hK _ _ e4 (O _ _) fun _ _ _ _ _ _ _ h=>h)
  ·cases ho;have e1:a.eval (aj 1)=J (X ⟨b1,0,ah⟩):=seen.kp 1 _ (nd 1 (by omega)) rfl;exact aB rfl rfl (aI a.eval _ 30 (aj 1) 4 rfl (by rw [e1]; simp [go_sem])) (hK _ _ rfl (O _ _) fun _ _ _ _ _ _ _ h=>h)
  ·cases ho;have e52:a.eval (aj 52)=J (X ⟨b1,4,ah⟩):=seen.at_ ⟨3,.data⟩ (by simp) rfl (ay (by decide));have y4:=(H1.out.on hb).cell 4;simp only [U,Y,Z] at y4;exact aB rfl rfl (aK a.eval _ 27 (aj 52) rfl (by rw [e52]; simp [go_sem,y4])) (hK _ _ rfl (O _ _) fun _ _ _ _ _ _ _ h=>h)
  ·cases ho;have e4:a.eval (aj 4)=ak au (k:Int):=seen.kp 4 _ (nd 4 (by omega)) rfl;exact aB rfl rfl (aN a.eval _ (aj 4) rfl x) (hK _ _ e4 (O _ _) fun _ _ _ _ _ _ _ h=>h)
  ·cases ho;have e53:a.eval (aj 53)=L (X ⟨g,0,ah⟩) n cap:=seen.at_ ⟨4,.data⟩ (by simp) rfl (ay (by decide));have e54:a.eval (aj 54)=ak au (k:Int):=seen.at_ ⟨5,.data⟩ (by simp) rfl (ay (by decide));exact aB rfl rfl (aO a.eval _ 27 (aj 53) (aj 54) rfl (by rw [e53,e54]; exact IX.out x)) (hK _ _ rfl (O _ _) fun _ _ _ _ _ _ _ h=>h)
  ·cases ho;have e55:a.eval (aj 55)=J (X ⟨g,k * 7,ah⟩):=seen.at_ ⟨6,.data⟩ (by simp) rfl (ay (by decide));exact aB rfl rfl (aI a.eval _ 67 (aj 55) 2 rfl (by rw [e55]; simp [go_sem])) (hK _ _ rfl (O _ _) fun _ _ _ _ _ _ _ h=>h)
  ·cases ho;have e56:a.eval (aj 56)=J (X ⟨g,k * 7+4,ah⟩):=seen.at_ ⟨7,.data⟩ (by simp) rfl (ay (by decide));have y:=EL.out x hb 4 _ rfl;simp [Addr.add,EN] at y;exact aB rfl rfl (aK a.eval _ 34 (aj 56) rfl (by rw [e56]; simp [go_sem,y])) (hK _ _ rfl (O _ _) fun _ _ _ _ _ _ _ h=>h)
  ·cases ho;have e57:a.eval (aj 57)=L yo yn yc:=seen.at_ ⟨8,.data⟩ (by simp) rfl (ay (by decide));exact aQ rfl rfl (Rw.iq a.eval _ (aj 57) 34 44 rfl e57 rfl _ (fG Tryz.func44 rfl rfl _ _)) (jJ (yo,yn,yc) p x (HP.out.on hb) LP.out) fun e w1 h=>by
    obtain⟨⟨s,rfl,h1⟩,h3⟩:=h;exact⟨_,rfl,hK _ _ ⟨s,rfl,dH h1 hb.size⟩ (h3.mono hb.size) fun j u hj _ _ _ hne h=>o9 j u _ _ h h3⟩
  ·cases ho;have e50:a.eval (aj 50)=L (X ⟨g,0,ah⟩) n cap:=seen.at_ ⟨1,.data⟩ (by simp) rfl (ay (by decide));have e51:a.eval (aj 51)=ak au (k:Int):=seen.at_ ⟨2,.data⟩ (by simp) rfl (ay (by decide));exact aB rfl rfl (aO a.eval _ 27 (aj 50) (aj 51) rfl (by rw [e50,e51]; exact IX.out x)) (hK _ _ rfl (O _ _) fun _ _ _ _ _ _ _ h=>h)
  ·cases ho;have e59:a.eval (aj 59)=J (X ⟨g,k * 7,ah⟩):=seen.at_ ⟨10,.data⟩ (by simp) rfl (ay (by decide));exact aB rfl rfl (aI a.eval _ 67 (aj 59) 2 rfl (by rw [e59]; simp [go_sem])) (hK _ _ rfl (O _ _) fun _ _ _ _ _ _ _ h=>h)
 ·intro kk o h1 h2 ho;omega
 ·intro a w' df sz kp ⟨vs,hv⟩ hb;have sz':a.tmps.size=82:=sz;have g60:a.tmps[60]?=X (J (X ⟨g,k * 7+4,ah⟩)):=by
   have h:vs 11=J (X ⟨g,k * 7+4,ah⟩):=(hv 11 (by omega)).2 (by decide);rw [<- h];exact (hv 11 (by omega)).1
  obtain⟨⟨s1,s2,s3⟩,hs,hc⟩:=(hv 9 (by omega)).2 (by decide);have g58:a.tmps[58]?=X (L s1 s2 s3):=((hv 9 (by omega)).1).trans (congrArg X hs);rw [hs] at hc;obtain⟨w2,hr,st1,st2,UF⟩:=Rp (k:=k) s1 s2 s3 (Bk.dI HO.out hb) HY.out;obtain⟨cur,hg⟩:=gX (Bk.dI HO.out hb);show aM _ _ _ 1 12 a w';simp only [aM];refine aR 34 (aj 60) (aj 58) rfl rfl rfl rfl (aL g60) (aL g58) (w':=w2) hr ?_;have wL:∀ j,(j<49\/61<=j)->(a).tmps[j]?=(u0::J (X ⟨b1,0,ah⟩)::u2::u3::ak au (k:Int)::u5::u6::u7::u8::u9::u10::u11::u12::u13::u14::u15::u16::u17::u18::u19::u20::u21::u22::u23::u24::u25::u26::u27::u28::u29::u30::u31::u32::u33::u34::u35::u36::u37::u38::u39::u40::u41::u42::u43::u44::u45::u46::u47::u48::u49::u50::u51::u52::u53::u54::u55::u56::u57::u58::u59::u60::u61::u62::u63::u64::u65::u66::u67::u68::u69::u70::u71::u72::u73::u74::u75::u76::u77::u78::u79::u80::u81::[])[j]?:=fun j hj=>(kp j (nd j (by omega))).trans U;obtain⟨mid,hmid,hfr⟩:=aU (a:=a) 49 12 df (by simp [sz']) (by simp) wL;show Q .normal (a) _;rw [hfr]
  match mid,hmid with
  | [v49,v50,v51,v52,v53,v54,v55,v56,v57,v58,v59,v60],_ =>
   exact HQ.out _ _ _ _ _ _ _ _ _ _ _ _ _ s1 s2 s3 (st2.own hc hg (by decide)) st1 ((But.of_below hb).trans st2) fun B1 hB hl=>UF B1 W hB (hb.mono hl)
def Fu (B:Nat) (b1:Nat) (_me:Int) (_z1 _z2 _z3 _z4:aC) (g n cap k:Nat) (_y1 _y2:Int) (yo:Option aJ) (yn yc:Nat) (p:List C5) (i:Nat) (v:aC) (x:aD):Prop :=
 match i with
 | 0=>v=J (X ⟨b1,5,ah⟩)
 | 1=>v=L (X ⟨g,0,ah⟩) n cap
 | 2=>v=ak au (k:Int)
 | 3=>v=J (X ⟨b1,5,ah⟩)
 | 4=>v=L (X ⟨g,0,ah⟩) n cap
 | 5=>v=ak au (k:Int)
 | 6=>v=J (X ⟨g,k * 3,ah⟩)
 | 7=>v=J (X ⟨g,k * 3+2,ah⟩)
 | 8=>v=L yo yn yc
 | 9=>∃ s:Sl,v=dN s/\ig x B v p
 | 10=>v=J (X ⟨g,k * 3,ah⟩)
 | 11=>v=J (X ⟨g,k * 3+2,ah⟩)
 | _=>True
noncomputable def Pz:Code:=((Tryz.f33.body.bind (eP 16)).getD .skip)
theorem Kh (B:Nat) (b1:Nat) (me:Int) (z1 z2 z3 z4:aC) (g n cap k:Nat) (y1 y2:Int) (yo:Option aJ) (yn yc:Nat) (p:List C5) (i:Nat) (v:aC) (x x':aD) (h:Fu B b1 me z1 z2 z3 z4 g n cap k y1 y2 yo yn yc p i v x) (hb:Below x.heap.size x x'):Fu B b1 me z1 z2 z3 z4 g n cap k y1 y2 yo yn yc p i v x':=by
 by_cases hi:i<12
 ·rcases (by omega:i=0\/i=1\/i=2\/i=3\/i=4\/i=5\/i=6\/i=7\/i=8\/i=9\/i=10\/i=11) with rfl|rfl|rfl|rfl|rfl|rfl|rfl|rfl|rfl|rfl|rfl|rfl
  ·exact h
  ·exact h
  ·exact h
  ·exact h
  ·exact h
  ·exact h
  ·exact h
  ·exact h
  ·exact h
  ·obtain⟨s,h1,h2⟩:=h; exact⟨s,h1,Bk.dI h2 hb⟩
  ·exact h
  ·exact h
 ·unfold Fu
  split <;> first | omega | trivial
theorem XV (Q:Exit->Act->aD->Prop) (W:aD) (B0:Nat) (l:List lG) (b1:Nat) (me:Int) (z1 z2 z3 z4:aC) (g n cap k:Nat) (y1 y2:Int) (yo:Option aJ) (yn yc:Nat) (p:List C5) (u0 u2 u3 u4 u6 u7 u8 u9 u10 u11 u12 u13 u14 u15 u16 u17 u18 u19 u20 u21 u22 u23 u24 u25 u26 u27 u28 u29 u30 u31 u32 u33 u34 u35 u36 u37 u38 u39 u40 u41 u42 u43 u44 u45 u46 u47 u48 u49 u50 u51 u52 u53 u54 u55 u56 u57 u58 u59 u60 u61 u62 u63 u64 u65 u66 u67 u68 u69 u70 u71 u72 u73 u74 u75 u76 u77 u78 u79 u80 u81:aC)
  (h1:dx W b1 #[ak au me,z1,z2,z3,z4,L (X ⟨g,0,ah⟩) n cap] 30) (ho:nW W B0 (L (X ⟨g,0,ah⟩) n cap) l) (hy:l[k]?=X (y1,y2,(yo,yn,yc))) (hp:gq W (L yo yn yc) p) (lp:p.length<=900)
  (hQ:∀ (x:aD) (v68 v69 v70 v71 v72 v73 v74 v75 v76 v77 v78 v79:aC) (s1:Option aJ) (s2 s3:Nat),ig x W.heap.size (L s1 s2 s3) p->nW x B0 (L (X ⟨g,0,ah⟩) n cap) (l.set k (y1,y2,(s1,s2,s3)))->But g W x->(∀ B1,B1<=g->B1<=W.heap.size->Below B1 W x)->Q .normal ⟨(u0::J (X ⟨b1,0,ah⟩)::u2::u3::u4::ak au (k:Int)::u6::u7::u8::u9::u10::u11::u12::u13::u14::u15::u16::u17::u18::u19::u20::u21::u22::u23::u24::u25::u26::u27::u28::u29::u30::u31::u32::u33::u34::u35::u36::u37::u38::u39::u40::u41::u42::u43::u44::u45::u46::u47::u48::u49::u50::u51::u52::u53::u54::u55::u56::u57::u58::u59::u60::u61::u62::u63::u64::u65::u66::u67::v68::v69::v70::v71::v72::v73::v74::v75::v76::v77::v78::v79::u80::u81::[]).toArray,[]⟩ x) :
  Code.wp Tryz.prog Pz Q ⟨(u0::J (X ⟨b1,0,ah⟩)::u2::u3::u4::ak au (k:Int)::u6::u7::u8::u9::u10::u11::u12::u13::u14::u15::u16::u17::u18::u19::u20::u21::u22::u23::u24::u25::u26::u27::u28::u29::u30::u31::u32::u33::u34::u35::u36::u37::u38::u39::u40::u41::u42::u43::u44::u45::u46::u47::u48::u49::u50::u51::u52::u53::u54::u55::u56::u57::u58::u59::u60::u61::u62::u63::u64::u65::u66::u67::u68::u69::u70::u71::u72::u73::u74::u75::u76::u77::u78::u79::u80::u81::[]).toArray,[]⟩ W:=by
 have HQ:=V hQ;have H1:=V h1;have HO:=V ho;have HY:=V hy;have HP:=V hp;have LP:=V lp;have IX:=V (lZ okW g k n cap (by obtain⟨_,_,hv⟩:=(Row.dB ho).len; have h:=(aA.1 hy).1; simp at hv; omega));have EL:=V (iJ okW ho hy);clear hQ h1 ho hy hp lp;have o9:=Kh W.heap.size b1 me z1 z2 z3 z4 g n cap k y1 y2 yo yn yc p;unfold Pz
 conv=>arg 2; whnf
 have nd:∀ j,(j<68\/80<=j)->∀ i,i<12->(fun i=>68+i) i≠j:=by
  intro j hj i hi h;simp only at h;omega
 refine aS 13 12 (fun i=>68+i) (fun _=>12) (Fu W.heap.size b1 me z1 z2 z3 z4 g n cap k y1 y2 yo yn yc p) (by kernel_rfl) (by kernel_rfl) rfl (by decide) (fun i j _ _ h=>by have h2:68+i=68+j:=h; omega) (fun i hi=>by show 68+i<82; omega) ?_ (fun _=>aT 14 (by kernel_rfl)) ?_ ?_
 ·intro i o hi ho a x D hnd hc hD hb seen K hK;clear HQ;rcases (by omega:i=0\/i=1\/i=2\/i=3\/i=4\/i=5\/i=6\/i=7\/i=8\/i=9\/i=10\/i=11) with rfl|rfl|rfl|rfl|rfl|rfl|rfl|rfl|rfl|rfl|rfl|rfl
  ·cases ho;have e1:a.eval (aj 1)=J (X ⟨b1,0,ah⟩):=seen.kp 1 _ (nd 1 (by omega)) rfl;exact aB rfl rfl (aI a.eval _ 30 (aj 1) 5 rfl (by rw [e1]; simp [go_sem])) (hK _ _ rfl (O _ _) fun _ _ _ _ _ _ _ h=>h)
  ·cases ho;have e68:a.eval (aj 68)=J (X ⟨b1,5,ah⟩):=seen.at_ ⟨0,.data⟩ (by simp) rfl (ay (by decide));have y5:=(H1.out.on hb).cell 5;simp only [U,Y,Z] at y5;exact aB rfl rfl (aK a.eval _ 28 (aj 68) rfl (by rw [e68]; simp [go_sem,y5])) (hK _ _ rfl (O _ _) fun _ _ _ _ _ _ _ h=>h)
  ·cases ho;have e5:a.eval (aj 5)=ak au (k:Int):=seen.kp 5 _ (nd 5 (by omega)) rfl;exact aB rfl rfl (aN a.eval _ (aj 5) rfl x) (hK _ _ e5 (O _ _) fun _ _ _ _ _ _ _ h=>h)
  ·cases ho;have e1:a.eval (aj 1)=J (X ⟨b1,0,ah⟩):=seen.kp 1 _ (nd 1 (by omega)) rfl;exact aB rfl rfl (aI a.eval _ 30 (aj 1) 5 rfl (by rw [e1]; simp [go_sem])) (hK _ _ rfl (O _ _) fun _ _ _ _ _ _ _ h=>h)
  ·cases ho;have e71:a.eval (aj 71)=J (X ⟨b1,5,ah⟩):=seen.at_ ⟨3,.data⟩ (by simp) rfl (ay (by decide));have y5:=(H1.out.on hb).cell 5;simp only [U,Y,Z] at y5;exact aB rfl rfl (aK a.eval _ 28 (aj 71) rfl (by rw [e71]; simp [go_sem,y5])) (hK _ _ rfl (O _ _) fun _ _ _ _ _ _ _ h=>h)
  ·cases ho;have e5:a.eval (aj 5)=ak au (k:Int):=seen.kp 5 _ (nd 5 (by omega)) rfl;exact aB rfl rfl (aN a.eval _ (aj 5) rfl x) (hK _ _ e5 (O _ _) fun _ _ _ _ _ _ _ h=>h)
  ·cases ho;have e72:a.eval (aj 72)=L (X ⟨g,0,ah⟩) n cap:=seen.at_ ⟨4,.data⟩ (by simp) rfl (ay (by decide));have e73:a.eval (aj 73)=ak au (k:Int):=seen.at_ ⟨5,.data⟩ (by simp) rfl (ay (by decide));exact aB rfl rfl (aO a.eval _ 28 (aj 72) (aj 73) rfl (by rw [e72,e73]; exact IX.out x)) (hK _ _ rfl (O _ _) fun _ _ _ _ _ _ _ h=>h)
  ·cases ho;have e74:a.eval (aj 74)=J (X ⟨g,k * 3,ah⟩):=seen.at_ ⟨6,.data⟩ (by simp) rfl (ay (by decide));exact aB rfl rfl (aI a.eval _ 88 (aj 74) 1 rfl (by rw [e74]; simp [go_sem])) (hK _ _ rfl (O _ _) fun _ _ _ _ _ _ _ h=>h)
  ·cases ho;have e75:a.eval (aj 75)=J (X ⟨g,k * 3+2,ah⟩):=seen.at_ ⟨7,.data⟩ (by simp) rfl (ay (by decide));have y:=EL.out x hb 2 _ rfl;simp [Addr.add,EW] at y;exact aB rfl rfl (aK a.eval _ 34 (aj 75) rfl (by rw [e75]; simp [go_sem,y])) (hK _ _ rfl (O _ _) fun _ _ _ _ _ _ _ h=>h)
  ·cases ho;have e76:a.eval (aj 76)=L yo yn yc:=seen.at_ ⟨8,.data⟩ (by simp) rfl (ay (by decide));exact aQ rfl rfl (Rw.iq a.eval _ (aj 76) 34 44 rfl e76 rfl _ (fG Tryz.func44 rfl rfl _ _)) (jJ (yo,yn,yc) p x (HP.out.on hb) LP.out) fun e w1 h=>by
    obtain⟨⟨s,rfl,h1⟩,h3⟩:=h;exact⟨_,rfl,hK _ _ ⟨s,rfl,dH h1 hb.size⟩ (h3.mono hb.size) fun j u hj _ _ _ hne h=>o9 j u _ _ h h3⟩
  ·cases ho;have e69:a.eval (aj 69)=L (X ⟨g,0,ah⟩) n cap:=seen.at_ ⟨1,.data⟩ (by simp) rfl (ay (by decide));have e70:a.eval (aj 70)=ak au (k:Int):=seen.at_ ⟨2,.data⟩ (by simp) rfl (ay (by decide));exact aB rfl rfl (aO a.eval _ 28 (aj 69) (aj 70) rfl (by rw [e69,e70]; exact IX.out x)) (hK _ _ rfl (O _ _) fun _ _ _ _ _ _ _ h=>h)
  ·cases ho;have e78:a.eval (aj 78)=J (X ⟨g,k * 3,ah⟩):=seen.at_ ⟨10,.data⟩ (by simp) rfl (ay (by decide));exact aB rfl rfl (aI a.eval _ 88 (aj 78) 1 rfl (by rw [e78]; simp [go_sem])) (hK _ _ rfl (O _ _) fun _ _ _ _ _ _ _ h=>h)
 ·intro kk o h1 h2 ho;omega
 ·intro a w' df sz kp ⟨vs,hv⟩ hb;have sz':a.tmps.size=82:=sz;have g79:a.tmps[79]?=X (J (X ⟨g,k * 3+2,ah⟩)):=by
   have h:vs 11=J (X ⟨g,k * 3+2,ah⟩):=(hv 11 (by omega)).2 (by decide);rw [<- h];exact (hv 11 (by omega)).1
  obtain⟨⟨s1,s2,s3⟩,hs,hc⟩:=(hv 9 (by omega)).2 (by decide);have g77:a.tmps[77]?=X (L s1 s2 s3):=((hv 9 (by omega)).1).trans (congrArg X hs);rw [hs] at hc;obtain⟨w2,hr,st1,st2,UF⟩:=Rq (k:=k) s1 s2 s3 (Bk.dI HO.out hb) HY.out;obtain⟨cur,hg⟩:=gX (Bk.dI HO.out hb);show aM _ _ _ 1 12 a w';simp only [aM];refine aR 34 (aj 79) (aj 77) rfl rfl rfl rfl (aL g79) (aL g77) (w':=w2) hr ?_;have wL:∀ j,(j<68\/80<=j)->(a).tmps[j]?=(u0::J (X ⟨b1,0,ah⟩)::u2::u3::u4::ak au (k:Int)::u6::u7::u8::u9::u10::u11::u12::u13::u14::u15::u16::u17::u18::u19::u20::u21::u22::u23::u24::u25::u26::u27::u28::u29::u30::u31::u32::u33::u34::u35::u36::u37::u38::u39::u40::u41::u42::u43::u44::u45::u46::u47::u48::u49::u50::u51::u52::u53::u54::u55::u56::u57::u58::u59::u60::u61::u62::u63::u64::u65::u66::u67::u68::u69::u70::u71::u72::u73::u74::u75::u76::u77::u78::u79::u80::u81::[])[j]?:=fun j hj=>(kp j (nd j (by omega))).trans U;obtain⟨mid,hmid,hfr⟩:=aU (a:=a) 68 12 df (by simp [sz']) (by simp) wL;show Q .normal (a) _;rw [hfr]
  match mid,hmid with
  | [v68,v69,v70,v71,v72,v73,v74,v75,v76,v77,v78,v79],_ =>
   exact HQ.out _ _ _ _ _ _ _ _ _ _ _ _ _ s1 s2 s3 (st2.own hc hg (by decide)) st1 ((But.of_below hb).trans st2) fun B1 hB hl=>UF B1 W hB (hb.mono hl)
def fH (l:List Ad) (x:dO):Option Ad:=l.find? fun a=>decide (a.id=x)
theorem uO {l:List Ad} {x:dO} (h:∀ (j:Nat) (a:Ad),l[j]?=X a->a.id≠x):fH l x=ah:=by
 unfold fH;rw [List.find?_eq_none];intro a ha;obtain⟨j,hj⟩:=List.mem_iff_getElem?.1 ha;simpa using h j a hj
theorem qD:∀ {l:List Ad} {x:dO} {k:Nat} {a:Ad},l[k]?=X a->a.id=x->(∀ (j:Nat) (z:Ad),j<k->l[j]?=X z->z.id≠x)->fH l x=X a
 | [],_,_,_,h,_,_=>by simp at h
 | b::l,x,0,a,h,hx,_=>by
  obtain rfl:b=a:=by simpa using h
  simp [fH,hx]
 | b::l,x,k+1,a,h,hx,hall=>by
  have hb:=hall 0 b (by omega) rfl;have ih:=qD (l:=l) (x:=x) (k:=k) (a:=a) (by simpa using h) hx fun j z hj hz=>hall (j+1) z (by omega) (by simpa using hz);unfold fH at *;rw [List.find?_cons_of_neg (by simpa using hb)];exact ih
def UH (W:aD) (o:Option Ad) (w:aD) (e:Ending) (w':aD):Prop:=(match o with
 | none=>e=.returned (.tuple #[kR (0,0,(ah,0,0),0),aV false])
 | some a=>∃ r:jD,e=.returned (.tuple #[kR r,aV true])/\y9 w' r a)/\Below W.heap.size w w'
theorem AA (me:Int) (nv sv ev ov:aC) (av:Sl) (l:List jD) (al:List Ad) (x:dO) (w:aD) (hs:CZ w (dN av) l) (hA:eG (y9 w) l al) (hf:∀ a∈al,a.p.length<=900) :
  Calls Tryz.prog 116 #[.agg #[ak au me,nv,dN av,sv,ev,ov],pK x] w (UH w (fH al x) w):=by
 obtain⟨c,d⟩:=x;obtain⟨so,sn,sc⟩:=av;obtain⟨ao,ac,hv⟩:=hs.len;have hv:L so sn sc=L ao l.length ac:=hv;obtain⟨rfl,rfl,rfl⟩:so=ao/\sn=l.length/\sc=ac:=by simpa using hv
 obtain⟨h0,h1,h2⟩:=iO w #[ak au me,nv,L so l.length sc,sv,ev,ov] #[ak au c,ak au d] 30 23;have h3:=iM ((w.alloc (aF #[ak au me,nv,L so l.length sc,sv,ev,ov] 30)).alloc (aF #[ak au c,ak au d] 23)) (aF #[ak au 0,ak au 0,L ah 0 0,ak au 0] 36);have h4:=dK ((w.alloc (aF #[ak au me,nv,L so l.length sc,sv,ev,ov] 30)).alloc (aF #[ak au c,ak au d] 23)) #[ak au 0,ak au 0,L ah 0 0,ak au 0] 36;have hsz:((w.alloc (aF #[ak au me,nv,L so l.length sc,sv,ev,ov] 30)).alloc (aF #[ak au c,ak au d] 23)).heap.size=w.heap.size+1+1:=by simp
 rw [hsz] at h4;have B:=V (h0.trans (h3.mono h0.size));have HS:=V (hs.on B.out);have HA:=V (hA.mono fun _ _ h=>h.on B.out);have X2:=V (h1.on h3);have X3:=V (h2.on h3);have X4:=V h4;have HF:=V hf;have lm:=hs.most;unfold maxLen at lm;obtain⟨n,hn⟩:∃ n,n=l.length:=⟨_,rfl⟩;have q3:=X2.out.cell 2;simp only [U,Y,Z] at q3;rw [<- hn] at HS X2 X3 X4 HA lm q3 B ⊢;have HN:=V hn.symm;obtain⟨fo,hfo⟩:∃ o,o=fH al (c,d):=⟨_,rfl⟩;rw [<- hfo];have FO:=V hfo;clear h0 h1 h2 h3 h4 hs hv hn hA hf hsz hfo;go_enter Tryz.func116,Tryz.ntmps116;go_upto_region 1 with fail;generalize ((w.alloc (aF #[ak au me,nv,L so n sc,sv,ev,ov] 30)).alloc (aF #[ak au c,ak au d] 23)).alloc (aF #[ak au 0,ak au 0,L ah 0 0,ak au 0] 36)=W at *;go_wp2
 go_loopw [11] (fun i wr=>∃ k:Nat,k<=n/\i=ak au k/\Below W.heap.size W wr/\∀ (j:Nat) (y:jD),j<k->l[j]?=X y->(y.1,y.2.1)≠(c,d)) (fun i _=>n-(intOf i).toNat)
 case atStart=>exact⟨0,Nat.zero_le _,rfl,O _ _,fun j y h=>by omega⟩
 case round =>
  obtain⟨k,hk,rfl,hbe,hall⟩:=hrel;have BE:=V hbe;have AL:=V hall;clear hbe hall;by_cases hlt:k<n
  ·obtain⟨y,hy⟩:∃ y,l[k]?=X y:=⟨_,aH (by rw [HN.out]; exact hlt)⟩;obtain⟨p,ix,px⟩:=Ul HS.out rfl HN.out hy;obtain⟨p0,p1,p2,p3⟩:=px wr BE.out;obtain⟨y1,y2,⟨yo,yn,yc⟩,y4⟩:=y;simp only at p0 p1 p2 p3;have NB:=V (iM wr (aF #[ak au y1,ak au y2,L yo yn yc,ak au y4] 36));obtain⟨x0,x1⟩:=((X3.out.on BE.out).on NB.out).cs2;have hw3:IntKind.i64.wrap ((k:Int)+1)=(k:Int)+1:=IntWalk.i64_in _ (by omega);obtain⟨r,hr⟩:∃ r,(y1 == c && y2 == d)=r:=⟨_,rfl⟩;have he:=wI y1 y2 c d r hr;have HY:=V hy;have HR:=V hr;clear px hy hr;cases r
   ·go_wp2
    go_roundw
    case rel=>exact⟨k+1,by omega,by go_num,BE.out.trans (NB.out.mono BE.out.size),fun j y' hj h1=>by
     rcases Nat.lt_or_ge j k with h3|h3
     ·exact AL.out j y' h3 h1
     ·obtain rfl:j=k:=by omega
      have e1:=HY.out;rw [h1] at e1;rw [Option.some.inj e1];intro e;obtain⟨rfl,rfl⟩:y1=c/\y2=d:=by simpa using e
      have:=HR.out;simp at this⟩
    case measure=>simp [intOf]; omega
   ·obtain⟨a,ha⟩:∃ a,al[k]?=X a:=⟨_,aH (by rw [<- HA.out.len,HN.out]; exact hlt)⟩;obtain⟨z,hz1,hz2⟩:=HA.out.at k a ha;rw [HY.out] at hz1;obtain rfl:=Option.some.inj hz1;have BA:=V (BE.out.trans (NB.out.mono BE.out.size));have C:=V (uH (y1,y2,(yo,yn,yc),y4) a.p _ (hz2.2.2.on BA.out) (HF.out a (List.mem_of_getElem? ha)));have HZ:=V hz2;have h8:=HR.out;obtain⟨rfl,rfl⟩:y1=c/\y2=d:=by simpa using h8
    have FA:=V (show fo=X a by
     rw [FO.out];refine qD ha hz2.1.symm fun j z hj hzz=>?_;obtain⟨u,hu1,hu2⟩:=HA.out.at j z hzz;rw [<- hu2.1];exact AL.out j u hj hu1)
    have XW:=(X4.out.on BE.out).on NB.out;clear hz1 hz2 ha h8;go_wp2_with fail;refine C.out.mono ?_;rintro e w1 ⟨⟨⟨u1,u2,u3⟩,rfl,ho⟩,hb⟩;have Y1:=XW.on hb;have B1:=V (BA.out.trans (hb.mono BA.out.size));obtain⟨r0,r1,r2,r3⟩:=Y1.EM;obtain⟨t0,t1,t2,t3⟩:=Y1.XH;have zz:=Y1.lt;have hs2:w.heap.size+1+1<(wr.alloc (aF #[ak au y1,ak au y2,L yo yn yc,ak au y4] 36)).heap.size:=XW.lt;have FB:=V (uG Y1 (ak au y1) (ak au y2) (L u1 u2 u3) (ak au y4));have BL:=V (qb (b:=w.heap.size+1+1) (B.out.trans (B1.out.mono B.out.size)) (by omega) (ak au y1) (ak au y2) (L u1 u2 u3) (ak au y4));have FW:=V (Am ho (w.heap.size+1+1) hs2 (ak au y1) (ak au y2) (L u1 u2 u3) (ak au y4));clear Y1 ho hb hs2 XW;go_wp2_with fail;obtain⟨v0,v1,v2,v3⟩:=FB.out.EM;refine bodyPost_ret (v:=.tuple #[.agg #[ak au y1,ak au y2,L u1 u2 u3,ak au y4],aV true]) (by simp [results,Tryz.results116,go_sem,v0,v1,v2,v3]) rfl ?_;rw [FA.out];exact⟨⟨(y1,y2,(u1,u2,u3),y4),rfl,HZ.out.1,HZ.out.2.1,Row.dB FW.out⟩,BL.out⟩
  ·obtain rfl:k=n:=by omega
   have FA:=V (show fo=ah by
    rw [FO.out];refine uO fun j z hzz=>?_;obtain⟨u,hu1,hu2⟩:=HA.out.at j z hzz;rw [<- hu2.1];exact AL.out j u (by rw [<- HN.out]; exact (aA.1 hu1).1) hu1)
   have Y1:=X4.out.on BE.out;obtain⟨r0,r1,r2,r3⟩:=Y1.EM;obtain⟨t0,t1,t2,t3⟩:=Y1.XH;have zz:=Y1.lt;have FB:=V (uG Y1 (ak au 0) (ak au 0) (L ah 0 0) (ak au 0));have BL:=V (qb (b:=w.heap.size+1+1) (B.out.trans (BE.out.mono B.out.size)) (by omega) (ak au 0) (ak au 0) (L ah 0 0) (ak au 0));clear Y1;go_wp2_with fail;obtain⟨v0,v1,v2,v3⟩:=FB.out.EM;refine bodyPost_ret (v:=.tuple #[.agg #[ak au 0,ak au 0,L ah 0 0,ak au 0],aV false]) (by simp [results,Tryz.results116,go_sem,v0,v1,v2,v3]) rfl ?_;rw [FA.out];exact⟨rfl,BL.out⟩
end Av
namespace Bk
open Go.RowKit Go.Sort Rw YtghlpefopidlaaaGreat.Nm
end Bk
namespace Rl
open Go.RowKit Pu Rw Pr Va
end Rl
namespace Bk
open Go.RowKit Go.Sort Rw YtghlpefopidlaaaGreat.Nm Pr
end Bk
end Go.Proofs.YtghlpefopidlaaaGreat
