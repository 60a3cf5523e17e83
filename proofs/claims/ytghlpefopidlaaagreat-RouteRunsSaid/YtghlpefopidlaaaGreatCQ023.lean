/-
  The region of Copy i. Conditions as told.
-/
import Derived.Test.YtghlpefopidlaaaGreatCQ014
import Derived.Test.YtghlpefopidlaaaGreatCQ015
import Derived.Test.YtghlpefopidlaaaGreatCQ016
import Derived.Test.YtghlpefopidlaaaGreatCQ022
import Derived.Test.YtghlpefopidlaaaGreatCQ020
set_option maxRecDepth 100000
set_option maxHeartbeats 64000000
open _root_.Go renaming Value->aG,World->aH,Addr->aX,Calls->bf
open Go.IntKind renaming i64->au
open Go.Lib renaming hid->L,compact->aj,compactUpTo->aF
open Go.Obj renaming cells->aJ
open Go.Operand renaming tmp->aC
open Go.Proofs.Tryz renaming prog->aL,results86->aY,sortI->aZ,cptI->bg
open Go.RowKit.Below renaming refl->ak,heap_setCell->aN
open Go.Sort renaming ahead->aD
open Go.Value renaming slice->J,pointer->O,int->V,string->ay
open _root_.List renaming getElem?_toArray->Z,getElem?_cons_zero->aA,getElem?_cons_succ->aB,replicate->aM,length_map->aQ,getElem?_take->aS,mem_singleton->aT,length_append->aU,getElem?_map->aW
open _root_.Nat renaming le_refl->aK,lt_or_ge->aO,le_trans->aP,mul_le_mul_right->aR,le_of_lt->aV
open _root_.Option renaming none->U,some->ah
open _root_.Or renaming inr->aI
namespace Go.Proofs.YtghlpefopidlaaaGreat
namespace Av
open Go.RowKit Go.Sort Rw YtghlpefopidlaaaGreat.Nm Pr Bk
def Ie (B:Nat) (b1:Nat) (_me:Int) (_z2 _z4 _z5:aG) (o1:Option aX) (n1 c1:Nat) (nl:List Int) (o3:Option aX) (n3 c3:Nat) (sl:List dQ) (i:Nat) (v:aG) (x:aH):Prop :=
 match i with
 | 0=>v=O (ah ⟨b1,1,U⟩)
 | 1=>v=J o1 n1 c1
 | 2=>∃ s:Sl,v=dH s/\qB x B v nl
 | 3=>v=O (ah ⟨b1,3,U⟩)
 | 4=>v=J o3 n3 c3
 | 5=>∃ s:Sl,v=dH s/\wm x B v sl
 | 6=>v=O (ah ⟨b1,1,U⟩)
 | _=>True
noncomputable def MZ:Code:=((Tryz.f33.body.bind (eu 1)).getD .skip)
theorem Ig (B:Nat) (b1:Nat) (me:Int) (z2 z4 z5:aG) (o1:Option aX) (n1 c1:Nat) (nl:List Int) (o3:Option aX) (n3 c3:Nat) (sl:List dQ) (i:Nat) (v:aG) (x x':aH) (h:Ie B b1 me z2 z4 z5 o1 n1 c1 nl o3 n3 c3 sl i v x) (hb:Below x.heap.size x x'):Ie B b1 me z2 z4 z5 o1 n1 c1 nl o3 n3 c3 sl i v x':=by
 by_cases hi:i<7
 ·rcases (by omega:i=0\/i=1\/i=2\/i=3\/i=4\/i=5\/i=6) with rfl|rfl|rfl|rfl|rfl|rfl|rfl
  ·exact h
  ·exact h
  ·obtain⟨s,h1,h2⟩:=h; exact⟨s,h1,Bk.dw h2 hb⟩
  ·exact h
  ·exact h
  ·obtain⟨s,h1,h2⟩:=h; exact⟨s,h1,Bk.dw h2 hb⟩
  ·exact h
 ·unfold Ie
  split <;> first | omega | trivial
theorem Te (Q:Exit->Act->aH->Prop) (W:aH) (b1:Nat) (me:Int) (z2 z4 z5:aG) (o1:Option aX) (n1 c1:Nat) (nl:List Int) (o3:Option aX) (n3 c3:Nat) (sl:List dQ) (u0 u2 u3 u4 u5 u6 u7 u8 u9 u10 u11 u12 u13 u14 u15 u16 u17 u18 u19 u20 u21 u22 u23 u24 u25 u26 u27 u28 u29 u30 u31 u32 u33 u34 u35 u36 u37 u38 u39 u40 u41 u42 u43 u44 u45 u46 u47 u48 u49 u50 u51 u52 u53 u54 u55 u56 u57 u58 u59 u60 u61 u62 u63 u64 u65 u66 u67 u68 u69 u70 u71 u72 u73 u74 u75 u76 u77 u78 u79 u80 u81:aG)
  (h1:cZ W b1 #[V au me,J o1 n1 c1,z2,J o3 n3 c3,z4,z5] 30) (r1:Ao W (J o1 n1 c1) nl) (r3:uP W (J o3 n3 c3) sl) (l1:nl.length<=900) (l3:sl.length<=900)
  (hQ:∀ (x:aH) (v6 v7 v8 v9 v10 v11 v12 v13:aG) (p1:Option aX) (q1 s1:Nat) (p3:Option aX) (q3 s3:Nat),cZ x b1 #[V au me,J p1 q1 s1,z2,J p3 q3 s3,z4,z5] 30->qB x W.heap.size (J p1 q1 s1) nl->wm x W.heap.size (J p3 q3 s3) sl->(∀ B,B<=b1->Below B W x)->(∀ k,k<W.heap.size->k≠b1->x.heap[k]?=W.heap[k]?)->Q .normal ⟨(u0::O (ah ⟨b1,0,U⟩)::u2::u3::u4::u5::v6::v7::v8::v9::v10::v11::v12::v13::u14::u15::u16::u17::u18::u19::u20::u21::u22::u23::u24::u25::u26::u27::u28::u29::u30::u31::u32::u33::u34::u35::u36::u37::u38::u39::u40::u41::u42::u43::u44::u45::u46::u47::u48::u49::u50::u51::u52::u53::u54::u55::u56::u57::u58::u59::u60::u61::u62::u63::u64::u65::u66::u67::u68::u69::u70::u71::u72::u73::u74::u75::u76::u77::u78::u79::u80::u81::[]).toArray,[]⟩ x) :
  Code.wp aL MZ Q ⟨(u0::O (ah ⟨b1,0,U⟩)::u2::u3::u4::u5::u6::u7::u8::u9::u10::u11::u12::u13::u14::u15::u16::u17::u18::u19::u20::u21::u22::u23::u24::u25::u26::u27::u28::u29::u30::u31::u32::u33::u34::u35::u36::u37::u38::u39::u40::u41::u42::u43::u44::u45::u46::u47::u48::u49::u50::u51::u52::u53::u54::u55::u56::u57::u58::u59::u60::u61::u62::u63::u64::u65::u66::u67::u68::u69::u70::u71::u72::u73::u74::u75::u76::u77::u78::u79::u80::u81::[]).toArray,[]⟩ W:=by
 have HQ:=L hQ;have H1:=L h1;have R1:=L r1;have R3:=L r3;have L1:=L l1;have L3:=L l3;clear hQ h1 r1 r3 l1 l3;have mE:=Ig W.heap.size b1 me z2 z4 z5 o1 n1 c1 nl o3 n3 c3 sl;unfold MZ
 conv=>arg 2; whnf
 have nd:∀ j,(j<6\/13<=j)->∀ i,i<7->(fun i=>6+i) i≠j:=by
  intro j hj i hi h;simp only at h;omega
 refine Rg.gX 10 7 (fun i=>6+i) (fun _=>7) (Ie W.heap.size b1 me z2 z4 z5 o1 n1 c1 nl o3 n3 c3 sl) (by kernel_rfl) (by kernel_rfl) rfl (by decide) (fun i j _ _ h=>by have h2:6+i=6+j:=h; omega) (fun i hi=>by show 6+i<82; omega) ?_ (fun _=>Rg.kK 14 (by kernel_rfl)) ?_ ?_
 ·intro i o hi ho a x D hnd hc hD hb seen K hK;clear HQ;rcases (by omega:i=0\/i=1\/i=2\/i=3\/i=4\/i=5\/i=6) with rfl|rfl|rfl|rfl|rfl|rfl|rfl
  ·cases ho;have e1:a.eval (aC 1)=O (ah ⟨b1,0,U⟩):=seen.kp 1 _ (nd 1 (by omega)) rfl;exact Rg.cO rfl rfl (Rg.dR a.eval _ 30 (aC 1) 1 rfl (by rw [e1]; simp [go_sem])) (hK _ _ rfl (ak _ _) fun _ _ _ _ _ _ _ h=>h)
  ·cases ho;have e6:a.eval (aC 6)=O (ah ⟨b1,1,U⟩):=seen.at_ ⟨0,.data⟩ (by simp) rfl (aI (by decide));have y1:=(H1.out.on hb).cell 1;simp only [Z,aA,aB] at y1;exact Rg.cO rfl rfl (Rg.dX a.eval _ 24 (aC 6) rfl (by rw [e6]; simp [go_sem,y1])) (hK _ _ rfl (ak _ _) fun _ _ _ _ _ _ _ h=>h)
  ·cases ho;have e7:a.eval (aC 7)=J o1 n1 c1:=seen.at_ ⟨1,.data⟩ (by simp) rfl (aI (by decide));exact Rg.fO rfl rfl (Rw.gq a.eval _ (aC 7) 24 39 rfl e7 rfl _ (fu Tryz.func39 rfl rfl _ _)) (qG (o1,n1,c1) nl x (R1.out.on hb) L1.out) fun e w1 h=>by
    obtain⟨⟨s,rfl,h1⟩,h3⟩:=h;exact⟨_,rfl,hK _ _ ⟨s,rfl,dn h1 hb.size⟩ (h3.mono hb.size) fun j u hj _ _ _ hne h=>mE j u _ _ h h3⟩
  ·cases ho;have e1:a.eval (aC 1)=O (ah ⟨b1,0,U⟩):=seen.kp 1 _ (nd 1 (by omega)) rfl;exact Rg.cO rfl rfl (Rg.dR a.eval _ 30 (aC 1) 3 rfl (by rw [e1]; simp [go_sem])) (hK _ _ rfl (ak _ _) fun _ _ _ _ _ _ _ h=>h)
  ·cases ho;have e9:a.eval (aC 9)=O (ah ⟨b1,3,U⟩):=seen.at_ ⟨3,.data⟩ (by simp) rfl (aI (by decide));have y3:=(H1.out.on hb).cell 3;simp only [Z,aA,aB] at y3;exact Rg.cO rfl rfl (Rg.dX a.eval _ 26 (aC 9) rfl (by rw [e9]; simp [go_sem,y3])) (hK _ _ rfl (ak _ _) fun _ _ _ _ _ _ _ h=>h)
  ·cases ho;have e10:a.eval (aC 10)=J o3 n3 c3:=seen.at_ ⟨4,.data⟩ (by simp) rfl (aI (by decide));exact Rg.fO rfl rfl (Rw.gq a.eval _ (aC 10) 26 99 rfl e10 rfl _ (fu Tryz.func99 rfl rfl _ _)) (yC (o3,n3,c3) sl x (R3.out.on hb) L3.out) fun e w1 h=>by
    obtain⟨⟨s,rfl,h1⟩,h3⟩:=h;exact⟨_,rfl,hK _ _ ⟨s,rfl,dn h1 hb.size⟩ (h3.mono hb.size) fun j u hj _ _ _ hne h=>mE j u _ _ h h3⟩
  ·cases ho;have e1:a.eval (aC 1)=O (ah ⟨b1,0,U⟩):=seen.kp 1 _ (nd 1 (by omega)) rfl;exact Rg.cO rfl rfl (Rg.dR a.eval _ 30 (aC 1) 1 rfl (by rw [e1]; simp [go_sem])) (hK _ _ rfl (ak _ _) fun _ _ _ _ _ _ _ h=>h)
 ·intro kk o h1 h2 ho;rcases (by omega:kk=8\/kk=9) with rfl|rfl
  ·cases ho;exact⟨⟨7,.phase⟩,by simp,rfl,rfl⟩
  ·cases ho;exact⟨⟨8,.data⟩,by simp,rfl,rfl⟩
 ·intro a w' df sz kp ⟨vs,hv⟩ hb;have sz':a.tmps.size=82:=sz;have g1:a.tmps[1]?=ah (O (ah ⟨b1,0,U⟩)):=(kp 1 (nd 1 (by omega))).trans rfl;have g12:a.tmps[12]?=ah (O (ah ⟨b1,1,U⟩)):=by
   have h:vs 6=O (ah ⟨b1,1,U⟩):=(hv 6 (by omega)).2 (by decide);rw [<- h];exact (hv 6 (by omega)).1
  obtain⟨⟨p1,q1,s1⟩,hs1,ho1⟩:=(hv 2 (by omega)).2 (by decide);have g8:a.tmps[8]?=ah (J p1 q1 s1):=((hv 2 (by omega)).1).trans (congrArg ah hs1);rw [hs1] at ho1;obtain⟨⟨p3,q3,s3⟩,hs3,ho3⟩:=(hv 5 (by omega)).2 (by decide);have g11:a.tmps[11]?=ah (J p3 q3 s3):=((hv 5 (by omega)).1).trans (congrArg ah hs3);rw [hs3] at ho3;have hB:=H1.out.on hb;have hlt:=H1.out.lt;show Rg.fT _ _ _ 3 7 a w';simp only [Rg.fT];have Rs:=hB.cell 1;have Tf:=hB.fr 1;simp only [Z,aA,aB] at Rs;refine Rg.fM 24 (aC 12) (aC 8) rfl rfl rfl rfl (Rg.dD g12) (Rg.dD g8) (w':=(w').setCell ⟨b1,1,U⟩ (J p1 q1 s1)) (by simp [go_sem,Rs,Tf]) ?_;have hB1:cZ ((w').setCell ⟨b1,1,U⟩ (J p1 q1 s1)) b1 #[V au me,J p1 q1 s1,z2,J o3 n3 c3,z4,z5] 30:=by simpa using dL (k:=1) hB (J p1 q1 s1)
  refine Rg.cO rfl rfl (Rg.dR _ _ 30 (aC 1) 3 rfl (v:=O (ah ⟨b1,3,U⟩)) (by rw [Rg.dD g1]; simp [go_sem])) ?_;have Qc:((a).put (ah 13) (O (ah ⟨b1,3,U⟩))).tmps[13]?=ah (O (ah ⟨b1,3,U⟩)):=by simp [Act.put,sz']
  show Go.wpOp _ _ _ 9 _ ((a).put (ah 13) (O (ah ⟨b1,3,U⟩))) _;have Ru:=hB1.cell 3;have Tg:=hB1.fr 3;simp only [Z,aA,aB] at Ru;refine Rg.fM 26 (aC 13) (aC 11) rfl rfl rfl rfl (Rg.dD Qc) (Rg.dD ((Rg.get_put _ 13 _ 11 (by decide)).trans g11)) (w':=((w').setCell ⟨b1,1,U⟩ (J p1 q1 s1)).setCell ⟨b1,3,U⟩ (J p3 q3 s3)) (by simp [go_sem,Ru,Tg]) ?_;have hB3:cZ (((w').setCell ⟨b1,1,U⟩ (J p1 q1 s1)).setCell ⟨b1,3,U⟩ (J p3 q3 s3)) b1 #[V au me,J p1 q1 s1,z2,J p3 q3 s3,z4,z5] 30:=by simpa using dL (k:=3) hB1 (J p3 q3 s3)
  have uY:∀ j,(j<6\/14<=j)->((a).put (ah 13) (O (ah ⟨b1,3,U⟩))).tmps[j]?=(u0::O (ah ⟨b1,0,U⟩)::u2::u3::u4::u5::u6::u7::u8::u9::u10::u11::u12::u13::u14::u15::u16::u17::u18::u19::u20::u21::u22::u23::u24::u25::u26::u27::u28::u29::u30::u31::u32::u33::u34::u35::u36::u37::u38::u39::u40::u41::u42::u43::u44::u45::u46::u47::u48::u49::u50::u51::u52::u53::u54::u55::u56::u57::u58::u59::u60::u61::u62::u63::u64::u65::u66::u67::u68::u69::u70::u71::u72::u73::u74::u75::u76::u77::u78::u79::u80::u81::[])[j]?:=fun j hj=>(Rg.get_put _ 13 _ j (by omega)).trans ((kp j (nd j (by omega))).trans Z);obtain⟨mid,hmid,hfr⟩:=Rg.gL (a:=(a).put (ah 13) (O (ah ⟨b1,3,U⟩))) 6 8 df (by simp [Rg.size_put,sz']) (by simp) uY;show Q .normal ((a).put (ah 13) (O (ah ⟨b1,3,U⟩))) _;rw [hfr]
  match mid,hmid with
  | [v6,v7,v8,v9,v10,v11,v12,v13],_ =>
   exact HQ.out _ _ _ _ _ _ _ _ _ p1 q1 s1 p3 q3 s3 hB3 (dN (dN ho1 b1 1 (J p1 q1 s1) hlt) b1 3 (J p3 q3 s3) hlt) (dN (dN ho3 b1 1 (J p1 q1 s1) hlt) b1 3 (J p3 q3 s3) hlt) (fun B hBl=>(((hb.mono (aV (Nat.lt_of_le_of_lt hBl hlt))).setCell (p:=⟨b1,1,U⟩) hBl (J p1 q1 s1)).setCell (p:=⟨b1,3,U⟩) hBl (J p3 q3 s3))) (fun k hk hne=>((aN ((w').setCell ⟨b1,1,U⟩ (J p1 q1 s1)) ⟨b1,3,U⟩ (J p3 q3 s3) k hne).trans ((aN (w') ⟨b1,1,U⟩ (J p1 q1 s1) k hne).trans (hb.block k hk))))
def zQ (B:Nat) (b1:Nat) (_me:Int) (_z1 _z2 _z3 _z5:aG) (g n cap k:Nat) (_y1 _y2 _y3 _y4:Int) (yo:Option aX) (yn yc:Nat) (_y6:Int) (_y7:Bool) (p:List C5) (i:Nat) (v:aG) (x:aH):Prop :=
 match i with
 | 0=>v=O (ah ⟨b1,4,U⟩)
 | 1=>v=J (ah ⟨g,0,U⟩) n cap
 | 2=>v=V au (k:Int)
 | 3=>v=O (ah ⟨b1,4,U⟩)
 | 4=>v=J (ah ⟨g,0,U⟩) n cap
 | 5=>v=V au (k:Int)
 | 6=>v=O (ah ⟨g,k * 7,U⟩)
 | 7=>v=O (ah ⟨g,k * 7+4,U⟩)
 | 8=>v=J yo yn yc
 | 9=>∃ s:Sl,v=dH s/\fV x B v p
 | 10=>v=O (ah ⟨g,k * 7,U⟩)
 | 11=>v=O (ah ⟨g,k * 7+4,U⟩)
 | _=>True
noncomputable def Jo:Code:=((Tryz.f33.body.bind (eu 11)).getD .skip)
theorem Er (B:Nat) (b1:Nat) (me:Int) (z1 z2 z3 z5:aG) (g n cap k:Nat) (y1 y2 y3 y4:Int) (yo:Option aX) (yn yc:Nat) (y6:Int) (y7:Bool) (p:List C5) (i:Nat) (v:aG) (x x':aH) (h:zQ B b1 me z1 z2 z3 z5 g n cap k y1 y2 y3 y4 yo yn yc y6 y7 p i v x) (hb:Below x.heap.size x x'):zQ B b1 me z1 z2 z3 z5 g n cap k y1 y2 y3 y4 yo yn yc y6 y7 p i v x':=by
 by_cases hi:i<12
 ·rcases (by omega:i=0\/i=1\/i=2\/i=3\/i=4\/i=5\/i=6\/i=7\/i=8\/i=9\/i=10\/i=11) with rfl|rfl|rfl|rfl|rfl|rfl|rfl|rfl|rfl|rfl|rfl|rfl
  ·exact h
  ·exact h
  ·exact h
  ·exact h
  ·exact h
  ·exact h
  ·exact h
  ·exact h
  ·exact h
  ·obtain⟨s,h1,h2⟩:=h; exact⟨s,h1,Bk.dw h2 hb⟩
  ·exact h
  ·exact h
 ·unfold zQ
  split <;> first | omega | trivial
theorem Qd (Q:Exit->Act->aH->Prop) (W:aH) (B0:Nat) (l:List iw) (b1:Nat) (me:Int) (z1 z2 z3 z5:aG) (g n cap k:Nat) (y1 y2 y3 y4:Int) (yo:Option aX) (yn yc:Nat) (y6:Int) (y7:Bool) (p:List C5) (u0 u2 u3 u5 u6 u7 u8 u9 u10 u11 u12 u13 u14 u15 u16 u17 u18 u19 u20 u21 u22 u23 u24 u25 u26 u27 u28 u29 u30 u31 u32 u33 u34 u35 u36 u37 u38 u39 u40 u41 u42 u43 u44 u45 u46 u47 u48 u49 u50 u51 u52 u53 u54 u55 u56 u57 u58 u59 u60 u61 u62 u63 u64 u65 u66 u67 u68 u69 u70 u71 u72 u73 u74 u75 u76 u77 u78 u79 u80 u81:aG)
  (h1:cZ W b1 #[V au me,z1,z2,z3,J (ah ⟨g,0,U⟩) n cap,z5] 30) (ho:iO W B0 (J (ah ⟨g,0,U⟩) n cap) l) (hy:l[k]?=ah (y1,y2,y3,y4,(yo,yn,yc),y6,y7)) (hp:fI W (J yo yn yc) p) (lp:p.length<=900)
  (hQ:∀ (x:aH) (v49 v50 v51 v52 v53 v54 v55 v56 v57 v58 v59 v60:aG) (s1:Option aX) (s2 s3:Nat),fV x W.heap.size (J s1 s2 s3) p->iO x B0 (J (ah ⟨g,0,U⟩) n cap) (l.set k (y1,y2,y3,y4,(s1,s2,s3),y6,y7))->But g W x->(∀ B1,B1<=g->B1<=W.heap.size->Below B1 W x)->Q .normal ⟨(u0::O (ah ⟨b1,0,U⟩)::u2::u3::V au (k:Int)::u5::u6::u7::u8::u9::u10::u11::u12::u13::u14::u15::u16::u17::u18::u19::u20::u21::u22::u23::u24::u25::u26::u27::u28::u29::u30::u31::u32::u33::u34::u35::u36::u37::u38::u39::u40::u41::u42::u43::u44::u45::u46::u47::u48::v49::v50::v51::v52::v53::v54::v55::v56::v57::v58::v59::v60::u61::u62::u63::u64::u65::u66::u67::u68::u69::u70::u71::u72::u73::u74::u75::u76::u77::u78::u79::u80::u81::[]).toArray,[]⟩ x) :
  Code.wp aL Jo Q ⟨(u0::O (ah ⟨b1,0,U⟩)::u2::u3::V au (k:Int)::u5::u6::u7::u8::u9::u10::u11::u12::u13::u14::u15::u16::u17::u18::u19::u20::u21::u22::u23::u24::u25::u26::u27::u28::u29::u30::u31::u32::u33::u34::u35::u36::u37::u38::u39::u40::u41::u42::u43::u44::u45::u46::u47::u48::u49::u50::u51::u52::u53::u54::u55::u56::u57::u58::u59::u60::u61::u62::u63::u64::u65::u66::u67::u68::u69::u70::u71::u72::u73::u74::u75::u76::u77::u78::u79::u80::u81::[]).toArray,[]⟩ W:=by
 have HQ:=L hQ;have H1:=L h1;have HO:=L ho;have HY:=L hy;have HP:=L hp;have LP:=L lp;have IX:=L (jX jI g k n cap (by obtain⟨_,_,hv⟩:=(Row.dx ho).len; have h:=(List.getElem?_eq_some_iff.1 hy).1; simp at hv; omega));have EL:=L (gI jI ho hy);clear hQ h1 ho hy hp lp;have mE:=Er W.heap.size b1 me z1 z2 z3 z5 g n cap k y1 y2 y3 y4 yo yn yc y6 y7 p;unfold Jo
 conv=>arg 2; whnf
 have nd:∀ j,(j<49\/61<=j)->∀ i,i<12->(fun i=>49+i) i≠j:=by
  intro j hj i hi h;simp only at h;omega
 refine Rg.gX 13 12 (fun i=>49+i) (fun _=>12) (zQ W.heap.size b1 me z1 z2 z3 z5 g n cap k y1 y2 y3 y4 yo yn yc y6 y7 p) (by kernel_rfl) (by kernel_rfl) rfl (by decide) (fun i j _ _ h=>by have h2:49+i=49+j:=h; omega) (fun i hi=>by show 49+i<82; omega) ?_ (fun _=>Rg.kK 14 (by kernel_rfl)) ?_ ?_
 ·intro i o hi ho a x D hnd hc hD hb seen K hK;clear HQ;rcases (by omega:i=0\/i=1\/i=2\/i=3\/i=4\/i=5\/i=6\/i=7\/i=8\/i=9\/i=10\/i=11) with rfl|rfl|rfl|rfl|rfl|rfl|rfl|rfl|rfl|rfl|rfl|rfl
  ·cases ho;have e1:a.eval (aC 1)=O (ah ⟨b1,0,U⟩):=seen.kp 1 _ (nd 1 (by omega)) rfl;exact Rg.cO rfl rfl (Rg.dR a.eval _ 30 (aC 1) 4 rfl (by rw [e1]; simp [go_sem])) (hK _ _ rfl (ak _ _) fun _ _ _ _ _ _ _ h=>h)
  ·cases ho;have e49:a.eval (aC 49)=O (ah ⟨b1,4,U⟩):=seen.at_ ⟨0,.data⟩ (by simp) rfl (aI (by decide));have y4:=(H1.out.on hb).cell 4;simp only [Z,aA,aB] at y4;exact Rg.cO rfl rfl (Rg.dX a.eval _ 27 (aC 49) rfl (by rw [e49]; simp [go_sem,y4])) (hK _ _ rfl (ak _ _) fun _ _ _ _ _ _ _ h=>h)
  ·cases ho;have e4:a.eval (aC 4)=V au (k:Int):=seen.kp 4 _ (nd 4 (by omega)) rfl;exact Rg.cO rfl rfl (Rg.iq a.eval _ (aC 4) rfl x) (hK _ _ e4 (ak _ _) fun _ _ _ _ _ _ _ h=>h)
  ·cases ho;have e1:a.eval (aC 1)=O (ah ⟨b1,0,U⟩):=seen.kp 1 _ (nd 1 (by omega)) rfl;exact Rg.cO rfl rfl (Rg.dR a.eval _ 30 (aC 1) 4 rfl (by rw [e1]; simp [go_sem])) (hK _ _ rfl (ak _ _) fun _ _ _ _ _ _ _ h=>h)
  ·cases ho;have e52:a.eval (aC 52)=O (ah ⟨b1,4,U⟩):=seen.at_ ⟨3,.data⟩ (by simp) rfl (aI (by decide));have y4:=(H1.out.on hb).cell 4;simp only [Z,aA,aB] at y4;exact Rg.cO rfl rfl (Rg.dX a.eval _ 27 (aC 52) rfl (by rw [e52]; simp [go_sem,y4])) (hK _ _ rfl (ak _ _) fun _ _ _ _ _ _ _ h=>h)
  ·cases ho;have e4:a.eval (aC 4)=V au (k:Int):=seen.kp 4 _ (nd 4 (by omega)) rfl;exact Rg.cO rfl rfl (Rg.iq a.eval _ (aC 4) rfl x) (hK _ _ e4 (ak _ _) fun _ _ _ _ _ _ _ h=>h)
  ·cases ho;have e53:a.eval (aC 53)=J (ah ⟨g,0,U⟩) n cap:=seen.at_ ⟨4,.data⟩ (by simp) rfl (aI (by decide));have e54:a.eval (aC 54)=V au (k:Int):=seen.at_ ⟨5,.data⟩ (by simp) rfl (aI (by decide));exact Rg.cO rfl rfl (Rg.kg a.eval _ 27 (aC 53) (aC 54) rfl (by rw [e53,e54]; exact IX.out x)) (hK _ _ rfl (ak _ _) fun _ _ _ _ _ _ _ h=>h)
  ·cases ho;have e55:a.eval (aC 55)=O (ah ⟨g,k * 7,U⟩):=seen.at_ ⟨6,.data⟩ (by simp) rfl (aI (by decide));exact Rg.cO rfl rfl (Rg.dR a.eval _ 67 (aC 55) 2 rfl (by rw [e55]; simp [go_sem])) (hK _ _ rfl (ak _ _) fun _ _ _ _ _ _ _ h=>h)
  ·cases ho;have e56:a.eval (aC 56)=O (ah ⟨g,k * 7+4,U⟩):=seen.at_ ⟨7,.data⟩ (by simp) rfl (aI (by decide));have y:=EL.out x hb 4 _ rfl;simp [Addr.add,EN] at y;exact Rg.cO rfl rfl (Rg.dX a.eval _ 34 (aC 56) rfl (by rw [e56]; simp [go_sem,y])) (hK _ _ rfl (ak _ _) fun _ _ _ _ _ _ _ h=>h)
  ·cases ho;have e57:a.eval (aC 57)=J yo yn yc:=seen.at_ ⟨8,.data⟩ (by simp) rfl (aI (by decide));exact Rg.fO rfl rfl (Rw.gq a.eval _ (aC 57) 34 44 rfl e57 rfl _ (fu Tryz.func44 rfl rfl _ _)) (iW (yo,yn,yc) p x (HP.out.on hb) LP.out) fun e w1 h=>by
    obtain⟨⟨s,rfl,h1⟩,h3⟩:=h;exact⟨_,rfl,hK _ _ ⟨s,rfl,dn h1 hb.size⟩ (h3.mono hb.size) fun j u hj _ _ _ hne h=>mE j u _ _ h h3⟩
  ·cases ho;have e50:a.eval (aC 50)=J (ah ⟨g,0,U⟩) n cap:=seen.at_ ⟨1,.data⟩ (by simp) rfl (aI (by decide));have e51:a.eval (aC 51)=V au (k:Int):=seen.at_ ⟨2,.data⟩ (by simp) rfl (aI (by decide));exact Rg.cO rfl rfl (Rg.kg a.eval _ 27 (aC 50) (aC 51) rfl (by rw [e50,e51]; exact IX.out x)) (hK _ _ rfl (ak _ _) fun _ _ _ _ _ _ _ h=>h)
  ·cases ho;have e59:a.eval (aC 59)=O (ah ⟨g,k * 7,U⟩):=seen.at_ ⟨10,.data⟩ (by simp) rfl (aI (by decide));exact Rg.cO rfl rfl (Rg.dR a.eval _ 67 (aC 59) 2 rfl (by rw [e59]; simp [go_sem])) (hK _ _ rfl (ak _ _) fun _ _ _ _ _ _ _ h=>h)
 ·intro kk o h1 h2 ho;omega
 ·intro a w' df sz kp ⟨vs,hv⟩ hb;have sz':a.tmps.size=82:=sz;have g60:a.tmps[60]?=ah (O (ah ⟨g,k * 7+4,U⟩)):=by
   have h:vs 11=O (ah ⟨g,k * 7+4,U⟩):=(hv 11 (by omega)).2 (by decide);rw [<- h];exact (hv 11 (by omega)).1
  obtain⟨⟨s1,s2,s3⟩,hs,hc⟩:=(hv 9 (by omega)).2 (by decide);have g58:a.tmps[58]?=ah (J s1 s2 s3):=((hv 9 (by omega)).1).trans (congrArg ah hs);rw [hs] at hc;obtain⟨w2,hr,st1,st2,MR⟩:=KD (k:=k) s1 s2 s3 (Bk.dw HO.out hb) HY.out;obtain⟨cur,hg⟩:=fP (Bk.dw HO.out hb);show Rg.fT _ _ _ 1 12 a w';simp only [Rg.fT];refine Rg.fM 34 (aC 60) (aC 58) rfl rfl rfl rfl (Rg.dD g60) (Rg.dD g58) (w':=w2) hr ?_;have uY:∀ j,(j<49\/61<=j)->(a).tmps[j]?=(u0::O (ah ⟨b1,0,U⟩)::u2::u3::V au (k:Int)::u5::u6::u7::u8::u9::u10::u11::u12::u13::u14::u15::u16::u17::u18::u19::u20::u21::u22::u23::u24::u25::u26::u27::u28::u29::u30::u31::u32::u33::u34::u35::u36::u37::u38::u39::u40::u41::u42::u43::u44::u45::u46::u47::u48::u49::u50::u51::u52::u53::u54::u55::u56::u57::u58::u59::u60::u61::u62::u63::u64::u65::u66::u67::u68::u69::u70::u71::u72::u73::u74::u75::u76::u77::u78::u79::u80::u81::[])[j]?:=fun j hj=>(kp j (nd j (by omega))).trans Z;obtain⟨mid,hmid,hfr⟩:=Rg.gL (a:=a) 49 12 df (by simp [sz']) (by simp) uY;show Q .normal (a) _;rw [hfr]
  match mid,hmid with
  | [v49,v50,v51,v52,v53,v54,v55,v56,v57,v58,v59,v60],_ =>
   exact HQ.out _ _ _ _ _ _ _ _ _ _ _ _ _ s1 s2 s3 (st2.own hc hg (by decide)) st1 ((But.of_below hb).trans st2) fun B1 hB hl=>MR B1 W hB (hb.mono hl)
end Av
namespace Rl
open Go.RowKit Go.Sort Pu Rw Pr Va
abbrev z5:C5:=(⟨#[]⟩,0,0,0,⟨#[]⟩)
def KH:Option Cn->aG
 | some y=>.tuple #[cv (r5 y),.bool true]
 | none=>.tuple #[cv z5,.bool false]
theorem KI (pv:aG) (p:List Cn) (n:ByteArray) (w:aH) (hp:fI w pv (p.map r5)) (_h100:p.length<=100) :
  bf aL 86 #[pv,ay n] w fun e w'=>e=.returned (KH (GU p n))/\Below w.heap.size w w':=by
 have HP:=L hp;obtain⟨ao,ac,rfl⟩:=hp.len;rw [aQ] at HP ⊢;generalize hm:p.length=m at *;have HM:=L hm;clear hp hm;have B0:=L (show Below w.heap.size w (w.alloc (aJ #[ay ⟨#[]⟩,V au 0,V au 0,V au 0,ay ⟨#[]⟩] 91)) from (ak _ _).alloc (aK _) _);have Z0:=L (show cZ (w.alloc (aJ #[ay ⟨#[]⟩,V au 0,V au 0,V au 0,ay ⟨#[]⟩] 91)) w.heap.size (cells5 z5).toArray 91 from dG w _ _);go_enter Tryz.func86,Tryz.ntmps86;go_wp2;generalize w.alloc (aJ #[ay ⟨#[]⟩,V au 0,V au 0,V au 0,ay ⟨#[]⟩] 91)=w1 at B0 Z0 ⊢
 go_loopw [10] (fun i wr=>∃ k:Nat,k<=m/\i=V au k/\Below w.heap.size w wr/\cZ wr w.heap.size (cells5 z5).toArray 91/\∀ (j:Nat) (y:Cn),j<k->p[j]?=ah y->y.1≠n) (fun i _=>m-(intOf i).toNat)
 case atStart=>exact⟨0,Nat.zero_le _,rfl,B0.out,Z0.out,fun j y h=>by omega⟩
 case round =>
  obtain⟨k,hk,rfl,hb,ht,hall⟩:=hrel;have HB:=L hb;have HT:=L ht;have AL:=L hall;clear hb hall ht;by_cases hlt:k<m
  ·obtain⟨⟨xn,xk⟩,hx⟩:∃ x,p[k]?=ah x:=⟨_,List.getElem?_eq_getElem (by rw [HM.out]; exact hlt)⟩;obtain⟨q,ix,px⟩:=Ml (x:=r5 (xn,xk)) HP.out rfl (by rw [aQ]; exact HM.out) (by rw [aW,hx]; rfl);obtain⟨p0,p1,p2,p3,p4⟩:=px _ HB.out;have HX:=L hx;have B4:=L (HB.out.alloc HB.out.size (aJ #[ay xn,V au (kN xk),V au (mI xk),V au (mJ xk),ay (kT xk)] 91));have T4:=L (HT.out.more (aJ #[ay xn,V au (kN xk),V au (mI xk),V au (mJ xk),ay (kT xk)] 91));clear hx px;simp only [r5] at p0 p1 p2 p3 p4;by_cases he:xn=n
   ·have hn:(xn.toList == n.toList)=true:=by rw [he]; exact beq_self_eq_true _
    have R:=L (MP HX.out he AL.out);clear he;obtain⟨c0,c1,c2,c3,c4⟩:=fC HT.out;have f0:=HT.out.fr 0;have f1:=HT.out.fr 1;have f2:=HT.out.fr 2;have f3:=HT.out.fr 3;have f4:=HT.out.fr 4;have Qe:=HT.out.lt;simp only at c0 c1 c2 c3 c4;go_wp2;have T5:=(oU HT.out (xn,kN xk,mI xk,mJ xk,kT xk)).more (aJ #[ay xn,V au (kN xk),V au (mI xk),V au (mJ xk),ay (kT xk)] 91);have B5:=(gZ HB.out w.heap.size (aK _) (ay xn) (V au (kN xk)) (V au (mI xk)) (V au (mJ xk)) (ay (kT xk))).alloc (gZ HB.out w.heap.size (aK _) (ay xn) (V au (kN xk)) (V au (mI xk)) (V au (mJ xk)) (ay (kT xk))).size (aJ #[ay xn,V au (kN xk),V au (mI xk),V au (mJ xk),ay (kT xk)] 91);generalize World.alloc _ (aJ #[ay xn,V au (kN xk),V au (mI xk),V au (mJ xk),ay (kT xk)] 91)=w6 at T5 B5 ⊢;obtain⟨d0,d1,d2,d3,d4⟩:=fC T5;simp only at d0 d1 d2 d3 d4;refine bodyPost_ret (v:=KH (ah (xn,xk))) (by simp [results,aY,go_sem,d0,d1,d2,d3,d4,KH,r5]) rfl ⟨by rw [R.out],B5⟩
   ·have hn:(xn.toList == n.toList)=false:=by rw [beq_eq_false_iff_ne]; exact fun h=>he (nL h)
    have HE:=L he;clear he;go_wp2
    go_roundw
    case rel=>exact⟨k+1,by omega,by go_num,B4.out,T4.out,fun j y hj hy=>by
     rcases aO j k with h3|h3
     ·exact AL.out j y h3 hy
     ·obtain rfl:j=k:=by omega
      have e:=HX.out;rw [hy] at e;rw [Option.some.inj e];exact HE.out⟩
    case measure=>simp [intOf]; omega
  ·obtain rfl:k=m:=by omega
   have R:=L (Hz (p:=p) (n:=n) (fun j y hj hy=>AL.out j y (by rw [<- HM.out]; exact hj) hy));obtain⟨c0,c1,c2,c3,c4⟩:=fC HT.out;have f0:=HT.out.fr 0;have f1:=HT.out.fr 1;have f2:=HT.out.fr 2;have f3:=HT.out.fr 3;have f4:=HT.out.fr 4;have Qe:=HT.out.lt;simp only at c0 c1 c2 c3 c4;go_wp2;have T5:=oU HT.out z5;have B5:=gZ HB.out w.heap.size (aK _) (ay ⟨#[]⟩) (V au 0) (V au 0) (V au 0) (ay ⟨#[]⟩);simp only at T5;generalize World.setCell _ _ (ay ⟨#[]⟩)=w6 at T5 B5 ⊢;obtain⟨d0,d1,d2,d3,d4⟩:=fC T5;simp only at d0 d1 d2 d3 d4;refine bodyPost_ret (v:=KH U) (by simp [results,aY,go_sem,d0,d1,d2,d3,d4,KH]) rfl ⟨by rw [R.out],B5⟩
theorem Bq (n:ByteArray) (c d:Kd) (w:aH) (hc:gH c=true) (hd:gH d=true) :
  bf aL 87 #[cv (r5 (n,c)),cv (r5 (n,d))] w fun e w'=>e=.returned (.bool (gW d c))/\Below w.heap.size w w':=by
 obtain⟨ba,bb,hb⟩:=DN w (r5 (n,c)) (r5 (n,d));have BB:=L bb;have B:=L hb;have CB:=L (wN (n,c) (n,d) ((w.alloc (aJ (cells5 (r5 (n,c))).toArray 91)).alloc (aJ (cells5 (r5 (n,d))).toArray 91)) rfl);have WS:=L (fun k (h:fE c d=ah k)=>yJ (n:=n) hc hd h);have WN:=L (fun (h:fE c d=U)=>yK hd h);simp only at CB;generalize fE c d=r at *;generalize gW d c=i at *;clear ba bb hb hc hd;simp only [r5] at CB ⊢;go_enter Tryz.func87,Tryz.ntmps87;go_wp2_with fail;refine CB.out.mono ?_;rintro e w2 ⟨⟨y,rfl,hy⟩,hb2⟩;have B2:=L (B.out.trans (hb2.mono B.out.size));obtain⟨b0,b1,b2,b3,b4⟩:=fC (BB.out.on hb2);simp only [r5] at b0 b1 b2 b3 b4;have B3:=L (B2.out.alloc B2.out.size (aJ #[ay y.1,V au y.2.1,V au y.2.2.1,V au y.2.2.2.1,ay y.2.2.2.2] 91));have HY:=L hy;have hw2:w.heap.size+1<w2.heap.size:=by have:=hb2.size; simp at this; omega
 clear hb2 CB BB B hy;rcases r with _|k
 ·have E:=L (WN.out rfl);clear WN WS;go_wp2;go_ret;exact⟨dW E.out.symm,B3.out⟩
 ·have E:=L (show Dt y (r5 (n,d))=i by rw [HY.out k rfl]; exact WS.out k rfl);obtain⟨y0,y1,y2,y3,y4⟩:=y;clear WN WS HY B3;go_wp2
  all_goals go_ret
  all_goals exact⟨dW (by rw [<- E.out]; simp [Dt,r5, *]),B2.out.alloc B2.out.size _⟩
end Rl
namespace At
open Go.RowKit Va
abbrev V3:=Bool×Int×ByteArray
/-! ### the publications that numbers make -/
end At
namespace At
open Go.RowKit Go.Sort Va In
end At
namespace Av
open Go.RowKit Rw YtghlpefopidlaaaGreat.Nm Pr Bk Go.Sort
theorem Es {α:Type} [Inhabited α] (enc:α->aG) (d:Array α) (cur:Array aG) (h:d.size<=cur.size):(putCells enc 0 d cur).toList.take d.size=d.toList.map enc:=by
 apply List.ext_getElem?;intro j;rw [aS];by_cases hj:j<d.size
 ·have hc:j<cur.size:=by omega
  simp [putCells,hj,hc]
 ·simp [hj]
theorem qP {α β:Type} [Inhabited β] {E:Ek α} (K:E.Ok) {w:aH} {B g cap:Nat} {l l':List α} (h:Own E w B (J (ah ⟨g,0,U⟩) l.length cap) l) (enc:β->aG) (d:Array β) (hd:d.toList.map enc=flat E l') (hl:l'.length=l.length) (n:Nat) (os:Array Obj) :
  Own E (grow (putRow enc (aD w n) g 0 d) os) B (J (ah ⟨g,0,U⟩) l.length cap) l'/\w.grownBy (grow (putRow enc (aD w n) g 0 d) os) (ah g):=by
 have hds:d.size=l.length * E.n:=by
  rw [<- hl,<- dh K l',<- hd];simp
 rcases dY h with⟨e,_⟩|⟨g',cap',cur,e,h1,h2,h3,h4,h5,h6⟩
 ·cases e
 obtain⟨rfl,rfl⟩:g=g'/\cap=cap':=by simpa using e
 have hlt:=lt_of_heap h2;have hb:(grow (putRow enc (aD w n) g 0 d) os).heap[g]?=ah (aJ (putCells enc 0 d cur) E.t (0,0)):=by
  rw [heap_grow_old _ _ (by simp [putRow,mapBlock,aD]; exact hlt)];unfold cZ at h2;simp only [putRow,mapBlock,aD,Array.getElem?_modify,if_true,h2]
  rfl
 have hfit:d.size<=cur.size:=by
  rw [hds,h5];exact aR _ h3
 refine⟨⟨by rw [dh K],aI ⟨g,cap,_,by rw [hl],h1,hb,by rw [hl]; exact h3,h4,by simp [putCells]; exact h5,?_⟩⟩,⟨rfl,rfl,rfl,by simp [putRow,mapBlock,aD],fun k hk hne=>?_⟩⟩
 ·rw [hl,<- hds,Es enc d cur hfit,hd]
 ·rw [heap_grow_old _ _ (by simp [putRow,mapBlock,aD]; exact hk)];have hkg:g≠k:=fun e=>hne (by rw [e]);simp [putRow,mapBlock,aD,Array.getElem?_modify,hkg]
theorem tF {α:Type} {E:Ek α} {w:aH} {B g cap:Nat} {l:List α} (K:E.Ok) {β:Type} [Inhabited β] (enc:β->aG) (d:Array β) (hd:d.toList.map enc=flat E l) (h:Own E w B (J (ah ⟨g,0,U⟩) l.length cap) l):Holds enc w g 0 d/\g<w.heap.size:=by
 rcases dY h with⟨e,_⟩|⟨g',cap',cur,e,h1,h2,h3,h4,h5,h6⟩
 ·cases e
 obtain⟨rfl,rfl⟩:g=g'/\cap=cap':=by simpa using e
 refine⟨fun j hj=>?_,h2.lt⟩;rw [Nat.zero_add];refine⟨?_,h2.fr j⟩;rw [h2.cell j];have hsz:d.size=l.length * E.n:=by
  rw [<- dh K l,<- hd];simp
 have h7:(cur.toList.take (l.length * E.n))[j]?=(d.toList.map enc)[j]?:=by rw [h6,hd]
 rw [aS,if_pos (by omega)] at h7;rw [Array.getElem?_toList] at h7;rw [h7,aW,Array.getElem?_toList,getElem!_pos d j hj,Array.getElem?_eq_getElem hj]
 rfl
theorem Bt (w:aH) (B:Nat) (v:aG) (l:List Int) (h:qB w B v l) (hlen:l.length<=900):bf aL 40 #[v] w fun e w'=>e=.returned (.tuple #[])/\∃ l':List Int,qB w' B v l'/\l'.Perm l/\l'.Pairwise (·<=·)/\w.grownBy w' v.ownBlock:=by
 rcases dY h with⟨rfl,rfl⟩|⟨g,cap,cur,rfl,h1,h2,h3,h4,h5,h6⟩
 ·have hc:=Any.slices_Sort_int_none aZ U 0 w;refine Calls.mono hc ?_;rintro e w' ⟨rfl,rfl⟩;exact⟨rfl,[],h,List.Perm.refl _,List.Pairwise.nil,Rw.kG _ _⟩
 ·obtain⟨hh,hlt⟩:=tF Nm.Jg (V au) l.toArray (by rw [vX]) h;have hc:=Any.slices_Sort_int aZ g 0 cap l w hh hlt (by omega);refine Calls.mono hc ?_;rintro e w' ⟨rfl,n,os,rfl⟩;have hs:=qP Nm.Jg (l':=l.mergeSort fun x y=>decide (x<=y)) h (V au) (l.mergeSort fun x y=>decide (x<=y)).toArray (by rw [vX]) (List.length_mergeSort l) n os;refine⟨rfl,_,hs.1,List.mergeSort_perm _ _,?_,hs.2⟩;have hp:=List.pairwise_mergeSort (le:=fun x y:Int=>decide (x<=y)) (fun a b c h1 h2=>by simp at h1 h2 ⊢; omega) (fun a b=>by simp; omega) l;exact hp.imp (fun {a b} hab=>by simpa using hab)
theorem wO (d:Array Int) (n:Nat) (hs:∀ i j,i<=j->j<n->d[i]!<=d[j]!):∀ m,m<=n->(∀ x∈aF d m,∃ j,j<m/\d[j]! = x)/\(∀ j,j<m->d[j]!∈aF d m)/\(aF d m).Pairwise (·<·)
 | 0,_=>⟨fun x h=>by simp [aF] at h,fun j h=>by omega,by simp [aF]⟩
 | m+1,hm=>by
  obtain⟨h1,h2,h3⟩:=wO d n hs m (by omega);rw [Lib.compactUpTo_succ];cases hk:Lib.keeps d m with
  | false =>
   simp only [Bool.false_eq_true,if_false,List.append_nil];have hk':m≠0/\d[m]! = d[m-1]!:=by
    have h:=of_decide_eq_false hk;rw [not_or] at h;exact⟨h.1,Classical.not_not.1 h.2⟩
   refine⟨fun x hx=>?_,fun j hj=>?_,h3⟩
   ·obtain⟨j,hj,e⟩:=h1 x hx;exact⟨j,by omega,e⟩
   ·rcases aO j m with h|h
    ·exact h2 j h
    ·obtain rfl:j=m:=by omega
     rw [hk'.2];exact h2 _ (by omega)
  | true =>
   simp only [if_true];have hk':m=0\/d[m]!≠d[m-1]!:=of_decide_eq_true hk;refine⟨fun x hx=>?_,fun j hj=>?_,?_⟩
   ·rcases List.mem_append.1 hx with h|h
    ·obtain⟨j,hj,e⟩:=h1 x h;exact⟨j,by omega,e⟩
    ·exact⟨m,by omega,(aT.1 h).symm⟩
   ·rcases aO j m with h|h
    ·exact List.mem_append_left _ (h2 j h)
    ·obtain rfl:j=m:=by omega
     exact List.mem_append_right _ (by simp)
   ·rw [List.pairwise_append];refine⟨h3,List.pairwise_singleton _ _,fun a ha b hb=>?_⟩;obtain⟨j,hj,rfl⟩:=h1 a ha;rw [aT.1 hb];have a1:=hs j (m-1) (by omega) (by omega);have a2:=hs (m-1) m (by omega) (by omega);rcases hk' with h|h
    ·omega
    ·omega
theorem yO (l:List Int) (hs:l.Pairwise (·<=·)):(aj l).Pairwise (·<·)/\(∀ x,x∈aj l↔x∈l)/\(aj l).length<=l.length:=by
 have hd:∀ i j,i<=j->j<l.length->l.toArray[i]!<=l.toArray[j]!:=by
  intro i j hij hj;rw [getElem!_pos l.toArray i (by simp; omega),getElem!_pos l.toArray j (by simpa using hj)];rcases aO i j with h|h
  ·have:=List.pairwise_iff_getElem.1 hs i j (by omega) hj h;simpa using this
  ·obtain rfl:i=j:=by omega
   exact Int.le_refl _
 obtain⟨h1,h2,h3⟩:=wO l.toArray l.length hd l.length (aK _);refine⟨h3,fun x=>⟨fun hx=>?_,fun hx=>?_⟩,?_⟩
 ·obtain⟨j,hj,rfl⟩:=h1 x hx;rw [getElem!_pos l.toArray j (by simpa using hj)];simp
 ·obtain⟨j,hj,rfl⟩:=List.mem_iff_getElem.1 hx;have:=h2 j hj;rw [getElem!_pos l.toArray j (by simpa using hj)] at this;simpa [aj] using this
 ·unfold aj aF;rw [aQ];exact aP (List.length_filter_le _ _) (by simp)
theorem Et (w:aH) (B:Nat) (v:Sl) (l:List Int) (h:qB w B (dH v) l) (hs:l.Pairwise (·<=·)) (hlen:l.length<=900):bf aL 41 #[dH v] w fun e w'=>(∃ v':Sl,e=.returned (dH v')/\∃ l':List Int,qB w' B (dH v') l'/\l'.Pairwise (·<·)/\∀ x,x∈l'↔x∈l)/\w.grownBy w' (dH v).ownBlock:=by
 obtain⟨vo,vn,vc⟩:=v;rcases dY h with⟨h0,rfl⟩|⟨g,cap,cur,h0,h1,h2,h3,h4,h5,h6⟩
 ·obtain⟨rfl,rfl,rfl⟩:vo=U/\vn=0/\vc=0:=by simpa using h0
  have hc:=Any.slices_Compact_int_empty bg U 0 w;refine Calls.mono hc ?_;rintro e w' ⟨rfl,rfl⟩;exact⟨⟨(U,0,0),rfl,[],h,List.Pairwise.nil,fun _=>Iff.rfl⟩,Rw.kG _ _⟩
 ·obtain⟨rfl,rfl,rfl⟩:vo=ah ⟨g,0,U⟩/\vn=l.length/\vc=cap:=by simpa using h0
  obtain⟨hh,hlt⟩:=tF Nm.Jg (V au) l.toArray (by rw [vX]) h;have hc:=Any.slices_Compact_int bg g 0 vc l w hh (by omega) h3;obtain⟨c1,c2,c3⟩:=yO l hs;refine Calls.mono hc ?_;rintro e w' ⟨rfl,n,rfl⟩;have ht:=qP Nm.Jg (l':=aj l++aM (l.length-(aj l).length) 0) h (V au) (aj l++aM (l.length-(aj l).length) 0).toArray (by rw [vX]) (by rw [aU,List.length_replicate]; omega) n #[];have hg:grow (putRow (V au) (aD w n) g 0 (aj l++aM (l.length-(aj l).length) 0).toArray) #[]=putRow (V au) (aD w n) g 0 (aj l++aM (l.length-(aj l).length) 0).toArray:=grow_empty _;rw [hg] at ht;refine⟨⟨(ah ⟨g,0,U⟩,(aj l).length,vc),rfl,aj l,?_,c1,c2⟩,ht.2⟩;rcases dY ht.1 with⟨e,_⟩|⟨g',cap',cur',e,k1,k2,k3,k4,k5,k6⟩
  ·cases e
  ·obtain⟨rfl,_,rfl⟩:g=g'/\l.length=_/\vc=cap':=by simpa using e
   refine jf Nm.Jg rfl k1 k2 (aP c3 h3) k4 k5 ?_;have k7:=congrArg (List.take ((aj l).length * EI.n)) k6;rw [List.take_take,jy Nm.Jg,Nat.min_eq_left (aR _ (by rw [aU]; omega)),List.take_left'] at k7
   ·exact k7
   ·rfl
abbrev tH (me:Int) (near:List Int):Br:=⟨me,near,[],[],[],[]⟩
theorem Eu (me:Int) (v:Sl) (l:List Int) (w:aH) (hv:Ao w (dH v) l) (hl:l.length<=900) :
  bf aL 9 #[V au me,dH v] w fun e w'=>(∃ (l':List Int) (nv:Sl),e=.returned (nS me nv (U,0,0) (U,0,0) (U,0,0) (U,0,0))/\ko w' (tH me l') nv (U,0,0) (U,0,0) (U,0,0) (U,0,0)/\(∃ B,qB w' B (dH nv) l')/\l'.Pairwise (·<·)/\∀ x,x∈l'↔x∈l)/\Below w.heap.size w w':=by
 have n0:=iM w (aJ #[V au 0,J U 0 0,J U 0 0,J U 0 0,J U 0 0,J U 0 0] 30);have X:=L (dG w #[V au 0,J U 0 0,J U 0 0,J U 0 0,J U 0 0,J U 0 0] 30);have C:=L (qG v l _ (hv.on n0) hl);have B0:=L n0;have HL:=L hl;obtain⟨vo,vn,vc⟩:=v;clear hv hl n0;go_enter Tryz.func9,Tryz.ntmps9;go_wp2_with fail;generalize w.alloc (aJ #[V au 0,J U 0 0,J U 0 0,J U 0 0,J U 0 0,J U 0 0] 30)=W at *;refine C.out.mono ?_;rintro e1 w1 ⟨⟨⟨p1,p2,p3⟩,rfl,ho⟩,hb⟩;have B1:=L (B0.out.trans (hb.mono B0.out.size));have X1:=L (X.out.on hb);have hlt:w.heap.size<W.heap.size:=X.out.lt;have C2:=L (Bt w1 W.heap.size _ l ho HL.out);have OT:=L (fun g hg=>(ho.lt g hg).1);have HW:=L hlt;clear hb ho C X;go_wp2_with fail;refine C2.out.mono ?_;rintro e2 w2 ⟨rfl,l2,ho2,hp2,hs2,hg2⟩;have B2:=L (B1.out.grown hg2 B1.out.size (fun j hj=>aP (aV HW.out) (OT.out j hj)));have X2:=L (show cZ w2 w.heap.size _ _ from (hg2.block _ X1.out.lt (fun e=>by have:=OT.out _ e.symm; have:=HW.out; omega)).trans X1.out);have C3:=L (Et w2 W.heap.size (p1,p2,p3) l2 ho2 hs2 (by rw [hp2.length_eq]; exact HL.out));have PM:=L hp2;have Rv:=L (fun g hg=>(ho2.lt g hg).1);clear ho2 hp2 hs2 hg2 C2 OT X1;go_wp2_with fail;refine C3.out.mono ?_;rintro e3 w3 ⟨⟨⟨t1,t2,t3⟩,rfl,l3,ho3,hs3,Rx⟩,hg3⟩;have B3:=L (B2.out.grown hg3 B2.out.size (fun j hj=>aP (aV HW.out) (Rv.out j hj)));have Y:=show cZ w3 w.heap.size _ _ from (hg3.block _ X2.out.lt (fun e=>by have:=Rv.out _ e.symm; have:=HW.out; omega)).trans X2.out;obtain⟨y0,y1,y2,y3,y4,y5⟩:=Y.fQ;obtain⟨f0,f1,f2,f3,f4,f5⟩:=Y.mD;have zz:=Y.lt;have FB:=L (dK Y (V au me) (J t1 t2 t3) (J U 0 0) (J U 0 0) (J U 0 0) (J U 0 0));have FL:=L (dz (b:=w.heap.size) B3.out (aK _) (V au me) (J t1 t2 t3) (J U 0 0) (J U 0 0) (J U 0 0) (J U 0 0));have FO:=L (AP ho3 w.heap.size HW.out (V au me) (J t1 t2 t3) (J U 0 0) (J U 0 0) (J U 0 0) (J U 0 0));have Q:=L (show l3.Pairwise (·<·)/\∀ x,x∈l3↔x∈l from ⟨hs3,fun x=>(Rx x).trans PM.out.mem_iff⟩);clear ho3 hs3 Rx hg3 Y X2 C3 B2 B1 B0;go_wp2_with fail;obtain⟨v0,v1,v2,v3,v4,v5⟩:=FB.out.fQ;refine bodyPost_ret (v:=.agg #[V au me,J t1 t2 t3,J U 0 0,J U 0 0,J U 0 0,J U 0 0]) (by simp [results,Tryz.results9,go_sem,v0,v1,v2,v3,v4,v5]) rfl ?_;exact⟨⟨l3,(t1,t2,t3),rfl,⟨Row.dx FO.out,⟨[],jc _,.nil⟩,jc _,⟨[],jc _,.nil⟩,⟨[],jc _,.nil⟩⟩,⟨_,FO.out⟩,Q.out.1,Q.out.2⟩,FL.out⟩
end Av
namespace Bk
open Go.RowKit Go.Sort Rw YtghlpefopidlaaaGreat.Nm
end Bk
namespace Bk
open Go.RowKit Go.Sort Rw YtghlpefopidlaaaGreat.Nm Pr
abbrev wP (W:aH) (b:Nat) (a0 a1 a2 a3 a4 a5 a6:aG):aH:=((((((W.setCell ⟨b,0,U⟩ a0).setCell ⟨b,1,U⟩ a1).setCell ⟨b,2,U⟩ a2).setCell ⟨b,3,U⟩ a3).setCell ⟨b,4,U⟩ a4).setCell ⟨b,5,U⟩ a5).setCell ⟨b,6,U⟩ a6
theorem Bu {W:aH} {b:Nat} {t:TypeId} {z0 z1 z2 z3 z4 z5 z6:aG} (h:cZ W b #[z0,z1,z2,z3,z4,z5,z6] t) (a0 a1 a2 a3 a4 a5 a6:aG):cZ (wP W b a0 a1 a2 a3 a4 a5 a6) b #[a0,a1,a2,a3,a4,a5,a6] t:=by
 have h2:=dL (k:=6) (dL (k:=5) (dL (k:=4) (dL (k:=3) (dL (k:=2) (dL (k:=1) (dL (k:=0) h a0) a1) a2) a3) a4) a5) a6;simp only [List.setIfInBounds_toArray,List.set_cons_zero,List.set_cons_succ] at h2;exact h2
end Bk
end Go.Proofs.YtghlpefopidlaaaGreat
