/-
  Plain facts on publi. Conditions as told.
-/
import Derived.Test.YtkcfgbddlpomgaaGreatCQ017
set_option maxRecDepth 100000
set_option maxHeartbeats 64000000
open _root_.Go renaming Value->aC,World->aG,Addr->aM
open Go.ByteArray renaming toList_eq->aI
open Go.IntKind renaming i64->aF
open Go.Lib renaming hid->L
open Go.Operand renaming tmp->aj
open Go.Proofs.YtkcfgbddlpomgaaGreat.Rg renaming cZ->aB,dJ->aN,dD->aO,dR->aR,fu->aS,get_put->aT,gq->aU,fI->aV,fJ->aW,nP->aX,fH->aZ,iW->bf,fQ->bg
open Go.RowKit.Below renaming refl->Z,heap_setCell->aJ
open Go.Value renaming slice->J,pointer->O,int->aD
open _root_.List renaming getElem?_toArray->U,getElem?_cons_zero->V,getElem?_cons_succ->X,getElem?_eq_some_iff->ak,getElem?_eq_getElem->au,take_of_length_le->ay,mem_of_getElem?->aH,mem_append->aQ
open _root_.Nat renaming le_refl->aK,zero_le->aP
open _root_.Option renaming some->Y,none->ah
open Option.some renaming inj->aL
open _root_.Or renaming inr->aA,inl->aY
namespace Go.Proofs.YtkcfgbddlpomgaaGreat
namespace At
open Go.RowKit Va
abbrev V3:=Bool×Int×ByteArray
theorem nL {a b:ByteArray} (h:a.toList=b.toList):a=b:=by
 rw [aI,aI] at h;exact WideShapes.bytes_inj h
def wD:List A4->ByteArray->Option V3
 | [],_=>ah
 | x::r,n=>if x.1=n then Y x.2 else wD r n
def abV (l:List A4):Prop:=l.Pairwise fun x y=>Op.bytesLess x.1.toList y.1.toList=true
theorem get_none:∀ (l:List A4) (n:ByteArray),(∀ x∈l,x.1≠n)->wD l n=ah
 | [],_,_=>rfl
 | x::r,n,h=>by
  simp only [wD];rw [if_neg (h x (List.mem_cons_self ..)),get_none r n (fun y hy=>h y (List.mem_cons_of_mem _ hy))]
/-! ### the publications that numbers make -/
theorem Ku (i:Nat):(nm i).toList=[UInt8.ofNat (97+i)]:=by rw [aI]; rfl
theorem DC (i j:Nat) (h:i<j) (hj:j<7):Op.bytesLess (nm i).toList (nm j).toList=true:=by
 rw [Ku,Ku,VaP.xQ];left;simp only [UInt8.toNat_ofNat'];omega
theorem sI (has vals:List Int):∀ k,∀ x∈qP has vals k,∃ i,i<k/\x.1=nm i
 | 0,x,h=>by simp [qP] at h
 | k+1,x,h=>by
  simp only [qP] at h
  split at h
  ·rcases aQ.1 h with h|h
   ·obtain⟨i,h1,h2⟩:=sI has vals k x h;exact⟨i,by omega,h2⟩
   ·simp at h;exact⟨k,by omega,by rw [h]⟩
  ·obtain⟨i,h1,h2⟩:=sI has vals k x h;exact⟨i,by omega,h2⟩
theorem yY (has vals:List Int):∀ k,k<=7->abV (qP has vals k)
 | 0,_=>List.Pairwise.nil
 | k+1,hk=>by
  simp only [qP]
  split
  ·unfold abV;rw [List.pairwise_append];refine⟨yY has vals k (by omega),by simp,fun x hx y hy=>?_⟩;obtain⟨i,h1,h2⟩:=sI has vals k x hx;simp at hy;rw [h2,hy];exact DC i k h1 (by omega)
  ·exact yY has vals k (by omega)
theorem wE (has vals:List Int):∀ k,∀ x∈qP has vals k,Dw x.2.1 x.2.2.1 x.2.2.2=true/\x.2.2.2.size<=3
 | 0,x,h=>by simp [qP] at h
 | k+1,x,h=>by
  simp only [qP] at h
  split at h
  ·rcases aQ.1 h with h|h
   ·exact wE has vals k x h
   ·simp at h;rw [h];exact⟨Pv _,Fp _⟩
  ·exact wE has vals k x h
theorem Gi (has vals:List Int):∀ k,(qP has vals k).length<=5
 | 0=>by simp [qP]
 | k+1=>by
  have:=Gi has vals k;simp only [qP]
  split
  ·rename_i h
   simp; omega
  ·exact this
theorem DF (i:Nat):(nm i).size=1:=rfl
end At
namespace At
open Go.RowKit Go.Sort Va In
def Js:Option V3->aC
 | some v=>.tuple #[vl v.1 v.2.1 v.2.2,.bool true]
 | none=>.tuple #[vl false 0 ⟨#[]⟩,.bool false]
def abW:Prop:=∀ (lv:aC) (l:List A4) (n:ByteArray) (w:aG),uL w lv l->l.length<=100->n.size<=maxLen ->
 Calls Tryz.prog 44 #[lv,.string n] w fun e w'=>e=.returned (Js (wD l n))/\Below w.heap.size w w'
end At
namespace Av
open Go.RowKit Go.Sort Rw YtkcfgbddlpomgaaGreat.Nm Pr Bk
def VD (B:Nat) (b1:Nat) (_me:Int) (_z2 _z4 _z5:aC) (o1:Option aM) (n1 c1:Nat) (nl:List Int) (o3:Option aM) (n3 c3:Nat) (sl:List eF) (i:Nat) (v:aC) (x:aG):Prop :=
 match i with
 | 0=>v=O (Y ⟨b1,1,ah⟩)
 | 1=>v=J o1 n1 c1
 | 2=>∃ s:Sl,v=dK s/\mq x B v nl
 | 3=>v=O (Y ⟨b1,3,ah⟩)
 | 4=>v=J o3 n3 c3
 | 5=>∃ s:Sl,v=dK s/\qY x B v sl
 | 6=>v=O (Y ⟨b1,1,ah⟩)
 | _=>True
noncomputable def abX:Code:=((Tryz.f50.body.bind (eu 1)).getD .skip)
theorem VE (B:Nat) (b1:Nat) (me:Int) (z2 z4 z5:aC) (o1:Option aM) (n1 c1:Nat) (nl:List Int) (o3:Option aM) (n3 c3:Nat) (sl:List eF) (i:Nat) (v:aC) (x x':aG) (h:VD B b1 me z2 z4 z5 o1 n1 c1 nl o3 n3 c3 sl i v x) (hb:Below x.heap.size x x'):VD B b1 me z2 z4 z5 o1 n1 c1 nl o3 n3 c3 sl i v x':=by
 by_cases hi:i<7
 ·rcases (by omega:i=0\/i=1\/i=2\/i=3\/i=4\/i=5\/i=6) with rfl|rfl|rfl|rfl|rfl|rfl|rfl
  ·exact h
  ·exact h
  ·obtain⟨s,h1,h2⟩:=h; exact⟨s,h1,Bk.dh h2 hb⟩
  ·exact h
  ·exact h
  ·obtain⟨s,h1,h2⟩:=h; exact⟨s,h1,Bk.dh h2 hb⟩
  ·exact h
 ·unfold VD
  split <;> first | omega | trivial
theorem cp1 (Q:Exit->Act->aG->Prop) (W:aG) (b1:Nat) (me:Int) (z2 z4 z5:aC) (o1:Option aM) (n1 c1:Nat) (nl:List Int) (o3:Option aM) (n3 c3:Nat) (sl:List eF) (u0 u2 u3 u4 u5 u6 u7 u8 u9 u10 u11 u12 u13 u14 u15 u16 u17 u18 u19 u20 u21 u22 u23 u24 u25 u26 u27 u28 u29 u30 u31 u32 u33 u34 u35 u36 u37 u38 u39 u40 u41 u42 u43 u44 u45 u46 u47 u48 u49 u50 u51 u52 u53 u54 u55 u56 u57 u58 u59 u60 u61 u62 u63 u64 u65 u66 u67 u68 u69 u70 u71 u72 u73 u74 u75 u76 u77 u78 u79 u80 u81:aC)
  (h1:dG W b1 #[aD aF me,J o1 n1 c1,z2,J o3 n3 c3,z4,z5] 33) (r1:qW W (J o1 n1 c1) nl) (r3:vR W (J o3 n3 c3) sl) (l1:nl.length<=900) (l3:sl.length<=900)
  (hQ:∀ (x:aG) (v6 v7 v8 v9 v10 v11 v12 v13:aC) (p1:Option aM) (q1 s1:Nat) (p3:Option aM) (q3 s3:Nat),dG x b1 #[aD aF me,J p1 q1 s1,z2,J p3 q3 s3,z4,z5] 33->mq x W.heap.size (J p1 q1 s1) nl->qY x W.heap.size (J p3 q3 s3) sl->(∀ B,B<=b1->Below B W x)->(∀ k,k<W.heap.size->k≠b1->x.heap[k]?=W.heap[k]?)->Q .normal ⟨(u0::O (Y ⟨b1,0,ah⟩)::u2::u3::u4::u5::v6::v7::v8::v9::v10::v11::v12::v13::u14::u15::u16::u17::u18::u19::u20::u21::u22::u23::u24::u25::u26::u27::u28::u29::u30::u31::u32::u33::u34::u35::u36::u37::u38::u39::u40::u41::u42::u43::u44::u45::u46::u47::u48::u49::u50::u51::u52::u53::u54::u55::u56::u57::u58::u59::u60::u61::u62::u63::u64::u65::u66::u67::u68::u69::u70::u71::u72::u73::u74::u75::u76::u77::u78::u79::u80::u81::[]).toArray,[]⟩ x) :
  Code.wp Tryz.prog abX Q ⟨(u0::O (Y ⟨b1,0,ah⟩)::u2::u3::u4::u5::u6::u7::u8::u9::u10::u11::u12::u13::u14::u15::u16::u17::u18::u19::u20::u21::u22::u23::u24::u25::u26::u27::u28::u29::u30::u31::u32::u33::u34::u35::u36::u37::u38::u39::u40::u41::u42::u43::u44::u45::u46::u47::u48::u49::u50::u51::u52::u53::u54::u55::u56::u57::u58::u59::u60::u61::u62::u63::u64::u65::u66::u67::u68::u69::u70::u71::u72::u73::u74::u75::u76::u77::u78::u79::u80::u81::[]).toArray,[]⟩ W:=by
 have HQ:=L hQ;have H1:=L h1;have R1:=L r1;have R3:=L r3;have L1:=L l1;have L3:=L l3;clear hQ h1 r1 r3 l1 l3;have iJ:=VE W.heap.size b1 me z2 z4 z5 o1 n1 c1 nl o3 n3 c3 sl;unfold abX
 conv=>arg 2; whnf
 have nd:∀ j,(j<6\/13<=j)->∀ i,i<7->(fun i=>6+i) i≠j:=by
  intro j hj i hi h;simp only at h;omega
 refine aZ 10 7 (fun i=>6+i) (fun _=>7) (VD W.heap.size b1 me z2 z4 z5 o1 n1 c1 nl o3 n3 c3 sl) (by kernel_rfl) (by kernel_rfl) rfl (by decide) (fun i j _ _ h=>by have h2:6+i=6+j:=h; omega) (fun i hi=>by show 6+i<82; omega) ?_ (fun _=>bf 14 (by kernel_rfl)) ?_ ?_
 ·intro i o hi ho a x D hnd hc hD hb seen K hK;clear HQ;rcases (by omega:i=0\/i=1\/i=2\/i=3\/i=4\/i=5\/i=6) with rfl|rfl|rfl|rfl|rfl|rfl|rfl
  ·cases ho;have e1:a.eval (aj 1)=O (Y ⟨b1,0,ah⟩):=seen.kp 1 _ (nd 1 (by omega)) rfl;exact aB rfl rfl (aN a.eval _ 33 (aj 1) 1 rfl (by rw [e1]; simp [go_sem])) (hK _ _ rfl (Z _ _) fun _ _ _ _ _ _ _ h=>h)
  ·cases ho;have e6:a.eval (aj 6)=O (Y ⟨b1,1,ah⟩):=seen.at_ ⟨0,.data⟩ (by simp) rfl (aA (by decide));have y1:=(H1.out.on hb).cell 1;simp only [U,V,X] at y1;exact aB rfl rfl (aR a.eval _ 25 (aj 6) rfl (by rw [e6]; simp [go_sem,y1])) (hK _ _ rfl (Z _ _) fun _ _ _ _ _ _ _ h=>h)
  ·cases ho;have e7:a.eval (aj 7)=J o1 n1 c1:=seen.at_ ⟨1,.data⟩ (by simp) rfl (aA (by decide));exact aU rfl rfl (Rw.gY a.eval _ (aj 7) 25 74 rfl e7 rfl _ (fK Tryz.func74 rfl rfl _ _)) (yO (o1,n1,c1) nl x (R1.out.on hb) L1.out) fun e w1 h=>by
    obtain⟨⟨s,rfl,h1⟩,h3⟩:=h;exact⟨_,rfl,hK _ _ ⟨s,rfl,dx h1 hb.size⟩ (h3.mono hb.size) fun j u hj _ _ _ hne h=>iJ j u _ _ h h3⟩
  ·cases ho;have e1:a.eval (aj 1)=O (Y ⟨b1,0,ah⟩):=seen.kp 1 _ (nd 1 (by omega)) rfl;exact aB rfl rfl (aN a.eval _ 33 (aj 1) 3 rfl (by rw [e1]; simp [go_sem])) (hK _ _ rfl (Z _ _) fun _ _ _ _ _ _ _ h=>h)
  ·cases ho;have e9:a.eval (aj 9)=O (Y ⟨b1,3,ah⟩):=seen.at_ ⟨3,.data⟩ (by simp) rfl (aA (by decide));have y3:=(H1.out.on hb).cell 3;simp only [U,V,X] at y3;exact aB rfl rfl (aR a.eval _ 29 (aj 9) rfl (by rw [e9]; simp [go_sem,y3])) (hK _ _ rfl (Z _ _) fun _ _ _ _ _ _ _ h=>h)
  ·cases ho;have e10:a.eval (aj 10)=J o3 n3 c3:=seen.at_ ⟨4,.data⟩ (by simp) rfl (aA (by decide));exact aU rfl rfl (Rw.gY a.eval _ (aj 10) 29 84 rfl e10 rfl _ (fK Tryz.func84 rfl rfl _ _)) (Jd (o3,n3,c3) sl x (R3.out.on hb) L3.out) fun e w1 h=>by
    obtain⟨⟨s,rfl,h1⟩,h3⟩:=h;exact⟨_,rfl,hK _ _ ⟨s,rfl,dx h1 hb.size⟩ (h3.mono hb.size) fun j u hj _ _ _ hne h=>iJ j u _ _ h h3⟩
  ·cases ho;have e1:a.eval (aj 1)=O (Y ⟨b1,0,ah⟩):=seen.kp 1 _ (nd 1 (by omega)) rfl;exact aB rfl rfl (aN a.eval _ 33 (aj 1) 1 rfl (by rw [e1]; simp [go_sem])) (hK _ _ rfl (Z _ _) fun _ _ _ _ _ _ _ h=>h)
 ·intro kk o h1 h2 ho;rcases (by omega:kk=8\/kk=9) with rfl|rfl
  ·cases ho;exact⟨⟨7,.phase⟩,by simp,rfl,rfl⟩
  ·cases ho;exact⟨⟨8,.data⟩,by simp,rfl,rfl⟩
 ·intro a w' df sz kp ⟨vs,hv⟩ hb;have sz':a.tmps.size=82:=sz;have g1:a.tmps[1]?=Y (O (Y ⟨b1,0,ah⟩)):=(kp 1 (nd 1 (by omega))).trans rfl;have g12:a.tmps[12]?=Y (O (Y ⟨b1,1,ah⟩)):=by
   have h:vs 6=O (Y ⟨b1,1,ah⟩):=(hv 6 (by omega)).2 (by decide);rw [<- h];exact (hv 6 (by omega)).1
  obtain⟨⟨p1,q1,s1⟩,hs1,ho1⟩:=(hv 2 (by omega)).2 (by decide);have g8:a.tmps[8]?=Y (J p1 q1 s1):=((hv 2 (by omega)).1).trans (congrArg Y hs1);rw [hs1] at ho1;obtain⟨⟨p3,q3,s3⟩,hs3,ho3⟩:=(hv 5 (by omega)).2 (by decide);have g11:a.tmps[11]?=Y (J p3 q3 s3):=((hv 5 (by omega)).1).trans (congrArg Y hs3);rw [hs3] at ho3;have hB:=H1.out.on hb;have hlt:=H1.out.lt;show aS _ _ _ 3 7 a w';simp only [aS];have c1x:=hB.cell 1;have f1x:=hB.fr 1;simp only [U,V,X] at c1x;refine aV 25 (aj 12) (aj 8) rfl rfl rfl rfl (aO g12) (aO g8) (w':=(w').setCell ⟨b1,1,ah⟩ (J p1 q1 s1)) (by simp [go_sem,c1x,f1x]) ?_;have hB1:dG ((w').setCell ⟨b1,1,ah⟩ (J p1 q1 s1)) b1 #[aD aF me,J p1 q1 s1,z2,J o3 n3 c3,z4,z5] 33:=by simpa using dO (k:=1) hB (J p1 q1 s1)
  refine aB rfl rfl (aN _ _ 33 (aj 1) 3 rfl (v:=O (Y ⟨b1,3,ah⟩)) (by rw [aO g1]; simp [go_sem])) ?_;have aeo:((a).put (Y 13) (O (Y ⟨b1,3,ah⟩))).tmps[13]?=Y (O (Y ⟨b1,3,ah⟩)):=by simp [Act.put,sz']
  show Go.wpOp _ _ _ 9 _ ((a).put (Y 13) (O (Y ⟨b1,3,ah⟩))) _;have c3x:=hB1.cell 3;have f3x:=hB1.fr 3;simp only [U,V,X] at c3x;refine aV 29 (aj 13) (aj 11) rfl rfl rfl rfl (aO aeo) (aO ((aT _ 13 _ 11 (by decide)).trans g11)) (w':=((w').setCell ⟨b1,1,ah⟩ (J p1 q1 s1)).setCell ⟨b1,3,ah⟩ (J p3 q3 s3)) (by simp [go_sem,c3x,f3x]) ?_;have hB3:dG (((w').setCell ⟨b1,1,ah⟩ (J p1 q1 s1)).setCell ⟨b1,3,ah⟩ (J p3 q3 s3)) b1 #[aD aF me,J p1 q1 s1,z2,J p3 q3 s3,z4,z5] 33:=by simpa using dO (k:=3) hB1 (J p3 q3 s3)
  have qF:∀ j,(j<6\/14<=j)->((a).put (Y 13) (O (Y ⟨b1,3,ah⟩))).tmps[j]?=(u0::O (Y ⟨b1,0,ah⟩)::u2::u3::u4::u5::u6::u7::u8::u9::u10::u11::u12::u13::u14::u15::u16::u17::u18::u19::u20::u21::u22::u23::u24::u25::u26::u27::u28::u29::u30::u31::u32::u33::u34::u35::u36::u37::u38::u39::u40::u41::u42::u43::u44::u45::u46::u47::u48::u49::u50::u51::u52::u53::u54::u55::u56::u57::u58::u59::u60::u61::u62::u63::u64::u65::u66::u67::u68::u69::u70::u71::u72::u73::u74::u75::u76::u77::u78::u79::u80::u81::[])[j]?:=fun j hj=>(aT _ 13 _ j (by omega)).trans ((kp j (nd j (by omega))).trans U);obtain⟨mid,hmid,hfr⟩:=bg (a:=(a).put (Y 13) (O (Y ⟨b1,3,ah⟩))) 6 8 df (by simp [Rg.size_put,sz']) (by simp) qF;show Q .normal ((a).put (Y 13) (O (Y ⟨b1,3,ah⟩))) _;rw [hfr]
  match mid,hmid with
  | [v6,v7,v8,v9,v10,v11,v12,v13],_ =>
   exact HQ.out _ _ _ _ _ _ _ _ _ p1 q1 s1 p3 q3 s3 hB3 (dW (dW ho1 b1 1 (J p1 q1 s1) hlt) b1 3 (J p3 q3 s3) hlt) (dW (dW ho3 b1 1 (J p1 q1 s1) hlt) b1 3 (J p3 q3 s3) hlt) (fun B hBl=>(((hb.mono (Nat.le_of_lt (Nat.lt_of_le_of_lt hBl hlt))).setCell (p:=⟨b1,1,ah⟩) hBl (J p1 q1 s1)).setCell (p:=⟨b1,3,ah⟩) hBl (J p3 q3 s3))) (fun k hk hne=>((aJ ((w').setCell ⟨b1,1,ah⟩ (J p1 q1 s1)) ⟨b1,3,ah⟩ (J p3 q3 s3) k hne).trans ((aJ (w') ⟨b1,1,ah⟩ (J p1 q1 s1) k hne).trans (hb.block k hk))))
def VF (B:Nat) (b1:Nat) (_me:Int) (_z1 _z3 _z4 _z5:aC) (g n cap k:Nat) (y1 y2:Int) (yo:Option aM) (yn yc:Nat) (y4:Int) (p:List C5) (i:Nat) (v:aC) (x:aG):Prop :=
 match i with
 | 0=>v=O (Y ⟨b1,2,ah⟩)
 | 1=>v=J (Y ⟨g,0,ah⟩) n cap
 | 2=>v=aD aF (k:Int)
 | 3=>v=O (Y ⟨b1,2,ah⟩)
 | 4=>v=J (Y ⟨g,0,ah⟩) n cap
 | 5=>v=aD aF (k:Int)
 | 6=>v=O (Y ⟨g,k * 4,ah⟩)
 | 7=>v=mD (y1,y2,(yo,yn,yc),y4)
 | 8=>∃ s:Sl,v=mD (y1,y2,s,y4)/\jL x B (dK s) p
 | 9=>v=O (Y ⟨g,k * 4,ah⟩)
 | _=>True
noncomputable def abY:Code:=((Tryz.f50.body.bind (eu 6)).getD .skip)
theorem VH (B:Nat) (b1:Nat) (me:Int) (z1 z3 z4 z5:aC) (g n cap k:Nat) (y1 y2:Int) (yo:Option aM) (yn yc:Nat) (y4:Int) (p:List C5) (i:Nat) (v:aC) (x x':aG) (h:VF B b1 me z1 z3 z4 z5 g n cap k y1 y2 yo yn yc y4 p i v x) (hb:Below x.heap.size x x'):VF B b1 me z1 z3 z4 z5 g n cap k y1 y2 yo yn yc y4 p i v x':=by
 by_cases hi:i<10
 ·rcases (by omega:i=0\/i=1\/i=2\/i=3\/i=4\/i=5\/i=6\/i=7\/i=8\/i=9) with rfl|rfl|rfl|rfl|rfl|rfl|rfl|rfl|rfl|rfl
  ·exact h
  ·exact h
  ·exact h
  ·exact h
  ·exact h
  ·exact h
  ·exact h
  ·exact h
  ·obtain⟨s,h1,h2⟩:=h; exact⟨s,h1,Bk.dh h2 hb⟩
  ·exact h
 ·unfold VF
  split <;> first | omega | trivial
theorem cp6 (Q:Exit->Act->aG->Prop) (W:aG) (B0:Nat) (l:List jv) (b1:Nat) (me:Int) (z1 z3 z4 z5:aC) (g n cap k:Nat) (y1 y2:Int) (yo:Option aM) (yn yc:Nat) (y4:Int) (p:List C5) (u0 u2 u4 u5 u6 u7 u8 u9 u10 u11 u12 u13 u14 u15 u16 u17 u18 u19 u20 u21 u22 u23 u24 u25 u26 u27 u28 u29 u30 u31 u32 u33 u34 u35 u36 u37 u38 u39 u40 u41 u42 u43 u44 u45 u46 u47 u48 u49 u50 u51 u52 u53 u54 u55 u56 u57 u58 u59 u60 u61 u62 u63 u64 u65 u66 u67 u68 u69 u70 u71 u72 u73 u74 u75 u76 u77 u78 u79 u80 u81:aC)
  (h1:dG W b1 #[aD aF me,z1,J (Y ⟨g,0,ah⟩) n cap,z3,z4,z5] 33) (ho:kR W B0 (J (Y ⟨g,0,ah⟩) n cap) l) (hy:l[k]?=Y (y1,y2,(yo,yn,yc),y4)) (hp:fG W (J yo yn yc) p) (lp:p.length<=900)
  (hQ:∀ (x:aG) (v32 v33 v34 v35 v36 v37 v38 v39 v40 v41:aC) (s1:Option aM) (s2 s3:Nat),jL x W.heap.size (J s1 s2 s3) p->kR x B0 (J (Y ⟨g,0,ah⟩) n cap) (l.set k (y1,y2,(s1,s2,s3),y4))->But g W x->(∀ B1,B1<=g->B1<=W.heap.size->Below B1 W x)->Q .normal ⟨(u0::O (Y ⟨b1,0,ah⟩)::u2::aD aF (k:Int)::u4::u5::u6::u7::u8::u9::u10::u11::u12::u13::u14::u15::u16::u17::u18::u19::u20::u21::u22::u23::u24::u25::u26::u27::u28::u29::u30::u31::v32::v33::v34::v35::v36::v37::v38::v39::v40::v41::u42::u43::u44::u45::u46::u47::u48::u49::u50::u51::u52::u53::u54::u55::u56::u57::u58::u59::u60::u61::u62::u63::u64::u65::u66::u67::u68::u69::u70::u71::u72::u73::u74::u75::u76::u77::u78::u79::u80::u81::[]).toArray,[]⟩ x) :
  Code.wp Tryz.prog abY Q ⟨(u0::O (Y ⟨b1,0,ah⟩)::u2::aD aF (k:Int)::u4::u5::u6::u7::u8::u9::u10::u11::u12::u13::u14::u15::u16::u17::u18::u19::u20::u21::u22::u23::u24::u25::u26::u27::u28::u29::u30::u31::u32::u33::u34::u35::u36::u37::u38::u39::u40::u41::u42::u43::u44::u45::u46::u47::u48::u49::u50::u51::u52::u53::u54::u55::u56::u57::u58::u59::u60::u61::u62::u63::u64::u65::u66::u67::u68::u69::u70::u71::u72::u73::u74::u75::u76::u77::u78::u79::u80::u81::[]).toArray,[]⟩ W:=by
 have HQ:=L hQ;have H1:=L h1;have HO:=L ho;have HY:=L hy;have HP:=L hp;have LP:=L lp;have IX:=L (nE okD g k n cap (by obtain⟨_,_,hv⟩:=(Row.dn ho).len; have h:=(ak.1 hy).1; simp at hv; omega));have EL:=L (jS okD ho hy);clear hQ h1 ho hy hp lp;have iJ:=VH W.heap.size b1 me z1 z3 z4 z5 g n cap k y1 y2 yo yn yc y4 p;unfold abY
 conv=>arg 2; whnf
 have nd:∀ j,(j<32\/42<=j)->∀ i,i<10->(fun i=>32+i) i≠j:=by
  intro j hj i hi h;simp only at h;omega
 refine aZ 11 10 (fun i=>32+i) (fun _=>10) (VF W.heap.size b1 me z1 z3 z4 z5 g n cap k y1 y2 yo yn yc y4 p) (by kernel_rfl) (by kernel_rfl) rfl (by decide) (fun i j _ _ h=>by have h2:32+i=32+j:=h; omega) (fun i hi=>by show 32+i<82; omega) ?_ (fun _=>bf 14 (by kernel_rfl)) ?_ ?_
 ·intro i o hi ho a x D hnd hc hD hb seen K hK;clear HQ;rcases (by omega:i=0\/i=1\/i=2\/i=3\/i=4\/i=5\/i=6\/i=7\/i=8\/i=9) with rfl|rfl|rfl|rfl|rfl|rfl|rfl|rfl|rfl|rfl
  ·cases ho;have e1:a.eval (aj 1)=O (Y ⟨b1,0,ah⟩):=seen.kp 1 _ (nd 1 (by omega)) rfl;exact aB rfl rfl (aN a.eval _ 33 (aj 1) 2 rfl (by rw [e1]; simp [go_sem])) (hK _ _ rfl (Z _ _) fun _ _ _ _ _ _ _ h=>h)
  ·cases ho;have e32:a.eval (aj 32)=O (Y ⟨b1,2,ah⟩):=seen.at_ ⟨0,.data⟩ (by simp) rfl (aA (by decide));have y2:=(H1.out.on hb).cell 2;simp only [U,V,X] at y2;exact aB rfl rfl (aR a.eval _ 28 (aj 32) rfl (by rw [e32]; simp [go_sem,y2])) (hK _ _ rfl (Z _ _) fun _ _ _ _ _ _ _ h=>h)
  ·cases ho;have e3:a.eval (aj 3)=aD aF (k:Int):=seen.kp 3 _ (nd 3 (by omega)) rfl;exact aB rfl rfl (aW a.eval _ (aj 3) rfl x) (hK _ _ e3 (Z _ _) fun _ _ _ _ _ _ _ h=>h)
  ·cases ho;have e1:a.eval (aj 1)=O (Y ⟨b1,0,ah⟩):=seen.kp 1 _ (nd 1 (by omega)) rfl;exact aB rfl rfl (aN a.eval _ 33 (aj 1) 2 rfl (by rw [e1]; simp [go_sem])) (hK _ _ rfl (Z _ _) fun _ _ _ _ _ _ _ h=>h)
  ·cases ho;have e35:a.eval (aj 35)=O (Y ⟨b1,2,ah⟩):=seen.at_ ⟨3,.data⟩ (by simp) rfl (aA (by decide));have y2:=(H1.out.on hb).cell 2;simp only [U,V,X] at y2;exact aB rfl rfl (aR a.eval _ 28 (aj 35) rfl (by rw [e35]; simp [go_sem,y2])) (hK _ _ rfl (Z _ _) fun _ _ _ _ _ _ _ h=>h)
  ·cases ho;have e3:a.eval (aj 3)=aD aF (k:Int):=seen.kp 3 _ (nd 3 (by omega)) rfl;exact aB rfl rfl (aW a.eval _ (aj 3) rfl x) (hK _ _ e3 (Z _ _) fun _ _ _ _ _ _ _ h=>h)
  ·cases ho;have e36:a.eval (aj 36)=J (Y ⟨g,0,ah⟩) n cap:=seen.at_ ⟨4,.data⟩ (by simp) rfl (aA (by decide));have e37:a.eval (aj 37)=aD aF (k:Int):=seen.at_ ⟨5,.data⟩ (by simp) rfl (aA (by decide));exact aB rfl rfl (aX a.eval _ 28 (aj 36) (aj 37) rfl (by rw [e36,e37]; exact IX.out x)) (hK _ _ rfl (Z _ _) fun _ _ _ _ _ _ _ h=>h)
  ·cases ho;have e38:a.eval (aj 38)=O (Y ⟨g,k * 4,ah⟩):=seen.at_ ⟨6,.data⟩ (by simp) rfl (aA (by decide));exact aB rfl rfl (aR a.eval _ 53 (aj 38) rfl (by rw [e38]; exact PG x _ (y1,y2,(yo,yn,yc),y4) (EL.out x hb))) (hK _ _ rfl (Z _ _) fun _ _ _ _ _ _ _ h=>h)
  ·cases ho;have e39:a.eval (aj 39)=mD (y1,y2,(yo,yn,yc),y4):=seen.at_ ⟨7,.data⟩ (by simp) rfl (aA (by decide));exact aU rfl rfl (Rw.gY a.eval _ (aj 39) 53 42 rfl e39 rfl _ (fK Tryz.func42 rfl rfl _ _)) (yR (y1,y2,(yo,yn,yc),y4) p x (HP.out.on hb) LP.out) fun e w1 h=>by
    obtain⟨⟨s,rfl,h1⟩,h3⟩:=h;exact⟨_,rfl,hK _ _ ⟨s,rfl,dx h1 hb.size⟩ (h3.mono hb.size) fun j u hj _ _ _ hne h=>iJ j u _ _ h h3⟩
  ·cases ho;have e33:a.eval (aj 33)=J (Y ⟨g,0,ah⟩) n cap:=seen.at_ ⟨1,.data⟩ (by simp) rfl (aA (by decide));have e34:a.eval (aj 34)=aD aF (k:Int):=seen.at_ ⟨2,.data⟩ (by simp) rfl (aA (by decide));exact aB rfl rfl (aX a.eval _ 28 (aj 33) (aj 34) rfl (by rw [e33,e34]; exact IX.out x)) (hK _ _ rfl (Z _ _) fun _ _ _ _ _ _ _ h=>h)
 ·intro kk o h1 h2 ho;omega
 ·intro a w' df sz kp ⟨vs,hv⟩ hb;have sz':a.tmps.size=82:=sz;have g41:a.tmps[41]?=Y (O (Y ⟨g,k * 4,ah⟩)):=by
   have h:vs 9=O (Y ⟨g,k * 4,ah⟩):=(hv 9 (by omega)).2 (by decide);rw [<- h];exact (hv 9 (by omega)).1
  obtain⟨⟨s1,s2,s3⟩,hs,hc⟩:=(hv 8 (by omega)).2 (by decide);have g40:a.tmps[40]?=Y (mD (y1,y2,(s1,s2,s3),y4)):=((hv 8 (by omega)).1).trans (congrArg Y hs);obtain⟨w2,hr,st1,st2,st3⟩:=ZN (k:=k) (y1,y2,(s1,s2,s3),y4) (Bk.dh HO.out hb) (ak.1 HY.out).1;obtain⟨cur,hg⟩:=jN (Bk.dh HO.out hb);show aS _ _ _ 1 10 a w';simp only [aS];refine aV 53 (aj 41) (aj 40) rfl rfl rfl rfl (aO g41) (aO g40) (w':=w2) hr ?_;have qF:∀ j,(j<32\/42<=j)->(a).tmps[j]?=(u0::O (Y ⟨b1,0,ah⟩)::u2::aD aF (k:Int)::u4::u5::u6::u7::u8::u9::u10::u11::u12::u13::u14::u15::u16::u17::u18::u19::u20::u21::u22::u23::u24::u25::u26::u27::u28::u29::u30::u31::u32::u33::u34::u35::u36::u37::u38::u39::u40::u41::u42::u43::u44::u45::u46::u47::u48::u49::u50::u51::u52::u53::u54::u55::u56::u57::u58::u59::u60::u61::u62::u63::u64::u65::u66::u67::u68::u69::u70::u71::u72::u73::u74::u75::u76::u77::u78::u79::u80::u81::[])[j]?:=fun j hj=>(kp j (nd j (by omega))).trans U;obtain⟨mid,hmid,hfr⟩:=bg (a:=a) 32 10 df (by simp [sz']) (by simp) qF;show Q .normal (a) _;rw [hfr]
  match mid,hmid with
  | [v32,v33,v34,v35,v36,v37,v38,v39,v40,v41],_ =>
   exact HQ.out _ _ _ _ _ _ _ _ _ _ _ s1 s2 s3 (st2.own hc hg (by decide)) st1 ((But.of_below hb).trans st2) fun B1 hB hl=>st3 B1 W hB (hb.mono hl)
def Kv (B:Nat) (b1:Nat) (_me:Int) (_z1 _z2 _z3 _z4:aC) (g n cap k:Nat) (_y1 _y2:Int) (yo:Option aM) (yn yc:Nat) (p:List C5) (i:Nat) (v:aC) (x:aG):Prop :=
 match i with
 | 0=>v=O (Y ⟨b1,5,ah⟩)
 | 1=>v=J (Y ⟨g,0,ah⟩) n cap
 | 2=>v=aD aF (k:Int)
 | 3=>v=O (Y ⟨b1,5,ah⟩)
 | 4=>v=J (Y ⟨g,0,ah⟩) n cap
 | 5=>v=aD aF (k:Int)
 | 6=>v=O (Y ⟨g,k * 3,ah⟩)
 | 7=>v=O (Y ⟨g,k * 3+2,ah⟩)
 | 8=>v=J yo yn yc
 | 9=>∃ s:Sl,v=dK s/\jL x B v p
 | 10=>v=O (Y ⟨g,k * 3,ah⟩)
 | 11=>v=O (Y ⟨g,k * 3+2,ah⟩)
 | _=>True
noncomputable def Xv:Code:=((Tryz.f50.body.bind (eu 16)).getD .skip)
theorem QK (B:Nat) (b1:Nat) (me:Int) (z1 z2 z3 z4:aC) (g n cap k:Nat) (y1 y2:Int) (yo:Option aM) (yn yc:Nat) (p:List C5) (i:Nat) (v:aC) (x x':aG) (h:Kv B b1 me z1 z2 z3 z4 g n cap k y1 y2 yo yn yc p i v x) (hb:Below x.heap.size x x'):Kv B b1 me z1 z2 z3 z4 g n cap k y1 y2 yo yn yc p i v x':=by
 by_cases hi:i<12
 ·rcases (by omega:i=0\/i=1\/i=2\/i=3\/i=4\/i=5\/i=6\/i=7\/i=8\/i=9\/i=10\/i=11) with rfl|rfl|rfl|rfl|rfl|rfl|rfl|rfl|rfl|rfl|rfl|rfl
  ·exact h
  ·exact h
  ·exact h
  ·exact h
  ·exact h
  ·exact h
  ·exact h
  ·exact h
  ·exact h
  ·obtain⟨s,h1,h2⟩:=h; exact⟨s,h1,Bk.dh h2 hb⟩
  ·exact h
  ·exact h
 ·unfold Kv
  split <;> first | omega | trivial
theorem aep (Q:Exit->Act->aG->Prop) (W:aG) (B0:Nat) (l:List qy) (b1:Nat) (me:Int) (z1 z2 z3 z4:aC) (g n cap k:Nat) (y1 y2:Int) (yo:Option aM) (yn yc:Nat) (p:List C5) (u0 u2 u3 u4 u6 u7 u8 u9 u10 u11 u12 u13 u14 u15 u16 u17 u18 u19 u20 u21 u22 u23 u24 u25 u26 u27 u28 u29 u30 u31 u32 u33 u34 u35 u36 u37 u38 u39 u40 u41 u42 u43 u44 u45 u46 u47 u48 u49 u50 u51 u52 u53 u54 u55 u56 u57 u58 u59 u60 u61 u62 u63 u64 u65 u66 u67 u68 u69 u70 u71 u72 u73 u74 u75 u76 u77 u78 u79 u80 u81:aC)
  (h1:dG W b1 #[aD aF me,z1,z2,z3,z4,J (Y ⟨g,0,ah⟩) n cap] 33) (ho:pE W B0 (J (Y ⟨g,0,ah⟩) n cap) l) (hy:l[k]?=Y (y1,y2,(yo,yn,yc))) (hp:fG W (J yo yn yc) p) (lp:p.length<=900)
  (hQ:∀ (x:aG) (v68 v69 v70 v71 v72 v73 v74 v75 v76 v77 v78 v79:aC) (s1:Option aM) (s2 s3:Nat),jL x W.heap.size (J s1 s2 s3) p->pE x B0 (J (Y ⟨g,0,ah⟩) n cap) (l.set k (y1,y2,(s1,s2,s3)))->But g W x->(∀ B1,B1<=g->B1<=W.heap.size->Below B1 W x)->Q .normal ⟨(u0::O (Y ⟨b1,0,ah⟩)::u2::u3::u4::aD aF (k:Int)::u6::u7::u8::u9::u10::u11::u12::u13::u14::u15::u16::u17::u18::u19::u20::u21::u22::u23::u24::u25::u26::u27::u28::u29::u30::u31::u32::u33::u34::u35::u36::u37::u38::u39::u40::u41::u42::u43::u44::u45::u46::u47::u48::u49::u50::u51::u52::u53::u54::u55::u56::u57::u58::u59::u60::u61::u62::u63::u64::u65::u66::u67::v68::v69::v70::v71::v72::v73::v74::v75::v76::v77::v78::v79::u80::u81::[]).toArray,[]⟩ x) :
  Code.wp Tryz.prog Xv Q ⟨(u0::O (Y ⟨b1,0,ah⟩)::u2::u3::u4::aD aF (k:Int)::u6::u7::u8::u9::u10::u11::u12::u13::u14::u15::u16::u17::u18::u19::u20::u21::u22::u23::u24::u25::u26::u27::u28::u29::u30::u31::u32::u33::u34::u35::u36::u37::u38::u39::u40::u41::u42::u43::u44::u45::u46::u47::u48::u49::u50::u51::u52::u53::u54::u55::u56::u57::u58::u59::u60::u61::u62::u63::u64::u65::u66::u67::u68::u69::u70::u71::u72::u73::u74::u75::u76::u77::u78::u79::u80::u81::[]).toArray,[]⟩ W:=by
 have HQ:=L hQ;have H1:=L h1;have HO:=L ho;have HY:=L hy;have HP:=L hp;have LP:=L lp;have IX:=L (nE okW g k n cap (by obtain⟨_,_,hv⟩:=(Row.dn ho).len; have h:=(ak.1 hy).1; simp at hv; omega));have EL:=L (jS okW ho hy);clear hQ h1 ho hy hp lp;have iJ:=QK W.heap.size b1 me z1 z2 z3 z4 g n cap k y1 y2 yo yn yc p;unfold Xv
 conv=>arg 2; whnf
 have nd:∀ j,(j<68\/80<=j)->∀ i,i<12->(fun i=>68+i) i≠j:=by
  intro j hj i hi h;simp only at h;omega
 refine aZ 13 12 (fun i=>68+i) (fun _=>12) (Kv W.heap.size b1 me z1 z2 z3 z4 g n cap k y1 y2 yo yn yc p) (by kernel_rfl) (by kernel_rfl) rfl (by decide) (fun i j _ _ h=>by have h2:68+i=68+j:=h; omega) (fun i hi=>by show 68+i<82; omega) ?_ (fun _=>bf 14 (by kernel_rfl)) ?_ ?_
 ·intro i o hi ho a x D hnd hc hD hb seen K hK;clear HQ;rcases (by omega:i=0\/i=1\/i=2\/i=3\/i=4\/i=5\/i=6\/i=7\/i=8\/i=9\/i=10\/i=11) with rfl|rfl|rfl|rfl|rfl|rfl|rfl|rfl|rfl|rfl|rfl|rfl
  ·cases ho;have e1:a.eval (aj 1)=O (Y ⟨b1,0,ah⟩):=seen.kp 1 _ (nd 1 (by omega)) rfl;exact aB rfl rfl (aN a.eval _ 33 (aj 1) 5 rfl (by rw [e1]; simp [go_sem])) (hK _ _ rfl (Z _ _) fun _ _ _ _ _ _ _ h=>h)
  ·cases ho;have e68:a.eval (aj 68)=O (Y ⟨b1,5,ah⟩):=seen.at_ ⟨0,.data⟩ (by simp) rfl (aA (by decide));have y5:=(H1.out.on hb).cell 5;simp only [U,V,X] at y5;exact aB rfl rfl (aR a.eval _ 31 (aj 68) rfl (by rw [e68]; simp [go_sem,y5])) (hK _ _ rfl (Z _ _) fun _ _ _ _ _ _ _ h=>h)
  ·cases ho;have e5:a.eval (aj 5)=aD aF (k:Int):=seen.kp 5 _ (nd 5 (by omega)) rfl;exact aB rfl rfl (aW a.eval _ (aj 5) rfl x) (hK _ _ e5 (Z _ _) fun _ _ _ _ _ _ _ h=>h)
  ·cases ho;have e1:a.eval (aj 1)=O (Y ⟨b1,0,ah⟩):=seen.kp 1 _ (nd 1 (by omega)) rfl;exact aB rfl rfl (aN a.eval _ 33 (aj 1) 5 rfl (by rw [e1]; simp [go_sem])) (hK _ _ rfl (Z _ _) fun _ _ _ _ _ _ _ h=>h)
  ·cases ho;have e71:a.eval (aj 71)=O (Y ⟨b1,5,ah⟩):=seen.at_ ⟨3,.data⟩ (by simp) rfl (aA (by decide));have y5:=(H1.out.on hb).cell 5;simp only [U,V,X] at y5;exact aB rfl rfl (aR a.eval _ 31 (aj 71) rfl (by rw [e71]; simp [go_sem,y5])) (hK _ _ rfl (Z _ _) fun _ _ _ _ _ _ _ h=>h)
  ·cases ho;have e5:a.eval (aj 5)=aD aF (k:Int):=seen.kp 5 _ (nd 5 (by omega)) rfl;exact aB rfl rfl (aW a.eval _ (aj 5) rfl x) (hK _ _ e5 (Z _ _) fun _ _ _ _ _ _ _ h=>h)
  ·cases ho;have e72:a.eval (aj 72)=J (Y ⟨g,0,ah⟩) n cap:=seen.at_ ⟨4,.data⟩ (by simp) rfl (aA (by decide));have e73:a.eval (aj 73)=aD aF (k:Int):=seen.at_ ⟨5,.data⟩ (by simp) rfl (aA (by decide));exact aB rfl rfl (aX a.eval _ 31 (aj 72) (aj 73) rfl (by rw [e72,e73]; exact IX.out x)) (hK _ _ rfl (Z _ _) fun _ _ _ _ _ _ _ h=>h)
  ·cases ho;have e74:a.eval (aj 74)=O (Y ⟨g,k * 3,ah⟩):=seen.at_ ⟨6,.data⟩ (by simp) rfl (aA (by decide));exact aB rfl rfl (aN a.eval _ 61 (aj 74) 1 rfl (by rw [e74]; simp [go_sem])) (hK _ _ rfl (Z _ _) fun _ _ _ _ _ _ _ h=>h)
  ·cases ho;have e75:a.eval (aj 75)=O (Y ⟨g,k * 3+2,ah⟩):=seen.at_ ⟨7,.data⟩ (by simp) rfl (aA (by decide));have y:=EL.out x hb 2 _ rfl;simp [Addr.add,EW] at y;exact aB rfl rfl (aR a.eval _ 41 (aj 75) rfl (by rw [e75]; simp [go_sem,y])) (hK _ _ rfl (Z _ _) fun _ _ _ _ _ _ _ h=>h)
  ·cases ho;have e76:a.eval (aj 76)=J yo yn yc:=seen.at_ ⟨8,.data⟩ (by simp) rfl (aA (by decide));exact aU rfl rfl (Rw.gY a.eval _ (aj 76) 41 66 rfl e76 rfl _ (fK Tryz.func66 rfl rfl _ _)) (qH (yo,yn,yc) p x (HP.out.on hb) LP.out) fun e w1 h=>by
    obtain⟨⟨s,rfl,h1⟩,h3⟩:=h;exact⟨_,rfl,hK _ _ ⟨s,rfl,dx h1 hb.size⟩ (h3.mono hb.size) fun j u hj _ _ _ hne h=>iJ j u _ _ h h3⟩
  ·cases ho;have e69:a.eval (aj 69)=J (Y ⟨g,0,ah⟩) n cap:=seen.at_ ⟨1,.data⟩ (by simp) rfl (aA (by decide));have e70:a.eval (aj 70)=aD aF (k:Int):=seen.at_ ⟨2,.data⟩ (by simp) rfl (aA (by decide));exact aB rfl rfl (aX a.eval _ 31 (aj 69) (aj 70) rfl (by rw [e69,e70]; exact IX.out x)) (hK _ _ rfl (Z _ _) fun _ _ _ _ _ _ _ h=>h)
  ·cases ho;have e78:a.eval (aj 78)=O (Y ⟨g,k * 3,ah⟩):=seen.at_ ⟨10,.data⟩ (by simp) rfl (aA (by decide));exact aB rfl rfl (aN a.eval _ 61 (aj 78) 1 rfl (by rw [e78]; simp [go_sem])) (hK _ _ rfl (Z _ _) fun _ _ _ _ _ _ _ h=>h)
 ·intro kk o h1 h2 ho;omega
 ·intro a w' df sz kp ⟨vs,hv⟩ hb;have sz':a.tmps.size=82:=sz;have g79:a.tmps[79]?=Y (O (Y ⟨g,k * 3+2,ah⟩)):=by
   have h:vs 11=O (Y ⟨g,k * 3+2,ah⟩):=(hv 11 (by omega)).2 (by decide);rw [<- h];exact (hv 11 (by omega)).1
  obtain⟨⟨s1,s2,s3⟩,hs,hc⟩:=(hv 9 (by omega)).2 (by decide);have g77:a.tmps[77]?=Y (J s1 s2 s3):=((hv 9 (by omega)).1).trans (congrArg Y hs);rw [hs] at hc;obtain⟨w2,hr,st1,st2,st3⟩:=ZR (k:=k) s1 s2 s3 (Bk.dh HO.out hb) HY.out;obtain⟨cur,hg⟩:=jN (Bk.dh HO.out hb);show aS _ _ _ 1 12 a w';simp only [aS];refine aV 41 (aj 79) (aj 77) rfl rfl rfl rfl (aO g79) (aO g77) (w':=w2) hr ?_;have qF:∀ j,(j<68\/80<=j)->(a).tmps[j]?=(u0::O (Y ⟨b1,0,ah⟩)::u2::u3::u4::aD aF (k:Int)::u6::u7::u8::u9::u10::u11::u12::u13::u14::u15::u16::u17::u18::u19::u20::u21::u22::u23::u24::u25::u26::u27::u28::u29::u30::u31::u32::u33::u34::u35::u36::u37::u38::u39::u40::u41::u42::u43::u44::u45::u46::u47::u48::u49::u50::u51::u52::u53::u54::u55::u56::u57::u58::u59::u60::u61::u62::u63::u64::u65::u66::u67::u68::u69::u70::u71::u72::u73::u74::u75::u76::u77::u78::u79::u80::u81::[])[j]?:=fun j hj=>(kp j (nd j (by omega))).trans U;obtain⟨mid,hmid,hfr⟩:=bg (a:=a) 68 12 df (by simp [sz']) (by simp) qF;show Q .normal (a) _;rw [hfr]
  match mid,hmid with
  | [v68,v69,v70,v71,v72,v73,v74,v75,v76,v77,v78,v79],_ =>
   exact HQ.out _ _ _ _ _ _ _ _ _ _ _ _ _ s1 s2 s3 (st2.own hc hg (by decide)) st1 ((But.of_below hb).trans st2) fun B1 hB hl=>st3 B1 W hB (hb.mono hl)
structure yZ (b:Br):Prop where
 dL:∀ a∈b.dL,a.p.length<=900
 ent:∀ a∈b.ent,a.p.length<=900
 own:∀ a∈b.own,a.p.length<=900
theorem iK {α:Type} {E:Ek α} {W:aG} {B n cap:Nat} {o:Option aM} {l:List α} (h:Own E W B (J o n cap) l):l.length=n:=by
 obtain⟨_,_,hv⟩:=(Row.dn h).len;have:n=l.length:=by simpa using congrArg (fun v=>match v with | Value.slice _ n _=>n | _=>0) hv
 exact this.symm
theorem za {α:Type} {E:Ek α} {W:aG} {B n cap:Nat} {o:Option aM} {l:List α} (h:Own E W B (J o n cap) l) (hn:0<n):∃ g,o=Y ⟨g,0,ah⟩/\B<=g:=by
 have hl:=iK h;rcases iP h with⟨_,h2⟩|⟨g,c',cur,h1,h2,_⟩
 ·rw [h2] at hl; simp at hl; omega
 ·exact⟨g,by simp at h1; exact h1.1,h2⟩
theorem fV (w:aG) (b:Nat) (a0 a1 a2 a3 a4 a5:aC):But b w (gM w b a0 a1 a2 a3 a4 a5) :=
 (((dQ _ b _ _).trans (dQ _ b _ _)).trans ((dQ _ b _ _).trans (dQ _ b _ _))).trans ((dQ _ b _ _).trans (dQ _ b _ _))
theorem Cs.done {w0 w wr:aG} {b:Br} {nv sv:Sl} {p2 p4 p5:Option aM} {q2 s2 q4 s4 q5 s5:Nat} (h:Cs w0 w wr b q2 q4 q5 nv (p2,q2,s2) sv (p4,q4,s4) (p5,q5,s5)) (a0 a1 a2 a3 a4 a5:aC):Cp (vw w0) w.heap.size (gM wr (w.heap.size+1) a0 a1 a2 a3 a4 a5) b nv (p2,q2,s2) sv (p4,q4,s4) (p5,q5,s5)/\Below w.heap.size w (gM wr (w.heap.size+1) a0 a1 a2 a3 a4 a5):=by
 obtain⟨l1,d1,d2,d3⟩:=h.dL;obtain⟨l2,e1,e2,e3⟩:=h.ent;obtain⟨l3,f1,f2,f3⟩:=h.own;have n1:l1.length=q2:=iK d1;have n2:l2.length=q4:=iK e1;have n3:l3.length=q5:=iK f1;rw [ay (by omega),ay (by have:=d2.len; omega)] at d3;rw [ay (by omega),ay (by have:=e2.len; omega)] at e3;rw [ay (by omega),ay (by have:=f2.len; omega)] at f3;exact⟨Cp.but ⟨h.near,h.seen,⟨l1,d1,d3⟩,⟨l2,e1,e3⟩,⟨l3,f1,f3⟩⟩ (fV wr (w.heap.size+1) a0 a1 a2 a3 a4 a5) h.bz,dw h.tu (by omega) a0 a1 a2 a3 a4 a5⟩
theorem wF (b:Br) (nv av sv ev ov:Sl) (w0 w:aG) (hw0:Below w0.heap.size w0 w) (h:gZ w0 b nv av sv ev ov) (hf:Qc b) (hp:yZ b) :
  Calls Tryz.prog 50 #[nG b.me nv av sv ev ov] w fun e w'=>(∃ nv' AP Ja ev' Xw:Sl,e=.returned (nG b.me nv' AP Ja ev' Xw)/\Cp (vw w0) w.heap.size w' b nv' AP Ja ev' Xw)/\Below w.heap.size w w':=by
 obtain⟨no,nn,nc⟩:=nv;obtain⟨ao,an,ac⟩:=av;obtain⟨so,sn,sc⟩:=sv;obtain⟨eo,en,ec⟩:=ev;obtain⟨oo,dN,oc⟩:=ov;obtain⟨la,ha1,ha2⟩:=h.dL;obtain⟨le,he1,he2⟩:=h.ent;obtain⟨xX,ho1,ho2⟩:=h.own;have HA:=L ha2;have HE:=L he2;have HO:=L ho2;have R0:=L (h.near.on hw0);have R1:=L (ha1.on hw0);have R2:=L (h.seen.on hw0);have R3:=L (he1.on hw0);have R4:=L (ho1.on hw0);have W0:=L hw0;have HP:=L hp;have LL0:=L hf.near;have LL1:=L (show la.length<=900 by rw [ha2.len]; exact hf.dL);have LL2:=L hf.seen;have LL3:=L (show le.length<=900 by rw [he2.len]; exact hf.ent);have LL4:=L (show xX.length<=900 by rw [ho2.len]; exact hf.own);obtain⟨h0,h1,h2⟩:=gG w #[aD aF b.me,J no nn nc,J ao an ac,J so sn sc,J eo en ec,J oo dN oc] #[aD aF 0,J ah 0 0,J ah 0 0,J ah 0 0,J ah 0 0,J ah 0 0] 33 33;have B0:=L h0;have XB:=L h1;have ZB:=L h2;clear h0 h1 h2 h hf hp hw0 ha1 ha2 he1 he2 ho1 ho2;go_enter Tryz.func50,Tryz.ntmps50;go_upto_region 1 with fail;generalize (w.alloc (.cells #[aD aF b.me,J no nn nc,J ao an ac,J so sn sc,J eo en ec,J oo dN oc] 33)).alloc (.cells #[aD aF 0,J ah 0 0,J ah 0 0,J ah 0 0,J ah 0 0,J ah 0 0] 33)=W at *;refine cp1 _ W w.heap.size b.me (J ao an ac) (J eo en ec) (J oo dN oc) no nn nc b.near so sn sc b.seen _ _ _ _ _ _ _ _ _ _ _ _ _ _ _ _ _ _ _ _ _ _ _ _ _ _ _ _ _ _ _ _ _ _ _ _ _ _ _ _ _ _ _ _ _ _ _ _ _ _ _ _ _ _ _ _ _ _ _ _ _ _ _ _ _ _ _ _ _ _ _ _ _ _ _ _ _ _ _ _ _ XB.out (R0.out.on B0.out) (R2.out.on B0.out) LL0.out LL2.out ?_;intro x1 v6 v7 v8 v9 v10 v11 v12 v13 p1 q1 s1 p3 q3 s3 hb1 hn1 hs1 QL QM;have B1:=L (B0.out.trans (QL _ (aK _)));have S1:=L (show W.heap.size<=x1.heap.size from (QL _ (aK _)).size);have ZB1:=L (show dG x1 (w.heap.size+1) _ _ from (QM _ ZB.out.lt (by omega)).trans ZB.out);have XB1:=L hb1;have N1:=L (dx hn1 B0.out.size);have J1:=L (dx hs1 B0.out.size);clear hb1 hn1 hs1 QL QM XB ZB;go_upto_region 2 with fail;refine cp2 _ x1 w.heap.size b.me (J p1 q1 s1) (J p3 q3 s3) ao an ac la eo en ec le oo dN oc xX _ _ _ _ _ _ _ _ _ _ _ _ _ _ _ _ _ _ _ _ _ _ _ _ _ _ _ _ _ _ _ _ _ _ _ _ _ _ _ _ _ _ _ _ _ _ _ _ _ _ _ _ _ _ _ _ _ _ _ _ _ _ _ _ _ _ _ _ _ _ _ _ _ _ _ _ _ _ _ _ _ XB1.out (R1.out.on B1.out) (R3.out.on B1.out) (R4.out.on B1.out) LL1.out LL3.out LL4.out ?_;intro x2 v14 v15 v16 v17 v18 v19 v20 v21 v22 v23 v24 v25 p2 q2 s2 p4 q4 s4 p5 q5 s5 hb2 ha2 he2 ho2 Kw D7;have CS:=L (show Cs w0 w x2 b 0 0 0 (p1,q1,s1) (p2,q2,s2) (p3,q3,s3) (p4,q4,s4) (p5,q5,s5) from {
  tu:=B1.out.trans (Kw _ (aK _))
  bx:=hb2
  bz:=(D7 _ ZB1.out.lt (by omega)).trans ZB1.out
  near:=But.own ⟨D7,(Kw _ (aK _)).size⟩ N1.out XB1.out (by decide)
  seen:=But.own ⟨D7,(Kw _ (aK _)).size⟩ J1.out XB1.out (by decide)
  dL:=⟨la,dx ha2 B1.out.size,HA.out.mono fun _ _ q=>⟨q.1,q.2.1,aY q.2.2⟩,.nil⟩
  ent:=⟨le,dx he2 B1.out.size,HE.out.mono fun _ _ q=>⟨q.1,q.2.1,q.2.2.1,q.2.2.2.1,aY q.2.2.2.2⟩,.nil⟩
  own:=⟨xX,dx ho2 B1.out.size,HO.out.mono fun _ _ q=>⟨q.1,aY q.2⟩,.nil⟩ })
 have Q2:=L (show q2<=900 from by rw [<- iK ha2]; exact LL1.out);have Q4:=L (show q4<=900 from by rw [<- iK he2]; exact LL3.out);have Q5:=L (show q5<=900 from by rw [<- iK ho2]; exact LL4.out);clear hb2 ha2 he2 ho2 Kw D7 XB1 ZB1 N1 J1 B1 S1 R0 R1 R2 R3 R4 HA HE HO LL0 LL1 LL2 LL3 LL4 B0;have cf2:=CS.out.bx.cell 2;simp only [U,V,X] at cf2;go_wp2
 go_loopw [29] (fun i wr=>∃ k:Nat,k<=q2/\i=aD aF k/\Cs w0 w wr b k 0 0 (p1,q1,s1) (p2,q2,s2) (p3,q3,s3) (p4,q4,s4) (p5,q5,s5)) (fun i _=>q2-(intOf i).toNat)
 case atStart=>exact⟨0,aP _,rfl,CS.out⟩
 case round =>
  obtain⟨k,hk,rfl,hcs⟩:=hrel;have CS:=L hcs;have hq:=Q2.out;clear hcs;by_cases hlt:k<q2
  ·obtain⟨l,hl,hA,hV⟩:=CS.out.dL;have hln:l.length=q2:=iK hl;obtain⟨g,rfl,hBg⟩:∃ g,p2=Y ⟨g,0,ah⟩/\w.heap.size<=g:=za hl (show 0<q2 by omega);obtain⟨y,hy⟩:∃ y,l[k]?=Y y:=⟨_,au (by omega)⟩;obtain⟨a,ha⟩:∃ a,b.dL[k]?=Y a:=⟨_,au (by have h:=hA.len; have h2:l.length=q2:=hln; omega)⟩;obtain⟨y',hy',hym⟩:=hA.at k a ha;rw [hy] at hy';obtain rfl:=aL hy';obtain⟨y1,y2,⟨yo,yn,yc⟩,y4⟩:=y;have HW:=L hl;have Xx:=L hA;have Xy:=L hV;have Au:=L hym;have QN:=L hy;have Ky:=L ha;have Xz:=L hBg;have hw3:IntKind.i64.wrap ((k:Int)+1)=(k:Int)+1:=IntWalk.i64_in _ (by omega);clear hl hA hV hln hy ha hy' hym hBg cf2;go_upto_region 6 with fail;refine cp6 _ wr w.heap.size l w.heap.size b.me (J p1 q1 s1) (J p3 q3 s3) (J p4 q4 s4) (J p5 q5 s5) g q2 s2 k y1 y2 yo yn yc y4 a.p _ _ _ _ _ _ _ _ _ _ _ _ _ _ _ _ _ _ _ _ _ _ _ _ _ _ _ _ _ _ _ _ _ _ _ _ _ _ _ _ _ _ _ _ _ _ _ _ _ _ _ _ _ _ _ _ _ _ _ _ _ _ _ _ _ _ _ _ _ _ _ _ _ _ _ _ _ _ _ _ CS.out.bx HW.out QN.out (Au.out.2.2.row (W0.out.trans (CS.out.tu.mono W0.out.size))) (HP.out.dL a (aH Ky.out)) ?_;intro x v32 v33 v34 v35 v36 v37 v38 v39 v40 v41 t1 t2 t3 hC hO uP hBel;have CS2:=L (show Cs w0 w x b (k+1) 0 0 (p1,q1,s1) (Y ⟨g,0,ah⟩,q2,s2) (p3,q3,s3) (p4,q4,s4) (p5,q5,s5) from by
    obtain⟨cur,hg⟩:=jN HW.out;exact CS.out.Qs HW.out hO uP (CS.out.tu.trans (hBel _ Xz.out CS.out.tu.size)) (dX.set k _ a (Xx.out.mono fun _ _ q=>q.but uP hg (by decide)) Ky.out ⟨Au.out.1,Au.out.2.1,aA (dx hC CS.out.tu.size)⟩) (vY (Xy.out.mono fun _ _ q=>q.but uP hg (by decide)) (ak.1 QN.out).1 Ky.out ⟨Au.out.1,Au.out.2.1,aA (dx hC CS.out.tu.size)⟩))
   clear hC hO uP hBel CS HW Xx Xy Au QN Ky Xz;go_wp2
   go_roundw
   case rel=>exact⟨k+1,by omega,by go_num,CS2.out⟩
   case measure=>simp [intOf]; omega
  ·obtain rfl:q2=k:=by omega
   have cf4:=CS.out.bx.cell 4;simp only [U,V,X] at cf4;clear hlt;go_wp2
   go_loopw [46] (fun i wr=>∃ k:Nat,k<=q4/\i=aD aF k/\Cs w0 w wr b q2 k 0 (p1,q1,s1) (p2,q2,s2) (p3,q3,s3) (p4,q4,s4) (p5,q5,s5)) (fun i _=>q4-(intOf i).toNat)
   case atStart=>exact⟨0,aP _,rfl,CS.out⟩
   case round =>
    obtain⟨k,hk,rfl,hcs⟩:=hrel;have CS:=L hcs;have hq:=Q4.out;clear hcs;by_cases hlt:k<q4
    ·obtain⟨l,hl,hA,hV⟩:=CS.out.ent;have hln:l.length=q4:=iK hl;obtain⟨g,rfl,hBg⟩:∃ g,p4=Y ⟨g,0,ah⟩/\w.heap.size<=g:=za hl (show 0<q4 by omega);obtain⟨y,hy⟩:∃ y,l[k]?=Y y:=⟨_,au (by omega)⟩;obtain⟨a,ha⟩:∃ a,b.ent[k]?=Y a:=⟨_,au (by have h:=hA.len; have h2:l.length=q4:=hln; omega)⟩;obtain⟨y',hy',hym⟩:=hA.at k a ha;rw [hy] at hy';obtain rfl:=aL hy';obtain⟨y1,y2,y3,y4,⟨yo,yn,yc⟩,y6,y7⟩:=y;have HW:=L hl;have Xx:=L hA;have Xy:=L hV;have Au:=L hym;have QN:=L hy;have Ky:=L ha;have Xz:=L hBg;have hw3:IntKind.i64.wrap ((k:Int)+1)=(k:Int)+1:=IntWalk.i64_in _ (by omega);clear hl hA hV hln hy ha hy' hym hBg cf4;go_upto_region 11 with fail;refine aen _ wr w.heap.size l w.heap.size b.me (J p1 q1 s1) (J p2 q2 s2) (J p3 q3 s3) (J p5 q5 s5) g q4 s4 k y1 y2 y3 y4 yo yn yc y6 y7 a.p _ _ _ _ _ _ _ _ _ _ _ _ _ _ _ _ _ _ _ _ _ _ _ _ _ _ _ _ _ _ _ _ _ _ _ _ _ _ _ _ _ _ _ _ _ _ _ _ _ _ _ _ _ _ _ _ _ _ _ _ _ _ _ _ _ _ _ _ _ _ _ _ _ _ _ _ _ _ _ _ CS.out.bx HW.out QN.out (Au.out.2.2.2.2.row (W0.out.trans (CS.out.tu.mono W0.out.size))) (HP.out.ent a (aH Ky.out)) ?_;intro x v49 v50 v51 v52 v53 v54 v55 v56 v57 v58 v59 v60 t1 t2 t3 hC hO uP hBel;have CS2:=L (show Cs w0 w x b q2 (k+1) 0 (p1,q1,s1) (p2,q2,s2) (p3,q3,s3) (Y ⟨g,0,ah⟩,q4,s4) (p5,q5,s5) from by
      obtain⟨cur,hg⟩:=jN HW.out;exact CS.out.aeg HW.out hO uP (CS.out.tu.trans (hBel _ Xz.out CS.out.tu.size)) (dX.set k _ a (Xx.out.mono fun _ _ q=>q.but uP hg (by decide)) Ky.out ⟨Au.out.1,Au.out.2.1,Au.out.2.2.1,Au.out.2.2.2.1,aA (dx hC CS.out.tu.size)⟩) (vY (Xy.out.mono fun _ _ q=>q.but uP hg (by decide)) (ak.1 QN.out).1 Ky.out ⟨Au.out.1,Au.out.2.1,Au.out.2.2.1,Au.out.2.2.2.1,aA (dx hC CS.out.tu.size)⟩))
     clear hC hO uP hBel CS HW Xx Xy Au QN Ky Xz;go_wp2
     go_roundw
     case rel=>exact⟨k+1,by omega,by go_num,CS2.out⟩
     case measure=>simp [intOf]; omega
    ·obtain rfl:q4=k:=by omega
     have cf5:=CS.out.bx.cell 5;simp only [U,V,X] at cf5;clear hlt;go_wp2
     go_loopw [65] (fun i wr=>∃ k:Nat,k<=q5/\i=aD aF k/\Cs w0 w wr b q2 q4 k (p1,q1,s1) (p2,q2,s2) (p3,q3,s3) (p4,q4,s4) (p5,q5,s5)) (fun i _=>q5-(intOf i).toNat)
     case atStart=>exact⟨0,aP _,rfl,CS.out⟩
     case round =>
      obtain⟨k,hk,rfl,hcs⟩:=hrel;have CS:=L hcs;have hq:=Q5.out;clear hcs;by_cases hlt:k<q5
      ·obtain⟨l,hl,hA,hV⟩:=CS.out.own;have hln:l.length=q5:=iK hl;obtain⟨g,rfl,hBg⟩:∃ g,p5=Y ⟨g,0,ah⟩/\w.heap.size<=g:=za hl (show 0<q5 by omega);obtain⟨y,hy⟩:∃ y,l[k]?=Y y:=⟨_,au (by omega)⟩;obtain⟨a,ha⟩:∃ a,b.own[k]?=Y a:=⟨_,au (by have h:=hA.len; have h2:l.length=q5:=hln; omega)⟩;obtain⟨y',hy',hym⟩:=hA.at k a ha;rw [hy] at hy';obtain rfl:=aL hy';obtain⟨y1,y2,⟨yo,yn,yc⟩⟩:=y;have HW:=L hl;have Xx:=L hA;have Xy:=L hV;have Au:=L hym;have QN:=L hy;have Ky:=L ha;have Xz:=L hBg;have hw3:IntKind.i64.wrap ((k:Int)+1)=(k:Int)+1:=IntWalk.i64_in _ (by omega);clear hl hA hV hln hy ha hy' hym hBg cf5;go_upto_region 16 with fail;refine aep _ wr w.heap.size l w.heap.size b.me (J p1 q1 s1) (J p2 q2 s2) (J p3 q3 s3) (J p4 q4 s4) g q5 s5 k y1 y2 yo yn yc a.p _ _ _ _ _ _ _ _ _ _ _ _ _ _ _ _ _ _ _ _ _ _ _ _ _ _ _ _ _ _ _ _ _ _ _ _ _ _ _ _ _ _ _ _ _ _ _ _ _ _ _ _ _ _ _ _ _ _ _ _ _ _ _ _ _ _ _ _ _ _ _ _ _ _ _ _ _ _ _ _ CS.out.bx HW.out QN.out (Au.out.2.row (W0.out.trans (CS.out.tu.mono W0.out.size))) (HP.out.own a (aH Ky.out)) ?_;intro x v68 v69 v70 v71 v72 v73 v74 v75 v76 v77 v78 v79 t1 t2 t3 hC hO uP hBel;have CS2:=L (show Cs w0 w x b q2 q4 (k+1) (p1,q1,s1) (p2,q2,s2) (p3,q3,s3) (p4,q4,s4) (Y ⟨g,0,ah⟩,q5,s5) from by
        obtain⟨cur,hg⟩:=jN HW.out;exact CS.out.setW HW.out hO uP (CS.out.tu.trans (hBel _ Xz.out CS.out.tu.size)) (dX.set k _ a (Xx.out.mono fun _ _ q=>q.but uP hg (by decide)) Ky.out ⟨Au.out.1,aA (dx hC CS.out.tu.size)⟩) (vY (Xy.out.mono fun _ _ q=>q.but uP hg (by decide)) (ak.1 QN.out).1 Ky.out ⟨Au.out.1,aA (dx hC CS.out.tu.size)⟩))
       clear hC hO uP hBel CS HW Xx Xy Au QN Ky Xz;go_wp2
       go_roundw
       case rel=>exact⟨k+1,by omega,by go_num,CS2.out⟩
       case measure=>simp [intOf]; omega
      ·obtain rfl:q5=k:=by omega
       have X1:=CS.out.bx;have Z1:=CS.out.bz;obtain⟨x0,x1,x2,x3,x4,x5⟩:=X1.eZ;obtain⟨r0,r1,r2,r3,r4,r5⟩:=Z1.eZ;obtain⟨t0,t1,t2,t3,t4,t5⟩:=Z1.kg;have zz:=Z1.lt;have FB:=L (dH Z1 (aD aF b.me) (J p1 q1 s1) (J p2 q2 s2) (J p3 q3 s3) (J p4 q4 s4) (J p5 q5 s5));have FD:=L (CS.out.done (aD aF b.me) (J p1 q1 s1) (J p2 q2 s2) (J p3 q3 s3) (J p4 q4 s4) (J p5 q5 s5));clear X1 Z1 CS;go_wp2_with fail;obtain⟨v0,v1,v2,v3,v4,v5⟩:=FB.out.eZ;refine bodyPost_ret (v:=.agg #[aD aF b.me,J p1 q1 s1,J p2 q2 s2,J p3 q3 s3,J p4 q4 s4,J p5 q5 s5]) (by simp [results,Tryz.results50,go_sem,v0,v1,v2,v3,v4,v5]) rfl ?_;exact⟨⟨(p1,q1,s1),(p2,q2,s2),(p3,q3,s3),(p4,q4,s4),(p5,q5,s5),rfl,FD.out.1⟩,FD.out.2⟩
end Av
end Go.Proofs.YtkcfgbddlpomgaaGreat
