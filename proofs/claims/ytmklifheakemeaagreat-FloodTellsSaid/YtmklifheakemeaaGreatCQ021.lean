/-
  slices.BinarySearch . Conditions as told.
-/
import Derived.Test.YtmklifheakemeaaGreatCQ020
import Derived.OpenShut
import Derived.Carry
import Derived.ChangeMaps5
import Derived.ChangeArms
set_option maxRecDepth 100000
set_option maxHeartbeats 64000000
open _root_.Bool renaming true->aS,false->bI,and_eq_true->dx
open _root_.Go renaming World->aG,Value->aI,Calls->bF,Addr->bS,TypeId->cu
open Go.Calls renaming regrown_of->bH,mono->cK
open Go.DataW renaming trod->aP,trod_int->aZ,trod_struct->bG
open Go.Ending renaming returned->aH
open Go.Instr renaming indexAt->aX
open Go.IntKind renaming i64->aj
open Go.IntWalk renaming i64_in->aM
open Go.Lib renaming hid->J,compact->aJ,compactUpTo->aW
open Go.Obj renaming cells->aL
open Go.Operand renaming tmp->bf
open Go.Proofs.Tryz renaming prog->Z,underlying3->aQ,underlying49->bR,underlying45->dn,underlying47->dw
open Go.Region renaming binds->aV
open Go.RowKit.Below renaming refl->aF,heap_setCell->aO
open Go.Sort renaming ahead->aU
open Go.Value renaming slice->O,int->ah,pointer->aD,bool->bK,agg->dB
open Go.World renaming block_lt_of_cell?->aT
open _root_.List renaming getElem?_eq_getElem->U,getElem?_eq_some_iff->au,getElem?_cons_zero->ay,getElem?_cons_succ->aA,getElem?_toArray->aB,drop_succ_cons->bg,take_succ_cons->bD,mem_iff_getElem->bJ,replicate->bL,drop_zero->bM,take_zero->bN,pairwise_iff_getElem->bQ,mem_append_right->bV,mem_append_left->bZ,getElem?_take->cB,mem_singleton->cO,length_append->cZ
open _root_.Nat renaming le_refl->aN,lt_or_ge->aR,le_trans->bU,zero_le->bX,mul_le_mul_right->bY,zero_add->dh
open _root_.Option renaming some->ak,none->aC
open Option.some renaming inj->aK
open _root_.Or renaming inr->aY
namespace Go.Proofs.YtmklifheakemeaaGreat
namespace Av
open Go.RowKit Go.Sort Rw YtmklifheakemeaaGreat.Nm Pr Bk
theorem Ch (a:Int) (w:aG):bF Z 175 #[ah aj a] w fun e w'=>e=aH (bK bI)/\w'=w:=by
 go_enter Tryz.func175,Tryz.ntmps175;go_wp2;go_ret;exact⟨by simp,rfl⟩
theorem E8 (a b:Int) (r:Bool) (hr:decide (a<b)=r) (w:aG):bF Z 135 #[ah aj a,ah aj b] w fun e w'=>e=aH (bK r)/\w'=w:=by
 go_enter Tryz.func135,Tryz.ntmps135;go_wp2_with (go_at_call 111; refine (uS _ _).mono ?_; rintro e w' ⟨rfl,rfl⟩);go_ret;exact⟨by first | rfl | (subst hr; rfl),rfl⟩
theorem aaJ (v:aI) (l:List Int) (t:Int) (w:aG) (hv:qF w v l) (hs:l.Pairwise (·<=·)) (hl:l.length<=900) :
  bF Z 154 #[v,ah aj t] w fun e w'=>(∃ k:Nat,e=aH (.tuple #[ah aj k,bK (decide (t∈l))]))/\w'=w:=by
 have HL:=J hv;have HS:=J (bQ.1 hs);obtain⟨ao,ac,rfl⟩:=hv.len;obtain⟨n,hn⟩:∃ n,n=l.length:=⟨_,rfl⟩;rw [<- hn] at HL hl ⊢;have HN:=J hn;obtain⟨th,ht⟩:∃ k,k=decide (t∈l):=⟨_,rfl⟩;rw [<- ht];have HT:=J ht;clear hv hs hn ht;go_enter Tryz.func154,Tryz.ntmps154;go_wp2
 go_loopg [7,8] n (fun kx s7 s8 wr=>∃ lo hi:Nat,s7=ah aj lo/\s8=ah aj hi/\lo<=hi/\hi<=n/\hi-lo<=kx/\RowKit.Hid (wr=w) /\
  (∀ (j:Nat) (y:Int),j<lo->l[j]?=ak y->y<t)/\(∀ (j:Nat) (y:Int),hi<=j->l[j]?=ak y->t<=y))
 case atStart=>exact⟨0,n,rfl,rfl,bX _,aN _,by omega,by first | exact J rfl | exact J trivial,fun j y h=>by omega,fun j y h1 h2=>by have:=(au.1 h2).1; have:=HN.out; omega⟩
 case round =>
  obtain⟨lo,hi,rfl,rfl,hlh,hin,hg,hw,ha,hz⟩:=hrel;obtain rfl:=hw.out;clear hw;have AL:=J ha;have ZL:=J hz;clear ha hz;by_cases hlt:lo<hi
  ·obtain⟨y,hy⟩:∃ y,l[(lo+hi) / 2]?=ak y:=⟨_,U (by have:=HN.out; omega)⟩;obtain⟨p,ix,_,px⟩:=elI HL.out rfl HN.out.symm hy;have p0:=px wr (aF _ _);have Y:=J hy;have e23:((lo:Int)+(hi:Int)) / 2=(((lo+hi) / 2:Nat):Int):=by omega
   generalize hm:(lo+hi) / 2=m at *;have hcmp:∀ (i j:Nat) (a b:Int),i<=j->l[i]?=ak a->l[j]?=ak b->a<=b:=by
    intro i j a b hij h1 h2;obtain⟨q1,rfl⟩:=au.1 h1;obtain⟨q2,rfl⟩:=au.1 h2;rcases aR i j with h|h
    ·exact HS.out i j q1 q2 h
    ·obtain rfl:i=j:=by omega
     exact Int.le_refl _
   have CM:=J hcmp;clear px hy hcmp;by_cases hneg:y<t
   ·have C:=E8 y t aS (by simpa using hneg);go_wp2_with fail;refine (C _).mono ?_;rintro e w' ⟨rfl,rfl⟩;clear C ix p0;go_wp2
    go_roundg (hi-(m+1))
    case measure=>omega
    case rel=>exact⟨m+1,hi,by go_num,rfl,by omega,hin,aN _,by first | exact J rfl | exact J trivial,fun j z h1 h2=>by
     have:=CM.out j m z y (by omega) h2 Y.out;omega,ZL.out⟩
   ·have C:=E8 y t bI (by simp; omega);go_wp2_with fail;refine (C _).mono ?_;rintro e w' ⟨rfl,rfl⟩;clear C ix p0;go_wp2
    go_roundg (m-lo)
    case measure=>omega
    case rel=>exact⟨lo,m,rfl,rfl,by omega,by omega,aN _,by first | exact J rfl | exact J trivial,AL.out,fun j z h1 h2=>by
     have:=CM.out m j y z h1 Y.out h2;omega⟩
  ·obtain rfl:hi=lo:=by omega
   have af3:∀ x,l[hi]?=ak x->(t∈l↔x=t):=by
    intro x hx;constructor
    ·intro hm;obtain⟨j,hj,rfl⟩:=bJ.1 hm;have h1:=ZL.out hi x (aN _) hx;obtain⟨q1,rfl⟩:=au.1 hx;rcases Nat.lt_trichotomy j hi with h|h|h
     ·have:=AL.out j _ h (U hj); omega
     ·subst h; rfl
     ·have:=HS.out hi j q1 hj h; omega
    ·rintro rfl;exact List.mem_of_getElem? hx
   by_cases hn:hi<n
   ·obtain⟨x,hx⟩:∃ x,l[hi]?=ak x:=⟨_,U (by have:=HN.out; omega)⟩;obtain⟨p,ix,_,px⟩:=elI HL.out rfl HN.out.symm hx;have p0:=px wr (aF _ _);have g4:decide ((hi:Int)<(n:Int))=aS:=by simp; omega
    have MK:=af3 x hx;clear af3 px;by_cases he:x=t
    ·have TH:=J (show th=aS by rw [HT.out,decide_eq_true (MK.2 he)]);have g5:(x == t)=aS:=by simp [he]
     clear hx MK he hlt;go_wp2_with (go_at_call 175; refine (Ch _ _).mono ?_; rintro e w' ⟨rfl,rfl⟩)
     go_ret2
     exact⟨⟨hi,by rw [TH.out]; rfl⟩,rfl⟩
    ·have TH:=J (show th=bI by rw [HT.out,decide_eq_false (fun h=>he (MK.1 h))]);have g5:(x == t)=bI:=by simp [he]
     clear hx MK he hlt;go_wp2_with (go_at_call 175; refine (Ch _ _).mono ?_; rintro e w' ⟨rfl,rfl⟩)
     go_ret2
     exact⟨⟨hi,by rw [TH.out]; rfl⟩,rfl⟩
   ·have TH:=J (show th=bI by
     rw [HT.out];refine decide_eq_false fun hm=>?_;obtain⟨j,hj,hjt⟩:=bJ.1 hm;have:=AL.out j _ (by have:=HN.out; omega) (U hj);omega)
    have g4:decide ((hi:Int)<(n:Int))=bI:=by simp; omega
    clear hlt af3;go_wp2_with fail
    go_ret2
    exact⟨⟨hi,by rw [TH.out]; rfl⟩,rfl⟩
def iL (near:List Int) (f:Int):Bool:=decide (f∈near) || f == -1
theorem Fa (me:Int) (nv:Sl) (z2 z3 z4 z5:aI) (l:List Int) (f:Int) (w:aG) (hn:qF w (dY nv) l) (hs:l.Pairwise (·<=·)) (hl:l.length<=900) :
  bF Z 114 #[dB #[ah aj me,dY nv,z2,z3,z4,z5],ah aj f] w fun e w'=>e=aH (bK (iL l f))/\Below w.heap.size w w':=by
 obtain⟨o1,n1,c1⟩:=nv;have n0:=fF w (aL #[ah aj me,O o1 n1 c1,z2,z3,z4,z5] 28);have X:=dO w #[ah aj me,O o1 n1 c1,z2,z3,z4,z5] 28;have C:=J (aaJ (O o1 n1 c1) l f _ (hn.on n0) hs hl);have x1:=X.cell 1;simp only [aB,ay,aA] at x1;have R:=J (show iL l f=(decide (f∈l) || f == -1) from rfl);generalize iL l f=res at *;generalize decide (f∈l)=r at *;have B0:=J n0;obtain⟨q,hq⟩:∃ q,(f == -1)=q:=⟨_,rfl⟩;rw [hq] at R;clear n0 X hn hs hl;go_enter Tryz.func114,Tryz.ntmps114;go_wp2_with fail;refine C.out.mono ?_;rintro e w1 ⟨⟨k,rfl⟩,rfl⟩;cases r
 ·go_wp2_with fail;go_ret;exact⟨by rw [R.out]; rfl,B0.out⟩
 ·go_wp2_with fail;go_ret;exact⟨by rw [R.out]; rfl,B0.out⟩
def O9 (_B:Nat) (b1 b2:Nat) (x1 x2 x3 x4:Int) (_xo:Option bS) (_xn _xc:Nat) (_x6:Int) (_x7:Bool) (y1 y2 y3 y4:Int) (_yo:Option bS) (_yn _yc:Nat) (_y6:Int) (_y7:Bool) (i:Nat) (v:aI) (x:aG):Prop :=
 match i with
 | 0=>v=aD (ak ⟨b1,0,aC⟩)
 | 1=>v=dB #[ah aj x1,ah aj x2]
 | 2=>v=aD (ak ⟨b2,0,aC⟩)
 | 3=>v=dB #[ah aj y1,ah aj y2]
 | 4=>v=ah aj (gK (x1,x2) (y1,y2))
 | 5=>v=aD (ak ⟨b1,2,aC⟩)
 | 6=>v=dB #[ah aj x3,ah aj x4]
 | 7=>v=aD (ak ⟨b2,2,aC⟩)
 | 8=>v=dB #[ah aj y3,ah aj y4]
 | 9=>v=ah aj (gK (x3,x4) (y3,y4))
 | 10=>∃ g,v=O (ak ⟨g,0,aC⟩) 2 2/\x.cell? ⟨g,0,aC⟩=ak (ah aj (gK (x1,x2) (y1,y2)))/\x.cell? ⟨g,1,aC⟩=ak (ah aj (gK (x3,x4) (y3,y4)))
 | 11=>v=ah aj (Ay (gK (x1,x2) (y1,y2)) (gK (x3,x4) (y3,y4)))
 | _=>True
noncomputable def abF:Code:=((Tryz.f60.body.bind (eO 1)).getD .skip)
theorem UZ (B:Nat) (b1 b2:Nat) (x1 x2 x3 x4:Int) (xo:Option bS) (xn xc:Nat) (x6:Int) (x7:Bool) (y1 y2 y3 y4:Int) (yo:Option bS) (yn yc:Nat) (y6:Int) (y7:Bool) (i:Nat) (v:aI) (x x':aG) (h:O9 B b1 b2 x1 x2 x3 x4 xo xn xc x6 x7 y1 y2 y3 y4 yo yn yc y6 y7 i v x) (hb:Below x.heap.size x x'):O9 B b1 b2 x1 x2 x3 x4 xo xn xc x6 x7 y1 y2 y3 y4 yo yn yc y6 y7 i v x':=by
 by_cases hi:i<12
 ·rcases (by omega:i=0\/i=1\/i=2\/i=3\/i=4\/i=5\/i=6\/i=7\/i=8\/i=9\/i=10\/i=11) with rfl|rfl|rfl|rfl|rfl|rfl|rfl|rfl|rfl|rfl|rfl|rfl
  ·exact h
  ·exact h
  ·exact h
  ·exact h
  ·exact h
  ·exact h
  ·exact h
  ·exact h
  ·exact h
  ·exact h
  ·obtain⟨g,h1,h2,h3⟩:=h; exact⟨g,h1,by rw [hb.cell (aT x _ h2)]; exact h2,by rw [hb.cell (aT x _ h3)]; exact h3⟩
  ·exact h
 ·unfold O9
  split <;> first | omega | trivial
theorem akN (Q:Exit->Act->aG->Prop) (W:aG) (b1 b2:Nat) (x1 x2 x3 x4:Int) (xo:Option bS) (xn xc:Nat) (x6:Int) (x7:Bool) (y1 y2 y3 y4:Int) (yo:Option bS) (yn yc:Nat) (y6:Int) (y7:Bool) (u0 u1 u4 u5 u6 u7 u8 u9 u10 u11 u12 u13 u14 u15 u16:aI)
  (h1:dJ W b1 #[ah aj x1,ah aj x2,ah aj x3,ah aj x4,O xo xn xc,ah aj x6,bK x7] 66) (h2:dJ W b2 #[ah aj y1,ah aj y2,ah aj y3,ah aj y4,O yo yn yc,ah aj y6,bK y7] 66)
  (hQ:∀ (x:aG) (v5 v6 v7 v8 v9 v10 v11 v12 v13 v14 v15 v16:aI),Below W.heap.size W x->Q .normal ⟨(u0::u1::aD (ak ⟨b1,0,aC⟩)::aD (ak ⟨b2,0,aC⟩)::(ah aj (Ay (gK (x1,x2) (y1,y2)) (gK (x3,x4) (y3,y4))))::v5::v6::v7::v8::v9::v10::v11::v12::v13::v14::v15::v16::[]).toArray,[]⟩ x) :
  Code.wp Z abF Q ⟨(u0::u1::aD (ak ⟨b1,0,aC⟩)::aD (ak ⟨b2,0,aC⟩)::u4::u5::u6::u7::u8::u9::u10::u11::u12::u13::u14::u15::u16::[]).toArray,[]⟩ W:=by
 have HQ:=J hQ;have H1:=J h1;have H2:=J h2;clear hQ h1 h2;have iO:=UZ W.heap.size b1 b2 x1 x2 x3 x4 xo xn xc x6 x7 y1 y2 y3 y4 yo yn yc y6 y7;unfold abF
 conv=>arg 2; whnf
 have nd:∀ j,(j<5\/17<=j)->∀ i,i<12->(fun i=>5+i) i≠j:=by
  intro j hj i hi h;simp only at h;omega
 refine Rg.fQ 13 12 (fun i=>5+i) (fun _=>12) (O9 W.heap.size b1 b2 x1 x2 x3 x4 xo xn xc x6 x7 y1 y2 y3 y4 yo yn yc y6 y7) (by kernel_rfl) (by kernel_rfl) rfl (by decide) (fun i j _ _ h=>by have h2:5+i=5+j:=h; omega) (fun i hi=>by show 5+i<17; omega) ?_ (fun _=>Rg.jq 14 (by kernel_rfl)) ?_ ?_
 ·intro i o hi ho a x D hnd hc hD hb seen K hK;clear HQ;rcases (by omega:i=0\/i=1\/i=2\/i=3\/i=4\/i=5\/i=6\/i=7\/i=8\/i=9\/i=10\/i=11) with rfl|rfl|rfl|rfl|rfl|rfl|rfl|rfl|rfl|rfl|rfl|rfl
  ·cases ho;have e2:a.eval (bf 2)=aD (ak ⟨b1,0,aC⟩):=seen.kp 2 _ (nd 2 (by omega)) rfl;exact Rg.dD rfl rfl (Rg.dW a.eval _ 66 (bf 2) 0 rfl (by rw [e2]; simp [go_sem])) (hK _ _ rfl (aF _ _) fun _ _ _ _ _ _ _ h=>h)
  ·cases ho;have e5:a.eval (bf 5)=aD (ak ⟨b1,0,aC⟩):=seen.at_ ⟨0,.data⟩ (by simp) rfl (aY (by decide));have y1:=(H1.out.on hb).cell 1;have y0:=(H1.out.on hb).cell 0;simp only [aB,ay,aA] at y0 y1;exact Rg.dD rfl rfl (Rg.dR a.eval _ 31 (bf 5) rfl (by rw [e5]; simp [go_sem,y0,y1])) (hK _ _ rfl (aF _ _) fun _ _ _ _ _ _ _ h=>h)
  ·cases ho;have e3:a.eval (bf 3)=aD (ak ⟨b2,0,aC⟩):=seen.kp 3 _ (nd 3 (by omega)) rfl;exact Rg.dD rfl rfl (Rg.dW a.eval _ 66 (bf 3) 0 rfl (by rw [e3]; simp [go_sem])) (hK _ _ rfl (aF _ _) fun _ _ _ _ _ _ _ h=>h)
  ·cases ho;have e7:a.eval (bf 7)=aD (ak ⟨b2,0,aC⟩):=seen.at_ ⟨2,.data⟩ (by simp) rfl (aY (by decide));have y1:=(H2.out.on hb).cell 1;have y0:=(H2.out.on hb).cell 0;simp only [aB,ay,aA] at y0 y1;exact Rg.dD rfl rfl (Rg.dR a.eval _ 31 (bf 7) rfl (by rw [e7]; simp [go_sem,y0,y1])) (hK _ _ rfl (aF _ _) fun _ _ _ _ _ _ _ h=>h)
  ·cases ho;have e6:a.eval (bf 6)=dB #[ah aj x1,ah aj x2]:=seen.at_ ⟨1,.data⟩ (by simp) rfl (aY (by decide));have e8:a.eval (bf 8)=dB #[ah aj y1,ah aj y2]:=seen.at_ ⟨3,.data⟩ (by simp) rfl (aY (by decide));exact Rg.gL rfl rfl (Rw.tN a.eval _ (bf 6) (bf 8) 31 31 56 rfl e6 e8 rfl _ (EP _ _)) (pQ (x1,x2) (y1,y2) x) fun e w1 h=>by
    obtain⟨rfl,h3⟩:=h;exact⟨_,rfl,hK _ _ rfl (h3.mono hb.size) fun j u hj _ _ _ hne h=>iO j u _ _ h h3⟩
  ·cases ho;have e2:a.eval (bf 2)=aD (ak ⟨b1,0,aC⟩):=seen.kp 2 _ (nd 2 (by omega)) rfl;exact Rg.dD rfl rfl (Rg.dW a.eval _ 66 (bf 2) 1 rfl (by rw [e2]; simp [go_sem])) (hK _ _ rfl (aF _ _) fun _ _ _ _ _ _ _ h=>h)
  ·cases ho;have e10:a.eval (bf 10)=aD (ak ⟨b1,2,aC⟩):=seen.at_ ⟨5,.data⟩ (by simp) rfl (aY (by decide));have y2:=(H1.out.on hb).cell 2;have y3:=(H1.out.on hb).cell 3;simp only [aB,ay,aA] at y2 y3;exact Rg.dD rfl rfl (Rg.dR a.eval _ 31 (bf 10) rfl (by rw [e10]; simp [go_sem,y2,y3])) (hK _ _ rfl (aF _ _) fun _ _ _ _ _ _ _ h=>h)
  ·cases ho;have e3:a.eval (bf 3)=aD (ak ⟨b2,0,aC⟩):=seen.kp 3 _ (nd 3 (by omega)) rfl;exact Rg.dD rfl rfl (Rg.dW a.eval _ 66 (bf 3) 1 rfl (by rw [e3]; simp [go_sem])) (hK _ _ rfl (aF _ _) fun _ _ _ _ _ _ _ h=>h)
  ·cases ho;have e12:a.eval (bf 12)=aD (ak ⟨b2,2,aC⟩):=seen.at_ ⟨7,.data⟩ (by simp) rfl (aY (by decide));have y2:=(H2.out.on hb).cell 2;have y3:=(H2.out.on hb).cell 3;simp only [aB,ay,aA] at y2 y3;exact Rg.dD rfl rfl (Rg.dR a.eval _ 31 (bf 12) rfl (by rw [e12]; simp [go_sem,y2,y3])) (hK _ _ rfl (aF _ _) fun _ _ _ _ _ _ _ h=>h)
  ·cases ho;have e11:a.eval (bf 11)=dB #[ah aj x3,ah aj x4]:=seen.at_ ⟨6,.data⟩ (by simp) rfl (aY (by decide));have e13:a.eval (bf 13)=dB #[ah aj y3,ah aj y4]:=seen.at_ ⟨8,.data⟩ (by simp) rfl (aY (by decide));exact Rg.gL rfl rfl (Rw.tN a.eval _ (bf 11) (bf 13) 31 31 56 rfl e11 e13 rfl _ (EP _ _)) (pQ (x3,x4) (y3,y4) x) fun e w1 h=>by
    obtain⟨rfl,h3⟩:=h;exact⟨_,rfl,hK _ _ rfl (h3.mono hb.size) fun j u hj _ _ _ hne h=>iO j u _ _ h h3⟩
  ·cases ho;have e9:a.eval (bf 9)=ah aj (gK (x1,x2) (y1,y2)):=seen.at_ ⟨4,.data⟩ (by simp) rfl (aY (by decide));have e14:a.eval (bf 14)=ah aj (gK (x3,x4) (y3,y4)):=seen.at_ ⟨9,.data⟩ (by simp) rfl (aY (by decide));have hbx:=dO x #[ah aj (gK (x1,x2) (y1,y2)),ah aj (gK (x3,x4) (y3,y4))] 3;exact Rg.dD rfl rfl (Rg.jg a.eval _ 22 2 #[(0,bf 9),(1,bf 14)] rfl (ps:=#[(0,ah aj (gK (x1,x2) (y1,y2))),(1,ah aj (gK (x3,x4) (y3,y4)))]) (by simp [e9,e14]) (by simp [go_sem])) (hK (O (ak ⟨x.heap.size,0,aC⟩) 2 2) (x.alloc (aL #[ah aj (gK (x1,x2) (y1,y2)),ah aj (gK (x3,x4) (y3,y4))] 3)) ⟨x.heap.size,rfl,hbx.cell 0,hbx.cell 1⟩ ((aF _ _).alloc hb.size _) fun j u _ _ _ _ _ h=>iO j u _ _ h ((aF _ _).alloc (aN _) _))
  ·cases ho;have E15:=seen.at_ ⟨10,.data⟩ (by simp) rfl (aY (by decide));obtain⟨g,q0,q1,q2⟩:=E15;exact Rg.gL rfl rfl (Rw.iB a.eval _ (bf 15) 22 112 rfl q0 rfl _ (O8 _ _)) (UY g 2 _ _ x q1 q2) fun e w1 h=>by
    obtain⟨rfl,rfl⟩:=h;exact⟨_,rfl,hK _ _ rfl (aF _ _) fun j u hj _ _ _ hne h=>h⟩
 ·intro kk o h1 h2 ho;omega
 ·intro a w' df sz kp ⟨vs,hv⟩ hb;have sz':a.tmps.size=17:=sz;have g16:a.tmps[16]?=ak (ah aj (Ay (gK (x1,x2) (y1,y2)) (gK (x3,x4) (y3,y4)))):=by
   have h:vs 11=ah aj (Ay (gK (x1,x2) (y1,y2)) (gK (x3,x4) (y3,y4))):=(hv 11 (by omega)).2 (by decide);rw [<- h];exact (hv 11 (by omega)).1
  show Rg.fH _ _ _ 1 12 a w';simp only [Rg.fH];refine Rg.dD rfl rfl (Rg.jJ a.eval _ (bf 16) rfl _) ?_;rw [Rg.dL g16];have hp4:(a.put (ak 4) (ah aj (Ay (gK (x1,x2) (y1,y2)) (gK (x3,x4) (y3,y4))))).tmps[4]?=ak (ah aj (Ay (gK (x1,x2) (y1,y2)) (gK (x3,x4) (y3,y4)))):=by simp [Act.put,sz']
  have qI:∀ j,(j<4\/17<=j)->(a.put (ak 4) (ah aj (Ay (gK (x1,x2) (y1,y2)) (gK (x3,x4) (y3,y4))))).tmps[j]?=(u0::u1::aD (ak ⟨b1,0,aC⟩)::aD (ak ⟨b2,0,aC⟩)::u4::u5::u6::u7::u8::u9::u10::u11::u12::u13::u14::u15::u16::[])[j]?:=fun j hj=>(Rg.get_put _ 4 _ j (by omega)).trans ((kp j (nd j (by omega))).trans aB);obtain⟨mid,hmid,hfr⟩:=Rg.gJ (a:=a.put (ak 4) (ah aj (Ay (gK (x1,x2) (y1,y2)) (gK (x3,x4) (y3,y4))))) 4 13 df (by simp [Rg.size_put,sz']) (by simp) qI;show Q .normal (a.put (ak 4) (ah aj (Ay (gK (x1,x2) (y1,y2)) (gK (x3,x4) (y3,y4))))) _;rw [hfr] at hp4 ⊢
  match mid,hmid with
  | [v4,v5,v6,v7,v8,v9,v10,v11,v12,v13,v14,v15,v16],_ =>
   obtain rfl:v4=ah aj (Ay (gK (x1,x2) (y1,y2)) (gK (x3,x4) (y3,y4))):=aK hp4;exact HQ.out _ _ _ _ _ _ _ _ _ _ _ _ _ hb
def H9 (x y:iH):Int:=Ay (gK (x.1,x.2.1) (y.1,y.2.1)) (gK (x.2.2.1,x.2.2.2.1) (y.2.2.1,y.2.2.2.1))
theorem Rt (x y:iH) (w:aG):bF Z 60 #[nW x,nW y] w fun e w'=>e=aH (ah aj (H9 x y))/\Below w.heap.size w w':=by
 obtain⟨x1,x2,x3,x4,⟨xo,xn,xc⟩,x6,x7⟩:=x;obtain⟨y1,y2,y3,y4,⟨yo,yn,yc⟩,y6,y7⟩:=y;obtain⟨h0,X,Y⟩:=gM w #[ah aj x1,ah aj x2,ah aj x3,ah aj x4,O xo xn xc,ah aj x6,bK x7] #[ah aj y1,ah aj y2,ah aj y3,ah aj y4,O yo yn yc,ah aj y6,bK y7] 66 66;have B:=J h0;have HX:=J X;have HY:=J Y;have R:=J (show H9 (x1,x2,x3,x4,(xo,xn,xc),x6,x7) (y1,y2,y3,y4,(yo,yn,yc),y6,y7)=Ay (gK (x1,x2) (y1,y2)) (gK (x3,x4) (y3,y4)) from rfl);generalize H9 (x1,x2,x3,x4,(xo,xn,xc),x6,x7) (y1,y2,y3,y4,(yo,yn,yc),y6,y7)=res at *;clear h0 X Y;go_enter Tryz.func60,Tryz.ntmps60;go_upto_region 1 with fail;generalize (w.alloc (aL #[ah aj x1,ah aj x2,ah aj x3,ah aj x4,O xo xn xc,ah aj x6,bK x7] 66)).alloc (aL #[ah aj y1,ah aj y2,ah aj y3,ah aj y4,O yo yn yc,ah aj y6,bK y7] 66)=W at *;refine akN _ W w.heap.size (w.heap.size+1) x1 x2 x3 x4 xo xn xc x6 x7 y1 y2 y3 y4 yo yn yc y6 y7 _ _ _ _ _ _ _ _ _ _ _ _ _ _ _ HX.out HY.out ?_;intro x v5 v6 v7 v8 v9 v10 v11 v12 v13 v14 v15 v16 hb;have HB:=J hb;clear hb;go_wp2;go_ret;exact⟨by have h:=R.out; subst h; rfl,B.out.trans (HB.out.mono B.out.size)⟩
abbrev Ru (x y:jv):Int:=gK (x.1,x.2.1) (y.1,y.2.1)
abbrev Rv (x y:oq):Int:=gK (x.1,x.2.1) (y.1,y.2.1)
def gQ {α:Type} (c:α->α->Int):List α->Bool
 | x::y::l=>decide (c x y<0) && gQ c (y::l)
 | _=>aS
theorem oP {α:Type} {c:α->α->Int}:∀ {l:List α},(∀ (k:Nat) (x y:α),l[k]?=ak x->l[k+1]?=ak y->c x y<0)->gQ c l=aS
 | [],_=>rfl
 | [_],_=>rfl
 | x::y::l,h=>by
  unfold gQ;rw [decide_eq_true (h 0 x y rfl rfl),Bool.true_and];exact oP fun k a b ha hb=>h (k+1) a b (by simpa using ha) (by simpa using hb)
theorem oQ {α:Type} {c:α->α->Int}:∀ {l:List α} {k:Nat} {x y:α},l[k]?=ak x->l[k+1]?=ak y->¬ c x y<0->gQ c l=bI
 | [],k,x,y,h,_,_=>by simp at h
 | [_],0,x,y,_,h,_=>by simp at h
 | [_],k+1,x,y,h,_,_=>by simp at h
 | a::b::l,0,x,y,h1,h2,h3=>by
  simp at h1 h2;subst h1 h2;unfold gQ;rw [decide_eq_false h3,Bool.false_and]
 | a::b::l,k+1,x,y,h1,h2,h3=>by
  unfold gQ;rw [oQ (l:=b::l) (k:=k) (by simpa using h1) (by simpa using h2) h3,Bool.and_false]
theorem ahY {W W1:aG} {v:aI} {l:List Int} {ao:Option bS} {n c k:Nat} {x:Int} (h:Row EI W v l) (hv:v=O ao n c) (hn:l.length=n) (hk:l[k]?=ak x) (hb:Below W.heap.size W W1) :
  ∃ p:bS,(∀ w,(aX 22 (O ao n c) (ah aj k)).run Z w=.ok (aD (ak p)) w)/\(∀ d os,(grow (redrawn W1 d) os).cell? p=ak (ah aj x)):=by
 obtain⟨p,h1,h2⟩:=elI h hv hn hk;have h3:=h2.2 _ hb;exact⟨p,h1,cell_regrown h3⟩
theorem akO (c d:Int) (r:Int) (hr:lK c d=r) (w:aG) (k:Nat) (os:Array Obj) :
  bF Z 54 #[ah aj c,ah aj d] (grow (redrawn w k) os) fun e w''=>e=aH (ah aj r)/\∃ p:Regrown,w''=grow (redrawn w p.d) p.os:=by
 subst hr;exact (nL c d _).mono fun e w' h=>⟨h.1,⟨k,os⟩,h.2⟩
theorem Rx (v:aI) (l:List Int) (w:aG) (hv:Row EI w v l) :
  bF Z 53 #[v,.func (.func 54) #[] #[]] w fun e w'=>e=aH (bK (gQ lK l))/\Below w.heap.size w w':=by
 have HL:=J hv;have lm:=hv.most;unfold maxLen at lm;obtain⟨ao,ac,rfl⟩:=hv.len;obtain⟨n,hn⟩:∃ n,n=l.length:=⟨_,rfl⟩;rw [<- hn] at HL lm ⊢;have HN:=J hn.symm;clear hv hn;go_enter Tryz.func53,Tryz.ntmps53;go_wp2
 go_loopw [5] (fun i wr=>∃ k:Nat,(k+1<=n\/n=0/\k=0)/\i=ah aj ((k+1:Nat):Int)/\Below w.heap.size w wr/\∀ (j:Nat) (x y:Int),j<k->l[j]?=ak x->l[j+1]?=ak y->lK x y<0) (fun i _=>n+1-(intOf i).toNat)
 case atStart=>exact⟨0,by omega,rfl,aF _ _,fun j x y h=>by omega⟩
 case round =>
  obtain⟨k,hk,rfl,hbe,hall⟩:=hrel;have BE:=J hbe;have AL:=J hall;clear hbe hall;by_cases hlt:k+1<n
  ·obtain⟨x,hx⟩:∃ x,l[k]?=ak x:=⟨_,U (by rw [HN.out]; omega)⟩;obtain⟨y,hy⟩:∃ y,l[k+1]?=ak y:=⟨_,U (by rw [HN.out]; omega)⟩;obtain⟨p,ix,p0⟩:=ahY HL.out rfl HN.out hx BE.out;obtain⟨q,iy,q0⟩:=ahY HL.out rfl HN.out hy BE.out;rw [show ((k+1:Nat):Int)=(k:Int)+1 by omega] at iy;obtain⟨r,hr⟩:∃ r,lK x y=r:=⟨_,rfl⟩;have C:=akO x y r hr wr;have HX:=J hx;have HY:=J hy;have HR:=J hr;have BN:=J (fun dq osq=>BE.out.trans ((below_regrown wr dq osq).mono BE.out.size));have w1:IntKind.i64.wrap ((k:Int)+1-1)=k:=by rw [show (k:Int)+1-1=k by omega]; exact aM _ (by omega)
   have w2:IntKind.i64.wrap ((k:Int)+1+1)=(k:Int)+1+1:=aM _ (by omega);clear hx hy hr;by_cases hneg:r<0
   ·have d0:decide ((0:Int)<=r)=bI:=by simp; omega
    go_wp2;refine wp_region_quiet_below (by kernel_rfl) (by kernel_rfl) ?_
    repeat (go_big_quiet_step (first | (with_reducible exact C _ _) | exact akP _ _))
    refine wpQuiet_nil ?_;intro _ hw';obtain⟨⟨dq,osq⟩,hw''⟩:=hw';subst hw'';clear ix iy p0 q0 C w1 d0;go_wp2
    go_roundw
    case rel=>exact⟨k+1,by omega,by go_num,BN.out _ _,fun j a b hj h1 h2=>by
     rcases aR j k with h3|h3
     ·exact AL.out j a b h3 h1 h2
     ·obtain rfl:j=k:=by omega
      have e1:=HX.out;have e2:=HY.out;rw [h1] at e1;rw [h2] at e2;rw [aK e1,aK e2,HR.out];exact hneg⟩
    case measure=>simp [intOf]; omega
   ·have d0:decide ((0:Int)<=r)=aS:=by simp; omega
    have RR:=J (show gQ lK l=bI from oQ HX.out HY.out (by rw [HR.out]; exact hneg));go_wp2;refine wp_region_quiet_below (by kernel_rfl) (by kernel_rfl) ?_
    repeat (go_big_quiet_step (first | (with_reducible exact C _ _) | exact akP _ _))
    refine wpQuiet_nil ?_;intro _ hw';obtain⟨⟨dq,osq⟩,hw''⟩:=hw';subst hw'';clear ix iy p0 q0 C w1 d0;go_wp2;go_ret;exact⟨by rw [RR.out]; rfl,BN.out _ _⟩
  ·have RR:=J (show gQ lK l=aS from oP fun j x y h1 h2=>AL.out j x y (by have:=(au.1 h2).1; have:=HN.out; omega) h1 h2);go_wp2;go_ret;exact⟨by rw [RR.out]; rfl,BE.out⟩
theorem ahZ {W W1:aG} {v:aI} {l:List fD} {ao:Option bS} {n c k:Nat} {x:fD} (h:Row EJ W v l) (hv:v=O ao n c) (hn:l.length=n) (hk:l[k]?=ak x) (hb:Below W.heap.size W W1) :
  ∃ p:bS,(∀ w,(aX 24 (O ao n c) (ah aj k)).run Z w=.ok (aD (ak p)) w)/\(∀ d os,(grow (redrawn W1 d) os).cell? p=ak (ah aj x.1))/\(∀ d os,(grow (redrawn W1 d) os).cell? ⟨p.block,p.off+1,aC⟩=ak (ah aj x.2)):=by
 obtain⟨p,h1,h2⟩:=elJ h hv hn hk;have h3:=h2 _ hb;exact⟨p,h1,cell_regrown h3.1,cell_regrown h3.2⟩
theorem akQ (c d:fD) (r:Int) (hr:gK c d=r) (w:aG) (k:Nat) (os:Array Obj) :
  bF Z 56 #[mW c,mW d] (grow (redrawn w k) os) fun e w''=>e=aH (ah aj r)/\∃ p:Regrown,w''=grow (redrawn w p.d) p.os:=by
 subst hr;exact bH (pQ c d _)
theorem Ry (v:aI) (l:List fD) (w:aG) (hv:Row EJ w v l) :
  bF Z 55 #[v,.func (.func 56) #[] #[]] w fun e w'=>e=aH (bK (gQ gK l))/\Below w.heap.size w w':=by
 have HL:=J hv;have lm:=hv.most;unfold maxLen at lm;obtain⟨ao,ac,rfl⟩:=hv.len;obtain⟨n,hn⟩:∃ n,n=l.length:=⟨_,rfl⟩;rw [<- hn] at HL lm ⊢;have HN:=J hn.symm;clear hv hn;go_enter Tryz.func55,Tryz.ntmps55;go_wp2
 go_loopw [5] (fun i wr=>∃ k:Nat,(k+1<=n\/n=0/\k=0)/\i=ah aj ((k+1:Nat):Int)/\Below w.heap.size w wr/\∀ (j:Nat) (x y:fD),j<k->l[j]?=ak x->l[j+1]?=ak y->gK x y<0) (fun i _=>n+1-(intOf i).toNat)
 case atStart=>exact⟨0,by omega,rfl,aF _ _,fun j x y h=>by omega⟩
 case round =>
  obtain⟨k,hk,rfl,hbe,hall⟩:=hrel;have BE:=J hbe;have AL:=J hall;clear hbe hall;by_cases hlt:k+1<n
  ·obtain⟨x,hx⟩:∃ x,l[k]?=ak x:=⟨_,U (by rw [HN.out]; omega)⟩;obtain⟨y,hy⟩:∃ y,l[k+1]?=ak y:=⟨_,U (by rw [HN.out]; omega)⟩;obtain⟨p,ix,p0,p1⟩:=ahZ HL.out rfl HN.out hx BE.out;obtain⟨q,iy,q0,q1⟩:=ahZ HL.out rfl HN.out hy BE.out;rw [show ((k+1:Nat):Int)=(k:Int)+1 by omega] at iy;obtain⟨r,hr⟩:∃ r,gK x y=r:=⟨_,rfl⟩;have C:=akQ x y r hr wr;have HX:=J hx;have HY:=J hy;have HR:=J hr;have BN:=J (fun dq osq=>BE.out.trans ((below_regrown wr dq osq).mono BE.out.size));have w1:IntKind.i64.wrap ((k:Int)+1-1)=k:=by rw [show (k:Int)+1-1=k by omega]; exact aM _ (by omega)
   have w2:IntKind.i64.wrap ((k:Int)+1+1)=(k:Int)+1+1:=aM _ (by omega);clear hx hy hr;obtain⟨x1,x2⟩:=x;obtain⟨y1,y2⟩:=y;simp only at p0 p1 q0 q1 C;by_cases hneg:r<0
   ·have d0:decide ((0:Int)<=r)=bI:=by simp; omega
    go_wp2;refine wp_region_quiet_below (by kernel_rfl) (by kernel_rfl) ?_
    repeat (go_big_quiet_step (first | (with_reducible exact C _ _) | exact akR _ _))
    refine wpQuiet_nil ?_;intro _ hw';obtain⟨⟨dq,osq⟩,hw''⟩:=hw';subst hw'';clear ix iy p0 p1 q0 q1 C w1 d0;go_wp2
    go_roundw
    case rel=>exact⟨k+1,by omega,by go_num,BN.out _ _,fun j a b hj h1 h2=>by
     rcases aR j k with h3|h3
     ·exact AL.out j a b h3 h1 h2
     ·obtain rfl:j=k:=by omega
      have e1:=HX.out;have e2:=HY.out;rw [h1] at e1;rw [h2] at e2;rw [aK e1,aK e2,HR.out];exact hneg⟩
    case measure=>simp [intOf]; omega
   ·have d0:decide ((0:Int)<=r)=aS:=by simp; omega
    have RR:=J (show gQ gK l=bI from oQ HX.out HY.out (by rw [HR.out]; exact hneg));go_wp2;refine wp_region_quiet_below (by kernel_rfl) (by kernel_rfl) ?_
    repeat (go_big_quiet_step (first | (with_reducible exact C _ _) | exact akR _ _))
    refine wpQuiet_nil ?_;intro _ hw';obtain⟨⟨dq,osq⟩,hw''⟩:=hw';subst hw'';clear ix iy p0 p1 q0 q1 C w1 d0;go_wp2;go_ret;exact⟨by rw [RR.out]; rfl,BN.out _ _⟩
  ·have RR:=J (show gQ gK l=aS from oP fun j x y h1 h2=>AL.out j x y (by have:=(au.1 h2).1; have:=HN.out; omega) h1 h2);go_wp2;go_ret;exact⟨by rw [RR.out]; rfl,BE.out⟩
theorem ah0 {W W1:aG} {v:aI} {l:List jv} {ao:Option bS} {n c k:Nat} {x:jv} (h:Row ED W v l) (hv:v=O ao n c) (hn:l.length=n) (hk:l[k]?=ak x) (hb:Below W.heap.size W W1) :
  ∃ p:bS,(∀ w,(aX 23 (O ao n c) (ah aj k)).run Z w=.ok (aD (ak p)) w)/\(∀ d os,(grow (redrawn W1 d) os).cell? p=ak (ah aj x.1))/\(∀ d os,(grow (redrawn W1 d) os).cell? ⟨p.block,p.off+1,aC⟩=ak (ah aj x.2.1))/\(∀ d os,(grow (redrawn W1 d) os).cell? ⟨p.block,p.off+2,aC⟩=ak (dY x.2.2.1))/\(∀ d os,(grow (redrawn W1 d) os).cell? ⟨p.block,p.off+3,aC⟩=ak (ah aj x.2.2.2)):=by
 obtain⟨p,h1,h2⟩:=IJ h hv hn hk;have h3:=h2 _ hb;exact⟨p,h1,cell_regrown h3.1,cell_regrown h3.2.1,cell_regrown h3.2.2.1,cell_regrown h3.2.2.2⟩
theorem akS (c d:jv) (r:Int) (hr:Ru c d=r) (w:aG) (k:Nat) (os:Array Obj) :
  bF Z 58 #[lX c,lX d] (grow (redrawn w k) os) fun e w''=>e=aH (ah aj r)/\∃ p:Regrown,w''=grow (redrawn w p.d) p.os:=by
 subst hr;exact bH (ER c d _)
theorem Rz (v:aI) (l:List jv) (w:aG) (hv:Row ED w v l) :
  bF Z 57 #[v,.func (.func 58) #[] #[]] w fun e w'=>e=aH (bK (gQ Ru l))/\Below w.heap.size w w':=by
 have HL:=J hv;have lm:=hv.most;unfold maxLen at lm;obtain⟨ao,ac,rfl⟩:=hv.len;obtain⟨n,hn⟩:∃ n,n=l.length:=⟨_,rfl⟩;rw [<- hn] at HL lm ⊢;have HN:=J hn.symm;clear hv hn;go_enter Tryz.func57,Tryz.ntmps57;go_wp2
 go_loopw [5] (fun i wr=>∃ k:Nat,(k+1<=n\/n=0/\k=0)/\i=ah aj ((k+1:Nat):Int)/\Below w.heap.size w wr/\∀ (j:Nat) (x y:jv),j<k->l[j]?=ak x->l[j+1]?=ak y->Ru x y<0) (fun i _=>n+1-(intOf i).toNat)
 case atStart=>exact⟨0,by omega,rfl,aF _ _,fun j x y h=>by omega⟩
 case round =>
  obtain⟨k,hk,rfl,hbe,hall⟩:=hrel;have BE:=J hbe;have AL:=J hall;clear hbe hall;by_cases hlt:k+1<n
  ·obtain⟨x,hx⟩:∃ x,l[k]?=ak x:=⟨_,U (by rw [HN.out]; omega)⟩;obtain⟨y,hy⟩:∃ y,l[k+1]?=ak y:=⟨_,U (by rw [HN.out]; omega)⟩;obtain⟨p,ix,p0,p1,p2,p3⟩:=ah0 HL.out rfl HN.out hx BE.out;obtain⟨q,iy,q0,q1,q2,q3⟩:=ah0 HL.out rfl HN.out hy BE.out;rw [show ((k+1:Nat):Int)=(k:Int)+1 by omega] at iy;obtain⟨r,hr⟩:∃ r,Ru x y=r:=⟨_,rfl⟩;have C:=akS x y r hr wr;have HX:=J hx;have HY:=J hy;have HR:=J hr;have BN:=J (fun dq osq=>BE.out.trans ((below_regrown wr dq osq).mono BE.out.size));have w1:IntKind.i64.wrap ((k:Int)+1-1)=k:=by rw [show (k:Int)+1-1=k by omega]; exact aM _ (by omega)
   have w2:IntKind.i64.wrap ((k:Int)+1+1)=(k:Int)+1+1:=aM _ (by omega);clear hx hy hr;obtain⟨x1,x2,⟨xo,xn,xc⟩,x4⟩:=x;obtain⟨y1,y2,⟨yo,yn,yc⟩,y4⟩:=y;simp only at p0 p1 p2 p3 q0 q1 q2 q3 C;by_cases hneg:r<0
   ·have d0:decide ((0:Int)<=r)=bI:=by simp; omega
    go_wp2;refine wp_region_quiet_below (by kernel_rfl) (by kernel_rfl) ?_
    repeat (go_big_quiet_step (first | (with_reducible exact C _ _) | exact akT _ _))
    refine wpQuiet_nil ?_;intro _ hw';obtain⟨⟨dq,osq⟩,hw''⟩:=hw';subst hw'';clear ix iy p0 p1 p2 p3 q0 q1 q2 q3 C w1 d0;go_wp2
    go_roundw
    case rel=>exact⟨k+1,by omega,by go_num,BN.out _ _,fun j a b hj h1 h2=>by
     rcases aR j k with h3|h3
     ·exact AL.out j a b h3 h1 h2
     ·obtain rfl:j=k:=by omega
      have e1:=HX.out;have e2:=HY.out;rw [h1] at e1;rw [h2] at e2;rw [aK e1,aK e2,HR.out];exact hneg⟩
    case measure=>simp [intOf]; omega
   ·have d0:decide ((0:Int)<=r)=aS:=by simp; omega
    have RR:=J (show gQ Ru l=bI from oQ HX.out HY.out (by rw [HR.out]; exact hneg));go_wp2;refine wp_region_quiet_below (by kernel_rfl) (by kernel_rfl) ?_
    repeat (go_big_quiet_step (first | (with_reducible exact C _ _) | exact akT _ _))
    refine wpQuiet_nil ?_;intro _ hw';obtain⟨⟨dq,osq⟩,hw''⟩:=hw';subst hw'';clear ix iy p0 p1 p2 p3 q0 q1 q2 q3 C w1 d0;go_wp2;go_ret;exact⟨by rw [RR.out]; rfl,BN.out _ _⟩
  ·have RR:=J (show gQ Ru l=aS from oP fun j x y h1 h2=>AL.out j x y (by have:=(au.1 h2).1; have:=HN.out; omega) h1 h2);go_wp2;go_ret;exact⟨by rw [RR.out]; rfl,BE.out⟩
theorem ah1 {W W1:aG} {v:aI} {l:List iH} {ao:Option bS} {n c k:Nat} {x:iH} (h:Row EN W v l) (hv:v=O ao n c) (hn:l.length=n) (hk:l[k]?=ak x) (hb:Below W.heap.size W W1) :
  ∃ p:bS,(∀ w,(aX 25 (O ao n c) (ah aj k)).run Z w=.ok (aD (ak p)) w)/\(∀ d os,(grow (redrawn W1 d) os).cell? p=ak (ah aj x.1))/\(∀ d os,(grow (redrawn W1 d) os).cell? ⟨p.block,p.off+1,aC⟩=ak (ah aj x.2.1))/\(∀ d os,(grow (redrawn W1 d) os).cell? ⟨p.block,p.off+2,aC⟩=ak (ah aj x.2.2.1))/\(∀ d os,(grow (redrawn W1 d) os).cell? ⟨p.block,p.off+3,aC⟩=ak (ah aj x.2.2.2.1))/\(∀ d os,(grow (redrawn W1 d) os).cell? ⟨p.block,p.off+4,aC⟩=ak (dY x.2.2.2.2.1))/\(∀ d os,(grow (redrawn W1 d) os).cell? ⟨p.block,p.off+5,aC⟩=ak (ah aj x.2.2.2.2.2.1))/\(∀ d os,(grow (redrawn W1 d) os).cell? ⟨p.block,p.off+6,aC⟩=ak (bK x.2.2.2.2.2.2)):=by
 obtain⟨p,h1,h2⟩:=LK h hv hn hk;have h3:=h2 _ hb;exact⟨p,h1,cell_regrown h3.1,cell_regrown h3.2.1,cell_regrown h3.2.2.1,cell_regrown h3.2.2.2.1,cell_regrown h3.2.2.2.2.1,cell_regrown h3.2.2.2.2.2.1,cell_regrown h3.2.2.2.2.2.2⟩
theorem akU (c d:iH) (r:Int) (hr:H9 c d=r) (w:aG) (k:Nat) (os:Array Obj) :
  bF Z 60 #[nW c,nW d] (grow (redrawn w k) os) fun e w''=>e=aH (ah aj r)/\∃ p:Regrown,w''=grow (redrawn w p.d) p.os:=by
 subst hr;exact bH (Rt c d _)
theorem RA (v:aI) (l:List iH) (w:aG) (hv:Row EN w v l) :
  bF Z 59 #[v,.func (.func 60) #[] #[]] w fun e w'=>e=aH (bK (gQ H9 l))/\Below w.heap.size w w':=by
 have HL:=J hv;have lm:=hv.most;unfold maxLen at lm;obtain⟨ao,ac,rfl⟩:=hv.len;obtain⟨n,hn⟩:∃ n,n=l.length:=⟨_,rfl⟩;rw [<- hn] at HL lm ⊢;have HN:=J hn.symm;clear hv hn;go_enter Tryz.func59,Tryz.ntmps59;go_wp2
 go_loopw [5] (fun i wr=>∃ k:Nat,(k+1<=n\/n=0/\k=0)/\i=ah aj ((k+1:Nat):Int)/\Below w.heap.size w wr/\∀ (j:Nat) (x y:iH),j<k->l[j]?=ak x->l[j+1]?=ak y->H9 x y<0) (fun i _=>n+1-(intOf i).toNat)
 case atStart=>exact⟨0,by omega,rfl,aF _ _,fun j x y h=>by omega⟩
 case round =>
  obtain⟨k,hk,rfl,hbe,hall⟩:=hrel;have BE:=J hbe;have AL:=J hall;clear hbe hall;by_cases hlt:k+1<n
  ·obtain⟨x,hx⟩:∃ x,l[k]?=ak x:=⟨_,U (by rw [HN.out]; omega)⟩;obtain⟨y,hy⟩:∃ y,l[k+1]?=ak y:=⟨_,U (by rw [HN.out]; omega)⟩;obtain⟨p,ix,p0,p1,p2,p3,p4,p5,p6⟩:=ah1 HL.out rfl HN.out hx BE.out;obtain⟨q,iy,q0,q1,q2,q3,q4,q5,q6⟩:=ah1 HL.out rfl HN.out hy BE.out;rw [show ((k+1:Nat):Int)=(k:Int)+1 by omega] at iy;obtain⟨r,hr⟩:∃ r,H9 x y=r:=⟨_,rfl⟩;have C:=akU x y r hr wr;have HX:=J hx;have HY:=J hy;have HR:=J hr;have BN:=J (fun dq osq=>BE.out.trans ((below_regrown wr dq osq).mono BE.out.size));have w1:IntKind.i64.wrap ((k:Int)+1-1)=k:=by rw [show (k:Int)+1-1=k by omega]; exact aM _ (by omega)
   have w2:IntKind.i64.wrap ((k:Int)+1+1)=(k:Int)+1+1:=aM _ (by omega);clear hx hy hr;obtain⟨x1,x2,x3,x4,⟨xo,xn,xc⟩,x6,x7⟩:=x;obtain⟨y1,y2,y3,y4,⟨yo,yn,yc⟩,y6,y7⟩:=y;simp only at p0 p1 p2 p3 p4 p5 p6 q0 q1 q2 q3 q4 q5 q6 C;by_cases hneg:r<0
   ·have d0:decide ((0:Int)<=r)=bI:=by simp; omega
    go_wp2;refine wp_region_quiet_below (by kernel_rfl) (by kernel_rfl) ?_
    repeat (go_big_quiet_step (first | (with_reducible exact C _ _) | exact akV _ _))
    refine wpQuiet_nil ?_;intro _ hw';obtain⟨⟨dq,osq⟩,hw''⟩:=hw';subst hw'';clear ix iy p0 p1 p2 p3 p4 p5 p6 q0 q1 q2 q3 q4 q5 q6 C w1 d0;go_wp2
    go_roundw
    case rel=>exact⟨k+1,by omega,by go_num,BN.out _ _,fun j a b hj h1 h2=>by
     rcases aR j k with h3|h3
     ·exact AL.out j a b h3 h1 h2
     ·obtain rfl:j=k:=by omega
      have e1:=HX.out;have e2:=HY.out;rw [h1] at e1;rw [h2] at e2;rw [aK e1,aK e2,HR.out];exact hneg⟩
    case measure=>simp [intOf]; omega
   ·have d0:decide ((0:Int)<=r)=aS:=by simp; omega
    have RR:=J (show gQ H9 l=bI from oQ HX.out HY.out (by rw [HR.out]; exact hneg));go_wp2;refine wp_region_quiet_below (by kernel_rfl) (by kernel_rfl) ?_
    repeat (go_big_quiet_step (first | (with_reducible exact C _ _) | exact akV _ _))
    refine wpQuiet_nil ?_;intro _ hw';obtain⟨⟨dq,osq⟩,hw''⟩:=hw';subst hw'';clear ix iy p0 p1 p2 p3 p4 p5 p6 q0 q1 q2 q3 q4 q5 q6 C w1 d0;go_wp2;go_ret;exact⟨by rw [RR.out]; rfl,BN.out _ _⟩
  ·have RR:=J (show gQ H9 l=aS from oP fun j x y h1 h2=>AL.out j x y (by have:=(au.1 h2).1; have:=HN.out; omega) h1 h2);go_wp2;go_ret;exact⟨by rw [RR.out]; rfl,BE.out⟩
theorem ah2 {W W1:aG} {v:aI} {l:List oq} {ao:Option bS} {n c k:Nat} {x:oq} (h:Row EW W v l) (hv:v=O ao n c) (hn:l.length=n) (hk:l[k]?=ak x) (hb:Below W.heap.size W W1) :
  ∃ p:bS,(∀ w,(aX 26 (O ao n c) (ah aj k)).run Z w=.ok (aD (ak p)) w)/\(∀ d os,(grow (redrawn W1 d) os).cell? p=ak (ah aj x.1))/\(∀ d os,(grow (redrawn W1 d) os).cell? ⟨p.block,p.off+1,aC⟩=ak (ah aj x.2.1))/\(∀ d os,(grow (redrawn W1 d) os).cell? ⟨p.block,p.off+2,aC⟩=ak (dY x.2.2)):=by
 obtain⟨p,h1,h2⟩:=elW h hv hn hk;have h3:=h2 _ hb;exact⟨p,h1,cell_regrown h3.1,cell_regrown h3.2.1,cell_regrown h3.2.2⟩
theorem akW (c d:oq) (r:Int) (hr:Rv c d=r) (w:aG) (k:Nat) (os:Array Obj) :
  bF Z 62 #[Bb c,Bb d] (grow (redrawn w k) os) fun e w''=>e=aH (ah aj r)/\∃ p:Regrown,w''=grow (redrawn w p.d) p.os:=by
 subst hr;exact bH (Rs c d _)
theorem RD (v:aI) (l:List oq) (w:aG) (hv:Row EW w v l) :
  bF Z 61 #[v,.func (.func 62) #[] #[]] w fun e w'=>e=aH (bK (gQ Rv l))/\Below w.heap.size w w':=by
 have HL:=J hv;have lm:=hv.most;unfold maxLen at lm;obtain⟨ao,ac,rfl⟩:=hv.len;obtain⟨n,hn⟩:∃ n,n=l.length:=⟨_,rfl⟩;rw [<- hn] at HL lm ⊢;have HN:=J hn.symm;clear hv hn;go_enter Tryz.func61,Tryz.ntmps61;go_wp2
 go_loopw [5] (fun i wr=>∃ k:Nat,(k+1<=n\/n=0/\k=0)/\i=ah aj ((k+1:Nat):Int)/\Below w.heap.size w wr/\∀ (j:Nat) (x y:oq),j<k->l[j]?=ak x->l[j+1]?=ak y->Rv x y<0) (fun i _=>n+1-(intOf i).toNat)
 case atStart=>exact⟨0,by omega,rfl,aF _ _,fun j x y h=>by omega⟩
 case round =>
  obtain⟨k,hk,rfl,hbe,hall⟩:=hrel;have BE:=J hbe;have AL:=J hall;clear hbe hall;by_cases hlt:k+1<n
  ·obtain⟨x,hx⟩:∃ x,l[k]?=ak x:=⟨_,U (by rw [HN.out]; omega)⟩;obtain⟨y,hy⟩:∃ y,l[k+1]?=ak y:=⟨_,U (by rw [HN.out]; omega)⟩;obtain⟨p,ix,p0,p1,p2⟩:=ah2 HL.out rfl HN.out hx BE.out;obtain⟨q,iy,q0,q1,q2⟩:=ah2 HL.out rfl HN.out hy BE.out;rw [show ((k+1:Nat):Int)=(k:Int)+1 by omega] at iy;obtain⟨r,hr⟩:∃ r,Rv x y=r:=⟨_,rfl⟩;have C:=akW x y r hr wr;have HX:=J hx;have HY:=J hy;have HR:=J hr;have BN:=J (fun dq osq=>BE.out.trans ((below_regrown wr dq osq).mono BE.out.size));have w1:IntKind.i64.wrap ((k:Int)+1-1)=k:=by rw [show (k:Int)+1-1=k by omega]; exact aM _ (by omega)
   have w2:IntKind.i64.wrap ((k:Int)+1+1)=(k:Int)+1+1:=aM _ (by omega);clear hx hy hr;obtain⟨x1,x2,⟨xo,xn,xc⟩⟩:=x;obtain⟨y1,y2,⟨yo,yn,yc⟩⟩:=y;simp only at p0 p1 p2 q0 q1 q2 C;by_cases hneg:r<0
   ·have d0:decide ((0:Int)<=r)=bI:=by simp; omega
    go_wp2;refine wp_region_quiet_below (by kernel_rfl) (by kernel_rfl) ?_
    repeat (go_big_quiet_step (first | (with_reducible exact C _ _) | exact akX _ _))
    refine wpQuiet_nil ?_;intro _ hw';obtain⟨⟨dq,osq⟩,hw''⟩:=hw';subst hw'';clear ix iy p0 p1 p2 q0 q1 q2 C w1 d0;go_wp2
    go_roundw
    case rel=>exact⟨k+1,by omega,by go_num,BN.out _ _,fun j a b hj h1 h2=>by
     rcases aR j k with h3|h3
     ·exact AL.out j a b h3 h1 h2
     ·obtain rfl:j=k:=by omega
      have e1:=HX.out;have e2:=HY.out;rw [h1] at e1;rw [h2] at e2;rw [aK e1,aK e2,HR.out];exact hneg⟩
    case measure=>simp [intOf]; omega
   ·have d0:decide ((0:Int)<=r)=aS:=by simp; omega
    have RR:=J (show gQ Rv l=bI from oQ HX.out HY.out (by rw [HR.out]; exact hneg));go_wp2;refine wp_region_quiet_below (by kernel_rfl) (by kernel_rfl) ?_
    repeat (go_big_quiet_step (first | (with_reducible exact C _ _) | exact akX _ _))
    refine wpQuiet_nil ?_;intro _ hw';obtain⟨⟨dq,osq⟩,hw''⟩:=hw';subst hw'';clear ix iy p0 p1 p2 q0 q1 q2 C w1 d0;go_wp2;go_ret;exact⟨by rw [RR.out]; rfl,BN.out _ _⟩
  ·have RR:=J (show gQ Rv l=aS from oP fun j x y h1 h2=>AL.out j x y (by have:=(au.1 h2).1; have:=HN.out; omega) h1 h2);go_wp2;go_ret;exact⟨by rw [RR.out]; rfl,BE.out⟩
theorem U0 {α:Type} [Inhabited α] (enc:α->aI) (d:Array α) (cur:Array aI) (h:d.size<=cur.size):(putCells enc 0 d cur).toList.take d.size=d.toList.map enc:=by
 apply List.ext_getElem?;intro j;rw [cB];by_cases hj:j<d.size
 ·have hc:j<cur.size:=by omega
  simp [putCells,hj,hc]
 ·simp [hj]
theorem Ci {α β:Type} [Inhabited β] {E:Ek α} (K:E.Ok) {w:aG} {B g cap:Nat} {l l':List α} (h:Own E w B (O (ak ⟨g,0,aC⟩) l.length cap) l) (enc:β->aI) (d:Array β) (hd:d.toList.map enc=flat E l') (hl:l'.length=l.length) (n:Nat) (os:Array Obj) :
  Own E (grow (putRow enc (aU w n) g 0 d) os) B (O (ak ⟨g,0,aC⟩) l.length cap) l'/\w.grownBy (grow (putRow enc (aU w n) g 0 d) os) (ak g):=by
 have hds:d.size=l.length * E.n:=by
  rw [<- hl,<- eG K l',<- hd];simp
 rcases gX h with⟨e,_⟩|⟨g',cap',cur,e,h1,h2,h3,h4,h5,h6⟩
 ·cases e
 obtain⟨rfl,rfl⟩:g=g'/\cap=cap':=by simpa using e
 have hlt:=lt_of_heap h2;have hb:(grow (putRow enc (aU w n) g 0 d) os).heap[g]?=ak (aL (putCells enc 0 d cur) E.t (0,0)):=by
  rw [heap_grow_old _ _ (by simp [putRow,mapBlock,aU]; exact hlt)];unfold dJ at h2;simp only [putRow,mapBlock,aU,Array.getElem?_modify,if_true,h2]
  rfl
 have hfit:d.size<=cur.size:=by
  rw [hds,h5];exact bY _ h3
 refine⟨⟨by rw [eG K],aY ⟨g,cap,_,by rw [hl],h1,hb,by rw [hl]; exact h3,h4,by simp [putCells]; exact h5,?_⟩⟩,⟨rfl,rfl,rfl,by simp [putRow,mapBlock,aU],fun k hk hne=>?_⟩⟩
 ·rw [hl,<- hds,U0 enc d cur hfit,hd]
 ·rw [heap_grow_old _ _ (by simp [putRow,mapBlock,aU]; exact hk)];have hkg:g≠k:=fun e=>hne (by rw [e]);simp [putRow,mapBlock,aU,Array.getElem?_modify,hkg]
theorem Fb {α:Type} {E:Ek α} {w:aG} {B g cap:Nat} {l:List α} (K:E.Ok) {β:Type} [Inhabited β] (enc:β->aI) (d:Array β) (hd:d.toList.map enc=flat E l) (h:Own E w B (O (ak ⟨g,0,aC⟩) l.length cap) l):Holds enc w g 0 d/\g<w.heap.size:=by
 rcases gX h with⟨e,_⟩|⟨g',cap',cur,e,h1,h2,h3,h4,h5,h6⟩
 ·cases e
 obtain⟨rfl,rfl⟩:g=g'/\cap=cap':=by simpa using e
 refine⟨fun j hj=>?_,h2.lt⟩;rw [dh];refine⟨?_,h2.fr j⟩;rw [h2.cell j];have hsz:d.size=l.length * E.n:=by
  rw [<- eG K l,<- hd];simp
 have h7:(cur.toList.take (l.length * E.n))[j]?=(d.toList.map enc)[j]?:=by rw [h6,hd]
 rw [cB,if_pos (by omega)] at h7;rw [Array.getElem?_toList] at h7;rw [h7,List.getElem?_map,Array.getElem?_toList,getElem!_pos d j hj,Array.getElem?_eq_getElem hj]
 rfl
theorem RG (w:aG) (B:Nat) (v:aI) (l:List Int) (h:yH w B v l) (hlen:l.length<=900):bF Z 33 #[v] w fun e w'=>e=aH (.tuple #[])/\∃ l':List Int,yH w' B v l'/\l'.Perm l/\l'.Pairwise (·<=·)/\w.grownBy w' v.ownBlock:=by
 rcases gX h with⟨rfl,rfl⟩|⟨g,cap,cur,rfl,h1,h2,h3,h4,h5,h6⟩
 ·have hc:=Any.slices_Sort_int_none Tryz.sortI aC 0 w;refine cK hc ?_;rintro e w' ⟨rfl,rfl⟩;exact⟨rfl,[],h,List.Perm.refl _,List.Pairwise.nil,Rw.sw _ _⟩
 ·obtain⟨hh,hlt⟩:=Fb Nm.Oi (ah aj) l.toArray (by rw [I9]) h;have hc:=Any.slices_Sort_int Tryz.sortI g 0 cap l w hh hlt (by omega);refine cK hc ?_;rintro e w' ⟨rfl,n,os,rfl⟩;have hs:=Ci Nm.Oi (l':=l.mergeSort fun x y=>decide (x<=y)) h (ah aj) (l.mergeSort fun x y=>decide (x<=y)).toArray (by rw [I9]) (List.length_mergeSort l) n os;refine⟨rfl,_,hs.1,List.mergeSort_perm _ _,?_,hs.2⟩;have hp:=List.pairwise_mergeSort (le:=fun x y:Int=>decide (x<=y)) (fun a b c h1 h2=>by simp at h1 h2 ⊢; omega) (fun a b=>by simp; omega) l;exact hp.imp (fun {a b} hab=>by simpa using hab)
theorem JQ (d:Array Int) (n:Nat) (hs:∀ i j,i<=j->j<n->d[i]!<=d[j]!):∀ m,m<=n->(∀ x∈aW d m,∃ j,j<m/\d[j]! = x)/\(∀ j,j<m->d[j]!∈aW d m)/\(aW d m).Pairwise (·<·)
 | 0,_=>⟨fun x h=>by simp [aW] at h,fun j h=>by omega,by simp [aW]⟩
 | m+1,hm=>by
  obtain⟨h1,h2,h3⟩:=JQ d n hs m (by omega);rw [Lib.compactUpTo_succ];cases hk:Lib.keeps d m with
  | false =>
   simp only [Bool.false_eq_true,if_false,List.append_nil];have hk':m≠0/\d[m]! = d[m-1]!:=by
    have h:=of_decide_eq_false hk;rw [not_or] at h;exact⟨h.1,Classical.not_not.1 h.2⟩
   refine⟨fun x hx=>?_,fun j hj=>?_,h3⟩
   ·obtain⟨j,hj,e⟩:=h1 x hx;exact⟨j,by omega,e⟩
   ·rcases aR j m with h|h
    ·exact h2 j h
    ·obtain rfl:j=m:=by omega
     rw [hk'.2];exact h2 _ (by omega)
  | true =>
   simp only [if_true];have hk':m=0\/d[m]!≠d[m-1]!:=of_decide_eq_true hk;refine⟨fun x hx=>?_,fun j hj=>?_,?_⟩
   ·rcases List.mem_append.1 hx with h|h
    ·obtain⟨j,hj,e⟩:=h1 x h;exact⟨j,by omega,e⟩
    ·exact⟨m,by omega,(cO.1 h).symm⟩
   ·rcases aR j m with h|h
    ·exact bZ _ (h2 j h)
    ·obtain rfl:j=m:=by omega
     exact bV _ (by simp)
   ·rw [List.pairwise_append];refine⟨h3,List.pairwise_singleton _ _,fun a ha b hb=>?_⟩;obtain⟨j,hj,rfl⟩:=h1 a ha;rw [cO.1 hb];have a1:=hs j (m-1) (by omega) (by omega);have a2:=hs (m-1) m (by omega) (by omega);rcases hk' with h|h
    ·omega
    ·omega
theorem Nf (l:List Int) (hs:l.Pairwise (·<=·)):(aJ l).Pairwise (·<·)/\(∀ x,x∈aJ l↔x∈l)/\(aJ l).length<=l.length:=by
 have hd:∀ i j,i<=j->j<l.length->l.toArray[i]!<=l.toArray[j]!:=by
  intro i j hij hj;rw [getElem!_pos l.toArray i (by simp; omega),getElem!_pos l.toArray j (by simpa using hj)];rcases aR i j with h|h
  ·have:=bQ.1 hs i j (by omega) hj h;simpa using this
  ·obtain rfl:i=j:=by omega
   exact Int.le_refl _
 obtain⟨h1,h2,h3⟩:=JQ l.toArray l.length hd l.length (aN _);refine⟨h3,fun x=>⟨fun hx=>?_,fun hx=>?_⟩,?_⟩
 ·obtain⟨j,hj,rfl⟩:=h1 x hx;rw [getElem!_pos l.toArray j (by simpa using hj)];simp
 ·obtain⟨j,hj,rfl⟩:=bJ.1 hx;have:=h2 j hj;rw [getElem!_pos l.toArray j (by simpa using hj)] at this;simpa [aJ] using this
 ·unfold aJ aW;rw [List.length_map];exact bU (List.length_filter_le _ _) (by simp)
theorem U4 (w:aG) (B:Nat) (v:Sl) (l:List Int) (h:yH w B (dY v) l) (hs:l.Pairwise (·<=·)) (hlen:l.length<=900):bF Z 34 #[dY v] w fun e w'=>(∃ v':Sl,e=aH (dY v')/\∃ l':List Int,yH w' B (dY v') l'/\l'.Pairwise (·<·)/\∀ x,x∈l'↔x∈l)/\w.grownBy w' (dY v).ownBlock:=by
 obtain⟨vo,vn,vc⟩:=v;rcases gX h with⟨h0,rfl⟩|⟨g,cap,cur,h0,h1,h2,h3,h4,h5,h6⟩
 ·obtain⟨rfl,rfl,rfl⟩:vo=aC/\vn=0/\vc=0:=by simpa using h0
  have hc:=Any.slices_Compact_int_empty Tryz.cptI aC 0 w;refine cK hc ?_;rintro e w' ⟨rfl,rfl⟩;exact⟨⟨(aC,0,0),rfl,[],h,List.Pairwise.nil,fun _=>Iff.rfl⟩,Rw.sw _ _⟩
 ·obtain⟨rfl,rfl,rfl⟩:vo=ak ⟨g,0,aC⟩/\vn=l.length/\vc=cap:=by simpa using h0
  obtain⟨hh,hlt⟩:=Fb Nm.Oi (ah aj) l.toArray (by rw [I9]) h;have hc:=Any.slices_Compact_int Tryz.cptI g 0 vc l w hh (by omega) h3;obtain⟨c1,c2,c3⟩:=Nf l hs;refine cK hc ?_;rintro e w' ⟨rfl,n,rfl⟩;have ht:=Ci Nm.Oi (l':=aJ l++bL (l.length-(aJ l).length) 0) h (ah aj) (aJ l++bL (l.length-(aJ l).length) 0).toArray (by rw [I9]) (by rw [cZ,List.length_replicate]; omega) n #[];have hg:grow (putRow (ah aj) (aU w n) g 0 (aJ l++bL (l.length-(aJ l).length) 0).toArray) #[]=putRow (ah aj) (aU w n) g 0 (aJ l++bL (l.length-(aJ l).length) 0).toArray:=grow_empty _;rw [hg] at ht;refine⟨⟨(ak ⟨g,0,aC⟩,(aJ l).length,vc),rfl,aJ l,?_,c1,c2⟩,ht.2⟩;rcases gX ht.1 with⟨e,_⟩|⟨g',cap',cur',e,k1,k2,k3,k4,k5,k6⟩
  ·cases e
  ·obtain⟨rfl,_,rfl⟩:g=g'/\l.length=_/\vc=cap':=by simpa using e
   refine qU Nm.Oi rfl k1 k2 (bU c3 h3) k4 k5 ?_;have k7:=congrArg (List.take ((aJ l).length * EI.n)) k6;rw [List.take_take,uL Nm.Oi,Nat.min_eq_left (bY _ (by rw [cZ]; omega)),List.take_left'] at k7
   ·exact k7
   ·rfl
end Av
namespace Rg
open Go.RowKit Rw
structure abG (i N A S:Nat) (d last:Nat->Nat) (V:Nat->aI->aG->Prop) (base:Act) (o:Oper) (a:Act) (x:aG):Prop where
 kp:∀ j u,(∀ i,i<N->d i≠j)->base.tmps[j]?=ak u->a.eval (bf j)=u
 at_:∀ e∈o.after,aV .any e=aS->e.on≠A->e.on≠S->(last e.on=i\/N<=last e.on)->V e.on (a.eval (bf (d e.on))) x
structure InX (l:List Oper) (N A S C:Nat) (d last:Nat->Nat) (V:Nat->aI->aG->Prop) (t:cu) (zero:Array aI) (Tn:aI->Array aI) (base:Act) (W:aG) (L:Array Bool) (a:Act) (x:aG):Prop where
 cl:∀ i o,done L i->l[i]?=ak o->∀ e∈o.after,aV .any e=aS->done L e.on
 no:∀ i,N<=i->¬ done L i
 df:a.defers=base.defers
 sz:a.tmps.size=base.tmps.size
 kp:∀ j,(∀ i,i<N->d i≠j)->a.tmps[j]?=base.tmps[j]?
 vP:Below W.heap.size W x
 val:∃ vs:Nat->aI,∀ i,i<N->i≠S->done L i->a.tmps[d i]?=ak (vs i)/\(i≠A->¬ done L (last i)->V i (vs i) x)
 box:done L A->¬ done L S->∃ bb,a.tmps[d A]?=ak (aD (ak ⟨bb,0,aC⟩))/\W.heap.size<=bb/\dJ x bb zero t
 fin:done L S->∃ bb v,a.tmps[d A]?=ak (aD (ak ⟨bb,0,aC⟩))/\a.tmps[d C]?=ak v/\W.heap.size<=bb/\dJ x bb (Tn v) t/\V C v x
theorem Fe {P:Program} {Q:Exit->Act->aG->Prop} {id:Nat} {base:Act} {W:aG} {l:List Oper} (N A S C:Nat) (d last:Nat->Nat) (V:Nat->aI->aG->Prop) (t:cu) (zero:Array aI) (Tn:aI->Array aI)
  (hm:P.follows .mixedOrders=aS) (hf:Mh l.toArray=aS) (hN:l.length=N) (hA:A<N) (hS:S<N) (hC:C<N) (hAS:A≠S) (hCS:C≠S) (hAC:A≠C) (hlC:N<=last C)
  (hinj:∀ i j,i<N->j<N->i≠S->j≠S->d i=d j->i=j) (hs:∀ i,i<N->d i<base.tmps.size)
  (hV:∀ i v x x',i<N->V i v x->Below x.heap.size x x'->V i v x')
  (hw:∀ o,l[S]?=ak o->(∃ e∈o.after,aV .any e=aS/\e.on=A)/\∃ e∈o.after,aV .any e=aS/\e.on=C)
  (hop:∀ i o,i<N->i≠A->i≠S->l[i]?=ak o->∀ a x,Below W.heap.size W x->abG i N A S d last V base o a x->∀ K:Act->aG->Prop,(∀ v x',V i v x'->Below x.heap.size x x'->K (a.put (ak (d i)) v) x')->wpOp P l.toArray Q i K a x)
  (hoA:∀ o,l[A]?=ak o->∀ a x,∀ K:Act->aG->Prop,K (a.put (ak (d A)) (aD (ak ⟨x.heap.size,0,aC⟩))) (x.alloc (aL zero t))->wpOp P l.toArray Q A K a x)
  (hoS:∀ o,l[S]?=ak o->∀ a x bb v (D:Nat->Prop),(∀ j oj,D j->l[j]?=ak oj->∀ e∈oj.after,aV .any e=aS->D e.on)->(∀ e∈o.after,aV .any e=aS->D e.on)->Below W.heap.size W x->a.eval (bf (d A))=aD (ak ⟨bb,0,aC⟩)->a.eval (bf (d C))=v->V C v x->W.heap.size<=bb->dJ x bb zero t->∀ K:Act->aG->Prop,(∀ x',Below W.heap.size W x'->dJ x' bb (Tn v) t->(∀ j u,j<N->j≠A->j≠S->D j->¬ D (last j)->last j≠S->V j u x->V j u x')->K a x')->wpOp P l.toArray Q S K a x)
  (hend:∀ a x bb v,a.defers=base.defers->a.tmps.size=base.tmps.size->(∀ j,(∀ i,i<N->d i≠j)->a.tmps[j]?=base.tmps[j]?)->a.tmps[d A]?=ak (aD (ak ⟨bb,0,aC⟩))->a.tmps[d C]?=ak v->W.heap.size<=bb->dJ x bb (Tn v) t->V C v x->Below W.heap.size W x->(∃ vs:Nat->aI,∀ i,i<N->i≠S->i≠A->a.tmps[d i]?=ak (vs i)/\(N<=last i->V i (vs i) x))->Q .normal a x):(Code.region id l.toArray aS).wp P Q base W:=by
 refine o9 (fun L a x=>InX l N A S C d last V t zero Tn base W L a x) hm hf ?_ ?_ ?_
 ·exact⟨fun i o h=>absurd h (gH _ _),fun i _=>gH _ _,rfl,rfl,fun _ _=>rfl,(aF _ _).drew,⟨fun _=>.bool aS,fun i _ _ h=>absurd h (gH _ _)⟩,fun h=>absurd h (gH _ _),fun h=>absurd h (gH _ _)⟩
 ·intro L a x i o hsz I ho hnd mO;have hi:i<l.length:=(au.1 ho).1;have ZT:i<N:=by omega
  have Aa:i<L.size:=by omega
  obtain⟨vs,hvs⟩:=I.val;have hon:∀ e∈o.after,aV .any e=aS->e.on<i:=fun e he hb=>by
   have h7:=List.all_eq_true.1 hf i (List.mem_range.2 (by simpa using hi));have ho':(l.toArray)[i]?=ak o:=by simpa using ho
   rw [ho'] at h7;have h8:=Array.all_eq_true'.1 h7 e he;rw [hb] at h8;simpa using h8
  have dd:∀ {k},k≠i->done (L.setIfInBounds i aS) k->done L k:=fun {k} h h5=>((ig Aa k).1 h5).resolve_left h;have du:∀ {k},done L k->done (L.setIfInBounds i aS) k:=fun {k} h=>(ig Aa k).2 (aY h);have cl':∀ k q,done (L.setIfInBounds i aS) k->l[k]?=ak q->∀ e∈q.after,aV .any e=aS->done (L.setIfInBounds i aS) e.on:=fun k q hk hq e he hb=>by
   by_cases e2:k=i
   ·subst e2;rw [hq] at ho;cases ho;exact du (mO e he hb)
   ·exact du (I.cl k q (dd e2 hk) hq e he hb)
  have no':∀ k,N<=k->¬ done (L.setIfInBounds i aS) k:=fun k hk h=>I.no k hk (dd (by omega) h);have seen:abG i N A S d last V base o a x:=⟨fun j u hj hu=>dL (by rw [I.kp j hj]; exact hu),fun e he hb hA' hS' hl=>by
   obtain⟨h1,h2⟩:=hvs e.on (by have:=hon e he hb; omega) hS' (mO e he hb);rw [dL h1];refine h2 hA' ?_;rcases hl with hl|hl
   ·rw [hl]; exact hnd
   ·exact I.no _ hl⟩
  have ah4:i≠S->∀ v x',Below x.heap.size x x'->(i≠A->V i v x')->(i=A->∃ bb,v=aD (ak ⟨bb,0,aC⟩)/\W.heap.size<=bb/\dJ x' bb zero t)->InX l N A S C d last V t zero Tn base W (L.setIfInBounds i aS) (a.put (ak (d i)) v) x':=by
   intro Az v x' hb hpv hpa;have self:(a.put (ak (d i)) v).tmps[d i]?=ak v:=by
    have h5:d i<a.tmps.size:=by rw [I.sz]; exact hs i ZT
    simp [Act.put,h5]
   have keep:∀ k,k<N->k≠S->k≠i->(a.put (ak (d i)) v).tmps[d k]?=a.tmps[d k]?:=fun k hk D5 hki=>get_put _ _ _ _ (fun e=>hki (hinj _ _ hk ZT D5 Az e));refine⟨cl',no',I.df,by rw [size_put]; exact I.sz,fun j hj=>?_,I.vP.trans (hb.mono I.vP.size),⟨fun k=>if k=i then v else vs k,fun k hk D5 hdn=>?_⟩,fun h1 h2=>?_,fun h1=>?_⟩
   ·rw [get_put _ _ _ _ (fun e=>hj i ZT e.symm)];exact I.kp j hj
   ·by_cases e:k=i
    ·subst e;simp only [if_true];exact⟨self,fun h3 _=>hpv h3⟩
    ·simp only [if_neg e];obtain⟨h3,h4⟩:=hvs k hk D5 (dd e hdn);exact⟨by rw [keep k hk D5 e]; exact h3,fun h5 h6=>hV k _ _ _ hk (h4 h5 (fun h=>h6 (du h))) hb⟩
   ·by_cases e:A=i
    ·subst e;obtain⟨bb,rfl,h4,h5⟩:=hpa rfl;exact⟨bb,self,h4,h5⟩
    ·obtain⟨bb,h3,h4,h5⟩:=I.box (dd e h1) (fun h=>h2 (du h));exact⟨bb,by rw [keep A hA hAS e]; exact h3,h4,h5.on hb⟩
   ·have h2:=dd (Ne.symm Az) h1;obtain⟨bb,u,h5,h6,h7,h8,h9⟩:=I.fin h2;obtain⟨oS,JR⟩:∃ oS,l[S]?=ak oS:=⟨_,U (by omega)⟩;obtain⟨⟨ea,k1,k2,k3⟩,ec,k4,k5,k6⟩:=hw oS JR;have dA:=I.cl S oS h2 JR ea k1 k2;have dC:=I.cl S oS h2 JR ec k4 k5;rw [k3] at dA;rw [k6] at dC;have eA:A≠i:=fun e=>hnd (e ▸ dA);have eC:C≠i:=fun e=>hnd (e ▸ dC);exact⟨bb,u,by rw [keep A hA hAS eA]; exact h5,by rw [keep C hC hCS eC]; exact h6,h7,h8.on hb,hV C _ _ _ hC h9 hb⟩
  by_cases Az:i=S
  ·subst Az;obtain⟨⟨ea,h1,h2,h3⟩,ec,h4,h5,h6⟩:=hw o ho;have dA:=mO ea h1 h2;have dC:=mO ec h4 h5;rw [h3] at dA;rw [h6] at dC;obtain⟨v1,v2⟩:=hvs C hC hCS dC;obtain⟨bb,b1,b2,b3⟩:=I.box dA hnd;have vC:=v2 (Ne.symm hAC) (I.no _ hlC);refine hoS o ho a x bb (vs C) (done L) I.cl mO I.vP (dL b1) (dL v1) vC b2 b3 _ (fun x' q1 q2 q3=>⟨cl',no',I.df,I.sz,I.kp,q1,⟨vs,fun k hk D5 hdn=>?_⟩,fun _ hn=>absurd ((ig Aa _).2 (Or.inl rfl)) hn,fun _=>⟨bb,vs C,b1,v1,b2,q2,?_⟩⟩)
   ·obtain⟨w1,w2⟩:=hvs k hk D5 (dd D5 hdn);refine⟨w1,fun hkA hnl=>?_⟩;have n1:last k≠i:=fun e=>hnl ((ig Aa _).2 (Or.inl e));have n2:¬ done L (last k):=fun e=>hnl (du e);exact q3 k _ hk hkA D5 (dd D5 hdn) n2 n1 (w2 hkA n2)
   ·exact q3 C _ hC (Ne.symm hAC) hCS dC (I.no _ hlC) (by omega) vC
  ·by_cases hiA:i=A
   ·subst hiA;refine hoA o ho a x _ (ah4 Az _ _ ((aF _ _).alloc (aN _) _) (fun h=>absurd rfl h) (fun _=>⟨x.heap.size,rfl,I.vP.size,dO x zero t⟩))
   ·refine hop i o ZT hiA Az ho a x I.vP seen _ (fun v x' q1 q2=>ah4 Az v x' q2 (fun _=>q1) (fun e=>absurd e hiA))
 ·intro L a x I hd;have dS:=hd S (by omega);obtain⟨bb,v,h1,h2,h3,h4,h5⟩:=I.fin dS;obtain⟨vs,hvs⟩:=I.val;exact hend a x bb v I.df I.sz I.kp h1 h2 h3 h4 h5 I.vP ⟨vs,fun i hi Az hiA=>by
   obtain⟨k1,k2⟩:=hvs i hi Az (hd i (by omega));exact⟨k1,fun hl=>k2 hiA (I.no _ hl)⟩⟩
end Rg
namespace At
open Go.RowKit Va
abbrev V3:=Bool×Int×ByteArray
/-! ### the publications that numbers make -/
end At
namespace At
open Go.RowKit Go.Sort Va In
end At
namespace Pr
open Go.RowKit Pu Rw
theorem U5 {α:Type} {E:Ek α} (K:E.Ok) (tn:cu) (htn:Tryz.prog.underlying tn=ak (.int .i64)) (n:Nat) (h0:0<n) (hn:n<=1000) (W:aG) :
  ∃ (G:Nat) (R:Array aI),n<=G/\G<=maxLen/\R.size=G * E.n /\
   ∀ ty,(Builtin.append_ #[E.ts,tn] ty #[O aC 0 0,ah aj n]).run Z W=.ok (O (ak ⟨W.heap.size,0,aC⟩) n G) (W.drew.alloc (aL R E.t)):=by
 obtain⟨i,i1,i2,i3,i4⟩:=K.info;have hf:=K.few;have hpos:=K.pos;have happ:=fun ty=>Lib.run_append_grow_zeros (P:=Z) W E.ts tn ty E.t i _ aj aj K.hu htn i1 i2 aC 0 0 [] (run_firstCells_none _ _ _ _ _) n h0 (by rw [i3]; exact hpos) (by omega) (by omega)
  (by rw [i4]; exact bU (Nat.mul_le_mul hn hf) (by decide))
  (growslice_fits (by omega) (by rw [i4]; exact bU (Nat.mul_le_mul (show 0+n<=2000 by omega) hf) (by decide)))
 rw [dh] at happ;have hG1:=grownCap_ge W n 0 E.t;have hG2:=grownCap_le_maxLen W n 0 E.t (by unfold maxLen; omega);generalize grownCap W n 0 E.t=G at happ hG1 hG2;refine⟨G,_,hG1,hG2,?_,happ⟩;simp only [Array.size_append,List.size_toArray,List.length_nil,size_zeroCells,K.zs,dh,<- Nat.add_mul];rw [show n+(G-n)=G by omega]
def U6 (l:List C5) (w:aG) (e:Ending) (w':aG):Prop:=∃ v,e=aH v/\iq w' w.heap.size v l/\Below w.heap.size w w'
theorem U7 (n:Nat) (w:aG) (hn:n<=200) :
  bF Z 159 #[O aC 0 0,ah aj n] w (U6 [] w):=by
 rcases Nat.eq_zero_or_pos n with rfl|h0
 ·have Q:=J (show U6 [] w (aH (O aC 0 0)) w from ⟨_,rfl,jl _ _,aF _ _⟩);go_enter Tryz.func159,Tryz.ntmps159;go_wp2;go_ret;exact Q.out
 ·obtain⟨G,R,g1,g2,g3,hr⟩:=U5 (E:=EC) vI 3 aQ n h0 (by omega) w;have r:=hr 32;have s1:=kP (E:=EC) vI ⟨w.heap.size,0,aC⟩ 0 n G (bX _);have Q:=J (show U6 [] w (aH (O (ak ⟨w.heap.size,0,aC⟩) 0 G)) (w.drew.alloc (aL R 70)) from
   ⟨_,rfl,qU vI (l:=[]) rfl (aN _) (dO w.drew R 70) (bX _) g2 g3 (by simp [flat]),(aF _ _).drew.alloc (by simp) _⟩)
  change (Builtin.append_ #[32,3] 32 #[O aC 0 0,ah aj (n:Int)]).run Z w=.ok (O (ak ⟨w.heap.size,0,aC⟩) n G) (w.drew.alloc (aL R 70)) at r;change ∀ W,(Instr.sliceAt 32 (O (ak ⟨w.heap.size,0,aC⟩) n G) aC (ak (ah aj 0)) aC).run Z W=.ok (O (ak ⟨w.heap.size,0,aC⟩) 0 G) W at s1;have e1:decide ((n:Int)<0)=bI:=by simp
  have e2:decide ((0:Int)<(n:Int))=aS:=by simp; omega
  unfold maxLen at g2;clear hr g3;go_enter Tryz.func159,Tryz.ntmps159;go_wp2_with (first | (at_builtin; refine jy rfl _ _ 32 3 rfl rfl rfl r ?_) | fail);go_ret;exact Q.out
def akZ (n m:Nat) (s i:aI):Prop:=(i=ah aj 0/\s=ah aj 0)\/(i=ah aj 1/\s=ah aj (n:Int))\/(i=ah aj 2/\s=ah aj ((n+m:Nat):Int))
def ak0 (w:aG) (a b:List C5) (v i:aI) (wr:aG):Prop:=((i=ah aj 0/\iq wr w.heap.size v [])\/(i=ah aj 1/\iq wr w.heap.size v a)\/(i=ah aj 2/\iq wr w.heap.size v (a++b)))/\Below w.heap.size w wr
theorem Ng (g:Nat) (nU bv:aI) (a b:List C5) (w:aG) (c0:w.cell? ⟨g,0,aC⟩=ak nU) (c1:w.cell? ⟨g,1,aC⟩=ak bv) (ha:fK w nU a) (hb:fK w bv b) (la:a.length<=100) (lb:b.length<=100) :
  bF Z 122 #[O (ak ⟨g,0,aC⟩) 2 2] w (U6 (a++b) w):=by
 have HA:=J ha;have HB:=J hb;have C0:=J c0;have C1:=J c1;have hg:g<w.heap.size:=aT w _ c0;obtain⟨ao,ac,rfl⟩:=ha.len;obtain⟨bo,bc,rfl⟩:=hb.len;clear ha hb c0 c1;go_enter Tryz.func122,Tryz.ntmps122;go_wp2
 go_loop [3,11] (fun s i=>akZ a.length b.length s i) (fun _ i=>(2-intOf i).toNat)
 case atStart=>exact Or.inl ⟨rfl,rfl⟩
 case round =>
  rcases hrel with⟨rfl,rfl⟩|⟨rfl,rfl⟩|⟨rfl,rfl⟩
  ·have c0:=C0.out;go_wp2
   go_round
   case rel=>exact aY (Or.inl ⟨rfl,rfl⟩)
   case measure=>simp [intOf]
  ·have c1:=C1.out;go_wp2
   go_round
   case rel=>exact aY (aY ⟨rfl,by go_num⟩)
   case measure=>simp [intOf]
  ·have GR:=J (U7 (a.length+b.length) w (by omega));go_wp2_with fail;refine GR.out.mono ?_;rintro e1 w1 ⟨v1,rfl,ho,hb1⟩;have O1:=J ho;have B1:=J hb1;clear ho hb1 GR;go_wp2
   go_loopw [6,27] (fun v i wr=>ak0 w a b v i wr) (fun _ i _=>(2-intOf i).toNat)
   case atStart=>exact⟨Or.inl ⟨rfl,O1.out⟩,B1.out⟩
   case round =>
    obtain⟨hc,hbw⟩:=hrel;have BW:=J hbw;clear hbw;rcases hc with⟨rfl,ho⟩|⟨rfl,ho⟩|⟨rfl,ho⟩
    ·have c0:=(BW.out.cell (p:=⟨g,0,aC⟩) hg).trans C0.out;obtain⟨v',w',r,o',gr⟩:=DJ w.heap.size ho (HA.out.on BW.out) (by simp) (by omega) BW.out.size;have B':=J (BW.out.grown gr BW.out.size (fun j hj=>(ho.lt j hj).1));have O':=J o';clear ho o' gr;go_wp2_with (first | (at_builtin; refine wpList_append_run rfl _ _ 32 rfl rfl rfl r ?_) | fail)
     go_roundw
     case rel=>exact⟨aY (Or.inl ⟨rfl,O'.out⟩),B'.out⟩
     case measure=>simp [intOf]
    ·have c1:=(BW.out.cell (p:=⟨g,1,aC⟩) hg).trans C1.out;obtain⟨v',w',r,o',gr⟩:=DJ w.heap.size ho (HB.out.on BW.out) (by omega) (by omega) BW.out.size;have B':=J (BW.out.grown gr BW.out.size (fun j hj=>(ho.lt j hj).1));have O':=J o';clear ho o' gr;go_wp2_with (first | (at_builtin; refine wpList_append_run rfl _ _ 32 rfl rfl rfl r ?_) | fail)
     go_roundw
     case rel=>exact⟨aY (aY ⟨rfl,O'.out⟩),B'.out⟩
     case measure=>simp [intOf]
    ·have Q:=J (show U6 (a++b) w (aH _) _ from ⟨_,rfl,ho,BW.out⟩);clear ho;go_wp2;go_ret;exact Q.out
end Pr
namespace Ar
open Go.ChangeShapes Go.WideShapes Go.RowKit
def readable (P:Program) (ts:List cu):Bool:=ts.all fun t=>P.readableRec t && decide (t<P.types.size)
theorem carry {H:Type} {enc:cu×aI->H} {P:Program} (hl:laidOutB P=aS) {W W':aG} (hb:Below W.heap.size W W') :
  ∀ (ts:List cu) (vs:List aI) (ds:List (DataW H)) (ps:List MemPlace),readable P ts=aS->DataW.TrodAll enc P W 0 (fun _=>aS) aS ts vs ds ps->(∀ x∈ps,x.block<W.heap.size) ->
   DataW.TrodAll enc P W' 0 (fun b=>decide (b<W.heap.size)) aS ts vs ds ps
 | [],vs,ds,ps,_,h,_=>by
  obtain⟨rfl,rfl,rfl⟩:=trodAll_nil h;exact trodAll_mk0
 | t::ts,vs,ds,ps,hr,h,hlt=>by
  obtain⟨v,vs',d,ds',p,q,rfl,rfl,rfl,h1,h2⟩:=trodAll_cons h;simp only [readable,List.all_cons,dx,decide_eq_true_eq] at hr;exact trodAll_cons_mk (Below.trod hl hr.1.1 hr.1.2 h1 hb (fun x hx=>hlt x (bZ _ hx)))
   (carry hl hb ts vs' ds' q hr.2 h2 (fun x hx=>hlt x (bV _ hx)))
end Ar
namespace Pr
open Go.RowKit Go.ChangeShapes Go.WideShapes In
theorem U8:Tryz.prog.cellsOf 49=2:=by kernel_rfl
theorem Pb:Tryz.prog.cellsOf 22=1:=by kernel_rfl
theorem RI {H:Type} {enc:cu×aI->H} {W:aG} {r:Reach} {b0:Nat} {sp:Nat->Bool} {held:Bool} {v:aI} {d:DataW H} {ps:List MemPlace}
  (hval:Value.okWide Z W r b0 49 v) (hd:DataW.Trod enc Z W 0 sp held 49 v d ps) :
  ∃ (hv vv:aI) (has vals:List Int),v=dB #[hv,vv]/\has.length<=maxLen/\vals.length<=maxLen/\jX W hv has/\jX W vv vals:=by
 obtain⟨cs,rfl,hsz⟩:=okWide_struct bR hval;obtain⟨fuel,hf⟩:=hd;obtain⟨xs,n,_,_,_,hxl,hx⟩:=bG bR hf;rw [U8] at hsz;obtain⟨l⟩:=cs
 match l,hsz with
 | [c0,c1],_ =>
  have f0:aP enc Z W 0 sp held n 22 (([c0,c1].drop 0).take (Tryz.prog.cellsOf 22))=xs[0]?:=hx 0 _ rfl;have f1:aP enc Z W 0 sp held n 22 (([c0,c1].drop 1).take (Tryz.prog.cellsOf 22))=xs[1]?:=hx 1 _ rfl;have ah5:xs.length=2:=hxl;simp only [Pb,bM,bg,bD,bN] at f0 f1;rw [U (by omega)] at f0 f1;obtain⟨has,h1,h2⟩:=Al f0;obtain⟨vals,h3,h4⟩:=Al f1;exact⟨c0,c1,has,vals,rfl,h1,h3,h2,h4⟩
end Pr
namespace Av
open Go.RowKit Go.ChangeShapes Go.WideShapes Bk
theorem aaK:Tryz.prog.cellsOf 86=7:=by kernel_rfl
theorem aaL (a:bS) (m len cap:Nat) (h:m<len) (w:aG):(aX 45 (O (ak a) len cap) (ah aj m)).run Z w=.ok (aD (ak (a.add (m * 7)))) w:=by
 have h1:(m:Int)<len:=by omega
 simp [go_sem,dn,h1]
structure Nh (W:aG) (v:aI) (n:Nat):Prop where
 shape:∃ ao cap,v=O ao n cap
 at_:∀ i:Nat,i<n->∃ (p:bS) (z0 z1 z2 z3 z4:Int) (h1:Option bS) (h2 h3:Nat) (g1:Option bS) (g2 g3:Nat) (has vals:List Int),p.block<W.heap.size/\(∀ w,(aX 45 v (ah aj i)).run Z w=.ok (aD (ak p)) w)/\(∀ j u,([ah aj z0,ah aj z1,ah aj z2,ah aj z3,ah aj z4,O h1 h2 h3,O g1 g2 g3]:List aI)[j]?=ak u->W.cell? (p.add j)=ak u)/\((-9223372036854775808<=z0/\z0<=9223372036854775807)/\(-9223372036854775808<=z1/\z1<=9223372036854775807)/\(-9223372036854775808<=z2/\z2<=9223372036854775807)/\(-9223372036854775808<=z3/\z3<=9223372036854775807)/\(-9223372036854775808<=z4/\z4<=9223372036854775807))/\In.jX W (O h1 h2 h3) has/\In.jX W (O g1 g2 g3) vals/\has.length<=maxLen/\vals.length<=maxLen
theorem Nh.on {W W':aG} {v:aI} {n:Nat} (h:Nh W v n) (hb:Below W.heap.size W W'):Nh W' v n :=
 ⟨h.shape,fun i hi=>by
  obtain⟨p,z0,z1,z2,z3,z4,x1,x2,x3,y1,y2,y3,has,vals,h1,h2,h3,h4,h5,h6,h7⟩:=h.at_ i hi;exact⟨p,z0,z1,z2,z3,z4,x1,x2,x3,y1,y2,y3,has,vals,Nat.lt_of_lt_of_le h1 hb.size,h2,fun j u hu=>by rw [hb.cell (by rw [xu]; exact h1)]; exact h3 j u hu,h4,h5.on hb,h6.on hb,h7⟩⟩
end Av
namespace Bk
open Go.RowKit Go.Sort Rw YtmklifheakemeaaGreat.Nm Pr
structure U9 (w W:aG) (B:Nat) (b:Br) (nv av sv ev ov:Sl):Prop where
 near:yH W B (dY nv) b.near
 dP:∃ l,lY W B (dY av) l/\eY (sF w) l b.dP
 seen:sD W B (dY sv) b.seen
 ent:∃ l,kY W B (dY ev) l/\eY (jD w) l b.ent
 own:∃ l,qH W B (dY ov) l/\eY (yI w) l b.own
theorem RJ (b:Br) (nv av sv ev ov:Sl) (w:aG) (h:iN w b nv av sv ev ov) (hf:Hq b) :
  bF Z 14 #[mo b.me nv av sv ev ov] w fun e w'=>(∃ nv' Ac IK ev' Vb:Sl,e=aH (mo b.me nv' Ac IK ev' Vb)/\U9 w w' w.heap.size b nv' Ac IK ev' Vb)/\Below w.heap.size w w':=by
 obtain⟨no,nn,nc⟩:=nv;obtain⟨ao,an,ac⟩:=av;obtain⟨so,sn,sc⟩:=sv;obtain⟨eo,en,ec⟩:=ev;obtain⟨oo,dU,oc⟩:=ov;obtain⟨la,ha1,ha2⟩:=h.dP;obtain⟨le,he1,he2⟩:=h.ent;obtain⟨Ht,ho1,ho2⟩:=h.own;have HA:=J ha2;have HE:=J he2;have HO:=J ho2;have R0:=J h.near;have R1:=J ha1;have R2:=J h.seen;have R3:=J he1;have R4:=J ho1;have LL0:=J hf.near;have LL1:=J (show la.length<=900 by rw [ha2.len]; exact hf.dP);have LL2:=J hf.seen;have LL3:=J (show le.length<=900 by rw [he2.len]; exact hf.ent);have LL4:=J (show Ht.length<=900 by rw [ho2.len]; exact hf.own);obtain⟨h0,h1,h2⟩:=gM w #[ah aj b.me,O no nn nc,O ao an ac,O so sn sc,O eo en ec,O oo dU oc] #[ah aj 0,O aC 0 0,O aC 0 0,O aC 0 0,O aC 0 0,O aC 0 0] 28 28;obtain⟨me,hme⟩:∃ me,me=b.me:=⟨_,rfl⟩;simp only [<- hme] at h0 h1 h2 ⊢;have B0:=J h0;have XB0:=J h1;have ZB0:=J h2;clear h0 h1 h2 h hf ha1 ha2 he1 he2 ho1 ho2 hme;go_enter Tryz.func14,Tryz.ntmps14;go_upto_region 1 with fail;generalize (w.alloc (aL #[ah aj me,O no nn nc,O ao an ac,O so sn sc,O eo en ec,O oo dU oc] 28)).alloc (aL #[ah aj 0,O aC 0 0,O aC 0 0,O aC 0 0,O aC 0 0,O aC 0 0] 28)=W at *;obtain⟨q0,w0,r0,o0,g0⟩:=gZ Nm.Oi (w.heap.size+2) (dO W #[] 3) (by have:=XB0.out.lt; have:=ZB0.out.lt; omega) ((R0.out.on B0.out).on (fF W (aL #[] 3))) (by have:=LL0.out; omega) 22;obtain⟨a0,c0,hv0⟩:=(Row.dH o0).len;obtain⟨l0,hl0⟩:∃ n,n=(b.near).length:=⟨_,rfl⟩;rw [<- hl0] at hv0;subst hv0;have G0:=(fF W (aL #[] 3)).trans (g0.mono (fF W (aL #[] 3)).size);have X0a:=XB0.out.on G0;have x0:=(XB0.out.on (fF W (aL #[] 3))).cell 1;have y0:=X0a.cell 1;have f0:=X0a.fr 1;have z0:=X0a.lt;simp only [aB,ay,aA] at x0 y0;have XB1:=J (show dJ _ _ #[ah aj me,O a0 l0 c0,O ao an ac,O so sn sc,O eo en ec,O oo dU oc] _ from by simpa using dZ (k:=1) X0a (O a0 l0 c0));have ZB1:=J (show dJ _ _ _ _ from (aO w0 ⟨w.heap.size,1,aC⟩ (O a0 l0 c0) _ (show w.heap.size+1≠w.heap.size by omega)).trans (ZB0.out.on G0));have B1:=J (((B0.out.trans (G0.mono B0.out.size)).setCell (p:=⟨w.heap.size,1,aC⟩) (aN _) (O a0 l0 c0)));have aib:=J (dX o0 w.heap.size 1 (O a0 l0 c0) (by omega));clear X0a G0 o0 g0 hl0 XB0 ZB0 ;go_upto_region 2 with (first | (at_builtin; refine wpList_append_run rfl _ _ 22 rfl rfl rfl r0 ?_) | fail)
 clear r0 x0 y0 f0 z0;generalize w0.setCell ⟨w.heap.size,1,aC⟩ (O a0 l0 c0)=W1 at *;obtain⟨q1,w1,r1,o1,g1⟩:=gZ okD (w.heap.size+2) (dO W1 #[] 74) (by have:=XB1.out.lt; have:=ZB1.out.lt; omega) ((R1.out.on B1.out).on (fF W1 (aL #[] 74))) (by have:=LL1.out; omega) 23;obtain⟨a1,c1,hv1⟩:=(Row.dH o1).len;obtain⟨l1,hl1⟩:∃ n,n=(la).length:=⟨_,rfl⟩;rw [<- hl1] at hv1;subst hv1;have G1:=(fF W1 (aL #[] 74)).trans (g1.mono (fF W1 (aL #[] 74)).size);have X1a:=XB1.out.on G1;have x1:=(XB1.out.on (fF W1 (aL #[] 74))).cell 2;have y1:=X1a.cell 2;have f1:=X1a.fr 2;have z1:=X1a.lt;simp only [aB,ay,aA] at x1 y1;have XB2:=J (show dJ _ _ #[ah aj me,O a0 l0 c0,O a1 l1 c1,O so sn sc,O eo en ec,O oo dU oc] _ from by simpa using dZ (k:=2) X1a (O a1 l1 c1));have ZB2:=J (show dJ _ _ _ _ from (aO w1 ⟨w.heap.size,2,aC⟩ (O a1 l1 c1) _ (show w.heap.size+1≠w.heap.size by omega)).trans (ZB1.out.on G1));have B2:=J (((B1.out.trans (G1.mono B1.out.size)).setCell (p:=⟨w.heap.size,2,aC⟩) (aN _) (O a1 l1 c1)));have aie:=J (dX (dI aib.out G1) w.heap.size 2 (O a1 l1 c1) (by omega));have aif:=J (dX o1 w.heap.size 2 (O a1 l1 c1) (by omega));clear X1a G1 o1 g1 hl1 XB1 ZB1 aib;go_upto_region 3 with (first | (at_builtin; refine wpList_append_run rfl _ _ 23 rfl rfl rfl r1 ?_) | fail)
 clear r1 x1 y1 f1 z1;generalize w1.setCell ⟨w.heap.size,2,aC⟩ (O a1 l1 c1)=W2 at *;obtain⟨q2,w2,r2,o2,g2⟩:=gZ Ba (w.heap.size+2) (dO W2 #[] 31) (by have:=XB2.out.lt; have:=ZB2.out.lt; omega) ((R2.out.on B2.out).on (fF W2 (aL #[] 31))) (by have:=LL2.out; omega) 24;obtain⟨a2,c2,hv2⟩:=(Row.dH o2).len;obtain⟨l2,hl2⟩:∃ n,n=(b.seen).length:=⟨_,rfl⟩;rw [<- hl2] at hv2;subst hv2;have G2:=(fF W2 (aL #[] 31)).trans (g2.mono (fF W2 (aL #[] 31)).size);have vJ:=XB2.out.on G2;have x2:=(XB2.out.on (fF W2 (aL #[] 31))).cell 3;have y2:=vJ.cell 3;have f2:=vJ.fr 3;have z2:=vJ.lt;simp only [aB,ay,aA] at x2 y2;have XB3:=J (show dJ _ _ #[ah aj me,O a0 l0 c0,O a1 l1 c1,O a2 l2 c2,O eo en ec,O oo dU oc] _ from by simpa using dZ (k:=3) vJ (O a2 l2 c2));have ZB3:=J (show dJ _ _ _ _ from (aO w2 ⟨w.heap.size,3,aC⟩ (O a2 l2 c2) _ (show w.heap.size+1≠w.heap.size by omega)).trans (ZB2.out.on G2));have B3:=J (((B2.out.trans (G2.mono B2.out.size)).setCell (p:=⟨w.heap.size,3,aC⟩) (aN _) (O a2 l2 c2)));have aii:=J (dX (dI aie.out G2) w.heap.size 3 (O a2 l2 c2) (by omega));have aij:=J (dX (dI aif.out G2) w.heap.size 3 (O a2 l2 c2) (by omega));have aik:=J (dX o2 w.heap.size 3 (O a2 l2 c2) (by omega));clear vJ G2 o2 g2 hl2 XB2 ZB2 aie aif;go_upto_region 4 with (first | (at_builtin; refine wpList_append_run rfl _ _ 24 rfl rfl rfl r2 ?_) | fail)
 clear r2 x2 y2 f2 z2;generalize w2.setCell ⟨w.heap.size,3,aC⟩ (O a2 l2 c2)=W3 at *;obtain⟨q3,w3,r3,o3,g3⟩:=gZ nX (w.heap.size+2) (dO W3 #[] 66) (by have:=XB3.out.lt; have:=ZB3.out.lt; omega) ((R3.out.on B3.out).on (fF W3 (aL #[] 66))) (by have:=LL3.out; omega) 25;obtain⟨a3,c3,hv3⟩:=(Row.dH o3).len;obtain⟨l3,hl3⟩:∃ n,n=(le).length:=⟨_,rfl⟩;rw [<- hl3] at hv3;subst hv3;have G3:=(fF W3 (aL #[] 66)).trans (g3.mono (fF W3 (aL #[] 66)).size);have X3a:=XB3.out.on G3;have x3:=(XB3.out.on (fF W3 (aL #[] 66))).cell 4;have y3:=X3a.cell 4;have f3:=X3a.fr 4;have z3:=X3a.lt;simp only [aB,ay,aA] at x3 y3;have XB4:=J (show dJ _ _ #[ah aj me,O a0 l0 c0,O a1 l1 c1,O a2 l2 c2,O a3 l3 c3,O oo dU oc] _ from by simpa using dZ (k:=4) X3a (O a3 l3 c3));have ZB4:=J (show dJ _ _ _ _ from (aO w3 ⟨w.heap.size,4,aC⟩ (O a3 l3 c3) _ (show w.heap.size+1≠w.heap.size by omega)).trans (ZB3.out.on G3));have B4:=J (((B3.out.trans (G3.mono B3.out.size)).setCell (p:=⟨w.heap.size,4,aC⟩) (aN _) (O a3 l3 c3)));have ail:=J (dX (dI aii.out G3) w.heap.size 4 (O a3 l3 c3) (by omega));have ain:=J (dX (dI aij.out G3) w.heap.size 4 (O a3 l3 c3) (by omega));have aio:=J (dX (dI aik.out G3) w.heap.size 4 (O a3 l3 c3) (by omega));have aip:=J (dX o3 w.heap.size 4 (O a3 l3 c3) (by omega));clear X3a G3 o3 g3 hl3 XB3 ZB3 aii aij aik;go_upto_region 5 with (first | (at_builtin; refine wpList_append_run rfl _ _ 25 rfl rfl rfl r3 ?_) | fail)
 clear r3 x3 y3 f3 z3;generalize w3.setCell ⟨w.heap.size,4,aC⟩ (O a3 l3 c3)=W4 at *;obtain⟨q4,w4,r4,o4,g4⟩:=gZ okW (w.heap.size+2) (dO W4 #[] 34) (by have:=XB4.out.lt; have:=ZB4.out.lt; omega) ((R4.out.on B4.out).on (fF W4 (aL #[] 34))) (by have:=LL4.out; omega) 26;obtain⟨a4,c4,hv4⟩:=(Row.dH o4).len;obtain⟨l4,hl4⟩:∃ n,n=(Ht).length:=⟨_,rfl⟩;rw [<- hl4] at hv4;subst hv4;have G4:=(fF W4 (aL #[] 34)).trans (g4.mono (fF W4 (aL #[] 34)).size);have MN:=XB4.out.on G4;have x4:=(XB4.out.on (fF W4 (aL #[] 34))).cell 5;have y4:=MN.cell 5;have f4:=MN.fr 5;have z4:=MN.lt;simp only [aB,ay,aA] at x4 y4;have XB5:=J (show dJ _ _ #[ah aj me,O a0 l0 c0,O a1 l1 c1,O a2 l2 c2,O a3 l3 c3,O a4 l4 c4] _ from by simpa using dZ (k:=5) MN (O a4 l4 c4));have ZB5:=J (show dJ _ _ _ _ from (aO w4 ⟨w.heap.size,5,aC⟩ (O a4 l4 c4) _ (show w.heap.size+1≠w.heap.size by omega)).trans (ZB4.out.on G4));have B5:=J (((B4.out.trans (G4.mono B4.out.size)).setCell (p:=⟨w.heap.size,5,aC⟩) (aN _) (O a4 l4 c4)));have ak5:=J (dX (dI ail.out G4) w.heap.size 5 (O a4 l4 c4) (by omega));have ak6:=J (dX (dI ain.out G4) w.heap.size 5 (O a4 l4 c4) (by omega));have ak7:=J (dX (dI aio.out G4) w.heap.size 5 (O a4 l4 c4) (by omega));have ak8:=J (dX (dI aip.out G4) w.heap.size 5 (O a4 l4 c4) (by omega));have ak9:=J (dX o4 w.heap.size 5 (O a4 l4 c4) (by omega));clear MN G4 o4 g4 hl4 XB4 ZB4 ail ain aio aip;go_upto_region 6 with (first | (at_builtin; refine wpList_append_run rfl _ _ 26 rfl rfl rfl r4 ?_) | fail)
 clear r4 x4 y4 f4 z4;generalize w4.setCell ⟨w.heap.size,5,aC⟩ (O a4 l4 c4)=W5 at *;have vJ:=XB5.out;have qJ:=ZB5.out;obtain⟨x0,x1,x2,x3,x4,x5⟩:=vJ.eX;obtain⟨r0,r1,r2,r3,r4,r5⟩:=qJ.eX;obtain⟨t0,t1,t2,t3,t4,t5⟩:=qJ.kI;have zz:=qJ.lt;have FB:=J (dK qJ (ah aj me) (O a0 l0 c0) (O a1 l1 c1) (O a2 l2 c2) (O a3 l3 c3) (O a4 l4 c4));have BL:=J (dG (b:=w.heap.size+1) B5.out (by omega) (ah aj me) (O a0 l0 c0) (O a1 l1 c1) (O a2 l2 c2) (O a3 l3 c3) (O a4 l4 c4));have F0:=J (fI ak5.out (w.heap.size+1) (by omega) (ah aj me) (O a0 l0 c0) (O a1 l1 c1) (O a2 l2 c2) (O a3 l3 c3) (O a4 l4 c4));have F1:=J (fI ak6.out (w.heap.size+1) (by omega) (ah aj me) (O a0 l0 c0) (O a1 l1 c1) (O a2 l2 c2) (O a3 l3 c3) (O a4 l4 c4));have F2:=J (fI ak7.out (w.heap.size+1) (by omega) (ah aj me) (O a0 l0 c0) (O a1 l1 c1) (O a2 l2 c2) (O a3 l3 c3) (O a4 l4 c4));have F3:=J (fI ak8.out (w.heap.size+1) (by omega) (ah aj me) (O a0 l0 c0) (O a1 l1 c1) (O a2 l2 c2) (O a3 l3 c3) (O a4 l4 c4));have F4:=J (fI ak9.out (w.heap.size+1) (by omega) (ah aj me) (O a0 l0 c0) (O a1 l1 c1) (O a2 l2 c2) (O a3 l3 c3) (O a4 l4 c4));clear vJ qJ;go_wp2_with fail;obtain⟨v0,v1,v2,v3,v4,v5⟩:=FB.out.eX;refine bodyPost_ret (v:=dB #[ah aj me,O a0 l0 c0,O a1 l1 c1,O a2 l2 c2,O a3 l3 c3,O a4 l4 c4]) (by simp [results,Tryz.results14,go_sem,v0,v1,v2,v3,v4,v5]) rfl ?_;exact⟨⟨(a0,l0,c0),(a1,l1,c1),(a2,l2,c2),(a3,l3,c3),(a4,l4,c4),rfl,dM F0.out (by omega),⟨la,dM F1.out (by omega),HA.out⟩,dM F2.out (by omega),⟨le,dM F3.out (by omega),HE.out⟩,⟨Ht,dM F4.out (by omega),HO.out⟩⟩,BL.out⟩
end Bk
namespace Av
open Go.RowKit Go.ChangeShapes Go.WideShapes Bk
theorem af6 {H:Type} {enc:cu×aI->H} {W:aG} {sp:Nat->Bool} {held:Bool} {fuel:Nat} {g1:aI} {x:DataW H×List MemPlace}
  (hf:aP enc Z W 0 sp held fuel 45 [g1]=ak x):∃ n:Nat,n<=maxLen/\Nh W g1 n:=by
 rcases Deep.open_slice dn hf with⟨h1,_⟩|⟨a,len,cap,m,n,D,Pl,h1,_,h3,h4,h5,_,hx⟩
 ·have e:g1=O aC 0 0:=by simpa using h1
  exact⟨0,bX _,⟨aC,0,e⟩,fun i hi=>by omega⟩
 ·have e:g1=O (ak a) len cap:=by simpa using h1
  rw [e];have hle:len<=m:=by rw [h5]; split <;> omega
  refine⟨len,by omega,⟨ak a,cap,rfl⟩,fun i hi=>?_⟩;obtain⟨cs',k1,k2⟩:=hx i (by omega);obtain⟨xs,n',_,_,hcl,hxl,hy⟩:=bG Tryz.underlying86 k2;rw [aaK] at hcl k1
  match cs',hcl with
  | [c0,c1,c2,c3,c4,c5,d1],_ =>
   have f0:aP enc Z W 0 sp held n' 3 (([c0,c1,c2,c3,c4,c5,d1].drop 0).take (Tryz.prog.cellsOf 3))=xs[0]?:=hy 0 _ rfl;have f1:aP enc Z W 0 sp held n' 3 (([c0,c1,c2,c3,c4,c5,d1].drop 1).take (Tryz.prog.cellsOf 3))=xs[1]?:=hy 1 _ rfl;have f2:aP enc Z W 0 sp held n' 3 (([c0,c1,c2,c3,c4,c5,d1].drop 2).take (Tryz.prog.cellsOf 3))=xs[2]?:=hy 2 _ rfl;have f3:aP enc Z W 0 sp held n' 3 (([c0,c1,c2,c3,c4,c5,d1].drop 3).take (Tryz.prog.cellsOf 3))=xs[3]?:=hy 3 _ rfl;have f4:aP enc Z W 0 sp held n' 3 (([c0,c1,c2,c3,c4,c5,d1].drop 4).take (Tryz.prog.cellsOf 3))=xs[4]?:=hy 4 _ rfl;have fp:aP enc Z W 0 sp held n' 49 (([c0,c1,c2,c3,c4,c5,d1].drop 5).take (Tryz.prog.cellsOf 49))=xs[5]?:=hy 5 _ rfl;have ah5:xs.length=5+1:=hxl;simp only [In.Mj,Pr.U8,bM,bg,bD,bN] at f0 f1 f2 f3 f4 fp;rw [U (by omega)] at f0 f1 f2 f3 f4 fp;obtain⟨m0,e0,_,w0⟩:=aZ aQ f0;obtain⟨m1,e1,_,w1⟩:=aZ aQ f1;obtain⟨m2,e2,_,w2⟩:=aZ aQ f2;obtain⟨m3,e3,_,w3⟩:=aZ aQ f3;obtain⟨m4,e4,_,w4⟩:=aZ aQ f4;simp only [List.cons.injEq,and_true] at e0 e1 e2 e3 e4;subst e0 e1 e2 e3 e4;obtain⟨ys,n2,_,_,_,hyl,hp⟩:=bG bR fp;have aoO:ys.length=2:=hyl;have q0:aP enc Z W 0 sp held n2 22 (([c5,d1].drop 0).take (Tryz.prog.cellsOf 22))=ys[0]?:=hp 0 _ rfl;have q1:aP enc Z W 0 sp held n2 22 (([c5,d1].drop 1).take (Tryz.prog.cellsOf 22))=ys[1]?:=hp 1 _ rfl;simp only [Pr.Pb,bM,bg,bD,bN] at q0 q1;rw [U (by omega)] at q0 q1;obtain⟨has,l1,i1⟩:=In.Al q0;obtain⟨vals,l2,i2⟩:=In.Al q1;obtain⟨x1,y1,rfl⟩:=i1.shape;obtain⟨x2,y2,rfl⟩:=i2.shape;obtain⟨_,_,k3⟩:=World.cells?_some k1;have k0:=k3 0 (by decide);rw [Rw.add_zero] at k0;refine⟨a.add (i * 7),m0,m1,m2,m3,m4,x1,_,y1,x2,_,y2,has,vals,aT W _ k0,fun w=>aaL a i len cap hi w,fun j u hu=>?_,⟨In.uK w0,In.uK w1,In.uK w2,In.uK w3,In.uK w4⟩,i1,i2,l1,l2⟩;have hj:j<7:=(au.1 hu).1;rw [<- hu];exact k3 j hj
theorem Vd:Tryz.prog.cellsOf 47=2:=by kernel_rfl
theorem Ve:Tryz.prog.cellsOf 45=1:=by kernel_rfl
theorem Vf {n:Int} (h:(Lit.int aj n).wf=aS):-9223372036854775808<=n/\n<=9223372036854775807:=by
 have h2:(decide (IntKind.i64.min<=n) && decide (n<=IntKind.i64.max))=aS:=h;rw [dx,decide_eq_true_eq,decide_eq_true_eq,show IntKind.i64.min=-9223372036854775808 by decide,show IntKind.i64.max=9223372036854775807 by decide] at h2;exact h2
theorem Vg {H:Type} {enc:cu×aI->H} {W:aG} {r:Reach} {b0:Nat} {sp:Nat->Bool} {held:Bool} {v:aI} {d:DataW H} {ps:List MemPlace}
  (hval:Value.okWide Z W r b0 47 v) (hd:DataW.Trod enc Z W 0 sp held 47 v d ps) :
  ∃ (zn:Int) (u:aI) (n:Nat),v=dB #[ah aj zn,u]/\-9223372036854775808<=zn/\zn<=9223372036854775807/\n<=maxLen/\Nh W u n:=by
 obtain⟨cs,rfl,hsz⟩:=okWide_struct dw hval;obtain⟨fuel,hf⟩:=hd;obtain⟨xs,n,_,_,_,hxl,hx⟩:=bG dw hf;rw [Vd] at hsz;obtain⟨l⟩:=cs
 match l,hsz with
 | [c0,c1],_ =>
  have f0:aP enc Z W 0 sp held n 3 (([c0,c1].drop 0).take (Tryz.prog.cellsOf 3))=xs[0]?:=hx 0 _ rfl;have f1:aP enc Z W 0 sp held n 45 (([c0,c1].drop 1).take (Tryz.prog.cellsOf 45))=xs[1]?:=hx 1 _ rfl;have ah5:xs.length=2:=hxl;simp only [In.Mj,Ve,bM,bg,bD,bN] at f0 f1;rw [U (by omega)] at f0 f1;obtain⟨m0,e0,_,w0⟩:=aZ aQ f0;simp only [List.cons.injEq,and_true] at e0;subst e0;obtain⟨k,h1,h2⟩:=af6 f1;exact⟨m0,c1,k,rfl,(Vf w0).1,(Vf w0).2,h1,h2⟩
end Av
end Go.Proofs.YtmklifheakemeaaGreat
