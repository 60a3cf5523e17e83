/-
  The order of IDs: Le. Conditions as told.
-/
import Derived.Test.YtmklifheakemeaaGreatBQ015
import Derived.Test.YtmklifheakemeaaGreatBQ012
import Derived.Test.YtmklifheakemeaaGreatBQ014
set_option maxRecDepth 100000
set_option maxHeartbeats 64000000
open _root_.Go renaming Value->aH,World->aK,Addr->aO,wpOp->bF
open Go.IntKind renaming i64->au
open Go.Lib renaming hid->ah
open Go.Obj renaming cells->aI
open Go.Operand renaming tmp->aA
open Go.Proofs.Tryz renaming prog->aQ,results29->aW
open Go.Proofs.YtmklifheakemeaaGreat.Rg renaming dD->aF,get_put->aJ,dM->aP,dU->aR,dW->aV,gT->aX,fG->aY,fQ->aZ,size_put->bf,fT->bG,jk->bH,gG->bI
open Go.RowKit.Below renaming refl->ay,heap_setCell->aC
open Go.Value renaming slice->J,pointer->L,int->ak,bool->bg
open _root_.List renaming getElem?_toArray->O,getElem?_cons_zero->U,getElem?_cons_succ->V,getElem?_eq_some_iff->aB,getElem?_eq_getElem->aG,mem_iff_getElem?->aL,mem_of_getElem?->aM,getElem?_map->aS,mem_map->aT,length_map->aU
open _root_.Option renaming some->Z,none->aj
open Option.some renaming inj->aN
open _root_.Or renaming inr->aD
namespace Go.Proofs.YtmklifheakemeaaGreat.Av
open Go.RowKit Go.Sort Rw YtmklifheakemeaaGreat.Nm Pr Bk
theorem xK (x y:fD) (w:aK):Calls aQ 120 #[mZ x,mZ y] w fun e w'=>e=.returned (bg (eP x y))/\Below w.heap.size w w':=by
 have C:=zU x y;have R:=ah (show decide (qg x y<0)=eP x y from by
  have h:=vY x y;cases hl:eP x y
  ·rw [hl] at h; simp at h; simpa using h
  ·rw [hl] at h; simp at h; simpa using h)
 obtain⟨a,b⟩:=x;obtain⟨c,d⟩:=y;obtain⟨h0,X,Y⟩:=gY w #[ak au a,ak au b] #[ak au c,ak au d] 31 31;obtain⟨x0,x1⟩:=X.cs2;obtain⟨y0,y1⟩:=Y.cs2;have B:=ah h0;generalize qg (a,b) (c,d)=r at *;generalize eP (a,b) (c,d)=s at *;clear X Y h0;go_enter Tryz.func120,Tryz.ntmps120;go_wp2_with fail;have C:=C ((w.alloc (aI #[ak au a,ak au b] 31)).alloc (aI #[ak au c,ak au d] 31));refine C.mono ?_;rintro e w1 ⟨rfl,hb⟩;go_wp2;go_ret;exact⟨by have h:=R.out; subst h; rfl,B.out.trans (hb.mono B.out.size)⟩
theorem Qe (x y:jI) (w:aK):Calls aQ 58 #[mY x,mY y] w fun e w'=>e=.returned (ak au (qg (x.1,x.2.1) (y.1,y.2.1)))/\Below w.heap.size w w':=by
 obtain⟨a,b,⟨s1,s2,s3⟩,p⟩:=x;obtain⟨c,d,⟨t1,t2,t3⟩,q⟩:=y;have C:=zU (a,b) (c,d);obtain⟨h0,X,Y⟩:=gY w #[ak au a,ak au b,J s1 s2 s3,ak au p] #[ak au c,ak au d,J t1 t2 t3,ak au q] 74 74;have x1:=X.cell 1;have x0:=X.cell 0;have y1:=Y.cell 1;have y0:=Y.cell 0;simp only [O,U,V] at x0 x1 y0 y1;have B:=ah h0;generalize qg (a,b) (c,d)=r at *;clear X Y h0;go_enter Tryz.func58,Tryz.ntmps58;go_wp2_with fail;have C:=C ((w.alloc (aI #[ak au a,ak au b,J s1 s2 s3,ak au p] 74)).alloc (aI #[ak au c,ak au d,J t1 t2 t3,ak au q] 74));refine C.mono ?_;rintro e w1 ⟨rfl,hb⟩;go_wp2;go_ret;exact⟨rfl,B.out.trans (hb.mono B.out.size)⟩
def lq {α:Type} (key:α->fD) (l:List α):Prop:=l.Pairwise fun a b=>eP (key a) (key b)=true
def gM {α:Type} (key:α->fD) (l:List α) (x:fD):Nat:=(l.takeWhile fun a=>eP (key a) x).length
def lV {α:Type} (key:α->fD) (l:List α) (x:fD):Bool:=match l[gM key l x]? with
 | some y=>decide (key y=x)
 | none=>false
theorem jf {α:Type} (key:α->fD) (l:List α) (x:fD):gM key l x=fM (l.map key) x:=by
 unfold gM fM;rw [List.takeWhile_map,aU]
 rfl
theorem Dl {α:Type} (key:α->fD) (l:List α) (x:fD) (k:Nat) (hall:∀ (j:Nat) (y:α),j<k->l[j]?=Z y->eP (key y) x=true) (hend:k=l.length\/∃ y,l[k]?=Z y/\eP (key y) x=false):gM key l x=k:=by
 rw [jf];refine oq _ _ k (fun j y hj h=>?_) ?_
 ·rw [aS] at h;cases hy:l[j]? with
  | none=>rw [hy] at h; cases h
  | some z=>rw [hy] at h; rw [<- aN h]; exact hall j z hj hy
 ·rcases hend with h|⟨y,h1,h2⟩
  ·exact Or.inl (by rw [aU]; exact h)
  ·exact aD ⟨key y,by rw [aS,h1]; rfl,h2⟩
theorem nu {α:Type} {key:α->fD} {l:List α} (h:lq key l) {i j:Nat} {x y:α} (hij:i<j) (hx:l[i]?=Z x) (hy:l[j]?=Z y):eP (key x) (key y)=true:=by
 obtain⟨h1,rfl⟩:=aB.1 hx;obtain⟨h2,rfl⟩:=aB.1 hy;exact List.pairwise_iff_getElem.1 h i j h1 h2 hij
theorem Dm (x y:fD):decide (qg x y<0)=eP x y:=by
 have h:=vY x y;cases hl:eP x y
 ·rw [hl] at h; simp at h; simpa using h
 ·rw [hl] at h; simp at h; simpa using h
theorem Qf {α:Type} {key:α->fD} {l:List α} (h:lq key l) (x:fD):lV key l x=decide (x∈l.map key):=by
 unfold lV;have hp:gM key l x<=l.length:=by rw [jf]; exact Nat.le_trans (lS _ _) (by simp)
 have hlo:∀ (j:Nat) (y:α),j<gM key l x->l[j]?=Z y->eP (key y) x=true:=by
  intro j y hj hy;have ht:(l.takeWhile fun a=>eP (key a) x)[j]?=Z y:=by
   have:=List.takeWhile_prefix (fun a=>eP (key a) x) (l:=l);obtain⟨t,ht⟩:=this;rw [<- ht,List.getElem?_append_left hj] at hy;exact hy
  exact List.all_eq_true.1 List.all_takeWhile y (aM ht)
 have hhi:∀ (y:α),l[gM key l x]?=Z y->eP (key y) x=false:=by
  intro y hy;unfold gM at hy;cases hq:eP (key y) x with
  | false=>rfl
  | true =>
   exfalso;have:∀ (m:List α),m[(m.takeWhile fun a=>eP (key a) x).length]?=Z y->False:=by
    intro m
    induction m with
    | nil=>intro h; simp at h
    | cons a m ih =>
     intro h;by_cases ha:eP (key a) x=true
     ·exact ih (by simpa [List.takeWhile_cons,ha] using h)
     ·simp [ha] at h;subst h;exact ha hq
   exact this l hy
 cases hy:l[gM key l x]? with
 | none =>
  symm
  rw [decide_eq_false_iff_not];intro hm;obtain⟨z,hz,hzx⟩:=aT.1 hm;obtain⟨j,hj⟩:=aL.1 hz;have hjl:=(aB.1 hj).1;have hpl:l.length<=gM key l x:=by
   rcases Nat.lt_or_ge (gM key l x) l.length with h0|h0
   ·rw [aG h0] at hy; cases hy
   ·exact h0
  have:=hlo j z (by omega) hj;rw [hzx,kZ] at this;cases this
 | some y =>
  simp only;by_cases hk:key y=x
  ·rw [decide_eq_true hk]
   symm
   rw [decide_eq_true_eq];exact aT.2 ⟨y,aM hy,hk⟩
  ·rw [decide_eq_false hk]
   symm
   rw [decide_eq_false_iff_not];intro hm;obtain⟨z,hz,hzx⟩:=aT.1 hm;obtain⟨j,hj⟩:=aL.1 hz;rcases Nat.lt_trichotomy j (gM key l x) with h1|h1|h1
   ·have:=hlo j z h1 hj;rw [hzx,kZ] at this;cases this
   ·subst h1;rw [hy] at hj;rw [aN hj] at hk;exact hk hzx
   ·have h3:=nu h h1 hy hj;have h4:=hhi y hy;rw [hzx] at h3;rw [h3] at h4;cases h4
def X9 (B:Nat) (b1:Nat) (_me:Int) (_z2 _z4 _z5:aH) (o1:Option aO) (n1 c1:Nat) (nl:List Int) (o3:Option aO) (n3 c3:Nat) (sl:List fD) (i:Nat) (v:aH) (x:aK):Prop :=
 match i with
 | 0=>v=L (Z ⟨b1,1,aj⟩)
 | 1=>v=J o1 n1 c1
 | 2=>∃ s:Sl,v=dX s/\vO x B v nl
 | 3=>v=L (Z ⟨b1,3,aj⟩)
 | 4=>v=J o3 n3 c3
 | 5=>∃ s:Sl,v=dX s/\rW x B v sl
 | 6=>v=L (Z ⟨b1,1,aj⟩)
 | _=>True
noncomputable def aeo:Code:=((Tryz.f91.body.bind (eT 1)).getD .skip)
theorem Ya (B:Nat) (b1:Nat) (me:Int) (z2 z4 z5:aH) (o1:Option aO) (n1 c1:Nat) (nl:List Int) (o3:Option aO) (n3 c3:Nat) (sl:List fD) (i:Nat) (v:aH) (x x':aK) (h:X9 B b1 me z2 z4 z5 o1 n1 c1 nl o3 n3 c3 sl i v x) (hb:Below x.heap.size x x'):X9 B b1 me z2 z4 z5 o1 n1 c1 nl o3 n3 c3 sl i v x':=by
 by_cases hi:i<7
 ·rcases (by omega:i=0\/i=1\/i=2\/i=3\/i=4\/i=5\/i=6) with rfl|rfl|rfl|rfl|rfl|rfl|rfl
  ·exact h
  ·exact h
  ·obtain⟨s,h1,h2⟩:=h; exact⟨s,h1,Bk.dI h2 hb⟩
  ·exact h
  ·exact h
  ·obtain⟨s,h1,h2⟩:=h; exact⟨s,h1,Bk.dI h2 hb⟩
  ·exact h
 ·unfold X9
  split <;> first | omega | trivial
theorem cp1 (Q:Exit->Act->aK->Prop) (W:aK) (b1:Nat) (me:Int) (z2 z4 z5:aH) (o1:Option aO) (n1 c1:Nat) (nl:List Int) (o3:Option aO) (n3 c3:Nat) (sl:List fD) (u0 u2 u3 u4 u5 u6 u7 u8 u9 u10 u11 u12 u13 u14 u15 u16 u17 u18 u19 u20 u21 u22 u23 u24 u25 u26 u27 u28 u29 u30 u31 u32 u33 u34 u35 u36 u37 u38 u39 u40 u41 u42 u43 u44 u45 u46 u47 u48 u49 u50 u51 u52 u53 u54 u55 u56 u57 u58 u59 u60 u61 u62 u63 u64 u65 u66 u67 u68 u69 u70 u71 u72 u73 u74 u75 u76 u77 u78 u79 u80 u81:aH)
  (h1:dJ W b1 #[ak au me,J o1 n1 c1,z2,J o3 n3 c3,z4,z5] 28) (r1:qA W (J o1 n1 c1) nl) (r3:uY W (J o3 n3 c3) sl) (l1:nl.length<=900) (l3:sl.length<=900)
  (hQ:∀ (x:aK) (v6 v7 v8 v9 v10 v11 v12 v13:aH) (p1:Option aO) (q1 s1:Nat) (p3:Option aO) (q3 s3:Nat),dJ x b1 #[ak au me,J p1 q1 s1,z2,J p3 q3 s3,z4,z5] 28->vO x W.heap.size (J p1 q1 s1) nl->rW x W.heap.size (J p3 q3 s3) sl->(∀ B,B<=b1->Below B W x)->(∀ k,k<W.heap.size->k≠b1->x.heap[k]?=W.heap[k]?)->Q .normal ⟨(u0::L (Z ⟨b1,0,aj⟩)::u2::u3::u4::u5::v6::v7::v8::v9::v10::v11::v12::v13::u14::u15::u16::u17::u18::u19::u20::u21::u22::u23::u24::u25::u26::u27::u28::u29::u30::u31::u32::u33::u34::u35::u36::u37::u38::u39::u40::u41::u42::u43::u44::u45::u46::u47::u48::u49::u50::u51::u52::u53::u54::u55::u56::u57::u58::u59::u60::u61::u62::u63::u64::u65::u66::u67::u68::u69::u70::u71::u72::u73::u74::u75::u76::u77::u78::u79::u80::u81::[]).toArray,[]⟩ x) :
  Code.wp aQ aeo Q ⟨(u0::L (Z ⟨b1,0,aj⟩)::u2::u3::u4::u5::u6::u7::u8::u9::u10::u11::u12::u13::u14::u15::u16::u17::u18::u19::u20::u21::u22::u23::u24::u25::u26::u27::u28::u29::u30::u31::u32::u33::u34::u35::u36::u37::u38::u39::u40::u41::u42::u43::u44::u45::u46::u47::u48::u49::u50::u51::u52::u53::u54::u55::u56::u57::u58::u59::u60::u61::u62::u63::u64::u65::u66::u67::u68::u69::u70::u71::u72::u73::u74::u75::u76::u77::u78::u79::u80::u81::[]).toArray,[]⟩ W:=by
 have HQ:=ah hQ;have H1:=ah h1;have R1:=ah r1;have R3:=ah r3;have L1:=ah l1;have L3:=ah l3;clear hQ h1 r1 r3 l1 l3;have iT:=Ya W.heap.size b1 me z2 z4 z5 o1 n1 c1 nl o3 n3 c3 sl;unfold aeo
 conv=>arg 2; whnf
 have nd:∀ j,(j<6\/13<=j)->∀ i,i<7->(fun i=>6+i) i≠j:=by
  intro j hj i hi h;simp only at h;omega
 refine bG 10 7 (fun i=>6+i) (fun _=>7) (X9 W.heap.size b1 me z2 z4 z5 o1 n1 c1 nl o3 n3 c3 sl) (by kernel_rfl) (by kernel_rfl) rfl (by decide) (fun i j _ _ h=>by have h2:6+i=6+j:=h; omega) (fun i hi=>by show 6+i<82; omega) ?_ (fun _=>bH 14 (by kernel_rfl)) ?_ ?_
 ·intro i o hi ho a x D hnd hc hD hb seen K hK;clear HQ;rcases (by omega:i=0\/i=1\/i=2\/i=3\/i=4\/i=5\/i=6) with rfl|rfl|rfl|rfl|rfl|rfl|rfl
  ·cases ho;have e1:a.eval (aA 1)=L (Z ⟨b1,0,aj⟩):=seen.kp 1 _ (nd 1 (by omega)) rfl;exact aF rfl rfl (aR a.eval _ 28 (aA 1) 1 rfl (by rw [e1]; simp [go_sem])) (hK _ _ rfl (ay _ _) fun _ _ _ _ _ _ _ h=>h)
  ·cases ho;have e6:a.eval (aA 6)=L (Z ⟨b1,1,aj⟩):=seen.at_ ⟨0,.data⟩ (by simp) rfl (aD (by decide));have y1:=(H1.out.on hb).cell 1;simp only [O,U,V] at y1;exact aF rfl rfl (aV a.eval _ 22 (aA 6) rfl (by rw [e6]; simp [go_sem,y1])) (hK _ _ rfl (ay _ _) fun _ _ _ _ _ _ _ h=>h)
  ·cases ho;have e7:a.eval (aA 7)=J o1 n1 c1:=seen.at_ ⟨1,.data⟩ (by simp) rfl (aD (by decide));exact aX rfl rfl (Rw.iD a.eval _ (aA 7) 22 32 rfl e7 rfl _ (gD Tryz.func32 rfl rfl _ _)) (zG (o1,n1,c1) nl x (R1.out.on hb) L1.out) fun e w1 h=>by
    obtain⟨⟨s,rfl,h1⟩,h3⟩:=h;exact⟨_,rfl,hK _ _ ⟨s,rfl,dN h1 hb.size⟩ (h3.mono hb.size) fun j u hj _ _ _ hne h=>iT j u _ _ h h3⟩
  ·cases ho;have e1:a.eval (aA 1)=L (Z ⟨b1,0,aj⟩):=seen.kp 1 _ (nd 1 (by omega)) rfl;exact aF rfl rfl (aR a.eval _ 28 (aA 1) 3 rfl (by rw [e1]; simp [go_sem])) (hK _ _ rfl (ay _ _) fun _ _ _ _ _ _ _ h=>h)
  ·cases ho;have e9:a.eval (aA 9)=L (Z ⟨b1,3,aj⟩):=seen.at_ ⟨3,.data⟩ (by simp) rfl (aD (by decide));have y3:=(H1.out.on hb).cell 3;simp only [O,U,V] at y3;exact aF rfl rfl (aV a.eval _ 24 (aA 9) rfl (by rw [e9]; simp [go_sem,y3])) (hK _ _ rfl (ay _ _) fun _ _ _ _ _ _ _ h=>h)
  ·cases ho;have e10:a.eval (aA 10)=J o3 n3 c3:=seen.at_ ⟨4,.data⟩ (by simp) rfl (aD (by decide));exact aX rfl rfl (Rw.iD a.eval _ (aA 10) 24 140 rfl e10 rfl _ (gD Tryz.func140 rfl rfl _ _)) (J6 (o3,n3,c3) sl x (R3.out.on hb) L3.out) fun e w1 h=>by
    obtain⟨⟨s,rfl,h1⟩,h3⟩:=h;exact⟨_,rfl,hK _ _ ⟨s,rfl,dN h1 hb.size⟩ (h3.mono hb.size) fun j u hj _ _ _ hne h=>iT j u _ _ h h3⟩
  ·cases ho;have e1:a.eval (aA 1)=L (Z ⟨b1,0,aj⟩):=seen.kp 1 _ (nd 1 (by omega)) rfl;exact aF rfl rfl (aR a.eval _ 28 (aA 1) 1 rfl (by rw [e1]; simp [go_sem])) (hK _ _ rfl (ay _ _) fun _ _ _ _ _ _ _ h=>h)
 ·intro kk o h1 h2 ho;rcases (by omega:kk=8\/kk=9) with rfl|rfl
  ·cases ho;exact⟨⟨7,.phase⟩,by simp,rfl,rfl⟩
  ·cases ho;exact⟨⟨8,.data⟩,by simp,rfl,rfl⟩
 ·intro a w' df sz kp ⟨vs,hv⟩ hb;have sz':a.tmps.size=82:=sz;have g1:a.tmps[1]?=Z (L (Z ⟨b1,0,aj⟩)):=(kp 1 (nd 1 (by omega))).trans rfl;have g12:a.tmps[12]?=Z (L (Z ⟨b1,1,aj⟩)):=by
   have h:vs 6=L (Z ⟨b1,1,aj⟩):=(hv 6 (by omega)).2 (by decide);rw [<- h];exact (hv 6 (by omega)).1
  obtain⟨⟨p1,q1,s1⟩,hs1,ho1⟩:=(hv 2 (by omega)).2 (by decide);have g8:a.tmps[8]?=Z (J p1 q1 s1):=((hv 2 (by omega)).1).trans (congrArg Z hs1);rw [hs1] at ho1;obtain⟨⟨p3,q3,s3⟩,hs3,ho3⟩:=(hv 5 (by omega)).2 (by decide);have g11:a.tmps[11]?=Z (J p3 q3 s3):=((hv 5 (by omega)).1).trans (congrArg Z hs3);rw [hs3] at ho3;have hB:=H1.out.on hb;have hlt:=H1.out.lt;show aY _ _ _ 3 7 a w';simp only [aY];have c1x:=hB.cell 1;have f1x:=hB.fr 1;simp only [O,U,V] at c1x;refine aZ 22 (aA 12) (aA 8) rfl rfl rfl rfl (aP g12) (aP g8) (w':=(w').setCell ⟨b1,1,aj⟩ (J p1 q1 s1)) (by simp [go_sem,c1x,f1x]) ?_;have hB1:dJ ((w').setCell ⟨b1,1,aj⟩ (J p1 q1 s1)) b1 #[ak au me,J p1 q1 s1,z2,J o3 n3 c3,z4,z5] 28:=by simpa using dR (k:=1) hB (J p1 q1 s1)
  refine aF rfl rfl (aR _ _ 28 (aA 1) 3 rfl (v:=L (Z ⟨b1,3,aj⟩)) (by rw [aP g1]; simp [go_sem])) ?_;have ag1:((a).put (Z 13) (L (Z ⟨b1,3,aj⟩))).tmps[13]?=Z (L (Z ⟨b1,3,aj⟩)):=by simp [Act.put,sz']
  show bF _ _ _ 9 _ ((a).put (Z 13) (L (Z ⟨b1,3,aj⟩))) _;have c3x:=hB1.cell 3;have f3x:=hB1.fr 3;simp only [O,U,V] at c3x;refine aZ 24 (aA 13) (aA 11) rfl rfl rfl rfl (aP ag1) (aP ((aJ _ 13 _ 11 (by decide)).trans g11)) (w':=((w').setCell ⟨b1,1,aj⟩ (J p1 q1 s1)).setCell ⟨b1,3,aj⟩ (J p3 q3 s3)) (by simp [go_sem,c3x,f3x]) ?_;have hB3:dJ (((w').setCell ⟨b1,1,aj⟩ (J p1 q1 s1)).setCell ⟨b1,3,aj⟩ (J p3 q3 s3)) b1 #[ak au me,J p1 q1 s1,z2,J p3 q3 s3,z4,z5] 28:=by simpa using dR (k:=3) hB1 (J p3 q3 s3)
  have rA:∀ j,(j<6\/14<=j)->((a).put (Z 13) (L (Z ⟨b1,3,aj⟩))).tmps[j]?=(u0::L (Z ⟨b1,0,aj⟩)::u2::u3::u4::u5::u6::u7::u8::u9::u10::u11::u12::u13::u14::u15::u16::u17::u18::u19::u20::u21::u22::u23::u24::u25::u26::u27::u28::u29::u30::u31::u32::u33::u34::u35::u36::u37::u38::u39::u40::u41::u42::u43::u44::u45::u46::u47::u48::u49::u50::u51::u52::u53::u54::u55::u56::u57::u58::u59::u60::u61::u62::u63::u64::u65::u66::u67::u68::u69::u70::u71::u72::u73::u74::u75::u76::u77::u78::u79::u80::u81::[])[j]?:=fun j hj=>(aJ _ 13 _ j (by omega)).trans ((kp j (nd j (by omega))).trans O);obtain⟨mid,hmid,hfr⟩:=bI (a:=(a).put (Z 13) (L (Z ⟨b1,3,aj⟩))) 6 8 df (by simp [bf,sz']) (by simp) rA;show Q .normal ((a).put (Z 13) (L (Z ⟨b1,3,aj⟩))) _;rw [hfr]
  match mid,hmid with
  | [v6,v7,v8,v9,v10,v11,v12,v13],_ =>
   exact HQ.out _ _ _ _ _ _ _ _ _ p1 q1 s1 p3 q3 s3 hB3 (eO (eO ho1 b1 1 (J p1 q1 s1) hlt) b1 3 (J p3 q3 s3) hlt) (eO (eO ho3 b1 1 (J p1 q1 s1) hlt) b1 3 (J p3 q3 s3) hlt) (fun B hBl=>(((hb.mono (Nat.le_of_lt (Nat.lt_of_le_of_lt hBl hlt))).setCell (p:=⟨b1,1,aj⟩) hBl (J p1 q1 s1)).setCell (p:=⟨b1,3,aj⟩) hBl (J p3 q3 s3))) (fun k hk hne=>((aC ((w').setCell ⟨b1,1,aj⟩ (J p1 q1 s1)) ⟨b1,3,aj⟩ (J p3 q3 s3) k hne).trans ((aC (w') ⟨b1,1,aj⟩ (J p1 q1 s1) k hne).trans (hb.block k hk))))
def Yb (B:Nat) (b1:Nat) (_me:Int) (_z1 _z3:aH) (o2:Option aO) (n2 c2:Nat) (al:List jI) (o4:Option aO) (n4 c4:Nat) (el:List iL) (o5:Option aO) (n5 c5:Nat) (ol:List rz) (i:Nat) (v:aH) (x:aK):Prop :=
 match i with
 | 0=>v=L (Z ⟨b1,2,aj⟩)
 | 1=>v=J o2 n2 c2
 | 2=>∃ s:Sl,v=dX s/\lN x B v al
 | 3=>v=L (Z ⟨b1,4,aj⟩)
 | 4=>v=J o4 n4 c4
 | 5=>∃ s:Sl,v=dX s/\kQ x B v el
 | 6=>v=L (Z ⟨b1,5,aj⟩)
 | 7=>v=J o5 n5 c5
 | 8=>∃ s:Sl,v=dX s/\qC x B v ol
 | 9=>v=L (Z ⟨b1,2,aj⟩)
 | _=>True
noncomputable def aep:Code:=((Tryz.f91.body.bind (eT 2)).getD .skip)
theorem Yc (B:Nat) (b1:Nat) (me:Int) (z1 z3:aH) (o2:Option aO) (n2 c2:Nat) (al:List jI) (o4:Option aO) (n4 c4:Nat) (el:List iL) (o5:Option aO) (n5 c5:Nat) (ol:List rz) (i:Nat) (v:aH) (x x':aK) (h:Yb B b1 me z1 z3 o2 n2 c2 al o4 n4 c4 el o5 n5 c5 ol i v x) (hb:Below x.heap.size x x'):Yb B b1 me z1 z3 o2 n2 c2 al o4 n4 c4 el o5 n5 c5 ol i v x':=by
 by_cases hi:i<10
 ·rcases (by omega:i=0\/i=1\/i=2\/i=3\/i=4\/i=5\/i=6\/i=7\/i=8\/i=9) with rfl|rfl|rfl|rfl|rfl|rfl|rfl|rfl|rfl|rfl
  ·exact h
  ·exact h
  ·obtain⟨s,h1,h2⟩:=h; exact⟨s,h1,Bk.dI h2 hb⟩
  ·exact h
  ·exact h
  ·obtain⟨s,h1,h2⟩:=h; exact⟨s,h1,Bk.dI h2 hb⟩
  ·exact h
  ·exact h
  ·obtain⟨s,h1,h2⟩:=h; exact⟨s,h1,Bk.dI h2 hb⟩
  ·exact h
 ·unfold Yb
  split <;> first | omega | trivial
theorem cp2 (Q:Exit->Act->aK->Prop) (W:aK) (b1:Nat) (me:Int) (z1 z3:aH) (o2:Option aO) (n2 c2:Nat) (al:List jI) (o4:Option aO) (n4 c4:Nat) (el:List iL) (o5:Option aO) (n5 c5:Nat) (ol:List rz) (u0 u2 u3 u4 u5 u6 u7 u8 u9 u10 u11 u12 u13 u14 u15 u16 u17 u18 u19 u20 u21 u22 u23 u24 u25 u26 u27 u28 u29 u30 u31 u32 u33 u34 u35 u36 u37 u38 u39 u40 u41 u42 u43 u44 u45 u46 u47 u48 u49 u50 u51 u52 u53 u54 u55 u56 u57 u58 u59 u60 u61 u62 u63 u64 u65 u66 u67 u68 u69 u70 u71 u72 u73 u74 u75 u76 u77 u78 u79 u80 u81:aH)
  (h1:dJ W b1 #[ak au me,z1,J o2 n2 c2,z3,J o4 n4 c4,J o5 n5 c5] 28) (r2:vT W (J o2 n2 c2) al) (r4:lF W (J o4 n4 c4) el) (r5:Pq W (J o5 n5 c5) ol) (l2:al.length<=900) (l4:el.length<=900) (l5:ol.length<=900)
  (hQ:∀ (x:aK) (v14 v15 v16 v17 v18 v19 v20 v21 v22 v23 v24 v25:aH) (p2:Option aO) (q2 s2:Nat) (p4:Option aO) (q4 s4:Nat) (p5:Option aO) (q5 s5:Nat),dJ x b1 #[ak au me,z1,J p2 q2 s2,z3,J p4 q4 s4,J p5 q5 s5] 28->lN x W.heap.size (J p2 q2 s2) al->kQ x W.heap.size (J p4 q4 s4) el->qC x W.heap.size (J p5 q5 s5) ol->(∀ B,B<=b1->Below B W x)->(∀ k,k<W.heap.size->k≠b1->x.heap[k]?=W.heap[k]?)->Q .normal ⟨(u0::L (Z ⟨b1,0,aj⟩)::u2::u3::u4::u5::u6::u7::u8::u9::u10::u11::u12::u13::v14::v15::v16::v17::v18::v19::v20::v21::v22::v23::v24::v25::u26::u27::u28::u29::u30::u31::u32::u33::u34::u35::u36::u37::u38::u39::u40::u41::u42::u43::u44::u45::u46::u47::u48::u49::u50::u51::u52::u53::u54::u55::u56::u57::u58::u59::u60::u61::u62::u63::u64::u65::u66::u67::u68::u69::u70::u71::u72::u73::u74::u75::u76::u77::u78::u79::u80::u81::[]).toArray,[]⟩ x) :
  Code.wp aQ aep Q ⟨(u0::L (Z ⟨b1,0,aj⟩)::u2::u3::u4::u5::u6::u7::u8::u9::u10::u11::u12::u13::u14::u15::u16::u17::u18::u19::u20::u21::u22::u23::u24::u25::u26::u27::u28::u29::u30::u31::u32::u33::u34::u35::u36::u37::u38::u39::u40::u41::u42::u43::u44::u45::u46::u47::u48::u49::u50::u51::u52::u53::u54::u55::u56::u57::u58::u59::u60::u61::u62::u63::u64::u65::u66::u67::u68::u69::u70::u71::u72::u73::u74::u75::u76::u77::u78::u79::u80::u81::[]).toArray,[]⟩ W:=by
 have HQ:=ah hQ;have H1:=ah h1;have R2:=ah r2;have R4:=ah r4;have R5:=ah r5;have L2:=ah l2;have L4:=ah l4;have L5:=ah l5;clear hQ h1 r2 r4 r5 l2 l4 l5;have iT:=Yc W.heap.size b1 me z1 z3 o2 n2 c2 al o4 n4 c4 el o5 n5 c5 ol;unfold aep
 conv=>arg 2; whnf
 have nd:∀ j,(j<14\/24<=j)->∀ i,i<10->(fun i=>14+i) i≠j:=by
  intro j hj i hi h;simp only at h;omega
 refine bG 15 10 (fun i=>14+i) (fun _=>10) (Yb W.heap.size b1 me z1 z3 o2 n2 c2 al o4 n4 c4 el o5 n5 c5 ol) (by kernel_rfl) (by kernel_rfl) rfl (by decide) (fun i j _ _ h=>by have h2:14+i=14+j:=h; omega) (fun i hi=>by show 14+i<82; omega) ?_ (fun _=>bH 14 (by kernel_rfl)) ?_ ?_
 ·intro i o hi ho a x D hnd hc hD hb seen K hK;clear HQ;rcases (by omega:i=0\/i=1\/i=2\/i=3\/i=4\/i=5\/i=6\/i=7\/i=8\/i=9) with rfl|rfl|rfl|rfl|rfl|rfl|rfl|rfl|rfl|rfl
  ·cases ho;have e1:a.eval (aA 1)=L (Z ⟨b1,0,aj⟩):=seen.kp 1 _ (nd 1 (by omega)) rfl;exact aF rfl rfl (aR a.eval _ 28 (aA 1) 2 rfl (by rw [e1]; simp [go_sem])) (hK _ _ rfl (ay _ _) fun _ _ _ _ _ _ _ h=>h)
  ·cases ho;have e14:a.eval (aA 14)=L (Z ⟨b1,2,aj⟩):=seen.at_ ⟨0,.data⟩ (by simp) rfl (aD (by decide));have y2:=(H1.out.on hb).cell 2;simp only [O,U,V] at y2;exact aF rfl rfl (aV a.eval _ 23 (aA 14) rfl (by rw [e14]; simp [go_sem,y2])) (hK _ _ rfl (ay _ _) fun _ _ _ _ _ _ _ h=>h)
  ·cases ho;have e15:a.eval (aA 15)=J o2 n2 c2:=seen.at_ ⟨1,.data⟩ (by simp) rfl (aD (by decide));exact aX rfl rfl (Rw.iD a.eval _ (aA 15) 23 141 rfl e15 rfl _ (gD Tryz.func141 rfl rfl _ _)) (J7 (o2,n2,c2) al x (R2.out.on hb) L2.out) fun e w1 h=>by
    obtain⟨⟨s,rfl,h1⟩,h3⟩:=h;exact⟨_,rfl,hK _ _ ⟨s,rfl,dN h1 hb.size⟩ (h3.mono hb.size) fun j u hj _ _ _ hne h=>iT j u _ _ h h3⟩
  ·cases ho;have e1:a.eval (aA 1)=L (Z ⟨b1,0,aj⟩):=seen.kp 1 _ (nd 1 (by omega)) rfl;exact aF rfl rfl (aR a.eval _ 28 (aA 1) 4 rfl (by rw [e1]; simp [go_sem])) (hK _ _ rfl (ay _ _) fun _ _ _ _ _ _ _ h=>h)
  ·cases ho;have e17:a.eval (aA 17)=L (Z ⟨b1,4,aj⟩):=seen.at_ ⟨3,.data⟩ (by simp) rfl (aD (by decide));have y4:=(H1.out.on hb).cell 4;simp only [O,U,V] at y4;exact aF rfl rfl (aV a.eval _ 25 (aA 17) rfl (by rw [e17]; simp [go_sem,y4])) (hK _ _ rfl (ay _ _) fun _ _ _ _ _ _ _ h=>h)
  ·cases ho;have e18:a.eval (aA 18)=J o4 n4 c4:=seen.at_ ⟨4,.data⟩ (by simp) rfl (aD (by decide));exact aX rfl rfl (Rw.iD a.eval _ (aA 18) 25 142 rfl e18 rfl _ (gD Tryz.func142 rfl rfl _ _)) (J8 (o4,n4,c4) el x (R4.out.on hb) L4.out) fun e w1 h=>by
    obtain⟨⟨s,rfl,h1⟩,h3⟩:=h;exact⟨_,rfl,hK _ _ ⟨s,rfl,dN h1 hb.size⟩ (h3.mono hb.size) fun j u hj _ _ _ hne h=>iT j u _ _ h h3⟩
  ·cases ho;have e1:a.eval (aA 1)=L (Z ⟨b1,0,aj⟩):=seen.kp 1 _ (nd 1 (by omega)) rfl;exact aF rfl rfl (aR a.eval _ 28 (aA 1) 5 rfl (by rw [e1]; simp [go_sem])) (hK _ _ rfl (ay _ _) fun _ _ _ _ _ _ _ h=>h)
  ·cases ho;have e20:a.eval (aA 20)=L (Z ⟨b1,5,aj⟩):=seen.at_ ⟨6,.data⟩ (by simp) rfl (aD (by decide));have y5:=(H1.out.on hb).cell 5;simp only [O,U,V] at y5;exact aF rfl rfl (aV a.eval _ 26 (aA 20) rfl (by rw [e20]; simp [go_sem,y5])) (hK _ _ rfl (ay _ _) fun _ _ _ _ _ _ _ h=>h)
  ·cases ho;have e21:a.eval (aA 21)=J o5 n5 c5:=seen.at_ ⟨7,.data⟩ (by simp) rfl (aD (by decide));exact aX rfl rfl (Rw.iD a.eval _ (aA 21) 26 143 rfl e21 rfl _ (gD Tryz.func143 rfl rfl _ _)) (J9 (o5,n5,c5) ol x (R5.out.on hb) L5.out) fun e w1 h=>by
    obtain⟨⟨s,rfl,h1⟩,h3⟩:=h;exact⟨_,rfl,hK _ _ ⟨s,rfl,dN h1 hb.size⟩ (h3.mono hb.size) fun j u hj _ _ _ hne h=>iT j u _ _ h h3⟩
  ·cases ho;have e1:a.eval (aA 1)=L (Z ⟨b1,0,aj⟩):=seen.kp 1 _ (nd 1 (by omega)) rfl;exact aF rfl rfl (aR a.eval _ 28 (aA 1) 2 rfl (by rw [e1]; simp [go_sem])) (hK _ _ rfl (ay _ _) fun _ _ _ _ _ _ _ h=>h)
 ·intro kk o h1 h2 ho;rcases (by omega:kk=11\/kk=12\/kk=13\/kk=14) with rfl|rfl|rfl|rfl
  ·cases ho;exact⟨⟨10,.phase⟩,by simp,rfl,rfl⟩
  ·cases ho;exact⟨⟨11,.data⟩,by simp,rfl,rfl⟩
  ·cases ho;exact⟨⟨12,.phase⟩,by simp,rfl,rfl⟩
  ·cases ho;exact⟨⟨13,.data⟩,by simp,rfl,rfl⟩
 ·intro a w' df sz kp ⟨vs,hv⟩ hb;have sz':a.tmps.size=82:=sz;have g1:a.tmps[1]?=Z (L (Z ⟨b1,0,aj⟩)):=(kp 1 (nd 1 (by omega))).trans rfl;have g23:a.tmps[23]?=Z (L (Z ⟨b1,2,aj⟩)):=by
   have h:vs 9=L (Z ⟨b1,2,aj⟩):=(hv 9 (by omega)).2 (by decide);rw [<- h];exact (hv 9 (by omega)).1
  obtain⟨⟨p2,q2,s2⟩,hs2,ho2⟩:=(hv 2 (by omega)).2 (by decide);have g16:a.tmps[16]?=Z (J p2 q2 s2):=((hv 2 (by omega)).1).trans (congrArg Z hs2);rw [hs2] at ho2;obtain⟨⟨p4,q4,s4⟩,hs4,ho4⟩:=(hv 5 (by omega)).2 (by decide);have g19:a.tmps[19]?=Z (J p4 q4 s4):=((hv 5 (by omega)).1).trans (congrArg Z hs4);rw [hs4] at ho4;obtain⟨⟨p5,q5,s5⟩,hs5,ho5⟩:=(hv 8 (by omega)).2 (by decide);have g22:a.tmps[22]?=Z (J p5 q5 s5):=((hv 8 (by omega)).1).trans (congrArg Z hs5);rw [hs5] at ho5;have hB:=H1.out.on hb;have hlt:=H1.out.lt;show aY _ _ _ 5 10 a w';simp only [aY];have c2x:=hB.cell 2;have f2x:=hB.fr 2;simp only [O,U,V] at c2x;refine aZ 23 (aA 23) (aA 16) rfl rfl rfl rfl (aP g23) (aP g16) (w':=(w').setCell ⟨b1,2,aj⟩ (J p2 q2 s2)) (by simp [go_sem,c2x,f2x]) ?_;have hB2:dJ ((w').setCell ⟨b1,2,aj⟩ (J p2 q2 s2)) b1 #[ak au me,z1,J p2 q2 s2,z3,J o4 n4 c4,J o5 n5 c5] 28:=by simpa using dR (k:=2) hB (J p2 q2 s2)
  refine aF rfl rfl (aR _ _ 28 (aA 1) 4 rfl (v:=L (Z ⟨b1,4,aj⟩)) (by rw [aP g1]; simp [go_sem])) ?_;have ag2:((a).put (Z 24) (L (Z ⟨b1,4,aj⟩))).tmps[24]?=Z (L (Z ⟨b1,4,aj⟩)):=by simp [Act.put,sz']
  show bF _ _ _ 12 _ ((a).put (Z 24) (L (Z ⟨b1,4,aj⟩))) _;have c4x:=hB2.cell 4;have f4x:=hB2.fr 4;simp only [O,U,V] at c4x;refine aZ 25 (aA 24) (aA 19) rfl rfl rfl rfl (aP ag2) (aP ((aJ _ 24 _ 19 (by decide)).trans g19)) (w':=((w').setCell ⟨b1,2,aj⟩ (J p2 q2 s2)).setCell ⟨b1,4,aj⟩ (J p4 q4 s4)) (by simp [go_sem,c4x,f4x]) ?_;have hB4:dJ (((w').setCell ⟨b1,2,aj⟩ (J p2 q2 s2)).setCell ⟨b1,4,aj⟩ (J p4 q4 s4)) b1 #[ak au me,z1,J p2 q2 s2,z3,J p4 q4 s4,J o5 n5 c5] 28:=by simpa using dR (k:=4) hB2 (J p4 q4 s4)
  refine aF rfl rfl (aR _ _ 28 (aA 1) 5 rfl (v:=L (Z ⟨b1,5,aj⟩)) (by rw [aP ((aJ _ 24 _ 1 (by decide)).trans g1)]; simp [go_sem])) ?_;have ag3:(((a).put (Z 24) (L (Z ⟨b1,4,aj⟩))).put (Z 25) (L (Z ⟨b1,5,aj⟩))).tmps[25]?=Z (L (Z ⟨b1,5,aj⟩)):=by simp [Act.put,sz']
  show bF _ _ _ 14 _ (((a).put (Z 24) (L (Z ⟨b1,4,aj⟩))).put (Z 25) (L (Z ⟨b1,5,aj⟩))) _;have c5x:=hB4.cell 5;have f5x:=hB4.fr 5;simp only [O,U,V] at c5x;refine aZ 26 (aA 25) (aA 22) rfl rfl rfl rfl (aP ag3) (aP ((aJ _ 25 _ 22 (by decide)).trans ((aJ _ 24 _ 22 (by decide)).trans g22))) (w':=(((w').setCell ⟨b1,2,aj⟩ (J p2 q2 s2)).setCell ⟨b1,4,aj⟩ (J p4 q4 s4)).setCell ⟨b1,5,aj⟩ (J p5 q5 s5)) (by simp [go_sem,c5x,f5x]) ?_;have hB5:dJ ((((w').setCell ⟨b1,2,aj⟩ (J p2 q2 s2)).setCell ⟨b1,4,aj⟩ (J p4 q4 s4)).setCell ⟨b1,5,aj⟩ (J p5 q5 s5)) b1 #[ak au me,z1,J p2 q2 s2,z3,J p4 q4 s4,J p5 q5 s5] 28:=by simpa using dR (k:=5) hB4 (J p5 q5 s5)
  have rA:∀ j,(j<14\/26<=j)->(((a).put (Z 24) (L (Z ⟨b1,4,aj⟩))).put (Z 25) (L (Z ⟨b1,5,aj⟩))).tmps[j]?=(u0::L (Z ⟨b1,0,aj⟩)::u2::u3::u4::u5::u6::u7::u8::u9::u10::u11::u12::u13::u14::u15::u16::u17::u18::u19::u20::u21::u22::u23::u24::u25::u26::u27::u28::u29::u30::u31::u32::u33::u34::u35::u36::u37::u38::u39::u40::u41::u42::u43::u44::u45::u46::u47::u48::u49::u50::u51::u52::u53::u54::u55::u56::u57::u58::u59::u60::u61::u62::u63::u64::u65::u66::u67::u68::u69::u70::u71::u72::u73::u74::u75::u76::u77::u78::u79::u80::u81::[])[j]?:=fun j hj=>(aJ _ 25 _ j (by omega)).trans ((aJ _ 24 _ j (by omega)).trans ((kp j (nd j (by omega))).trans O));obtain⟨mid,hmid,hfr⟩:=bI (a:=((a).put (Z 24) (L (Z ⟨b1,4,aj⟩))).put (Z 25) (L (Z ⟨b1,5,aj⟩))) 14 12 df (by simp [bf,sz']) (by simp) rA;show Q .normal (((a).put (Z 24) (L (Z ⟨b1,4,aj⟩))).put (Z 25) (L (Z ⟨b1,5,aj⟩))) _;rw [hfr]
  match mid,hmid with
  | [v14,v15,v16,v17,v18,v19,v20,v21,v22,v23,v24,v25],_ =>
   exact HQ.out _ _ _ _ _ _ _ _ _ _ _ _ _ p2 q2 s2 p4 q4 s4 p5 q5 s5 hB5 (eO (eO (eO ho2 b1 2 (J p2 q2 s2) hlt) b1 4 (J p4 q4 s4) hlt) b1 5 (J p5 q5 s5) hlt) (eO (eO (eO ho4 b1 2 (J p2 q2 s2) hlt) b1 4 (J p4 q4 s4) hlt) b1 5 (J p5 q5 s5) hlt) (eO (eO (eO ho5 b1 2 (J p2 q2 s2) hlt) b1 4 (J p4 q4 s4) hlt) b1 5 (J p5 q5 s5) hlt) (fun B hBl=>((((hb.mono (Nat.le_of_lt (Nat.lt_of_le_of_lt hBl hlt))).setCell (p:=⟨b1,2,aj⟩) hBl (J p2 q2 s2)).setCell (p:=⟨b1,4,aj⟩) hBl (J p4 q4 s4)).setCell (p:=⟨b1,5,aj⟩) hBl (J p5 q5 s5))) (fun k hk hne=>((aC (((w').setCell ⟨b1,2,aj⟩ (J p2 q2 s2)).setCell ⟨b1,4,aj⟩ (J p4 q4 s4)) ⟨b1,5,aj⟩ (J p5 q5 s5) k hne).trans ((aC ((w').setCell ⟨b1,2,aj⟩ (J p2 q2 s2)) ⟨b1,4,aj⟩ (J p4 q4 s4) k hne).trans ((aC (w') ⟨b1,2,aj⟩ (J p2 q2 s2) k hne).trans (hb.block k hk)))))
def Yd (B:Nat) (b1:Nat) (_me:Int) (_z1 _z3 _z4 _z5:aH) (g n cap k:Nat) (y1 y2:Int) (yo:Option aO) (yn yc:Nat) (y4:Int) (p:List C5) (i:Nat) (v:aH) (x:aK):Prop :=
 match i with
 | 0=>v=L (Z ⟨b1,2,aj⟩)
 | 1=>v=J (Z ⟨g,0,aj⟩) n cap
 | 2=>v=ak au (k:Int)
 | 3=>v=L (Z ⟨b1,2,aj⟩)
 | 4=>v=J (Z ⟨g,0,aj⟩) n cap
 | 5=>v=ak au (k:Int)
 | 6=>v=L (Z ⟨g,k * 4,aj⟩)
 | 7=>v=mY (y1,y2,(yo,yn,yc),y4)
 | 8=>∃ s:Sl,v=mY (y1,y2,s,y4)/\gP x B (dX s) p
 | 9=>v=L (Z ⟨g,k * 4,aj⟩)
 | _=>True
noncomputable def aev:Code:=((Tryz.f91.body.bind (eT 6)).getD .skip)
theorem Ye (B:Nat) (b1:Nat) (me:Int) (z1 z3 z4 z5:aH) (g n cap k:Nat) (y1 y2:Int) (yo:Option aO) (yn yc:Nat) (y4:Int) (p:List C5) (i:Nat) (v:aH) (x x':aK) (h:Yd B b1 me z1 z3 z4 z5 g n cap k y1 y2 yo yn yc y4 p i v x) (hb:Below x.heap.size x x'):Yd B b1 me z1 z3 z4 z5 g n cap k y1 y2 yo yn yc y4 p i v x':=by
 by_cases hi:i<10
 ·rcases (by omega:i=0\/i=1\/i=2\/i=3\/i=4\/i=5\/i=6\/i=7\/i=8\/i=9) with rfl|rfl|rfl|rfl|rfl|rfl|rfl|rfl|rfl|rfl
  ·exact h
  ·exact h
  ·exact h
  ·exact h
  ·exact h
  ·exact h
  ·exact h
  ·exact h
  ·obtain⟨s,h1,h2⟩:=h; exact⟨s,h1,Bk.dI h2 hb⟩
  ·exact h
 ·unfold Yd
  split <;> first | omega | trivial
theorem cp6 (Q:Exit->Act->aK->Prop) (W:aK) (B0:Nat) (l:List jI) (b1:Nat) (me:Int) (z1 z3 z4 z5:aH) (g n cap k:Nat) (y1 y2:Int) (yo:Option aO) (yn yc:Nat) (y4:Int) (p:List C5) (u0 u2 u4 u5 u6 u7 u8 u9 u10 u11 u12 u13 u14 u15 u16 u17 u18 u19 u20 u21 u22 u23 u24 u25 u26 u27 u28 u29 u30 u31 u32 u33 u34 u35 u36 u37 u38 u39 u40 u41 u42 u43 u44 u45 u46 u47 u48 u49 u50 u51 u52 u53 u54 u55 u56 u57 u58 u59 u60 u61 u62 u63 u64 u65 u66 u67 u68 u69 u70 u71 u72 u73 u74 u75 u76 u77 u78 u79 u80 u81:aH)
  (h1:dJ W b1 #[ak au me,z1,J (Z ⟨g,0,aj⟩) n cap,z3,z4,z5] 28) (ho:lN W B0 (J (Z ⟨g,0,aj⟩) n cap) l) (hy:l[k]?=Z (y1,y2,(yo,yn,yc),y4)) (hp:fH W (J yo yn yc) p) (lp:p.length<=900)
  (hQ:∀ (x:aK) (v32 v33 v34 v35 v36 v37 v38 v39 v40 v41:aH) (s1:Option aO) (s2 s3:Nat),gP x W.heap.size (J s1 s2 s3) p->lN x B0 (J (Z ⟨g,0,aj⟩) n cap) (l.set k (y1,y2,(s1,s2,s3),y4))->But g W x->(∀ B1,B1<=g->B1<=W.heap.size->Below B1 W x)->Q .normal ⟨(u0::L (Z ⟨b1,0,aj⟩)::u2::ak au (k:Int)::u4::u5::u6::u7::u8::u9::u10::u11::u12::u13::u14::u15::u16::u17::u18::u19::u20::u21::u22::u23::u24::u25::u26::u27::u28::u29::u30::u31::v32::v33::v34::v35::v36::v37::v38::v39::v40::v41::u42::u43::u44::u45::u46::u47::u48::u49::u50::u51::u52::u53::u54::u55::u56::u57::u58::u59::u60::u61::u62::u63::u64::u65::u66::u67::u68::u69::u70::u71::u72::u73::u74::u75::u76::u77::u78::u79::u80::u81::[]).toArray,[]⟩ x) :
  Code.wp aQ aev Q ⟨(u0::L (Z ⟨b1,0,aj⟩)::u2::ak au (k:Int)::u4::u5::u6::u7::u8::u9::u10::u11::u12::u13::u14::u15::u16::u17::u18::u19::u20::u21::u22::u23::u24::u25::u26::u27::u28::u29::u30::u31::u32::u33::u34::u35::u36::u37::u38::u39::u40::u41::u42::u43::u44::u45::u46::u47::u48::u49::u50::u51::u52::u53::u54::u55::u56::u57::u58::u59::u60::u61::u62::u63::u64::u65::u66::u67::u68::u69::u70::u71::u72::u73::u74::u75::u76::u77::u78::u79::u80::u81::[]).toArray,[]⟩ W:=by
 have HQ:=ah hQ;have H1:=ah h1;have HO:=ah ho;have HY:=ah hy;have HP:=ah hp;have LP:=ah lp;have IX:=ah (kY okD g k n cap (by obtain⟨_,_,hv⟩:=(Row.dH ho).len; have h:=(aB.1 hy).1; simp at hv; omega));have EL:=ah (jC okD ho hy);clear hQ h1 ho hy hp lp;have iT:=Ye W.heap.size b1 me z1 z3 z4 z5 g n cap k y1 y2 yo yn yc y4 p;unfold aev
 conv=>arg 2; whnf
 have nd:∀ j,(j<32\/42<=j)->∀ i,i<10->(fun i=>32+i) i≠j:=by
  intro j hj i hi h;simp only at h;omega
 refine bG 11 10 (fun i=>32+i) (fun _=>10) (Yd W.heap.size b1 me z1 z3 z4 z5 g n cap k y1 y2 yo yn yc y4 p) (by kernel_rfl) (by kernel_rfl) rfl (by decide) (fun i j _ _ h=>by have h2:32+i=32+j:=h; omega) (fun i hi=>by show 32+i<82; omega) ?_ (fun _=>bH 14 (by kernel_rfl)) ?_ ?_
 ·intro i o hi ho a x D hnd hc hD hb seen K hK;clear HQ;rcases (by omega:i=0\/i=1\/i=2\/i=3\/i=4\/i=5\/i=6\/i=7\/i=8\/i=9) with rfl|rfl|rfl|rfl|rfl|rfl|rfl|rfl|rfl|rfl
  ·cases ho;have e1:a.eval (aA 1)=L (Z ⟨b1,0,aj⟩):=seen.kp 1 _ (nd 1 (by omega)) rfl;exact aF rfl rfl (aR a.eval _ 28 (aA 1) 2 rfl (by rw [e1]; simp [go_sem])) (hK _ _ rfl (ay _ _) fun _ _ _ _ _ _ _ h=>h)
  ·cases ho;have e32:a.eval (aA 32)=L (Z ⟨b1,2,aj⟩):=seen.at_ ⟨0,.data⟩ (by simp) rfl (aD (by decide));have y2:=(H1.out.on hb).cell 2;simp only [O,U,V] at y2;exact aF rfl rfl (aV a.eval _ 23 (aA 32) rfl (by rw [e32]; simp [go_sem,y2])) (hK _ _ rfl (ay _ _) fun _ _ _ _ _ _ _ h=>h)
  ·cases ho;have e3:a.eval (aA 3)=ak au (k:Int):=seen.kp 3 _ (nd 3 (by omega)) rfl;exact aF rfl rfl (Rg.gq a.eval _ (aA 3) rfl x) (hK _ _ e3 (ay _ _) fun _ _ _ _ _ _ _ h=>h)
  ·cases ho;have e1:a.eval (aA 1)=L (Z ⟨b1,0,aj⟩):=seen.kp 1 _ (nd 1 (by omega)) rfl;exact aF rfl rfl (aR a.eval _ 28 (aA 1) 2 rfl (by rw [e1]; simp [go_sem])) (hK _ _ rfl (ay _ _) fun _ _ _ _ _ _ _ h=>h)
  ·cases ho;have e35:a.eval (aA 35)=L (Z ⟨b1,2,aj⟩):=seen.at_ ⟨3,.data⟩ (by simp) rfl (aD (by decide));have y2:=(H1.out.on hb).cell 2;simp only [O,U,V] at y2;exact aF rfl rfl (aV a.eval _ 23 (aA 35) rfl (by rw [e35]; simp [go_sem,y2])) (hK _ _ rfl (ay _ _) fun _ _ _ _ _ _ _ h=>h)
  ·cases ho;have e3:a.eval (aA 3)=ak au (k:Int):=seen.kp 3 _ (nd 3 (by omega)) rfl;exact aF rfl rfl (Rg.gq a.eval _ (aA 3) rfl x) (hK _ _ e3 (ay _ _) fun _ _ _ _ _ _ _ h=>h)
  ·cases ho;have e36:a.eval (aA 36)=J (Z ⟨g,0,aj⟩) n cap:=seen.at_ ⟨4,.data⟩ (by simp) rfl (aD (by decide));have e37:a.eval (aA 37)=ak au (k:Int):=seen.at_ ⟨5,.data⟩ (by simp) rfl (aD (by decide));exact aF rfl rfl (Rg.og a.eval _ 23 (aA 36) (aA 37) rfl (by rw [e36,e37]; exact IX.out x)) (hK _ _ rfl (ay _ _) fun _ _ _ _ _ _ _ h=>h)
  ·cases ho;have e38:a.eval (aA 38)=L (Z ⟨g,k * 4,aj⟩):=seen.at_ ⟨6,.data⟩ (by simp) rfl (aD (by decide));exact aF rfl rfl (aV a.eval _ 74 (aA 38) rfl (by rw [e38]; exact Rp x _ (y1,y2,(yo,yn,yc),y4) (EL.out x hb))) (hK _ _ rfl (ay _ _) fun _ _ _ _ _ _ _ h=>h)
  ·cases ho;have e39:a.eval (aA 39)=mY (y1,y2,(yo,yn,yc),y4):=seen.at_ ⟨7,.data⟩ (by simp) rfl (aD (by decide));exact aX rfl rfl (Rw.iD a.eval _ (aA 39) 74 79 rfl e39 rfl _ (gD Tryz.func79 rfl rfl _ _)) (zM (y1,y2,(yo,yn,yc),y4) p x (HP.out.on hb) LP.out) fun e w1 h=>by
    obtain⟨⟨s,rfl,h1⟩,h3⟩:=h;exact⟨_,rfl,hK _ _ ⟨s,rfl,dN h1 hb.size⟩ (h3.mono hb.size) fun j u hj _ _ _ hne h=>iT j u _ _ h h3⟩
  ·cases ho;have e33:a.eval (aA 33)=J (Z ⟨g,0,aj⟩) n cap:=seen.at_ ⟨1,.data⟩ (by simp) rfl (aD (by decide));have e34:a.eval (aA 34)=ak au (k:Int):=seen.at_ ⟨2,.data⟩ (by simp) rfl (aD (by decide));exact aF rfl rfl (Rg.og a.eval _ 23 (aA 33) (aA 34) rfl (by rw [e33,e34]; exact IX.out x)) (hK _ _ rfl (ay _ _) fun _ _ _ _ _ _ _ h=>h)
 ·intro kk o h1 h2 ho;omega
 ·intro a w' df sz kp ⟨vs,hv⟩ hb;have sz':a.tmps.size=82:=sz;have g41:a.tmps[41]?=Z (L (Z ⟨g,k * 4,aj⟩)):=by
   have h:vs 9=L (Z ⟨g,k * 4,aj⟩):=(hv 9 (by omega)).2 (by decide);rw [<- h];exact (hv 9 (by omega)).1
  obtain⟨⟨s1,s2,s3⟩,hs,hc⟩:=(hv 8 (by omega)).2 (by decide);have g40:a.tmps[40]?=Z (mY (y1,y2,(s1,s2,s3),y4)):=((hv 8 (by omega)).1).trans (congrArg Z hs);obtain⟨w2,hr,st1,st2,st3⟩:=abW (k:=k) (y1,y2,(s1,s2,s3),y4) (Bk.dI HO.out hb) (aB.1 HY.out).1;obtain⟨cur,hg⟩:=jL (Bk.dI HO.out hb);show aY _ _ _ 1 10 a w';simp only [aY];refine aZ 74 (aA 41) (aA 40) rfl rfl rfl rfl (aP g41) (aP g40) (w':=w2) hr ?_;have rA:∀ j,(j<32\/42<=j)->(a).tmps[j]?=(u0::L (Z ⟨b1,0,aj⟩)::u2::ak au (k:Int)::u4::u5::u6::u7::u8::u9::u10::u11::u12::u13::u14::u15::u16::u17::u18::u19::u20::u21::u22::u23::u24::u25::u26::u27::u28::u29::u30::u31::u32::u33::u34::u35::u36::u37::u38::u39::u40::u41::u42::u43::u44::u45::u46::u47::u48::u49::u50::u51::u52::u53::u54::u55::u56::u57::u58::u59::u60::u61::u62::u63::u64::u65::u66::u67::u68::u69::u70::u71::u72::u73::u74::u75::u76::u77::u78::u79::u80::u81::[])[j]?:=fun j hj=>(kp j (nd j (by omega))).trans O;obtain⟨mid,hmid,hfr⟩:=bI (a:=a) 32 10 df (by simp [sz']) (by simp) rA;show Q .normal (a) _;rw [hfr]
  match mid,hmid with
  | [v32,v33,v34,v35,v36,v37,v38,v39,v40,v41],_ =>
   exact HQ.out _ _ _ _ _ _ _ _ _ _ _ s1 s2 s3 (st2.own hc hg (by decide)) st1 ((But.of_below hb).trans st2) fun B1 hB hl=>st3 B1 W hB (hb.mono hl)
def gL (l:List Ad) (x:fD):Option Ad:=l.find? fun a=>decide (a.id=x)
theorem vD {l:List Ad} {x:fD} (h:∀ (j:Nat) (a:Ad),l[j]?=Z a->a.id≠x):gL l x=aj:=by
 unfold gL;rw [List.find?_eq_none];intro a ha;obtain⟨j,hj⟩:=aL.1 ha;simpa using h j a hj
theorem sI:∀ {l:List Ad} {x:fD} {k:Nat} {a:Ad},l[k]?=Z a->a.id=x->(∀ (j:Nat) (z:Ad),j<k->l[j]?=Z z->z.id≠x)->gL l x=Z a
 | [],_,_,_,h,_,_=>by simp at h
 | b::l,x,0,a,h,hx,_=>by
  obtain rfl:b=a:=by simpa using h
  simp [gL,hx]
 | b::l,x,k+1,a,h,hx,hall=>by
  have hb:=hall 0 b (by omega) rfl;have ih:=sI (l:=l) (x:=x) (k:=k) (a:=a) (by simpa using h) hx fun j z hj hz=>hall (j+1) z (by omega) (by simpa using hz);unfold gL at *;rw [List.find?_cons_of_neg (by simpa using hb)];exact ih
def aex (W:aK) (o:Option Ad) (w:aK) (e:Ending) (w':aK):Prop:=(match o with
 | none=>e=.returned (.tuple #[mY (0,0,(aj,0,0),0),bg false])
 | some a=>∃ r:jI,e=.returned (.tuple #[mY r,bg true])/\zC w' r a)/\Below W.heap.size w w'
theorem GU (me:Int) (nv sv ev ov:aH) (av:Sl) (l:List jI) (al:List Ad) (x:fD) (w:aK) (hs:vT w (dX av) l) (hA:fA (zC w) l al) (hf:∀ a∈al,a.p.length<=900) :
  Calls aQ 29 #[.agg #[ak au me,nv,dX av,sv,ev,ov],mZ x] w (aex w (gL al x) w):=by
 obtain⟨c,d⟩:=x;obtain⟨so,sn,sc⟩:=av;obtain⟨ao,ac,hv⟩:=hs.len;have hv:J so sn sc=J ao l.length ac:=hv;obtain⟨rfl,rfl,rfl⟩:so=ao/\sn=l.length/\sc=ac:=by simpa using hv
 obtain⟨h0,h1,h2⟩:=gY w #[ak au me,nv,J so l.length sc,sv,ev,ov] #[ak au c,ak au d] 28 31;have h3:=gu ((w.alloc (aI #[ak au me,nv,J so l.length sc,sv,ev,ov] 28)).alloc (aI #[ak au c,ak au d] 31)) (aI #[ak au 0,ak au 0,J aj 0 0,ak au 0] 74);have h4:=dO ((w.alloc (aI #[ak au me,nv,J so l.length sc,sv,ev,ov] 28)).alloc (aI #[ak au c,ak au d] 31)) #[ak au 0,ak au 0,J aj 0 0,ak au 0] 74;have hsz:((w.alloc (aI #[ak au me,nv,J so l.length sc,sv,ev,ov] 28)).alloc (aI #[ak au c,ak au d] 31)).heap.size=w.heap.size+1+1:=by simp
 rw [hsz] at h4;have B:=ah (h0.trans (h3.mono h0.size));have HS:=ah (hs.on B.out);have HA:=ah (hA.mono fun _ _ h=>h.on B.out);have X2:=ah (h1.on h3);have X3:=ah (h2.on h3);have X4:=ah h4;have HF:=ah hf;have lm:=hs.most;unfold maxLen at lm;obtain⟨n,hn⟩:∃ n,n=l.length:=⟨_,rfl⟩;have q3:=X2.out.cell 2;simp only [O,U,V] at q3;rw [<- hn] at HS X2 X3 X4 HA lm q3 B ⊢;have HN:=ah hn.symm;obtain⟨fo,hfo⟩:∃ o,o=gL al (c,d):=⟨_,rfl⟩;rw [<- hfo];have FO:=ah hfo;clear h0 h1 h2 h3 h4 hs hv hn hA hf hsz hfo;go_enter Tryz.func29,Tryz.ntmps29;go_upto_region 1 with fail;generalize ((w.alloc (aI #[ak au me,nv,J so n sc,sv,ev,ov] 28)).alloc (aI #[ak au c,ak au d] 31)).alloc (aI #[ak au 0,ak au 0,J aj 0 0,ak au 0] 74)=W at *;go_wp2
 go_loopw [11] (fun i wr=>∃ k:Nat,k<=n/\i=ak au k/\Below W.heap.size W wr/\∀ (j:Nat) (y:jI),j<k->l[j]?=Z y->(y.1,y.2.1)≠(c,d)) (fun i _=>n-(intOf i).toNat)
 case atStart=>exact⟨0,Nat.zero_le _,rfl,ay _ _,fun j y h=>by omega⟩
 case round =>
  obtain⟨k,hk,rfl,hbe,hall⟩:=hrel;have BE:=ah hbe;have AL:=ah hall;clear hbe hall;by_cases hlt:k<n
  ·obtain⟨y,hy⟩:∃ y,l[k]?=Z y:=⟨_,aG (by rw [HN.out]; exact hlt)⟩;obtain⟨p,ix,px⟩:=Mf HS.out rfl HN.out hy;obtain⟨p0,p1,p2,p3⟩:=px wr BE.out;obtain⟨y1,y2,⟨yo,yn,yc⟩,y4⟩:=y;simp only at p0 p1 p2 p3;have NB:=ah (gu wr (aI #[ak au y1,ak au y2,J yo yn yc,ak au y4] 74));obtain⟨x0,x1⟩:=((X3.out.on BE.out).on NB.out).cs2;have hw3:IntKind.i64.wrap ((k:Int)+1)=(k:Int)+1:=IntWalk.i64_in _ (by omega);obtain⟨r,hr⟩:∃ r,(y1 == c && y2 == d)=r:=⟨_,rfl⟩;have he:=uw y1 y2 c d r hr;have HY:=ah hy;have HR:=ah hr;clear px hy hr;cases r
   ·go_wp2
    go_roundw
    case rel=>exact⟨k+1,by omega,by go_num,BE.out.trans (NB.out.mono BE.out.size),fun j y' hj h1=>by
     rcases Nat.lt_or_ge j k with h3|h3
     ·exact AL.out j y' h3 h1
     ·obtain rfl:j=k:=by omega
      have e1:=HY.out;rw [h1] at e1;rw [aN e1];intro e;obtain⟨rfl,rfl⟩:y1=c/\y2=d:=by simpa using e
      have:=HR.out;simp at this⟩
    case measure=>simp [intOf]; omega
   ·obtain⟨a,ha⟩:∃ a,al[k]?=Z a:=⟨_,aG (by rw [<- HA.out.len,HN.out]; exact hlt)⟩;obtain⟨z,hz1,hz2⟩:=HA.out.at k a ha;rw [HY.out] at hz1;obtain rfl:=aN hz1;have BA:=ah (BE.out.trans (NB.out.mono BE.out.size));have C:=ah (zM (y1,y2,(yo,yn,yc),y4) a.p _ (hz2.2.2.on BA.out) (HF.out a (aM ha)));have HZ:=ah hz2;have h8:=HR.out;obtain⟨rfl,rfl⟩:y1=c/\y2=d:=by simpa using h8
    have FA:=ah (show fo=Z a by
     rw [FO.out];refine sI ha hz2.1.symm fun j z hj hzz=>?_;obtain⟨u,hu1,hu2⟩:=HA.out.at j z hzz;rw [<- hu2.1];exact AL.out j u hj hu1)
    have XR:=(X4.out.on BE.out).on NB.out;clear hz1 hz2 ha h8;go_wp2_with fail;refine C.out.mono ?_;rintro e w1 ⟨⟨⟨u1,u2,u3⟩,rfl,ho⟩,hb⟩;have Y1:=XR.on hb;have B1:=ah (BA.out.trans (hb.mono BA.out.size));obtain⟨r0,r1,r2,r3⟩:=Y1.Cx;obtain⟨t0,t1,t2,t3⟩:=Y1.fs4;have zz:=Y1.lt;have hs2:w.heap.size+1+1<(wr.alloc (aI #[ak au y1,ak au y2,J yo yn yc,ak au y4] 74)).heap.size:=XR.lt;have FB:=ah (zL Y1 (ak au y1) (ak au y2) (J u1 u2 u3) (ak au y4));have BL:=ah (vg (b:=w.heap.size+1+1) (B.out.trans (B1.out.mono B.out.size)) (by omega) (ak au y1) (ak au y2) (J u1 u2 u3) (ak au y4));have FW:=ah (Gx ho (w.heap.size+1+1) hs2 (ak au y1) (ak au y2) (J u1 u2 u3) (ak au y4));clear Y1 ho hb hs2 XR;go_wp2_with fail;obtain⟨v0,v1,v2,v3⟩:=FB.out.Cx;refine bodyPost_ret (v:=.tuple #[.agg #[ak au y1,ak au y2,J u1 u2 u3,ak au y4],bg true]) (by simp [results,aW,go_sem,v0,v1,v2,v3]) rfl ?_;rw [FA.out];exact⟨⟨(y1,y2,(u1,u2,u3),y4),rfl,HZ.out.1,HZ.out.2.1,Row.dH FW.out⟩,BL.out⟩
  ·obtain rfl:k=n:=by omega
   have FA:=ah (show fo=aj by
    rw [FO.out];refine vD fun j z hzz=>?_;obtain⟨u,hu1,hu2⟩:=HA.out.at j z hzz;rw [<- hu2.1];exact AL.out j u (by rw [<- HN.out]; exact (aB.1 hu1).1) hu1)
   have Y1:=X4.out.on BE.out;obtain⟨r0,r1,r2,r3⟩:=Y1.Cx;obtain⟨t0,t1,t2,t3⟩:=Y1.fs4;have zz:=Y1.lt;have FB:=ah (zL Y1 (ak au 0) (ak au 0) (J aj 0 0) (ak au 0));have BL:=ah (vg (b:=w.heap.size+1+1) (B.out.trans (BE.out.mono B.out.size)) (by omega) (ak au 0) (ak au 0) (J aj 0 0) (ak au 0));clear Y1;go_wp2_with fail;obtain⟨v0,v1,v2,v3⟩:=FB.out.Cx;refine bodyPost_ret (v:=.tuple #[.agg #[ak au 0,ak au 0,J aj 0 0,ak au 0],bg false]) (by simp [results,aW,go_sem,v0,v1,v2,v3]) rfl ?_;rw [FA.out];exact⟨rfl,BL.out⟩
end Go.Proofs.YtmklifheakemeaaGreat.Av
