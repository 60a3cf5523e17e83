/-
  The order of IDs: Le. Conditions as told.
-/
import Derived.Test.YtghlpefopidlaaaGreatCQ008
import Derived.Test.YtghlpefopidlaaaGreatCQ014
import Derived.Test.YtghlpefopidlaaaGreatCQ015
import Derived.Test.YtghlpefopidlaaaGreatCQ016
set_option maxRecDepth 100000
set_option maxHeartbeats 64000000
open _root_.Bool renaming true->aJ
open _root_.Go renaming World->aG,Value->aH,Act->aS
open Go.IntKind renaming i64->aC
open Go.Lib renaming hid->aF
open Go.Operand renaming tmp->ak
open Go.Region renaming binds->ah
open Go.RowKit.Below renaming refl->Z
open Go.Value renaming pointer->J,slice->au,int->aB
open _root_.List renaming getElem?_eq_some_iff->U,getElem?_toArray->aj,getElem?_cons_zero->ay,getElem?_cons_succ->aA,getElem?_eq_getElem->aK,mem_iff_getElem?->aL,mem_of_getElem?->aM,getElem?_map->aN,mem_map->aO,all_eq_true->aP,length_map->aQ
open _root_.Option renaming some->O,none->aD
open _root_.Or renaming inr->aI,inl->aR
namespace Go.Proofs.YtghlpefopidlaaaGreat
namespace Av
open Go.RowKit Go.Sort Rw YtghlpefopidlaaaGreat.Nm Pr Bk
theorem lU (x y:dQ) (w:aG):Calls Tryz.prog 31 #[oJ x,oJ y] w fun e w'=>e=.returned (.bool (dB x y))/\Below w.heap.size w w':=by
 have C:=qE x y;have R:=aF (show decide (iP x y<0)=dB x y from by
  have h:=lH x y;cases hl:dB x y
  ·rw [hl] at h; simp at h; simpa using h
  ·rw [hl] at h; simp at h; simpa using h)
 obtain⟨a,b⟩:=x;obtain⟨c,d⟩:=y;obtain⟨h0,X,Y⟩:=gP w #[aB aC a,aB aC b] #[aB aC c,aB aC d] 23 23;obtain⟨x0,x1⟩:=X.cs2;obtain⟨y0,y1⟩:=Y.cs2;have B:=aF h0;generalize iP (a,b) (c,d)=r at *;generalize dB (a,b) (c,d)=s at *;clear X Y h0;go_enter Tryz.func31,Tryz.ntmps31;go_wp2_with fail;have C:=C ((w.alloc (.cells #[aB aC a,aB aC b] 23)).alloc (.cells #[aB aC c,aB aC d] 23));refine C.mono ?_;rintro e w1 ⟨rfl,hb⟩;go_wp2;go_ret;exact⟨by have h:=R.out; subst h; rfl,B.out.trans (hb.mono B.out.size)⟩
theorem Bj (x y:iQ) (w:aG):Calls Tryz.prog 36 #[jD x,jD y] w fun e w'=>e=.returned (aB aC (iP (x.1,x.2.1) (y.1,y.2.1)))/\Below w.heap.size w w':=by
 obtain⟨a,b,⟨s1,s2,s3⟩,p⟩:=x;obtain⟨c,d,⟨t1,t2,t3⟩,q⟩:=y;have C:=qE (a,b) (c,d);obtain⟨h0,X,Y⟩:=gP w #[aB aC a,aB aC b,au s1 s2 s3,aB aC p] #[aB aC c,aB aC d,au t1 t2 t3,aB aC q] 36 36;have x1:=X.cell 1;have x0:=X.cell 0;have y1:=Y.cell 1;have y0:=Y.cell 0;simp only [aj,ay,aA] at x0 x1 y0 y1;have B:=aF h0;generalize iP (a,b) (c,d)=r at *;clear X Y h0;go_enter Tryz.func36,Tryz.ntmps36;go_wp2_with fail;have C:=C ((w.alloc (.cells #[aB aC a,aB aC b,au s1 s2 s3,aB aC p] 36)).alloc (.cells #[aB aC c,aB aC d,au t1 t2 t3,aB aC q] 36));refine C.mono ?_;rintro e w1 ⟨rfl,hb⟩;go_wp2;go_ret;exact⟨rfl,B.out.trans (hb.mono B.out.size)⟩
def gQ {α:Type} (key:α->dQ) (l:List α):Prop:=l.Pairwise fun a b=>dB (key a) (key b)=aJ
def dM {α:Type} (key:α->dQ) (l:List α) (x:dQ):Nat:=(l.takeWhile fun a=>dB (key a) x).length
def eY {α:Type} (key:α->dQ) (l:List α) (x:dQ):Bool:=match l[dM key l x]? with
 | some y=>decide (key y=x)
 | none=>false
theorem fU {α:Type} (key:α->dQ) (l:List α) (x:dQ):dM key l x=gy (l.map key) x:=by
 unfold dM gy;rw [List.takeWhile_map,aQ]
 rfl
theorem sU {α:Type} (key:α->dQ) (l:List α) (x:dQ) (k:Nat) (hall:∀ (j:Nat) (y:α),j<k->l[j]?=O y->dB (key y) x=aJ) (hend:k=l.length\/∃ y,l[k]?=O y/\dB (key y) x=false):dM key l x=k:=by
 rw [fU];refine DF _ _ k (fun j y hj h=>?_) ?_
 ·rw [aN] at h;cases hy:l[j]? with
  | none=>rw [hy] at h; cases h
  | some z=>rw [hy] at h; rw [<- Option.some.inj h]; exact hall j z hj hy
 ·rcases hend with h|⟨y,h1,h2⟩
  ·exact aR (by rw [aQ]; exact h)
  ·exact aI ⟨key y,by rw [aN,h1]; rfl,h2⟩
theorem gY {α:Type} {key:α->dQ} {l:List α} (h:gQ key l) {i j:Nat} {x y:α} (hij:i<j) (hx:l[i]?=O x) (hy:l[j]?=O y):dB (key x) (key y)=aJ:=by
 obtain⟨h1,rfl⟩:=U.1 hx;obtain⟨h2,rfl⟩:=U.1 hy;exact List.pairwise_iff_getElem.1 h i j h1 h2 hij
theorem sV (x y:dQ):decide (iP x y<0)=dB x y:=by
 have h:=lH x y;cases hl:dB x y
 ·rw [hl] at h; simp at h; simpa using h
 ·rw [hl] at h; simp at h; simpa using h
theorem sW {α:Type} {key:α->dQ} {l:List α} (h:gQ key l) (x:dQ):eY key l x=decide (x∈l.map key):=by
 unfold eY;have hp:dM key l x<=l.length:=by rw [fU]; exact Nat.le_trans (kr _ _) (by simp)
 have hlo:∀ (j:Nat) (y:α),j<dM key l x->l[j]?=O y->dB (key y) x=aJ:=by
  intro j y hj hy;have ht:(l.takeWhile fun a=>dB (key a) x)[j]?=O y:=by
   have:=List.takeWhile_prefix (fun a=>dB (key a) x) (l:=l);obtain⟨t,ht⟩:=this;rw [<- ht,List.getElem?_append_left hj] at hy;exact hy
  exact aP.1 List.all_takeWhile y (aM ht)
 have hhi:∀ (y:α),l[dM key l x]?=O y->dB (key y) x=false:=by
  intro y hy;unfold dM at hy;cases hq:dB (key y) x with
  | false=>rfl
  | true =>
   exfalso;have:∀ (m:List α),m[(m.takeWhile fun a=>dB (key a) x).length]?=O y->False:=by
    intro m
    induction m with
    | nil=>intro h; simp at h
    | cons a m ih =>
     intro h;by_cases ha:dB (key a) x=aJ
     ·exact ih (by simpa [List.takeWhile_cons,ha] using h)
     ·simp [ha] at h;subst h;exact ha hq
   exact this l hy
 cases hy:l[dM key l x]? with
 | none =>
  symm
  rw [decide_eq_false_iff_not];intro hm;obtain⟨z,hz,hzx⟩:=aO.1 hm;obtain⟨j,hj⟩:=aL.1 hz;have hjl:=(U.1 hj).1;have hpl:l.length<=dM key l x:=by
   rcases Nat.lt_or_ge (dM key l x) l.length with h0|h0
   ·rw [aK h0] at hy; cases hy
   ·exact h0
  have:=hlo j z (by omega) hj;rw [hzx,gB] at this;cases this
 | some y =>
  simp only;by_cases hk:key y=x
  ·rw [decide_eq_true hk]
   symm
   rw [decide_eq_true_eq];exact aO.2 ⟨y,aM hy,hk⟩
  ·rw [decide_eq_false hk]
   symm
   rw [decide_eq_false_iff_not];intro hm;obtain⟨z,hz,hzx⟩:=aO.1 hm;obtain⟨j,hj⟩:=aL.1 hz;rcases Nat.lt_trichotomy j (dM key l x) with h1|h1|h1
   ·have:=hlo j z h1 hj;rw [hzx,gB] at this;cases this
   ·subst h1;rw [hy] at hj;rw [Option.some.inj hj] at hk;exact hk hzx
   ·have h3:=gY h h1 hy hj;have h4:=hhi y hy;rw [hzx] at h3;rw [h3] at h4;cases h4
def zL (B:Nat) (b1:Nat) (_me:Int) (_z1 _z2 _z3 _z4:aH) (g n cap k:Nat) (_y1 _y2:Int) (yo:Option Addr) (yn yc:Nat) (p:List C5) (i:Nat) (v:aH) (x:aG):Prop :=
 match i with
 | 0=>v=J (O ⟨b1,5,aD⟩)
 | 1=>v=au (O ⟨g,0,aD⟩) n cap
 | 2=>v=aB aC (k:Int)
 | 3=>v=J (O ⟨b1,5,aD⟩)
 | 4=>v=au (O ⟨g,0,aD⟩) n cap
 | 5=>v=aB aC (k:Int)
 | 6=>v=J (O ⟨g,k * 3,aD⟩)
 | 7=>v=J (O ⟨g,k * 3+2,aD⟩)
 | 8=>v=au yo yn yc
 | 9=>∃ s:Sl,v=dH s/\fV x B v p
 | 10=>v=J (O ⟨g,k * 3,aD⟩)
 | 11=>v=J (O ⟨g,k * 3+2,aD⟩)
 | _=>True
noncomputable def Jk:Code:=((Tryz.f33.body.bind (eu 16)).getD .skip)
theorem Eb (B:Nat) (b1:Nat) (me:Int) (z1 z2 z3 z4:aH) (g n cap k:Nat) (y1 y2:Int) (yo:Option Addr) (yn yc:Nat) (p:List C5) (i:Nat) (v:aH) (x x':aG) (h:zL B b1 me z1 z2 z3 z4 g n cap k y1 y2 yo yn yc p i v x) (hb:Below x.heap.size x x'):zL B b1 me z1 z2 z3 z4 g n cap k y1 y2 yo yn yc p i v x':=by
 by_cases hi:i<12
 ·rcases (by omega:i=0\/i=1\/i=2\/i=3\/i=4\/i=5\/i=6\/i=7\/i=8\/i=9\/i=10\/i=11) with rfl|rfl|rfl|rfl|rfl|rfl|rfl|rfl|rfl|rfl|rfl|rfl
  ·exact h
  ·exact h
  ·exact h
  ·exact h
  ·exact h
  ·exact h
  ·exact h
  ·exact h
  ·exact h
  ·obtain⟨s,h1,h2⟩:=h; exact⟨s,h1,Bk.dw h2 hb⟩
  ·exact h
  ·exact h
 ·unfold zL
  split <;> first | omega | trivial
theorem P8 (Q:Exit->aS->aG->Prop) (W:aG) (B0:Nat) (l:List jJ) (b1:Nat) (me:Int) (z1 z2 z3 z4:aH) (g n cap k:Nat) (y1 y2:Int) (yo:Option Addr) (yn yc:Nat) (p:List C5) (u0 u2 u3 u4 u6 u7 u8 u9 u10 u11 u12 u13 u14 u15 u16 u17 u18 u19 u20 u21 u22 u23 u24 u25 u26 u27 u28 u29 u30 u31 u32 u33 u34 u35 u36 u37 u38 u39 u40 u41 u42 u43 u44 u45 u46 u47 u48 u49 u50 u51 u52 u53 u54 u55 u56 u57 u58 u59 u60 u61 u62 u63 u64 u65 u66 u67 u68 u69 u70 u71 u72 u73 u74 u75 u76 u77 u78 u79 u80 u81:aH)
  (h1:cZ W b1 #[aB aC me,z1,z2,z3,z4,au (O ⟨g,0,aD⟩) n cap] 30) (ho:lD W B0 (au (O ⟨g,0,aD⟩) n cap) l) (hy:l[k]?=O (y1,y2,(yo,yn,yc))) (hp:fI W (au yo yn yc) p) (lp:p.length<=900)
  (hQ:∀ (x:aG) (v68 v69 v70 v71 v72 v73 v74 v75 v76 v77 v78 v79:aH) (s1:Option Addr) (s2 s3:Nat),fV x W.heap.size (au s1 s2 s3) p->lD x B0 (au (O ⟨g,0,aD⟩) n cap) (l.set k (y1,y2,(s1,s2,s3)))->But g W x->(∀ B1,B1<=g->B1<=W.heap.size->Below B1 W x)->Q .normal ⟨(u0::J (O ⟨b1,0,aD⟩)::u2::u3::u4::aB aC (k:Int)::u6::u7::u8::u9::u10::u11::u12::u13::u14::u15::u16::u17::u18::u19::u20::u21::u22::u23::u24::u25::u26::u27::u28::u29::u30::u31::u32::u33::u34::u35::u36::u37::u38::u39::u40::u41::u42::u43::u44::u45::u46::u47::u48::u49::u50::u51::u52::u53::u54::u55::u56::u57::u58::u59::u60::u61::u62::u63::u64::u65::u66::u67::v68::v69::v70::v71::v72::v73::v74::v75::v76::v77::v78::v79::u80::u81::[]).toArray,[]⟩ x) :
  Code.wp Tryz.prog Jk Q ⟨(u0::J (O ⟨b1,0,aD⟩)::u2::u3::u4::aB aC (k:Int)::u6::u7::u8::u9::u10::u11::u12::u13::u14::u15::u16::u17::u18::u19::u20::u21::u22::u23::u24::u25::u26::u27::u28::u29::u30::u31::u32::u33::u34::u35::u36::u37::u38::u39::u40::u41::u42::u43::u44::u45::u46::u47::u48::u49::u50::u51::u52::u53::u54::u55::u56::u57::u58::u59::u60::u61::u62::u63::u64::u65::u66::u67::u68::u69::u70::u71::u72::u73::u74::u75::u76::u77::u78::u79::u80::u81::[]).toArray,[]⟩ W:=by
 have HQ:=aF hQ;have H1:=aF h1;have HO:=aF ho;have HY:=aF hy;have HP:=aF hp;have LP:=aF lp;have IX:=aF (jX okW g k n cap (by obtain⟨_,_,hv⟩:=(Row.dx ho).len; have h:=(U.1 hy).1; simp at hv; omega));have EL:=aF (gI okW ho hy);clear hQ h1 ho hy hp lp;have mE:=Eb W.heap.size b1 me z1 z2 z3 z4 g n cap k y1 y2 yo yn yc p;unfold Jk
 conv=>arg 2; whnf
 have nd:∀ j,(j<68\/80<=j)->∀ i,i<12->(fun i=>68+i) i≠j:=by
  intro j hj i hi h;simp only at h;omega
 refine Rg.gX 13 12 (fun i=>68+i) (fun _=>12) (zL W.heap.size b1 me z1 z2 z3 z4 g n cap k y1 y2 yo yn yc p) (by kernel_rfl) (by kernel_rfl) rfl (by decide) (fun i j _ _ h=>by have h2:68+i=68+j:=h; omega) (fun i hi=>by show 68+i<82; omega) ?_ (fun _=>Rg.kK 14 (by kernel_rfl)) ?_ ?_
 ·intro i o hi ho a x D hnd hc hD hb seen K hK;clear HQ;rcases (by omega:i=0\/i=1\/i=2\/i=3\/i=4\/i=5\/i=6\/i=7\/i=8\/i=9\/i=10\/i=11) with rfl|rfl|rfl|rfl|rfl|rfl|rfl|rfl|rfl|rfl|rfl|rfl
  ·cases ho;have e1:a.eval (ak 1)=J (O ⟨b1,0,aD⟩):=seen.kp 1 _ (nd 1 (by omega)) rfl;exact Rg.cO rfl rfl (Rg.dR a.eval _ 30 (ak 1) 5 rfl (by rw [e1]; simp [go_sem])) (hK _ _ rfl (Z _ _) fun _ _ _ _ _ _ _ h=>h)
  ·cases ho;have e68:a.eval (ak 68)=J (O ⟨b1,5,aD⟩):=seen.at_ ⟨0,.data⟩ (by simp) rfl (aI (by decide));have y5:=(H1.out.on hb).cell 5;simp only [aj,ay,aA] at y5;exact Rg.cO rfl rfl (Rg.dX a.eval _ 28 (ak 68) rfl (by rw [e68]; simp [go_sem,y5])) (hK _ _ rfl (Z _ _) fun _ _ _ _ _ _ _ h=>h)
  ·cases ho;have e5:a.eval (ak 5)=aB aC (k:Int):=seen.kp 5 _ (nd 5 (by omega)) rfl;exact Rg.cO rfl rfl (Rg.iq a.eval _ (ak 5) rfl x) (hK _ _ e5 (Z _ _) fun _ _ _ _ _ _ _ h=>h)
  ·cases ho;have e1:a.eval (ak 1)=J (O ⟨b1,0,aD⟩):=seen.kp 1 _ (nd 1 (by omega)) rfl;exact Rg.cO rfl rfl (Rg.dR a.eval _ 30 (ak 1) 5 rfl (by rw [e1]; simp [go_sem])) (hK _ _ rfl (Z _ _) fun _ _ _ _ _ _ _ h=>h)
  ·cases ho;have e71:a.eval (ak 71)=J (O ⟨b1,5,aD⟩):=seen.at_ ⟨3,.data⟩ (by simp) rfl (aI (by decide));have y5:=(H1.out.on hb).cell 5;simp only [aj,ay,aA] at y5;exact Rg.cO rfl rfl (Rg.dX a.eval _ 28 (ak 71) rfl (by rw [e71]; simp [go_sem,y5])) (hK _ _ rfl (Z _ _) fun _ _ _ _ _ _ _ h=>h)
  ·cases ho;have e5:a.eval (ak 5)=aB aC (k:Int):=seen.kp 5 _ (nd 5 (by omega)) rfl;exact Rg.cO rfl rfl (Rg.iq a.eval _ (ak 5) rfl x) (hK _ _ e5 (Z _ _) fun _ _ _ _ _ _ _ h=>h)
  ·cases ho;have e72:a.eval (ak 72)=au (O ⟨g,0,aD⟩) n cap:=seen.at_ ⟨4,.data⟩ (by simp) rfl (aI (by decide));have e73:a.eval (ak 73)=aB aC (k:Int):=seen.at_ ⟨5,.data⟩ (by simp) rfl (aI (by decide));exact Rg.cO rfl rfl (Rg.kg a.eval _ 28 (ak 72) (ak 73) rfl (by rw [e72,e73]; exact IX.out x)) (hK _ _ rfl (Z _ _) fun _ _ _ _ _ _ _ h=>h)
  ·cases ho;have e74:a.eval (ak 74)=J (O ⟨g,k * 3,aD⟩):=seen.at_ ⟨6,.data⟩ (by simp) rfl (aI (by decide));exact Rg.cO rfl rfl (Rg.dR a.eval _ 88 (ak 74) 1 rfl (by rw [e74]; simp [go_sem])) (hK _ _ rfl (Z _ _) fun _ _ _ _ _ _ _ h=>h)
  ·cases ho;have e75:a.eval (ak 75)=J (O ⟨g,k * 3+2,aD⟩):=seen.at_ ⟨7,.data⟩ (by simp) rfl (aI (by decide));have y:=EL.out x hb 2 _ rfl;simp [Addr.add,EW] at y;exact Rg.cO rfl rfl (Rg.dX a.eval _ 34 (ak 75) rfl (by rw [e75]; simp [go_sem,y])) (hK _ _ rfl (Z _ _) fun _ _ _ _ _ _ _ h=>h)
  ·cases ho;have e76:a.eval (ak 76)=au yo yn yc:=seen.at_ ⟨8,.data⟩ (by simp) rfl (aI (by decide));exact Rg.fO rfl rfl (Rw.gq a.eval _ (ak 76) 34 44 rfl e76 rfl _ (fu Tryz.func44 rfl rfl _ _)) (iW (yo,yn,yc) p x (HP.out.on hb) LP.out) fun e w1 h=>by
    obtain⟨⟨s,rfl,h1⟩,h3⟩:=h;exact⟨_,rfl,hK _ _ ⟨s,rfl,dn h1 hb.size⟩ (h3.mono hb.size) fun j u hj _ _ _ hne h=>mE j u _ _ h h3⟩
  ·cases ho;have e69:a.eval (ak 69)=au (O ⟨g,0,aD⟩) n cap:=seen.at_ ⟨1,.data⟩ (by simp) rfl (aI (by decide));have e70:a.eval (ak 70)=aB aC (k:Int):=seen.at_ ⟨2,.data⟩ (by simp) rfl (aI (by decide));exact Rg.cO rfl rfl (Rg.kg a.eval _ 28 (ak 69) (ak 70) rfl (by rw [e69,e70]; exact IX.out x)) (hK _ _ rfl (Z _ _) fun _ _ _ _ _ _ _ h=>h)
  ·cases ho;have e78:a.eval (ak 78)=J (O ⟨g,k * 3,aD⟩):=seen.at_ ⟨10,.data⟩ (by simp) rfl (aI (by decide));exact Rg.cO rfl rfl (Rg.dR a.eval _ 88 (ak 78) 1 rfl (by rw [e78]; simp [go_sem])) (hK _ _ rfl (Z _ _) fun _ _ _ _ _ _ _ h=>h)
 ·intro kk o h1 h2 ho;omega
 ·intro a w' df sz kp ⟨vs,hv⟩ hb;have sz':a.tmps.size=82:=sz;have g79:a.tmps[79]?=O (J (O ⟨g,k * 3+2,aD⟩)):=by
   have h:vs 11=J (O ⟨g,k * 3+2,aD⟩):=(hv 11 (by omega)).2 (by decide);rw [<- h];exact (hv 11 (by omega)).1
  obtain⟨⟨s1,s2,s3⟩,hs,hc⟩:=(hv 9 (by omega)).2 (by decide);have g77:a.tmps[77]?=O (au s1 s2 s3):=((hv 9 (by omega)).1).trans (congrArg O hs);rw [hs] at hc;obtain⟨w2,hr,st1,st2,MR⟩:=KF (k:=k) s1 s2 s3 (Bk.dw HO.out hb) HY.out;obtain⟨cur,hg⟩:=fP (Bk.dw HO.out hb);show Rg.fT _ _ _ 1 12 a w';simp only [Rg.fT];refine Rg.fM 34 (ak 79) (ak 77) rfl rfl rfl rfl (Rg.dD g79) (Rg.dD g77) (w':=w2) hr ?_;have uY:∀ j,(j<68\/80<=j)->(a).tmps[j]?=(u0::J (O ⟨b1,0,aD⟩)::u2::u3::u4::aB aC (k:Int)::u6::u7::u8::u9::u10::u11::u12::u13::u14::u15::u16::u17::u18::u19::u20::u21::u22::u23::u24::u25::u26::u27::u28::u29::u30::u31::u32::u33::u34::u35::u36::u37::u38::u39::u40::u41::u42::u43::u44::u45::u46::u47::u48::u49::u50::u51::u52::u53::u54::u55::u56::u57::u58::u59::u60::u61::u62::u63::u64::u65::u66::u67::u68::u69::u70::u71::u72::u73::u74::u75::u76::u77::u78::u79::u80::u81::[])[j]?:=fun j hj=>(kp j (nd j (by omega))).trans aj;obtain⟨mid,hmid,hfr⟩:=Rg.gL (a:=a) 68 12 df (by simp [sz']) (by simp) uY;show Q .normal (a) _;rw [hfr]
  match mid,hmid with
  | [v68,v69,v70,v71,v72,v73,v74,v75,v76,v77,v78,v79],_ =>
   exact HQ.out _ _ _ _ _ _ _ _ _ _ _ _ _ s1 s2 s3 (st2.own hc hg (by decide)) st1 ((But.of_below hb).trans st2) fun B1 hB hl=>MR B1 W hB (hb.mono hl)
end Av
namespace Bk
open Go.RowKit Rw YtghlpefopidlaaaGreat.Nm Pr
end Bk
namespace Rl
open Go.RowKit Pu Rw Pr Va
end Rl
namespace Rg
open Go.RowKit Rw
structure Jl (i N A S:Nat) (d last:Nat->Nat) (V:Nat->aH->aG->Prop) (base:aS) (o:Oper) (a:aS) (x:aG):Prop where
 kp:∀ j u,(∀ i,i<N->d i≠j)->base.tmps[j]?=O u->a.eval (ak j)=u
 at_:∀ e∈o.after,ah .any e=aJ->e.on≠A->e.on≠S->(last e.on=i\/N<=last e.on)->V e.on (a.eval (ak (d e.on))) x
structure Rn (l:List Oper) (N A S C:Nat) (d last:Nat->Nat) (V:Nat->aH->aG->Prop) (t:TypeId) (zero:Array aH) (Dj:aH->Array aH) (base:aS) (W:aG) (L:Array Bool) (a:aS) (x:aG):Prop where
 cl:∀ i o,done L i->l[i]?=O o->∀ e∈o.after,ah .any e=aJ->done L e.on
 no:∀ i,N<=i->¬ done L i
 df:a.defers=base.defers
 sz:a.tmps.size=base.tmps.size
 kp:∀ j,(∀ i,i<N->d i≠j)->a.tmps[j]?=base.tmps[j]?
 mM:Below W.heap.size W x
 val:∃ vs:Nat->aH,∀ i,i<N->i≠S->done L i->a.tmps[d i]?=O (vs i)/\(i≠A->¬ done L (last i)->V i (vs i) x)
 box:done L A->¬ done L S->∃ bb,a.tmps[d A]?=O (J (O ⟨bb,0,aD⟩))/\W.heap.size<=bb/\cZ x bb zero t
 fin:done L S->∃ bb v,a.tmps[d A]?=O (J (O ⟨bb,0,aD⟩))/\a.tmps[d C]?=O v/\W.heap.size<=bb/\cZ x bb (Dj v) t/\V C v x
theorem Bl {P:Program} {Q:Exit->aS->aG->Prop} {id:Nat} {base:aS} {W:aG} {l:List Oper} (N A S C:Nat) (d last:Nat->Nat) (V:Nat->aH->aG->Prop) (t:TypeId) (zero:Array aH) (Dj:aH->Array aH)
  (hm:P.follows .mixedOrders=aJ) (hf:yg l.toArray=aJ) (hN:l.length=N) (hA:A<N) (hS:S<N) (hC:C<N) (Ro:A≠S) (hCS:C≠S) (Rp:A≠C) (MS:N<=last C)
  (hinj:∀ i j,i<N->j<N->i≠S->j≠S->d i=d j->i=j) (hs:∀ i,i<N->d i<base.tmps.size)
  (hV:∀ i v x x',i<N->V i v x->Below x.heap.size x x'->V i v x')
  (hw:∀ o,l[S]?=O o->(∃ e∈o.after,ah .any e=aJ/\e.on=A)/\∃ e∈o.after,ah .any e=aJ/\e.on=C)
  (hop:∀ i o,i<N->i≠A->i≠S->l[i]?=O o->∀ a x,Below W.heap.size W x->Jl i N A S d last V base o a x->∀ K:aS->aG->Prop,(∀ v x',V i v x'->Below x.heap.size x x'->K (a.put (O (d i)) v) x')->wpOp P l.toArray Q i K a x)
  (Tc:∀ o,l[A]?=O o->∀ a x,∀ K:aS->aG->Prop,K (a.put (O (d A)) (J (O ⟨x.heap.size,0,aD⟩))) (x.alloc (.cells zero t))->wpOp P l.toArray Q A K a x)
  (P9:∀ o,l[S]?=O o->∀ a x bb v (D:Nat->Prop),(∀ j oj,D j->l[j]?=O oj->∀ e∈oj.after,ah .any e=aJ->D e.on)->(∀ e∈o.after,ah .any e=aJ->D e.on)->Below W.heap.size W x->a.eval (ak (d A))=J (O ⟨bb,0,aD⟩)->a.eval (ak (d C))=v->V C v x->W.heap.size<=bb->cZ x bb zero t->∀ K:aS->aG->Prop,(∀ x',Below W.heap.size W x'->cZ x' bb (Dj v) t->(∀ j u,j<N->j≠A->j≠S->D j->¬ D (last j)->last j≠S->V j u x->V j u x')->K a x')->wpOp P l.toArray Q S K a x)
  (hend:∀ a x bb v,a.defers=base.defers->a.tmps.size=base.tmps.size->(∀ j,(∀ i,i<N->d i≠j)->a.tmps[j]?=base.tmps[j]?)->a.tmps[d A]?=O (J (O ⟨bb,0,aD⟩))->a.tmps[d C]?=O v->W.heap.size<=bb->cZ x bb (Dj v) t->V C v x->Below W.heap.size W x->(∃ vs:Nat->aH,∀ i,i<N->i≠S->i≠A->a.tmps[d i]?=O (vs i)/\(N<=last i->V i (vs i) x))->Q .normal a x):(Code.region id l.toArray aJ).wp P Q base W:=by
 refine kI (fun L a x=>Rn l N A S C d last V t zero Dj base W L a x) hm hf ?_ ?_ ?_
 ·exact⟨fun i o h=>absurd h (fA _ _),fun i _=>fA _ _,rfl,rfl,fun _ _=>rfl,(Z _ _).drew,⟨fun _=>.bool aJ,fun i _ _ h=>absurd h (fA _ _)⟩,fun h=>absurd h (fA _ _),fun h=>absurd h (fA _ _)⟩
 ·intro L a x i o hsz I ho hnd jC;have hi:i<l.length:=(U.1 ho).1;have GV:i<N:=by omega
  have qD:i<L.size:=by omega
  obtain⟨vs,hvs⟩:=I.val;have hon:∀ e∈o.after,ah .any e=aJ->e.on<i:=fun e he hb=>by
   have h7:=aP.1 hf i (List.mem_range.2 (by simpa using hi));have ho':(l.toArray)[i]?=O o:=by simpa using ho
   rw [ho'] at h7;have h8:=Array.all_eq_true'.1 h7 e he;rw [hb] at h8;simpa using h8
  have dd:∀ {k},k≠i->done (L.setIfInBounds i aJ) k->done L k:=fun {k} h h5=>((eT qD k).1 h5).resolve_left h;have du:∀ {k},done L k->done (L.setIfInBounds i aJ) k:=fun {k} h=>(eT qD k).2 (aI h);have cl':∀ k q,done (L.setIfInBounds i aJ) k->l[k]?=O q->∀ e∈q.after,ah .any e=aJ->done (L.setIfInBounds i aJ) e.on:=fun k q hk hq e he hb=>by
   by_cases e2:k=i
   ·subst e2;rw [hq] at ho;cases ho;exact du (jC e he hb)
   ·exact du (I.cl k q (dd e2 hk) hq e he hb)
  have no':∀ k,N<=k->¬ done (L.setIfInBounds i aJ) k:=fun k hk h=>I.no k hk (dd (by omega) h);have seen:Jl i N A S d last V base o a x:=⟨fun j u hj hu=>dD (by rw [I.kp j hj]; exact hu),fun e he hb hA' hS' hl=>by
   obtain⟨h1,h2⟩:=hvs e.on (by have:=hon e he hb; omega) hS' (jC e he hb);rw [dD h1];refine h2 hA' ?_;rcases hl with hl|hl
   ·rw [hl]; exact hnd
   ·exact I.no _ hl⟩
  have MU:i≠S->∀ v x',Below x.heap.size x x'->(i≠A->V i v x')->(i=A->∃ bb,v=J (O ⟨bb,0,aD⟩)/\W.heap.size<=bb/\cZ x' bb zero t)->Rn l N A S C d last V t zero Dj base W (L.setIfInBounds i aJ) (a.put (O (d i)) v) x':=by
   intro rX v x' hb hpv hpa;have self:(a.put (O (d i)) v).tmps[d i]?=O v:=by
    have h5:d i<a.tmps.size:=by rw [I.sz]; exact hs i GV
    simp [Act.put,h5]
   have keep:∀ k,k<N->k≠S->k≠i->(a.put (O (d i)) v).tmps[d k]?=a.tmps[d k]?:=fun k hk rY hki=>get_put _ _ _ _ (fun e=>hki (hinj _ _ hk GV rY rX e));refine⟨cl',no',I.df,by rw [size_put]; exact I.sz,fun j hj=>?_,I.mM.trans (hb.mono I.mM.size),⟨fun k=>if k=i then v else vs k,fun k hk rY hdn=>?_⟩,fun h1 h2=>?_,fun h1=>?_⟩
   ·rw [get_put _ _ _ _ (fun e=>hj i GV e.symm)];exact I.kp j hj
   ·by_cases e:k=i
    ·subst e;simp only [if_true];exact⟨self,fun h3 _=>hpv h3⟩
    ·simp only [if_neg e];obtain⟨h3,h4⟩:=hvs k hk rY (dd e hdn);exact⟨by rw [keep k hk rY e]; exact h3,fun h5 h6=>hV k _ _ _ hk (h4 h5 (fun h=>h6 (du h))) hb⟩
   ·by_cases e:A=i
    ·subst e;obtain⟨bb,rfl,h4,h5⟩:=hpa rfl;exact⟨bb,self,h4,h5⟩
    ·obtain⟨bb,h3,h4,h5⟩:=I.box (dd e h1) (fun h=>h2 (du h));exact⟨bb,by rw [keep A hA Ro e]; exact h3,h4,h5.on hb⟩
   ·have h2:=dd (Ne.symm rX) h1;obtain⟨bb,u,h5,h6,h7,h8,h9⟩:=I.fin h2;obtain⟨oS,wG⟩:∃ oS,l[S]?=O oS:=⟨_,aK (by omega)⟩;obtain⟨⟨ea,k1,k2,k3⟩,ec,k4,k5,k6⟩:=hw oS wG;have dA:=I.cl S oS h2 wG ea k1 k2;have dC:=I.cl S oS h2 wG ec k4 k5;rw [k3] at dA;rw [k6] at dC;have eA:A≠i:=fun e=>hnd (e ▸ dA);have eC:C≠i:=fun e=>hnd (e ▸ dC);exact⟨bb,u,by rw [keep A hA Ro eA]; exact h5,by rw [keep C hC hCS eC]; exact h6,h7,h8.on hb,hV C _ _ _ hC h9 hb⟩
  by_cases rX:i=S
  ·subst rX;obtain⟨⟨ea,h1,h2,h3⟩,ec,h4,h5,h6⟩:=hw o ho;have dA:=jC ea h1 h2;have dC:=jC ec h4 h5;rw [h3] at dA;rw [h6] at dC;obtain⟨v1,v2⟩:=hvs C hC hCS dC;obtain⟨bb,b1,b2,b3⟩:=I.box dA hnd;have vC:=v2 (Ne.symm Rp) (I.no _ MS);refine P9 o ho a x bb (vs C) (done L) I.cl jC I.mM (dD b1) (dD v1) vC b2 b3 _ (fun x' q1 q2 q3=>⟨cl',no',I.df,I.sz,I.kp,q1,⟨vs,fun k hk rY hdn=>?_⟩,fun _ hn=>absurd ((eT qD _).2 (aR rfl)) hn,fun _=>⟨bb,vs C,b1,v1,b2,q2,?_⟩⟩)
   ·obtain⟨w1,w2⟩:=hvs k hk rY (dd rY hdn);refine⟨w1,fun Rq hnl=>?_⟩;have n1:last k≠i:=fun e=>hnl ((eT qD _).2 (aR e));have n2:¬ done L (last k):=fun e=>hnl (du e);exact q3 k _ hk Rq rY (dd rY hdn) n2 n1 (w2 Rq n2)
   ·exact q3 C _ hC (Ne.symm Rp) hCS dC (I.no _ MS) (by omega) vC
  ·by_cases L8:i=A
   ·subst L8;refine Tc o ho a x _ (MU rX _ _ ((Z _ _).alloc (Nat.le_refl _) _) (fun h=>absurd rfl h) (fun _=>⟨x.heap.size,rfl,I.mM.size,dG x zero t⟩))
   ·refine hop i o GV L8 rX ho a x I.mM seen _ (fun v x' q1 q2=>MU rX v x' q2 (fun _=>q1) (fun e=>absurd e L8))
 ·intro L a x I hd;have dS:=hd S (by omega);obtain⟨bb,v,h1,h2,h3,h4,h5⟩:=I.fin dS;obtain⟨vs,hvs⟩:=I.val;exact hend a x bb v I.df I.sz I.kp h1 h2 h3 h4 h5 I.mM ⟨vs,fun i hi rX L8=>by
   obtain⟨k1,k2⟩:=hvs i hi rX (hd i (by omega));exact⟨k1,fun hl=>k2 L8 (I.no _ hl)⟩⟩
end Rg
end Go.Proofs.YtghlpefopidlaaaGreat
