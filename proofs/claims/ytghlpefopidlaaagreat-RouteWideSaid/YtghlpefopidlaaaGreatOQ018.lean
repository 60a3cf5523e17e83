/-
  The order of IDs: Le. Conditions as told.
-/
import Derived.Test.YtghlpefopidlaaaGreatOQ008
import Derived.Test.YtghlpefopidlaaaGreatOQ014
import Derived.Test.YtghlpefopidlaaaGreatOQ017
set_option maxRecDepth 100000
set_option maxHeartbeats 64000000
open _root_.Bool renaming false->aK,true->aP
open Go.IntKind renaming i64->aD
open Go.Lib renaming hid->aj
open Go.Operand renaming tmp->aG
open Go.Proofs.Tryz renaming ntmps130->au,func130->ay,prog->aJ
open Go.RowKit.Below renaming heap_setCell->aB,refl->aF
open Go.Value renaming slice->J,pointer->O,int->aC,string->aO
open _root_.List renaming getElem?_toArray->U,getElem?_cons_zero->V,getElem?_cons_succ->Z,getElem?_eq_some_iff->aA,mem_iff_getElem?->aH,mem_of_getElem?->aI,getElem?_map->aL,mem_map->aM,length_map->aN
open _root_.Option renaming some->ah,none->ak
namespace Go.Proofs.YtghlpefopidlaaaGreat
namespace Av
open Go.RowKit Go.Sort Rw YtghlpefopidlaaaGreat.Nm Pr Bk
theorem mD (x y:dO) (w:World):Calls aJ 31 #[pK x,pK y] w fun e w'=>e=.returned (.bool (dJ x y))/\Below w.heap.size w w':=by
 have C:=uD x y;have R:=aj (show decide (jA x y<0)=dJ x y from by
  have h:=nY x y;cases hl:dJ x y
  ·rw [hl] at h; simp at h; simpa using h
  ·rw [hl] at h; simp at h; simpa using h)
 obtain⟨a,b⟩:=x;obtain⟨c,d⟩:=y;obtain⟨h0,X,Y⟩:=iO w #[aC aD a,aC aD b] #[aC aD c,aC aD d] 23 23;obtain⟨x0,x1⟩:=X.cs2;obtain⟨y0,y1⟩:=Y.cs2;have B:=aj h0;generalize jA (a,b) (c,d)=r at *;generalize dJ (a,b) (c,d)=s at *;clear X Y h0;go_enter Tryz.func31,Tryz.ntmps31;go_wp2_with fail;have C:=C ((w.alloc (.cells #[aC aD a,aC aD b] 23)).alloc (.cells #[aC aD c,aC aD d] 23));refine C.mono ?_;rintro e w1 ⟨rfl,hb⟩;go_wp2;go_ret;exact⟨by have h:=R.out; subst h; rfl,B.out.trans (hb.mono B.out.size)⟩
theorem Ht (x y:jD) (w:World):Calls aJ 36 #[kR x,kR y] w fun e w'=>e=.returned (aC aD (jA (x.1,x.2.1) (y.1,y.2.1)))/\Below w.heap.size w w':=by
 obtain⟨a,b,⟨s1,s2,s3⟩,p⟩:=x;obtain⟨c,d,⟨t1,t2,t3⟩,q⟩:=y;have C:=uD (a,b) (c,d);obtain⟨h0,X,Y⟩:=iO w #[aC aD a,aC aD b,J s1 s2 s3,aC aD p] #[aC aD c,aC aD d,J t1 t2 t3,aC aD q] 36 36;have x1:=X.cell 1;have x0:=X.cell 0;have y1:=Y.cell 1;have y0:=Y.cell 0;simp only [U,V,Z] at x0 x1 y0 y1;have B:=aj h0;generalize jA (a,b) (c,d)=r at *;clear X Y h0;go_enter Tryz.func36,Tryz.ntmps36;go_wp2_with fail;have C:=C ((w.alloc (.cells #[aC aD a,aC aD b,J s1 s2 s3,aC aD p] 36)).alloc (.cells #[aC aD c,aC aD d,J t1 t2 t3,aC aD q] 36));refine C.mono ?_;rintro e w1 ⟨rfl,hb⟩;go_wp2;go_ret;exact⟨rfl,B.out.trans (hb.mono B.out.size)⟩
end Av
namespace Pr
open Go.RowKit Go.Sort Pu Rw Va
theorem Hu (s:ByteArray) (w:World) (hs:s.size<=maxLen) :
  Calls aJ 166 #[aO s] w fun e w'=>e=.returned (.bool (ko s))/\w=w':=by
 unfold maxLen at hs;go_enter Tryz.func166,Tryz.ntmps166;go_wp2
 go_loop [6] (fun i=>∃ k:Nat,k<=s.size/\i=aC aD k/\∀ (j:Nat) (hj:j<s.size),j<k->tC s[j]=aP) (fun i=>s.size-(intOf i).toNat)
 case atStart=>exact⟨0,Nat.zero_le _,rfl,fun j hj h=>by omega⟩
 case round =>
  obtain⟨k,hk,rfl,hall⟩:=hrel;have AL:=aj hall;clear hall;by_cases hlt:k<s.size
  ·have hcl:(s[k].toNat:Int)<256:=by have:=s[k].toNat_lt; omega
   by_cases h1:97<=s[k].toNat
   ·by_cases h2:s[k].toNat<=122
    ·have L:=aj (show tC s[k]=aP by simp [tC,h1,h2]);have d1:decide ((s[k].toNat:Int)<97)=aK:=by simp; omega
     have d2:decide ((122:Int)<(s[k].toNat:Int))=aK:=by simp; omega
     clear h1 h2;go_wp2
     go_round
     case rel=>exact⟨k+1,by omega,by go_num,fun j hj h=>by
      rcases Nat.lt_or_ge j k with h3|h3
      ·exact AL.out j hj h3
      ·obtain rfl:j=k:=by omega
       exact L.out⟩
     case measure=>simp [intOf]; omega
    ·have R:=aj (show ko s=aK from wU s k hlt (by simp [tC,h2]));have d1:decide ((s[k].toNat:Int)<97)=aK:=by simp; omega
     have d2:decide ((122:Int)<(s[k].toNat:Int))=aP:=by simp; omega
     clear h1 h2;go_wp2;go_ret;exact⟨eO R.out.symm,rfl⟩
   ·have R:=aj (show ko s=aK from wU s k hlt (by simp [tC,h1]));have d1:decide ((s[k].toNat:Int)<97)=aP:=by simp; omega
    clear h1;go_wp2;go_ret;exact⟨eO R.out.symm,rfl⟩
  ·obtain rfl:k=s.size:=by omega
   have R:=aj (Gn s (fun j hj=>AL.out j hj hj));by_cases h1:1<=s.size
   ·have R2:=aj (show ko s=decide ((s.size:Int)<=12) by rw [R.out]; simp [h1]; omega);go_wp2;go_ret;exact⟨eO R2.out.symm,rfl⟩
   ·have R2:=aj (show ko s=aK by rw [R.out]; simp [h1]);have d1:decide ((1:Int)<=(s.size:Int))=aK:=by simp; omega
    go_wp2;go_ret;exact⟨eO R2.out.symm,rfl⟩
theorem oB (w:World) (nm:ByteArray) (k lo hi:Int) (u:ByteArray):Below w.heap.size w (w.alloc (.cells #[aO nm,aC aD k,aC aD lo,aC aD hi,aO u] 91)) :=
 (aF w.heap.size w).alloc (Nat.le_refl _) _
theorem Ny (c:Cn) (w:World) (hs:c.1.size<=maxLen):Calls aJ 130 #[cv (r5 c)] w fun e w'=>e=.returned (.bool (pF c))/\Below w.heap.size w w':=by
 obtain⟨nm,k⟩:=c;have NA:=aj (Hu nm (w.alloc (.cells #[aO nm,aC aD (kN k),aC aD (lN k),aC aD (lQ k),aO (kT k)] 91)) hs);have B:=aj (oB w nm (kN k) (lN k) (lQ k) (kT k));have R:=aj (show pF (nm,k)=(ko nm && fD k) from rfl);clear hs;generalize pF (nm,k)=r at *;obtain⟨q,hq⟩:∃ q,ko nm=q:=⟨_,rfl⟩;rw [hq] at NA R;clear hq;cases k with
 | rg lo hi =>
  simp only [r5,kN,lN,lQ,kT] at *;cases q
  ·go_enter ay,au;go_wp2_with fail;refine NA.out.mono ?_;rintro e w' ⟨rfl,rfl⟩;go_wp2;go_ret;exact⟨eO (by rw [R.out]; simp),B.out⟩
  ·by_cases h1:lo<=hi <;> have H1:=aj h1
   all_goals
    go_enter ay,au;go_wp2_with fail;refine NA.out.mono ?_;rintro e w' ⟨rfl,rfl⟩;go_wp2;go_ret;exact⟨eO (by rw [R.out]; have h:=H1.out; simp [fD,h] <;> omega),B.out⟩
 | tx u =>
  simp only [r5,kN,lN,lQ,kT] at *;cases q
  ·go_enter ay,au;go_wp2_with fail;refine NA.out.mono ?_;rintro e w' ⟨rfl,rfl⟩;go_wp2;go_ret;exact⟨eO (by rw [R.out]; simp),B.out⟩
  ·go_enter ay,au;go_wp2_with fail;refine NA.out.mono ?_;rintro e w' ⟨rfl,rfl⟩;go_wp2;go_ret;exact⟨eO (by rw [R.out]; simp [fD]; omega),B.out⟩
 | pr u =>
  simp only [r5,kN,lN,lQ,kT] at *;cases q
  ·go_enter ay,au;go_wp2_with fail;refine NA.out.mono ?_;rintro e w' ⟨rfl,rfl⟩;go_wp2;go_ret;exact⟨eO (by rw [R.out]; simp),B.out⟩
  ·by_cases h1:u.size<12
   ·have e1:decide ((12:Int)<=(u.size:Int))=aK:=by simp; omega
    have e2:decide ((u.size:Int)<=12)=aP:=by simp; omega
    have H1:=aj h1;clear h1;go_enter ay,au;go_wp2_with fail;refine NA.out.mono ?_;rintro e w' ⟨rfl,rfl⟩;go_wp2;go_ret;exact⟨eO (by rw [R.out]; have h:=H1.out; simp [fD,h]),B.out⟩
   ·have e1:decide ((12:Int)<=(u.size:Int))=aP:=by simp; omega
    have H1:=aj h1;clear h1;go_enter ay,au;go_wp2_with fail;refine NA.out.mono ?_;rintro e w' ⟨rfl,rfl⟩;go_wp2;go_ret;exact⟨eO (by rw [R.out]; have h:=H1.out; simp [fD]; omega),B.out⟩
end Pr
namespace Av
open Go.RowKit Go.Sort Rw YtghlpefopidlaaaGreat.Nm Pr Bk
def iE {α:Type} (key:α->dO) (l:List α):Prop:=l.Pairwise fun a b=>dJ (key a) (key b)=aP
def dX {α:Type} (key:α->dO) (l:List α) (x:dO):Nat:=(l.takeWhile fun a=>dJ (key a) x).length
def fF {α:Type} (key:α->dO) (l:List α) (x:dO):Bool:=match l[dX key l x]? with
 | some y=>decide (key y=x)
 | none=>aK
theorem gu {α:Type} (key:α->dO) (l:List α) (x:dO):dX key l x=gF (l.map key) x:=by
 unfold dX gF;rw [List.takeWhile_map,aN]
 rfl
theorem xI {α:Type} (key:α->dO) (l:List α) (x:dO) (k:Nat) (hall:∀ (j:Nat) (y:α),j<k->l[j]?=ah y->dJ (key y) x=aP) (hend:k=l.length\/∃ y,l[k]?=ah y/\dJ (key y) x=aK):dX key l x=k:=by
 rw [gu];refine JK _ _ k (fun j y hj h=>?_) ?_
 ·rw [aL] at h;cases hy:l[j]? with
  | none=>rw [hy] at h; cases h
  | some z=>rw [hy] at h; rw [<- Option.some.inj h]; exact hall j z hj hy
 ·rcases hend with h|⟨y,h1,h2⟩
  ·exact Or.inl (by rw [aN]; exact h)
  ·exact Or.inr ⟨key y,by rw [aL,h1]; rfl,h2⟩
theorem iN {α:Type} {key:α->dO} {l:List α} (h:iE key l) {i j:Nat} {x y:α} (hij:i<j) (hx:l[i]?=ah x) (hy:l[j]?=ah y):dJ (key x) (key y)=aP:=by
 obtain⟨h1,rfl⟩:=aA.1 hx;obtain⟨h2,rfl⟩:=aA.1 hy;exact List.pairwise_iff_getElem.1 h i j h1 h2 hij
theorem xJ (x y:dO):decide (jA x y<0)=dJ x y:=by
 have h:=nY x y;cases hl:dJ x y
 ·rw [hl] at h; simp at h; simpa using h
 ·rw [hl] at h; simp at h; simpa using h
theorem rH {α:Type} {key:α->dO} {l:List α} (h:iE key l) (x:dO):fF key l x=decide (x∈l.map key):=by
 unfold fF;have hp:dX key l x<=l.length:=by rw [gu]; exact Nat.le_trans (mq _ _) (by simp)
 have hlo:∀ (j:Nat) (y:α),j<dX key l x->l[j]?=ah y->dJ (key y) x=aP:=by
  intro j y hj hy;have ht:(l.takeWhile fun a=>dJ (key a) x)[j]?=ah y:=by
   have:=List.takeWhile_prefix (fun a=>dJ (key a) x) (l:=l);obtain⟨t,ht⟩:=this;rw [<- ht,List.getElem?_append_left hj] at hy;exact hy
  exact List.all_eq_true.1 List.all_takeWhile y (aI ht)
 have hhi:∀ (y:α),l[dX key l x]?=ah y->dJ (key y) x=aK:=by
  intro y hy;unfold dX at hy;cases hq:dJ (key y) x with
  | false=>rfl
  | true =>
   exfalso;have:∀ (m:List α),m[(m.takeWhile fun a=>dJ (key a) x).length]?=ah y->False:=by
    intro m
    induction m with
    | nil=>intro h; simp at h
    | cons a m ih =>
     intro h;by_cases ha:dJ (key a) x=aP
     ·exact ih (by simpa [List.takeWhile_cons,ha] using h)
     ·simp [ha] at h;subst h;exact ha hq
   exact this l hy
 cases hy:l[dX key l x]? with
 | none =>
  symm
  rw [decide_eq_false_iff_not];intro hm;obtain⟨z,hz,hzx⟩:=aM.1 hm;obtain⟨j,hj⟩:=aH.1 hz;have hjl:=(aA.1 hj).1;have hpl:l.length<=dX key l x:=by
   rcases Nat.lt_or_ge (dX key l x) l.length with h0|h0
   ·rw [List.getElem?_eq_getElem h0] at hy; cases hy
   ·exact h0
  have:=hlo j z (by omega) hj;rw [hzx,gZ] at this;cases this
 | some y =>
  simp only;by_cases hk:key y=x
  ·rw [decide_eq_true hk]
   symm
   rw [decide_eq_true_eq];exact aM.2 ⟨y,aI hy,hk⟩
  ·rw [decide_eq_false hk]
   symm
   rw [decide_eq_false_iff_not];intro hm;obtain⟨z,hz,hzx⟩:=aM.1 hm;obtain⟨j,hj⟩:=aH.1 hz;rcases Nat.lt_trichotomy j (dX key l x) with h1|h1|h1
   ·have:=hlo j z h1 hj;rw [hzx,gZ] at this;cases this
   ·subst h1;rw [hy] at hj;rw [Option.some.inj hj] at hk;exact hk hzx
   ·have h3:=iN h h1 hy hj;have h4:=hhi y hy;rw [hzx] at h3;rw [h3] at h4;cases h4
def Nz (B:Nat) (b1:Nat) (_me:Int) (_z1 _z3:Value) (o2:Option Addr) (n2 c2:Nat) (al:List jD) (o4:Option Addr) (n4 c4:Nat) (el:List iT) (o5:Option Addr) (n5 c5:Nat) (ol:List lG) (i:Nat) (v:Value) (x:World):Prop :=
 match i with
 | 0=>v=O (ah ⟨b1,2,ak⟩)
 | 1=>v=J o2 n2 c2
 | 2=>∃ s:Sl,v=dN s/\p9 x B v al
 | 3=>v=O (ah ⟨b1,4,ak⟩)
 | 4=>v=J o4 n4 c4
 | 5=>∃ s:Sl,v=dN s/\jy x B v el
 | 6=>v=O (ah ⟨b1,5,ak⟩)
 | 7=>v=J o5 n5 c5
 | 8=>∃ s:Sl,v=dN s/\nW x B v ol
 | 9=>v=O (ah ⟨b1,2,ak⟩)
 | _=>True
noncomputable def Uz:Code:=((Tryz.f33.body.bind (eP 2)).getD .skip)
theorem ND (B:Nat) (b1:Nat) (me:Int) (z1 z3:Value) (o2:Option Addr) (n2 c2:Nat) (al:List jD) (o4:Option Addr) (n4 c4:Nat) (el:List iT) (o5:Option Addr) (n5 c5:Nat) (ol:List lG) (i:Nat) (v:Value) (x x':World) (h:Nz B b1 me z1 z3 o2 n2 c2 al o4 n4 c4 el o5 n5 c5 ol i v x) (hb:Below x.heap.size x x'):Nz B b1 me z1 z3 o2 n2 c2 al o4 n4 c4 el o5 n5 c5 ol i v x':=by
 by_cases hi:i<10
 ·rcases (by omega:i=0\/i=1\/i=2\/i=3\/i=4\/i=5\/i=6\/i=7\/i=8\/i=9) with rfl|rfl|rfl|rfl|rfl|rfl|rfl|rfl|rfl|rfl
  ·exact h
  ·exact h
  ·obtain⟨s,h1,h2⟩:=h; exact⟨s,h1,Bk.dI h2 hb⟩
  ·exact h
  ·exact h
  ·obtain⟨s,h1,h2⟩:=h; exact⟨s,h1,Bk.dI h2 hb⟩
  ·exact h
  ·exact h
  ·obtain⟨s,h1,h2⟩:=h; exact⟨s,h1,Bk.dI h2 hb⟩
  ·exact h
 ·unfold Nz
  split <;> first | omega | trivial
theorem cp2 (Q:Exit->Act->World->Prop) (W:World) (b1:Nat) (me:Int) (z1 z3:Value) (o2:Option Addr) (n2 c2:Nat) (al:List jD) (o4:Option Addr) (n4 c4:Nat) (el:List iT) (o5:Option Addr) (n5 c5:Nat) (ol:List lG) (u0 u2 u3 u4 u5 u6 u7 u8 u9 u10 u11 u12 u13 u14 u15 u16 u17 u18 u19 u20 u21 u22 u23 u24 u25 u26 u27 u28 u29 u30 u31 u32 u33 u34 u35 u36 u37 u38 u39 u40 u41 u42 u43 u44 u45 u46 u47 u48 u49 u50 u51 u52 u53 u54 u55 u56 u57 u58 u59 u60 u61 u62 u63 u64 u65 u66 u67 u68 u69 u70 u71 u72 u73 u74 u75 u76 u77 u78 u79 u80 u81:Value)
  (h1:dx W b1 #[aC aD me,z1,J o2 n2 c2,z3,J o4 n4 c4,J o5 n5 c5] 30) (r2:CZ W (J o2 n2 c2) al) (r4:nk W (J o4 n4 c4) el) (r5:C8 W (J o5 n5 c5) ol) (l2:al.length<=900) (l4:el.length<=900) (l5:ol.length<=900)
  (hQ:∀ (x:World) (v14 v15 v16 v17 v18 v19 v20 v21 v22 v23 v24 v25:Value) (p2:Option Addr) (q2 s2:Nat) (p4:Option Addr) (q4 s4:Nat) (p5:Option Addr) (q5 s5:Nat),dx x b1 #[aC aD me,z1,J p2 q2 s2,z3,J p4 q4 s4,J p5 q5 s5] 30->p9 x W.heap.size (J p2 q2 s2) al->jy x W.heap.size (J p4 q4 s4) el->nW x W.heap.size (J p5 q5 s5) ol->(∀ B,B<=b1->Below B W x)->(∀ k,k<W.heap.size->k≠b1->x.heap[k]?=W.heap[k]?)->Q .normal ⟨(u0::O (ah ⟨b1,0,ak⟩)::u2::u3::u4::u5::u6::u7::u8::u9::u10::u11::u12::u13::v14::v15::v16::v17::v18::v19::v20::v21::v22::v23::v24::v25::u26::u27::u28::u29::u30::u31::u32::u33::u34::u35::u36::u37::u38::u39::u40::u41::u42::u43::u44::u45::u46::u47::u48::u49::u50::u51::u52::u53::u54::u55::u56::u57::u58::u59::u60::u61::u62::u63::u64::u65::u66::u67::u68::u69::u70::u71::u72::u73::u74::u75::u76::u77::u78::u79::u80::u81::[]).toArray,[]⟩ x) :
  Code.wp aJ Uz Q ⟨(u0::O (ah ⟨b1,0,ak⟩)::u2::u3::u4::u5::u6::u7::u8::u9::u10::u11::u12::u13::u14::u15::u16::u17::u18::u19::u20::u21::u22::u23::u24::u25::u26::u27::u28::u29::u30::u31::u32::u33::u34::u35::u36::u37::u38::u39::u40::u41::u42::u43::u44::u45::u46::u47::u48::u49::u50::u51::u52::u53::u54::u55::u56::u57::u58::u59::u60::u61::u62::u63::u64::u65::u66::u67::u68::u69::u70::u71::u72::u73::u74::u75::u76::u77::u78::u79::u80::u81::[]).toArray,[]⟩ W:=by
 have HQ:=aj hQ;have H1:=aj h1;have R2:=aj r2;have R4:=aj r4;have R5:=aj r5;have L2:=aj l2;have L4:=aj l4;have L5:=aj l5;clear hQ h1 r2 r4 r5 l2 l4 l5;have o9:=ND W.heap.size b1 me z1 z3 o2 n2 c2 al o4 n4 c4 el o5 n5 c5 ol;unfold Uz
 conv=>arg 2; whnf
 have nd:∀ j,(j<14\/24<=j)->∀ i,i<10->(fun i=>14+i) i≠j:=by
  intro j hj i hi h;simp only at h;omega
 refine Rg.iV 15 10 (fun i=>14+i) (fun _=>10) (Nz W.heap.size b1 me z1 z3 o2 n2 c2 al o4 n4 c4 el o5 n5 c5 ol) (by kernel_rfl) (by kernel_rfl) rfl (by decide) (fun i j _ _ h=>by have h2:14+i=14+j:=h; omega) (fun i hi=>by show 14+i<82; omega) ?_ (fun _=>Rg.nu 14 (by kernel_rfl)) ?_ ?_
 ·intro i o hi ho a x D hnd hc hD hb seen K hK;clear HQ;rcases (by omega:i=0\/i=1\/i=2\/i=3\/i=4\/i=5\/i=6\/i=7\/i=8\/i=9) with rfl|rfl|rfl|rfl|rfl|rfl|rfl|rfl|rfl|rfl
  ·cases ho;have e1:a.eval (aG 1)=O (ah ⟨b1,0,ak⟩):=seen.kp 1 _ (nd 1 (by omega)) rfl;exact Rg.dw rfl rfl (Rg.eD a.eval _ 30 (aG 1) 2 rfl (by rw [e1]; simp [go_sem])) (hK _ _ rfl (aF _ _) fun _ _ _ _ _ _ _ h=>h)
  ·cases ho;have e14:a.eval (aG 14)=O (ah ⟨b1,2,ak⟩):=seen.at_ ⟨0,.data⟩ (by simp) rfl (Or.inr (by decide));have y2:=(H1.out.on hb).cell 2;simp only [U,V,Z] at y2;exact Rg.dw rfl rfl (Rg.eH a.eval _ 25 (aG 14) rfl (by rw [e14]; simp [go_sem,y2])) (hK _ _ rfl (aF _ _) fun _ _ _ _ _ _ _ h=>h)
  ·cases ho;have e15:a.eval (aG 15)=J o2 n2 c2:=seen.at_ ⟨1,.data⟩ (by simp) rfl (Or.inr (by decide));exact Rg.gG rfl rfl (Rw.iq a.eval _ (aG 15) 25 100 rfl e15 rfl _ (fG Tryz.func100 rfl rfl _ _)) (Dj (o2,n2,c2) al x (R2.out.on hb) L2.out) fun e w1 h=>by
    obtain⟨⟨s,rfl,h1⟩,h3⟩:=h;exact⟨_,rfl,hK _ _ ⟨s,rfl,dH h1 hb.size⟩ (h3.mono hb.size) fun j u hj _ _ _ hne h=>o9 j u _ _ h h3⟩
  ·cases ho;have e1:a.eval (aG 1)=O (ah ⟨b1,0,ak⟩):=seen.kp 1 _ (nd 1 (by omega)) rfl;exact Rg.dw rfl rfl (Rg.eD a.eval _ 30 (aG 1) 4 rfl (by rw [e1]; simp [go_sem])) (hK _ _ rfl (aF _ _) fun _ _ _ _ _ _ _ h=>h)
  ·cases ho;have e17:a.eval (aG 17)=O (ah ⟨b1,4,ak⟩):=seen.at_ ⟨3,.data⟩ (by simp) rfl (Or.inr (by decide));have y4:=(H1.out.on hb).cell 4;simp only [U,V,Z] at y4;exact Rg.dw rfl rfl (Rg.eH a.eval _ 27 (aG 17) rfl (by rw [e17]; simp [go_sem,y4])) (hK _ _ rfl (aF _ _) fun _ _ _ _ _ _ _ h=>h)
  ·cases ho;have e18:a.eval (aG 18)=J o4 n4 c4:=seen.at_ ⟨4,.data⟩ (by simp) rfl (Or.inr (by decide));exact Rg.gG rfl rfl (Rw.iq a.eval _ (aG 18) 27 101 rfl e18 rfl _ (fG Tryz.func101 rfl rfl _ _)) (Dk (o4,n4,c4) el x (R4.out.on hb) L4.out) fun e w1 h=>by
    obtain⟨⟨s,rfl,h1⟩,h3⟩:=h;exact⟨_,rfl,hK _ _ ⟨s,rfl,dH h1 hb.size⟩ (h3.mono hb.size) fun j u hj _ _ _ hne h=>o9 j u _ _ h h3⟩
  ·cases ho;have e1:a.eval (aG 1)=O (ah ⟨b1,0,ak⟩):=seen.kp 1 _ (nd 1 (by omega)) rfl;exact Rg.dw rfl rfl (Rg.eD a.eval _ 30 (aG 1) 5 rfl (by rw [e1]; simp [go_sem])) (hK _ _ rfl (aF _ _) fun _ _ _ _ _ _ _ h=>h)
  ·cases ho;have e20:a.eval (aG 20)=O (ah ⟨b1,5,ak⟩):=seen.at_ ⟨6,.data⟩ (by simp) rfl (Or.inr (by decide));have y5:=(H1.out.on hb).cell 5;simp only [U,V,Z] at y5;exact Rg.dw rfl rfl (Rg.eH a.eval _ 28 (aG 20) rfl (by rw [e20]; simp [go_sem,y5])) (hK _ _ rfl (aF _ _) fun _ _ _ _ _ _ _ h=>h)
  ·cases ho;have e21:a.eval (aG 21)=J o5 n5 c5:=seen.at_ ⟨7,.data⟩ (by simp) rfl (Or.inr (by decide));exact Rg.gG rfl rfl (Rw.iq a.eval _ (aG 21) 28 102 rfl e21 rfl _ (fG Tryz.func102 rfl rfl _ _)) (Dl (o5,n5,c5) ol x (R5.out.on hb) L5.out) fun e w1 h=>by
    obtain⟨⟨s,rfl,h1⟩,h3⟩:=h;exact⟨_,rfl,hK _ _ ⟨s,rfl,dH h1 hb.size⟩ (h3.mono hb.size) fun j u hj _ _ _ hne h=>o9 j u _ _ h h3⟩
  ·cases ho;have e1:a.eval (aG 1)=O (ah ⟨b1,0,ak⟩):=seen.kp 1 _ (nd 1 (by omega)) rfl;exact Rg.dw rfl rfl (Rg.eD a.eval _ 30 (aG 1) 2 rfl (by rw [e1]; simp [go_sem])) (hK _ _ rfl (aF _ _) fun _ _ _ _ _ _ _ h=>h)
 ·intro kk o h1 h2 ho;rcases (by omega:kk=11\/kk=12\/kk=13\/kk=14) with rfl|rfl|rfl|rfl
  ·cases ho;exact⟨⟨10,.phase⟩,by simp,rfl,rfl⟩
  ·cases ho;exact⟨⟨11,.data⟩,by simp,rfl,rfl⟩
  ·cases ho;exact⟨⟨12,.phase⟩,by simp,rfl,rfl⟩
  ·cases ho;exact⟨⟨13,.data⟩,by simp,rfl,rfl⟩
 ·intro a w' df sz kp ⟨vs,hv⟩ hb;have sz':a.tmps.size=82:=sz;have g1:a.tmps[1]?=ah (O (ah ⟨b1,0,ak⟩)):=(kp 1 (nd 1 (by omega))).trans rfl;have g23:a.tmps[23]?=ah (O (ah ⟨b1,2,ak⟩)):=by
   have h:vs 9=O (ah ⟨b1,2,ak⟩):=(hv 9 (by omega)).2 (by decide);rw [<- h];exact (hv 9 (by omega)).1
  obtain⟨⟨p2,q2,s2⟩,hs2,ho2⟩:=(hv 2 (by omega)).2 (by decide);have g16:a.tmps[16]?=ah (J p2 q2 s2):=((hv 2 (by omega)).1).trans (congrArg ah hs2);rw [hs2] at ho2;obtain⟨⟨p4,q4,s4⟩,hs4,Zq⟩:=(hv 5 (by omega)).2 (by decide);have g19:a.tmps[19]?=ah (J p4 q4 s4):=((hv 5 (by omega)).1).trans (congrArg ah hs4);rw [hs4] at Zq;obtain⟨⟨p5,q5,s5⟩,hs5,UA⟩:=(hv 8 (by omega)).2 (by decide);have g22:a.tmps[22]?=ah (J p5 q5 s5):=((hv 8 (by omega)).1).trans (congrArg ah hs5);rw [hs5] at UA;have hB:=H1.out.on hb;have hlt:=H1.out.lt;show Rg.iy _ _ _ 5 10 a w';simp only [Rg.iy];have Zr:=hB.cell 2;have f2x:=hB.fr 2;simp only [U,V,Z] at Zr;refine Rg.gN 25 (aG 23) (aG 16) rfl rfl rfl rfl (Rg.dL g23) (Rg.dL g16) (w':=(w').setCell ⟨b1,2,ak⟩ (J p2 q2 s2)) (by simp [go_sem,Zr,f2x]) ?_;have hB2:dx ((w').setCell ⟨b1,2,ak⟩ (J p2 q2 s2)) b1 #[aC aD me,z1,J p2 q2 s2,z3,J o4 n4 c4,J o5 n5 c5] 30:=by simpa using dY (k:=2) hB (J p2 q2 s2)
  refine Rg.dw rfl rfl (Rg.eD _ _ 30 (aG 1) 4 rfl (v:=O (ah ⟨b1,4,ak⟩)) (by rw [Rg.dL g1]; simp [go_sem])) ?_;have XQ:((a).put (ah 24) (O (ah ⟨b1,4,ak⟩))).tmps[24]?=ah (O (ah ⟨b1,4,ak⟩)):=by simp [Act.put,sz']
  show Go.wpOp _ _ _ 12 _ ((a).put (ah 24) (O (ah ⟨b1,4,ak⟩))) _;have Zt:=hB2.cell 4;have f4x:=hB2.fr 4;simp only [U,V,Z] at Zt;refine Rg.gN 27 (aG 24) (aG 19) rfl rfl rfl rfl (Rg.dL XQ) (Rg.dL ((Rg.get_put _ 24 _ 19 (by decide)).trans g19)) (w':=((w').setCell ⟨b1,2,ak⟩ (J p2 q2 s2)).setCell ⟨b1,4,ak⟩ (J p4 q4 s4)) (by simp [go_sem,Zt,f4x]) ?_;have hB4:dx (((w').setCell ⟨b1,2,ak⟩ (J p2 q2 s2)).setCell ⟨b1,4,ak⟩ (J p4 q4 s4)) b1 #[aC aD me,z1,J p2 q2 s2,z3,J p4 q4 s4,J o5 n5 c5] 30:=by simpa using dY (k:=4) hB2 (J p4 q4 s4)
  refine Rg.dw rfl rfl (Rg.eD _ _ 30 (aG 1) 5 rfl (v:=O (ah ⟨b1,5,ak⟩)) (by rw [Rg.dL ((Rg.get_put _ 24 _ 1 (by decide)).trans g1)]; simp [go_sem])) ?_;have XR:(((a).put (ah 24) (O (ah ⟨b1,4,ak⟩))).put (ah 25) (O (ah ⟨b1,5,ak⟩))).tmps[25]?=ah (O (ah ⟨b1,5,ak⟩)):=by simp [Act.put,sz']
  show Go.wpOp _ _ _ 14 _ (((a).put (ah 24) (O (ah ⟨b1,4,ak⟩))).put (ah 25) (O (ah ⟨b1,5,ak⟩))) _;have Zu:=hB4.cell 5;have f5x:=hB4.fr 5;simp only [U,V,Z] at Zu;refine Rg.gN 28 (aG 25) (aG 22) rfl rfl rfl rfl (Rg.dL XR) (Rg.dL ((Rg.get_put _ 25 _ 22 (by decide)).trans ((Rg.get_put _ 24 _ 22 (by decide)).trans g22))) (w':=(((w').setCell ⟨b1,2,ak⟩ (J p2 q2 s2)).setCell ⟨b1,4,ak⟩ (J p4 q4 s4)).setCell ⟨b1,5,ak⟩ (J p5 q5 s5)) (by simp [go_sem,Zu,f5x]) ?_;have hB5:dx ((((w').setCell ⟨b1,2,ak⟩ (J p2 q2 s2)).setCell ⟨b1,4,ak⟩ (J p4 q4 s4)).setCell ⟨b1,5,ak⟩ (J p5 q5 s5)) b1 #[aC aD me,z1,J p2 q2 s2,z3,J p4 q4 s4,J p5 q5 s5] 30:=by simpa using dY (k:=5) hB4 (J p5 q5 s5)
  have wL:∀ j,(j<14\/26<=j)->(((a).put (ah 24) (O (ah ⟨b1,4,ak⟩))).put (ah 25) (O (ah ⟨b1,5,ak⟩))).tmps[j]?=(u0::O (ah ⟨b1,0,ak⟩)::u2::u3::u4::u5::u6::u7::u8::u9::u10::u11::u12::u13::u14::u15::u16::u17::u18::u19::u20::u21::u22::u23::u24::u25::u26::u27::u28::u29::u30::u31::u32::u33::u34::u35::u36::u37::u38::u39::u40::u41::u42::u43::u44::u45::u46::u47::u48::u49::u50::u51::u52::u53::u54::u55::u56::u57::u58::u59::u60::u61::u62::u63::u64::u65::u66::u67::u68::u69::u70::u71::u72::u73::u74::u75::u76::u77::u78::u79::u80::u81::[])[j]?:=fun j hj=>(Rg.get_put _ 25 _ j (by omega)).trans ((Rg.get_put _ 24 _ j (by omega)).trans ((kp j (nd j (by omega))).trans U));obtain⟨mid,hmid,hfr⟩:=Rg.iC (a:=((a).put (ah 24) (O (ah ⟨b1,4,ak⟩))).put (ah 25) (O (ah ⟨b1,5,ak⟩))) 14 12 df (by simp [Rg.size_put,sz']) (by simp) wL;show Q .normal (((a).put (ah 24) (O (ah ⟨b1,4,ak⟩))).put (ah 25) (O (ah ⟨b1,5,ak⟩))) _;rw [hfr]
  match mid,hmid with
  | [v14,v15,v16,v17,v18,v19,v20,v21,v22,v23,v24,v25],_ =>
   exact HQ.out _ _ _ _ _ _ _ _ _ _ _ _ _ p2 q2 s2 p4 q4 s4 p5 q5 s5 hB5 (dZ (dZ (dZ ho2 b1 2 (J p2 q2 s2) hlt) b1 4 (J p4 q4 s4) hlt) b1 5 (J p5 q5 s5) hlt) (dZ (dZ (dZ Zq b1 2 (J p2 q2 s2) hlt) b1 4 (J p4 q4 s4) hlt) b1 5 (J p5 q5 s5) hlt) (dZ (dZ (dZ UA b1 2 (J p2 q2 s2) hlt) b1 4 (J p4 q4 s4) hlt) b1 5 (J p5 q5 s5) hlt) (fun B hBl=>((((hb.mono (Nat.le_of_lt (Nat.lt_of_le_of_lt hBl hlt))).setCell (p:=⟨b1,2,ak⟩) hBl (J p2 q2 s2)).setCell (p:=⟨b1,4,ak⟩) hBl (J p4 q4 s4)).setCell (p:=⟨b1,5,ak⟩) hBl (J p5 q5 s5))) (fun k hk hne=>((aB (((w').setCell ⟨b1,2,ak⟩ (J p2 q2 s2)).setCell ⟨b1,4,ak⟩ (J p4 q4 s4)) ⟨b1,5,ak⟩ (J p5 q5 s5) k hne).trans ((aB ((w').setCell ⟨b1,2,ak⟩ (J p2 q2 s2)) ⟨b1,4,ak⟩ (J p4 q4 s4) k hne).trans ((aB (w') ⟨b1,2,ak⟩ (J p2 q2 s2) k hne).trans (hb.block k hk)))))
end Av
end Go.Proofs.YtghlpefopidlaaaGreat
