/-
  RightOne and Right o. Conditions as told.
-/
import Derived.Test.YtghlpefopidlaaaGreatBQ015
import Derived.Test.YtghlpefopidlaaaGreatBQ014
import Derived.Maps.OwnSet
import Derived.DeepKeys4
import Derived.KernelRfl
set_option maxRecDepth 100000
set_option maxHeartbeats 64000000
open Go.IntKind renaming i64->aA
open Go.Lib renaming hid->au
open Go.Operand renaming tmp->U
open Go.Proofs.Tryz renaming prog->Y,underlying23->ah
open Go.RowKit.Below renaming refl->L
open Go.Value renaming pointer->J,slice->Z,int->aB,formed->aC
open _root_.List renaming getElem?_toArray->V,getElem?_cons_zero->aj,getElem?_cons_succ->ak
open _root_.Option renaming some->O,none->X
open _root_.Or renaming inr->ay
namespace Go.Proofs.YtghlpefopidlaaaGreat
namespace Avp
open Go.RowKit Go.Sort Rw YtghlpefopidlaaaGreat.Nm At Pr Wr Va
end Avp
namespace Av
open Go.RowKit Go.Sort Rw YtghlpefopidlaaaGreat.Nm Pr Bk
def GJ (B:Nat) (b1:Nat) (_me:Int) (_z1 _z2 _z3 _z4:Value) (g n cap k:Nat) (_y1 _y2:Int) (yo:Option Addr) (yn yc:Nat) (p:List C5) (i:Nat) (v:Value) (x:World):Prop :=
 match i with
 | 0=>v=J (O ⟨b1,5,X⟩)
 | 1=>v=Z (O ⟨g,0,X⟩) n cap
 | 2=>v=aB aA (k:Int)
 | 3=>v=J (O ⟨b1,5,X⟩)
 | 4=>v=Z (O ⟨g,0,X⟩) n cap
 | 5=>v=aB aA (k:Int)
 | 6=>v=J (O ⟨g,k * 3,X⟩)
 | 7=>v=J (O ⟨g,k * 3+2,X⟩)
 | 8=>v=Z yo yn yc
 | 9=>∃ s:Sl,v=dQ s/\iE x B v p
 | 10=>v=J (O ⟨g,k * 3,X⟩)
 | 11=>v=J (O ⟨g,k * 3+2,X⟩)
 | _=>True
noncomputable def Rs:Code:=((Tryz.f33.body.bind (eU 16)).getD .skip)
theorem LW (B:Nat) (b1:Nat) (me:Int) (z1 z2 z3 z4:Value) (g n cap k:Nat) (y1 y2:Int) (yo:Option Addr) (yn yc:Nat) (p:List C5) (i:Nat) (v:Value) (x x':World) (h:GJ B b1 me z1 z2 z3 z4 g n cap k y1 y2 yo yn yc p i v x) (hb:Below x.heap.size x x'):GJ B b1 me z1 z2 z3 z4 g n cap k y1 y2 yo yn yc p i v x':=by
 by_cases hi:i<12
 ·rcases (by omega:i=0\/i=1\/i=2\/i=3\/i=4\/i=5\/i=6\/i=7\/i=8\/i=9\/i=10\/i=11) with rfl|rfl|rfl|rfl|rfl|rfl|rfl|rfl|rfl|rfl|rfl|rfl
  ·exact h
  ·exact h
  ·exact h
  ·exact h
  ·exact h
  ·exact h
  ·exact h
  ·exact h
  ·exact h
  ·obtain⟨s,h1,h2⟩:=h; exact⟨s,h1,Bk.dL h2 hb⟩
  ·exact h
  ·exact h
 ·unfold GJ
  split <;> first | omega | trivial
theorem Z5 (Q:Exit->Act->World->Prop) (W:World) (B0:Nat) (l:List lZ) (b1:Nat) (me:Int) (z1 z2 z3 z4:Value) (g n cap k:Nat) (y1 y2:Int) (yo:Option Addr) (yn yc:Nat) (p:List C5) (u0 u2 u3 u4 u6 u7 u8 u9 u10 u11 u12 u13 u14 u15 u16 u17 u18 u19 u20 u21 u22 u23 u24 u25 u26 u27 u28 u29 u30 u31 u32 u33 u34 u35 u36 u37 u38 u39 u40 u41 u42 u43 u44 u45 u46 u47 u48 u49 u50 u51 u52 u53 u54 u55 u56 u57 u58 u59 u60 u61 u62 u63 u64 u65 u66 u67 u68 u69 u70 u71 u72 u73 u74 u75 u76 u77 u78 u79 u80 u81:Value)
  (h1:dG W b1 #[aB aA me,z1,z2,z3,z4,Z (O ⟨g,0,X⟩) n cap] 30) (ho:oP W B0 (Z (O ⟨g,0,X⟩) n cap) l) (hy:l[k]?=O (y1,y2,(yo,yn,yc))) (hp:fF W (Z yo yn yc) p) (lp:p.length<=900)
  (hQ:∀ (x:World) (v68 v69 v70 v71 v72 v73 v74 v75 v76 v77 v78 v79:Value) (s1:Option Addr) (s2 s3:Nat),iE x W.heap.size (Z s1 s2 s3) p->oP x B0 (Z (O ⟨g,0,X⟩) n cap) (l.set k (y1,y2,(s1,s2,s3)))->But g W x->(∀ B1,B1<=g->B1<=W.heap.size->Below B1 W x)->Q .normal ⟨(u0::J (O ⟨b1,0,X⟩)::u2::u3::u4::aB aA (k:Int)::u6::u7::u8::u9::u10::u11::u12::u13::u14::u15::u16::u17::u18::u19::u20::u21::u22::u23::u24::u25::u26::u27::u28::u29::u30::u31::u32::u33::u34::u35::u36::u37::u38::u39::u40::u41::u42::u43::u44::u45::u46::u47::u48::u49::u50::u51::u52::u53::u54::u55::u56::u57::u58::u59::u60::u61::u62::u63::u64::u65::u66::u67::v68::v69::v70::v71::v72::v73::v74::v75::v76::v77::v78::v79::u80::u81::[]).toArray,[]⟩ x) :
  Code.wp Y Rs Q ⟨(u0::J (O ⟨b1,0,X⟩)::u2::u3::u4::aB aA (k:Int)::u6::u7::u8::u9::u10::u11::u12::u13::u14::u15::u16::u17::u18::u19::u20::u21::u22::u23::u24::u25::u26::u27::u28::u29::u30::u31::u32::u33::u34::u35::u36::u37::u38::u39::u40::u41::u42::u43::u44::u45::u46::u47::u48::u49::u50::u51::u52::u53::u54::u55::u56::u57::u58::u59::u60::u61::u62::u63::u64::u65::u66::u67::u68::u69::u70::u71::u72::u73::u74::u75::u76::u77::u78::u79::u80::u81::[]).toArray,[]⟩ W:=by
 have HQ:=au hQ;have H1:=au h1;have HO:=au ho;have HY:=au hy;have HP:=au hp;have LP:=au lp;have IX:=au (mZ okW g k n cap (by obtain⟨_,_,hv⟩:=(Row.dH ho).len; have h:=(List.getElem?_eq_some_iff.1 hy).1; simp at hv; omega));have EL:=au (je okW ho hy);clear hQ h1 ho hy hp lp;have qo:=LW W.heap.size b1 me z1 z2 z3 z4 g n cap k y1 y2 yo yn yc p;unfold Rs
 conv=>arg 2; whnf
 have nd:∀ j,(j<68\/80<=j)->∀ i,i<12->(fun i=>68+i) i≠j:=by
  intro j hj i hi h;simp only at h;omega
 refine Rg.jv 13 12 (fun i=>68+i) (fun _=>12) (GJ W.heap.size b1 me z1 z2 z3 z4 g n cap k y1 y2 yo yn yc p) (by kernel_rfl) (by kernel_rfl) rfl (by decide) (fun i j _ _ h=>by have h2:68+i=68+j:=h; omega) (fun i hi=>by show 68+i<82; omega) ?_ (fun _=>Rg.nU 14 (by kernel_rfl)) ?_ ?_
 ·intro i o hi ho a x D hnd hc hD hb seen K hK;clear HQ;rcases (by omega:i=0\/i=1\/i=2\/i=3\/i=4\/i=5\/i=6\/i=7\/i=8\/i=9\/i=10\/i=11) with rfl|rfl|rfl|rfl|rfl|rfl|rfl|rfl|rfl|rfl|rfl|rfl
  ·cases ho;have e1:a.eval (U 1)=J (O ⟨b1,0,X⟩):=seen.kp 1 _ (nd 1 (by omega)) rfl;exact Rg.dF rfl rfl (Rg.eD a.eval _ 30 (U 1) 5 rfl (by rw [e1]; simp [go_sem])) (hK _ _ rfl (L _ _) fun _ _ _ _ _ _ _ h=>h)
  ·cases ho;have e68:a.eval (U 68)=J (O ⟨b1,5,X⟩):=seen.at_ ⟨0,.data⟩ (by simp) rfl (ay (by decide));have y5:=(H1.out.on hb).cell 5;simp only [V,aj,ak] at y5;exact Rg.dF rfl rfl (Rg.eH a.eval _ 28 (U 68) rfl (by rw [e68]; simp [go_sem,y5])) (hK _ _ rfl (L _ _) fun _ _ _ _ _ _ _ h=>h)
  ·cases ho;have e5:a.eval (U 5)=aB aA (k:Int):=seen.kp 5 _ (nd 5 (by omega)) rfl;exact Rg.dF rfl rfl (Rg.iZ a.eval _ (U 5) rfl x) (hK _ _ e5 (L _ _) fun _ _ _ _ _ _ _ h=>h)
  ·cases ho;have e1:a.eval (U 1)=J (O ⟨b1,0,X⟩):=seen.kp 1 _ (nd 1 (by omega)) rfl;exact Rg.dF rfl rfl (Rg.eD a.eval _ 30 (U 1) 5 rfl (by rw [e1]; simp [go_sem])) (hK _ _ rfl (L _ _) fun _ _ _ _ _ _ _ h=>h)
  ·cases ho;have e71:a.eval (U 71)=J (O ⟨b1,5,X⟩):=seen.at_ ⟨3,.data⟩ (by simp) rfl (ay (by decide));have y5:=(H1.out.on hb).cell 5;simp only [V,aj,ak] at y5;exact Rg.dF rfl rfl (Rg.eH a.eval _ 28 (U 71) rfl (by rw [e71]; simp [go_sem,y5])) (hK _ _ rfl (L _ _) fun _ _ _ _ _ _ _ h=>h)
  ·cases ho;have e5:a.eval (U 5)=aB aA (k:Int):=seen.kp 5 _ (nd 5 (by omega)) rfl;exact Rg.dF rfl rfl (Rg.iZ a.eval _ (U 5) rfl x) (hK _ _ e5 (L _ _) fun _ _ _ _ _ _ _ h=>h)
  ·cases ho;have e72:a.eval (U 72)=Z (O ⟨g,0,X⟩) n cap:=seen.at_ ⟨4,.data⟩ (by simp) rfl (ay (by decide));have e73:a.eval (U 73)=aB aA (k:Int):=seen.at_ ⟨5,.data⟩ (by simp) rfl (ay (by decide));exact Rg.dF rfl rfl (Rg.nu a.eval _ 28 (U 72) (U 73) rfl (by rw [e72,e73]; exact IX.out x)) (hK _ _ rfl (L _ _) fun _ _ _ _ _ _ _ h=>h)
  ·cases ho;have e74:a.eval (U 74)=J (O ⟨g,k * 3,X⟩):=seen.at_ ⟨6,.data⟩ (by simp) rfl (ay (by decide));exact Rg.dF rfl rfl (Rg.eD a.eval _ 88 (U 74) 1 rfl (by rw [e74]; simp [go_sem])) (hK _ _ rfl (L _ _) fun _ _ _ _ _ _ _ h=>h)
  ·cases ho;have e75:a.eval (U 75)=J (O ⟨g,k * 3+2,X⟩):=seen.at_ ⟨7,.data⟩ (by simp) rfl (ay (by decide));have y:=EL.out x hb 2 _ rfl;simp [Addr.add,EW] at y;exact Rg.dF rfl rfl (Rg.eH a.eval _ 34 (U 75) rfl (by rw [e75]; simp [go_sem,y])) (hK _ _ rfl (L _ _) fun _ _ _ _ _ _ _ h=>h)
  ·cases ho;have e76:a.eval (U 76)=Z yo yn yc:=seen.at_ ⟨8,.data⟩ (by simp) rfl (ay (by decide));exact Rg.fZ rfl rfl (Rw.iT a.eval _ (U 76) 34 44 rfl e76 rfl _ (fD Tryz.func44 rfl rfl _ _)) (jW (yo,yn,yc) p x (HP.out.on hb) LP.out) fun e w1 h=>by
    obtain⟨⟨s,rfl,h1⟩,h3⟩:=h;exact⟨_,rfl,hK _ _ ⟨s,rfl,dK h1 hb.size⟩ (h3.mono hb.size) fun j u hj _ _ _ hne h=>qo j u _ _ h h3⟩
  ·cases ho;have e69:a.eval (U 69)=Z (O ⟨g,0,X⟩) n cap:=seen.at_ ⟨1,.data⟩ (by simp) rfl (ay (by decide));have e70:a.eval (U 70)=aB aA (k:Int):=seen.at_ ⟨2,.data⟩ (by simp) rfl (ay (by decide));exact Rg.dF rfl rfl (Rg.nu a.eval _ 28 (U 69) (U 70) rfl (by rw [e69,e70]; exact IX.out x)) (hK _ _ rfl (L _ _) fun _ _ _ _ _ _ _ h=>h)
  ·cases ho;have e78:a.eval (U 78)=J (O ⟨g,k * 3,X⟩):=seen.at_ ⟨10,.data⟩ (by simp) rfl (ay (by decide));exact Rg.dF rfl rfl (Rg.eD a.eval _ 88 (U 78) 1 rfl (by rw [e78]; simp [go_sem])) (hK _ _ rfl (L _ _) fun _ _ _ _ _ _ _ h=>h)
 ·intro kk o h1 h2 ho;omega
 ·intro a w' df sz kp ⟨vs,hv⟩ hb;have sz':a.tmps.size=82:=sz;have g79:a.tmps[79]?=O (J (O ⟨g,k * 3+2,X⟩)):=by
   have h:vs 11=J (O ⟨g,k * 3+2,X⟩):=(hv 11 (by omega)).2 (by decide);rw [<- h];exact (hv 11 (by omega)).1
  obtain⟨⟨s1,s2,s3⟩,hs,hc⟩:=(hv 9 (by omega)).2 (by decide);have g77:a.tmps[77]?=O (Z s1 s2 s3):=((hv 9 (by omega)).1).trans (congrArg O hs);rw [hs] at hc;obtain⟨w2,hr,st1,st2,Wx⟩:=Uc (k:=k) s1 s2 s3 (Bk.dL HO.out hb) HY.out;obtain⟨cur,hg⟩:=iD (Bk.dL HO.out hb);show Rg.iJ _ _ _ 1 12 a w';simp only [Rg.iJ];refine Rg.gI 34 (U 79) (U 77) rfl rfl rfl rfl (Rg.dU g79) (Rg.dU g77) (w':=w2) hr ?_;have uI:∀ j,(j<68\/80<=j)->(a).tmps[j]?=(u0::J (O ⟨b1,0,X⟩)::u2::u3::u4::aB aA (k:Int)::u6::u7::u8::u9::u10::u11::u12::u13::u14::u15::u16::u17::u18::u19::u20::u21::u22::u23::u24::u25::u26::u27::u28::u29::u30::u31::u32::u33::u34::u35::u36::u37::u38::u39::u40::u41::u42::u43::u44::u45::u46::u47::u48::u49::u50::u51::u52::u53::u54::u55::u56::u57::u58::u59::u60::u61::u62::u63::u64::u65::u66::u67::u68::u69::u70::u71::u72::u73::u74::u75::u76::u77::u78::u79::u80::u81::[])[j]?:=fun j hj=>(kp j (nd j (by omega))).trans V;obtain⟨mid,hmid,hfr⟩:=Rg.iA (a:=a) 68 12 df (by simp [sz']) (by simp) uI;show Q .normal (a) _;rw [hfr]
  match mid,hmid with
  | [v68,v69,v70,v71,v72,v73,v74,v75,v76,v77,v78,v79],_ =>
   exact HQ.out _ _ _ _ _ _ _ _ _ _ _ _ _ s1 s2 s3 (st2.own hc hg (by decide)) st1 ((But.of_below hb).trans st2) fun B1 hB hl=>Wx B1 W hB (hb.mono hl)
end Av
namespace Av
open Go.RowKit Rw Bk Go.Maps Go.ChangeMaps
theorem laidOut:laidOutB Y=true:=by kernel_rfl
theorem yN:Tryz.prog.types.size=257:=by kernel_rfl
theorem law:Keyed Y 23:=Keyed.of_law (deep_law_laid laidOut (m:=3) (by omega) (by rw [yN]; decide) (by kernel_rfl) (by kernel_rfl))
def qM (l:dV):Prop:=(-9223372036854775808<=l.1/\l.1<=9223372036854775807)/\(-9223372036854775808<=l.2/\l.2<=9223372036854775807)
theorem WA {n:Int} (h:-9223372036854775808<=n/\n<=9223372036854775807):(Lit.int aA n).wf=true:=by
 show (decide (IntKind.i64.min<=n) && decide (n<=IntKind.i64.max))=true;rw [Bool.and_eq_true,decide_eq_true_eq,decide_eq_true_eq,show IntKind.i64.min=-9223372036854775808 by decide,show IntKind.i64.max=9223372036854775807 by decide];exact h
theorem LZ (l:dV) (h:qM l):∃ kl,keyOf Y 23 (oK l)=O kl:=by
 have hk:Tryz.prog.keyType 23=true:=by kernel_rfl
 have c2:Tryz.prog.cellsOf 23=2:=by kernel_rfl
 have c1:Tryz.prog.cellsOf 3=1:=by kernel_rfl
 have w1:=WA h.1;have w2:=WA h.2;have e:∀ d,Tryz.prog.keyLits (d+1+1) 23 [aB aA l.1,aB aA l.2]=O [Lit.int aA l.1,Lit.int aA l.2]:=fun d=>by
  simp [Program.keyLits,ah,Tryz.underlying3,c2,c1,List.range,List.drop,List.take,w1,w2]
 refine⟨.string (keyBytes [Lit.int aA l.1,Lit.int aA l.2]),?_⟩;have f:aC Y 23 (oK l)=true:=by simp [aC,ah,c2]
 have e2:=e (257-1);simp only [keyOf,ah,hk,f,yN,Bool.and_self,if_true];show (Tryz.prog.keyLits (257+1) 23 [aB aA l.1,aB aA l.2]).map _=_;rw [show (257+1:Nat)=(257-1)+1+1 from rfl,e2]
 rfl
noncomputable def kl (l:dV):Lit:=(keyOf Y 23 (oK l)).getD (Lit.bool false)
theorem yO (l:dV) (h:qM l):keyOf Y 23 (oK l)=O (kl l):=by
 obtain⟨x,hx⟩:=LZ l h;unfold kl;rw [hx]
 rfl
theorem vV {l m:dV} (hl:qM l) (hm:qM m) (h:kl l=kl m):l=m:=by
 have h1:=yO l hl;rw [h] at h1;have h2:=law.inj h1 (yO m hm);obtain⟨a,b⟩:=l;obtain⟨c,d⟩:=m;simpa using h2
end Av
end Go.Proofs.YtghlpefopidlaaaGreat
