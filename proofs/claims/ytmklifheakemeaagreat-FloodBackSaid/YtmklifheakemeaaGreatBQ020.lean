/-
  slices.BinarySearch . Conditions as told.
-/
import Derived.Test.YtmklifheakemeaaGreatBQ016
import Derived.Maps.OwnSet
import Derived.DeepKeys4
import Derived.KernelRfl
set_option maxRecDepth 100000
set_option maxHeartbeats 64000000
open _root_.Go renaming Value->aG,World->aH,Addr->aM
open Go.IntKind renaming i64->aD
open Go.Lib renaming hid->J
open Go.Operand renaming tmp->ak
open Go.Proofs.YtmklifheakemeaaGreat.Rg renaming dD->aB,dU->aL,dW->aN,gq->aO,og->aP,fG->aQ,dM->aR
open Go.RowKit.Below renaming refl->U
open Go.Value renaming slice->L,pointer->O,int->aC
open _root_.List renaming getElem?_toArray->V,getElem?_cons_zero->X,getElem?_cons_succ->Y,getElem?_eq_getElem->aj,take_of_length_le->au,getElem?_eq_some_iff->ay,mem_of_getElem?->aF
open _root_.Nat renaming le_refl->aI,zero_le->aK
open _root_.Option renaming some->Z,none->ah
open Option.some renaming inj->aJ
open _root_.Or renaming inr->aA,inl->aS
namespace Go.Proofs.YtmklifheakemeaaGreat
namespace Av
open Go.RowKit Go.Sort Rw YtmklifheakemeaaGreat.Nm Pr Bk
def jD (near:List Int) (f:Int):Bool:=decide (f∈near) || f == -1
def MI (B:Nat) (b1:Nat) (_me:Int) (_z1 _z2 _z3 _z5:aG) (g n cap k:Nat) (_y1 _y2 _y3 _y4:Int) (yo:Option aM) (yn yc:Nat) (_y6:Int) (_y7:Bool) (p:List C5) (i:Nat) (v:aG) (x:aH):Prop :=
 match i with
 | 0=>v=O (Z ⟨b1,4,ah⟩)
 | 1=>v=L (Z ⟨g,0,ah⟩) n cap
 | 2=>v=aC aD (k:Int)
 | 3=>v=O (Z ⟨b1,4,ah⟩)
 | 4=>v=L (Z ⟨g,0,ah⟩) n cap
 | 5=>v=aC aD (k:Int)
 | 6=>v=O (Z ⟨g,k * 7,ah⟩)
 | 7=>v=O (Z ⟨g,k * 7+4,ah⟩)
 | 8=>v=L yo yn yc
 | 9=>∃ s:Sl,v=dX s/\gP x B v p
 | 10=>v=O (Z ⟨g,k * 7,ah⟩)
 | 11=>v=O (Z ⟨g,k * 7+4,ah⟩)
 | _=>True
noncomputable def Zq:Code:=((Tryz.f91.body.bind (eT 11)).getD .skip)
theorem Tf (B:Nat) (b1:Nat) (me:Int) (z1 z2 z3 z5:aG) (g n cap k:Nat) (y1 y2 y3 y4:Int) (yo:Option aM) (yn yc:Nat) (y6:Int) (y7:Bool) (p:List C5) (i:Nat) (v:aG) (x x':aH) (h:MI B b1 me z1 z2 z3 z5 g n cap k y1 y2 y3 y4 yo yn yc y6 y7 p i v x) (hb:Below x.heap.size x x'):MI B b1 me z1 z2 z3 z5 g n cap k y1 y2 y3 y4 yo yn yc y6 y7 p i v x':=by
 by_cases hi:i<12
 ·rcases (by omega:i=0\/i=1\/i=2\/i=3\/i=4\/i=5\/i=6\/i=7\/i=8\/i=9\/i=10\/i=11) with rfl|rfl|rfl|rfl|rfl|rfl|rfl|rfl|rfl|rfl|rfl|rfl
  ·exact h
  ·exact h
  ·exact h
  ·exact h
  ·exact h
  ·exact h
  ·exact h
  ·exact h
  ·exact h
  ·obtain⟨s,h1,h2⟩:=h; exact⟨s,h1,Bk.dI h2 hb⟩
  ·exact h
  ·exact h
 ·unfold MI
  split <;> first | omega | trivial
theorem ag5 (Q:Exit->Act->aH->Prop) (W:aH) (B0:Nat) (l:List iL) (b1:Nat) (me:Int) (z1 z2 z3 z5:aG) (g n cap k:Nat) (y1 y2 y3 y4:Int) (yo:Option aM) (yn yc:Nat) (y6:Int) (y7:Bool) (p:List C5) (u0 u2 u3 u5 u6 u7 u8 u9 u10 u11 u12 u13 u14 u15 u16 u17 u18 u19 u20 u21 u22 u23 u24 u25 u26 u27 u28 u29 u30 u31 u32 u33 u34 u35 u36 u37 u38 u39 u40 u41 u42 u43 u44 u45 u46 u47 u48 u49 u50 u51 u52 u53 u54 u55 u56 u57 u58 u59 u60 u61 u62 u63 u64 u65 u66 u67 u68 u69 u70 u71 u72 u73 u74 u75 u76 u77 u78 u79 u80 u81:aG)
  (h1:dJ W b1 #[aC aD me,z1,z2,z3,L (Z ⟨g,0,ah⟩) n cap,z5] 28) (ho:kQ W B0 (L (Z ⟨g,0,ah⟩) n cap) l) (hy:l[k]?=Z (y1,y2,y3,y4,(yo,yn,yc),y6,y7)) (hp:fH W (L yo yn yc) p) (lp:p.length<=900)
  (hQ:∀ (x:aH) (v49 v50 v51 v52 v53 v54 v55 v56 v57 v58 v59 v60:aG) (s1:Option aM) (s2 s3:Nat),gP x W.heap.size (L s1 s2 s3) p->kQ x B0 (L (Z ⟨g,0,ah⟩) n cap) (l.set k (y1,y2,y3,y4,(s1,s2,s3),y6,y7))->But g W x->(∀ B1,B1<=g->B1<=W.heap.size->Below B1 W x)->Q .normal ⟨(u0::O (Z ⟨b1,0,ah⟩)::u2::u3::aC aD (k:Int)::u5::u6::u7::u8::u9::u10::u11::u12::u13::u14::u15::u16::u17::u18::u19::u20::u21::u22::u23::u24::u25::u26::u27::u28::u29::u30::u31::u32::u33::u34::u35::u36::u37::u38::u39::u40::u41::u42::u43::u44::u45::u46::u47::u48::v49::v50::v51::v52::v53::v54::v55::v56::v57::v58::v59::v60::u61::u62::u63::u64::u65::u66::u67::u68::u69::u70::u71::u72::u73::u74::u75::u76::u77::u78::u79::u80::u81::[]).toArray,[]⟩ x) :
  Code.wp Tryz.prog Zq Q ⟨(u0::O (Z ⟨b1,0,ah⟩)::u2::u3::aC aD (k:Int)::u5::u6::u7::u8::u9::u10::u11::u12::u13::u14::u15::u16::u17::u18::u19::u20::u21::u22::u23::u24::u25::u26::u27::u28::u29::u30::u31::u32::u33::u34::u35::u36::u37::u38::u39::u40::u41::u42::u43::u44::u45::u46::u47::u48::u49::u50::u51::u52::u53::u54::u55::u56::u57::u58::u59::u60::u61::u62::u63::u64::u65::u66::u67::u68::u69::u70::u71::u72::u73::u74::u75::u76::u77::u78::u79::u80::u81::[]).toArray,[]⟩ W:=by
 have HQ:=J hQ;have H1:=J h1;have HO:=J ho;have HY:=J hy;have HP:=J hp;have LP:=J lp;have IX:=J (kY nN g k n cap (by obtain⟨_,_,hv⟩:=(Row.dH ho).len; have h:=(ay.1 hy).1; simp at hv; omega));have EL:=J (jC nN ho hy);clear hQ h1 ho hy hp lp;have iT:=Tf W.heap.size b1 me z1 z2 z3 z5 g n cap k y1 y2 y3 y4 yo yn yc y6 y7 p;unfold Zq
 conv=>arg 2; whnf
 have nd:∀ j,(j<49\/61<=j)->∀ i,i<12->(fun i=>49+i) i≠j:=by
  intro j hj i hi h;simp only at h;omega
 refine Rg.fT 13 12 (fun i=>49+i) (fun _=>12) (MI W.heap.size b1 me z1 z2 z3 z5 g n cap k y1 y2 y3 y4 yo yn yc y6 y7 p) (by kernel_rfl) (by kernel_rfl) rfl (by decide) (fun i j _ _ h=>by have h2:49+i=49+j:=h; omega) (fun i hi=>by show 49+i<82; omega) ?_ (fun _=>Rg.jk 14 (by kernel_rfl)) ?_ ?_
 ·intro i o hi ho a x D hnd hc hD hb seen K hK;clear HQ;rcases (by omega:i=0\/i=1\/i=2\/i=3\/i=4\/i=5\/i=6\/i=7\/i=8\/i=9\/i=10\/i=11) with rfl|rfl|rfl|rfl|rfl|rfl|rfl|rfl|rfl|rfl|rfl|rfl
  ·cases ho;have e1:a.eval (ak 1)=O (Z ⟨b1,0,ah⟩):=seen.kp 1 _ (nd 1 (by omega)) rfl;exact aB rfl rfl (aL a.eval _ 28 (ak 1) 4 rfl (by rw [e1]; simp [go_sem])) (hK _ _ rfl (U _ _) fun _ _ _ _ _ _ _ h=>h)
  ·cases ho;have e49:a.eval (ak 49)=O (Z ⟨b1,4,ah⟩):=seen.at_ ⟨0,.data⟩ (by simp) rfl (aA (by decide));have y4:=(H1.out.on hb).cell 4;simp only [V,X,Y] at y4;exact aB rfl rfl (aN a.eval _ 25 (ak 49) rfl (by rw [e49]; simp [go_sem,y4])) (hK _ _ rfl (U _ _) fun _ _ _ _ _ _ _ h=>h)
  ·cases ho;have e4:a.eval (ak 4)=aC aD (k:Int):=seen.kp 4 _ (nd 4 (by omega)) rfl;exact aB rfl rfl (aO a.eval _ (ak 4) rfl x) (hK _ _ e4 (U _ _) fun _ _ _ _ _ _ _ h=>h)
  ·cases ho;have e1:a.eval (ak 1)=O (Z ⟨b1,0,ah⟩):=seen.kp 1 _ (nd 1 (by omega)) rfl;exact aB rfl rfl (aL a.eval _ 28 (ak 1) 4 rfl (by rw [e1]; simp [go_sem])) (hK _ _ rfl (U _ _) fun _ _ _ _ _ _ _ h=>h)
  ·cases ho;have e52:a.eval (ak 52)=O (Z ⟨b1,4,ah⟩):=seen.at_ ⟨3,.data⟩ (by simp) rfl (aA (by decide));have y4:=(H1.out.on hb).cell 4;simp only [V,X,Y] at y4;exact aB rfl rfl (aN a.eval _ 25 (ak 52) rfl (by rw [e52]; simp [go_sem,y4])) (hK _ _ rfl (U _ _) fun _ _ _ _ _ _ _ h=>h)
  ·cases ho;have e4:a.eval (ak 4)=aC aD (k:Int):=seen.kp 4 _ (nd 4 (by omega)) rfl;exact aB rfl rfl (aO a.eval _ (ak 4) rfl x) (hK _ _ e4 (U _ _) fun _ _ _ _ _ _ _ h=>h)
  ·cases ho;have e53:a.eval (ak 53)=L (Z ⟨g,0,ah⟩) n cap:=seen.at_ ⟨4,.data⟩ (by simp) rfl (aA (by decide));have e54:a.eval (ak 54)=aC aD (k:Int):=seen.at_ ⟨5,.data⟩ (by simp) rfl (aA (by decide));exact aB rfl rfl (aP a.eval _ 25 (ak 53) (ak 54) rfl (by rw [e53,e54]; exact IX.out x)) (hK _ _ rfl (U _ _) fun _ _ _ _ _ _ _ h=>h)
  ·cases ho;have e55:a.eval (ak 55)=O (Z ⟨g,k * 7,ah⟩):=seen.at_ ⟨6,.data⟩ (by simp) rfl (aA (by decide));exact aB rfl rfl (aL a.eval _ 66 (ak 55) 2 rfl (by rw [e55]; simp [go_sem])) (hK _ _ rfl (U _ _) fun _ _ _ _ _ _ _ h=>h)
  ·cases ho;have e56:a.eval (ak 56)=O (Z ⟨g,k * 7+4,ah⟩):=seen.at_ ⟨7,.data⟩ (by simp) rfl (aA (by decide));have y:=EL.out x hb 4 _ rfl;simp [Addr.add,EN] at y;exact aB rfl rfl (aN a.eval _ 32 (ak 56) rfl (by rw [e56]; simp [go_sem,y])) (hK _ _ rfl (U _ _) fun _ _ _ _ _ _ _ h=>h)
  ·cases ho;have e57:a.eval (ak 57)=L yo yn yc:=seen.at_ ⟨8,.data⟩ (by simp) rfl (aA (by decide));exact Rg.gT rfl rfl (Rw.iD a.eval _ (ak 57) 32 123 rfl e57 rfl _ (gD Tryz.func123 rfl rfl _ _)) (mI (yo,yn,yc) p x (HP.out.on hb) LP.out) fun e w1 h=>by
    obtain⟨⟨s,rfl,h1⟩,h3⟩:=h;exact⟨_,rfl,hK _ _ ⟨s,rfl,dN h1 hb.size⟩ (h3.mono hb.size) fun j u hj _ _ _ hne h=>iT j u _ _ h h3⟩
  ·cases ho;have e50:a.eval (ak 50)=L (Z ⟨g,0,ah⟩) n cap:=seen.at_ ⟨1,.data⟩ (by simp) rfl (aA (by decide));have e51:a.eval (ak 51)=aC aD (k:Int):=seen.at_ ⟨2,.data⟩ (by simp) rfl (aA (by decide));exact aB rfl rfl (aP a.eval _ 25 (ak 50) (ak 51) rfl (by rw [e50,e51]; exact IX.out x)) (hK _ _ rfl (U _ _) fun _ _ _ _ _ _ _ h=>h)
  ·cases ho;have e59:a.eval (ak 59)=O (Z ⟨g,k * 7,ah⟩):=seen.at_ ⟨10,.data⟩ (by simp) rfl (aA (by decide));exact aB rfl rfl (aL a.eval _ 66 (ak 59) 2 rfl (by rw [e59]; simp [go_sem])) (hK _ _ rfl (U _ _) fun _ _ _ _ _ _ _ h=>h)
 ·intro kk o h1 h2 ho;omega
 ·intro a w' df sz kp ⟨vs,hv⟩ hb;have sz':a.tmps.size=82:=sz;have g60:a.tmps[60]?=Z (O (Z ⟨g,k * 7+4,ah⟩)):=by
   have h:vs 11=O (Z ⟨g,k * 7+4,ah⟩):=(hv 11 (by omega)).2 (by decide);rw [<- h];exact (hv 11 (by omega)).1
  obtain⟨⟨s1,s2,s3⟩,hs,hc⟩:=(hv 9 (by omega)).2 (by decide);have g58:a.tmps[58]?=Z (L s1 s2 s3):=((hv 9 (by omega)).1).trans (congrArg Z hs);rw [hs] at hc;obtain⟨w2,hr,st1,st2,st3⟩:=abX (k:=k) s1 s2 s3 (Bk.dI HO.out hb) HY.out;obtain⟨cur,hg⟩:=jL (Bk.dI HO.out hb);show aQ _ _ _ 1 12 a w';simp only [aQ];refine Rg.fQ 32 (ak 60) (ak 58) rfl rfl rfl rfl (aR g60) (aR g58) (w':=w2) hr ?_;have rA:∀ j,(j<49\/61<=j)->(a).tmps[j]?=(u0::O (Z ⟨b1,0,ah⟩)::u2::u3::aC aD (k:Int)::u5::u6::u7::u8::u9::u10::u11::u12::u13::u14::u15::u16::u17::u18::u19::u20::u21::u22::u23::u24::u25::u26::u27::u28::u29::u30::u31::u32::u33::u34::u35::u36::u37::u38::u39::u40::u41::u42::u43::u44::u45::u46::u47::u48::u49::u50::u51::u52::u53::u54::u55::u56::u57::u58::u59::u60::u61::u62::u63::u64::u65::u66::u67::u68::u69::u70::u71::u72::u73::u74::u75::u76::u77::u78::u79::u80::u81::[])[j]?:=fun j hj=>(kp j (nd j (by omega))).trans V;obtain⟨mid,hmid,hfr⟩:=Rg.gG (a:=a) 49 12 df (by simp [sz']) (by simp) rA;show Q .normal (a) _;rw [hfr]
  match mid,hmid with
  | [v49,v50,v51,v52,v53,v54,v55,v56,v57,v58,v59,v60],_ =>
   exact HQ.out _ _ _ _ _ _ _ _ _ _ _ _ _ s1 s2 s3 (st2.own hc hg (by decide)) st1 ((But.of_below hb).trans st2) fun B1 hB hl=>st3 B1 W hB (hb.mono hl)
def MJ (B:Nat) (b1:Nat) (_me:Int) (_z1 _z2 _z3 _z4:aG) (g n cap k:Nat) (_y1 _y2:Int) (yo:Option aM) (yn yc:Nat) (p:List C5) (i:Nat) (v:aG) (x:aH):Prop :=
 match i with
 | 0=>v=O (Z ⟨b1,5,ah⟩)
 | 1=>v=L (Z ⟨g,0,ah⟩) n cap
 | 2=>v=aC aD (k:Int)
 | 3=>v=O (Z ⟨b1,5,ah⟩)
 | 4=>v=L (Z ⟨g,0,ah⟩) n cap
 | 5=>v=aC aD (k:Int)
 | 6=>v=O (Z ⟨g,k * 3,ah⟩)
 | 7=>v=O (Z ⟨g,k * 3+2,ah⟩)
 | 8=>v=L yo yn yc
 | 9=>∃ s:Sl,v=dX s/\gP x B v p
 | 10=>v=O (Z ⟨g,k * 3,ah⟩)
 | 11=>v=O (Z ⟨g,k * 3+2,ah⟩)
 | _=>True
noncomputable def Zr:Code:=((Tryz.f91.body.bind (eT 16)).getD .skip)
theorem Tg (B:Nat) (b1:Nat) (me:Int) (z1 z2 z3 z4:aG) (g n cap k:Nat) (y1 y2:Int) (yo:Option aM) (yn yc:Nat) (p:List C5) (i:Nat) (v:aG) (x x':aH) (h:MJ B b1 me z1 z2 z3 z4 g n cap k y1 y2 yo yn yc p i v x) (hb:Below x.heap.size x x'):MJ B b1 me z1 z2 z3 z4 g n cap k y1 y2 yo yn yc p i v x':=by
 by_cases hi:i<12
 ·rcases (by omega:i=0\/i=1\/i=2\/i=3\/i=4\/i=5\/i=6\/i=7\/i=8\/i=9\/i=10\/i=11) with rfl|rfl|rfl|rfl|rfl|rfl|rfl|rfl|rfl|rfl|rfl|rfl
  ·exact h
  ·exact h
  ·exact h
  ·exact h
  ·exact h
  ·exact h
  ·exact h
  ·exact h
  ·exact h
  ·obtain⟨s,h1,h2⟩:=h; exact⟨s,h1,Bk.dI h2 hb⟩
  ·exact h
  ·exact h
 ·unfold MJ
  split <;> first | omega | trivial
theorem ag6 (Q:Exit->Act->aH->Prop) (W:aH) (B0:Nat) (l:List rz) (b1:Nat) (me:Int) (z1 z2 z3 z4:aG) (g n cap k:Nat) (y1 y2:Int) (yo:Option aM) (yn yc:Nat) (p:List C5) (u0 u2 u3 u4 u6 u7 u8 u9 u10 u11 u12 u13 u14 u15 u16 u17 u18 u19 u20 u21 u22 u23 u24 u25 u26 u27 u28 u29 u30 u31 u32 u33 u34 u35 u36 u37 u38 u39 u40 u41 u42 u43 u44 u45 u46 u47 u48 u49 u50 u51 u52 u53 u54 u55 u56 u57 u58 u59 u60 u61 u62 u63 u64 u65 u66 u67 u68 u69 u70 u71 u72 u73 u74 u75 u76 u77 u78 u79 u80 u81:aG)
  (h1:dJ W b1 #[aC aD me,z1,z2,z3,z4,L (Z ⟨g,0,ah⟩) n cap] 28) (ho:qC W B0 (L (Z ⟨g,0,ah⟩) n cap) l) (hy:l[k]?=Z (y1,y2,(yo,yn,yc))) (hp:fH W (L yo yn yc) p) (lp:p.length<=900)
  (hQ:∀ (x:aH) (v68 v69 v70 v71 v72 v73 v74 v75 v76 v77 v78 v79:aG) (s1:Option aM) (s2 s3:Nat),gP x W.heap.size (L s1 s2 s3) p->qC x B0 (L (Z ⟨g,0,ah⟩) n cap) (l.set k (y1,y2,(s1,s2,s3)))->But g W x->(∀ B1,B1<=g->B1<=W.heap.size->Below B1 W x)->Q .normal ⟨(u0::O (Z ⟨b1,0,ah⟩)::u2::u3::u4::aC aD (k:Int)::u6::u7::u8::u9::u10::u11::u12::u13::u14::u15::u16::u17::u18::u19::u20::u21::u22::u23::u24::u25::u26::u27::u28::u29::u30::u31::u32::u33::u34::u35::u36::u37::u38::u39::u40::u41::u42::u43::u44::u45::u46::u47::u48::u49::u50::u51::u52::u53::u54::u55::u56::u57::u58::u59::u60::u61::u62::u63::u64::u65::u66::u67::v68::v69::v70::v71::v72::v73::v74::v75::v76::v77::v78::v79::u80::u81::[]).toArray,[]⟩ x) :
  Code.wp Tryz.prog Zr Q ⟨(u0::O (Z ⟨b1,0,ah⟩)::u2::u3::u4::aC aD (k:Int)::u6::u7::u8::u9::u10::u11::u12::u13::u14::u15::u16::u17::u18::u19::u20::u21::u22::u23::u24::u25::u26::u27::u28::u29::u30::u31::u32::u33::u34::u35::u36::u37::u38::u39::u40::u41::u42::u43::u44::u45::u46::u47::u48::u49::u50::u51::u52::u53::u54::u55::u56::u57::u58::u59::u60::u61::u62::u63::u64::u65::u66::u67::u68::u69::u70::u71::u72::u73::u74::u75::u76::u77::u78::u79::u80::u81::[]).toArray,[]⟩ W:=by
 have HQ:=J hQ;have H1:=J h1;have HO:=J ho;have HY:=J hy;have HP:=J hp;have LP:=J lp;have IX:=J (kY okW g k n cap (by obtain⟨_,_,hv⟩:=(Row.dH ho).len; have h:=(ay.1 hy).1; simp at hv; omega));have EL:=J (jC okW ho hy);clear hQ h1 ho hy hp lp;have iT:=Tg W.heap.size b1 me z1 z2 z3 z4 g n cap k y1 y2 yo yn yc p;unfold Zr
 conv=>arg 2; whnf
 have nd:∀ j,(j<68\/80<=j)->∀ i,i<12->(fun i=>68+i) i≠j:=by
  intro j hj i hi h;simp only at h;omega
 refine Rg.fT 13 12 (fun i=>68+i) (fun _=>12) (MJ W.heap.size b1 me z1 z2 z3 z4 g n cap k y1 y2 yo yn yc p) (by kernel_rfl) (by kernel_rfl) rfl (by decide) (fun i j _ _ h=>by have h2:68+i=68+j:=h; omega) (fun i hi=>by show 68+i<82; omega) ?_ (fun _=>Rg.jk 14 (by kernel_rfl)) ?_ ?_
 ·intro i o hi ho a x D hnd hc hD hb seen K hK;clear HQ;rcases (by omega:i=0\/i=1\/i=2\/i=3\/i=4\/i=5\/i=6\/i=7\/i=8\/i=9\/i=10\/i=11) with rfl|rfl|rfl|rfl|rfl|rfl|rfl|rfl|rfl|rfl|rfl|rfl
  ·cases ho;have e1:a.eval (ak 1)=O (Z ⟨b1,0,ah⟩):=seen.kp 1 _ (nd 1 (by omega)) rfl;exact aB rfl rfl (aL a.eval _ 28 (ak 1) 5 rfl (by rw [e1]; simp [go_sem])) (hK _ _ rfl (U _ _) fun _ _ _ _ _ _ _ h=>h)
  ·cases ho;have e68:a.eval (ak 68)=O (Z ⟨b1,5,ah⟩):=seen.at_ ⟨0,.data⟩ (by simp) rfl (aA (by decide));have y5:=(H1.out.on hb).cell 5;simp only [V,X,Y] at y5;exact aB rfl rfl (aN a.eval _ 26 (ak 68) rfl (by rw [e68]; simp [go_sem,y5])) (hK _ _ rfl (U _ _) fun _ _ _ _ _ _ _ h=>h)
  ·cases ho;have e5:a.eval (ak 5)=aC aD (k:Int):=seen.kp 5 _ (nd 5 (by omega)) rfl;exact aB rfl rfl (aO a.eval _ (ak 5) rfl x) (hK _ _ e5 (U _ _) fun _ _ _ _ _ _ _ h=>h)
  ·cases ho;have e1:a.eval (ak 1)=O (Z ⟨b1,0,ah⟩):=seen.kp 1 _ (nd 1 (by omega)) rfl;exact aB rfl rfl (aL a.eval _ 28 (ak 1) 5 rfl (by rw [e1]; simp [go_sem])) (hK _ _ rfl (U _ _) fun _ _ _ _ _ _ _ h=>h)
  ·cases ho;have e71:a.eval (ak 71)=O (Z ⟨b1,5,ah⟩):=seen.at_ ⟨3,.data⟩ (by simp) rfl (aA (by decide));have y5:=(H1.out.on hb).cell 5;simp only [V,X,Y] at y5;exact aB rfl rfl (aN a.eval _ 26 (ak 71) rfl (by rw [e71]; simp [go_sem,y5])) (hK _ _ rfl (U _ _) fun _ _ _ _ _ _ _ h=>h)
  ·cases ho;have e5:a.eval (ak 5)=aC aD (k:Int):=seen.kp 5 _ (nd 5 (by omega)) rfl;exact aB rfl rfl (aO a.eval _ (ak 5) rfl x) (hK _ _ e5 (U _ _) fun _ _ _ _ _ _ _ h=>h)
  ·cases ho;have e72:a.eval (ak 72)=L (Z ⟨g,0,ah⟩) n cap:=seen.at_ ⟨4,.data⟩ (by simp) rfl (aA (by decide));have e73:a.eval (ak 73)=aC aD (k:Int):=seen.at_ ⟨5,.data⟩ (by simp) rfl (aA (by decide));exact aB rfl rfl (aP a.eval _ 26 (ak 72) (ak 73) rfl (by rw [e72,e73]; exact IX.out x)) (hK _ _ rfl (U _ _) fun _ _ _ _ _ _ _ h=>h)
  ·cases ho;have e74:a.eval (ak 74)=O (Z ⟨g,k * 3,ah⟩):=seen.at_ ⟨6,.data⟩ (by simp) rfl (aA (by decide));exact aB rfl rfl (aL a.eval _ 34 (ak 74) 1 rfl (by rw [e74]; simp [go_sem])) (hK _ _ rfl (U _ _) fun _ _ _ _ _ _ _ h=>h)
  ·cases ho;have e75:a.eval (ak 75)=O (Z ⟨g,k * 3+2,ah⟩):=seen.at_ ⟨7,.data⟩ (by simp) rfl (aA (by decide));have y:=EL.out x hb 2 _ rfl;simp [Addr.add,EW] at y;exact aB rfl rfl (aN a.eval _ 32 (ak 75) rfl (by rw [e75]; simp [go_sem,y])) (hK _ _ rfl (U _ _) fun _ _ _ _ _ _ _ h=>h)
  ·cases ho;have e76:a.eval (ak 76)=L yo yn yc:=seen.at_ ⟨8,.data⟩ (by simp) rfl (aA (by decide));exact Rg.gT rfl rfl (Rw.iD a.eval _ (ak 76) 32 123 rfl e76 rfl _ (gD Tryz.func123 rfl rfl _ _)) (mI (yo,yn,yc) p x (HP.out.on hb) LP.out) fun e w1 h=>by
    obtain⟨⟨s,rfl,h1⟩,h3⟩:=h;exact⟨_,rfl,hK _ _ ⟨s,rfl,dN h1 hb.size⟩ (h3.mono hb.size) fun j u hj _ _ _ hne h=>iT j u _ _ h h3⟩
  ·cases ho;have e69:a.eval (ak 69)=L (Z ⟨g,0,ah⟩) n cap:=seen.at_ ⟨1,.data⟩ (by simp) rfl (aA (by decide));have e70:a.eval (ak 70)=aC aD (k:Int):=seen.at_ ⟨2,.data⟩ (by simp) rfl (aA (by decide));exact aB rfl rfl (aP a.eval _ 26 (ak 69) (ak 70) rfl (by rw [e69,e70]; exact IX.out x)) (hK _ _ rfl (U _ _) fun _ _ _ _ _ _ _ h=>h)
  ·cases ho;have e78:a.eval (ak 78)=O (Z ⟨g,k * 3,ah⟩):=seen.at_ ⟨10,.data⟩ (by simp) rfl (aA (by decide));exact aB rfl rfl (aL a.eval _ 34 (ak 78) 1 rfl (by rw [e78]; simp [go_sem])) (hK _ _ rfl (U _ _) fun _ _ _ _ _ _ _ h=>h)
 ·intro kk o h1 h2 ho;omega
 ·intro a w' df sz kp ⟨vs,hv⟩ hb;have sz':a.tmps.size=82:=sz;have g79:a.tmps[79]?=Z (O (Z ⟨g,k * 3+2,ah⟩)):=by
   have h:vs 11=O (Z ⟨g,k * 3+2,ah⟩):=(hv 11 (by omega)).2 (by decide);rw [<- h];exact (hv 11 (by omega)).1
  obtain⟨⟨s1,s2,s3⟩,hs,hc⟩:=(hv 9 (by omega)).2 (by decide);have g77:a.tmps[77]?=Z (L s1 s2 s3):=((hv 9 (by omega)).1).trans (congrArg Z hs);rw [hs] at hc;obtain⟨w2,hr,st1,st2,st3⟩:=abY (k:=k) s1 s2 s3 (Bk.dI HO.out hb) HY.out;obtain⟨cur,hg⟩:=jL (Bk.dI HO.out hb);show aQ _ _ _ 1 12 a w';simp only [aQ];refine Rg.fQ 32 (ak 79) (ak 77) rfl rfl rfl rfl (aR g79) (aR g77) (w':=w2) hr ?_;have rA:∀ j,(j<68\/80<=j)->(a).tmps[j]?=(u0::O (Z ⟨b1,0,ah⟩)::u2::u3::u4::aC aD (k:Int)::u6::u7::u8::u9::u10::u11::u12::u13::u14::u15::u16::u17::u18::u19::u20::u21::u22::u23::u24::u25::u26::u27::u28::u29::u30::u31::u32::u33::u34::u35::u36::u37::u38::u39::u40::u41::u42::u43::u44::u45::u46::u47::u48::u49::u50::u51::u52::u53::u54::u55::u56::u57::u58::u59::u60::u61::u62::u63::u64::u65::u66::u67::u68::u69::u70::u71::u72::u73::u74::u75::u76::u77::u78::u79::u80::u81::[])[j]?:=fun j hj=>(kp j (nd j (by omega))).trans V;obtain⟨mid,hmid,hfr⟩:=Rg.gG (a:=a) 68 12 df (by simp [sz']) (by simp) rA;show Q .normal (a) _;rw [hfr]
  match mid,hmid with
  | [v68,v69,v70,v71,v72,v73,v74,v75,v76,v77,v78,v79],_ =>
   exact HQ.out _ _ _ _ _ _ _ _ _ _ _ _ _ s1 s2 s3 (st2.own hc hg (by decide)) st1 ((But.of_below hb).trans st2) fun B1 hB hl=>st3 B1 W hB (hb.mono hl)
structure yP (b:Br):Prop where
 dQ:∀ a∈b.dQ,a.p.length<=900
 ent:∀ a∈b.ent,a.p.length<=900
 own:∀ a∈b.own,a.p.length<=900
theorem gV {α:Type} {E:Ek α} {W:aH} {B n cap:Nat} {o:Option aM} {l:List α} (h:Own E W B (L o n cap) l):l.length=n:=by
 obtain⟨_,_,hv⟩:=(Row.dH h).len;have:n=l.length:=by simpa using congrArg (fun v=>match v with | Value.slice _ n _=>n | _=>0) hv
 exact this.symm
theorem sJ {α:Type} {E:Ek α} {W:aH} {B n cap:Nat} {o:Option aM} {l:List α} (h:Own E W B (L o n cap) l) (hn:0<n):∃ g,o=Z ⟨g,0,ah⟩/\B<=g:=by
 have hl:=gV h;rcases gK h with⟨_,h2⟩|⟨g,c',cur,h1,h2,_⟩
 ·rw [h2] at hl; simp at hl; omega
 ·exact⟨g,by simp at h1; exact h1.1,h2⟩
theorem eX (w:aH) (b:Nat) (a0 a1 a2 a3 a4 a5:aG):But b w (gF w b a0 a1 a2 a3 a4 a5) :=
 (((dP _ b _ _).trans (dP _ b _ _)).trans ((dP _ b _ _).trans (dP _ b _ _))).trans ((dP _ b _ _).trans (dP _ b _ _))
theorem Cs.done {w0 w wr:aH} {b:Br} {nv sv:Sl} {p2 p4 p5:Option aM} {q2 s2 q4 s4 q5 s5:Nat} (h:Cs w0 w wr b q2 q4 q5 nv (p2,q2,s2) sv (p4,q4,s4) (p5,q5,s5)) (a0 a1 a2 a3 a4 a5:aG):Cp (vw w0) w.heap.size (gF wr (w.heap.size+1) a0 a1 a2 a3 a4 a5) b nv (p2,q2,s2) sv (p4,q4,s4) (p5,q5,s5)/\Below w.heap.size w (gF wr (w.heap.size+1) a0 a1 a2 a3 a4 a5):=by
 obtain⟨l1,d1,d2,d3⟩:=h.dQ;obtain⟨l2,e1,e2,e3⟩:=h.ent;obtain⟨l3,f1,f2,f3⟩:=h.own;have n1:l1.length=q2:=gV d1;have n2:l2.length=q4:=gV e1;have n3:l3.length=q5:=gV f1;rw [au (by omega),au (by have:=d2.len; omega)] at d3;rw [au (by omega),au (by have:=e2.len; omega)] at e3;rw [au (by omega),au (by have:=f2.len; omega)] at f3;exact⟨Cp.but ⟨h.near,h.seen,⟨l1,d1,d3⟩,⟨l2,e1,e3⟩,⟨l3,f1,f3⟩⟩ (eX wr (w.heap.size+1) a0 a1 a2 a3 a4 a5) h.bz,dG h.uI (by omega) a0 a1 a2 a3 a4 a5⟩
theorem tV (b:Br) (nv av sv ev ov:Sl) (w0 w:aH) (hw0:Below w0.heap.size w0 w) (h:iZ w0 b nv av sv ev ov) (hf:PW b) (hp:yP b) :
  Calls Tryz.prog 91 #[oK b.me nv av sv ev ov] w fun e w'=>(∃ nv' Cb Kk ev' Zt:Sl,e=.returned (oK b.me nv' Cb Kk ev' Zt)/\Cp (vw w0) w.heap.size w' b nv' Cb Kk ev' Zt)/\Below w.heap.size w w':=by
 obtain⟨no,nn,nc⟩:=nv;obtain⟨ao,an,ac⟩:=av;obtain⟨so,sn,sc⟩:=sv;obtain⟨eo,en,ec⟩:=ev;obtain⟨oo,dY,oc⟩:=ov;obtain⟨la,ha1,ha2⟩:=h.dQ;obtain⟨le,he1,he2⟩:=h.ent;obtain⟨Kq,ho1,ho2⟩:=h.own;have HA:=J ha2;have HE:=J he2;have HO:=J ho2;have R0:=J (h.near.on hw0);have R1:=J (ha1.on hw0);have R2:=J (h.seen.on hw0);have R3:=J (he1.on hw0);have R4:=J (ho1.on hw0);have W0:=J hw0;have HP:=J hp;have LL0:=J hf.near;have LL1:=J (show la.length<=900 by rw [ha2.len]; exact hf.dQ);have LL2:=J hf.seen;have LL3:=J (show le.length<=900 by rw [he2.len]; exact hf.ent);have LL4:=J (show Kq.length<=900 by rw [ho2.len]; exact hf.own);obtain⟨h0,h1,h2⟩:=gY w #[aC aD b.me,L no nn nc,L ao an ac,L so sn sc,L eo en ec,L oo dY oc] #[aC aD 0,L ah 0 0,L ah 0 0,L ah 0 0,L ah 0 0,L ah 0 0] 28 28;have B0:=J h0;have XB:=J h1;have ZB:=J h2;clear h0 h1 h2 h hf hp hw0 ha1 ha2 he1 he2 ho1 ho2;go_enter Tryz.func91,Tryz.ntmps91;go_upto_region 1 with fail;generalize (w.alloc (.cells #[aC aD b.me,L no nn nc,L ao an ac,L so sn sc,L eo en ec,L oo dY oc] 28)).alloc (.cells #[aC aD 0,L ah 0 0,L ah 0 0,L ah 0 0,L ah 0 0,L ah 0 0] 28)=W at *;refine cp1 _ W w.heap.size b.me (L ao an ac) (L eo en ec) (L oo dY oc) no nn nc b.near so sn sc b.seen _ _ _ _ _ _ _ _ _ _ _ _ _ _ _ _ _ _ _ _ _ _ _ _ _ _ _ _ _ _ _ _ _ _ _ _ _ _ _ _ _ _ _ _ _ _ _ _ _ _ _ _ _ _ _ _ _ _ _ _ _ _ _ _ _ _ _ _ _ _ _ _ _ _ _ _ _ _ _ _ _ XB.out (R0.out.on B0.out) (R2.out.on B0.out) LL0.out LL2.out ?_;intro x1 v6 v7 v8 v9 v10 v11 v12 v13 p1 q1 s1 p3 q3 s3 hb1 hn1 hs1 Ti Tj;have B1:=J (B0.out.trans (Ti _ (aI _)));have S1:=J (show W.heap.size<=x1.heap.size from (Ti _ (aI _)).size);have ZB1:=J (show dJ x1 (w.heap.size+1) _ _ from (Tj _ ZB.out.lt (by omega)).trans ZB.out);have XB1:=J hb1;have N1:=J (dN hn1 B0.out.size);have J1:=J (dN hs1 B0.out.size);clear hb1 hn1 hs1 Ti Tj XB ZB;go_upto_region 2 with fail;refine cp2 _ x1 w.heap.size b.me (L p1 q1 s1) (L p3 q3 s3) ao an ac la eo en ec le oo dY oc Kq _ _ _ _ _ _ _ _ _ _ _ _ _ _ _ _ _ _ _ _ _ _ _ _ _ _ _ _ _ _ _ _ _ _ _ _ _ _ _ _ _ _ _ _ _ _ _ _ _ _ _ _ _ _ _ _ _ _ _ _ _ _ _ _ _ _ _ _ _ _ _ _ _ _ _ _ _ _ _ _ _ XB1.out (R1.out.on B1.out) (R3.out.on B1.out) (R4.out.on B1.out) LL1.out LL3.out LL4.out ?_;intro x2 v14 v15 v16 v17 v18 v19 v20 v21 v22 v23 v24 v25 p2 q2 s2 p4 q4 s4 p5 q5 s5 hb2 ha2 he2 ho2 MN EZ;have CS:=J (show Cs w0 w x2 b 0 0 0 (p1,q1,s1) (p2,q2,s2) (p3,q3,s3) (p4,q4,s4) (p5,q5,s5) from {
  uI:=B1.out.trans (MN _ (aI _))
  bx:=hb2
  bz:=(EZ _ ZB1.out.lt (by omega)).trans ZB1.out
  near:=But.own ⟨EZ,(MN _ (aI _)).size⟩ N1.out XB1.out (by decide)
  seen:=But.own ⟨EZ,(MN _ (aI _)).size⟩ J1.out XB1.out (by decide)
  dQ:=⟨la,dN ha2 B1.out.size,HA.out.mono fun _ _ q=>⟨q.1,q.2.1,aS q.2.2⟩,.nil⟩
  ent:=⟨le,dN he2 B1.out.size,HE.out.mono fun _ _ q=>⟨q.1,q.2.1,q.2.2.1,q.2.2.2.1,aS q.2.2.2.2⟩,.nil⟩
  own:=⟨Kq,dN ho2 B1.out.size,HO.out.mono fun _ _ q=>⟨q.1,aS q.2⟩,.nil⟩ })
 have Q2:=J (show q2<=900 from by rw [<- gV ha2]; exact LL1.out);have Q4:=J (show q4<=900 from by rw [<- gV he2]; exact LL3.out);have Q5:=J (show q5<=900 from by rw [<- gV ho2]; exact LL4.out);clear hb2 ha2 he2 ho2 MN EZ XB1 ZB1 N1 J1 B1 S1 R0 R1 R2 R3 R4 HA HE HO LL0 LL1 LL2 LL3 LL4 B0;have cf2:=CS.out.bx.cell 2;simp only [V,X,Y] at cf2;go_wp2
 go_loopw [29] (fun i wr=>∃ k:Nat,k<=q2/\i=aC aD k/\Cs w0 w wr b k 0 0 (p1,q1,s1) (p2,q2,s2) (p3,q3,s3) (p4,q4,s4) (p5,q5,s5)) (fun i _=>q2-(intOf i).toNat)
 case atStart=>exact⟨0,aK _,rfl,CS.out⟩
 case round =>
  obtain⟨k,hk,rfl,hcs⟩:=hrel;have CS:=J hcs;have hq:=Q2.out;clear hcs;by_cases hlt:k<q2
  ·obtain⟨l,hl,hA,hV⟩:=CS.out.dQ;have hln:l.length=q2:=gV hl;obtain⟨g,rfl,hBg⟩:∃ g,p2=Z ⟨g,0,ah⟩/\w.heap.size<=g:=sJ hl (show 0<q2 by omega);obtain⟨y,hy⟩:∃ y,l[k]?=Z y:=⟨_,aj (by omega)⟩;obtain⟨a,ha⟩:∃ a,b.dQ[k]?=Z a:=⟨_,aj (by have h:=hA.len; have h2:l.length=q2:=hln; omega)⟩;obtain⟨y',hy',hym⟩:=hA.at k a ha;rw [hy] at hy';obtain rfl:=aJ hy';obtain⟨y1,y2,⟨yo,yn,yc⟩,y4⟩:=y;have HW:=J hl;have Zu:=J hA;have Zv:=J hV;have Cc:=J hym;have Tk:=J hy;have MS:=J ha;have Zw:=J hBg;have hw3:IntKind.i64.wrap ((k:Int)+1)=(k:Int)+1:=IntWalk.i64_in _ (by omega);clear hl hA hV hln hy ha hy' hym hBg cf2;go_upto_region 6 with fail;refine cp6 _ wr w.heap.size l w.heap.size b.me (L p1 q1 s1) (L p3 q3 s3) (L p4 q4 s4) (L p5 q5 s5) g q2 s2 k y1 y2 yo yn yc y4 a.p _ _ _ _ _ _ _ _ _ _ _ _ _ _ _ _ _ _ _ _ _ _ _ _ _ _ _ _ _ _ _ _ _ _ _ _ _ _ _ _ _ _ _ _ _ _ _ _ _ _ _ _ _ _ _ _ _ _ _ _ _ _ _ _ _ _ _ _ _ _ _ _ _ _ _ _ _ _ _ _ CS.out.bx HW.out Tk.out (Cc.out.2.2.row (W0.out.trans (CS.out.uI.mono W0.out.size))) (HP.out.dQ a (aF MS.out)) ?_;intro x v32 v33 v34 v35 v36 v37 v38 v39 v40 v41 t1 t2 t3 hC hO vZ hBel;have CS2:=J (show Cs w0 w x b (k+1) 0 0 (p1,q1,s1) (Z ⟨g,0,ah⟩,q2,s2) (p3,q3,s3) (p4,q4,s4) (p5,q5,s5) from by
    obtain⟨cur,hg⟩:=jL HW.out;exact CS.out.Sk HW.out hO vZ (CS.out.uI.trans (hBel _ Zw.out CS.out.uI.size)) (fA.set k _ a (Zu.out.mono fun _ _ q=>q.but vZ hg (by decide)) MS.out ⟨Cc.out.1,Cc.out.2.1,aA (dN hC CS.out.uI.size)⟩) (xB (Zv.out.mono fun _ _ q=>q.but vZ hg (by decide)) (ay.1 Tk.out).1 MS.out ⟨Cc.out.1,Cc.out.2.1,aA (dN hC CS.out.uI.size)⟩))
   clear hC hO vZ hBel CS HW Zu Zv Cc Tk MS Zw;go_wp2
   go_roundw
   case rel=>exact⟨k+1,by omega,by go_num,CS2.out⟩
   case measure=>simp [intOf]; omega
  ·obtain rfl:q2=k:=by omega
   have cf4:=CS.out.bx.cell 4;simp only [V,X,Y] at cf4;clear hlt;go_wp2
   go_loopw [46] (fun i wr=>∃ k:Nat,k<=q4/\i=aC aD k/\Cs w0 w wr b q2 k 0 (p1,q1,s1) (p2,q2,s2) (p3,q3,s3) (p4,q4,s4) (p5,q5,s5)) (fun i _=>q4-(intOf i).toNat)
   case atStart=>exact⟨0,aK _,rfl,CS.out⟩
   case round =>
    obtain⟨k,hk,rfl,hcs⟩:=hrel;have CS:=J hcs;have hq:=Q4.out;clear hcs;by_cases hlt:k<q4
    ·obtain⟨l,hl,hA,hV⟩:=CS.out.ent;have hln:l.length=q4:=gV hl;obtain⟨g,rfl,hBg⟩:∃ g,p4=Z ⟨g,0,ah⟩/\w.heap.size<=g:=sJ hl (show 0<q4 by omega);obtain⟨y,hy⟩:∃ y,l[k]?=Z y:=⟨_,aj (by omega)⟩;obtain⟨a,ha⟩:∃ a,b.ent[k]?=Z a:=⟨_,aj (by have h:=hA.len; have h2:l.length=q4:=hln; omega)⟩;obtain⟨y',hy',hym⟩:=hA.at k a ha;rw [hy] at hy';obtain rfl:=aJ hy';obtain⟨y1,y2,y3,y4,⟨yo,yn,yc⟩,y6,y7⟩:=y;have HW:=J hl;have Zu:=J hA;have Zv:=J hV;have Cc:=J hym;have Tk:=J hy;have MS:=J ha;have Zw:=J hBg;have hw3:IntKind.i64.wrap ((k:Int)+1)=(k:Int)+1:=IntWalk.i64_in _ (by omega);clear hl hA hV hln hy ha hy' hym hBg cf4;go_upto_region 11 with fail;refine ag5 _ wr w.heap.size l w.heap.size b.me (L p1 q1 s1) (L p2 q2 s2) (L p3 q3 s3) (L p5 q5 s5) g q4 s4 k y1 y2 y3 y4 yo yn yc y6 y7 a.p _ _ _ _ _ _ _ _ _ _ _ _ _ _ _ _ _ _ _ _ _ _ _ _ _ _ _ _ _ _ _ _ _ _ _ _ _ _ _ _ _ _ _ _ _ _ _ _ _ _ _ _ _ _ _ _ _ _ _ _ _ _ _ _ _ _ _ _ _ _ _ _ _ _ _ _ _ _ _ _ CS.out.bx HW.out Tk.out (Cc.out.2.2.2.2.row (W0.out.trans (CS.out.uI.mono W0.out.size))) (HP.out.ent a (aF MS.out)) ?_;intro x v49 v50 v51 v52 v53 v54 v55 v56 v57 v58 v59 v60 t1 t2 t3 hC hO vZ hBel;have CS2:=J (show Cs w0 w x b q2 (k+1) 0 (p1,q1,s1) (p2,q2,s2) (p3,q3,s3) (Z ⟨g,0,ah⟩,q4,s4) (p5,q5,s5) from by
      obtain⟨cur,hg⟩:=jL HW.out;exact CS.out.agW HW.out hO vZ (CS.out.uI.trans (hBel _ Zw.out CS.out.uI.size)) (fA.set k _ a (Zu.out.mono fun _ _ q=>q.but vZ hg (by decide)) MS.out ⟨Cc.out.1,Cc.out.2.1,Cc.out.2.2.1,Cc.out.2.2.2.1,aA (dN hC CS.out.uI.size)⟩) (xB (Zv.out.mono fun _ _ q=>q.but vZ hg (by decide)) (ay.1 Tk.out).1 MS.out ⟨Cc.out.1,Cc.out.2.1,Cc.out.2.2.1,Cc.out.2.2.2.1,aA (dN hC CS.out.uI.size)⟩))
     clear hC hO vZ hBel CS HW Zu Zv Cc Tk MS Zw;go_wp2
     go_roundw
     case rel=>exact⟨k+1,by omega,by go_num,CS2.out⟩
     case measure=>simp [intOf]; omega
    ·obtain rfl:q4=k:=by omega
     have cf5:=CS.out.bx.cell 5;simp only [V,X,Y] at cf5;clear hlt;go_wp2
     go_loopw [65] (fun i wr=>∃ k:Nat,k<=q5/\i=aC aD k/\Cs w0 w wr b q2 q4 k (p1,q1,s1) (p2,q2,s2) (p3,q3,s3) (p4,q4,s4) (p5,q5,s5)) (fun i _=>q5-(intOf i).toNat)
     case atStart=>exact⟨0,aK _,rfl,CS.out⟩
     case round =>
      obtain⟨k,hk,rfl,hcs⟩:=hrel;have CS:=J hcs;have hq:=Q5.out;clear hcs;by_cases hlt:k<q5
      ·obtain⟨l,hl,hA,hV⟩:=CS.out.own;have hln:l.length=q5:=gV hl;obtain⟨g,rfl,hBg⟩:∃ g,p5=Z ⟨g,0,ah⟩/\w.heap.size<=g:=sJ hl (show 0<q5 by omega);obtain⟨y,hy⟩:∃ y,l[k]?=Z y:=⟨_,aj (by omega)⟩;obtain⟨a,ha⟩:∃ a,b.own[k]?=Z a:=⟨_,aj (by have h:=hA.len; have h2:l.length=q5:=hln; omega)⟩;obtain⟨y',hy',hym⟩:=hA.at k a ha;rw [hy] at hy';obtain rfl:=aJ hy';obtain⟨y1,y2,⟨yo,yn,yc⟩⟩:=y;have HW:=J hl;have Zu:=J hA;have Zv:=J hV;have Cc:=J hym;have Tk:=J hy;have MS:=J ha;have Zw:=J hBg;have hw3:IntKind.i64.wrap ((k:Int)+1)=(k:Int)+1:=IntWalk.i64_in _ (by omega);clear hl hA hV hln hy ha hy' hym hBg cf5;go_upto_region 16 with fail;refine ag6 _ wr w.heap.size l w.heap.size b.me (L p1 q1 s1) (L p2 q2 s2) (L p3 q3 s3) (L p4 q4 s4) g q5 s5 k y1 y2 yo yn yc a.p _ _ _ _ _ _ _ _ _ _ _ _ _ _ _ _ _ _ _ _ _ _ _ _ _ _ _ _ _ _ _ _ _ _ _ _ _ _ _ _ _ _ _ _ _ _ _ _ _ _ _ _ _ _ _ _ _ _ _ _ _ _ _ _ _ _ _ _ _ _ _ _ _ _ _ _ _ _ _ _ CS.out.bx HW.out Tk.out (Cc.out.2.row (W0.out.trans (CS.out.uI.mono W0.out.size))) (HP.out.own a (aF MS.out)) ?_;intro x v68 v69 v70 v71 v72 v73 v74 v75 v76 v77 v78 v79 t1 t2 t3 hC hO vZ hBel;have CS2:=J (show Cs w0 w x b q2 q4 (k+1) (p1,q1,s1) (p2,q2,s2) (p3,q3,s3) (p4,q4,s4) (Z ⟨g,0,ah⟩,q5,s5) from by
        obtain⟨cur,hg⟩:=jL HW.out;exact CS.out.setW HW.out hO vZ (CS.out.uI.trans (hBel _ Zw.out CS.out.uI.size)) (fA.set k _ a (Zu.out.mono fun _ _ q=>q.but vZ hg (by decide)) MS.out ⟨Cc.out.1,aA (dN hC CS.out.uI.size)⟩) (xB (Zv.out.mono fun _ _ q=>q.but vZ hg (by decide)) (ay.1 Tk.out).1 MS.out ⟨Cc.out.1,aA (dN hC CS.out.uI.size)⟩))
       clear hC hO vZ hBel CS HW Zu Zv Cc Tk MS Zw;go_wp2
       go_roundw
       case rel=>exact⟨k+1,by omega,by go_num,CS2.out⟩
       case measure=>simp [intOf]; omega
      ·obtain rfl:q5=k:=by omega
       have X1:=CS.out.bx;have Z1:=CS.out.bz;obtain⟨x0,x1,x2,x3,x4,x5⟩:=X1.fu;obtain⟨r0,r1,r2,r3,r4,r5⟩:=Z1.fu;obtain⟨t0,t1,t2,t3,t4,t5⟩:=Z1.kD;have zz:=Z1.lt;have FB:=J (dL Z1 (aC aD b.me) (L p1 q1 s1) (L p2 q2 s2) (L p3 q3 s3) (L p4 q4 s4) (L p5 q5 s5));have FD:=J (CS.out.done (aC aD b.me) (L p1 q1 s1) (L p2 q2 s2) (L p3 q3 s3) (L p4 q4 s4) (L p5 q5 s5));clear X1 Z1 CS;go_wp2_with fail;obtain⟨v0,v1,v2,v3,v4,v5⟩:=FB.out.fu;refine bodyPost_ret (v:=.agg #[aC aD b.me,L p1 q1 s1,L p2 q2 s2,L p3 q3 s3,L p4 q4 s4,L p5 q5 s5]) (by simp [results,Tryz.results91,go_sem,v0,v1,v2,v3,v4,v5]) rfl ?_;exact⟨⟨(p1,q1,s1),(p2,q2,s2),(p3,q3,s3),(p4,q4,s4),(p5,q5,s5),rfl,FD.out.1⟩,FD.out.2⟩
end Av
namespace Av
open Go.RowKit Rw Bk Go.Maps Go.ChangeMaps
end Av
end Go.Proofs.YtmklifheakemeaaGreat
