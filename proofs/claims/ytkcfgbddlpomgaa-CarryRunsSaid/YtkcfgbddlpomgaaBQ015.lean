/-
  entry of broadsidere. Conditions as told.
-/
import Derived.Test.YtkcfgbddlpomgaaBQ012
import Derived.Test.YtkcfgbddlpomgaaBQ014
import Derived.Test.YtkcfgbddlpomgaaBQ013
set_option maxRecDepth 100000
set_option maxHeartbeats 64000000
open _root_.Bool renaming and_eq_true->aK,eq_iff_iff->aL
open _root_.Go renaming Value->aF,World->aJ,Addr->aS
open Go.IntKind renaming i64->aG
open Go.Lib renaming compact->O,hid->ay,compactUpTo->aB
open Go.Operand renaming tmp->Y
open Go.Proofs.Ytkcfgbddlpomgaa.Rg renaming cu->aD,dH->aQ,dO->aR,gN->aT,iD->aU,dW->aV,cO->aW
open Go.RowKit.Below renaming refl->L
open Go.Sort renaming ahead->aA
open Go.Value renaming pointer->J,slice->Z,int->au
open _root_.List renaming getElem?_toArray->X,getElem?_eq_some_iff->ah,getElem?_cons_zero->aj,getElem?_cons_succ->ak,replicate->aH,getElem?_eq_getElem->aI,getElem?_take->aM,mem_singleton->aN,length_append->aO,find?_eq_none->aP
open _root_.Option renaming some->U,none->V
open _root_.Or renaming inr->aC
namespace Go.Proofs.Ytkcfgbddlpomgaa
namespace Bk
open Go.RowKit Rw Ytkcfgbddlpomgaa.Nm Pr
def jW {κ:Type} [DecidableEq κ]:List κ->κ->Int
 | [],_=>-1
 | a::l,x=>if a=x then 0 else if jW l x=-1 then -1 else jW l x+1
theorem lT {κ:Type} [DecidableEq κ] (l:List κ) (x:κ) (h:∀ (j:Nat) (y:κ),l[j]?=U y->y≠x):jW l x=-1:=by
 induction l with
 | nil=>rfl
 | cons a l ih=>rw [jW,if_neg (h 0 a rfl),ih fun j y hj=>h (j+1) y (by simpa using hj),if_pos rfl]
theorem xC {κ:Type} [DecidableEq κ] (l:List κ) (k:Nat) (x:κ) (h:l[k]?=U x) (hall:∀ (j:Nat) (z:κ),j<k->l[j]?=U z->z≠x):jW l x=k:=by
 induction l generalizing k with
 | nil=>simp at h
 | cons a l ih =>
  cases k with
  | zero =>
   obtain rfl:a=x:=by simpa using h
   rw [jW,if_pos rfl]
   rfl
  | succ k =>
   have h2:=ih k (by simpa using h) fun j z hj hz=>hall (j+1) z (by omega) (by simpa using hz);rw [jW,if_neg (hall 0 a (by omega) rfl),h2,if_neg (by omega)];omega
abbrev pW (e:gq):Id×Id:=((e.1,e.2.1),(e.2.2.1,e.2.2.2.1))
end Bk
namespace Av
open Go.RowKit Go.Sort Rw Ytkcfgbddlpomgaa.Nm Pr Bk
def zL (B:Nat) (b1:Nat) (_me:Int) (_z1 _z3 _z4 _z5:aF) (g n cap k:Nat) (y1 y2:Int) (yo:Option aS) (yn yc:Nat) (y4:Int) (p:List C5) (i:Nat) (v:aF) (x:aJ):Prop :=
 match i with
 | 0=>v=J (U ⟨b1,2,V⟩)
 | 1=>v=Z (U ⟨g,0,V⟩) n cap
 | 2=>v=au aG (k:Int)
 | 3=>v=J (U ⟨b1,2,V⟩)
 | 4=>v=Z (U ⟨g,0,V⟩) n cap
 | 5=>v=au aG (k:Int)
 | 6=>v=J (U ⟨g,k * 4,V⟩)
 | 7=>v=gY (y1,y2,(yo,yn,yc),y4)
 | 8=>∃ s:Sl,v=gY (y1,y2,s,y4)/\kW x B (dz s) p
 | 9=>v=J (U ⟨g,k * 4,V⟩)
 | _=>True
noncomputable def DY:Code:=((Try.f9.body.bind (dL 6)).getD .skip)
theorem zM (B:Nat) (b1:Nat) (me:Int) (z1 z3 z4 z5:aF) (g n cap k:Nat) (y1 y2:Int) (yo:Option aS) (yn yc:Nat) (y4:Int) (p:List C5) (i:Nat) (v:aF) (x x':aJ) (h:zL B b1 me z1 z3 z4 z5 g n cap k y1 y2 yo yn yc y4 p i v x) (hb:Below x.heap.size x x'):zL B b1 me z1 z3 z4 z5 g n cap k y1 y2 yo yn yc y4 p i v x':=by
 by_cases hi:i<10
 ·rcases (by omega:i=0\/i=1\/i=2\/i=3\/i=4\/i=5\/i=6\/i=7\/i=8\/i=9) with rfl|rfl|rfl|rfl|rfl|rfl|rfl|rfl|rfl|rfl
  ·exact h
  ·exact h
  ·exact h
  ·exact h
  ·exact h
  ·exact h
  ·exact h
  ·exact h
  ·obtain⟨s,h1,h2⟩:=h; exact⟨s,h1,Bk.dx h2 hb⟩
  ·exact h
 ·unfold zL
  split <;> first | omega | trivial
theorem Jj (Q:Exit->Act->aJ->Prop) (W:aJ) (B0:Nat) (l:List gD) (b1:Nat) (me:Int) (z1 z3 z4 z5:aF) (g n cap k:Nat) (y1 y2:Int) (yo:Option aS) (yn yc:Nat) (y4:Int) (p:List C5) (u0 u2 u4 u5 u6 u7 u8 u9 u10 u11 u12 u13 u14 u15 u16 u17 u18 u19 u20 u21 u22 u23 u24 u25 u26 u27 u28 u29 u30 u31 u32 u33 u34 u35 u36 u37 u38 u39 u40 u41 u42 u43 u44 u45 u46 u47 u48 u49 u50 u51 u52 u53 u54 u55 u56 u57 u58 u59 u60 u61 u62 u63 u64 u65 u66 u67 u68 u69 u70 u71 u72 u73 u74 u75 u76 u77 u78 u79 u80 u81:aF)
  (h1:dh W b1 #[au aG me,z1,Z (U ⟨g,0,V⟩) n cap,z3,z4,z5] 30) (ho:jD W B0 (Z (U ⟨g,0,V⟩) n cap) l) (hy:l[k]?=U (y1,y2,(yo,yn,yc),y4)) (hp:gL W (Z yo yn yc) p) (lp:p.length<=900)
  (hQ:∀ (x:aJ) (v32 v33 v34 v35 v36 v37 v38 v39 v40 v41:aF) (s1:Option aS) (s2 s3:Nat),kW x W.heap.size (Z s1 s2 s3) p->jD x B0 (Z (U ⟨g,0,V⟩) n cap) (l.set k (y1,y2,(s1,s2,s3),y4))->But g W x->(∀ B1,B1<=g->B1<=W.heap.size->Below B1 W x)->Q .normal ⟨(u0::J (U ⟨b1,0,V⟩)::u2::au aG (k:Int)::u4::u5::u6::u7::u8::u9::u10::u11::u12::u13::u14::u15::u16::u17::u18::u19::u20::u21::u22::u23::u24::u25::u26::u27::u28::u29::u30::u31::v32::v33::v34::v35::v36::v37::v38::v39::v40::v41::u42::u43::u44::u45::u46::u47::u48::u49::u50::u51::u52::u53::u54::u55::u56::u57::u58::u59::u60::u61::u62::u63::u64::u65::u66::u67::u68::u69::u70::u71::u72::u73::u74::u75::u76::u77::u78::u79::u80::u81::[]).toArray,[]⟩ x) :
  Code.wp Try.prog DY Q ⟨(u0::J (U ⟨b1,0,V⟩)::u2::au aG (k:Int)::u4::u5::u6::u7::u8::u9::u10::u11::u12::u13::u14::u15::u16::u17::u18::u19::u20::u21::u22::u23::u24::u25::u26::u27::u28::u29::u30::u31::u32::u33::u34::u35::u36::u37::u38::u39::u40::u41::u42::u43::u44::u45::u46::u47::u48::u49::u50::u51::u52::u53::u54::u55::u56::u57::u58::u59::u60::u61::u62::u63::u64::u65::u66::u67::u68::u69::u70::u71::u72::u73::u74::u75::u76::u77::u78::u79::u80::u81::[]).toArray,[]⟩ W:=by
 have HQ:=ay hQ;have H1:=ay h1;have HO:=ay ho;have HY:=ay hy;have HP:=ay hp;have LP:=ay lp;have IX:=ay (ji okD g k n cap (by obtain⟨_,_,hv⟩:=(Row.dw ho).len; have h:=(ah.1 hy).1; simp at hv; omega));have EL:=ay (gG okD ho hy);clear hQ h1 ho hy hp lp;have iG:=zM W.heap.size b1 me z1 z3 z4 z5 g n cap k y1 y2 yo yn yc y4 p;unfold DY
 conv=>arg 2; whnf
 have nd:∀ j,(j<32\/42<=j)->∀ i,i<10->(fun i=>32+i) i≠j:=by
  intro j hj i hi h;simp only at h;omega
 refine Rg.eP 11 10 (fun i=>32+i) (fun _=>10) (zL W.heap.size b1 me z1 z3 z4 z5 g n cap k y1 y2 yo yn yc y4 p) (by kernel_rfl) (by kernel_rfl) rfl (by decide) (fun i j _ _ h=>by have h2:32+i=32+j:=h; omega) (fun i hi=>by show 32+i<82; omega) ?_ (fun _=>Rg.iw 14 (by kernel_rfl)) ?_ ?_
 ·intro i o hi ho a x D hnd hc hD hb seen K hK;clear HQ;rcases (by omega:i=0\/i=1\/i=2\/i=3\/i=4\/i=5\/i=6\/i=7\/i=8\/i=9) with rfl|rfl|rfl|rfl|rfl|rfl|rfl|rfl|rfl|rfl
  ·cases ho;have e1:a.eval (Y 1)=J (U ⟨b1,0,V⟩):=seen.kp 1 _ (nd 1 (by omega)) rfl;exact aD rfl rfl (aQ a.eval _ 30 (Y 1) 2 rfl (by rw [e1]; simp [go_sem])) (hK _ _ rfl (L _ _) fun _ _ _ _ _ _ _ h=>h)
  ·cases ho;have e32:a.eval (Y 32)=J (U ⟨b1,2,V⟩):=seen.at_ ⟨0,.data⟩ (by simp) rfl (aC (by decide));have y2:=(H1.out.on hb).cell 2;simp only [X,aj,ak] at y2;exact aD rfl rfl (aR a.eval _ 25 (Y 32) rfl (by rw [e32]; simp [go_sem,y2])) (hK _ _ rfl (L _ _) fun _ _ _ _ _ _ _ h=>h)
  ·cases ho;have e3:a.eval (Y 3)=au aG (k:Int):=seen.kp 3 _ (nd 3 (by omega)) rfl;exact aD rfl rfl (aT a.eval _ (Y 3) rfl x) (hK _ _ e3 (L _ _) fun _ _ _ _ _ _ _ h=>h)
  ·cases ho;have e1:a.eval (Y 1)=J (U ⟨b1,0,V⟩):=seen.kp 1 _ (nd 1 (by omega)) rfl;exact aD rfl rfl (aQ a.eval _ 30 (Y 1) 2 rfl (by rw [e1]; simp [go_sem])) (hK _ _ rfl (L _ _) fun _ _ _ _ _ _ _ h=>h)
  ·cases ho;have e35:a.eval (Y 35)=J (U ⟨b1,2,V⟩):=seen.at_ ⟨3,.data⟩ (by simp) rfl (aC (by decide));have y2:=(H1.out.on hb).cell 2;simp only [X,aj,ak] at y2;exact aD rfl rfl (aR a.eval _ 25 (Y 35) rfl (by rw [e35]; simp [go_sem,y2])) (hK _ _ rfl (L _ _) fun _ _ _ _ _ _ _ h=>h)
  ·cases ho;have e3:a.eval (Y 3)=au aG (k:Int):=seen.kp 3 _ (nd 3 (by omega)) rfl;exact aD rfl rfl (aT a.eval _ (Y 3) rfl x) (hK _ _ e3 (L _ _) fun _ _ _ _ _ _ _ h=>h)
  ·cases ho;have e36:a.eval (Y 36)=Z (U ⟨g,0,V⟩) n cap:=seen.at_ ⟨4,.data⟩ (by simp) rfl (aC (by decide));have e37:a.eval (Y 37)=au aG (k:Int):=seen.at_ ⟨5,.data⟩ (by simp) rfl (aC (by decide));exact aD rfl rfl (aU a.eval _ 25 (Y 36) (Y 37) rfl (by rw [e36,e37]; exact IX.out x)) (hK _ _ rfl (L _ _) fun _ _ _ _ _ _ _ h=>h)
  ·cases ho;have e38:a.eval (Y 38)=J (U ⟨g,k * 4,V⟩):=seen.at_ ⟨6,.data⟩ (by simp) rfl (aC (by decide));exact aD rfl rfl (aR a.eval _ 36 (Y 38) rfl (by rw [e38]; exact Ay x _ (y1,y2,(yo,yn,yc),y4) (EL.out x hb))) (hK _ _ rfl (L _ _) fun _ _ _ _ _ _ _ h=>h)
  ·cases ho;have e39:a.eval (Y 39)=gY (y1,y2,(yo,yn,yc),y4):=seen.at_ ⟨7,.data⟩ (by simp) rfl (aC (by decide));exact Rg.eU rfl rfl (Rw.eO a.eval _ (Y 39) 36 11 rfl e39 rfl _ (dV Try.func11 rfl rfl _ _)) (lS (y1,y2,(yo,yn,yc),y4) p x (HP.out.on hb) LP.out) fun e w1 h=>by
    obtain⟨⟨s,rfl,h1⟩,h3⟩:=h;exact⟨_,rfl,hK _ _ ⟨s,rfl,cK h1 hb.size⟩ (h3.mono hb.size) fun j u hj _ _ _ hne h=>iG j u _ _ h h3⟩
  ·cases ho;have e33:a.eval (Y 33)=Z (U ⟨g,0,V⟩) n cap:=seen.at_ ⟨1,.data⟩ (by simp) rfl (aC (by decide));have e34:a.eval (Y 34)=au aG (k:Int):=seen.at_ ⟨2,.data⟩ (by simp) rfl (aC (by decide));exact aD rfl rfl (aU a.eval _ 25 (Y 33) (Y 34) rfl (by rw [e33,e34]; exact IX.out x)) (hK _ _ rfl (L _ _) fun _ _ _ _ _ _ _ h=>h)
 ·intro kk o h1 h2 ho;omega
 ·intro a w' df sz kp ⟨vs,hv⟩ hb;have sz':a.tmps.size=82:=sz;have g41:a.tmps[41]?=U (J (U ⟨g,k * 4,V⟩)):=by
   have h:vs 9=J (U ⟨g,k * 4,V⟩):=(hv 9 (by omega)).2 (by decide);rw [<- h];exact (hv 9 (by omega)).1
  obtain⟨⟨s1,s2,s3⟩,hs,hc⟩:=(hv 8 (by omega)).2 (by decide);have g40:a.tmps[40]?=U (gY (y1,y2,(s1,s2,s3),y4)):=((hv 8 (by omega)).1).trans (congrArg U hs);obtain⟨w2,hr,st1,st2,DZ⟩:=Bz (k:=k) (y1,y2,(s1,s2,s3),y4) (Bk.dx HO.out hb) (ah.1 HY.out).1;obtain⟨cur,hg⟩:=fP (Bk.dx HO.out hb);show aV _ _ _ 1 10 a w';simp only [aV];refine Rg.eZ 36 (Y 41) (Y 40) rfl rfl rfl rfl (aW g41) (aW g40) (w':=w2) hr ?_;have pX:∀ j,(j<32\/42<=j)->(a).tmps[j]?=(u0::J (U ⟨b1,0,V⟩)::u2::au aG (k:Int)::u4::u5::u6::u7::u8::u9::u10::u11::u12::u13::u14::u15::u16::u17::u18::u19::u20::u21::u22::u23::u24::u25::u26::u27::u28::u29::u30::u31::u32::u33::u34::u35::u36::u37::u38::u39::u40::u41::u42::u43::u44::u45::u46::u47::u48::u49::u50::u51::u52::u53::u54::u55::u56::u57::u58::u59::u60::u61::u62::u63::u64::u65::u66::u67::u68::u69::u70::u71::u72::u73::u74::u75::u76::u77::u78::u79::u80::u81::[])[j]?:=fun j hj=>(kp j (nd j (by omega))).trans X;obtain⟨mid,hmid,hfr⟩:=Rg.fH (a:=a) 32 10 df (by simp [sz']) (by simp) pX;show Q .normal (a) _;rw [hfr]
  match mid,hmid with
  | [v32,v33,v34,v35,v36,v37,v38,v39,v40,v41],_ =>
   exact HQ.out _ _ _ _ _ _ _ _ _ _ _ s1 s2 s3 (st2.own hc hg (by decide)) st1 ((But.of_below hb).trans st2) fun B1 hB hl=>DZ B1 W hB (hb.mono hl)
def sJ (B:Nat) (b1:Nat) (_me:Int) (_z1 _z2 _z3 _z4:aF) (g n cap k:Nat) (_y1 _y2:Int) (yo:Option aS) (yn yc:Nat) (p:List C5) (i:Nat) (v:aF) (x:aJ):Prop :=
 match i with
 | 0=>v=J (U ⟨b1,5,V⟩)
 | 1=>v=Z (U ⟨g,0,V⟩) n cap
 | 2=>v=au aG (k:Int)
 | 3=>v=J (U ⟨b1,5,V⟩)
 | 4=>v=Z (U ⟨g,0,V⟩) n cap
 | 5=>v=au aG (k:Int)
 | 6=>v=J (U ⟨g,k * 3,V⟩)
 | 7=>v=J (U ⟨g,k * 3+2,V⟩)
 | 8=>v=Z yo yn yc
 | 9=>∃ s:Sl,v=dz s/\kW x B v p
 | 10=>v=J (U ⟨g,k * 3,V⟩)
 | 11=>v=J (U ⟨g,k * 3+2,V⟩)
 | _=>True
noncomputable def AA:Code:=((Try.f9.body.bind (dL 16)).getD .skip)
theorem xD (B:Nat) (b1:Nat) (me:Int) (z1 z2 z3 z4:aF) (g n cap k:Nat) (y1 y2:Int) (yo:Option aS) (yn yc:Nat) (p:List C5) (i:Nat) (v:aF) (x x':aJ) (h:sJ B b1 me z1 z2 z3 z4 g n cap k y1 y2 yo yn yc p i v x) (hb:Below x.heap.size x x'):sJ B b1 me z1 z2 z3 z4 g n cap k y1 y2 yo yn yc p i v x':=by
 by_cases hi:i<12
 ·rcases (by omega:i=0\/i=1\/i=2\/i=3\/i=4\/i=5\/i=6\/i=7\/i=8\/i=9\/i=10\/i=11) with rfl|rfl|rfl|rfl|rfl|rfl|rfl|rfl|rfl|rfl|rfl|rfl
  ·exact h
  ·exact h
  ·exact h
  ·exact h
  ·exact h
  ·exact h
  ·exact h
  ·exact h
  ·exact h
  ·obtain⟨s,h1,h2⟩:=h; exact⟨s,h1,Bk.dx h2 hb⟩
  ·exact h
  ·exact h
 ·unfold sJ
  split <;> first | omega | trivial
theorem Gp (Q:Exit->Act->aJ->Prop) (W:aJ) (B0:Nat) (l:List lg) (b1:Nat) (me:Int) (z1 z2 z3 z4:aF) (g n cap k:Nat) (y1 y2:Int) (yo:Option aS) (yn yc:Nat) (p:List C5) (u0 u2 u3 u4 u6 u7 u8 u9 u10 u11 u12 u13 u14 u15 u16 u17 u18 u19 u20 u21 u22 u23 u24 u25 u26 u27 u28 u29 u30 u31 u32 u33 u34 u35 u36 u37 u38 u39 u40 u41 u42 u43 u44 u45 u46 u47 u48 u49 u50 u51 u52 u53 u54 u55 u56 u57 u58 u59 u60 u61 u62 u63 u64 u65 u66 u67 u68 u69 u70 u71 u72 u73 u74 u75 u76 u77 u78 u79 u80 u81:aF)
  (h1:dh W b1 #[au aG me,z1,z2,z3,z4,Z (U ⟨g,0,V⟩) n cap] 30) (ho:oz W B0 (Z (U ⟨g,0,V⟩) n cap) l) (hy:l[k]?=U (y1,y2,(yo,yn,yc))) (hp:gL W (Z yo yn yc) p) (lp:p.length<=900)
  (hQ:∀ (x:aJ) (v68 v69 v70 v71 v72 v73 v74 v75 v76 v77 v78 v79:aF) (s1:Option aS) (s2 s3:Nat),kW x W.heap.size (Z s1 s2 s3) p->oz x B0 (Z (U ⟨g,0,V⟩) n cap) (l.set k (y1,y2,(s1,s2,s3)))->But g W x->(∀ B1,B1<=g->B1<=W.heap.size->Below B1 W x)->Q .normal ⟨(u0::J (U ⟨b1,0,V⟩)::u2::u3::u4::au aG (k:Int)::u6::u7::u8::u9::u10::u11::u12::u13::u14::u15::u16::u17::u18::u19::u20::u21::u22::u23::u24::u25::u26::u27::u28::u29::u30::u31::u32::u33::u34::u35::u36::u37::u38::u39::u40::u41::u42::u43::u44::u45::u46::u47::u48::u49::u50::u51::u52::u53::u54::u55::u56::u57::u58::u59::u60::u61::u62::u63::u64::u65::u66::u67::v68::v69::v70::v71::v72::v73::v74::v75::v76::v77::v78::v79::u80::u81::[]).toArray,[]⟩ x) :
  Code.wp Try.prog AA Q ⟨(u0::J (U ⟨b1,0,V⟩)::u2::u3::u4::au aG (k:Int)::u6::u7::u8::u9::u10::u11::u12::u13::u14::u15::u16::u17::u18::u19::u20::u21::u22::u23::u24::u25::u26::u27::u28::u29::u30::u31::u32::u33::u34::u35::u36::u37::u38::u39::u40::u41::u42::u43::u44::u45::u46::u47::u48::u49::u50::u51::u52::u53::u54::u55::u56::u57::u58::u59::u60::u61::u62::u63::u64::u65::u66::u67::u68::u69::u70::u71::u72::u73::u74::u75::u76::u77::u78::u79::u80::u81::[]).toArray,[]⟩ W:=by
 have HQ:=ay hQ;have H1:=ay h1;have HO:=ay ho;have HY:=ay hy;have HP:=ay hp;have LP:=ay lp;have IX:=ay (ji okW g k n cap (by obtain⟨_,_,hv⟩:=(Row.dw ho).len; have h:=(ah.1 hy).1; simp at hv; omega));have EL:=ay (gG okW ho hy);clear hQ h1 ho hy hp lp;have iG:=xD W.heap.size b1 me z1 z2 z3 z4 g n cap k y1 y2 yo yn yc p;unfold AA
 conv=>arg 2; whnf
 have nd:∀ j,(j<68\/80<=j)->∀ i,i<12->(fun i=>68+i) i≠j:=by
  intro j hj i hi h;simp only at h;omega
 refine Rg.eP 13 12 (fun i=>68+i) (fun _=>12) (sJ W.heap.size b1 me z1 z2 z3 z4 g n cap k y1 y2 yo yn yc p) (by kernel_rfl) (by kernel_rfl) rfl (by decide) (fun i j _ _ h=>by have h2:68+i=68+j:=h; omega) (fun i hi=>by show 68+i<82; omega) ?_ (fun _=>Rg.iw 14 (by kernel_rfl)) ?_ ?_
 ·intro i o hi ho a x D hnd hc hD hb seen K hK;clear HQ;rcases (by omega:i=0\/i=1\/i=2\/i=3\/i=4\/i=5\/i=6\/i=7\/i=8\/i=9\/i=10\/i=11) with rfl|rfl|rfl|rfl|rfl|rfl|rfl|rfl|rfl|rfl|rfl|rfl
  ·cases ho;have e1:a.eval (Y 1)=J (U ⟨b1,0,V⟩):=seen.kp 1 _ (nd 1 (by omega)) rfl;exact aD rfl rfl (aQ a.eval _ 30 (Y 1) 5 rfl (by rw [e1]; simp [go_sem])) (hK _ _ rfl (L _ _) fun _ _ _ _ _ _ _ h=>h)
  ·cases ho;have e68:a.eval (Y 68)=J (U ⟨b1,5,V⟩):=seen.at_ ⟨0,.data⟩ (by simp) rfl (aC (by decide));have y5:=(H1.out.on hb).cell 5;simp only [X,aj,ak] at y5;exact aD rfl rfl (aR a.eval _ 28 (Y 68) rfl (by rw [e68]; simp [go_sem,y5])) (hK _ _ rfl (L _ _) fun _ _ _ _ _ _ _ h=>h)
  ·cases ho;have e5:a.eval (Y 5)=au aG (k:Int):=seen.kp 5 _ (nd 5 (by omega)) rfl;exact aD rfl rfl (aT a.eval _ (Y 5) rfl x) (hK _ _ e5 (L _ _) fun _ _ _ _ _ _ _ h=>h)
  ·cases ho;have e1:a.eval (Y 1)=J (U ⟨b1,0,V⟩):=seen.kp 1 _ (nd 1 (by omega)) rfl;exact aD rfl rfl (aQ a.eval _ 30 (Y 1) 5 rfl (by rw [e1]; simp [go_sem])) (hK _ _ rfl (L _ _) fun _ _ _ _ _ _ _ h=>h)
  ·cases ho;have e71:a.eval (Y 71)=J (U ⟨b1,5,V⟩):=seen.at_ ⟨3,.data⟩ (by simp) rfl (aC (by decide));have y5:=(H1.out.on hb).cell 5;simp only [X,aj,ak] at y5;exact aD rfl rfl (aR a.eval _ 28 (Y 71) rfl (by rw [e71]; simp [go_sem,y5])) (hK _ _ rfl (L _ _) fun _ _ _ _ _ _ _ h=>h)
  ·cases ho;have e5:a.eval (Y 5)=au aG (k:Int):=seen.kp 5 _ (nd 5 (by omega)) rfl;exact aD rfl rfl (aT a.eval _ (Y 5) rfl x) (hK _ _ e5 (L _ _) fun _ _ _ _ _ _ _ h=>h)
  ·cases ho;have e72:a.eval (Y 72)=Z (U ⟨g,0,V⟩) n cap:=seen.at_ ⟨4,.data⟩ (by simp) rfl (aC (by decide));have e73:a.eval (Y 73)=au aG (k:Int):=seen.at_ ⟨5,.data⟩ (by simp) rfl (aC (by decide));exact aD rfl rfl (aU a.eval _ 28 (Y 72) (Y 73) rfl (by rw [e72,e73]; exact IX.out x)) (hK _ _ rfl (L _ _) fun _ _ _ _ _ _ _ h=>h)
  ·cases ho;have e74:a.eval (Y 74)=J (U ⟨g,k * 3,V⟩):=seen.at_ ⟨6,.data⟩ (by simp) rfl (aC (by decide));exact aD rfl rfl (aQ a.eval _ 84 (Y 74) 1 rfl (by rw [e74]; simp [go_sem])) (hK _ _ rfl (L _ _) fun _ _ _ _ _ _ _ h=>h)
  ·cases ho;have e75:a.eval (Y 75)=J (U ⟨g,k * 3+2,V⟩):=seen.at_ ⟨7,.data⟩ (by simp) rfl (aC (by decide));have y:=EL.out x hb 2 _ rfl;simp [Addr.add,EW] at y;exact aD rfl rfl (aR a.eval _ 34 (Y 75) rfl (by rw [e75]; simp [go_sem,y])) (hK _ _ rfl (L _ _) fun _ _ _ _ _ _ _ h=>h)
  ·cases ho;have e76:a.eval (Y 76)=Z yo yn yc:=seen.at_ ⟨8,.data⟩ (by simp) rfl (aC (by decide));exact Rg.eU rfl rfl (Rw.eO a.eval _ (Y 76) 34 32 rfl e76 rfl _ (dV Try.func32 rfl rfl _ _)) (iK (yo,yn,yc) p x (HP.out.on hb) LP.out) fun e w1 h=>by
    obtain⟨⟨s,rfl,h1⟩,h3⟩:=h;exact⟨_,rfl,hK _ _ ⟨s,rfl,cK h1 hb.size⟩ (h3.mono hb.size) fun j u hj _ _ _ hne h=>iG j u _ _ h h3⟩
  ·cases ho;have e69:a.eval (Y 69)=Z (U ⟨g,0,V⟩) n cap:=seen.at_ ⟨1,.data⟩ (by simp) rfl (aC (by decide));have e70:a.eval (Y 70)=au aG (k:Int):=seen.at_ ⟨2,.data⟩ (by simp) rfl (aC (by decide));exact aD rfl rfl (aU a.eval _ 28 (Y 69) (Y 70) rfl (by rw [e69,e70]; exact IX.out x)) (hK _ _ rfl (L _ _) fun _ _ _ _ _ _ _ h=>h)
  ·cases ho;have e78:a.eval (Y 78)=J (U ⟨g,k * 3,V⟩):=seen.at_ ⟨10,.data⟩ (by simp) rfl (aC (by decide));exact aD rfl rfl (aQ a.eval _ 84 (Y 78) 1 rfl (by rw [e78]; simp [go_sem])) (hK _ _ rfl (L _ _) fun _ _ _ _ _ _ _ h=>h)
 ·intro kk o h1 h2 ho;omega
 ·intro a w' df sz kp ⟨vs,hv⟩ hb;have sz':a.tmps.size=82:=sz;have g79:a.tmps[79]?=U (J (U ⟨g,k * 3+2,V⟩)):=by
   have h:vs 11=J (U ⟨g,k * 3+2,V⟩):=(hv 11 (by omega)).2 (by decide);rw [<- h];exact (hv 11 (by omega)).1
  obtain⟨⟨s1,s2,s3⟩,hs,hc⟩:=(hv 9 (by omega)).2 (by decide);have g77:a.tmps[77]?=U (Z s1 s2 s3):=((hv 9 (by omega)).1).trans (congrArg U hs);rw [hs] at hc;obtain⟨w2,hr,st1,st2,DZ⟩:=BI (k:=k) s1 s2 s3 (Bk.dx HO.out hb) HY.out;obtain⟨cur,hg⟩:=fP (Bk.dx HO.out hb);show aV _ _ _ 1 12 a w';simp only [aV];refine Rg.eZ 34 (Y 79) (Y 77) rfl rfl rfl rfl (aW g79) (aW g77) (w':=w2) hr ?_;have pX:∀ j,(j<68\/80<=j)->(a).tmps[j]?=(u0::J (U ⟨b1,0,V⟩)::u2::u3::u4::au aG (k:Int)::u6::u7::u8::u9::u10::u11::u12::u13::u14::u15::u16::u17::u18::u19::u20::u21::u22::u23::u24::u25::u26::u27::u28::u29::u30::u31::u32::u33::u34::u35::u36::u37::u38::u39::u40::u41::u42::u43::u44::u45::u46::u47::u48::u49::u50::u51::u52::u53::u54::u55::u56::u57::u58::u59::u60::u61::u62::u63::u64::u65::u66::u67::u68::u69::u70::u71::u72::u73::u74::u75::u76::u77::u78::u79::u80::u81::[])[j]?:=fun j hj=>(kp j (nd j (by omega))).trans X;obtain⟨mid,hmid,hfr⟩:=Rg.fH (a:=a) 68 12 df (by simp [sz']) (by simp) pX;show Q .normal (a) _;rw [hfr]
  match mid,hmid with
  | [v68,v69,v70,v71,v72,v73,v74,v75,v76,v77,v78,v79],_ =>
   exact HQ.out _ _ _ _ _ _ _ _ _ _ _ _ _ s1 s2 s3 (st2.own hc hg (by decide)) st1 ((But.of_below hb).trans st2) fun B1 hB hl=>DZ B1 W hB (hb.mono hl)
theorem xE {α:Type} [Inhabited α] (enc:α->aF) (d:Array α) (cur:Array aF) (h:d.size<=cur.size):(putCells enc 0 d cur).toList.take d.size=d.toList.map enc:=by
 apply List.ext_getElem?;intro j;rw [aM];by_cases hj:j<d.size
 ·have hc:j<cur.size:=by omega
  simp [putCells,hj,hc]
 ·simp [hj]
theorem lU {α β:Type} [Inhabited β] {E:Ek α} (K:E.Ok) {w:aJ} {B g cap:Nat} {l l':List α} (h:Own E w B (Z (U ⟨g,0,V⟩) l.length cap) l) (enc:β->aF) (d:Array β) (hd:d.toList.map enc=flat E l') (hl:l'.length=l.length) (n:Nat) (os:Array Obj) :
  Own E (grow (putRow enc (aA w n) g 0 d) os) B (Z (U ⟨g,0,V⟩) l.length cap) l'/\w.grownBy (grow (putRow enc (aA w n) g 0 d) os) (U g):=by
 have hds:d.size=l.length * E.n:=by
  rw [<- hl,<- cB K l',<- hd];simp
 rcases eH h with⟨e,_⟩|⟨g',cap',cur,e,h1,h2,h3,h4,h5,h6⟩
 ·cases e
 obtain⟨rfl,rfl⟩:g=g'/\cap=cap':=by simpa using e
 have hlt:=lt_of_heap h2;have hb:(grow (putRow enc (aA w n) g 0 d) os).heap[g]?=U (.cells (putCells enc 0 d cur) E.t (0,0)):=by
  rw [heap_grow_old _ _ (by simp [putRow,mapBlock,aA]; exact hlt)];unfold dh at h2;simp only [putRow,mapBlock,aA,Array.getElem?_modify,if_true,h2]
  rfl
 have hfit:d.size<=cur.size:=by
  rw [hds,h5];exact Nat.mul_le_mul_right _ h3
 refine⟨⟨by rw [cB K],aC ⟨g,cap,_,by rw [hl],h1,hb,by rw [hl]; exact h3,h4,by simp [putCells]; exact h5,?_⟩⟩,⟨rfl,rfl,rfl,by simp [putRow,mapBlock,aA],fun k hk hne=>?_⟩⟩
 ·rw [hl,<- hds,xE enc d cur hfit,hd]
 ·rw [heap_grow_old _ _ (by simp [putRow,mapBlock,aA]; exact hk)];have hkg:g≠k:=fun e=>hne (by rw [e]);simp [putRow,mapBlock,aA,Array.getElem?_modify,hkg]
theorem nM {α:Type} {E:Ek α} {w:aJ} {B g cap:Nat} {l:List α} (K:E.Ok) {β:Type} [Inhabited β] (enc:β->aF) (d:Array β) (hd:d.toList.map enc=flat E l) (h:Own E w B (Z (U ⟨g,0,V⟩) l.length cap) l):Holds enc w g 0 d/\g<w.heap.size:=by
 rcases eH h with⟨e,_⟩|⟨g',cap',cur,e,h1,h2,h3,h4,h5,h6⟩
 ·cases e
 obtain⟨rfl,rfl⟩:g=g'/\cap=cap':=by simpa using e
 refine⟨fun j hj=>?_,h2.lt⟩;rw [Nat.zero_add];refine⟨?_,h2.fr j⟩;rw [h2.cell j];have hsz:d.size=l.length * E.n:=by
  rw [<- cB K l,<- hd];simp
 have h7:(cur.toList.take (l.length * E.n))[j]?=(d.toList.map enc)[j]?:=by rw [h6,hd]
 rw [aM,if_pos (by omega)] at h7;rw [Array.getElem?_toList] at h7;rw [h7,List.getElem?_map,Array.getElem?_toList,getElem!_pos d j hj,Array.getElem?_eq_getElem hj]
 rfl
theorem nN (w:aJ) (B:Nat) (v:aF) (l:List Int) (h:gK w B v l) (hlen:l.length<=900):Calls Try.prog 16 #[v] w fun e w'=>e=.returned (.tuple #[])/\∃ l':List Int,gK w' B v l'/\l'.Perm l/\l'.Pairwise (·<=·)/\w.grownBy w' v.ownBlock:=by
 rcases eH h with⟨rfl,rfl⟩|⟨g,cap,cur,rfl,h1,h2,h3,h4,h5,h6⟩
 ·have hc:=Any.slices_Sort_int_none Try.sortI V 0 w;refine Calls.mono hc ?_;rintro e w' ⟨rfl,rfl⟩;exact⟨rfl,[],h,List.Perm.refl _,List.Pairwise.nil,Rw.jC _ _⟩
 ·obtain⟨hh,hlt⟩:=nM Nm.wH (au aG) l.toArray (by rw [o9]) h;have hc:=Any.slices_Sort_int Try.sortI g 0 cap l w hh hlt (by omega);refine Calls.mono hc ?_;rintro e w' ⟨rfl,n,os,rfl⟩;have hs:=lU Nm.wH (l':=l.mergeSort fun x y=>decide (x<=y)) h (au aG) (l.mergeSort fun x y=>decide (x<=y)).toArray (by rw [o9]) (List.length_mergeSort l) n os;refine⟨rfl,_,hs.1,List.mergeSort_perm _ _,?_,hs.2⟩;have hp:=List.pairwise_mergeSort (le:=fun x y:Int=>decide (x<=y)) (fun a b c h1 h2=>by simp at h1 h2 ⊢; omega) (fun a b=>by simp; omega) l;exact hp.imp (fun {a b} hab=>by simpa using hab)
theorem pY (d:Array Int) (n:Nat) (hs:∀ i j,i<=j->j<n->d[i]!<=d[j]!):∀ m,m<=n->(∀ x∈aB d m,∃ j,j<m/\d[j]! = x)/\(∀ j,j<m->d[j]!∈aB d m)/\(aB d m).Pairwise (·<·)
 | 0,_=>⟨fun x h=>by simp [aB] at h,fun j h=>by omega,by simp [aB]⟩
 | m+1,hm=>by
  obtain⟨h1,h2,h3⟩:=pY d n hs m (by omega);rw [Lib.compactUpTo_succ];cases hk:Lib.keeps d m with
  | false =>
   simp only [Bool.false_eq_true,if_false,List.append_nil];have hk':m≠0/\d[m]! = d[m-1]!:=by
    have h:=of_decide_eq_false hk;rw [not_or] at h;exact⟨h.1,Classical.not_not.1 h.2⟩
   refine⟨fun x hx=>?_,fun j hj=>?_,h3⟩
   ·obtain⟨j,hj,e⟩:=h1 x hx;exact⟨j,by omega,e⟩
   ·rcases Nat.lt_or_ge j m with h|h
    ·exact h2 j h
    ·obtain rfl:j=m:=by omega
     rw [hk'.2];exact h2 _ (by omega)
  | true =>
   simp only [if_true];have hk':m=0\/d[m]!≠d[m-1]!:=of_decide_eq_true hk;refine⟨fun x hx=>?_,fun j hj=>?_,?_⟩
   ·rcases List.mem_append.1 hx with h|h
    ·obtain⟨j,hj,e⟩:=h1 x h;exact⟨j,by omega,e⟩
    ·exact⟨m,by omega,(aN.1 h).symm⟩
   ·rcases Nat.lt_or_ge j m with h|h
    ·exact List.mem_append_left _ (h2 j h)
    ·obtain rfl:j=m:=by omega
     exact List.mem_append_right _ (by simp)
   ·rw [List.pairwise_append];refine⟨h3,List.pairwise_singleton _ _,fun a ha b hb=>?_⟩;obtain⟨j,hj,rfl⟩:=h1 a ha;rw [aN.1 hb];have a1:=hs j (m-1) (by omega) (by omega);have a2:=hs (m-1) m (by omega) (by omega);rcases hk' with h|h
    ·omega
    ·omega
theorem rz (l:List Int) (hs:l.Pairwise (·<=·)):(O l).Pairwise (·<·)/\(∀ x,x∈O l↔x∈l)/\(O l).length<=l.length:=by
 have hd:∀ i j,i<=j->j<l.length->l.toArray[i]!<=l.toArray[j]!:=by
  intro i j hij hj;rw [getElem!_pos l.toArray i (by simp; omega),getElem!_pos l.toArray j (by simpa using hj)];rcases Nat.lt_or_ge i j with h|h
  ·have:=List.pairwise_iff_getElem.1 hs i j (by omega) hj h;simpa using this
  ·obtain rfl:i=j:=by omega
   exact Int.le_refl _
 obtain⟨h1,h2,h3⟩:=pY l.toArray l.length hd l.length (Nat.le_refl _);refine⟨h3,fun x=>⟨fun hx=>?_,fun hx=>?_⟩,?_⟩
 ·obtain⟨j,hj,rfl⟩:=h1 x hx;rw [getElem!_pos l.toArray j (by simpa using hj)];simp
 ·obtain⟨j,hj,rfl⟩:=List.mem_iff_getElem.1 hx;have:=h2 j hj;rw [getElem!_pos l.toArray j (by simpa using hj)] at this;simpa [O] using this
 ·unfold O aB;rw [List.length_map];exact Nat.le_trans (List.length_filter_le _ _) (by simp)
theorem p8 (w:aJ) (B:Nat) (v:Sl) (l:List Int) (h:gK w B (dz v) l) (hs:l.Pairwise (·<=·)) (hlen:l.length<=900):Calls Try.prog 17 #[dz v] w fun e w'=>(∃ v':Sl,e=.returned (dz v')/\∃ l':List Int,gK w' B (dz v') l'/\l'.Pairwise (·<·)/\∀ x,x∈l'↔x∈l)/\w.grownBy w' (dz v).ownBlock:=by
 obtain⟨vo,vn,vc⟩:=v;rcases eH h with⟨h0,rfl⟩|⟨g,cap,cur,h0,h1,h2,h3,h4,h5,h6⟩
 ·obtain⟨rfl,rfl,rfl⟩:vo=V/\vn=0/\vc=0:=by simpa using h0
  have hc:=Any.slices_Compact_int_empty Try.cptI V 0 w;refine Calls.mono hc ?_;rintro e w' ⟨rfl,rfl⟩;exact⟨⟨(V,0,0),rfl,[],h,List.Pairwise.nil,fun _=>Iff.rfl⟩,Rw.jC _ _⟩
 ·obtain⟨rfl,rfl,rfl⟩:vo=U ⟨g,0,V⟩/\vn=l.length/\vc=cap:=by simpa using h0
  obtain⟨hh,hlt⟩:=nM Nm.wH (au aG) l.toArray (by rw [o9]) h;have hc:=Any.slices_Compact_int Try.cptI g 0 vc l w hh (by omega) h3;obtain⟨c1,c2,c3⟩:=rz l hs;refine Calls.mono hc ?_;rintro e w' ⟨rfl,n,rfl⟩;have ht:=lU Nm.wH (l':=O l++aH (l.length-(O l).length) 0) h (au aG) (O l++aH (l.length-(O l).length) 0).toArray (by rw [o9]) (by rw [aO,List.length_replicate]; omega) n #[];have hg:grow (putRow (au aG) (aA w n) g 0 (O l++aH (l.length-(O l).length) 0).toArray) #[]=putRow (au aG) (aA w n) g 0 (O l++aH (l.length-(O l).length) 0).toArray:=grow_empty _;rw [hg] at ht;refine⟨⟨(U ⟨g,0,V⟩,(O l).length,vc),rfl,O l,?_,c1,c2⟩,ht.2⟩;rcases eH ht.1 with⟨e,_⟩|⟨g',cap',cur',e,k1,k2,k3,k4,k5,k6⟩
  ·cases e
  ·obtain⟨rfl,_,rfl⟩:g=g'/\l.length=_/\vc=cap':=by simpa using e
   refine jK Nm.wH rfl k1 k2 (Nat.le_trans c3 h3) k4 k5 ?_;have k7:=congrArg (List.take ((O l).length * EI.n)) k6;rw [List.take_take,j6 Nm.wH,Nat.min_eq_left (Nat.mul_le_mul_right _ (by rw [aO]; omega)),List.take_left'] at k7
   ·exact k7
   ·rfl
end Av
namespace Rl
open Go.RowKit Pu Pr
def zC (p:List Cn) (n:ByteArray):Option Cn:=p.find? fun c=>decide (c.1=n)
theorem xG {p:List Cn} {n:ByteArray} {y:Cn} (h:zC p n=U y):y∈p/\y.1=n:=⟨List.mem_of_find?_eq_some h,by simpa using List.find?_some h⟩
theorem D5 {p:List Cn} {n:ByteArray} {k:Nat} {y:Cn} (hk:p[k]?=U y) (he:y.1=n) (hn:∀ (j:Nat) (z:Cn),j<k->p[j]?=U z->z.1≠n):zC p n=U y:=by
 unfold zC;rw [List.find?_eq_some_iff_getElem];obtain⟨hlt,hy⟩:=ah.1 hk;refine⟨by simpa using he,k,hlt,hy,fun j hj=>?_⟩;have:=hn j p[j] hj (aI (by omega));simpa using this
theorem zN {p:List Cn} {n:ByteArray} (hn:∀ (j:Nat) (z:Cn),j<p.length->p[j]?=U z->z.1≠n):zC p n=V:=by
 unfold zC;rw [aP];intro x hx;obtain⟨j,hj,e⟩:=List.getElem_of_mem hx;have:=hn j x hj (by rw [aI hj,e]);simpa using this
def rA (b:List Cn) (x:Cn):Bool:=match zC b x.1 with
 | some y=>fF y.2 x.2
 | none=>false
theorem uR {a b:List Cn} (hb:su b):jS a b=a.all (rA b):=by
 unfold jS
 congr 1
 funext x
 unfold rA;cases hf:zC b x.1 with
 | none =>
  rw [List.any_eq_false];intro y hy;have:=aP.1 hf y hy;simp only [decide_eq_true_eq] at this;simp [this]
 | some y =>
  obtain⟨h1,h2⟩:=xG hf;rw [aL,List.any_eq_true];constructor
  ·rintro⟨z,hz,h3⟩;simp only [aK,decide_eq_true_eq] at h3;rw [DR hb h1 hz (h2.trans h3.1.symm)];exact h3.2
  ·intro h3;exact⟨y,h1,by simp [h2,h3]⟩
theorem rC {n:ByteArray} {c d k:Kd} (hc:fJ c=true) (hd:fJ d=true) (h:eu c d=U k):wO (r5 (n,k)) (r5 (n,d))=fF d c:=by
 obtain⟨k1,k2⟩:=uo c d k hc hd h;rw [aL,wP];constructor
 ·intro e;have e2:=Bt e;obtain rfl:k=d:=congrArg Prod.snd e2;exact mY k c hd fun v hv=>by rw [k2,aK] at hv; exact hv.1
 ·intro hi;have:k=d:=qP k d k1 hd fun v=>by
   rw [k2,aL,aK];exact⟨fun h=>h.2,fun h=>⟨jy d c hi v h,h⟩⟩
  rw [this]
theorem rD {c d:Kd} (hd:fJ d=true) (h:eu c d=V):fF d c=false:=by
 rw [Bool.eq_false_iff];intro hi;obtain⟨v,hv⟩:=qO d hd;have:=uq c d h v;rw [hv,jy d c hi v hv] at this;cases this
/-! ### samples -/
/-! ### both together -/
end Rl
end Go.Proofs.Ytkcfgbddlpomgaa
