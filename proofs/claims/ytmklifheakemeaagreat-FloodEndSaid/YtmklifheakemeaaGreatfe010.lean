/-
  The region of Learn . Conditions as told.
-/
import Derived.Test.YtmklifheakemeaaGreatfe004
import Derived.Test.YtmklifheakemeaaGreatfe005
import Derived.Lib.QuietBelow
import Derived.BigQuiet
set_option maxRecDepth 100000
set_option maxHeartbeats 64000000
open _root_.Bool renaming and_eq_true->aH
open _root_.Go renaming Value->aF,World->aN,Addr->aT
open Go.Instr renaming sliceAt->aD
open Go.IntKind renaming i64->aC
open Go.Lib renaming hid->ah
open Go.Operand renaming tmp->O
open Go.Proofs.Tryz renaming prog->aG
open Go.Proofs.YtmklifheakemeaaGreat.Rg renaming dD->aj,dR->aP,dX->aR,fZ->aS,iU->aU,gy->aV,kF->aW,fH->aX,dN->aY
open Go.RowKit.Below renaming refl->J,heap_setCell->ak
open Go.Value renaming pointer->L,slice->au,int->aB
open _root_.List renaming getElem?_toArray->U,getElem?_cons_zero->Y,getElem?_cons_succ->Z,length_take->aA,length_singleton->aI,length_append->aL,length_drop->aO
open _root_.Nat renaming le_refl->aJ,lt_of_le_of_lt->aM,le_of_lt->aQ
open _root_.Option renaming some->V,none->X
open _root_.Or renaming inr->ay,inl->aK
namespace Go.Proofs.YtmklifheakemeaaGreat
namespace Bk
open Go.RowKit Rw YtmklifheakemeaaGreat.Nm Pr
def Nf (B b2 b3:Nat) (so:Option aT) (sn sc at_:Nat) (lo hiv:aF) (z:fC) (lt ld:List fC) (i:Nat) (v:aF) (x:aN):Prop :=
 match i with
 | 0=>∃ g,v=au (V ⟨g,0,X⟩) 0 0/\B<=g/\dK x g #[] 31
 | 1=>v=L (V ⟨b2,3,X⟩)
 | 2=>v=au so sn sc
 | 3=>v=aB aC (at_:Int)
 | 4=>v=lo
 | 5=>sG x B v lt
 | 6=>v=L (V ⟨b3,0,X⟩)
 | 7=>v=RF z
 | 8=>sG x B v [z]
 | 9=>sG x B v (lt++[z])
 | 10=>v=L (V ⟨b2,3,X⟩)
 | 11=>v=au so sn sc
 | 12=>v=aB aC (at_:Int)
 | 13=>v=hiv
 | 14=>sG x B v (lt++[z]++ld)
 | 15=>v=L (V ⟨b2,3,X⟩)
 | _=>True
noncomputable def ZN:Code:=((Tryz.f45.body.bind (eO 6)).getD .skip)
theorem Sr (B b2 b3:Nat) (so:Option aT) (sn sc at_:Nat) (lo hiv:aF) (z:fC) (lt ld:List fC) (i:Nat) (v:aF) (x x':aN) (h:Nf B b2 b3 so sn sc at_ lo hiv z lt ld i v x) (hb:Below x.heap.size x x'):Nf B b2 b3 so sn sc at_ lo hiv z lt ld i v x':=by
 by_cases hi:i<16
 ·rcases (by omega:i=0\/i=1\/i=2\/i=3\/i=4\/i=5\/i=6\/i=7\/i=8\/i=9\/i=10\/i=11\/i=12\/i=13\/i=14\/i=15) with rfl|rfl|rfl|rfl|rfl|rfl|rfl|rfl|rfl|rfl|rfl|rfl|rfl|rfl|rfl|rfl
  ·obtain⟨g,h1,h2,h3⟩:=h;exact⟨g,h1,h2,h3.on hb⟩
  ·exact h
  ·exact h
  ·exact h
  ·exact h
  ·exact dI h hb
  ·exact h
  ·exact h
  ·exact dI h hb
  ·exact dI h hb
  ·exact h
  ·exact h
  ·exact h
  ·exact h
  ·exact dI h hb
  ·exact h
 ·unfold Nf
  split <;> first | omega | trivial
theorem agy (Q:Exit->Act->aN->Prop) (W:aN) (b2 b3:Nat) (me:Int) (y1 y2 y4 y5:aF) (so:Option aT) (sn sc at_:Nat) (l:List fC) (z:fC) (u0 u1 u4 u5 u7 u8 u9 u10 u11 u12 u13 u14 u15 u16 u17 u18 u19 u20 u21 u22 u23 u24 u25 u26 u27 u28 u29 u30 u31 u32 u33 u34 u35 u36 u37 u38 u39 u40 u41 u42 u43 u44 u45 u46 u47 u48 u49 u50 u51 u52 u53 u54 u55 u56 u57 u58 u59 u60 u61 u62 u63 u64 u65 u66 u67 u68 u69 u70 u71 u72 u73 u74 u75 u76 u77 u78:aF)
  (h2:dK W b2 #[aB aC me,y1,y2,au so sn sc,y4,y5] 28) (hx:∀ x,Below W.heap.size W x->∀ j u,(jO z)[j]?=V u->x.cell? ((⟨b3,0,X⟩:aT).add j)=V u) (hs:vT W (au so sn sc) l) (hat:at_<=l.length) (hlen:l.length<=900)
  (hQ:∀ (x:aN) (v29 v30 v31 v32 v33 v34 v35 v36 v37 v38 v39 v40 v41 v42 v43 v44:aF),dK x b2 #[aB aC me,y1,y2,v43,y4,y5] 28->sG x W.heap.size v43 (l.take at_++[z]++l.drop at_)->(∀ B,B<=b2->Below B W x)->(∀ c cs t,c≠b2->dK W c cs t->dK x c cs t)->(∀ k,k<W.heap.size->k≠b2->x.heap[k]?=W.heap[k]?)->Q .normal ⟨(u0::u1::L (V ⟨b2,0,X⟩)::L (V ⟨b3,0,X⟩)::u4::u5::aB aC (at_:Int)::u7::u8::u9::u10::u11::u12::u13::u14::u15::u16::u17::u18::u19::u20::u21::u22::u23::u24::u25::u26::u27::u28::v29::v30::v31::v32::v33::v34::v35::v36::v37::v38::v39::v40::v41::v42::v43::v44::u45::u46::u47::u48::u49::u50::u51::u52::u53::u54::u55::u56::u57::u58::u59::u60::u61::u62::u63::u64::u65::u66::u67::u68::u69::u70::u71::u72::u73::u74::u75::u76::u77::u78::[]).toArray,[]⟩ x) :
  Code.wp aG ZN Q ⟨(u0::u1::L (V ⟨b2,0,X⟩)::L (V ⟨b3,0,X⟩)::u4::u5::aB aC (at_:Int)::u7::u8::u9::u10::u11::u12::u13::u14::u15::u16::u17::u18::u19::u20::u21::u22::u23::u24::u25::u26::u27::u28::u29::u30::u31::u32::u33::u34::u35::u36::u37::u38::u39::u40::u41::u42::u43::u44::u45::u46::u47::u48::u49::u50::u51::u52::u53::u54::u55::u56::u57::u58::u59::u60::u61::u62::u63::u64::u65::u66::u67::u68::u69::u70::u71::u72::u73::u74::u75::u76::u77::u78::[]).toArray,[]⟩ W:=by
 have HQ:=ah hQ;have H2:=ah h2;have LX:=ah hx;obtain⟨lo,Dc,wB⟩:=vS CY hs at_ (by omega);obtain⟨hiv,Df,xX⟩:=qp CY hs (at_) hat;have LT:=ah (show (l.take at_).length<=1000 by rw [aA]; omega);have Sc:=ah (show (l.take at_).length<=900 by rw [aA]; omega);have LD:=ah (show (l.drop (at_)).length<=1000 by rw [aO]; omega);generalize l.take at_=lt at *;generalize l.drop (at_)=ld at *;have SL:=ah Dc;have SH:=ah Df;have RL:=ah wB;have RH:=ah xX;clear hQ h2 hx hs Dc Df wB xX hat hlen;have iQ:=Sr W.heap.size b2 b3 so sn sc at_ lo hiv z lt ld;unfold ZN
 conv=>arg 2; whnf
 have nd:∀ j,(j<29\/45<=j)->∀ i,i<16->(fun i=>29+i) i≠j:=by
  intro j hj i hi h;simp only at h;omega
 refine Rg.fQ 17 16 (fun i=>29+i) (fun i=>if i=0 then 5 else if i=5 then 9 else if i=8 then 9 else if i=9 then 14 else 16) (Nf W.heap.size b2 b3 so sn sc at_ lo hiv z lt ld) (by kernel_rfl) (by kernel_rfl) rfl (by decide) (fun i j _ _ h=>by have h2:29+i=29+j:=h; omega) (fun i hi=>by show 29+i<79; omega) ?_ (fun _=>Rg.jl 1 (by kernel_rfl)) (fun kk o h1 h2=>by omega) ?_
 ·intro i o hi ho a x D hnd hc hD hb seen K hK;clear HQ;rcases (by omega:i=0\/i=1\/i=2\/i=3\/i=4\/i=5\/i=6\/i=7\/i=8\/i=9\/i=10\/i=11\/i=12\/i=13\/i=14\/i=15) with rfl|rfl|rfl|rfl|rfl|rfl|rfl|rfl|rfl|rfl|rfl|rfl|rfl|rfl|rfl|rfl
  ·cases ho;exact aj rfl rfl (aU a.eval _ 24 0 #[] rfl rfl (by simp [go_sem])) (hK (au (V ⟨x.heap.size,0,X⟩) 0 0) (x.alloc (.cells #[] 31)) ⟨x.heap.size,rfl,hb.size,dJ x #[] 31⟩ ((J _ _).alloc hb.size _) fun j u _ _ _ _ _ h=>iQ j u _ _ h ((J _ _).alloc (aJ _) _))
  ·cases ho;have e2:a.eval (O 2)=L (V ⟨b2,0,X⟩):=seen.kp 2 _ (nd 2 (by omega)) rfl;exact aj rfl rfl (aP a.eval _ 28 (O 2) 3 rfl (by rw [e2]; simp [go_sem])) (hK _ _ rfl (J _ _) fun _ _ _ _ _ _ _ h=>h)
  ·cases ho;have e30:a.eval (O 30)=L (V ⟨b2,3,X⟩):=seen.at_ ⟨1,.data⟩ (by simp) rfl (ay (by decide));have y:=(H2.out.on hb).cell 3;simp only [U,Y,Z] at y;exact aj rfl rfl (aR a.eval _ 24 (O 30) rfl (by rw [e30]; simp [go_sem,y])) (hK _ _ rfl (J _ _) fun _ _ _ _ _ _ _ h=>h)
  ·cases ho;have e6:a.eval (O 6)=aB aC (at_:Int):=seen.kp 6 _ (nd 6 (by omega)) rfl;exact aj rfl rfl (aV a.eval _ (O 6) rfl x) (hK _ _ e6 (J _ _) fun _ _ _ _ _ _ _ h=>h)
  ·cases ho;have e31:a.eval (O 31)=au so sn sc:=seen.at_ ⟨2,.data⟩ (by simp) rfl (ay (by decide));have e32:a.eval (O 32)=aB aC (at_:Int):=seen.at_ ⟨3,.data⟩ (by simp) rfl (ay (by decide));exact aj rfl rfl (aW a.eval _ 24 (O 31) X (V (O 32)) X rfl (by show (aD 24 (a.eval (O 31)) X (V (a.eval (O 32))) X).run aG x=.ok lo x; rw [e31,e32]; exact SL.out x)) (hK _ _ rfl (J _ _) fun _ _ _ _ _ _ _ h=>h)
  ·cases ho;obtain⟨g,q0,hBg,hbx⟩:=seen.at_ ⟨0,.data⟩ (by simp) rfl (aK rfl);have q0:a.eval (O 29)=au (V ⟨g,0,X⟩) 0 0:=q0;have e33:a.eval (O 33)=lo:=seen.at_ ⟨4,.data⟩ (by simp) rfl (ay (by decide));obtain⟨v',x',r,o',gr⟩:=iY CY W.heap.size hbx hBg (RL.out.on hb) LT.out 24;exact aj rfl rfl (aS a.eval _ (O 29) (O 33) 24 rfl q0 e33 r) (hK v' x' o' (gr.mono hb.size) fun j u _ _ _ _ _ h=>iQ j u _ _ h gr)
  ·cases ho;have e3:a.eval (O 3)=L (V ⟨b3,0,X⟩):=seen.kp 3 _ (nd 3 (by omega)) rfl;exact aj rfl rfl (aP a.eval _ 74 (O 3) 0 rfl (by rw [e3]; simp [go_sem])) (hK _ _ rfl (J _ _) fun _ _ _ _ _ _ _ h=>h)
  ·cases ho;have e35:a.eval (O 35)=L (V ⟨b3,0,X⟩):=seen.at_ ⟨6,.data⟩ (by simp) rfl (ay (by decide));exact aj rfl rfl (aR a.eval _ 31 (O 35) rfl (by rw [e35]; exact Dw x _ z (LX.out x hb))) (hK _ _ rfl (J _ _) fun _ _ _ _ _ _ _ h=>h)
  ·cases ho;have e36:a.eval (O 36)=RF z:=seen.at_ ⟨7,.data⟩ (by simp) rfl (ay (by decide));have hl:=iF CY x [z] 1 rfl (by simp) (jO z).toArray (by simp [flat,EJ]);have hl:sG (x.alloc (.cells (jO z).toArray 31)) x.heap.size (au (V ⟨x.heap.size,0,X⟩) 1 1) [z]:=hl;exact aj rfl rfl (aU a.eval _ 24 1 #[(0,O 36)] rfl (ps:=#[(0,RF z)]) (by simp [e36]) (by simp [go_sem])) (hK (au (V ⟨x.heap.size,0,X⟩) 1 1) (x.alloc (.cells (jO z).toArray 31)) (dO hl hb.size) ((J _ _).alloc hb.size _) fun j u _ _ _ _ _ h=>iQ j u _ _ h ((J _ _).alloc (aJ _) _))
  ·cases ho;have o34:sG x W.heap.size (a.eval (O 34)) (lt):=seen.at_ ⟨5,.data⟩ (by simp) rfl (aK rfl);have o37:sG x W.heap.size (a.eval (O 37)) ([z]):=seen.at_ ⟨8,.data⟩ (by simp) rfl (aK rfl);have ox:=Row.dH o37;obtain⟨v',x',r,o',gr⟩:=gJ CY W.heap.size o34 ox (by have:=LT.out; omega) (by simp) hb.size 24;exact aj rfl rfl (aS a.eval _ (O 34) (O 37) 24 rfl rfl rfl r) (hK v' x' o' ((J _ x).grown gr hb.size fun j hj=>(o34.lt j hj).1) fun j u hj dj nl nx ni h=>by
    rcases (by omega:j=0\/j=1\/j=2\/j=3\/j=4\/j=5\/j=6\/j=7\/j=8\/j=9\/j=10\/j=11\/j=12\/j=13\/j=14\/j=15) with rfl|rfl|rfl|rfl|rfl|rfl|rfl|rfl|rfl|rfl|rfl|rfl|rfl|rfl|rfl|rfl
    ·exact absurd rfl (fun _:(0:Nat)=0=>nl (hc 5 _ (hD ⟨5,.data⟩ (by simp) rfl) rfl ⟨0,.data⟩ (by simp) rfl |> fun _=>hD ⟨5,.data⟩ (by simp) rfl))
    ·exact h
    ·exact h
    ·exact h
    ·exact h
    ·exact absurd rfl (fun _:(0:Nat)=0=>nx rfl)
    ·exact h
    ·exact h
    ·exact absurd rfl (fun _:(0:Nat)=0=>nx rfl)
    ·exact absurd rfl (fun _:(0:Nat)=0=>ni rfl)
    ·exact h
    ·exact h
    ·exact h
    ·exact h
    ·exact absurd rfl (fun _:(0:Nat)=0=>hnd (hc 14 _ dj rfl ⟨9,.data⟩ (by simp) rfl))
    ·exact h)
  ·cases ho;have e2:a.eval (O 2)=L (V ⟨b2,0,X⟩):=seen.kp 2 _ (nd 2 (by omega)) rfl;exact aj rfl rfl (aP a.eval _ 28 (O 2) 3 rfl (by rw [e2]; simp [go_sem])) (hK _ _ rfl (J _ _) fun _ _ _ _ _ _ _ h=>h)
  ·cases ho;have e39:a.eval (O 39)=L (V ⟨b2,3,X⟩):=seen.at_ ⟨10,.data⟩ (by simp) rfl (ay (by decide));have y:=(H2.out.on hb).cell 3;simp only [U,Y,Z] at y;exact aj rfl rfl (aR a.eval _ 24 (O 39) rfl (by rw [e39]; simp [go_sem,y])) (hK _ _ rfl (J _ _) fun _ _ _ _ _ _ _ h=>h)
  ·cases ho;have e6:a.eval (O 6)=aB aC (at_:Int):=seen.kp 6 _ (nd 6 (by omega)) rfl;exact aj rfl rfl (aV a.eval _ (O 6) rfl x) (hK _ _ e6 (J _ _) fun _ _ _ _ _ _ _ h=>h)
  ·cases ho;have e40:a.eval (O 40)=au so sn sc:=seen.at_ ⟨11,.data⟩ (by simp) rfl (ay (by decide));have e41:a.eval (O 41)=aB aC (at_:Int):=seen.at_ ⟨12,.data⟩ (by simp) rfl (ay (by decide));exact aj rfl rfl (aW a.eval _ 24 (O 40) (V (O 41)) X X rfl (by show (aD 24 (a.eval (O 40)) (V (a.eval (O 41))) X X).run aG x=.ok hiv x; rw [e40,e41]; exact SH.out x)) (hK _ _ rfl (J _ _) fun _ _ _ _ _ _ _ h=>h)
  ·cases ho;have o38:sG x W.heap.size (a.eval (O 38)) ((lt++[z])):=seen.at_ ⟨9,.data⟩ (by simp) rfl (aK rfl);have e42:a.eval (O 42)=hiv:=seen.at_ ⟨13,.data⟩ (by simp) rfl (ay (by decide));have ox:vT x (a.eval (O 42)) ld:=by rw [e42]; exact RH.out.on hb
   obtain⟨v',x',r,o',gr⟩:=gJ CY W.heap.size o38 ox (by have:=Sc.out; rw [aL,aI]; omega) LD.out hb.size 24;exact aj rfl rfl (aS a.eval _ (O 38) (O 42) 24 rfl rfl rfl r) (hK v' x' o' ((J _ x).grown gr hb.size fun j hj=>(o38.lt j hj).1) fun j u hj dj nl nx ni h=>by
    rcases (by omega:j=0\/j=1\/j=2\/j=3\/j=4\/j=5\/j=6\/j=7\/j=8\/j=9\/j=10\/j=11\/j=12\/j=13\/j=14\/j=15) with rfl|rfl|rfl|rfl|rfl|rfl|rfl|rfl|rfl|rfl|rfl|rfl|rfl|rfl|rfl|rfl
    ·exact absurd rfl (fun _:(0:Nat)=0=>nl (hc 9 _ (hD ⟨9,.data⟩ (by simp) rfl) rfl ⟨5,.data⟩ (by simp) rfl))
    ·exact h
    ·exact h
    ·exact h
    ·exact h
    ·exact absurd rfl (fun _:(0:Nat)=0=>nl (hD ⟨9,.data⟩ (by simp) rfl))
    ·exact h
    ·exact h
    ·exact absurd rfl (fun _:(0:Nat)=0=>nl (hD ⟨9,.data⟩ (by simp) rfl))
    ·exact absurd rfl (fun _:(0:Nat)=0=>nx rfl)
    ·exact h
    ·exact h
    ·exact h
    ·exact h
    ·exact absurd rfl (fun _:(0:Nat)=0=>ni rfl)
    ·exact h)
  ·cases ho;have e2:a.eval (O 2)=L (V ⟨b2,0,X⟩):=seen.kp 2 _ (nd 2 (by omega)) rfl;exact aj rfl rfl (aP a.eval _ 28 (O 2) 3 rfl (by rw [e2]; simp [go_sem])) (hK _ _ rfl (J _ _) fun _ _ _ _ _ _ _ h=>h)
 ·intro a w' df sz kp ⟨vs,hv⟩ hb;have gr:a.tmps[43]?=V (vs 14):=(hv 14 (by omega)).1;have gp:a.tmps[44]?=V (L (V ⟨b2,3,X⟩)):=by
   have h:vs 15=L (V ⟨b2,3,X⟩):=(hv 15 (by omega)).2 (by decide);rw [<- h];exact (hv 15 (by omega)).1
  have oR:sG w' W.heap.size (vs 14) (lt++[z]++ld):=(hv 14 (by omega)).2 (by decide);generalize vs 14=xR at *;obtain⟨ca,cp,eR⟩:=(Row.dH oR).len;have hbx:=H2.out.on hb;have hblt:=H2.out.lt;have c5:=hbx.cell 3;have f5:=hbx.fr 3;simp only [U,Y,Z] at c5;have hb1:=dW (k:=3) hbx xR;show aX _ _ _ 1 16 a w';simp only [aX];refine Rg.fP 24 (O 44) (O 43) rfl rfl rfl rfl (aY gp) (aY gr) (w':=w'.setCell ⟨b2,3,X⟩ xR) (by rw [eR]; simp [go_sem,c5,f5]) ?_;have rV:∀ j,(j<29\/45<=j)->a.tmps[j]?=(u0::u1::L (V ⟨b2,0,X⟩)::L (V ⟨b3,0,X⟩)::u4::u5::aB aC (at_:Int)::u7::u8::u9::u10::u11::u12::u13::u14::u15::u16::u17::u18::u19::u20::u21::u22::u23::u24::u25::u26::u27::u28::u29::u30::u31::u32::u33::u34::u35::u36::u37::u38::u39::u40::u41::u42::u43::u44::u45::u46::u47::u48::u49::u50::u51::u52::u53::u54::u55::u56::u57::u58::u59::u60::u61::u62::u63::u64::u65::u66::u67::u68::u69::u70::u71::u72::u73::u74::u75::u76::u77::u78::[])[j]?:=fun j hj=>(kp j (nd j hj)).trans U;obtain⟨mid,hmid,rfl⟩:=Rg.gI 29 16 df sz (by simp) rV
  match mid,hmid with
  | [v29,v30,v31,v32,v33,v34,v35,v36,v37,v38,v39,v40,v41,v42,v43,v44],_ =>
   have e1:V v43=V xR:=gr;obtain rfl:=Option.some.inj e1;refine HQ.out _ v29 v30 v31 v32 v33 v34 v35 v36 v37 v38 v39 v40 v41 v42 v43 v44 ?_ ?_ ?_ ?_ ?_
   ·simpa using hb1
   ·exact eF oR b2 3 _ hblt
   ·exact fun B hB=>(hb.mono (aQ (aM hB hblt))).setCell hB _
   ·intro c cs t hc hbc;exact (ak _ _ _ _ hc).trans (hbc.on hb)
   ·intro k hk hne;exact (ak _ _ _ _ hne).trans (hb.block k hk)
def FY (B b2 _b3:Nat) (so:Option aT) (sn sc at_:Nat) (lo hiv:aF) (z:jD) (lt ld:List jD) (i:Nat) (v:aF) (x:aN):Prop :=
 match i with
 | 0=>∃ g,v=au (V ⟨g,0,X⟩) 0 0/\B<=g/\dK x g #[] 74
 | 1=>v=L (V ⟨b2,2,X⟩)
 | 2=>v=au so sn sc
 | 3=>v=aB aC (at_:Int)
 | 4=>v=lo
 | 5=>lZ x B v lt
 | 6=>v=mJ z
 | 7=>lZ x B v [z]
 | 8=>lZ x B v (lt++[z])
 | 9=>v=L (V ⟨b2,2,X⟩)
 | 10=>v=au so sn sc
 | 11=>v=aB aC (at_:Int)
 | 12=>v=hiv
 | 13=>lZ x B v (lt++[z]++ld)
 | 14=>v=L (V ⟨b2,2,X⟩)
 | _=>True
noncomputable def Sv:Code:=((Tryz.f45.body.bind (eO 10)).getD .skip)
theorem PZ (B b2 b3:Nat) (so:Option aT) (sn sc at_:Nat) (lo hiv:aF) (z:jD) (lt ld:List jD) (i:Nat) (v:aF) (x x':aN) (h:FY B b2 b3 so sn sc at_ lo hiv z lt ld i v x) (hb:Below x.heap.size x x'):FY B b2 b3 so sn sc at_ lo hiv z lt ld i v x':=by
 by_cases hi:i<15
 ·rcases (by omega:i=0\/i=1\/i=2\/i=3\/i=4\/i=5\/i=6\/i=7\/i=8\/i=9\/i=10\/i=11\/i=12\/i=13\/i=14) with rfl|rfl|rfl|rfl|rfl|rfl|rfl|rfl|rfl|rfl|rfl|rfl|rfl|rfl|rfl
  ·obtain⟨g,h1,h2,h3⟩:=h;exact⟨g,h1,h2,h3.on hb⟩
  ·exact h
  ·exact h
  ·exact h
  ·exact h
  ·exact dI h hb
  ·exact h
  ·exact dI h hb
  ·exact dI h hb
  ·exact h
  ·exact h
  ·exact h
  ·exact h
  ·exact dI h hb
  ·exact h
 ·unfold FY
  split <;> first | omega | trivial
theorem ael (Q:Exit->Act->aN->Prop) (W:aN) (b2 b3:Nat) (me:Int) (y1 y3 y4 y5:aF) (so:Option aT) (sn sc at_:Nat) (l:List jD) (z:jD) (u0 u1 u4 u5 u7 u8 u9 u10 u11 u12 u13 u14 u15 u16 u17 u18 u19 u20 u21 u22 u23 u24 u25 u26 u27 u28 u29 u30 u31 u32 u33 u34 u35 u36 u37 u38 u39 u40 u41 u42 u43 u44 u45 u46 u47 u48 u49 u50 u51 u52 u53 u54 u55 u56 u57 u58 u59 u60 u61 u62 u63 u64 u65 u66 u67 u68 u69 u70 u71 u72 u73 u74 u75 u76 u77 u78:aF)
  (h2:dK W b2 #[aB aC me,y1,au so sn sc,y3,y4,y5] 28) (hx:∀ x,Below W.heap.size W x->∀ j u,(cellsD z)[j]?=V u->x.cell? ((⟨b3,0,X⟩:aT).add j)=V u) (hs:wG W (au so sn sc) l) (hat:at_<=l.length) (hlen:l.length<=900)
  (hQ:∀ (x:aN) (v63 v64 v65 v66 v67 v68 v69 v70 v71 v72 v73 v74 v75 v76 v77:aF),dK x b2 #[aB aC me,y1,v76,y3,y4,y5] 28->lZ x W.heap.size v76 (l.take at_++[z]++l.drop at_)->(∀ B,B<=b2->Below B W x)->(∀ c cs t,c≠b2->dK W c cs t->dK x c cs t)->(∀ k,k<W.heap.size->k≠b2->x.heap[k]?=W.heap[k]?)->Q .normal ⟨(u0::u1::L (V ⟨b2,0,X⟩)::L (V ⟨b3,0,X⟩)::u4::u5::aB aC (at_:Int)::u7::u8::u9::u10::u11::u12::u13::u14::u15::u16::u17::u18::u19::u20::u21::u22::u23::u24::u25::u26::u27::u28::u29::u30::u31::u32::u33::u34::u35::u36::u37::u38::u39::u40::u41::u42::u43::u44::u45::u46::u47::u48::u49::u50::u51::u52::u53::u54::u55::u56::u57::u58::u59::u60::u61::u62::v63::v64::v65::v66::v67::v68::v69::v70::v71::v72::v73::v74::v75::v76::v77::u78::[]).toArray,[]⟩ x) :
  Code.wp aG Sv Q ⟨(u0::u1::L (V ⟨b2,0,X⟩)::L (V ⟨b3,0,X⟩)::u4::u5::aB aC (at_:Int)::u7::u8::u9::u10::u11::u12::u13::u14::u15::u16::u17::u18::u19::u20::u21::u22::u23::u24::u25::u26::u27::u28::u29::u30::u31::u32::u33::u34::u35::u36::u37::u38::u39::u40::u41::u42::u43::u44::u45::u46::u47::u48::u49::u50::u51::u52::u53::u54::u55::u56::u57::u58::u59::u60::u61::u62::u63::u64::u65::u66::u67::u68::u69::u70::u71::u72::u73::u74::u75::u76::u77::u78::[]).toArray,[]⟩ W:=by
 have HQ:=ah hQ;have H2:=ah h2;have LX:=ah hx;obtain⟨lo,Dc,wB⟩:=vS okD hs at_ (by omega);obtain⟨hiv,Df,xX⟩:=qp okD hs (at_) hat;have LT:=ah (show (l.take at_).length<=1000 by rw [aA]; omega);have Sc:=ah (show (l.take at_).length<=900 by rw [aA]; omega);have LD:=ah (show (l.drop (at_)).length<=1000 by rw [aO]; omega);generalize l.take at_=lt at *;generalize l.drop (at_)=ld at *;have SL:=ah Dc;have SH:=ah Df;have RL:=ah wB;have RH:=ah xX;clear hQ h2 hx hs Dc Df wB xX hat hlen;have iQ:=PZ W.heap.size b2 b3 so sn sc at_ lo hiv z lt ld;unfold Sv
 conv=>arg 2; whnf
 have nd:∀ j,(j<63\/78<=j)->∀ i,i<15->(fun i=>63+i) i≠j:=by
  intro j hj i hi h;simp only at h;omega
 refine Rg.fQ 16 15 (fun i=>63+i) (fun i=>if i=0 then 5 else if i=5 then 8 else if i=7 then 8 else if i=8 then 13 else 15) (FY W.heap.size b2 b3 so sn sc at_ lo hiv z lt ld) (by kernel_rfl) (by kernel_rfl) rfl (by decide) (fun i j _ _ h=>by have h2:63+i=63+j:=h; omega) (fun i hi=>by show 63+i<79; omega) ?_ (fun _=>Rg.jl 1 (by kernel_rfl)) (fun kk o h1 h2=>by omega) ?_
 ·intro i o hi ho a x D hnd hc hD hb seen K hK;clear HQ;rcases (by omega:i=0\/i=1\/i=2\/i=3\/i=4\/i=5\/i=6\/i=7\/i=8\/i=9\/i=10\/i=11\/i=12\/i=13\/i=14) with rfl|rfl|rfl|rfl|rfl|rfl|rfl|rfl|rfl|rfl|rfl|rfl|rfl|rfl|rfl
  ·cases ho;exact aj rfl rfl (aU a.eval _ 23 0 #[] rfl rfl (by simp [go_sem])) (hK (au (V ⟨x.heap.size,0,X⟩) 0 0) (x.alloc (.cells #[] 74)) ⟨x.heap.size,rfl,hb.size,dJ x #[] 74⟩ ((J _ _).alloc hb.size _) fun j u _ _ _ _ _ h=>iQ j u _ _ h ((J _ _).alloc (aJ _) _))
  ·cases ho;have e2:a.eval (O 2)=L (V ⟨b2,0,X⟩):=seen.kp 2 _ (nd 2 (by omega)) rfl;exact aj rfl rfl (aP a.eval _ 28 (O 2) 2 rfl (by rw [e2]; simp [go_sem])) (hK _ _ rfl (J _ _) fun _ _ _ _ _ _ _ h=>h)
  ·cases ho;have e64:a.eval (O 64)=L (V ⟨b2,2,X⟩):=seen.at_ ⟨1,.data⟩ (by simp) rfl (ay (by decide));have y:=(H2.out.on hb).cell 2;simp only [U,Y,Z] at y;exact aj rfl rfl (aR a.eval _ 23 (O 64) rfl (by rw [e64]; simp [go_sem,y])) (hK _ _ rfl (J _ _) fun _ _ _ _ _ _ _ h=>h)
  ·cases ho;have e6:a.eval (O 6)=aB aC (at_:Int):=seen.kp 6 _ (nd 6 (by omega)) rfl;exact aj rfl rfl (aV a.eval _ (O 6) rfl x) (hK _ _ e6 (J _ _) fun _ _ _ _ _ _ _ h=>h)
  ·cases ho;have e65:a.eval (O 65)=au so sn sc:=seen.at_ ⟨2,.data⟩ (by simp) rfl (ay (by decide));have e66:a.eval (O 66)=aB aC (at_:Int):=seen.at_ ⟨3,.data⟩ (by simp) rfl (ay (by decide));exact aj rfl rfl (aW a.eval _ 23 (O 65) X (V (O 66)) X rfl (by show (aD 23 (a.eval (O 65)) X (V (a.eval (O 66))) X).run aG x=.ok lo x; rw [e65,e66]; exact SL.out x)) (hK _ _ rfl (J _ _) fun _ _ _ _ _ _ _ h=>h)
  ·cases ho;obtain⟨g,q0,hBg,hbx⟩:=seen.at_ ⟨0,.data⟩ (by simp) rfl (aK rfl);have q0:a.eval (O 63)=au (V ⟨g,0,X⟩) 0 0:=q0;have e67:a.eval (O 67)=lo:=seen.at_ ⟨4,.data⟩ (by simp) rfl (ay (by decide));obtain⟨v',x',r,o',gr⟩:=iY okD W.heap.size hbx hBg (RL.out.on hb) LT.out 23;exact aj rfl rfl (aS a.eval _ (O 63) (O 67) 23 rfl q0 e67 r) (hK v' x' o' (gr.mono hb.size) fun j u _ _ _ _ _ h=>iQ j u _ _ h gr)
  ·cases ho;have e3:a.eval (O 3)=L (V ⟨b3,0,X⟩):=seen.kp 3 _ (nd 3 (by omega)) rfl;exact aj rfl rfl (aR a.eval _ 74 (O 3) rfl (by rw [e3]; exact RG x _ z (LX.out x hb))) (hK _ _ rfl (J _ _) fun _ _ _ _ _ _ _ h=>h)
  ·cases ho;have e69:a.eval (O 69)=mJ z:=seen.at_ ⟨6,.data⟩ (by simp) rfl (ay (by decide));have hl:=iF okD x [z] 1 rfl (by simp) (cellsD z).toArray (by simp [flat,ED]);have hl:lZ (x.alloc (.cells (cellsD z).toArray 74)) x.heap.size (au (V ⟨x.heap.size,0,X⟩) 1 1) [z]:=hl;exact aj rfl rfl (aU a.eval _ 23 1 #[(0,O 69)] rfl (ps:=#[(0,mJ z)]) (by simp [e69]) (by simp [go_sem])) (hK (au (V ⟨x.heap.size,0,X⟩) 1 1) (x.alloc (.cells (cellsD z).toArray 74)) (dO hl hb.size) ((J _ _).alloc hb.size _) fun j u _ _ _ _ _ h=>iQ j u _ _ h ((J _ _).alloc (aJ _) _))
  ·cases ho;have o68:lZ x W.heap.size (a.eval (O 68)) (lt):=seen.at_ ⟨5,.data⟩ (by simp) rfl (aK rfl);have o70:lZ x W.heap.size (a.eval (O 70)) ([z]):=seen.at_ ⟨7,.data⟩ (by simp) rfl (aK rfl);have ox:=Row.dH o70;obtain⟨v',x',r,o',gr⟩:=gJ okD W.heap.size o68 ox (by have:=LT.out; omega) (by simp) hb.size 23;exact aj rfl rfl (aS a.eval _ (O 68) (O 70) 23 rfl rfl rfl r) (hK v' x' o' ((J _ x).grown gr hb.size fun j hj=>(o68.lt j hj).1) fun j u hj dj nl nx ni h=>by
    rcases (by omega:j=0\/j=1\/j=2\/j=3\/j=4\/j=5\/j=6\/j=7\/j=8\/j=9\/j=10\/j=11\/j=12\/j=13\/j=14) with rfl|rfl|rfl|rfl|rfl|rfl|rfl|rfl|rfl|rfl|rfl|rfl|rfl|rfl|rfl
    ·exact absurd rfl (fun _:(0:Nat)=0=>nl (hc 5 _ (hD ⟨5,.data⟩ (by simp) rfl) rfl ⟨0,.data⟩ (by simp) rfl |> fun _=>hD ⟨5,.data⟩ (by simp) rfl))
    ·exact h
    ·exact h
    ·exact h
    ·exact h
    ·exact absurd rfl (fun _:(0:Nat)=0=>nx rfl)
    ·exact h
    ·exact absurd rfl (fun _:(0:Nat)=0=>nx rfl)
    ·exact absurd rfl (fun _:(0:Nat)=0=>ni rfl)
    ·exact h
    ·exact h
    ·exact h
    ·exact h
    ·exact absurd rfl (fun _:(0:Nat)=0=>hnd (hc 13 _ dj rfl ⟨8,.data⟩ (by simp) rfl))
    ·exact h)
  ·cases ho;have e2:a.eval (O 2)=L (V ⟨b2,0,X⟩):=seen.kp 2 _ (nd 2 (by omega)) rfl;exact aj rfl rfl (aP a.eval _ 28 (O 2) 2 rfl (by rw [e2]; simp [go_sem])) (hK _ _ rfl (J _ _) fun _ _ _ _ _ _ _ h=>h)
  ·cases ho;have e72:a.eval (O 72)=L (V ⟨b2,2,X⟩):=seen.at_ ⟨9,.data⟩ (by simp) rfl (ay (by decide));have y:=(H2.out.on hb).cell 2;simp only [U,Y,Z] at y;exact aj rfl rfl (aR a.eval _ 23 (O 72) rfl (by rw [e72]; simp [go_sem,y])) (hK _ _ rfl (J _ _) fun _ _ _ _ _ _ _ h=>h)
  ·cases ho;have e6:a.eval (O 6)=aB aC (at_:Int):=seen.kp 6 _ (nd 6 (by omega)) rfl;exact aj rfl rfl (aV a.eval _ (O 6) rfl x) (hK _ _ e6 (J _ _) fun _ _ _ _ _ _ _ h=>h)
  ·cases ho;have e73:a.eval (O 73)=au so sn sc:=seen.at_ ⟨10,.data⟩ (by simp) rfl (ay (by decide));have e74:a.eval (O 74)=aB aC (at_:Int):=seen.at_ ⟨11,.data⟩ (by simp) rfl (ay (by decide));exact aj rfl rfl (aW a.eval _ 23 (O 73) (V (O 74)) X X rfl (by show (aD 23 (a.eval (O 73)) (V (a.eval (O 74))) X X).run aG x=.ok hiv x; rw [e73,e74]; exact SH.out x)) (hK _ _ rfl (J _ _) fun _ _ _ _ _ _ _ h=>h)
  ·cases ho;have o71:lZ x W.heap.size (a.eval (O 71)) ((lt++[z])):=seen.at_ ⟨8,.data⟩ (by simp) rfl (aK rfl);have e75:a.eval (O 75)=hiv:=seen.at_ ⟨12,.data⟩ (by simp) rfl (ay (by decide));have ox:wG x (a.eval (O 75)) ld:=by rw [e75]; exact RH.out.on hb
   obtain⟨v',x',r,o',gr⟩:=gJ okD W.heap.size o71 ox (by have:=Sc.out; rw [aL,aI]; omega) LD.out hb.size 23;exact aj rfl rfl (aS a.eval _ (O 71) (O 75) 23 rfl rfl rfl r) (hK v' x' o' ((J _ x).grown gr hb.size fun j hj=>(o71.lt j hj).1) fun j u hj dj nl nx ni h=>by
    rcases (by omega:j=0\/j=1\/j=2\/j=3\/j=4\/j=5\/j=6\/j=7\/j=8\/j=9\/j=10\/j=11\/j=12\/j=13\/j=14) with rfl|rfl|rfl|rfl|rfl|rfl|rfl|rfl|rfl|rfl|rfl|rfl|rfl|rfl|rfl
    ·exact absurd rfl (fun _:(0:Nat)=0=>nl (hc 8 _ (hD ⟨8,.data⟩ (by simp) rfl) rfl ⟨5,.data⟩ (by simp) rfl))
    ·exact h
    ·exact h
    ·exact h
    ·exact h
    ·exact absurd rfl (fun _:(0:Nat)=0=>nl (hD ⟨8,.data⟩ (by simp) rfl))
    ·exact h
    ·exact absurd rfl (fun _:(0:Nat)=0=>nl (hD ⟨8,.data⟩ (by simp) rfl))
    ·exact absurd rfl (fun _:(0:Nat)=0=>nx rfl)
    ·exact h
    ·exact h
    ·exact h
    ·exact h
    ·exact absurd rfl (fun _:(0:Nat)=0=>ni rfl)
    ·exact h)
  ·cases ho;have e2:a.eval (O 2)=L (V ⟨b2,0,X⟩):=seen.kp 2 _ (nd 2 (by omega)) rfl;exact aj rfl rfl (aP a.eval _ 28 (O 2) 2 rfl (by rw [e2]; simp [go_sem])) (hK _ _ rfl (J _ _) fun _ _ _ _ _ _ _ h=>h)
 ·intro a w' df sz kp ⟨vs,hv⟩ hb;have gr:a.tmps[76]?=V (vs 13):=(hv 13 (by omega)).1;have gp:a.tmps[77]?=V (L (V ⟨b2,2,X⟩)):=by
   have h:vs 14=L (V ⟨b2,2,X⟩):=(hv 14 (by omega)).2 (by decide);rw [<- h];exact (hv 14 (by omega)).1
  have oR:lZ w' W.heap.size (vs 13) (lt++[z]++ld):=(hv 13 (by omega)).2 (by decide);generalize vs 13=xR at *;obtain⟨ca,cp,eR⟩:=(Row.dH oR).len;have hbx:=H2.out.on hb;have hblt:=H2.out.lt;have c5:=hbx.cell 2;have f5:=hbx.fr 2;simp only [U,Y,Z] at c5;have hb1:=dW (k:=2) hbx xR;show aX _ _ _ 1 15 a w';simp only [aX];refine Rg.fP 23 (O 77) (O 76) rfl rfl rfl rfl (aY gp) (aY gr) (w':=w'.setCell ⟨b2,2,X⟩ xR) (by rw [eR]; simp [go_sem,c5,f5]) ?_;have rV:∀ j,(j<63\/78<=j)->a.tmps[j]?=(u0::u1::L (V ⟨b2,0,X⟩)::L (V ⟨b3,0,X⟩)::u4::u5::aB aC (at_:Int)::u7::u8::u9::u10::u11::u12::u13::u14::u15::u16::u17::u18::u19::u20::u21::u22::u23::u24::u25::u26::u27::u28::u29::u30::u31::u32::u33::u34::u35::u36::u37::u38::u39::u40::u41::u42::u43::u44::u45::u46::u47::u48::u49::u50::u51::u52::u53::u54::u55::u56::u57::u58::u59::u60::u61::u62::u63::u64::u65::u66::u67::u68::u69::u70::u71::u72::u73::u74::u75::u76::u77::u78::[])[j]?:=fun j hj=>(kp j (nd j hj)).trans U;obtain⟨mid,hmid,rfl⟩:=Rg.gI 63 15 df sz (by simp) rV
  match mid,hmid with
  | [v63,v64,v65,v66,v67,v68,v69,v70,v71,v72,v73,v74,v75,v76,v77],_ =>
   have e1:V v76=V xR:=gr;obtain rfl:=Option.some.inj e1;refine HQ.out _ v63 v64 v65 v66 v67 v68 v69 v70 v71 v72 v73 v74 v75 v76 v77 ?_ ?_ ?_ ?_ ?_
   ·simpa using hb1
   ·exact eF oR b2 2 _ hblt
   ·exact fun B hB=>(hb.mono (aQ (aM hB hblt))).setCell hB _
   ·intro c cs t hc hbc;exact (ak _ _ _ _ hc).trans (hbc.on hb)
   ·intro k hk hne;exact (ak _ _ _ _ hne).trans (hb.block k hk)
end Bk
namespace Nm
def hor (l:List UInt8):Int:=l.foldl (fun h b=>h * 256+(b.toNat:Int)) 0
def pF (l:List UInt8):Int:=IntKind.i64.wrap (hor l)
end Nm
namespace Pr
open Go.RowKit Go.Sort Pu Rw Va
def jo:List C5->List C5->Bool
 | [],[]=>true
 | x::l,y::m=>zK x y && jo l m
 | _,_=>false
theorem DJ:∀ l m,jo l m=true->l.length=m.length
 | [],[],_=>rfl
 | x::l,y::m,h=>by
  simp only [jo,aH] at h;simp [DJ l m h.2]
 | [],y::m,h=>by simp [jo] at h
 | x::l,[],h=>by simp [jo] at h
theorem DK:∀ l m,l.length=m.length->(∀ (k:Nat) (x y:C5),l[k]?=V x->m[k]?=V y->zK x y=true)->jo l m=true
 | [],[],_,_=>rfl
 | x::l,y::m,hl,h=>by
  simp only [jo,aH];exact⟨h 0 x y rfl rfl,DK l m (by simpa using hl) (fun k a b ha hb=>h (k+1) a b (by simpa using ha) (by simpa using hb))⟩
 | [],y::m,hl,_=>by simp at hl
 | x::l,[],hl,_=>by simp at hl
theorem DN:∀ (l m:List C5) (k:Nat) (x y:C5),l[k]?=V x->m[k]?=V y->zK x y=false->jo l m=false
 | [],_,k,x,y,h,_,_=>by simp at h
 | _::_,[],k,x,y,_,h,_=>by simp at h
 | a::l,b::m,0,x,y,h1,h2,h3=>by
  simp at h1 h2;subst h1 h2;simp [jo,h3]
 | a::l,b::m,k+1,x,y,h1,h2,h3=>by
  simp only [jo,DN l m k x y (by simpa using h1) (by simpa using h2) h3,Bool.and_false]
theorem uI:∀ l m:List C5,jo l m=true↔l=m
 | [],[]=>by simp [jo]
 | x::l,y::m=>by
  simp only [jo,aH,Ht,uI l m,List.cons.injEq]
 | [],y::m=>by simp [jo]
 | x::l,[]=>by simp [jo]
end Pr
end Go.Proofs.YtmklifheakemeaaGreat
