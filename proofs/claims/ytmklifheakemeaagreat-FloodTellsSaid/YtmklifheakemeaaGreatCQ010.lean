/-
  The region of Learn . Conditions as told.
-/
import Derived.Test.YtmklifheakemeaaGreatCQ006
import Derived.Maps.AppendAt
import Derived.Lib.QuietBelow
import Derived.BigQuiet
set_option maxRecDepth 100000
set_option maxHeartbeats 64000000
open _root_.Bool renaming and_eq_true->aH,true->aM,false->aP,and_false->bg
open _root_.Go renaming Value->aF,World->aJ,Addr->bf,Act->bQ
open Go.Instr renaming sliceAt->aR
open Go.IntKind renaming i64->aL
open Go.Lib renaming hid->U
open Go.Operand renaming tmp->Y
open Go.Proofs.Tryz renaming prog->aK,ntmps110->bD,func110->bH,ntmps27->bJ,func27->bN
open Go.Proofs.YtmklifheakemeaaGreat.Rg renaming dD->ay,dW->bF,dR->bK,gI->bL,jg->bR,fV->bS,kS->bU,fH->bV,dL->bX
open Go.Region renaming binds->aI
open Go.RowKit.Below renaming refl->J,heap_setCell->aA
open Go.Value renaming pointer->O,slice->au,int->aO,string->aQ
open _root_.List renaming getElem?_toArray->Z,getElem?_cons_zero->aj,getElem?_cons_succ->ak,getElem?_eq_some_iff->aB,getElem?_eq_getElem->aD,length_take->aN,length_singleton->aT,mem_range->aV,length_append->aW,length_drop->aY,all_eq_true->aZ
open _root_.Nat renaming le_refl->aU,lt_of_le_of_lt->aX,le_of_lt->bG,lt_or_ge->bI,zero_le->bM
open _root_.Option renaming some->X,none->ah
open Option.some renaming inj->aG
open _root_.Or renaming inr->aC,inl->aS
namespace Go.Proofs.YtmklifheakemeaaGreat
namespace Bk
open Go.RowKit Rw YtmklifheakemeaaGreat.Nm Pr
def Ov (B b2 b3:Nat) (so:Option bf) (sn sc at_:Nat) (lo hiv:aF) (z:fD) (lt ld:List fD) (i:Nat) (v:aF) (x:aJ):Prop :=
 match i with
 | 0=>∃ g,v=au (X ⟨g,0,ah⟩) 0 0/\B<=g/\dJ x g #[] 31
 | 1=>v=O (X ⟨b2,3,ah⟩)
 | 2=>v=au so sn sc
 | 3=>v=aO aL (at_:Int)
 | 4=>v=lo
 | 5=>sD x B v lt
 | 6=>v=O (X ⟨b3,0,ah⟩)
 | 7=>v=Tx z
 | 8=>sD x B v [z]
 | 9=>sD x B v (lt++[z])
 | 10=>v=O (X ⟨b2,3,ah⟩)
 | 11=>v=au so sn sc
 | 12=>v=aO aL (at_:Int)
 | 13=>v=hiv
 | 14=>sD x B v (lt++[z]++ld)
 | 15=>v=O (X ⟨b2,3,ah⟩)
 | _=>True
noncomputable def abA:Code:=((Tryz.f45.body.bind (eO 6)).getD .skip)
theorem Ui (B b2 b3:Nat) (so:Option bf) (sn sc at_:Nat) (lo hiv:aF) (z:fD) (lt ld:List fD) (i:Nat) (v:aF) (x x':aJ) (h:Ov B b2 b3 so sn sc at_ lo hiv z lt ld i v x) (hb:Below x.heap.size x x'):Ov B b2 b3 so sn sc at_ lo hiv z lt ld i v x':=by
 by_cases hi:i<16
 ·rcases (by omega:i=0\/i=1\/i=2\/i=3\/i=4\/i=5\/i=6\/i=7\/i=8\/i=9\/i=10\/i=11\/i=12\/i=13\/i=14\/i=15) with rfl|rfl|rfl|rfl|rfl|rfl|rfl|rfl|rfl|rfl|rfl|rfl|rfl|rfl|rfl|rfl
  ·obtain⟨g,h1,h2,h3⟩:=h;exact⟨g,h1,h2,h3.on hb⟩
  ·exact h
  ·exact h
  ·exact h
  ·exact h
  ·exact dI h hb
  ·exact h
  ·exact h
  ·exact dI h hb
  ·exact dI h hb
  ·exact h
  ·exact h
  ·exact h
  ·exact h
  ·exact dI h hb
  ·exact h
 ·unfold Ov
  split <;> first | omega | trivial
theorem akC (Q:Exit->bQ->aJ->Prop) (W:aJ) (b2 b3:Nat) (me:Int) (y1 y2 y4 y5:aF) (so:Option bf) (sn sc at_:Nat) (l:List fD) (z:fD) (u0 u1 u4 u5 u7 u8 u9 u10 u11 u12 u13 u14 u15 u16 u17 u18 u19 u20 u21 u22 u23 u24 u25 u26 u27 u28 u29 u30 u31 u32 u33 u34 u35 u36 u37 u38 u39 u40 u41 u42 u43 u44 u45 u46 u47 u48 u49 u50 u51 u52 u53 u54 u55 u56 u57 u58 u59 u60 u61 u62 u63 u64 u65 u66 u67 u68 u69 u70 u71 u72 u73 u74 u75 u76 u77 u78:aF)
  (h2:dJ W b2 #[aO aL me,y1,y2,au so sn sc,y4,y5] 28) (hx:∀ x,Below W.heap.size W x->∀ j u,(jY z)[j]?=X u->x.cell? ((⟨b3,0,ah⟩:bf).add j)=X u) (hs:wB W (au so sn sc) l) (hat:at_<=l.length) (hlen:l.length<=900)
  (hQ:∀ (x:aJ) (v29 v30 v31 v32 v33 v34 v35 v36 v37 v38 v39 v40 v41 v42 v43 v44:aF),dJ x b2 #[aO aL me,y1,y2,v43,y4,y5] 28->sD x W.heap.size v43 (l.take at_++[z]++l.drop at_)->(∀ B,B<=b2->Below B W x)->(∀ c cs t,c≠b2->dJ W c cs t->dJ x c cs t)->(∀ k,k<W.heap.size->k≠b2->x.heap[k]?=W.heap[k]?)->Q .normal ⟨(u0::u1::O (X ⟨b2,0,ah⟩)::O (X ⟨b3,0,ah⟩)::u4::u5::aO aL (at_:Int)::u7::u8::u9::u10::u11::u12::u13::u14::u15::u16::u17::u18::u19::u20::u21::u22::u23::u24::u25::u26::u27::u28::v29::v30::v31::v32::v33::v34::v35::v36::v37::v38::v39::v40::v41::v42::v43::v44::u45::u46::u47::u48::u49::u50::u51::u52::u53::u54::u55::u56::u57::u58::u59::u60::u61::u62::u63::u64::u65::u66::u67::u68::u69::u70::u71::u72::u73::u74::u75::u76::u77::u78::[]).toArray,[]⟩ x) :
  Code.wp aK abA Q ⟨(u0::u1::O (X ⟨b2,0,ah⟩)::O (X ⟨b3,0,ah⟩)::u4::u5::aO aL (at_:Int)::u7::u8::u9::u10::u11::u12::u13::u14::u15::u16::u17::u18::u19::u20::u21::u22::u23::u24::u25::u26::u27::u28::u29::u30::u31::u32::u33::u34::u35::u36::u37::u38::u39::u40::u41::u42::u43::u44::u45::u46::u47::u48::u49::u50::u51::u52::u53::u54::u55::u56::u57::u58::u59::u60::u61::u62::u63::u64::u65::u66::u67::u68::u69::u70::u71::u72::u73::u74::u75::u76::u77::u78::[]).toArray,[]⟩ W:=by
 have HQ:=U hQ;have H2:=U h2;have LX:=U hx;obtain⟨lo,DN,wU⟩:=wu Ba hs at_ (by omega);obtain⟨hiv,DT,yK⟩:=qE Ba hs (at_) hat;have LT:=U (show (l.take at_).length<=1000 by rw [aN]; omega);have T9:=U (show (l.take at_).length<=900 by rw [aN]; omega);have LD:=U (show (l.drop (at_)).length<=1000 by rw [aY]; omega);generalize l.take at_=lt at *;generalize l.drop (at_)=ld at *;have SL:=U DN;have SH:=U DT;have RL:=U wU;have RH:=U yK;clear hQ h2 hx hs DN DT wU yK hat hlen;have iO:=Ui W.heap.size b2 b3 so sn sc at_ lo hiv z lt ld;unfold abA
 conv=>arg 2; whnf
 have nd:∀ j,(j<29\/45<=j)->∀ i,i<16->(fun i=>29+i) i≠j:=by
  intro j hj i hi h;simp only at h;omega
 refine Rg.fQ 17 16 (fun i=>29+i) (fun i=>if i=0 then 5 else if i=5 then 9 else if i=8 then 9 else if i=9 then 14 else 16) (Ov W.heap.size b2 b3 so sn sc at_ lo hiv z lt ld) (by kernel_rfl) (by kernel_rfl) rfl (by decide) (fun i j _ _ h=>by have h2:29+i=29+j:=h; omega) (fun i hi=>by show 29+i<79; omega) ?_ (fun _=>Rg.jq 1 (by kernel_rfl)) (fun kk o h1 h2=>by omega) ?_
 ·intro i o hi ho a x D hnd hc hD hb seen K hK;clear HQ;rcases (by omega:i=0\/i=1\/i=2\/i=3\/i=4\/i=5\/i=6\/i=7\/i=8\/i=9\/i=10\/i=11\/i=12\/i=13\/i=14\/i=15) with rfl|rfl|rfl|rfl|rfl|rfl|rfl|rfl|rfl|rfl|rfl|rfl|rfl|rfl|rfl|rfl
  ·cases ho;exact ay rfl rfl (bR a.eval _ 24 0 #[] rfl rfl (by simp [go_sem])) (hK (au (X ⟨x.heap.size,0,ah⟩) 0 0) (x.alloc (.cells #[] 31)) ⟨x.heap.size,rfl,hb.size,dO x #[] 31⟩ ((J _ _).alloc hb.size _) fun j u _ _ _ _ _ h=>iO j u _ _ h ((J _ _).alloc (aU _) _))
  ·cases ho;have e2:a.eval (Y 2)=O (X ⟨b2,0,ah⟩):=seen.kp 2 _ (nd 2 (by omega)) rfl;exact ay rfl rfl (bF a.eval _ 28 (Y 2) 3 rfl (by rw [e2]; simp [go_sem])) (hK _ _ rfl (J _ _) fun _ _ _ _ _ _ _ h=>h)
  ·cases ho;have e30:a.eval (Y 30)=O (X ⟨b2,3,ah⟩):=seen.at_ ⟨1,.data⟩ (by simp) rfl (aC (by decide));have y:=(H2.out.on hb).cell 3;simp only [Z,aj,ak] at y;exact ay rfl rfl (bK a.eval _ 24 (Y 30) rfl (by rw [e30]; simp [go_sem,y])) (hK _ _ rfl (J _ _) fun _ _ _ _ _ _ _ h=>h)
  ·cases ho;have e6:a.eval (Y 6)=aO aL (at_:Int):=seen.kp 6 _ (nd 6 (by omega)) rfl;exact ay rfl rfl (bS a.eval _ (Y 6) rfl x) (hK _ _ e6 (J _ _) fun _ _ _ _ _ _ _ h=>h)
  ·cases ho;have e31:a.eval (Y 31)=au so sn sc:=seen.at_ ⟨2,.data⟩ (by simp) rfl (aC (by decide));have e32:a.eval (Y 32)=aO aL (at_:Int):=seen.at_ ⟨3,.data⟩ (by simp) rfl (aC (by decide));exact ay rfl rfl (bU a.eval _ 24 (Y 31) ah (X (Y 32)) ah rfl (by show (aR 24 (a.eval (Y 31)) ah (X (a.eval (Y 32))) ah).run aK x=.ok lo x; rw [e31,e32]; exact SL.out x)) (hK _ _ rfl (J _ _) fun _ _ _ _ _ _ _ h=>h)
  ·cases ho;obtain⟨g,q0,hBg,hbx⟩:=seen.at_ ⟨0,.data⟩ (by simp) rfl (aS rfl);have q0:a.eval (Y 29)=au (X ⟨g,0,ah⟩) 0 0:=q0;have e33:a.eval (Y 33)=lo:=seen.at_ ⟨4,.data⟩ (by simp) rfl (aC (by decide));obtain⟨v',x',r,o',gr⟩:=gZ Ba W.heap.size hbx hBg (RL.out.on hb) LT.out 24;exact ay rfl rfl (bL a.eval _ (Y 29) (Y 33) 24 rfl q0 e33 r) (hK v' x' o' (gr.mono hb.size) fun j u _ _ _ _ _ h=>iO j u _ _ h gr)
  ·cases ho;have e3:a.eval (Y 3)=O (X ⟨b3,0,ah⟩):=seen.kp 3 _ (nd 3 (by omega)) rfl;exact ay rfl rfl (bF a.eval _ 74 (Y 3) 0 rfl (by rw [e3]; simp [go_sem])) (hK _ _ rfl (J _ _) fun _ _ _ _ _ _ _ h=>h)
  ·cases ho;have e35:a.eval (Y 35)=O (X ⟨b3,0,ah⟩):=seen.at_ ⟨6,.data⟩ (by simp) rfl (aC (by decide));exact ay rfl rfl (bK a.eval _ 31 (Y 35) rfl (by rw [e35]; exact Ej x _ z (LX.out x hb))) (hK _ _ rfl (J _ _) fun _ _ _ _ _ _ _ h=>h)
  ·cases ho;have e36:a.eval (Y 36)=Tx z:=seen.at_ ⟨7,.data⟩ (by simp) rfl (aC (by decide));have hl:=jm Ba x [z] 1 rfl (by simp) (jY z).toArray (by simp [flat,EJ]);have hl:sD (x.alloc (.cells (jY z).toArray 31)) x.heap.size (au (X ⟨x.heap.size,0,ah⟩) 1 1) [z]:=hl;exact ay rfl rfl (bR a.eval _ 24 1 #[(0,Y 36)] rfl (ps:=#[(0,Tx z)]) (by simp [e36]) (by simp [go_sem])) (hK (au (X ⟨x.heap.size,0,ah⟩) 1 1) (x.alloc (.cells (jY z).toArray 31)) (dM hl hb.size) ((J _ _).alloc hb.size _) fun j u _ _ _ _ _ h=>iO j u _ _ h ((J _ _).alloc (aU _) _))
  ·cases ho;have o34:sD x W.heap.size (a.eval (Y 34)) (lt):=seen.at_ ⟨5,.data⟩ (by simp) rfl (aS rfl);have o37:sD x W.heap.size (a.eval (Y 37)) ([z]):=seen.at_ ⟨8,.data⟩ (by simp) rfl (aS rfl);have ox:=Row.dH o37;obtain⟨v',x',r,o',gr⟩:=gY Ba W.heap.size o34 ox (by have:=LT.out; omega) (by simp) hb.size 24;exact ay rfl rfl (bL a.eval _ (Y 34) (Y 37) 24 rfl rfl rfl r) (hK v' x' o' ((J _ x).grown gr hb.size fun j hj=>(o34.lt j hj).1) fun j u hj dj nl nx ni h=>by
    rcases (by omega:j=0\/j=1\/j=2\/j=3\/j=4\/j=5\/j=6\/j=7\/j=8\/j=9\/j=10\/j=11\/j=12\/j=13\/j=14\/j=15) with rfl|rfl|rfl|rfl|rfl|rfl|rfl|rfl|rfl|rfl|rfl|rfl|rfl|rfl|rfl|rfl
    ·exact absurd rfl (fun _:(0:Nat)=0=>nl (hc 5 _ (hD ⟨5,.data⟩ (by simp) rfl) rfl ⟨0,.data⟩ (by simp) rfl |> fun _=>hD ⟨5,.data⟩ (by simp) rfl))
    ·exact h
    ·exact h
    ·exact h
    ·exact h
    ·exact absurd rfl (fun _:(0:Nat)=0=>nx rfl)
    ·exact h
    ·exact h
    ·exact absurd rfl (fun _:(0:Nat)=0=>nx rfl)
    ·exact absurd rfl (fun _:(0:Nat)=0=>ni rfl)
    ·exact h
    ·exact h
    ·exact h
    ·exact h
    ·exact absurd rfl (fun _:(0:Nat)=0=>hnd (hc 14 _ dj rfl ⟨9,.data⟩ (by simp) rfl))
    ·exact h)
  ·cases ho;have e2:a.eval (Y 2)=O (X ⟨b2,0,ah⟩):=seen.kp 2 _ (nd 2 (by omega)) rfl;exact ay rfl rfl (bF a.eval _ 28 (Y 2) 3 rfl (by rw [e2]; simp [go_sem])) (hK _ _ rfl (J _ _) fun _ _ _ _ _ _ _ h=>h)
  ·cases ho;have e39:a.eval (Y 39)=O (X ⟨b2,3,ah⟩):=seen.at_ ⟨10,.data⟩ (by simp) rfl (aC (by decide));have y:=(H2.out.on hb).cell 3;simp only [Z,aj,ak] at y;exact ay rfl rfl (bK a.eval _ 24 (Y 39) rfl (by rw [e39]; simp [go_sem,y])) (hK _ _ rfl (J _ _) fun _ _ _ _ _ _ _ h=>h)
  ·cases ho;have e6:a.eval (Y 6)=aO aL (at_:Int):=seen.kp 6 _ (nd 6 (by omega)) rfl;exact ay rfl rfl (bS a.eval _ (Y 6) rfl x) (hK _ _ e6 (J _ _) fun _ _ _ _ _ _ _ h=>h)
  ·cases ho;have e40:a.eval (Y 40)=au so sn sc:=seen.at_ ⟨11,.data⟩ (by simp) rfl (aC (by decide));have e41:a.eval (Y 41)=aO aL (at_:Int):=seen.at_ ⟨12,.data⟩ (by simp) rfl (aC (by decide));exact ay rfl rfl (bU a.eval _ 24 (Y 40) (X (Y 41)) ah ah rfl (by show (aR 24 (a.eval (Y 40)) (X (a.eval (Y 41))) ah ah).run aK x=.ok hiv x; rw [e40,e41]; exact SH.out x)) (hK _ _ rfl (J _ _) fun _ _ _ _ _ _ _ h=>h)
  ·cases ho;have o38:sD x W.heap.size (a.eval (Y 38)) ((lt++[z])):=seen.at_ ⟨9,.data⟩ (by simp) rfl (aS rfl);have e42:a.eval (Y 42)=hiv:=seen.at_ ⟨13,.data⟩ (by simp) rfl (aC (by decide));have ox:wB x (a.eval (Y 42)) ld:=by rw [e42]; exact RH.out.on hb
   obtain⟨v',x',r,o',gr⟩:=gY Ba W.heap.size o38 ox (by have:=T9.out; rw [aW,aT]; omega) LD.out hb.size 24;exact ay rfl rfl (bL a.eval _ (Y 38) (Y 42) 24 rfl rfl rfl r) (hK v' x' o' ((J _ x).grown gr hb.size fun j hj=>(o38.lt j hj).1) fun j u hj dj nl nx ni h=>by
    rcases (by omega:j=0\/j=1\/j=2\/j=3\/j=4\/j=5\/j=6\/j=7\/j=8\/j=9\/j=10\/j=11\/j=12\/j=13\/j=14\/j=15) with rfl|rfl|rfl|rfl|rfl|rfl|rfl|rfl|rfl|rfl|rfl|rfl|rfl|rfl|rfl|rfl
    ·exact absurd rfl (fun _:(0:Nat)=0=>nl (hc 9 _ (hD ⟨9,.data⟩ (by simp) rfl) rfl ⟨5,.data⟩ (by simp) rfl))
    ·exact h
    ·exact h
    ·exact h
    ·exact h
    ·exact absurd rfl (fun _:(0:Nat)=0=>nl (hD ⟨9,.data⟩ (by simp) rfl))
    ·exact h
    ·exact h
    ·exact absurd rfl (fun _:(0:Nat)=0=>nl (hD ⟨9,.data⟩ (by simp) rfl))
    ·exact absurd rfl (fun _:(0:Nat)=0=>nx rfl)
    ·exact h
    ·exact h
    ·exact h
    ·exact h
    ·exact absurd rfl (fun _:(0:Nat)=0=>ni rfl)
    ·exact h)
  ·cases ho;have e2:a.eval (Y 2)=O (X ⟨b2,0,ah⟩):=seen.kp 2 _ (nd 2 (by omega)) rfl;exact ay rfl rfl (bF a.eval _ 28 (Y 2) 3 rfl (by rw [e2]; simp [go_sem])) (hK _ _ rfl (J _ _) fun _ _ _ _ _ _ _ h=>h)
 ·intro a w' df sz kp ⟨vs,hv⟩ hb;have gr:a.tmps[43]?=X (vs 14):=(hv 14 (by omega)).1;have gp:a.tmps[44]?=X (O (X ⟨b2,3,ah⟩)):=by
   have h:vs 15=O (X ⟨b2,3,ah⟩):=(hv 15 (by omega)).2 (by decide);rw [<- h];exact (hv 15 (by omega)).1
  have oR:sD w' W.heap.size (vs 14) (lt++[z]++ld):=(hv 14 (by omega)).2 (by decide);generalize vs 14=xR at *;obtain⟨ca,cp,eR⟩:=(Row.dH oR).len;have hbx:=H2.out.on hb;have hblt:=H2.out.lt;have c5:=hbx.cell 3;have f5:=hbx.fr 3;simp only [Z,aj,ak] at c5;have hb1:=dZ (k:=3) hbx xR;show bV _ _ _ 1 16 a w';simp only [bV];refine Rg.fT 24 (Y 44) (Y 43) rfl rfl rfl rfl (bX gp) (bX gr) (w':=w'.setCell ⟨b2,3,ah⟩ xR) (by rw [eR]; simp [go_sem,c5,f5]) ?_;have qI:∀ j,(j<29\/45<=j)->a.tmps[j]?=(u0::u1::O (X ⟨b2,0,ah⟩)::O (X ⟨b3,0,ah⟩)::u4::u5::aO aL (at_:Int)::u7::u8::u9::u10::u11::u12::u13::u14::u15::u16::u17::u18::u19::u20::u21::u22::u23::u24::u25::u26::u27::u28::u29::u30::u31::u32::u33::u34::u35::u36::u37::u38::u39::u40::u41::u42::u43::u44::u45::u46::u47::u48::u49::u50::u51::u52::u53::u54::u55::u56::u57::u58::u59::u60::u61::u62::u63::u64::u65::u66::u67::u68::u69::u70::u71::u72::u73::u74::u75::u76::u77::u78::[])[j]?:=fun j hj=>(kp j (nd j hj)).trans Z;obtain⟨mid,hmid,rfl⟩:=Rg.gJ 29 16 df sz (by simp) qI
  match mid,hmid with
  | [v29,v30,v31,v32,v33,v34,v35,v36,v37,v38,v39,v40,v41,v42,v43,v44],_ =>
   have e1:X v43=X xR:=gr;obtain rfl:=aG e1;refine HQ.out _ v29 v30 v31 v32 v33 v34 v35 v36 v37 v38 v39 v40 v41 v42 v43 v44 ?_ ?_ ?_ ?_ ?_
   ·simpa using hb1
   ·exact dX oR b2 3 _ hblt
   ·exact fun B hB=>(hb.mono (bG (aX hB hblt))).setCell hB _
   ·intro c cs t hc hbc;exact (aA _ _ _ _ hc).trans (hbc.on hb)
   ·intro k hk hne;exact (aA _ _ _ _ hne).trans (hb.block k hk)
def Hl (B b2 _b3:Nat) (so:Option bf) (sn sc at_:Nat) (lo hiv:aF) (z:jv) (lt ld:List jv) (i:Nat) (v:aF) (x:aJ):Prop :=
 match i with
 | 0=>∃ g,v=au (X ⟨g,0,ah⟩) 0 0/\B<=g/\dJ x g #[] 74
 | 1=>v=O (X ⟨b2,2,ah⟩)
 | 2=>v=au so sn sc
 | 3=>v=aO aL (at_:Int)
 | 4=>v=lo
 | 5=>lY x B v lt
 | 6=>v=lX z
 | 7=>lY x B v [z]
 | 8=>lY x B v (lt++[z])
 | 9=>v=O (X ⟨b2,2,ah⟩)
 | 10=>v=au so sn sc
 | 11=>v=aO aL (at_:Int)
 | 12=>v=hiv
 | 13=>lY x B v (lt++[z]++ld)
 | 14=>v=O (X ⟨b2,2,ah⟩)
 | _=>True
noncomputable def Uj:Code:=((Tryz.f45.body.bind (eO 10)).getD .skip)
theorem Q6 (B b2 b3:Nat) (so:Option bf) (sn sc at_:Nat) (lo hiv:aF) (z:jv) (lt ld:List jv) (i:Nat) (v:aF) (x x':aJ) (h:Hl B b2 b3 so sn sc at_ lo hiv z lt ld i v x) (hb:Below x.heap.size x x'):Hl B b2 b3 so sn sc at_ lo hiv z lt ld i v x':=by
 by_cases hi:i<15
 ·rcases (by omega:i=0\/i=1\/i=2\/i=3\/i=4\/i=5\/i=6\/i=7\/i=8\/i=9\/i=10\/i=11\/i=12\/i=13\/i=14) with rfl|rfl|rfl|rfl|rfl|rfl|rfl|rfl|rfl|rfl|rfl|rfl|rfl|rfl|rfl
  ·obtain⟨g,h1,h2,h3⟩:=h;exact⟨g,h1,h2,h3.on hb⟩
  ·exact h
  ·exact h
  ·exact h
  ·exact h
  ·exact dI h hb
  ·exact h
  ·exact dI h hb
  ·exact dI h hb
  ·exact h
  ·exact h
  ·exact h
  ·exact h
  ·exact dI h hb
  ·exact h
 ·unfold Hl
  split <;> first | omega | trivial
theorem ahF (Q:Exit->bQ->aJ->Prop) (W:aJ) (b2 b3:Nat) (me:Int) (y1 y3 y4 y5:aF) (so:Option bf) (sn sc at_:Nat) (l:List jv) (z:jv) (u0 u1 u4 u5 u7 u8 u9 u10 u11 u12 u13 u14 u15 u16 u17 u18 u19 u20 u21 u22 u23 u24 u25 u26 u27 u28 u29 u30 u31 u32 u33 u34 u35 u36 u37 u38 u39 u40 u41 u42 u43 u44 u45 u46 u47 u48 u49 u50 u51 u52 u53 u54 u55 u56 u57 u58 u59 u60 u61 u62 u63 u64 u65 u66 u67 u68 u69 u70 u71 u72 u73 u74 u75 u76 u77 u78:aF)
  (h2:dJ W b2 #[aO aL me,y1,au so sn sc,y3,y4,y5] 28) (hx:∀ x,Below W.heap.size W x->∀ j u,(cellsD z)[j]?=X u->x.cell? ((⟨b3,0,ah⟩:bf).add j)=X u) (hs:wZ W (au so sn sc) l) (hat:at_<=l.length) (hlen:l.length<=900)
  (hQ:∀ (x:aJ) (v63 v64 v65 v66 v67 v68 v69 v70 v71 v72 v73 v74 v75 v76 v77:aF),dJ x b2 #[aO aL me,y1,v76,y3,y4,y5] 28->lY x W.heap.size v76 (l.take at_++[z]++l.drop at_)->(∀ B,B<=b2->Below B W x)->(∀ c cs t,c≠b2->dJ W c cs t->dJ x c cs t)->(∀ k,k<W.heap.size->k≠b2->x.heap[k]?=W.heap[k]?)->Q .normal ⟨(u0::u1::O (X ⟨b2,0,ah⟩)::O (X ⟨b3,0,ah⟩)::u4::u5::aO aL (at_:Int)::u7::u8::u9::u10::u11::u12::u13::u14::u15::u16::u17::u18::u19::u20::u21::u22::u23::u24::u25::u26::u27::u28::u29::u30::u31::u32::u33::u34::u35::u36::u37::u38::u39::u40::u41::u42::u43::u44::u45::u46::u47::u48::u49::u50::u51::u52::u53::u54::u55::u56::u57::u58::u59::u60::u61::u62::v63::v64::v65::v66::v67::v68::v69::v70::v71::v72::v73::v74::v75::v76::v77::u78::[]).toArray,[]⟩ x) :
  Code.wp aK Uj Q ⟨(u0::u1::O (X ⟨b2,0,ah⟩)::O (X ⟨b3,0,ah⟩)::u4::u5::aO aL (at_:Int)::u7::u8::u9::u10::u11::u12::u13::u14::u15::u16::u17::u18::u19::u20::u21::u22::u23::u24::u25::u26::u27::u28::u29::u30::u31::u32::u33::u34::u35::u36::u37::u38::u39::u40::u41::u42::u43::u44::u45::u46::u47::u48::u49::u50::u51::u52::u53::u54::u55::u56::u57::u58::u59::u60::u61::u62::u63::u64::u65::u66::u67::u68::u69::u70::u71::u72::u73::u74::u75::u76::u77::u78::[]).toArray,[]⟩ W:=by
 have HQ:=U hQ;have H2:=U h2;have LX:=U hx;obtain⟨lo,DN,wU⟩:=wu okD hs at_ (by omega);obtain⟨hiv,DT,yK⟩:=qE okD hs (at_) hat;have LT:=U (show (l.take at_).length<=1000 by rw [aN]; omega);have T9:=U (show (l.take at_).length<=900 by rw [aN]; omega);have LD:=U (show (l.drop (at_)).length<=1000 by rw [aY]; omega);generalize l.take at_=lt at *;generalize l.drop (at_)=ld at *;have SL:=U DN;have SH:=U DT;have RL:=U wU;have RH:=U yK;clear hQ h2 hx hs DN DT wU yK hat hlen;have iO:=Q6 W.heap.size b2 b3 so sn sc at_ lo hiv z lt ld;unfold Uj
 conv=>arg 2; whnf
 have nd:∀ j,(j<63\/78<=j)->∀ i,i<15->(fun i=>63+i) i≠j:=by
  intro j hj i hi h;simp only at h;omega
 refine Rg.fQ 16 15 (fun i=>63+i) (fun i=>if i=0 then 5 else if i=5 then 8 else if i=7 then 8 else if i=8 then 13 else 15) (Hl W.heap.size b2 b3 so sn sc at_ lo hiv z lt ld) (by kernel_rfl) (by kernel_rfl) rfl (by decide) (fun i j _ _ h=>by have h2:63+i=63+j:=h; omega) (fun i hi=>by show 63+i<79; omega) ?_ (fun _=>Rg.jq 1 (by kernel_rfl)) (fun kk o h1 h2=>by omega) ?_
 ·intro i o hi ho a x D hnd hc hD hb seen K hK;clear HQ;rcases (by omega:i=0\/i=1\/i=2\/i=3\/i=4\/i=5\/i=6\/i=7\/i=8\/i=9\/i=10\/i=11\/i=12\/i=13\/i=14) with rfl|rfl|rfl|rfl|rfl|rfl|rfl|rfl|rfl|rfl|rfl|rfl|rfl|rfl|rfl
  ·cases ho;exact ay rfl rfl (bR a.eval _ 23 0 #[] rfl rfl (by simp [go_sem])) (hK (au (X ⟨x.heap.size,0,ah⟩) 0 0) (x.alloc (.cells #[] 74)) ⟨x.heap.size,rfl,hb.size,dO x #[] 74⟩ ((J _ _).alloc hb.size _) fun j u _ _ _ _ _ h=>iO j u _ _ h ((J _ _).alloc (aU _) _))
  ·cases ho;have e2:a.eval (Y 2)=O (X ⟨b2,0,ah⟩):=seen.kp 2 _ (nd 2 (by omega)) rfl;exact ay rfl rfl (bF a.eval _ 28 (Y 2) 2 rfl (by rw [e2]; simp [go_sem])) (hK _ _ rfl (J _ _) fun _ _ _ _ _ _ _ h=>h)
  ·cases ho;have e64:a.eval (Y 64)=O (X ⟨b2,2,ah⟩):=seen.at_ ⟨1,.data⟩ (by simp) rfl (aC (by decide));have y:=(H2.out.on hb).cell 2;simp only [Z,aj,ak] at y;exact ay rfl rfl (bK a.eval _ 23 (Y 64) rfl (by rw [e64]; simp [go_sem,y])) (hK _ _ rfl (J _ _) fun _ _ _ _ _ _ _ h=>h)
  ·cases ho;have e6:a.eval (Y 6)=aO aL (at_:Int):=seen.kp 6 _ (nd 6 (by omega)) rfl;exact ay rfl rfl (bS a.eval _ (Y 6) rfl x) (hK _ _ e6 (J _ _) fun _ _ _ _ _ _ _ h=>h)
  ·cases ho;have e65:a.eval (Y 65)=au so sn sc:=seen.at_ ⟨2,.data⟩ (by simp) rfl (aC (by decide));have e66:a.eval (Y 66)=aO aL (at_:Int):=seen.at_ ⟨3,.data⟩ (by simp) rfl (aC (by decide));exact ay rfl rfl (bU a.eval _ 23 (Y 65) ah (X (Y 66)) ah rfl (by show (aR 23 (a.eval (Y 65)) ah (X (a.eval (Y 66))) ah).run aK x=.ok lo x; rw [e65,e66]; exact SL.out x)) (hK _ _ rfl (J _ _) fun _ _ _ _ _ _ _ h=>h)
  ·cases ho;obtain⟨g,q0,hBg,hbx⟩:=seen.at_ ⟨0,.data⟩ (by simp) rfl (aS rfl);have q0:a.eval (Y 63)=au (X ⟨g,0,ah⟩) 0 0:=q0;have e67:a.eval (Y 67)=lo:=seen.at_ ⟨4,.data⟩ (by simp) rfl (aC (by decide));obtain⟨v',x',r,o',gr⟩:=gZ okD W.heap.size hbx hBg (RL.out.on hb) LT.out 23;exact ay rfl rfl (bL a.eval _ (Y 63) (Y 67) 23 rfl q0 e67 r) (hK v' x' o' (gr.mono hb.size) fun j u _ _ _ _ _ h=>iO j u _ _ h gr)
  ·cases ho;have e3:a.eval (Y 3)=O (X ⟨b3,0,ah⟩):=seen.kp 3 _ (nd 3 (by omega)) rfl;exact ay rfl rfl (bK a.eval _ 74 (Y 3) rfl (by rw [e3]; exact Tz x _ z (LX.out x hb))) (hK _ _ rfl (J _ _) fun _ _ _ _ _ _ _ h=>h)
  ·cases ho;have e69:a.eval (Y 69)=lX z:=seen.at_ ⟨6,.data⟩ (by simp) rfl (aC (by decide));have hl:=jm okD x [z] 1 rfl (by simp) (cellsD z).toArray (by simp [flat,ED]);have hl:lY (x.alloc (.cells (cellsD z).toArray 74)) x.heap.size (au (X ⟨x.heap.size,0,ah⟩) 1 1) [z]:=hl;exact ay rfl rfl (bR a.eval _ 23 1 #[(0,Y 69)] rfl (ps:=#[(0,lX z)]) (by simp [e69]) (by simp [go_sem])) (hK (au (X ⟨x.heap.size,0,ah⟩) 1 1) (x.alloc (.cells (cellsD z).toArray 74)) (dM hl hb.size) ((J _ _).alloc hb.size _) fun j u _ _ _ _ _ h=>iO j u _ _ h ((J _ _).alloc (aU _) _))
  ·cases ho;have o68:lY x W.heap.size (a.eval (Y 68)) (lt):=seen.at_ ⟨5,.data⟩ (by simp) rfl (aS rfl);have o70:lY x W.heap.size (a.eval (Y 70)) ([z]):=seen.at_ ⟨7,.data⟩ (by simp) rfl (aS rfl);have ox:=Row.dH o70;obtain⟨v',x',r,o',gr⟩:=gY okD W.heap.size o68 ox (by have:=LT.out; omega) (by simp) hb.size 23;exact ay rfl rfl (bL a.eval _ (Y 68) (Y 70) 23 rfl rfl rfl r) (hK v' x' o' ((J _ x).grown gr hb.size fun j hj=>(o68.lt j hj).1) fun j u hj dj nl nx ni h=>by
    rcases (by omega:j=0\/j=1\/j=2\/j=3\/j=4\/j=5\/j=6\/j=7\/j=8\/j=9\/j=10\/j=11\/j=12\/j=13\/j=14) with rfl|rfl|rfl|rfl|rfl|rfl|rfl|rfl|rfl|rfl|rfl|rfl|rfl|rfl|rfl
    ·exact absurd rfl (fun _:(0:Nat)=0=>nl (hc 5 _ (hD ⟨5,.data⟩ (by simp) rfl) rfl ⟨0,.data⟩ (by simp) rfl |> fun _=>hD ⟨5,.data⟩ (by simp) rfl))
    ·exact h
    ·exact h
    ·exact h
    ·exact h
    ·exact absurd rfl (fun _:(0:Nat)=0=>nx rfl)
    ·exact h
    ·exact absurd rfl (fun _:(0:Nat)=0=>nx rfl)
    ·exact absurd rfl (fun _:(0:Nat)=0=>ni rfl)
    ·exact h
    ·exact h
    ·exact h
    ·exact h
    ·exact absurd rfl (fun _:(0:Nat)=0=>hnd (hc 13 _ dj rfl ⟨8,.data⟩ (by simp) rfl))
    ·exact h)
  ·cases ho;have e2:a.eval (Y 2)=O (X ⟨b2,0,ah⟩):=seen.kp 2 _ (nd 2 (by omega)) rfl;exact ay rfl rfl (bF a.eval _ 28 (Y 2) 2 rfl (by rw [e2]; simp [go_sem])) (hK _ _ rfl (J _ _) fun _ _ _ _ _ _ _ h=>h)
  ·cases ho;have e72:a.eval (Y 72)=O (X ⟨b2,2,ah⟩):=seen.at_ ⟨9,.data⟩ (by simp) rfl (aC (by decide));have y:=(H2.out.on hb).cell 2;simp only [Z,aj,ak] at y;exact ay rfl rfl (bK a.eval _ 23 (Y 72) rfl (by rw [e72]; simp [go_sem,y])) (hK _ _ rfl (J _ _) fun _ _ _ _ _ _ _ h=>h)
  ·cases ho;have e6:a.eval (Y 6)=aO aL (at_:Int):=seen.kp 6 _ (nd 6 (by omega)) rfl;exact ay rfl rfl (bS a.eval _ (Y 6) rfl x) (hK _ _ e6 (J _ _) fun _ _ _ _ _ _ _ h=>h)
  ·cases ho;have e73:a.eval (Y 73)=au so sn sc:=seen.at_ ⟨10,.data⟩ (by simp) rfl (aC (by decide));have e74:a.eval (Y 74)=aO aL (at_:Int):=seen.at_ ⟨11,.data⟩ (by simp) rfl (aC (by decide));exact ay rfl rfl (bU a.eval _ 23 (Y 73) (X (Y 74)) ah ah rfl (by show (aR 23 (a.eval (Y 73)) (X (a.eval (Y 74))) ah ah).run aK x=.ok hiv x; rw [e73,e74]; exact SH.out x)) (hK _ _ rfl (J _ _) fun _ _ _ _ _ _ _ h=>h)
  ·cases ho;have o71:lY x W.heap.size (a.eval (Y 71)) ((lt++[z])):=seen.at_ ⟨8,.data⟩ (by simp) rfl (aS rfl);have e75:a.eval (Y 75)=hiv:=seen.at_ ⟨12,.data⟩ (by simp) rfl (aC (by decide));have ox:wZ x (a.eval (Y 75)) ld:=by rw [e75]; exact RH.out.on hb
   obtain⟨v',x',r,o',gr⟩:=gY okD W.heap.size o71 ox (by have:=T9.out; rw [aW,aT]; omega) LD.out hb.size 23;exact ay rfl rfl (bL a.eval _ (Y 71) (Y 75) 23 rfl rfl rfl r) (hK v' x' o' ((J _ x).grown gr hb.size fun j hj=>(o71.lt j hj).1) fun j u hj dj nl nx ni h=>by
    rcases (by omega:j=0\/j=1\/j=2\/j=3\/j=4\/j=5\/j=6\/j=7\/j=8\/j=9\/j=10\/j=11\/j=12\/j=13\/j=14) with rfl|rfl|rfl|rfl|rfl|rfl|rfl|rfl|rfl|rfl|rfl|rfl|rfl|rfl|rfl
    ·exact absurd rfl (fun _:(0:Nat)=0=>nl (hc 8 _ (hD ⟨8,.data⟩ (by simp) rfl) rfl ⟨5,.data⟩ (by simp) rfl))
    ·exact h
    ·exact h
    ·exact h
    ·exact h
    ·exact absurd rfl (fun _:(0:Nat)=0=>nl (hD ⟨8,.data⟩ (by simp) rfl))
    ·exact h
    ·exact absurd rfl (fun _:(0:Nat)=0=>nl (hD ⟨8,.data⟩ (by simp) rfl))
    ·exact absurd rfl (fun _:(0:Nat)=0=>nx rfl)
    ·exact h
    ·exact h
    ·exact h
    ·exact h
    ·exact absurd rfl (fun _:(0:Nat)=0=>ni rfl)
    ·exact h)
  ·cases ho;have e2:a.eval (Y 2)=O (X ⟨b2,0,ah⟩):=seen.kp 2 _ (nd 2 (by omega)) rfl;exact ay rfl rfl (bF a.eval _ 28 (Y 2) 2 rfl (by rw [e2]; simp [go_sem])) (hK _ _ rfl (J _ _) fun _ _ _ _ _ _ _ h=>h)
 ·intro a w' df sz kp ⟨vs,hv⟩ hb;have gr:a.tmps[76]?=X (vs 13):=(hv 13 (by omega)).1;have gp:a.tmps[77]?=X (O (X ⟨b2,2,ah⟩)):=by
   have h:vs 14=O (X ⟨b2,2,ah⟩):=(hv 14 (by omega)).2 (by decide);rw [<- h];exact (hv 14 (by omega)).1
  have oR:lY w' W.heap.size (vs 13) (lt++[z]++ld):=(hv 13 (by omega)).2 (by decide);generalize vs 13=xR at *;obtain⟨ca,cp,eR⟩:=(Row.dH oR).len;have hbx:=H2.out.on hb;have hblt:=H2.out.lt;have c5:=hbx.cell 2;have f5:=hbx.fr 2;simp only [Z,aj,ak] at c5;have hb1:=dZ (k:=2) hbx xR;show bV _ _ _ 1 15 a w';simp only [bV];refine Rg.fT 23 (Y 77) (Y 76) rfl rfl rfl rfl (bX gp) (bX gr) (w':=w'.setCell ⟨b2,2,ah⟩ xR) (by rw [eR]; simp [go_sem,c5,f5]) ?_;have qI:∀ j,(j<63\/78<=j)->a.tmps[j]?=(u0::u1::O (X ⟨b2,0,ah⟩)::O (X ⟨b3,0,ah⟩)::u4::u5::aO aL (at_:Int)::u7::u8::u9::u10::u11::u12::u13::u14::u15::u16::u17::u18::u19::u20::u21::u22::u23::u24::u25::u26::u27::u28::u29::u30::u31::u32::u33::u34::u35::u36::u37::u38::u39::u40::u41::u42::u43::u44::u45::u46::u47::u48::u49::u50::u51::u52::u53::u54::u55::u56::u57::u58::u59::u60::u61::u62::u63::u64::u65::u66::u67::u68::u69::u70::u71::u72::u73::u74::u75::u76::u77::u78::[])[j]?:=fun j hj=>(kp j (nd j hj)).trans Z;obtain⟨mid,hmid,rfl⟩:=Rg.gJ 63 15 df sz (by simp) qI
  match mid,hmid with
  | [v63,v64,v65,v66,v67,v68,v69,v70,v71,v72,v73,v74,v75,v76,v77],_ =>
   have e1:X v76=X xR:=gr;obtain rfl:=aG e1;refine HQ.out _ v63 v64 v65 v66 v67 v68 v69 v70 v71 v72 v73 v74 v75 v76 v77 ?_ ?_ ?_ ?_ ?_
   ·simpa using hb1
   ·exact dX oR b2 2 _ hblt
   ·exact fun B hB=>(hb.mono (bG (aX hB hblt))).setCell hB _
   ·intro c cs t hc hbc;exact (aA _ _ _ _ hc).trans (hbc.on hb)
   ·intro k hk hne;exact (aA _ _ _ _ hne).trans (hb.block k hk)
end Bk
namespace At
open Go.RowKit Va In
def nm (i:Nat):ByteArray:=⟨#[UInt8.ofNat (97+i)]⟩
def wV:Array aF:=#[aQ ⟨#[97]⟩,aQ ⟨#[98]⟩,aQ ⟨#[99]⟩,aQ ⟨#[100]⟩,aQ ⟨#[101]⟩,aQ ⟨#[102]⟩,aQ ⟨#[103]⟩]
def tO (zs:List Int) (i:Nat):Int:=if zs=[] then 0 else zs.getD (i % zs.length) 0
def odd (z:Int):Bool:=bits BinOp.and aL z 1 == 1
end At
namespace At
open Go.RowKit Go.Sort Va In
def pI:List A4->List A4->Bool
 | [],[]=>aM
 | x::l,y::m=>Mq x y && pI l m
 | _,_=>aP
theorem Er:∀ l m,pI l m=aM->l.length=m.length
 | [],[],_=>rfl
 | x::l,y::m,h=>by
  simp only [pI,aH] at h;simp [Er l m h.2]
 | [],y::m,h=>by simp [pI] at h
 | x::l,[],h=>by simp [pI] at h
theorem Es:∀ l m,l.length=m.length->(∀ (k:Nat) (x y:A4),l[k]?=X x->m[k]?=X y->Mq x y=aM)->pI l m=aM
 | [],[],_,_=>rfl
 | x::l,y::m,hl,h=>by
  simp only [pI,aH];exact⟨h 0 x y rfl rfl,Es l m (by simpa using hl) (fun k a b ha hb=>h (k+1) a b (by simpa using ha) (by simpa using hb))⟩
 | [],y::m,hl,_=>by simp at hl
 | x::l,[],hl,_=>by simp at hl
theorem Et:∀ (l m:List A4) (k:Nat) (x y:A4),l[k]?=X x->m[k]?=X y->Mq x y=aP->pI l m=aP
 | [],_,k,x,y,h,_,_=>by simp at h
 | _::_,[],k,x,y,_,h,_=>by simp at h
 | a::l,b::m,0,x,y,h1,h2,h3=>by
  simp at h1 h2;subst h1 h2;simp [pI,h3]
 | a::l,b::m,k+1,x,y,h1,h2,h3=>by
  simp only [pI,Et l m k x y (by simpa using h1) (by simpa using h2) h3,bg]
theorem Eu {W:aJ} {lv:aF} {l:List A4} {ao:Option bf} {n c k:Nat} {x:A4} (h:QG W lv l) (hv:lv=au ao n c) (hn:l.length=n) (hk:l[k]?=X x) :
  ∃ p:bf,(∀ w,(Instr.indexAt 39 (au ao n c) (aO aL k)).run aK w=.ok (O (X p)) w)/\∀ w,Below W.heap.size W w ->
   w.cell? p=X (aQ x.1)/\w.cell? ⟨p.block,p.off+1,ah⟩=X (.bool x.2.1)/\w.cell? ⟨p.block,p.off+2,ah⟩=X (aO aL x.2.2.1)/\w.cell? ⟨p.block,p.off+3,ah⟩=X (aQ x.2.2.2):=by
 have hlt:=(aB.1 hk).1;rcases h with⟨rfl,_⟩|⟨a,cap,h1,h2,h3,h4⟩
 ·simp at hk
 ·rw [hv] at h1;obtain⟨rfl,rfl,rfl⟩:ao=X a/\n=l.length/\c=cap:=by simpa using h1
  refine⟨a.add (k * 4),fun w=>Ml a k _ _ hlt w,fun w hb=>?_⟩;have hf:=Jb l k x hk;have e1:∀ j,j≠0->(⟨(a.add (k * 4)).block,(a.add (k * 4)).off+j,ah⟩:bf)=a.add (k * 4+j):=fun j hj=>by
   have h5:∀ b:bf,b.add j=⟨b.block,b.off+j,ah⟩:=fun b=>by unfold Addr.add; rw [if_neg hj]
   rw [<- add_add,h5]
  have g:∀ j u,(A8 l)[j]?=X u->w.cell? (a.add j)=X u:=fun j u hj=>by
   have hc:=h4 j u hj;rw [hb.cell (World.block_lt_of_cell? W _ hc)]; exact hc
  rw [e1 1 (by decide),e1 2 (by decide),e1 3 (by decide)];exact⟨g _ _ hf.1,g _ _ hf.2.1,g _ _ hf.2.2.1,g _ _ hf.2.2.2⟩
theorem Q7 (nU bv:aF) (l m:List A4) (w:aJ) (ha:QG w nU l) (hb:QG w bv m) (hl:l.length<=1000000) (_hm:m.length<=1000000) :
  Calls aK 110 #[nU,bv] w fun e w'=>e=.returned (.bool (pI l m))/\Below w.heap.size w w':=by
 have HA:=U ha;have HB:=U hb;obtain⟨ao,ac,rfl⟩:=ha.len;obtain⟨bo,bc,rfl⟩:=hb.len;clear ha hb;by_cases hlen:l.length=m.length
 ·have HL:=U hlen;rw [<- hlen] at HB ⊢;generalize hn:l.length=n at *;have HN:=U hn;clear hlen hn;go_enter bH,bD;go_wp2
  go_loopw [5] (fun i wr=>∃ k:Nat,k<=n/\i=aO aL k/\Below w.heap.size w wr/\∀ (j:Nat) (x y:A4),j<k->l[j]?=X x->m[j]?=X y->Mq x y=aM) (fun i _=>n-(intOf i).toNat)
  case atStart=>exact⟨0,bM _,rfl,J _ _,fun j x y h=>by omega⟩
  case round =>
   obtain⟨k,hk,rfl,hbe,hall⟩:=hrel;have BE:=U hbe;have AL:=U hall;clear hbe hall;by_cases hlt:k<n
   ·obtain⟨x,hx⟩:∃ x,l[k]?=X x:=⟨_,aD (by rw [HN.out]; exact hlt)⟩;obtain⟨y,hy⟩:∃ y,m[k]?=X y:=⟨_,aD (by rw [<- HL.out]; exact hlt)⟩;obtain⟨p,ix,px⟩:=Eu HA.out rfl HN.out hx;obtain⟨q,iy,py⟩:=Eu HB.out rfl HL.out.symm hy;have p0:=cell_regrown (px _ BE.out).1;have p1:=cell_regrown (px _ BE.out).2.1;have p2:=cell_regrown (px _ BE.out).2.2.1;have p3:=cell_regrown (px _ BE.out).2.2.2;have q0:=cell_regrown (py _ BE.out).1;have q1:=cell_regrown (py _ BE.out).2.1;have q2:=cell_regrown (py _ BE.out).2.2.1;have q3:=cell_regrown (py _ BE.out).2.2.2;clear px py;obtain⟨r,hr⟩:∃ r,Mq x y=r:=⟨_,rfl⟩;have hne:=aku x y r hr;have HX:=U hx;have HY:=U hy;have HR:=U hr;clear hx hy hr;cases r
    ·have R:=U (show pI l m=aP from Et l m k x y HX.out HY.out HR.out);go_wp2;refine wp_region_quiet_below (by kernel_rfl) (by kernel_rfl) ?_
     repeat (go_big_quiet_step (fail))
     refine wpQuiet_nil ?_;intro _ hw';obtain⟨⟨dq,osq⟩,hw''⟩:=hw';subst hw'';go_wp2;go_ret;exact⟨eu R.out.symm,BE.out.trans ((below_regrown wr dq osq).mono BE.out.size)⟩
    ·go_wp2;refine wp_region_quiet_below (by kernel_rfl) (by kernel_rfl) ?_
     repeat (go_big_quiet_step (fail))
     refine wpQuiet_nil ?_;intro _ hw';obtain⟨⟨dq,osq⟩,hw''⟩:=hw';subst hw'';clear ix iy p0 p1 p2 p3 q0 q1 q2 q3 hne;go_wp2
     go_roundw
     case rel=>exact⟨k+1,by omega,by go_num,BE.out.trans ((below_regrown wr dq osq).mono BE.out.size),fun j x' y' hj h1 h2=>by
      rcases bI j k with h3|h3
      ·exact AL.out j x' y' h3 h1 h2
      ·obtain rfl:j=k:=by omega
       have e1:=HX.out;have e2:=HY.out;rw [h1] at e1;rw [h2] at e2;rw [aG e1,aG e2];exact HR.out⟩
     case measure=>simp [intOf]; omega
   ·obtain rfl:k=n:=by omega
    have R:=U (show pI l m=aM from Es l m (by rw [HN.out]; exact HL.out) (fun j a b h1 h2=>AL.out j a b (by have:=(aB.1 h1).1; have:=HN.out; omega) h1 h2));go_wp2;go_ret;exact⟨eu R.out.symm,BE.out⟩
 ·have R:=U (show pI l m=aP by
   cases h:pI l m
   ·rfl
   ·exact absurd (Er _ _ h) hlen)
  have hne:(((l.length:Nat):Int) != ((m.length:Nat):Int))=aM:=by simp; omega
  have hne2:(((l.length:Nat):Int) == ((m.length:Nat):Int))=aP:=by simp; omega
  clear hlen;go_enter bH,bD;go_wp2;go_ret;exact⟨eu R.out.symm,J _ _⟩
def zZ (c:UInt8):Bool:=decide (97<=c.toNat) && decide (c.toNat<=122)
def kQ (s:ByteArray):Bool:=s.data.toList.all zZ && (decide (1<=s.size) && decide (s.size<=12))
end At
namespace Wr
open YtmklifheakemeaaGreat.Nm At Pr
def oz (c:C5):Bool:=kQ c.1 && (if c.2.1=1 then decide (c.2.2.2.2.size=0) && decide (c.2.2.1<=c.2.2.2.1) else if c.2.1=2 then decide (c.2.2.1=0) && (decide (c.2.2.2.1=0) && decide (c.2.2.2.2.size<=12)) else if c.2.1=3 then decide (c.2.2.1=0) && (decide (c.2.2.2.1=0) && decide (c.2.2.2.2.size<=11)) else aP)
def Uk (p x:C5):Bool:=Op.bytesLess p.1.toList x.1.toList
def sQ (l:List C5) (k:Nat):Bool:=match l[k]? with
 | some x=>oz x && (k == 0 || (match l[k-1]? with
  | some p=>Uk p x
  | none=>aM))
 | none=>aM
def fU (l:List C5):Bool:=(List.range l.length).all (sQ l) && decide (l.length<=5)
theorem Bg (l:List C5) (k:Nat) (h:k<l.length) (hg:sQ l k=aP):fU l=aP:=by
 unfold fU;rw [Bool.and_eq_false_iff];refine aS (List.all_eq_false.2 ⟨k,aV.2 h,by rw [hg]; simp⟩)
theorem Bh (l:List C5) (h:∀ j,j<l.length->sQ l j=aM):fU l=decide (l.length<=5):=by
 unfold fU;rw [aZ.2 fun j hj=>h j (aV.1 hj),Bool.true_and]
end Wr
namespace Pr
open Go.RowKit Go.Sort Pu Rw Va
def jE:List C5->List C5->Bool
 | [],[]=>aM
 | x::l,y::m=>z8 x y && jE l m
 | _,_=>aP
theorem Ev:∀ l m,jE l m=aM->l.length=m.length
 | [],[],_=>rfl
 | x::l,y::m,h=>by
  simp only [jE,aH] at h;simp [Ev l m h.2]
 | [],y::m,h=>by simp [jE] at h
 | x::l,[],h=>by simp [jE] at h
theorem Ew:∀ l m,l.length=m.length->(∀ (k:Nat) (x y:C5),l[k]?=X x->m[k]?=X y->z8 x y=aM)->jE l m=aM
 | [],[],_,_=>rfl
 | x::l,y::m,hl,h=>by
  simp only [jE,aH];exact⟨h 0 x y rfl rfl,Ew l m (by simpa using hl) (fun k a b ha hb=>h (k+1) a b (by simpa using ha) (by simpa using hb))⟩
 | [],y::m,hl,_=>by simp at hl
 | x::l,[],hl,_=>by simp at hl
theorem Ey:∀ (l m:List C5) (k:Nat) (x y:C5),l[k]?=X x->m[k]?=X y->z8 x y=aP->jE l m=aP
 | [],_,k,x,y,h,_,_=>by simp at h
 | _::_,[],k,x,y,_,h,_=>by simp at h
 | a::l,b::m,0,x,y,h1,h2,h3=>by
  simp at h1 h2;subst h1 h2;simp [jE,h3]
 | a::l,b::m,k+1,x,y,h1,h2,h3=>by
  simp only [jE,Ey l m k x y (by simpa using h1) (by simpa using h2) h3,bg]
theorem qV:∀ l m:List C5,jE l m=aM↔l=m
 | [],[]=>by simp [jE]
 | x::l,y::m=>by
  simp only [jE,aH,Je,qV l m,List.cons.injEq]
 | [],y::m=>by simp [jE]
 | x::l,[]=>by simp [jE]
theorem uP (nU bv:aF) (l m:List C5) (w:aJ) (ha:fK w nU l) (hb:fK w bv m) (hl:l.length<=1000000) (_hm:m.length<=1000000) :
  Calls aK 27 #[nU,bv] w fun e w'=>e=.returned (.bool (jE l m))/\Below w.heap.size w w':=by
 have HA:=U ha;have HB:=U hb;obtain⟨ao,ac,rfl⟩:=ha.len;obtain⟨bo,bc,rfl⟩:=hb.len;clear ha hb;by_cases hlen:l.length=m.length
 ·have HL:=U hlen;rw [<- hlen] at HB ⊢;generalize hn:l.length=n at *;have HN:=U hn;clear hlen hn;go_enter bN,bJ;go_wp2
  go_loopw [5] (fun i wr=>∃ k:Nat,k<=n/\i=aO aL k/\Below w.heap.size w wr/\∀ (j:Nat) (x y:C5),j<k->l[j]?=X x->m[j]?=X y->z8 x y=aM) (fun i _=>n-(intOf i).toNat)
  case atStart=>exact⟨0,bM _,rfl,J _ _,fun j x y h=>by omega⟩
  case round =>
   obtain⟨k,hk,rfl,hbe,hall⟩:=hrel;have BE:=U hbe;have AL:=U hall;clear hbe hall;by_cases hlt:k<n
   ·obtain⟨x,hx⟩:∃ x,l[k]?=X x:=⟨_,aD (by rw [HN.out]; exact hlt)⟩;obtain⟨y,hy⟩:∃ y,m[k]?=X y:=⟨_,aD (by rw [<- HL.out]; exact hlt)⟩;obtain⟨p,ix,px⟩:=Tm HA.out rfl HN.out hx;obtain⟨q,iy,py⟩:=Tm HB.out rfl HL.out.symm hy;have p0:=cell_regrown (px _ BE.out).1;have p1:=cell_regrown (px _ BE.out).2.1;have p2:=cell_regrown (px _ BE.out).2.2.1;have p3:=cell_regrown (px _ BE.out).2.2.2.1;have p4:=cell_regrown (px _ BE.out).2.2.2.2;have q0:=cell_regrown (py _ BE.out).1;have q1:=cell_regrown (py _ BE.out).2.1;have q2:=cell_regrown (py _ BE.out).2.2.1;have q3:=cell_regrown (py _ BE.out).2.2.2.1;have q4:=cell_regrown (py _ BE.out).2.2.2.2;clear px py;obtain⟨r,hr⟩:∃ r,z8 x y=r:=⟨_,rfl⟩;have hne:=akw x y r hr;have HX:=U hx;have HY:=U hy;have HR:=U hr;clear hx hy hr;cases r
    ·have R:=U (show jE l m=aP from Ey l m k x y HX.out HY.out HR.out);go_wp2;refine wp_region_quiet_below (by kernel_rfl) (by kernel_rfl) ?_
     repeat (go_big_quiet_step (fail))
     refine wpQuiet_nil ?_;intro _ hw';obtain⟨⟨dq,osq⟩,hw''⟩:=hw';subst hw'';go_wp2;go_ret;exact⟨eu R.out.symm,BE.out.trans ((below_regrown wr dq osq).mono BE.out.size)⟩
    ·go_wp2;refine wp_region_quiet_below (by kernel_rfl) (by kernel_rfl) ?_
     repeat (go_big_quiet_step (fail))
     refine wpQuiet_nil ?_;intro _ hw';obtain⟨⟨dq,osq⟩,hw''⟩:=hw';subst hw'';clear ix iy p0 p1 p2 p3 p4 q0 q1 q2 q3 q4 hne;go_wp2
     go_roundw
     case rel=>exact⟨k+1,by omega,by go_num,BE.out.trans ((below_regrown wr dq osq).mono BE.out.size),fun j x' y' hj h1 h2=>by
      rcases bI j k with h3|h3
      ·exact AL.out j x' y' h3 h1 h2
      ·obtain rfl:j=k:=by omega
       have e1:=HX.out;have e2:=HY.out;rw [h1] at e1;rw [h2] at e2;rw [aG e1,aG e2];exact HR.out⟩
     case measure=>simp [intOf]; omega
   ·obtain rfl:k=n:=by omega
    have R:=U (show jE l m=aM from Ew l m (by rw [HN.out]; exact HL.out) (fun j a b h1 h2=>AL.out j a b (by have:=(aB.1 h1).1; have:=HN.out; omega) h1 h2));go_wp2;go_ret;exact⟨eu R.out.symm,BE.out⟩
 ·have R:=U (show jE l m=aP by
   cases h:jE l m
   ·rfl
   ·exact absurd (Ev _ _ h) hlen)
  have hne:(((l.length:Nat):Int) != ((m.length:Nat):Int))=aM:=by simp; omega
  have hne2:(((l.length:Nat):Int) == ((m.length:Nat):Int))=aP:=by simp; omega
  clear hlen;go_enter bN,bJ;go_wp2;go_ret;exact⟨eu R.out.symm,J _ _⟩
end Pr
namespace Rg
open Go.RowKit
structure abB (i N:Nat) (dst:Nat->Option Nat) (last:Nat->Nat) (V:Nat->aF->aJ->Prop) (base:bQ) (o:Oper) (a:bQ) (w:aJ):Prop where
 kp:∀ j u,(∀ k,k<N->dst k≠X j)->base.tmps[j]?=X u->a.eval (Y j)=u
 at_:∀ e∈o.after,aI .any e=aM->(last e.on=i\/N<=last e.on)->∀ d,dst e.on=X d->V e.on (a.eval (Y d)) w
 st:∀ e∈o.after,aI .any e=aM->(last e.on=i\/N<=last e.on)->∃ v,V e.on v w
theorem Ez (a:bQ) (d:Option Nat) (v:aF) (j:Nat) (hj:d≠X j):(a.put d v).tmps[j]?=a.tmps[j]?:=by
 cases d with
 | none=>rfl
 | some d=>exact get_put _ _ _ _ (fun e=>hj (by rw [e]))
theorem Ul (a:bQ) (d:Option Nat) (v:aF):(a.put d v).tmps.size=a.tmps.size:=by
 cases d with
 | none=>rfl
 | some d=>exact size_put _ _ _
theorem put_defers (a:bQ) (d:Option Nat) (v:aF):(a.put d v).defers=a.defers:=by
 cases d <;> rfl
structure PhD (l:List Oper) (N:Nat) (dst:Nat->Option Nat) (last:Nat->Nat) (V:Nat->aF->aJ->Prop) (F:(Nat->Prop)->aJ->Prop) (base:bQ) (L:Array Bool) (a:bQ) (x:aJ):Prop where
 cl:∀ i o,done L i->l[i]?=X o->∀ e∈o.after,aI .any e=aM->done L e.on
 df:a.defers=base.defers
 sz:a.tmps.size=base.tmps.size
 kp:∀ j,(∀ i,i<N->dst i≠X j)->a.tmps[j]?=base.tmps[j]?
 fr:F (done L) x
 no:∀ i,N<=i->¬ done L i
 val:∃ vs:Nat->aF,∀ i,i<N->done L i->(∀ d,dst i=X d->a.tmps[d]?=X (vs i))/\(¬ done L (last i)->V i (vs i) x)
theorem qg {P:Program} {Q:Exit->bQ->aJ->Prop} {id:Nat} {base:bQ} {w:aJ} {l:List Oper} (N:Nat) (dst:Nat->Option Nat) (last:Nat->Nat) (V:Nat->aF->aJ->Prop) (F:(Nat->Prop)->aJ->Prop)
  (hm:P.follows .mixedOrders=aM) (hf:Mh l.toArray=aM) (hN:l.length=N) (hinj:∀ i j d,i<N->j<N->dst i=X d->dst j=X d->i=j) (hs:∀ i d,i<N->dst i=X d->d<base.tmps.size) (h0:F (fun _=>False) w.drew)
  (hop:∀ i o,i<N->l[i]?=X o->∀ a w' (D:Nat->Prop),¬ D i->(∀ j oj,D j->l[j]?=X oj->∀ e∈oj.after,aI .any e=aM->D e.on)->(∀ e∈o.after,aI .any e=aM->D e.on)->F D w'->abB i N dst last V base o a w'->∀ K:bQ->aJ->Prop,(∀ v w'',V i v w''->F (fun j=>j=i\/D j) w''->(∀ j u,j<N->D j->¬ D (last j)->last j≠i->j≠i->V j u w'->V j u w'')->K (a.put (dst i) v) w'')->wpOp P l.toArray Q i K a w')
  (hend:∀ a w',a.defers=base.defers->a.tmps.size=base.tmps.size->(∀ j,(∀ i,i<N->dst i≠X j)->a.tmps[j]?=base.tmps[j]?)->(∃ vs:Nat->aF,∀ i,i<N->(∀ d,dst i=X d->a.tmps[d]?=X (vs i))/\(N<=last i->V i (vs i) w'))->(∃ D:Nat->Prop,(∀ i,i<N->D i)/\F D w')->Q .normal a w'):(Code.region id l.toArray aM).wp P Q base w:=by
 refine o9 (fun L a x=>PhD l N dst last V F base L a x) hm hf ?_ ?_ ?_
 ·exact⟨fun i o h=>absurd h (gH _ _),rfl,rfl,fun _ _=>rfl,by rw [show done (Array.replicate l.length aP)=fun _=>False from funext fun i=>propext ⟨fun h=>gH _ _ h,False.elim⟩]; exact h0,fun i _=>gH _ _,fun _=>.bool aM,fun i _ h=>absurd h (gH _ _)⟩
 ·intro L a x i o hsz I ho hnd mO;have hi:i<l.length:=(aB.1 ho).1;have Aa:i<L.size:=by omega
  have hiM:i<N:=by omega
  obtain⟨vs,q1⟩:=I.val;have hon:∀ e∈o.after,aI .any e=aM->e.on<N:=fun e he hb=>by
   have h7:=aZ.1 hf i (aV.2 (by simpa using hi));have ho':(l.toArray)[i]?=X o:=by simpa using ho
   rw [ho'] at h7;have h8:=Array.all_eq_true'.1 h7 e he;rw [hb] at h8;have:e.on<i:=by simpa using h8
   omega
  have lv:∀ e∈o.after,aI .any e=aM->(last e.on=i\/N<=last e.on)->V e.on (vs e.on) x:=fun e he hbd hl=>by
   refine (q1 e.on (hon e he hbd) (mO e he hbd)).2 ?_;rcases hl with hl|hl
   ·rw [hl]; exact hnd
   ·exact I.no _ hl
  have seen:abB i N dst last V base o a x:=⟨fun j u hj hu=>dL (by rw [I.kp j hj]; exact hu),fun e he hbd hl d hd=>by
   rw [dL ((q1 e.on (hon e he hbd) (mO e he hbd)).1 d hd)];exact lv e he hbd hl,fun e he hbd hl=>⟨_,lv e he hbd hl⟩⟩
  refine hop i o hiM ho a x (done L) hnd I.cl mO I.fr seen _ fun v w'' hvw hfw hpr=>?_;refine⟨fun k q hk hq e he hb=>?_,by rw [put_defers]; exact I.df,by rw [Ul]; exact I.sz,fun j hj=>?_,by rw [show done (L.setIfInBounds i aM)=fun j=>j=i\/done L j from funext fun j=>propext (ig Aa j)]; exact hfw,fun k hk hd=>?_,fun k=>if k=i then v else vs k,fun k hkM hk=>?_⟩
  ·rw [ig Aa] at hk ⊢;rcases hk with rfl|hk
   ·rw [hq] at ho;cases ho;exact aC (mO e he hb)
   ·exact aC (I.cl k q hk hq e he hb)
  ·rw [Ez _ _ _ _ (hj i hiM)];exact I.kp j hj
  ·rcases (ig Aa k).1 hd with h9|h9
   ·omega
   ·exact I.no k hk h9
  ·by_cases e:k=i
   ·subst e;simp only [if_true];refine⟨fun d hd=>?_,fun _=>hvw⟩;have h9:d<a.tmps.size:=by rw [I.sz]; exact hs k d hkM hd
    rw [hd];simp [Act.put,h9]
   ·simp only [if_neg e];rcases (ig Aa k).1 hk with h9|h9
    ·exact absurd h9 e
    ·obtain⟨p1,p2⟩:=q1 k hkM h9;refine⟨fun d hd=>?_,fun hn=>?_⟩
     ·rw [Ez _ _ _ _ (fun h=>e (hinj k i d hkM hiM hd h))];exact p1 d hd
     ·have n1:last k≠i:=fun e3=>hn ((ig Aa _).2 (aS e3));have n2:¬ done L (last k):=fun e3=>hn ((ig Aa _).2 (aC e3));exact hpr k _ hkM h9 n2 n1 e (p2 n2)
 ·intro L a x I hd;obtain⟨vs,q1⟩:=I.val;exact hend a x I.df I.sz I.kp ⟨vs,fun k hk=>⟨(q1 k hk (hd k (by omega))).1,fun hl=>(q1 k hk (hd k (by omega))).2 (I.no _ hl)⟩⟩ ⟨done L,fun i hi=>hd i (by omega),I.fr⟩
end Rg
end Go.Proofs.YtmklifheakemeaaGreat
