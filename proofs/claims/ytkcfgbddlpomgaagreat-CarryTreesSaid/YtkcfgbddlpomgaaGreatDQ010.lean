/-
  The region of Learn . Conditions as told.
-/
import Derived.Test.YtkcfgbddlpomgaaGreatDQ007
import Derived.Test.YtkcfgbddlpomgaaGreatDQ008
import Derived.ChangeSlices
import Derived.Below
set_option maxRecDepth 100000
set_option maxHeartbeats 64000000
open _root_.Go renaming Value->aB,World->aG,Addr->aQ
open Go.Instr renaming sliceAt->aH,indexAt->aP
open Go.IntKind renaming i64->aC
open Go.Lib renaming hid->aj
open Go.Operand renaming tmp->O
open Go.Proofs.Tryz renaming prog->aA,underlying25->aU,underlying3->aV
open Go.Proofs.YtkcfgbddlpomgaaGreat.Rg renaming dw->au,dP->aS,dY->aW,fO->aX,fU->aY,jL->aZ,fC->bf,dI->bg,iJ->bn,fJ->bE,jc->bF,fM->bG,gq->bH
open Go.RowKit.Below renaming refl->J,heap_setCell->ak
open Go.Value renaming pointer->L,slice->ah,int->aD,string->aO,bool->bD
open _root_.List renaming getElem?_toArray->U,getElem?_cons_zero->Y,getElem?_cons_succ->Z,length_take->aF,length_drop->aL,length_singleton->aN,length_append->aR
open _root_.Nat renaming lt_of_le_of_lt->aJ,le_refl->aK,le_of_lt->aT
open _root_.Option renaming some->V,none->X
open Option.some renaming inj->aM
open _root_.Or renaming inr->ay,inl->aI
namespace Go.Proofs.YtkcfgbddlpomgaaGreat
namespace Bk
open Go.RowKit Rw YtkcfgbddlpomgaaGreat.Nm Pr
def Kr (B b2 b3:Nat) (so:Option aQ) (sn sc at_:Nat) (lo hiv:aB) (z:eO) (lt ld:List eO) (i:Nat) (v:aB) (x:aG):Prop :=
 match i with
 | 0=>∃ g,v=ah (V ⟨g,0,X⟩) 0 0/\B<=g/\dJ x g #[] 38
 | 1=>v=L (V ⟨b2,3,X⟩)
 | 2=>v=ah so sn sc
 | 3=>v=aD aC (at_:Int)
 | 4=>v=lo
 | 5=>qB x B v lt
 | 6=>v=L (V ⟨b3,0,X⟩)
 | 7=>v=Qj z
 | 8=>qB x B v [z]
 | 9=>qB x B v (lt++[z])
 | 10=>v=L (V ⟨b2,3,X⟩)
 | 11=>v=ah so sn sc
 | 12=>v=aD aC (at_:Int)
 | 13=>v=hiv
 | 14=>qB x B v (lt++[z]++ld)
 | 15=>v=L (V ⟨b2,3,X⟩)
 | _=>True
noncomputable def X8:Code:=((Tryz.f60.body.bind (eG 6)).getD .skip)
theorem Qo (B b2 b3:Nat) (so:Option aQ) (sn sc at_:Nat) (lo hiv:aB) (z:eO) (lt ld:List eO) (i:Nat) (v:aB) (x x':aG) (h:Kr B b2 b3 so sn sc at_ lo hiv z lt ld i v x) (hb:Below x.heap.size x x'):Kr B b2 b3 so sn sc at_ lo hiv z lt ld i v x':=by
 by_cases hi:i<16
 ·rcases (by omega:i=0\/i=1\/i=2\/i=3\/i=4\/i=5\/i=6\/i=7\/i=8\/i=9\/i=10\/i=11\/i=12\/i=13\/i=14\/i=15) with rfl|rfl|rfl|rfl|rfl|rfl|rfl|rfl|rfl|rfl|rfl|rfl|rfl|rfl|rfl|rfl
  ·obtain⟨g,h1,h2,h3⟩:=h;exact⟨g,h1,h2,h3.on hb⟩
  ·exact h
  ·exact h
  ·exact h
  ·exact h
  ·exact dB h hb
  ·exact h
  ·exact h
  ·exact dB h hb
  ·exact dB h hb
  ·exact h
  ·exact h
  ·exact h
  ·exact h
  ·exact dB h hb
  ·exact h
 ·unfold Kr
  split <;> first | omega | trivial
theorem afz (Q:Exit->Act->aG->Prop) (W:aG) (b2 b3:Nat) (me:Int) (y1 y2 y4 y5:aB) (so:Option aQ) (sn sc at_:Nat) (l:List eO) (z:eO) (u0 u1 u4 u5 u7 u8 u9 u10 u11 u12 u13 u14 u15 u16 u17 u18 u19 u20 u21 u22 u23 u24 u25 u26 u27 u28 u29 u30 u31 u32 u33 u34 u35 u36 u37 u38 u39 u40 u41 u42 u43 u44 u45 u46 u47 u48 u49 u50 u51 u52 u53 u54 u55 u56 u57 u58 u59 u60 u61 u62 u63 u64 u65 u66 u67 u68 u69 u70 u71 u72 u73 u74 u75 u76 u77 u78:aB)
  (h2:dJ W b2 #[aD aC me,y1,y2,ah so sn sc,y4,y5] 33) (hx:∀ x,Below W.heap.size W x->∀ j u,(jm z)[j]?=V u->x.cell? ((⟨b3,0,X⟩:aQ).add j)=V u) (hs:vV W (ah so sn sc) l) (hat:at_<=l.length) (hlen:l.length<=900)
  (hQ:∀ (x:aG) (v29 v30 v31 v32 v33 v34 v35 v36 v37 v38 v39 v40 v41 v42 v43 v44:aB),dJ x b2 #[aD aC me,y1,y2,v43,y4,y5] 33->qB x W.heap.size v43 (l.take at_++[z]++l.drop at_)->(∀ B,B<=b2->Below B W x)->(∀ c cs t,c≠b2->dJ W c cs t->dJ x c cs t)->(∀ k,k<W.heap.size->k≠b2->x.heap[k]?=W.heap[k]?)->Q .normal ⟨(u0::u1::L (V ⟨b2,0,X⟩)::L (V ⟨b3,0,X⟩)::u4::u5::aD aC (at_:Int)::u7::u8::u9::u10::u11::u12::u13::u14::u15::u16::u17::u18::u19::u20::u21::u22::u23::u24::u25::u26::u27::u28::v29::v30::v31::v32::v33::v34::v35::v36::v37::v38::v39::v40::v41::v42::v43::v44::u45::u46::u47::u48::u49::u50::u51::u52::u53::u54::u55::u56::u57::u58::u59::u60::u61::u62::u63::u64::u65::u66::u67::u68::u69::u70::u71::u72::u73::u74::u75::u76::u77::u78::[]).toArray,[]⟩ x) :
  Code.wp aA X8 Q ⟨(u0::u1::L (V ⟨b2,0,X⟩)::L (V ⟨b3,0,X⟩)::u4::u5::aD aC (at_:Int)::u7::u8::u9::u10::u11::u12::u13::u14::u15::u16::u17::u18::u19::u20::u21::u22::u23::u24::u25::u26::u27::u28::u29::u30::u31::u32::u33::u34::u35::u36::u37::u38::u39::u40::u41::u42::u43::u44::u45::u46::u47::u48::u49::u50::u51::u52::u53::u54::u55::u56::u57::u58::u59::u60::u61::u62::u63::u64::u65::u66::u67::u68::u69::u70::u71::u72::u73::u74::u75::u76::u77::u78::[]).toArray,[]⟩ W:=by
 have HQ:=aj hQ;have H2:=aj h2;have LX:=aj hx;obtain⟨lo,AU,uE⟩:=tY yD hs at_ (by omega);obtain⟨hiv,AV,vX⟩:=oL yD hs (at_) hat;have LT:=aj (show (l.take at_).length<=1000 by rw [aF]; omega);have Qp:=aj (show (l.take at_).length<=900 by rw [aF]; omega);have LD:=aj (show (l.drop (at_)).length<=1000 by rw [aL]; omega);generalize l.take at_=lt at *;generalize l.drop (at_)=ld at *;have SL:=aj AU;have SH:=aj AV;have RL:=aj uE;have RH:=aj vX;clear hQ h2 hx hs AU AV uE vX hat hlen;have iN:=Qo W.heap.size b2 b3 so sn sc at_ lo hiv z lt ld;unfold X8
 conv=>arg 2; whnf
 have nd:∀ j,(j<29\/45<=j)->∀ i,i<16->(fun i=>29+i) i≠j:=by
  intro j hj i hi h;simp only at h;omega
 refine bE 17 16 (fun i=>29+i) (fun i=>if i=0 then 5 else if i=5 then 9 else if i=8 then 9 else if i=9 then 14 else 16) (Kr W.heap.size b2 b3 so sn sc at_ lo hiv z lt ld) (by kernel_rfl) (by kernel_rfl) rfl (by decide) (fun i j _ _ h=>by have h2:29+i=29+j:=h; omega) (fun i hi=>by show 29+i<79; omega) ?_ (fun _=>bF 1 (by kernel_rfl)) (fun kk o h1 h2=>by omega) ?_
 ·intro i o hi ho a x D hnd hc hD hb seen K hK;clear HQ;rcases (by omega:i=0\/i=1\/i=2\/i=3\/i=4\/i=5\/i=6\/i=7\/i=8\/i=9\/i=10\/i=11\/i=12\/i=13\/i=14\/i=15) with rfl|rfl|rfl|rfl|rfl|rfl|rfl|rfl|rfl|rfl|rfl|rfl|rfl|rfl|rfl|rfl
  ·cases ho;exact au rfl rfl (bn a.eval _ 29 0 #[] rfl rfl (by simp [go_sem])) (hK (ah (V ⟨x.heap.size,0,X⟩) 0 0) (x.alloc (.cells #[] 38)) ⟨x.heap.size,rfl,hb.size,dL x #[] 38⟩ ((J _ _).alloc hb.size _) fun j u _ _ _ _ _ h=>iN j u _ _ h ((J _ _).alloc (aK _) _))
  ·cases ho;have e2:a.eval (O 2)=L (V ⟨b2,0,X⟩):=seen.kp 2 _ (nd 2 (by omega)) rfl;exact au rfl rfl (aS a.eval _ 33 (O 2) 3 rfl (by rw [e2]; simp [go_sem])) (hK _ _ rfl (J _ _) fun _ _ _ _ _ _ _ h=>h)
  ·cases ho;have e30:a.eval (O 30)=L (V ⟨b2,3,X⟩):=seen.at_ ⟨1,.data⟩ (by simp) rfl (ay (by decide));have y:=(H2.out.on hb).cell 3;simp only [U,Y,Z] at y;exact au rfl rfl (aW a.eval _ 29 (O 30) rfl (by rw [e30]; simp [go_sem,y])) (hK _ _ rfl (J _ _) fun _ _ _ _ _ _ _ h=>h)
  ·cases ho;have e6:a.eval (O 6)=aD aC (at_:Int):=seen.kp 6 _ (nd 6 (by omega)) rfl;exact au rfl rfl (aY a.eval _ (O 6) rfl x) (hK _ _ e6 (J _ _) fun _ _ _ _ _ _ _ h=>h)
  ·cases ho;have e31:a.eval (O 31)=ah so sn sc:=seen.at_ ⟨2,.data⟩ (by simp) rfl (ay (by decide));have e32:a.eval (O 32)=aD aC (at_:Int):=seen.at_ ⟨3,.data⟩ (by simp) rfl (ay (by decide));exact au rfl rfl (aZ a.eval _ 29 (O 31) X (V (O 32)) X rfl (by show (aH 29 (a.eval (O 31)) X (V (a.eval (O 32))) X).run aA x=.ok lo x; rw [e31,e32]; exact SL.out x)) (hK _ _ rfl (J _ _) fun _ _ _ _ _ _ _ h=>h)
  ·cases ho;obtain⟨g,q0,hBg,hbx⟩:=seen.at_ ⟨0,.data⟩ (by simp) rfl (aI rfl);have q0:a.eval (O 29)=ah (V ⟨g,0,X⟩) 0 0:=q0;have e33:a.eval (O 33)=lo:=seen.at_ ⟨4,.data⟩ (by simp) rfl (ay (by decide));obtain⟨v',x',r,o',gr⟩:=gy yD W.heap.size hbx hBg (RL.out.on hb) LT.out 29;exact au rfl rfl (aX a.eval _ (O 29) (O 33) 29 rfl q0 e33 r) (hK v' x' o' (gr.mono hb.size) fun j u _ _ _ _ _ h=>iN j u _ _ h gr)
  ·cases ho;have e3:a.eval (O 3)=L (V ⟨b3,0,X⟩):=seen.kp 3 _ (nd 3 (by omega)) rfl;exact au rfl rfl (aS a.eval _ 53 (O 3) 0 rfl (by rw [e3]; simp [go_sem])) (hK _ _ rfl (J _ _) fun _ _ _ _ _ _ _ h=>h)
  ·cases ho;have e35:a.eval (O 35)=L (V ⟨b3,0,X⟩):=seen.at_ ⟨6,.data⟩ (by simp) rfl (ay (by decide));exact au rfl rfl (aW a.eval _ 38 (O 35) rfl (by rw [e35]; exact Bz x _ z (LX.out x hb))) (hK _ _ rfl (J _ _) fun _ _ _ _ _ _ _ h=>h)
  ·cases ho;have e36:a.eval (O 36)=Qj z:=seen.at_ ⟨7,.data⟩ (by simp) rfl (ay (by decide));have hl:=gT yD x [z] 1 rfl (by simp) (jm z).toArray (by simp [flat,EJ]);have hl:qB (x.alloc (.cells (jm z).toArray 38)) x.heap.size (ah (V ⟨x.heap.size,0,X⟩) 1 1) [z]:=hl;exact au rfl rfl (bn a.eval _ 29 1 #[(0,O 36)] rfl (ps:=#[(0,Qj z)]) (by simp [e36]) (by simp [go_sem])) (hK (ah (V ⟨x.heap.size,0,X⟩) 1 1) (x.alloc (.cells (jm z).toArray 38)) (dG hl hb.size) ((J _ _).alloc hb.size _) fun j u _ _ _ _ _ h=>iN j u _ _ h ((J _ _).alloc (aK _) _))
  ·cases ho;have o34:qB x W.heap.size (a.eval (O 34)) (lt):=seen.at_ ⟨5,.data⟩ (by simp) rfl (aI rfl);have o37:qB x W.heap.size (a.eval (O 37)) ([z]):=seen.at_ ⟨8,.data⟩ (by simp) rfl (aI rfl);have ox:=Row.dx o37;obtain⟨v',x',r,o',gr⟩:=fT yD W.heap.size o34 ox (by have:=LT.out; omega) (by simp) hb.size 29;exact au rfl rfl (aX a.eval _ (O 34) (O 37) 29 rfl rfl rfl r) (hK v' x' o' ((J _ x).grown gr hb.size fun j hj=>(o34.lt j hj).1) fun j u hj dj nl nx ni h=>by
    rcases (by omega:j=0\/j=1\/j=2\/j=3\/j=4\/j=5\/j=6\/j=7\/j=8\/j=9\/j=10\/j=11\/j=12\/j=13\/j=14\/j=15) with rfl|rfl|rfl|rfl|rfl|rfl|rfl|rfl|rfl|rfl|rfl|rfl|rfl|rfl|rfl|rfl
    ·exact absurd rfl (fun _:(0:Nat)=0=>nl (hc 5 _ (hD ⟨5,.data⟩ (by simp) rfl) rfl ⟨0,.data⟩ (by simp) rfl |> fun _=>hD ⟨5,.data⟩ (by simp) rfl))
    ·exact h
    ·exact h
    ·exact h
    ·exact h
    ·exact absurd rfl (fun _:(0:Nat)=0=>nx rfl)
    ·exact h
    ·exact h
    ·exact absurd rfl (fun _:(0:Nat)=0=>nx rfl)
    ·exact absurd rfl (fun _:(0:Nat)=0=>ni rfl)
    ·exact h
    ·exact h
    ·exact h
    ·exact h
    ·exact absurd rfl (fun _:(0:Nat)=0=>hnd (hc 14 _ dj rfl ⟨9,.data⟩ (by simp) rfl))
    ·exact h)
  ·cases ho;have e2:a.eval (O 2)=L (V ⟨b2,0,X⟩):=seen.kp 2 _ (nd 2 (by omega)) rfl;exact au rfl rfl (aS a.eval _ 33 (O 2) 3 rfl (by rw [e2]; simp [go_sem])) (hK _ _ rfl (J _ _) fun _ _ _ _ _ _ _ h=>h)
  ·cases ho;have e39:a.eval (O 39)=L (V ⟨b2,3,X⟩):=seen.at_ ⟨10,.data⟩ (by simp) rfl (ay (by decide));have y:=(H2.out.on hb).cell 3;simp only [U,Y,Z] at y;exact au rfl rfl (aW a.eval _ 29 (O 39) rfl (by rw [e39]; simp [go_sem,y])) (hK _ _ rfl (J _ _) fun _ _ _ _ _ _ _ h=>h)
  ·cases ho;have e6:a.eval (O 6)=aD aC (at_:Int):=seen.kp 6 _ (nd 6 (by omega)) rfl;exact au rfl rfl (aY a.eval _ (O 6) rfl x) (hK _ _ e6 (J _ _) fun _ _ _ _ _ _ _ h=>h)
  ·cases ho;have e40:a.eval (O 40)=ah so sn sc:=seen.at_ ⟨11,.data⟩ (by simp) rfl (ay (by decide));have e41:a.eval (O 41)=aD aC (at_:Int):=seen.at_ ⟨12,.data⟩ (by simp) rfl (ay (by decide));exact au rfl rfl (aZ a.eval _ 29 (O 40) (V (O 41)) X X rfl (by show (aH 29 (a.eval (O 40)) (V (a.eval (O 41))) X X).run aA x=.ok hiv x; rw [e40,e41]; exact SH.out x)) (hK _ _ rfl (J _ _) fun _ _ _ _ _ _ _ h=>h)
  ·cases ho;have o38:qB x W.heap.size (a.eval (O 38)) ((lt++[z])):=seen.at_ ⟨9,.data⟩ (by simp) rfl (aI rfl);have e42:a.eval (O 42)=hiv:=seen.at_ ⟨13,.data⟩ (by simp) rfl (ay (by decide));have ox:vV x (a.eval (O 42)) ld:=by rw [e42]; exact RH.out.on hb
   obtain⟨v',x',r,o',gr⟩:=fT yD W.heap.size o38 ox (by have:=Qp.out; rw [aR,aN]; omega) LD.out hb.size 29;exact au rfl rfl (aX a.eval _ (O 38) (O 42) 29 rfl rfl rfl r) (hK v' x' o' ((J _ x).grown gr hb.size fun j hj=>(o38.lt j hj).1) fun j u hj dj nl nx ni h=>by
    rcases (by omega:j=0\/j=1\/j=2\/j=3\/j=4\/j=5\/j=6\/j=7\/j=8\/j=9\/j=10\/j=11\/j=12\/j=13\/j=14\/j=15) with rfl|rfl|rfl|rfl|rfl|rfl|rfl|rfl|rfl|rfl|rfl|rfl|rfl|rfl|rfl|rfl
    ·exact absurd rfl (fun _:(0:Nat)=0=>nl (hc 9 _ (hD ⟨9,.data⟩ (by simp) rfl) rfl ⟨5,.data⟩ (by simp) rfl))
    ·exact h
    ·exact h
    ·exact h
    ·exact h
    ·exact absurd rfl (fun _:(0:Nat)=0=>nl (hD ⟨9,.data⟩ (by simp) rfl))
    ·exact h
    ·exact h
    ·exact absurd rfl (fun _:(0:Nat)=0=>nl (hD ⟨9,.data⟩ (by simp) rfl))
    ·exact absurd rfl (fun _:(0:Nat)=0=>nx rfl)
    ·exact h
    ·exact h
    ·exact h
    ·exact h
    ·exact absurd rfl (fun _:(0:Nat)=0=>ni rfl)
    ·exact h)
  ·cases ho;have e2:a.eval (O 2)=L (V ⟨b2,0,X⟩):=seen.kp 2 _ (nd 2 (by omega)) rfl;exact au rfl rfl (aS a.eval _ 33 (O 2) 3 rfl (by rw [e2]; simp [go_sem])) (hK _ _ rfl (J _ _) fun _ _ _ _ _ _ _ h=>h)
 ·intro a w' df sz kp ⟨vs,hv⟩ hb;have gr:a.tmps[43]?=V (vs 14):=(hv 14 (by omega)).1;have gp:a.tmps[44]?=V (L (V ⟨b2,3,X⟩)):=by
   have h:vs 15=L (V ⟨b2,3,X⟩):=(hv 15 (by omega)).2 (by decide);rw [<- h];exact (hv 15 (by omega)).1
  have oR:qB w' W.heap.size (vs 14) (lt++[z]++ld):=(hv 14 (by omega)).2 (by decide);generalize vs 14=xR at *;obtain⟨ca,cp,eR⟩:=(Row.dx oR).len;have hbx:=H2.out.on hb;have hblt:=H2.out.lt;have c5:=hbx.cell 3;have f5:=hbx.fr 3;simp only [U,Y,Z] at c5;have hb1:=dN (k:=3) hbx xR;show bf _ _ _ 1 16 a w';simp only [bf];refine bG 29 (O 44) (O 43) rfl rfl rfl rfl (bg gp) (bg gr) (w':=w'.setCell ⟨b2,3,X⟩ xR) (by rw [eR]; simp [go_sem,c5,f5]) ?_;have qU:∀ j,(j<29\/45<=j)->a.tmps[j]?=(u0::u1::L (V ⟨b2,0,X⟩)::L (V ⟨b3,0,X⟩)::u4::u5::aD aC (at_:Int)::u7::u8::u9::u10::u11::u12::u13::u14::u15::u16::u17::u18::u19::u20::u21::u22::u23::u24::u25::u26::u27::u28::u29::u30::u31::u32::u33::u34::u35::u36::u37::u38::u39::u40::u41::u42::u43::u44::u45::u46::u47::u48::u49::u50::u51::u52::u53::u54::u55::u56::u57::u58::u59::u60::u61::u62::u63::u64::u65::u66::u67::u68::u69::u70::u71::u72::u73::u74::u75::u76::u77::u78::[])[j]?:=fun j hj=>(kp j (nd j hj)).trans U;obtain⟨mid,hmid,rfl⟩:=bH 29 16 df sz (by simp) qU
  match mid,hmid with
  | [v29,v30,v31,v32,v33,v34,v35,v36,v37,v38,v39,v40,v41,v42,v43,v44],_ =>
   have e1:V v43=V xR:=gr;obtain rfl:=aM e1;refine HQ.out _ v29 v30 v31 v32 v33 v34 v35 v36 v37 v38 v39 v40 v41 v42 v43 v44 ?_ ?_ ?_ ?_ ?_
   ·simpa using hb1
   ·exact dM oR b2 3 _ hblt
   ·exact fun B hB=>(hb.mono (aT (aJ hB hblt))).setCell hB _
   ·intro c cs t hc hbc;exact (ak _ _ _ _ hc).trans (hbc.on hb)
   ·intro k hk hne;exact (ak _ _ _ _ hne).trans (hb.block k hk)
def Ea (B b2 _b3:Nat) (so:Option aQ) (sn sc at_:Nat) (lo hiv:aB) (z:jD) (lt ld:List jD) (i:Nat) (v:aB) (x:aG):Prop :=
 match i with
 | 0=>∃ g,v=ah (V ⟨g,0,X⟩) 0 0/\B<=g/\dJ x g #[] 53
 | 1=>v=L (V ⟨b2,2,X⟩)
 | 2=>v=ah so sn sc
 | 3=>v=aD aC (at_:Int)
 | 4=>v=lo
 | 5=>kQ x B v lt
 | 6=>v=lV z
 | 7=>kQ x B v [z]
 | 8=>kQ x B v (lt++[z])
 | 9=>v=L (V ⟨b2,2,X⟩)
 | 10=>v=ah so sn sc
 | 11=>v=aD aC (at_:Int)
 | 12=>v=hiv
 | 13=>kQ x B v (lt++[z]++ld)
 | 14=>v=L (V ⟨b2,2,X⟩)
 | _=>True
noncomputable def Qq:Code:=((Tryz.f60.body.bind (eG 10)).getD .skip)
theorem Nk (B b2 b3:Nat) (so:Option aQ) (sn sc at_:Nat) (lo hiv:aB) (z:jD) (lt ld:List jD) (i:Nat) (v:aB) (x x':aG) (h:Ea B b2 b3 so sn sc at_ lo hiv z lt ld i v x) (hb:Below x.heap.size x x'):Ea B b2 b3 so sn sc at_ lo hiv z lt ld i v x':=by
 by_cases hi:i<15
 ·rcases (by omega:i=0\/i=1\/i=2\/i=3\/i=4\/i=5\/i=6\/i=7\/i=8\/i=9\/i=10\/i=11\/i=12\/i=13\/i=14) with rfl|rfl|rfl|rfl|rfl|rfl|rfl|rfl|rfl|rfl|rfl|rfl|rfl|rfl|rfl
  ·obtain⟨g,h1,h2,h3⟩:=h;exact⟨g,h1,h2,h3.on hb⟩
  ·exact h
  ·exact h
  ·exact h
  ·exact h
  ·exact dB h hb
  ·exact h
  ·exact dB h hb
  ·exact dB h hb
  ·exact h
  ·exact h
  ·exact h
  ·exact h
  ·exact dB h hb
  ·exact h
 ·unfold Ea
  split <;> first | omega | trivial
theorem acS (Q:Exit->Act->aG->Prop) (W:aG) (b2 b3:Nat) (me:Int) (y1 y3 y4 y5:aB) (so:Option aQ) (sn sc at_:Nat) (l:List jD) (z:jD) (u0 u1 u4 u5 u7 u8 u9 u10 u11 u12 u13 u14 u15 u16 u17 u18 u19 u20 u21 u22 u23 u24 u25 u26 u27 u28 u29 u30 u31 u32 u33 u34 u35 u36 u37 u38 u39 u40 u41 u42 u43 u44 u45 u46 u47 u48 u49 u50 u51 u52 u53 u54 u55 u56 u57 u58 u59 u60 u61 u62 u63 u64 u65 u66 u67 u68 u69 u70 u71 u72 u73 u74 u75 u76 u77 u78:aB)
  (h2:dJ W b2 #[aD aC me,y1,ah so sn sc,y3,y4,y5] 33) (hx:∀ x,Below W.heap.size W x->∀ j u,(cellsD z)[j]?=V u->x.cell? ((⟨b3,0,X⟩:aQ).add j)=V u) (hs:uI W (ah so sn sc) l) (hat:at_<=l.length) (hlen:l.length<=900)
  (hQ:∀ (x:aG) (v63 v64 v65 v66 v67 v68 v69 v70 v71 v72 v73 v74 v75 v76 v77:aB),dJ x b2 #[aD aC me,y1,v76,y3,y4,y5] 33->kQ x W.heap.size v76 (l.take at_++[z]++l.drop at_)->(∀ B,B<=b2->Below B W x)->(∀ c cs t,c≠b2->dJ W c cs t->dJ x c cs t)->(∀ k,k<W.heap.size->k≠b2->x.heap[k]?=W.heap[k]?)->Q .normal ⟨(u0::u1::L (V ⟨b2,0,X⟩)::L (V ⟨b3,0,X⟩)::u4::u5::aD aC (at_:Int)::u7::u8::u9::u10::u11::u12::u13::u14::u15::u16::u17::u18::u19::u20::u21::u22::u23::u24::u25::u26::u27::u28::u29::u30::u31::u32::u33::u34::u35::u36::u37::u38::u39::u40::u41::u42::u43::u44::u45::u46::u47::u48::u49::u50::u51::u52::u53::u54::u55::u56::u57::u58::u59::u60::u61::u62::v63::v64::v65::v66::v67::v68::v69::v70::v71::v72::v73::v74::v75::v76::v77::u78::[]).toArray,[]⟩ x) :
  Code.wp aA Qq Q ⟨(u0::u1::L (V ⟨b2,0,X⟩)::L (V ⟨b3,0,X⟩)::u4::u5::aD aC (at_:Int)::u7::u8::u9::u10::u11::u12::u13::u14::u15::u16::u17::u18::u19::u20::u21::u22::u23::u24::u25::u26::u27::u28::u29::u30::u31::u32::u33::u34::u35::u36::u37::u38::u39::u40::u41::u42::u43::u44::u45::u46::u47::u48::u49::u50::u51::u52::u53::u54::u55::u56::u57::u58::u59::u60::u61::u62::u63::u64::u65::u66::u67::u68::u69::u70::u71::u72::u73::u74::u75::u76::u77::u78::[]).toArray,[]⟩ W:=by
 have HQ:=aj hQ;have H2:=aj h2;have LX:=aj hx;obtain⟨lo,AU,uE⟩:=tY okD hs at_ (by omega);obtain⟨hiv,AV,vX⟩:=oL okD hs (at_) hat;have LT:=aj (show (l.take at_).length<=1000 by rw [aF]; omega);have Qp:=aj (show (l.take at_).length<=900 by rw [aF]; omega);have LD:=aj (show (l.drop (at_)).length<=1000 by rw [aL]; omega);generalize l.take at_=lt at *;generalize l.drop (at_)=ld at *;have SL:=aj AU;have SH:=aj AV;have RL:=aj uE;have RH:=aj vX;clear hQ h2 hx hs AU AV uE vX hat hlen;have iN:=Nk W.heap.size b2 b3 so sn sc at_ lo hiv z lt ld;unfold Qq
 conv=>arg 2; whnf
 have nd:∀ j,(j<63\/78<=j)->∀ i,i<15->(fun i=>63+i) i≠j:=by
  intro j hj i hi h;simp only at h;omega
 refine bE 16 15 (fun i=>63+i) (fun i=>if i=0 then 5 else if i=5 then 8 else if i=7 then 8 else if i=8 then 13 else 15) (Ea W.heap.size b2 b3 so sn sc at_ lo hiv z lt ld) (by kernel_rfl) (by kernel_rfl) rfl (by decide) (fun i j _ _ h=>by have h2:63+i=63+j:=h; omega) (fun i hi=>by show 63+i<79; omega) ?_ (fun _=>bF 1 (by kernel_rfl)) (fun kk o h1 h2=>by omega) ?_
 ·intro i o hi ho a x D hnd hc hD hb seen K hK;clear HQ;rcases (by omega:i=0\/i=1\/i=2\/i=3\/i=4\/i=5\/i=6\/i=7\/i=8\/i=9\/i=10\/i=11\/i=12\/i=13\/i=14) with rfl|rfl|rfl|rfl|rfl|rfl|rfl|rfl|rfl|rfl|rfl|rfl|rfl|rfl|rfl
  ·cases ho;exact au rfl rfl (bn a.eval _ 28 0 #[] rfl rfl (by simp [go_sem])) (hK (ah (V ⟨x.heap.size,0,X⟩) 0 0) (x.alloc (.cells #[] 53)) ⟨x.heap.size,rfl,hb.size,dL x #[] 53⟩ ((J _ _).alloc hb.size _) fun j u _ _ _ _ _ h=>iN j u _ _ h ((J _ _).alloc (aK _) _))
  ·cases ho;have e2:a.eval (O 2)=L (V ⟨b2,0,X⟩):=seen.kp 2 _ (nd 2 (by omega)) rfl;exact au rfl rfl (aS a.eval _ 33 (O 2) 2 rfl (by rw [e2]; simp [go_sem])) (hK _ _ rfl (J _ _) fun _ _ _ _ _ _ _ h=>h)
  ·cases ho;have e64:a.eval (O 64)=L (V ⟨b2,2,X⟩):=seen.at_ ⟨1,.data⟩ (by simp) rfl (ay (by decide));have y:=(H2.out.on hb).cell 2;simp only [U,Y,Z] at y;exact au rfl rfl (aW a.eval _ 28 (O 64) rfl (by rw [e64]; simp [go_sem,y])) (hK _ _ rfl (J _ _) fun _ _ _ _ _ _ _ h=>h)
  ·cases ho;have e6:a.eval (O 6)=aD aC (at_:Int):=seen.kp 6 _ (nd 6 (by omega)) rfl;exact au rfl rfl (aY a.eval _ (O 6) rfl x) (hK _ _ e6 (J _ _) fun _ _ _ _ _ _ _ h=>h)
  ·cases ho;have e65:a.eval (O 65)=ah so sn sc:=seen.at_ ⟨2,.data⟩ (by simp) rfl (ay (by decide));have e66:a.eval (O 66)=aD aC (at_:Int):=seen.at_ ⟨3,.data⟩ (by simp) rfl (ay (by decide));exact au rfl rfl (aZ a.eval _ 28 (O 65) X (V (O 66)) X rfl (by show (aH 28 (a.eval (O 65)) X (V (a.eval (O 66))) X).run aA x=.ok lo x; rw [e65,e66]; exact SL.out x)) (hK _ _ rfl (J _ _) fun _ _ _ _ _ _ _ h=>h)
  ·cases ho;obtain⟨g,q0,hBg,hbx⟩:=seen.at_ ⟨0,.data⟩ (by simp) rfl (aI rfl);have q0:a.eval (O 63)=ah (V ⟨g,0,X⟩) 0 0:=q0;have e67:a.eval (O 67)=lo:=seen.at_ ⟨4,.data⟩ (by simp) rfl (ay (by decide));obtain⟨v',x',r,o',gr⟩:=gy okD W.heap.size hbx hBg (RL.out.on hb) LT.out 28;exact au rfl rfl (aX a.eval _ (O 63) (O 67) 28 rfl q0 e67 r) (hK v' x' o' (gr.mono hb.size) fun j u _ _ _ _ _ h=>iN j u _ _ h gr)
  ·cases ho;have e3:a.eval (O 3)=L (V ⟨b3,0,X⟩):=seen.kp 3 _ (nd 3 (by omega)) rfl;exact au rfl rfl (aW a.eval _ 53 (O 3) rfl (by rw [e3]; exact Qk x _ z (LX.out x hb))) (hK _ _ rfl (J _ _) fun _ _ _ _ _ _ _ h=>h)
  ·cases ho;have e69:a.eval (O 69)=lV z:=seen.at_ ⟨6,.data⟩ (by simp) rfl (ay (by decide));have hl:=gT okD x [z] 1 rfl (by simp) (cellsD z).toArray (by simp [flat,ED]);have hl:kQ (x.alloc (.cells (cellsD z).toArray 53)) x.heap.size (ah (V ⟨x.heap.size,0,X⟩) 1 1) [z]:=hl;exact au rfl rfl (bn a.eval _ 28 1 #[(0,O 69)] rfl (ps:=#[(0,lV z)]) (by simp [e69]) (by simp [go_sem])) (hK (ah (V ⟨x.heap.size,0,X⟩) 1 1) (x.alloc (.cells (cellsD z).toArray 53)) (dG hl hb.size) ((J _ _).alloc hb.size _) fun j u _ _ _ _ _ h=>iN j u _ _ h ((J _ _).alloc (aK _) _))
  ·cases ho;have o68:kQ x W.heap.size (a.eval (O 68)) (lt):=seen.at_ ⟨5,.data⟩ (by simp) rfl (aI rfl);have o70:kQ x W.heap.size (a.eval (O 70)) ([z]):=seen.at_ ⟨7,.data⟩ (by simp) rfl (aI rfl);have ox:=Row.dx o70;obtain⟨v',x',r,o',gr⟩:=fT okD W.heap.size o68 ox (by have:=LT.out; omega) (by simp) hb.size 28;exact au rfl rfl (aX a.eval _ (O 68) (O 70) 28 rfl rfl rfl r) (hK v' x' o' ((J _ x).grown gr hb.size fun j hj=>(o68.lt j hj).1) fun j u hj dj nl nx ni h=>by
    rcases (by omega:j=0\/j=1\/j=2\/j=3\/j=4\/j=5\/j=6\/j=7\/j=8\/j=9\/j=10\/j=11\/j=12\/j=13\/j=14) with rfl|rfl|rfl|rfl|rfl|rfl|rfl|rfl|rfl|rfl|rfl|rfl|rfl|rfl|rfl
    ·exact absurd rfl (fun _:(0:Nat)=0=>nl (hc 5 _ (hD ⟨5,.data⟩ (by simp) rfl) rfl ⟨0,.data⟩ (by simp) rfl |> fun _=>hD ⟨5,.data⟩ (by simp) rfl))
    ·exact h
    ·exact h
    ·exact h
    ·exact h
    ·exact absurd rfl (fun _:(0:Nat)=0=>nx rfl)
    ·exact h
    ·exact absurd rfl (fun _:(0:Nat)=0=>nx rfl)
    ·exact absurd rfl (fun _:(0:Nat)=0=>ni rfl)
    ·exact h
    ·exact h
    ·exact h
    ·exact h
    ·exact absurd rfl (fun _:(0:Nat)=0=>hnd (hc 13 _ dj rfl ⟨8,.data⟩ (by simp) rfl))
    ·exact h)
  ·cases ho;have e2:a.eval (O 2)=L (V ⟨b2,0,X⟩):=seen.kp 2 _ (nd 2 (by omega)) rfl;exact au rfl rfl (aS a.eval _ 33 (O 2) 2 rfl (by rw [e2]; simp [go_sem])) (hK _ _ rfl (J _ _) fun _ _ _ _ _ _ _ h=>h)
  ·cases ho;have e72:a.eval (O 72)=L (V ⟨b2,2,X⟩):=seen.at_ ⟨9,.data⟩ (by simp) rfl (ay (by decide));have y:=(H2.out.on hb).cell 2;simp only [U,Y,Z] at y;exact au rfl rfl (aW a.eval _ 28 (O 72) rfl (by rw [e72]; simp [go_sem,y])) (hK _ _ rfl (J _ _) fun _ _ _ _ _ _ _ h=>h)
  ·cases ho;have e6:a.eval (O 6)=aD aC (at_:Int):=seen.kp 6 _ (nd 6 (by omega)) rfl;exact au rfl rfl (aY a.eval _ (O 6) rfl x) (hK _ _ e6 (J _ _) fun _ _ _ _ _ _ _ h=>h)
  ·cases ho;have e73:a.eval (O 73)=ah so sn sc:=seen.at_ ⟨10,.data⟩ (by simp) rfl (ay (by decide));have e74:a.eval (O 74)=aD aC (at_:Int):=seen.at_ ⟨11,.data⟩ (by simp) rfl (ay (by decide));exact au rfl rfl (aZ a.eval _ 28 (O 73) (V (O 74)) X X rfl (by show (aH 28 (a.eval (O 73)) (V (a.eval (O 74))) X X).run aA x=.ok hiv x; rw [e73,e74]; exact SH.out x)) (hK _ _ rfl (J _ _) fun _ _ _ _ _ _ _ h=>h)
  ·cases ho;have o71:kQ x W.heap.size (a.eval (O 71)) ((lt++[z])):=seen.at_ ⟨8,.data⟩ (by simp) rfl (aI rfl);have e75:a.eval (O 75)=hiv:=seen.at_ ⟨12,.data⟩ (by simp) rfl (ay (by decide));have ox:uI x (a.eval (O 75)) ld:=by rw [e75]; exact RH.out.on hb
   obtain⟨v',x',r,o',gr⟩:=fT okD W.heap.size o71 ox (by have:=Qp.out; rw [aR,aN]; omega) LD.out hb.size 28;exact au rfl rfl (aX a.eval _ (O 71) (O 75) 28 rfl rfl rfl r) (hK v' x' o' ((J _ x).grown gr hb.size fun j hj=>(o71.lt j hj).1) fun j u hj dj nl nx ni h=>by
    rcases (by omega:j=0\/j=1\/j=2\/j=3\/j=4\/j=5\/j=6\/j=7\/j=8\/j=9\/j=10\/j=11\/j=12\/j=13\/j=14) with rfl|rfl|rfl|rfl|rfl|rfl|rfl|rfl|rfl|rfl|rfl|rfl|rfl|rfl|rfl
    ·exact absurd rfl (fun _:(0:Nat)=0=>nl (hc 8 _ (hD ⟨8,.data⟩ (by simp) rfl) rfl ⟨5,.data⟩ (by simp) rfl))
    ·exact h
    ·exact h
    ·exact h
    ·exact h
    ·exact absurd rfl (fun _:(0:Nat)=0=>nl (hD ⟨8,.data⟩ (by simp) rfl))
    ·exact h
    ·exact absurd rfl (fun _:(0:Nat)=0=>nl (hD ⟨8,.data⟩ (by simp) rfl))
    ·exact absurd rfl (fun _:(0:Nat)=0=>nx rfl)
    ·exact h
    ·exact h
    ·exact h
    ·exact h
    ·exact absurd rfl (fun _:(0:Nat)=0=>ni rfl)
    ·exact h)
  ·cases ho;have e2:a.eval (O 2)=L (V ⟨b2,0,X⟩):=seen.kp 2 _ (nd 2 (by omega)) rfl;exact au rfl rfl (aS a.eval _ 33 (O 2) 2 rfl (by rw [e2]; simp [go_sem])) (hK _ _ rfl (J _ _) fun _ _ _ _ _ _ _ h=>h)
 ·intro a w' df sz kp ⟨vs,hv⟩ hb;have gr:a.tmps[76]?=V (vs 13):=(hv 13 (by omega)).1;have gp:a.tmps[77]?=V (L (V ⟨b2,2,X⟩)):=by
   have h:vs 14=L (V ⟨b2,2,X⟩):=(hv 14 (by omega)).2 (by decide);rw [<- h];exact (hv 14 (by omega)).1
  have oR:kQ w' W.heap.size (vs 13) (lt++[z]++ld):=(hv 13 (by omega)).2 (by decide);generalize vs 13=xR at *;obtain⟨ca,cp,eR⟩:=(Row.dx oR).len;have hbx:=H2.out.on hb;have hblt:=H2.out.lt;have c5:=hbx.cell 2;have f5:=hbx.fr 2;simp only [U,Y,Z] at c5;have hb1:=dN (k:=2) hbx xR;show bf _ _ _ 1 15 a w';simp only [bf];refine bG 28 (O 77) (O 76) rfl rfl rfl rfl (bg gp) (bg gr) (w':=w'.setCell ⟨b2,2,X⟩ xR) (by rw [eR]; simp [go_sem,c5,f5]) ?_;have qU:∀ j,(j<63\/78<=j)->a.tmps[j]?=(u0::u1::L (V ⟨b2,0,X⟩)::L (V ⟨b3,0,X⟩)::u4::u5::aD aC (at_:Int)::u7::u8::u9::u10::u11::u12::u13::u14::u15::u16::u17::u18::u19::u20::u21::u22::u23::u24::u25::u26::u27::u28::u29::u30::u31::u32::u33::u34::u35::u36::u37::u38::u39::u40::u41::u42::u43::u44::u45::u46::u47::u48::u49::u50::u51::u52::u53::u54::u55::u56::u57::u58::u59::u60::u61::u62::u63::u64::u65::u66::u67::u68::u69::u70::u71::u72::u73::u74::u75::u76::u77::u78::[])[j]?:=fun j hj=>(kp j (nd j hj)).trans U;obtain⟨mid,hmid,rfl⟩:=bH 63 15 df sz (by simp) qU
  match mid,hmid with
  | [v63,v64,v65,v66,v67,v68,v69,v70,v71,v72,v73,v74,v75,v76,v77],_ =>
   have e1:V v76=V xR:=gr;obtain rfl:=aM e1;refine HQ.out _ v63 v64 v65 v66 v67 v68 v69 v70 v71 v72 v73 v74 v75 v76 v77 ?_ ?_ ?_ ?_ ?_
   ·simpa using hb1
   ·exact dM oR b2 2 _ hblt
   ·exact fun B hB=>(hb.mono (aT (aJ hB hblt))).setCell hB _
   ·intro c cs t hc hbc;exact (ak _ _ _ _ hc).trans (hbc.on hb)
   ·intro k hk hne;exact (ak _ _ _ _ hne).trans (hb.block k hk)
def Kt (B b2 _b3:Nat) (so:Option aQ) (sn sc at_:Nat) (lo hiv:aB) (lt ld:List jD) (i:Nat) (v:aB) (x:aG):Prop :=
 match i with
 | 0=>∃ g,v=ah (V ⟨g,0,X⟩) 0 0/\B<=g/\dJ x g #[] 53
 | 1=>v=L (V ⟨b2,2,X⟩)
 | 2=>v=ah so sn sc
 | 3=>v=aD aC (at_:Int)
 | 4=>v=lo
 | 5=>kQ x B v lt
 | 6=>v=L (V ⟨b2,2,X⟩)
 | 7=>v=ah so sn sc
 | 8=>v=aD aC (at_:Int)
 | 9=>v=aD aC ((at_:Int)+1)
 | 10=>v=hiv
 | 11=>kQ x B v (lt++ld)
 | 12=>v=L (V ⟨b2,2,X⟩)
 | _=>True
noncomputable def X9:Code:=((Tryz.f95.body.bind (eG 4)).getD .skip)
theorem Qr (B b2 b3:Nat) (so:Option aQ) (sn sc at_:Nat) (lo hiv:aB) (lt ld:List jD) (i:Nat) (v:aB) (x x':aG) (h:Kt B b2 b3 so sn sc at_ lo hiv lt ld i v x) (hb:Below x.heap.size x x'):Kt B b2 b3 so sn sc at_ lo hiv lt ld i v x':=by
 by_cases hi:i<13
 ·rcases (by omega:i=0\/i=1\/i=2\/i=3\/i=4\/i=5\/i=6\/i=7\/i=8\/i=9\/i=10\/i=11\/i=12) with rfl|rfl|rfl|rfl|rfl|rfl|rfl|rfl|rfl|rfl|rfl|rfl|rfl
  ·obtain⟨g,h1,h2,h3⟩:=h;exact⟨g,h1,h2,h3.on hb⟩
  ·exact h
  ·exact h
  ·exact h
  ·exact h
  ·exact dB h hb
  ·exact h
  ·exact h
  ·exact h
  ·exact h
  ·exact h
  ·exact dB h hb
  ·exact h
 ·unfold Kt
  split <;> first | omega | trivial
theorem afA (Q:Exit->Act->aG->Prop) (W:aG) (b2 b3:Nat) (me:Int) (y1 y3 y4 y5:aB) (so:Option aQ) (sn sc at_:Nat) (l:List jD) (u0 u1 u2 u5 u6 u7 u9 u10 u11 u12 u13 u14 u15 u16 u17 u18 u19 u20 u21 u22 u23 u24 u25 u26 u27 u28 u29 u30 u31 u32 u33 u34 u35 u36 u37 u38 u39 u40 u41 u42 u43 u44 u45 u46 u47 u48 u49 u50 u51 u52 u53 u54 u55 u56 u57 u58 u59:aB)
  (h2:dJ W b2 #[aD aC me,y1,ah so sn sc,y3,y4,y5] 33) (hs:uI W (ah so sn sc) l) (hat:at_+1<=l.length) (hlen:l.length<=900)
  (hQ:∀ (x:aG) (v28 v29 v30 v31 v32 v33 v34 v35 v36 v37 v38 v39 v40:aB),dJ x b2 #[aD aC me,y1,v39,y3,y4,y5] 33->kQ x W.heap.size v39 (l.take at_++l.drop (at_+1))->(∀ B,B<=b2->Below B W x)->(∀ c cs t,c≠b2->dJ W c cs t->dJ x c cs t)->(∀ k,k<W.heap.size->k≠b2->x.heap[k]?=W.heap[k]?)->Q .normal ⟨(u0::u1::u2::L (V ⟨b2,0,X⟩)::L (V ⟨b3,0,X⟩)::u5::u6::u7::aD aC (at_:Int)::u9::u10::u11::u12::u13::u14::u15::u16::u17::u18::u19::u20::u21::u22::u23::u24::u25::u26::u27::v28::v29::v30::v31::v32::v33::v34::v35::v36::v37::v38::v39::v40::u41::u42::u43::u44::u45::u46::u47::u48::u49::u50::u51::u52::u53::u54::u55::u56::u57::u58::u59::[]).toArray,[]⟩ x) :
  Code.wp aA X9 Q ⟨(u0::u1::u2::L (V ⟨b2,0,X⟩)::L (V ⟨b3,0,X⟩)::u5::u6::u7::aD aC (at_:Int)::u9::u10::u11::u12::u13::u14::u15::u16::u17::u18::u19::u20::u21::u22::u23::u24::u25::u26::u27::u28::u29::u30::u31::u32::u33::u34::u35::u36::u37::u38::u39::u40::u41::u42::u43::u44::u45::u46::u47::u48::u49::u50::u51::u52::u53::u54::u55::u56::u57::u58::u59::[]).toArray,[]⟩ W:=by
 have HQ:=aj hQ;have H2:=aj h2;have AT1:=aj (show at_<=900 by omega);obtain⟨lo,AU,uE⟩:=tY okD hs at_ (by omega);obtain⟨hiv,AV,vX⟩:=oL okD hs (at_+1) hat;have LT:=aj (show (l.take at_).length<=1000 by rw [aF]; omega);have Qp:=aj (show (l.take at_).length<=900 by rw [aF]; omega);have LD:=aj (show (l.drop (at_+1)).length<=1000 by rw [aL]; omega);generalize l.take at_=lt at *;generalize l.drop (at_+1)=ld at *;have SL:=aj AU;have SH:=aj (show ∀ w,(aH 28 (ah so sn sc) (V (aD aC ((at_:Int)+1))) X X).run aA w=.ok hiv w from AV);have RL:=aj uE;have RH:=aj vX;clear hQ h2 hs AU AV uE vX hat hlen;have iN:=Qr W.heap.size b2 b3 so sn sc at_ lo hiv lt ld;unfold X9
 conv=>arg 2; whnf
 have nd:∀ j,(j<28\/41<=j)->∀ i,i<13->(fun i=>28+i) i≠j:=by
  intro j hj i hi h;simp only at h;omega
 refine bE 14 13 (fun i=>28+i) (fun i=>if i=0 then 5 else if i=5 then 11 else 13) (Kt W.heap.size b2 b3 so sn sc at_ lo hiv lt ld) (by kernel_rfl) (by kernel_rfl) rfl (by decide) (fun i j _ _ h=>by have h2:28+i=28+j:=h; omega) (fun i hi=>by show 28+i<60; omega) ?_ (fun _=>bF 1 (by kernel_rfl)) (fun kk o h1 h2=>by omega) ?_
 ·intro i o hi ho a x D hnd hc hD hb seen K hK;clear HQ;rcases (by omega:i=0\/i=1\/i=2\/i=3\/i=4\/i=5\/i=6\/i=7\/i=8\/i=9\/i=10\/i=11\/i=12) with rfl|rfl|rfl|rfl|rfl|rfl|rfl|rfl|rfl|rfl|rfl|rfl|rfl
  ·cases ho;exact au rfl rfl (bn a.eval _ 28 0 #[] rfl rfl (by simp [go_sem])) (hK (ah (V ⟨x.heap.size,0,X⟩) 0 0) (x.alloc (.cells #[] 53)) ⟨x.heap.size,rfl,hb.size,dL x #[] 53⟩ ((J _ _).alloc hb.size _) fun j u _ _ _ _ _ h=>iN j u _ _ h ((J _ _).alloc (aK _) _))
  ·cases ho;have e3:a.eval (O 3)=L (V ⟨b2,0,X⟩):=seen.kp 3 _ (nd 3 (by omega)) rfl;exact au rfl rfl (aS a.eval _ 33 (O 3) 2 rfl (by rw [e3]; simp [go_sem])) (hK _ _ rfl (J _ _) fun _ _ _ _ _ _ _ h=>h)
  ·cases ho;have e29:a.eval (O 29)=L (V ⟨b2,2,X⟩):=seen.at_ ⟨1,.data⟩ (by simp) rfl (ay (by decide));have y:=(H2.out.on hb).cell 2;simp only [U,Y,Z] at y;exact au rfl rfl (aW a.eval _ 28 (O 29) rfl (by rw [e29]; simp [go_sem,y])) (hK _ _ rfl (J _ _) fun _ _ _ _ _ _ _ h=>h)
  ·cases ho;have e8:a.eval (O 8)=aD aC (at_:Int):=seen.kp 8 _ (nd 8 (by omega)) rfl;exact au rfl rfl (aY a.eval _ (O 8) rfl x) (hK _ _ e8 (J _ _) fun _ _ _ _ _ _ _ h=>h)
  ·cases ho;have e30:a.eval (O 30)=ah so sn sc:=seen.at_ ⟨2,.data⟩ (by simp) rfl (ay (by decide));have e31:a.eval (O 31)=aD aC (at_:Int):=seen.at_ ⟨3,.data⟩ (by simp) rfl (ay (by decide));exact au rfl rfl (aZ a.eval _ 28 (O 30) X (V (O 31)) X rfl (by show (aH 28 (a.eval (O 30)) X (V (a.eval (O 31))) X).run aA x=.ok lo x; rw [e30,e31]; exact SL.out x)) (hK _ _ rfl (J _ _) fun _ _ _ _ _ _ _ h=>h)
  ·cases ho;obtain⟨g,q0,hBg,hbx⟩:=seen.at_ ⟨0,.data⟩ (by simp) rfl (aI rfl);have q0:a.eval (O 28)=ah (V ⟨g,0,X⟩) 0 0:=q0;have e32:a.eval (O 32)=lo:=seen.at_ ⟨4,.data⟩ (by simp) rfl (ay (by decide));obtain⟨v',x',r,o',gr⟩:=gy okD W.heap.size hbx hBg (RL.out.on hb) LT.out 28;exact au rfl rfl (aX a.eval _ (O 28) (O 32) 28 rfl q0 e32 r) (hK v' x' o' (gr.mono hb.size) fun j u _ _ _ _ _ h=>iN j u _ _ h gr)
  ·cases ho;have e3:a.eval (O 3)=L (V ⟨b2,0,X⟩):=seen.kp 3 _ (nd 3 (by omega)) rfl;exact au rfl rfl (aS a.eval _ 33 (O 3) 2 rfl (by rw [e3]; simp [go_sem])) (hK _ _ rfl (J _ _) fun _ _ _ _ _ _ _ h=>h)
  ·cases ho;have e34:a.eval (O 34)=L (V ⟨b2,2,X⟩):=seen.at_ ⟨6,.data⟩ (by simp) rfl (ay (by decide));have y:=(H2.out.on hb).cell 2;simp only [U,Y,Z] at y;exact au rfl rfl (aW a.eval _ 28 (O 34) rfl (by rw [e34]; simp [go_sem,y])) (hK _ _ rfl (J _ _) fun _ _ _ _ _ _ _ h=>h)
  ·cases ho;have e8:a.eval (O 8)=aD aC (at_:Int):=seen.kp 8 _ (nd 8 (by omega)) rfl;exact au rfl rfl (aY a.eval _ (O 8) rfl x) (hK _ _ e8 (J _ _) fun _ _ _ _ _ _ _ h=>h)
  ·cases ho;have e36:a.eval (O 36)=aD aC (at_:Int):=seen.at_ ⟨8,.data⟩ (by simp) rfl (ay (by decide));exact au rfl rfl (Rg.Qg a.eval _ .add 3 (O 36) (.const (aD aC 1)) 3 rfl (by rw [e36]; exact add_one _ _ _ _ at_ AT1.out)) (hK _ _ rfl (J _ _) fun _ _ _ _ _ _ _ h=>h)
  ·cases ho;have e35:a.eval (O 35)=ah so sn sc:=seen.at_ ⟨7,.data⟩ (by simp) rfl (ay (by decide));have e37:a.eval (O 37)=aD aC ((at_:Int)+1):=seen.at_ ⟨9,.data⟩ (by simp) rfl (ay (by decide));exact au rfl rfl (aZ a.eval _ 28 (O 35) (V (O 37)) X X rfl (by show (aH 28 (a.eval (O 35)) (V (a.eval (O 37))) X X).run aA x=.ok hiv x; rw [e35,e37]; exact SH.out x)) (hK _ _ rfl (J _ _) fun _ _ _ _ _ _ _ h=>h)
  ·cases ho;have o33:kQ x W.heap.size (a.eval (O 33)) (lt):=seen.at_ ⟨5,.data⟩ (by simp) rfl (aI rfl);have e38:a.eval (O 38)=hiv:=seen.at_ ⟨10,.data⟩ (by simp) rfl (ay (by decide));have ox:uI x (a.eval (O 38)) ld:=by rw [e38]; exact RH.out.on hb
   obtain⟨v',x',r,o',gr⟩:=fT okD W.heap.size o33 ox (by have:=Qp.out; omega) LD.out hb.size 28;exact au rfl rfl (aX a.eval _ (O 33) (O 38) 28 rfl rfl rfl r) (hK v' x' o' ((J _ x).grown gr hb.size fun j hj=>(o33.lt j hj).1) fun j u hj dj nl nx ni h=>by
    rcases (by omega:j=0\/j=1\/j=2\/j=3\/j=4\/j=5\/j=6\/j=7\/j=8\/j=9\/j=10\/j=11\/j=12) with rfl|rfl|rfl|rfl|rfl|rfl|rfl|rfl|rfl|rfl|rfl|rfl|rfl
    ·exact absurd rfl (fun _:(0:Nat)=0=>nl (hD ⟨5,.data⟩ (by simp) rfl))
    ·exact h
    ·exact h
    ·exact h
    ·exact h
    ·exact absurd rfl (fun _:(0:Nat)=0=>nx rfl)
    ·exact h
    ·exact h
    ·exact h
    ·exact h
    ·exact h
    ·exact absurd rfl (fun _:(0:Nat)=0=>ni rfl)
    ·exact h)
  ·cases ho;have e3:a.eval (O 3)=L (V ⟨b2,0,X⟩):=seen.kp 3 _ (nd 3 (by omega)) rfl;exact au rfl rfl (aS a.eval _ 33 (O 3) 2 rfl (by rw [e3]; simp [go_sem])) (hK _ _ rfl (J _ _) fun _ _ _ _ _ _ _ h=>h)
 ·intro a w' df sz kp ⟨vs,hv⟩ hb;have gr:a.tmps[39]?=V (vs 11):=(hv 11 (by omega)).1;have gp:a.tmps[40]?=V (L (V ⟨b2,2,X⟩)):=by
   have h:vs 12=L (V ⟨b2,2,X⟩):=(hv 12 (by omega)).2 (by decide);rw [<- h];exact (hv 12 (by omega)).1
  have oR:kQ w' W.heap.size (vs 11) (lt++ld):=(hv 11 (by omega)).2 (by decide);generalize vs 11=xR at *;obtain⟨ca,cp,eR⟩:=(Row.dx oR).len;have hbx:=H2.out.on hb;have hblt:=H2.out.lt;have c5:=hbx.cell 2;have f5:=hbx.fr 2;simp only [U,Y,Z] at c5;have hb1:=dN (k:=2) hbx xR;show bf _ _ _ 1 13 a w';simp only [bf];refine bG 28 (O 40) (O 39) rfl rfl rfl rfl (bg gp) (bg gr) (w':=w'.setCell ⟨b2,2,X⟩ xR) (by rw [eR]; simp [go_sem,c5,f5]) ?_;have qU:∀ j,(j<28\/41<=j)->a.tmps[j]?=(u0::u1::u2::L (V ⟨b2,0,X⟩)::L (V ⟨b3,0,X⟩)::u5::u6::u7::aD aC (at_:Int)::u9::u10::u11::u12::u13::u14::u15::u16::u17::u18::u19::u20::u21::u22::u23::u24::u25::u26::u27::u28::u29::u30::u31::u32::u33::u34::u35::u36::u37::u38::u39::u40::u41::u42::u43::u44::u45::u46::u47::u48::u49::u50::u51::u52::u53::u54::u55::u56::u57::u58::u59::[])[j]?:=fun j hj=>(kp j (nd j hj)).trans U;obtain⟨mid,hmid,rfl⟩:=bH 28 13 df sz (by simp) qU
  match mid,hmid with
  | [v28,v29,v30,v31,v32,v33,v34,v35,v36,v37,v38,v39,v40],_ =>
   have e1:V v39=V xR:=gr;obtain rfl:=aM e1;refine HQ.out _ v28 v29 v30 v31 v32 v33 v34 v35 v36 v37 v38 v39 v40 ?_ ?_ ?_ ?_ ?_
   ·simpa using hb1
   ·exact dM oR b2 2 _ hblt
   ·exact fun B hB=>(hb.mono (aT (aJ hB hblt))).setCell hB _
   ·intro c cs t hc hbc;exact (ak _ _ _ _ hc).trans (hbc.on hb)
   ·intro k hk hne;exact (ak _ _ _ _ hne).trans (hb.block k hk)
end Bk
namespace In
open Go.RowKit Go.ChangeShapes Go.WideShapes
structure jo (W:aG) (nv:aB) (zs:List Int):Prop where
 shape:∃ ao cap,nv=ah ao zs.length cap
 at_:∀ (i:Nat) (z:Int),zs[i]?=V z->(-9223372036854775808<=z/\z<=9223372036854775807)/\∃ p:aQ,p.block<W.heap.size/\(∀ w,(aP 25 nv (aD aC i)).run aA w=.ok (L (V p)) w)/\W.cell? p=V (aD aC z)
theorem jo.on {W W':aG} {nv:aB} {zs:List Int} (h:jo W nv zs) (hb:Below W.heap.size W W'):jo W' nv zs :=
 ⟨h.shape,fun i z hz=>by
  obtain⟨h1,p,h2,h3,h4⟩:=h.at_ i z hz;exact⟨h1,p,Nat.lt_of_lt_of_le h2 hb.size,h3,by rw [hb.cell h2]; exact h4⟩⟩
theorem sD {n:Int} (h:(Lit.int aC n).wf=true):-9223372036854775808<=n/\n<=9223372036854775807:=by
 have h2:(decide (IntKind.i64.min<=n) && decide (n<=IntKind.i64.max))=true:=h;rw [Bool.and_eq_true,decide_eq_true_eq,decide_eq_true_eq,show IntKind.i64.min=-9223372036854775808 by decide,show IntKind.i64.max=9223372036854775807 by decide] at h2;exact h2
theorem Jm:Tryz.prog.cellsOf 3=1:=by kernel_rfl
theorem Jo (a:aQ) (m len cap:Nat) (h:m<len) (w:aG):(aP 25 (ah (V a) len cap) (aD aC m)).run aA w=.ok (L (V (a.add m))) w:=by
 have h1:(m:Int)<len:=by omega
 simp [go_sem,aU,h1]
theorem xW {H:Type} {enc:TypeId×aB->H} {W:aG} {sp:Nat->Bool} {held:Bool} {fuel:Nat} {v:aB} {x:DataW H×List MemPlace}
  (hf:DataW.trod enc aA W 0 sp held fuel 25 [v]=V x):∃ zs,zs.length<=maxLen/\jo W v zs:=by
 rcases open_ints aU aV Jm hf with⟨h1,_⟩|⟨a',len',cap',zs,h1,_,h3,h4,h5,_,h7,h8⟩
 ·have e:v=ah X 0 0:=by simpa using h1
  rw [e];exact⟨[],Nat.zero_le _,⟨X,0,rfl⟩,fun i z h=>by simp at h⟩
 ·have e:v=ah (V a') len' cap':=by simpa using h1
  rw [e];have hle:len'<=zs.length:=by rw [h5]; split <;> omega
  have hl:(zs.take len').length=len':=by simp; omega
  refine⟨zs.take len',by omega,⟨V a',cap',by rw [hl]⟩,fun i z hz=>?_⟩;obtain⟨hi,hzi⟩:=List.getElem?_eq_some_iff.1 hz;have hi2:i<len':=by omega
  have hz2:zs[i]'(by omega)=z:=by simpa using hzi
  have hc:=h7 i (by omega);have hg:zs.getD i 0=z:=by rw [<- hz2]; simp [List.getD,show i<zs.length by omega]
  rw [hg] at hc;exact⟨sD (h8 z (by rw [<- hz2]; exact List.getElem_mem _)),a'.add i,World.block_lt_of_cell? W _ hc,fun w=>Jo a' i len' cap' hi2 w,hc⟩
end In
namespace At
open Go.RowKit Va
abbrev A4:=ByteArray×Bool×Int×ByteArray
abbrev av (x:A4):aB:=.agg #[aO x.1,bD x.2.1,aD aC x.2.2.1,aO x.2.2.2]
def yH (x:A4):List aB:=[aO x.1,bD x.2.1,aD aC x.2.2.1,aO x.2.2.2]
def kY:List A4->List aB
 | []=>[]
 | x::r=>.string x.1::bD x.2.1::aD aC x.2.2.1::aO x.2.2.2::kY r
theorem uK:∀ a b,kY (a++b)=kY a++kY b
 | [],b=>rfl
 | x::r,b=>by simp [kY,uK r b]
theorem Cc:∀ l,∀ u∈kY l,u.oneCell'=true
 | [],u,h=>by cases h
 | x::r,u,h=>by
  simp only [kY,List.mem_cons] at h;rcases h with rfl|rfl|rfl|rfl|h
  ·rfl
  ·rfl
  ·rfl
  ·rfl
  ·exact Cc r u h
theorem F7:∀ (l:List A4) (m:Nat) (x:A4),l[m]?=V x->(kY l)[m * 4]?=V (aO x.1)/\(kY l)[m * 4+1]?=V (bD x.2.1)/\(kY l)[m * 4+2]?=V (aD aC x.2.2.1)/\(kY l)[m * 4+3]?=V (aO x.2.2.2)
 | [],m,x,h=>by simp at h
 | y::r,0,x,h=>by
  simp at h;subst h;exact⟨rfl,rfl,rfl,rfl⟩
 | y::r,m+1,x,h=>by
  have h2:=F7 r m x (by simpa using h);rw [show (m+1) * 4=m * 4+1+1+1+1 by omega,show m * 4+1+1+1+1+2=m * 4+2+1+1+1+1 by omega,show m * 4+1+1+1+1+3=m * 4+3+1+1+1+1 by omega];exact h2
theorem add_add (a:aQ) (i j:Nat):(a.add i).add j=a.add (i+j):=by
 unfold Addr.add;by_cases hi:i=0 <;> by_cases hj:j=0 <;> simp [hi,hj,Nat.add_assoc]
def uL (W:aG) (lv:aB) (l:List A4):Prop :=
 (l=[]/\lv=ah X 0 0)\/∃ (a:aQ) (cap:Nat),lv=ah (V a) l.length cap/\l.length<=cap/\cap<=maxLen/\∀ j u,(kY l)[j]?=V u->W.cell? (a.add j)=V u
theorem uL.on {W W':aG} {lv:aB} {l:List A4} (h:uL W lv l) (hb:Below W.heap.size W W'):uL W' lv l:=by
 rcases h with h|⟨a,cap,h1,h2,h3,h5⟩
 ·exact aI h
 ·exact ay ⟨a,cap,h1,h2,h3,fun j u hj=>by
   have hc:=h5 j u hj;rw [hb.cell (World.block_lt_of_cell? W _ hc)]; exact hc⟩
theorem uL.len {W:aG} {lv:aB} {l:List A4} (h:uL W lv l):∃ ao cap,lv=ah ao l.length cap:=by
 rcases h with⟨rfl,rfl⟩|⟨a,cap,rfl,_⟩
 ·exact⟨X,0,rfl⟩
 ·exact⟨_,cap,rfl⟩
theorem lt_of_heap {w:aG} {b:Nat} {o:Obj} (h:w.heap[b]?=V o):b<w.heap.size:=by
 rcases Nat.lt_or_ge b w.heap.size with h0|h0
 ·exact h0
 ·simp [Array.getElem?_eq_none h0] at h
theorem uL.Wp {W:aG} {B:Nat} {lv:aB} {l:List A4} (h:W.ownsRow B 97 4 lv l.length (kY l)):uL W lv l:=by
 rcases h.2 with⟨h1,h2⟩|⟨g,cap,cur,h1,h2,h3,h4,h5,h6,h7⟩
 ·exact aI ⟨List.eq_nil_of_length_eq_zero h2,h1⟩
 ·exact ay ⟨⟨g,0,X⟩,cap,h1,h4,h5,fun j u hj=>h.cells (g:=g) (by rw [h1]; rfl) j u hj⟩
theorem Jp (a:aQ) (m len cap:Nat) (h:m<len) (w:aG):(aP 39 (ah (V a) len cap) (aD aC m)).run aA w=.ok (L (V (a.add (m * 4)))) w:=by
 have h1:(m:Int)<len:=by omega
 simp [go_sem,Tryz.underlying39,h1]
theorem aaF:Tryz.prog.stoodInHeld 97=false:=by kernel_rfl
def Eb (x y:A4):Bool:=x.1.toList == y.1.toList && (x.2.1 == y.2.1 && x.2.2.1 == y.2.2.1 && x.2.2.2.toList == y.2.2.2.toList)
theorem afC (x y:A4) (r:Bool) (hr:Eb x y=r) (w:aG):(binOp .neq 97 (av x) (av y)).run aA w=.ok (bD (!r)) w:=by
 have st:=aaF;subst hr;obtain⟨a,b,c,d⟩:=x;obtain⟨a',b',c',d'⟩:=y;unfold Eb;by_cases h1:a.toList=a'.toList <;> by_cases h2:b=b' <;> by_cases h3:c=c' <;> by_cases h4:d.toList=d'.toList <;> simp [go_sem,Tryz.underlying97,Tryz.underlying93,Tryz.underlying4,aV,Tryz.underlying9,st,h1,h2,h3,h4]
end At
end Go.Proofs.YtkcfgbddlpomgaaGreat
