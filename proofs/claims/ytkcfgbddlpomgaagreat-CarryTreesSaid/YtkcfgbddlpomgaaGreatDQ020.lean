/-
  The region of Add th. Conditions as told.
-/
import Derived.Test.YtkcfgbddlpomgaaGreatDQ016
import Derived.Test.YtkcfgbddlpomgaaGreatDQ012
import Derived.Lib.Bytealg
import Derived.Deep.LoopGhost
set_option maxRecDepth 100000
set_option maxHeartbeats 64000000
open _root_.Go renaming cell_regrown->aj,World->aF,redrawn->aJ,Value->aK,bodyPost_ret->aN,Addr->aW,Calls->bE
open Go.Instr renaming sliceAt->aH
open Go.IntKind renaming i64->aD
open Go.Lib renaming hid->Z
open Go.Operand renaming tmp->O
open Go.Proofs.Tryz renaming prog->ay,results109->aI,ntmps109->aL,func109->aM
open Go.Proofs.YtkcfgbddlpomgaaGreat.Rg renaming dw->aA,dP->aX,dY->aY,fO->aZ,fU->bf,jL->bg,fC->bn,dI->bD,iJ->bF
open Go.RowKit.Below renaming refl->J,heap_setCell->au
open Go.Value renaming pointer->L,slice->ak,int->aC,bool->aT,string->aV
open _root_.List renaming getElem?_toArray->X,getElem?_cons_succ->Y,getElem?_cons_zero->ah,length_take->aG,length_drop->aR
open _root_.Nat renaming le_refl->aP,lt_of_le_of_lt->aQ,le_of_lt->aU
open _root_.Option renaming some->U,none->V
open Option.some renaming inj->aO
open _root_.Or renaming inr->aB,inl->aS
namespace Go.Proofs.YtkcfgbddlpomgaaGreat
namespace Bk
open Go.RowKit Rw YtkcfgbddlpomgaaGreat.Nm Pr
def KP (B b2 _:Nat) (so:Option aW) (sn sc at_:Nat) (lo hiv:aK) (z:iA) (lt ld:List iA) (i:Nat) (v:aK) (x:aF):Prop :=
 match i with
 | 0=>∃ g,v=ak (U ⟨g,0,V⟩) 0 0/\B<=g/\dJ x g #[] 68
 | 1=>v=L (U ⟨b2,4,V⟩)
 | 2=>v=ak so sn sc
 | 3=>v=aC aD (at_:Int)
 | 4=>v=lo
 | 5=>jg x B v lt
 | 6=>v=qR z
 | 7=>jg x B v [z]
 | 8=>jg x B v (lt++[z])
 | 9=>v=L (U ⟨b2,4,V⟩)
 | 10=>v=ak so sn sc
 | 11=>v=aC aD (at_:Int)
 | 12=>v=hiv
 | 13=>jg x B v (lt++[z]++ld)
 | 14=>v=L (U ⟨b2,4,V⟩)
 | _=>True
noncomputable def Yd:Code:=((Tryz.f57.body.bind (eG 8)).getD .skip)
theorem Q7 (B b2 b3:Nat) (so:Option aW) (sn sc at_:Nat) (lo hiv:aK) (z:iA) (lt ld:List iA) (i:Nat) (v:aK) (x x':aF) (h:KP B b2 b3 so sn sc at_ lo hiv z lt ld i v x) (hb:Below x.heap.size x x'):KP B b2 b3 so sn sc at_ lo hiv z lt ld i v x':=by
 by_cases hi:i<15
 ·rcases (by omega:i=0\/i=1\/i=2\/i=3\/i=4\/i=5\/i=6\/i=7\/i=8\/i=9\/i=10\/i=11\/i=12\/i=13\/i=14) with rfl|rfl|rfl|rfl|rfl|rfl|rfl|rfl|rfl|rfl|rfl|rfl|rfl|rfl|rfl
  ·obtain⟨g,h1,h2,h3⟩:=h;exact⟨g,h1,h2,h3.on hb⟩
  ·exact h
  ·exact h
  ·exact h
  ·exact h
  ·exact dB h hb
  ·exact h
  ·exact dB h hb
  ·exact dB h hb
  ·exact h
  ·exact h
  ·exact h
  ·exact h
  ·exact dB h hb
  ·exact h
 ·unfold KP
  split <;> first | omega | trivial
theorem NS (Q:Exit->Act->aF->Prop) (W:aF) (b2 b3:Nat) (me:Int) (y1 y2 y3 y5:aK) (so:Option aW) (sn sc at_:Nat) (l:List iA) (z:iA) (u0 u1 u4 u5 u6 u8 u9 u10 u11 u12 u13 u14 u15 u16 u17 u18 u19 u20 u21 u22 u23 u24 u25 u26 u27 u28 u29 u30 u31 u32 u33 u34 u35 u36 u37 u38 u39 u40 u41 u42 u43 u44 u45 u46 u47 u48 u49 u50 u51 u52 u53 u54 u55 u56 u57 u58 u59 u60 u61 u62 u63 u64 u65 u66 u67 u68 u69 u70 u71 u72 u73 u74 u75 u76 u77 u78 u79 u80 u81 u82 u83 u84 u85 u86 u87 u88 u89 u90 u91 u92 u93 u94 u95 u96 u97 u98 u99 u100 u101 u102 u103 u104 u105 u106 u107 u108 u109 u110 u111 u112 u113 u114:aK)
  (h2:dJ W b2 #[aC aD me,y1,y2,y3,ak so sn sc,y5] 33) (hx:∀ x,Below W.heap.size W x->∀ j u,(iG z)[j]?=U u->x.cell? ((⟨b3,0,V⟩:aW).add j)=U u) (hs:jZ W (ak so sn sc) l) (hat:at_<=l.length) (hlen:l.length<=900)
  (hQ:∀ (x:aF) (v97 v98 v99 v100 v101 v102 v103 v104 v105 v106 v107 v108 v109 v110 v111:aK),dJ x b2 #[aC aD me,y1,y2,y3,v110,y5] 33->jg x W.heap.size v110 (l.take at_++[z]++l.drop at_)->(∀ B,B<=b2->Below B W x)->(∀ c cs t,c≠b2->dJ W c cs t->dJ x c cs t)->(∀ k,k<W.heap.size->k≠b2->x.heap[k]?=W.heap[k]?)->Q .normal ⟨(u0::u1::L (U ⟨b2,0,V⟩)::L (U ⟨b3,0,V⟩)::u4::u5::u6::aC aD (at_:Int)::u8::u9::u10::u11::u12::u13::u14::u15::u16::u17::u18::u19::u20::u21::u22::u23::u24::u25::u26::u27::u28::u29::u30::u31::u32::u33::u34::u35::u36::u37::u38::u39::u40::u41::u42::u43::u44::u45::u46::u47::u48::u49::u50::u51::u52::u53::u54::u55::u56::u57::u58::u59::u60::u61::u62::u63::u64::u65::u66::u67::u68::u69::u70::u71::u72::u73::u74::u75::u76::u77::u78::u79::u80::u81::u82::u83::u84::u85::u86::u87::u88::u89::u90::u91::u92::u93::u94::u95::u96::v97::v98::v99::v100::v101::v102::v103::v104::v105::v106::v107::v108::v109::v110::v111::u112::u113::u114::[]).toArray,[]⟩ x) :
  Code.wp ay Yd Q ⟨(u0::u1::L (U ⟨b2,0,V⟩)::L (U ⟨b3,0,V⟩)::u4::u5::u6::aC aD (at_:Int)::u8::u9::u10::u11::u12::u13::u14::u15::u16::u17::u18::u19::u20::u21::u22::u23::u24::u25::u26::u27::u28::u29::u30::u31::u32::u33::u34::u35::u36::u37::u38::u39::u40::u41::u42::u43::u44::u45::u46::u47::u48::u49::u50::u51::u52::u53::u54::u55::u56::u57::u58::u59::u60::u61::u62::u63::u64::u65::u66::u67::u68::u69::u70::u71::u72::u73::u74::u75::u76::u77::u78::u79::u80::u81::u82::u83::u84::u85::u86::u87::u88::u89::u90::u91::u92::u93::u94::u95::u96::u97::u98::u99::u100::u101::u102::u103::u104::u105::u106::u107::u108::u109::u110::u111::u112::u113::u114::[]).toArray,[]⟩ W:=by
 have HQ:=Z hQ;have H2:=Z h2;have LX:=Z hx;obtain⟨lo,AU,uE⟩:=tY mY hs at_ (by omega);obtain⟨hiv,AV,vX⟩:=oL mY hs (at_) hat;have LT:=Z (show (l.take at_).length<=1000 by rw [aG]; omega);have Qp:=Z (show (l.take at_).length<=900 by rw [aG]; omega);have LD:=Z (show (l.drop (at_)).length<=1000 by rw [aR]; omega);generalize l.take at_=lt at *;generalize l.drop (at_)=ld at *;have SL:=Z AU;have SH:=Z AV;have RL:=Z uE;have RH:=Z vX;clear hQ h2 hx hs AU AV uE vX hat hlen;have iN:=Q7 W.heap.size b2 b3 so sn sc at_ lo hiv z lt ld;unfold Yd
 conv=>arg 2; whnf
 have nd:∀ j,(j<97\/112<=j)->∀ i,i<15->(fun i=>97+i) i≠j:=by
  intro j hj i hi h;simp only at h;omega
 refine Rg.fJ 16 15 (fun i=>97+i) (fun i=>if i=0 then 5 else if i=5 then 8 else if i=7 then 8 else if i=8 then 13 else 15) (KP W.heap.size b2 b3 so sn sc at_ lo hiv z lt ld) (by kernel_rfl) (by kernel_rfl) rfl (by decide) (fun i j _ _ h=>by have h2:97+i=97+j:=h; omega) (fun i hi=>by show 97+i<115; omega) ?_ (fun _=>Rg.jc 1 (by kernel_rfl)) (fun kk o h1 h2=>by omega) ?_
 ·intro i o hi ho a x D hnd hc hD hb seen K hK;clear HQ;rcases (by omega:i=0\/i=1\/i=2\/i=3\/i=4\/i=5\/i=6\/i=7\/i=8\/i=9\/i=10\/i=11\/i=12\/i=13\/i=14) with rfl|rfl|rfl|rfl|rfl|rfl|rfl|rfl|rfl|rfl|rfl|rfl|rfl|rfl|rfl
  ·cases ho;exact aA rfl rfl (bF a.eval _ 30 0 #[] rfl rfl (by simp [go_sem])) (hK (ak (U ⟨x.heap.size,0,V⟩) 0 0) (x.alloc (.cells #[] 68)) ⟨x.heap.size,rfl,hb.size,dL x #[] 68⟩ ((J _ _).alloc hb.size _) fun j u _ _ _ _ _ h=>iN j u _ _ h ((J _ _).alloc (aP _) _))
  ·cases ho;have e2:a.eval (O 2)=L (U ⟨b2,0,V⟩):=seen.kp 2 _ (nd 2 (by omega)) rfl;exact aA rfl rfl (aX a.eval _ 33 (O 2) 4 rfl (by rw [e2]; simp [go_sem])) (hK _ _ rfl (J _ _) fun _ _ _ _ _ _ _ h=>h)
  ·cases ho;have e98:a.eval (O 98)=L (U ⟨b2,4,V⟩):=seen.at_ ⟨1,.data⟩ (by simp) rfl (aB (by decide));have y:=(H2.out.on hb).cell 4;simp only [X,ah,Y] at y;exact aA rfl rfl (aY a.eval _ 30 (O 98) rfl (by rw [e98]; simp [go_sem,y])) (hK _ _ rfl (J _ _) fun _ _ _ _ _ _ _ h=>h)
  ·cases ho;have e7:a.eval (O 7)=aC aD (at_:Int):=seen.kp 7 _ (nd 7 (by omega)) rfl;exact aA rfl rfl (bf a.eval _ (O 7) rfl x) (hK _ _ e7 (J _ _) fun _ _ _ _ _ _ _ h=>h)
  ·cases ho;have e99:a.eval (O 99)=ak so sn sc:=seen.at_ ⟨2,.data⟩ (by simp) rfl (aB (by decide));have e100:a.eval (O 100)=aC aD (at_:Int):=seen.at_ ⟨3,.data⟩ (by simp) rfl (aB (by decide));exact aA rfl rfl (bg a.eval _ 30 (O 99) V (U (O 100)) V rfl (by show (aH 30 (a.eval (O 99)) V (U (a.eval (O 100))) V).run ay x=.ok lo x; rw [e99,e100]; exact SL.out x)) (hK _ _ rfl (J _ _) fun _ _ _ _ _ _ _ h=>h)
  ·cases ho;obtain⟨g,q0,hBg,hbx⟩:=seen.at_ ⟨0,.data⟩ (by simp) rfl (aS rfl);have q0:a.eval (O 97)=ak (U ⟨g,0,V⟩) 0 0:=q0;have e101:a.eval (O 101)=lo:=seen.at_ ⟨4,.data⟩ (by simp) rfl (aB (by decide));obtain⟨v',x',r,o',gr⟩:=gy mY W.heap.size hbx hBg (RL.out.on hb) LT.out 30;exact aA rfl rfl (aZ a.eval _ (O 97) (O 101) 30 rfl q0 e101 r) (hK v' x' o' (gr.mono hb.size) fun j u _ _ _ _ _ h=>iN j u _ _ h gr)
  ·cases ho;have e3:a.eval (O 3)=L (U ⟨b3,0,V⟩):=seen.kp 3 _ (nd 3 (by omega)) rfl;exact aA rfl rfl (aY a.eval _ 68 (O 3) rfl (by rw [e3]; exact X6 x _ z (LX.out x hb))) (hK _ _ rfl (J _ _) fun _ _ _ _ _ _ _ h=>h)
  ·cases ho;have e103:a.eval (O 103)=qR z:=seen.at_ ⟨6,.data⟩ (by simp) rfl (aB (by decide));have hl:=gT mY x [z] 1 rfl (by simp) (iG z).toArray (by simp [flat,EN]);have hl:jg (x.alloc (.cells (iG z).toArray 68)) x.heap.size (ak (U ⟨x.heap.size,0,V⟩) 1 1) [z]:=hl;exact aA rfl rfl (bF a.eval _ 30 1 #[(0,O 103)] rfl (ps:=#[(0,qR z)]) (by simp [e103]) (by simp [go_sem])) (hK (ak (U ⟨x.heap.size,0,V⟩) 1 1) (x.alloc (.cells (iG z).toArray 68)) (dG hl hb.size) ((J _ _).alloc hb.size _) fun j u _ _ _ _ _ h=>iN j u _ _ h ((J _ _).alloc (aP _) _))
  ·cases ho;have o102:jg x W.heap.size (a.eval (O 102)) (lt):=seen.at_ ⟨5,.data⟩ (by simp) rfl (aS rfl);have o104:jg x W.heap.size (a.eval (O 104)) ([z]):=seen.at_ ⟨7,.data⟩ (by simp) rfl (aS rfl);have ox:=Row.dx o104;obtain⟨v',x',r,o',gr⟩:=fT mY W.heap.size o102 ox (by have:=LT.out; omega) (by simp) hb.size 30;exact aA rfl rfl (aZ a.eval _ (O 102) (O 104) 30 rfl rfl rfl r) (hK v' x' o' ((J _ x).grown gr hb.size fun j hj=>(o102.lt j hj).1) fun j u hj dj nl nx ni h=>by
    rcases (by omega:j=0\/j=1\/j=2\/j=3\/j=4\/j=5\/j=6\/j=7\/j=8\/j=9\/j=10\/j=11\/j=12\/j=13\/j=14) with rfl|rfl|rfl|rfl|rfl|rfl|rfl|rfl|rfl|rfl|rfl|rfl|rfl|rfl|rfl
    ·exact absurd rfl (fun _:(0:Nat)=0=>nl (hc 5 _ (hD ⟨5,.data⟩ (by simp) rfl) rfl ⟨0,.data⟩ (by simp) rfl |> fun _=>hD ⟨5,.data⟩ (by simp) rfl))
    ·exact h
    ·exact h
    ·exact h
    ·exact h
    ·exact absurd rfl (fun _:(0:Nat)=0=>nx rfl)
    ·exact h
    ·exact absurd rfl (fun _:(0:Nat)=0=>nx rfl)
    ·exact absurd rfl (fun _:(0:Nat)=0=>ni rfl)
    ·exact h
    ·exact h
    ·exact h
    ·exact h
    ·exact absurd rfl (fun _:(0:Nat)=0=>hnd (hc 13 _ dj rfl ⟨8,.data⟩ (by simp) rfl))
    ·exact h)
  ·cases ho;have e2:a.eval (O 2)=L (U ⟨b2,0,V⟩):=seen.kp 2 _ (nd 2 (by omega)) rfl;exact aA rfl rfl (aX a.eval _ 33 (O 2) 4 rfl (by rw [e2]; simp [go_sem])) (hK _ _ rfl (J _ _) fun _ _ _ _ _ _ _ h=>h)
  ·cases ho;have e106:a.eval (O 106)=L (U ⟨b2,4,V⟩):=seen.at_ ⟨9,.data⟩ (by simp) rfl (aB (by decide));have y:=(H2.out.on hb).cell 4;simp only [X,ah,Y] at y;exact aA rfl rfl (aY a.eval _ 30 (O 106) rfl (by rw [e106]; simp [go_sem,y])) (hK _ _ rfl (J _ _) fun _ _ _ _ _ _ _ h=>h)
  ·cases ho;have e7:a.eval (O 7)=aC aD (at_:Int):=seen.kp 7 _ (nd 7 (by omega)) rfl;exact aA rfl rfl (bf a.eval _ (O 7) rfl x) (hK _ _ e7 (J _ _) fun _ _ _ _ _ _ _ h=>h)
  ·cases ho;have e107:a.eval (O 107)=ak so sn sc:=seen.at_ ⟨10,.data⟩ (by simp) rfl (aB (by decide));have e108:a.eval (O 108)=aC aD (at_:Int):=seen.at_ ⟨11,.data⟩ (by simp) rfl (aB (by decide));exact aA rfl rfl (bg a.eval _ 30 (O 107) (U (O 108)) V V rfl (by show (aH 30 (a.eval (O 107)) (U (a.eval (O 108))) V V).run ay x=.ok hiv x; rw [e107,e108]; exact SH.out x)) (hK _ _ rfl (J _ _) fun _ _ _ _ _ _ _ h=>h)
  ·cases ho;have o105:jg x W.heap.size (a.eval (O 105)) ((lt++[z])):=seen.at_ ⟨8,.data⟩ (by simp) rfl (aS rfl);have e109:a.eval (O 109)=hiv:=seen.at_ ⟨12,.data⟩ (by simp) rfl (aB (by decide));have ox:jZ x (a.eval (O 109)) ld:=by rw [e109]; exact RH.out.on hb
   obtain⟨v',x',r,o',gr⟩:=fT mY W.heap.size o105 ox (by have:=Qp.out; rw [List.length_append,List.length_singleton]; omega) LD.out hb.size 30;exact aA rfl rfl (aZ a.eval _ (O 105) (O 109) 30 rfl rfl rfl r) (hK v' x' o' ((J _ x).grown gr hb.size fun j hj=>(o105.lt j hj).1) fun j u hj dj nl nx ni h=>by
    rcases (by omega:j=0\/j=1\/j=2\/j=3\/j=4\/j=5\/j=6\/j=7\/j=8\/j=9\/j=10\/j=11\/j=12\/j=13\/j=14) with rfl|rfl|rfl|rfl|rfl|rfl|rfl|rfl|rfl|rfl|rfl|rfl|rfl|rfl|rfl
    ·exact absurd rfl (fun _:(0:Nat)=0=>nl (hc 8 _ (hD ⟨8,.data⟩ (by simp) rfl) rfl ⟨5,.data⟩ (by simp) rfl))
    ·exact h
    ·exact h
    ·exact h
    ·exact h
    ·exact absurd rfl (fun _:(0:Nat)=0=>nl (hD ⟨8,.data⟩ (by simp) rfl))
    ·exact h
    ·exact absurd rfl (fun _:(0:Nat)=0=>nl (hD ⟨8,.data⟩ (by simp) rfl))
    ·exact absurd rfl (fun _:(0:Nat)=0=>nx rfl)
    ·exact h
    ·exact h
    ·exact h
    ·exact h
    ·exact absurd rfl (fun _:(0:Nat)=0=>ni rfl)
    ·exact h)
  ·cases ho;have e2:a.eval (O 2)=L (U ⟨b2,0,V⟩):=seen.kp 2 _ (nd 2 (by omega)) rfl;exact aA rfl rfl (aX a.eval _ 33 (O 2) 4 rfl (by rw [e2]; simp [go_sem])) (hK _ _ rfl (J _ _) fun _ _ _ _ _ _ _ h=>h)
 ·intro a w' df sz kp ⟨vs,hv⟩ hb;have gr:a.tmps[110]?=U (vs 13):=(hv 13 (by omega)).1;have gp:a.tmps[111]?=U (L (U ⟨b2,4,V⟩)):=by
   have h:vs 14=L (U ⟨b2,4,V⟩):=(hv 14 (by omega)).2 (by decide);rw [<- h];exact (hv 14 (by omega)).1
  have oR:jg w' W.heap.size (vs 13) (lt++[z]++ld):=(hv 13 (by omega)).2 (by decide);generalize vs 13=xR at *;obtain⟨ca,cp,eR⟩:=(Row.dx oR).len;have hbx:=H2.out.on hb;have hblt:=H2.out.lt;have c5:=hbx.cell 4;have f5:=hbx.fr 4;simp only [X,ah,Y] at c5;have hb1:=dN (k:=4) hbx xR;show bn _ _ _ 1 15 a w';simp only [bn];refine Rg.fM 30 (O 111) (O 110) rfl rfl rfl rfl (bD gp) (bD gr) (w':=w'.setCell ⟨b2,4,V⟩ xR) (by rw [eR]; simp [go_sem,c5,f5]) ?_;have qU:∀ j,(j<97\/112<=j)->a.tmps[j]?=(u0::u1::L (U ⟨b2,0,V⟩)::L (U ⟨b3,0,V⟩)::u4::u5::u6::aC aD (at_:Int)::u8::u9::u10::u11::u12::u13::u14::u15::u16::u17::u18::u19::u20::u21::u22::u23::u24::u25::u26::u27::u28::u29::u30::u31::u32::u33::u34::u35::u36::u37::u38::u39::u40::u41::u42::u43::u44::u45::u46::u47::u48::u49::u50::u51::u52::u53::u54::u55::u56::u57::u58::u59::u60::u61::u62::u63::u64::u65::u66::u67::u68::u69::u70::u71::u72::u73::u74::u75::u76::u77::u78::u79::u80::u81::u82::u83::u84::u85::u86::u87::u88::u89::u90::u91::u92::u93::u94::u95::u96::u97::u98::u99::u100::u101::u102::u103::u104::u105::u106::u107::u108::u109::u110::u111::u112::u113::u114::[])[j]?:=fun j hj=>(kp j (nd j hj)).trans X;obtain⟨mid,hmid,rfl⟩:=Rg.gq 97 15 df sz (by simp) qU
  match mid,hmid with
  | [v97,v98,v99,v100,v101,v102,v103,v104,v105,v106,v107,v108,v109,v110,v111],_ =>
   have e1:U v110=U xR:=gr;obtain rfl:=aO e1;refine HQ.out _ v97 v98 v99 v100 v101 v102 v103 v104 v105 v106 v107 v108 v109 v110 v111 ?_ ?_ ?_ ?_ ?_
   ·simpa using hb1
   ·exact dM oR b2 4 _ hblt
   ·exact fun B hB=>(hb.mono (aU (aQ hB hblt))).setCell hB _
   ·intro c cs t hc hbc;exact (au _ _ _ _ hc).trans (hbc.on hb)
   ·intro k hk hne;exact (au _ _ _ _ hne).trans (hb.block k hk)
def KQ (B b2 _:Nat) (so:Option aW) (sn sc at_:Nat) (lo hiv:aK) (lt ld:List iA) (i:Nat) (v:aK) (x:aF):Prop :=
 match i with
 | 0=>∃ g,v=ak (U ⟨g,0,V⟩) 0 0/\B<=g/\dJ x g #[] 68
 | 1=>v=L (U ⟨b2,4,V⟩)
 | 2=>v=ak so sn sc
 | 3=>v=aC aD (at_:Int)
 | 4=>v=lo
 | 5=>jg x B v lt
 | 6=>v=L (U ⟨b2,4,V⟩)
 | 7=>v=ak so sn sc
 | 8=>v=aC aD (at_:Int)
 | 9=>v=aC aD ((at_:Int)+1)
 | 10=>v=hiv
 | 11=>jg x B v (lt++ld)
 | 12=>v=L (U ⟨b2,4,V⟩)
 | _=>True
noncomputable def Ye:Code:=((Tryz.f93.body.bind (eG 5)).getD .skip)
theorem Q8 (B b2 b3:Nat) (so:Option aW) (sn sc at_:Nat) (lo hiv:aK) (lt ld:List iA) (i:Nat) (v:aK) (x x':aF) (h:KQ B b2 b3 so sn sc at_ lo hiv lt ld i v x) (hb:Below x.heap.size x x'):KQ B b2 b3 so sn sc at_ lo hiv lt ld i v x':=by
 by_cases hi:i<13
 ·rcases (by omega:i=0\/i=1\/i=2\/i=3\/i=4\/i=5\/i=6\/i=7\/i=8\/i=9\/i=10\/i=11\/i=12) with rfl|rfl|rfl|rfl|rfl|rfl|rfl|rfl|rfl|rfl|rfl|rfl|rfl
  ·obtain⟨g,h1,h2,h3⟩:=h;exact⟨g,h1,h2,h3.on hb⟩
  ·exact h
  ·exact h
  ·exact h
  ·exact h
  ·exact dB h hb
  ·exact h
  ·exact h
  ·exact h
  ·exact h
  ·exact h
  ·exact dB h hb
  ·exact h
 ·unfold KQ
  split <;> first | omega | trivial
theorem afP (Q:Exit->Act->aF->Prop) (W:aF) (b2 b3:Nat) (me:Int) (y1 y2 y3 y5:aK) (so:Option aW) (sn sc at_:Nat) (l:List iA) (u0 u1 u2 u3 u6 u7 u8 u9 u10 u12 u13 u14 u15 u16 u17 u18 u19 u20 u21 u22 u23 u24 u25 u26 u27 u28 u29 u30 u31 u32 u33 u34 u35 u36 u37 u38 u39 u40 u41 u42 u43 u44 u45 u46 u47 u48 u49 u50 u51 u52 u53 u54 u55 u56 u57 u58 u59 u60 u61 u62 u63 u64 u65 u66 u67 u68 u69 u70 u71 u72 u73 u74 u75 u76 u77 u78 u79 u80 u81 u82 u83 u84 u85 u86 u87 u88 u89 u90 u91 u92 u93 u94 u95 u96 u97 u98 u99 u100 u101 u102 u103:aK)
  (h2:dJ W b2 #[aC aD me,y1,y2,y3,ak so sn sc,y5] 33) (hs:jZ W (ak so sn sc) l) (hat:at_+1<=l.length) (hlen:l.length<=900)
  (hQ:∀ (x:aF) (v39 v40 v41 v42 v43 v44 v45 v46 v47 v48 v49 v50 v51:aK),dJ x b2 #[aC aD me,y1,y2,y3,v50,y5] 33->jg x W.heap.size v50 (l.take at_++l.drop (at_+1))->(∀ B,B<=b2->Below B W x)->(∀ c cs t,c≠b2->dJ W c cs t->dJ x c cs t)->(∀ k,k<W.heap.size->k≠b2->x.heap[k]?=W.heap[k]?)->Q .normal ⟨(u0::u1::u2::u3::L (U ⟨b2,0,V⟩)::L (U ⟨b3,0,V⟩)::u6::u7::u8::u9::u10::aC aD (at_:Int)::u12::u13::u14::u15::u16::u17::u18::u19::u20::u21::u22::u23::u24::u25::u26::u27::u28::u29::u30::u31::u32::u33::u34::u35::u36::u37::u38::v39::v40::v41::v42::v43::v44::v45::v46::v47::v48::v49::v50::v51::u52::u53::u54::u55::u56::u57::u58::u59::u60::u61::u62::u63::u64::u65::u66::u67::u68::u69::u70::u71::u72::u73::u74::u75::u76::u77::u78::u79::u80::u81::u82::u83::u84::u85::u86::u87::u88::u89::u90::u91::u92::u93::u94::u95::u96::u97::u98::u99::u100::u101::u102::u103::[]).toArray,[]⟩ x) :
  Code.wp ay Ye Q ⟨(u0::u1::u2::u3::L (U ⟨b2,0,V⟩)::L (U ⟨b3,0,V⟩)::u6::u7::u8::u9::u10::aC aD (at_:Int)::u12::u13::u14::u15::u16::u17::u18::u19::u20::u21::u22::u23::u24::u25::u26::u27::u28::u29::u30::u31::u32::u33::u34::u35::u36::u37::u38::u39::u40::u41::u42::u43::u44::u45::u46::u47::u48::u49::u50::u51::u52::u53::u54::u55::u56::u57::u58::u59::u60::u61::u62::u63::u64::u65::u66::u67::u68::u69::u70::u71::u72::u73::u74::u75::u76::u77::u78::u79::u80::u81::u82::u83::u84::u85::u86::u87::u88::u89::u90::u91::u92::u93::u94::u95::u96::u97::u98::u99::u100::u101::u102::u103::[]).toArray,[]⟩ W:=by
 have HQ:=Z hQ;have H2:=Z h2;have AT1:=Z (show at_<=900 by omega);obtain⟨lo,AU,uE⟩:=tY mY hs at_ (by omega);obtain⟨hiv,AV,vX⟩:=oL mY hs (at_+1) hat;have LT:=Z (show (l.take at_).length<=1000 by rw [aG]; omega);have Qp:=Z (show (l.take at_).length<=900 by rw [aG]; omega);have LD:=Z (show (l.drop (at_+1)).length<=1000 by rw [aR]; omega);generalize l.take at_=lt at *;generalize l.drop (at_+1)=ld at *;have SL:=Z AU;have SH:=Z (show ∀ w,(aH 30 (ak so sn sc) (U (aC aD ((at_:Int)+1))) V V).run ay w=.ok hiv w from AV);have RL:=Z uE;have RH:=Z vX;clear hQ h2 hs AU AV uE vX hat hlen;have iN:=Q8 W.heap.size b2 b3 so sn sc at_ lo hiv lt ld;unfold Ye
 conv=>arg 2; whnf
 have nd:∀ j,(j<39\/52<=j)->∀ i,i<13->(fun i=>39+i) i≠j:=by
  intro j hj i hi h;simp only at h;omega
 refine Rg.fJ 14 13 (fun i=>39+i) (fun i=>if i=0 then 5 else if i=5 then 11 else 13) (KQ W.heap.size b2 b3 so sn sc at_ lo hiv lt ld) (by kernel_rfl) (by kernel_rfl) rfl (by decide) (fun i j _ _ h=>by have h2:39+i=39+j:=h; omega) (fun i hi=>by show 39+i<104; omega) ?_ (fun _=>Rg.jc 1 (by kernel_rfl)) (fun kk o h1 h2=>by omega) ?_
 ·intro i o hi ho a x D hnd hc hD hb seen K hK;clear HQ;rcases (by omega:i=0\/i=1\/i=2\/i=3\/i=4\/i=5\/i=6\/i=7\/i=8\/i=9\/i=10\/i=11\/i=12) with rfl|rfl|rfl|rfl|rfl|rfl|rfl|rfl|rfl|rfl|rfl|rfl|rfl
  ·cases ho;exact aA rfl rfl (bF a.eval _ 30 0 #[] rfl rfl (by simp [go_sem])) (hK (ak (U ⟨x.heap.size,0,V⟩) 0 0) (x.alloc (.cells #[] 68)) ⟨x.heap.size,rfl,hb.size,dL x #[] 68⟩ ((J _ _).alloc hb.size _) fun j u _ _ _ _ _ h=>iN j u _ _ h ((J _ _).alloc (aP _) _))
  ·cases ho;have e4:a.eval (O 4)=L (U ⟨b2,0,V⟩):=seen.kp 4 _ (nd 4 (by omega)) rfl;exact aA rfl rfl (aX a.eval _ 33 (O 4) 4 rfl (by rw [e4]; simp [go_sem])) (hK _ _ rfl (J _ _) fun _ _ _ _ _ _ _ h=>h)
  ·cases ho;have e40:a.eval (O 40)=L (U ⟨b2,4,V⟩):=seen.at_ ⟨1,.data⟩ (by simp) rfl (aB (by decide));have y:=(H2.out.on hb).cell 4;simp only [X,ah,Y] at y;exact aA rfl rfl (aY a.eval _ 30 (O 40) rfl (by rw [e40]; simp [go_sem,y])) (hK _ _ rfl (J _ _) fun _ _ _ _ _ _ _ h=>h)
  ·cases ho;have e11:a.eval (O 11)=aC aD (at_:Int):=seen.kp 11 _ (nd 11 (by omega)) rfl;exact aA rfl rfl (bf a.eval _ (O 11) rfl x) (hK _ _ e11 (J _ _) fun _ _ _ _ _ _ _ h=>h)
  ·cases ho;have e41:a.eval (O 41)=ak so sn sc:=seen.at_ ⟨2,.data⟩ (by simp) rfl (aB (by decide));have e42:a.eval (O 42)=aC aD (at_:Int):=seen.at_ ⟨3,.data⟩ (by simp) rfl (aB (by decide));exact aA rfl rfl (bg a.eval _ 30 (O 41) V (U (O 42)) V rfl (by show (aH 30 (a.eval (O 41)) V (U (a.eval (O 42))) V).run ay x=.ok lo x; rw [e41,e42]; exact SL.out x)) (hK _ _ rfl (J _ _) fun _ _ _ _ _ _ _ h=>h)
  ·cases ho;obtain⟨g,q0,hBg,hbx⟩:=seen.at_ ⟨0,.data⟩ (by simp) rfl (aS rfl);have q0:a.eval (O 39)=ak (U ⟨g,0,V⟩) 0 0:=q0;have e43:a.eval (O 43)=lo:=seen.at_ ⟨4,.data⟩ (by simp) rfl (aB (by decide));obtain⟨v',x',r,o',gr⟩:=gy mY W.heap.size hbx hBg (RL.out.on hb) LT.out 30;exact aA rfl rfl (aZ a.eval _ (O 39) (O 43) 30 rfl q0 e43 r) (hK v' x' o' (gr.mono hb.size) fun j u _ _ _ _ _ h=>iN j u _ _ h gr)
  ·cases ho;have e4:a.eval (O 4)=L (U ⟨b2,0,V⟩):=seen.kp 4 _ (nd 4 (by omega)) rfl;exact aA rfl rfl (aX a.eval _ 33 (O 4) 4 rfl (by rw [e4]; simp [go_sem])) (hK _ _ rfl (J _ _) fun _ _ _ _ _ _ _ h=>h)
  ·cases ho;have e45:a.eval (O 45)=L (U ⟨b2,4,V⟩):=seen.at_ ⟨6,.data⟩ (by simp) rfl (aB (by decide));have y:=(H2.out.on hb).cell 4;simp only [X,ah,Y] at y;exact aA rfl rfl (aY a.eval _ 30 (O 45) rfl (by rw [e45]; simp [go_sem,y])) (hK _ _ rfl (J _ _) fun _ _ _ _ _ _ _ h=>h)
  ·cases ho;have e11:a.eval (O 11)=aC aD (at_:Int):=seen.kp 11 _ (nd 11 (by omega)) rfl;exact aA rfl rfl (bf a.eval _ (O 11) rfl x) (hK _ _ e11 (J _ _) fun _ _ _ _ _ _ _ h=>h)
  ·cases ho;have e47:a.eval (O 47)=aC aD (at_:Int):=seen.at_ ⟨8,.data⟩ (by simp) rfl (aB (by decide));exact aA rfl rfl (Rg.Qg a.eval _ .add 3 (O 47) (.const (aC aD 1)) 3 rfl (by rw [e47]; exact add_one _ _ _ _ at_ AT1.out)) (hK _ _ rfl (J _ _) fun _ _ _ _ _ _ _ h=>h)
  ·cases ho;have e46:a.eval (O 46)=ak so sn sc:=seen.at_ ⟨7,.data⟩ (by simp) rfl (aB (by decide));have e48:a.eval (O 48)=aC aD ((at_:Int)+1):=seen.at_ ⟨9,.data⟩ (by simp) rfl (aB (by decide));exact aA rfl rfl (bg a.eval _ 30 (O 46) (U (O 48)) V V rfl (by show (aH 30 (a.eval (O 46)) (U (a.eval (O 48))) V V).run ay x=.ok hiv x; rw [e46,e48]; exact SH.out x)) (hK _ _ rfl (J _ _) fun _ _ _ _ _ _ _ h=>h)
  ·cases ho;have o44:jg x W.heap.size (a.eval (O 44)) (lt):=seen.at_ ⟨5,.data⟩ (by simp) rfl (aS rfl);have e49:a.eval (O 49)=hiv:=seen.at_ ⟨10,.data⟩ (by simp) rfl (aB (by decide));have ox:jZ x (a.eval (O 49)) ld:=by rw [e49]; exact RH.out.on hb
   obtain⟨v',x',r,o',gr⟩:=fT mY W.heap.size o44 ox (by have:=Qp.out; omega) LD.out hb.size 30;exact aA rfl rfl (aZ a.eval _ (O 44) (O 49) 30 rfl rfl rfl r) (hK v' x' o' ((J _ x).grown gr hb.size fun j hj=>(o44.lt j hj).1) fun j u hj dj nl nx ni h=>by
    rcases (by omega:j=0\/j=1\/j=2\/j=3\/j=4\/j=5\/j=6\/j=7\/j=8\/j=9\/j=10\/j=11\/j=12) with rfl|rfl|rfl|rfl|rfl|rfl|rfl|rfl|rfl|rfl|rfl|rfl|rfl
    ·exact absurd rfl (fun _:(0:Nat)=0=>nl (hD ⟨5,.data⟩ (by simp) rfl))
    ·exact h
    ·exact h
    ·exact h
    ·exact h
    ·exact absurd rfl (fun _:(0:Nat)=0=>nx rfl)
    ·exact h
    ·exact h
    ·exact h
    ·exact h
    ·exact h
    ·exact absurd rfl (fun _:(0:Nat)=0=>ni rfl)
    ·exact h)
  ·cases ho;have e4:a.eval (O 4)=L (U ⟨b2,0,V⟩):=seen.kp 4 _ (nd 4 (by omega)) rfl;exact aA rfl rfl (aX a.eval _ 33 (O 4) 4 rfl (by rw [e4]; simp [go_sem])) (hK _ _ rfl (J _ _) fun _ _ _ _ _ _ _ h=>h)
 ·intro a w' df sz kp ⟨vs,hv⟩ hb;have gr:a.tmps[50]?=U (vs 11):=(hv 11 (by omega)).1;have gp:a.tmps[51]?=U (L (U ⟨b2,4,V⟩)):=by
   have h:vs 12=L (U ⟨b2,4,V⟩):=(hv 12 (by omega)).2 (by decide);rw [<- h];exact (hv 12 (by omega)).1
  have oR:jg w' W.heap.size (vs 11) (lt++ld):=(hv 11 (by omega)).2 (by decide);generalize vs 11=xR at *;obtain⟨ca,cp,eR⟩:=(Row.dx oR).len;have hbx:=H2.out.on hb;have hblt:=H2.out.lt;have c5:=hbx.cell 4;have f5:=hbx.fr 4;simp only [X,ah,Y] at c5;have hb1:=dN (k:=4) hbx xR;show bn _ _ _ 1 13 a w';simp only [bn];refine Rg.fM 30 (O 51) (O 50) rfl rfl rfl rfl (bD gp) (bD gr) (w':=w'.setCell ⟨b2,4,V⟩ xR) (by rw [eR]; simp [go_sem,c5,f5]) ?_;have qU:∀ j,(j<39\/52<=j)->a.tmps[j]?=(u0::u1::u2::u3::L (U ⟨b2,0,V⟩)::L (U ⟨b3,0,V⟩)::u6::u7::u8::u9::u10::aC aD (at_:Int)::u12::u13::u14::u15::u16::u17::u18::u19::u20::u21::u22::u23::u24::u25::u26::u27::u28::u29::u30::u31::u32::u33::u34::u35::u36::u37::u38::u39::u40::u41::u42::u43::u44::u45::u46::u47::u48::u49::u50::u51::u52::u53::u54::u55::u56::u57::u58::u59::u60::u61::u62::u63::u64::u65::u66::u67::u68::u69::u70::u71::u72::u73::u74::u75::u76::u77::u78::u79::u80::u81::u82::u83::u84::u85::u86::u87::u88::u89::u90::u91::u92::u93::u94::u95::u96::u97::u98::u99::u100::u101::u102::u103::[])[j]?:=fun j hj=>(kp j (nd j hj)).trans X;obtain⟨mid,hmid,rfl⟩:=Rg.gq 39 13 df sz (by simp) qU
  match mid,hmid with
  | [v39,v40,v41,v42,v43,v44,v45,v46,v47,v48,v49,v50,v51],_ =>
   have e1:U v50=U xR:=gr;obtain rfl:=aO e1;refine HQ.out _ v39 v40 v41 v42 v43 v44 v45 v46 v47 v48 v49 v50 v51 ?_ ?_ ?_ ?_ ?_
   ·simpa using hb1
   ·exact dM oR b2 4 _ hblt
   ·exact fun B hB=>(hb.mono (aU (aQ hB hblt))).setCell hB _
   ·intro c cs t hc hbc;exact (au _ _ _ _ hc).trans (hbc.on hb)
   ·intro k hk hne;exact (au _ _ _ _ hne).trans (hb.block k hk)
end Bk
namespace Wr
open YtkcfgbddlpomgaaGreat.Nm At Pr
def NU (c:C5):Bool:=FV c.1 && (if c.2.1=1 then decide (c.2.2.2.2.size=0) && decide (c.2.2.1<=c.2.2.2.1) else if c.2.1=2 then decide (c.2.2.1=0) && (decide (c.2.2.2.1=0) && decide (c.2.2.2.2.size<=12)) else if c.2.1=3 then decide (c.2.2.1=0) && (decide (c.2.2.2.1=0) && decide (c.2.2.2.2.size<=11)) else false)
def ac3 (p x:C5):Bool:=Op.bytesLess p.1.toList x.1.toList
def Q9 (l:List C5) (k:Nat):Bool:=match l[k]? with
 | some x=>NU x && (k == 0 || (match l[k-1]? with
  | some p=>ac3 p x
  | none=>true))
 | none=>true
def iX (l:List C5):Bool:=(List.range l.length).all (Q9 l) && decide (l.length<=5)
theorem JE (l:List C5) (h:∀ j,j<l.length->Q9 l j=true):iX l=decide (l.length<=5):=by
 unfold iX;rw [List.all_eq_true.2 fun j hj=>h j (List.mem_range.1 hj),Bool.true_and]
end Wr
namespace Pr
open Go.RowKit Go.Sort Pu Rw Va
end Pr
namespace Avp
open Go.RowKit Go.Sort Rw YtkcfgbddlpomgaaGreat.Nm At Pr Wr Va
end Avp
namespace Rl
open Go.RowKit Pu Rw Pr Va
def KR (n:ByteArray) (r:Option Kd) (w:aF) (e:Ending) (w':aF):Prop:=(∃ c,e=.returned (.tuple #[cv c,aT r.isSome])/\∀ k,r=U k->c=r5 (n,k))/\Below w.heap.size w w'
theorem Em {n:ByteArray} {w w':aF} (c:C5) (h:Below w.heap.size w w'):KR n V w (.returned (.tuple #[cv c,aT false])) w':=⟨⟨c,rfl,fun _ h=>by cases h⟩,h⟩
theorem aa4 {n:ByteArray} {w w':aF} (b:Bool) (k:Kd) (h:Below w.heap.size w w'):KR n (if b=true then U k else V) w (.returned (.tuple #[cv (r5 (n,k)),aT b])) w':=by
 cases b
 ·exact⟨⟨_,rfl,fun _ h=>by cases h⟩,h⟩
 ·exact⟨⟨_,rfl,fun _ h=>by rw [<- aO h]⟩,h⟩
theorem Ra (n:ByteArray) (lo1 hi1:Int) (u2:ByteArray) (w:aF):bE ay 109 #[cv (r5 (n,(.rg lo1 hi1))),cv (r5 (n,(.tx u2)))] w (KR n (fu (.rg lo1 hi1) (.tx u2)) w):=by
 have R:=Z (show fu (.rg lo1 hi1) (.tx u2)=V from rfl);rw [R.out];clear R;simp only [r5,kN,jk,jl,kT];have B:=Z (rC w n 1 lo1 hi1 ⟨#[]⟩ n 2 0 0 u2);go_enter aM,aL;go_wp2;exact aN (v:=.tuple #[cv (n,1,lo1,hi1,⟨#[]⟩),aT false]) (by simp [results,aI,go_sem]) rfl (Em (n,1,lo1,hi1,⟨#[]⟩) (by first | exact B.out.alloc B.out.size _ | exact (((((B.out.alloc B.out.size _).setCell (by simp) _).setCell (by simp) _).setCell (by simp) _).setCell (by simp) _).setCell (by simp) _))
theorem Rb (n:ByteArray) (lo1 hi1:Int) (u2:ByteArray) (w:aF):bE ay 109 #[cv (r5 (n,(.rg lo1 hi1))),cv (r5 (n,(.pr u2)))] w (KR n (fu (.rg lo1 hi1) (.pr u2)) w):=by
 have R:=Z (show fu (.rg lo1 hi1) (.pr u2)=V from rfl);rw [R.out];clear R;simp only [r5,kN,jk,jl,kT];have B:=Z (rC w n 1 lo1 hi1 ⟨#[]⟩ n 3 0 0 u2);go_enter aM,aL;go_wp2;exact aN (v:=.tuple #[cv (n,1,lo1,hi1,⟨#[]⟩),aT false]) (by simp [results,aI,go_sem]) rfl (Em (n,1,lo1,hi1,⟨#[]⟩) (by first | exact B.out.alloc B.out.size _ | exact (((((B.out.alloc B.out.size _).setCell (by simp) _).setCell (by simp) _).setCell (by simp) _).setCell (by simp) _).setCell (by simp) _))
theorem Rc (n:ByteArray) (u1:ByteArray) (lo2 hi2:Int) (w:aF):bE ay 109 #[cv (r5 (n,(.tx u1))),cv (r5 (n,(.rg lo2 hi2)))] w (KR n (fu (.tx u1) (.rg lo2 hi2)) w):=by
 have R:=Z (show fu (.tx u1) (.rg lo2 hi2)=V from rfl);rw [R.out];clear R;simp only [r5,kN,jk,jl,kT];have B:=Z (rC w n 2 0 0 u1 n 1 lo2 hi2 ⟨#[]⟩);go_enter aM,aL;go_wp2;exact aN (v:=.tuple #[cv (n,2,0,0,u1),aT false]) (by simp [results,aI,go_sem]) rfl (Em (n,2,0,0,u1) (by first | exact B.out.alloc B.out.size _ | exact (((((B.out.alloc B.out.size _).setCell (by simp) _).setCell (by simp) _).setCell (by simp) _).setCell (by simp) _).setCell (by simp) _))
theorem Rf (n:ByteArray) (u1:ByteArray) (lo2 hi2:Int) (w:aF):bE ay 109 #[cv (r5 (n,(.pr u1))),cv (r5 (n,(.rg lo2 hi2)))] w (KR n (fu (.pr u1) (.rg lo2 hi2)) w):=by
 have R:=Z (show fu (.pr u1) (.rg lo2 hi2)=V from rfl);rw [R.out];clear R;simp only [r5,kN,jk,jl,kT];have B:=Z (rC w n 3 0 0 u1 n 1 lo2 hi2 ⟨#[]⟩);go_enter aM,aL;go_wp2;exact aN (v:=.tuple #[cv (n,3,0,0,u1),aT false]) (by simp [results,aI,go_sem]) rfl (Em (n,3,0,0,u1) (by first | exact B.out.alloc B.out.size _ | exact (((((B.out.alloc B.out.size _).setCell (by simp) _).setCell (by simp) _).setCell (by simp) _).setCell (by simp) _).setCell (by simp) _))
end Rl
namespace Pr
open Go.RowKit Pu
def lK:List Cn->ByteArray->Nat
 | [],_=>0
 | x::r,n=>if Op.bytesLess x.1.toList n.toList=true then lK r n+1 else 0
theorem KT:∀ l n,lK l n<=l.length
 | [],n=>aP _
 | x::r,n=>by
  have:=KT r n;simp only [lK]
  split <;> simp; omega
def oP (l:List Cn) (n:ByteArray):Bool:=match l[lK l n]? with
 | some x=>decide (x.1=n)
 | none=>false
def Rh (m:List Cn) (c:Cn):Option (List Cn):=match m[lK m c.1]? with
 | some x=>if x.1=c.1 then (fu x.2 c.2).map fun k=>m.set (lK m c.1) (x.1,k) else U (m.take (lK m c.1)++c::m.drop (lK m c.1))
 | none=>U (m.take (lK m c.1)++c::m.drop (lK m c.1))
theorem Eo:∀ (m:List Cn) (c:Cn),qA m c=Rh m c
 | [],c=>rfl
 | x::r,c=>by
  unfold Rh;simp only [qA,lK]
  split
  ·rw [Eo r c,Rh];simp only [Y,List.take_succ_cons,List.drop_succ_cons,List.set_cons_succ];cases h:r[lK r c.1]? with
   | none=>simp
   | some y =>
    simp only
    split
    ·simp [Option.map_map,Function.comp_def]
    ·simp
  ·simp
theorem NV {m:List Cn} {c:Cn} (h:oP m c.1=true):∃ x,m[lK m c.1]?=U x/\x.1=c.1/\qA m c=(fu x.2 c.2).map fun k=>m.set (lK m c.1) (x.1,k):=by
 rw [Eo];unfold oP at h;unfold Rh;cases hx:m[lK m c.1]? with
 | none=>rw [hx] at h; cases h
 | some x =>
  rw [hx] at h;have e:x.1=c.1:=by simpa using h
  exact⟨x,rfl,e,by simp only; rw [if_pos e]⟩
theorem KU {m:List Cn} {c:Cn} (h:oP m c.1=false):qA m c=U (m.take (lK m c.1)++c::m.drop (lK m c.1)):=by
 rw [Eo];unfold oP at h;unfold Rh;cases hx:m[lK m c.1]? with
 | none=>rfl
 | some x =>
  rw [hx] at h;have e:¬ x.1=c.1:=by simpa using h
  simp only;rw [if_neg e]
end Pr
namespace Pr
open Go.RowKit Go.Sort Pu Rw Va
theorem qF {W W1:aF} {v:aK} {l:List C5} {ao:Option aW} {n c k:Nat} {x:C5} (h:fK W v l) (hv:v=ak ao n c) (hn:l.length=n) (hk:l[k]?=U x) (hb:Below W.heap.size W W1) :
  ∃ p:aW,(∀ w,(Instr.indexAt 41 (ak ao n c) (aC aD k)).run ay w=.ok (L (U p)) w) /\
   (∀ d os,(grow (aJ W1 d) os).cell? p=U (aV x.1))/\(∀ d os,(grow (aJ W1 d) os).cell? ⟨p.block,p.off+1,V⟩=U (aC aD x.2.1))/\(∀ d os,(grow (aJ W1 d) os).cell? ⟨p.block,p.off+2,V⟩=U (aC aD x.2.2.1))/\(∀ d os,(grow (aJ W1 d) os).cell? ⟨p.block,p.off+3,V⟩=U (aC aD x.2.2.2.1))/\(∀ d os,(grow (aJ W1 d) os).cell? ⟨p.block,p.off+4,V⟩=U (aV x.2.2.2.2)):=by
 obtain⟨p,h1,h2⟩:=Wm h hv hn hk;obtain⟨c0,c1,c2,c3,c4⟩:=h2 _ hb;exact⟨p,h1,aj c0,aj c1,aj c2,aj c3,aj c4⟩
theorem rH {W:aF} {b:Nat} {c:C5} (h:dJ W b (cells5 c).toArray 106):(∀ d os,(grow (aJ W d) os).cell? ⟨b,0,V⟩=U (aV c.1))/\(∀ d os,(grow (aJ W d) os).cell? ⟨b,1,V⟩=U (aC aD c.2.1))/\(∀ d os,(grow (aJ W d) os).cell? ⟨b,2,V⟩=U (aC aD c.2.2.1))/\(∀ d os,(grow (aJ W d) os).cell? ⟨b,3,V⟩=U (aC aD c.2.2.2.1))/\(∀ d os,(grow (aJ W d) os).cell? ⟨b,4,V⟩=U (aV c.2.2.2.2)) :=
 ⟨aj (h.cell 0),aj (h.cell 1),aj (h.cell 2),aj (h.cell 3),aj (h.cell 4)⟩
end Pr
end Go.Proofs.YtkcfgbddlpomgaaGreat
