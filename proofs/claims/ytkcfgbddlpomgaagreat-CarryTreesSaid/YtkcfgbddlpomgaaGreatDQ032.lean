/-
  inEntries of package. Conditions as told.
-/
import Derived.Test.YtkcfgbddlpomgaaGreatDQ018
import Derived.Deep.LoopGhost
import Derived.Test.YtkcfgbddlpomgaaGreatDQ016
import Derived.Test.YtkcfgbddlpomgaaGreatDQ015
set_option maxRecDepth 100000
set_option maxHeartbeats 64000000
open _root_.Go renaming World->aA,Value->aF
open Go.ByteArray renaming toList_eq->aD
open Go.IntKind renaming i64->O
open Go.Lib renaming hid->Z
open Go.Operand renaming tmp->au
open Go.RowKit.Below renaming refl->J,heap_setCell->aB
open Go.Value renaming int->L,pointer->ak,slice->ay,bool->aG,string->aL
open _root_.List renaming getElem?_toArray->V,getElem?_cons_zero->ah,getElem?_cons_succ->aj,length_take->aJ,mem_append->aK
open _root_.Nat renaming le_refl->aI,le_of_lt->aM
open _root_.Option renaming none->U,some->aC
open _root_.Or renaming inr->aH,inl->aN
namespace Go.Proofs.YtkcfgbddlpomgaaGreat
namespace Av
open Go.RowKit Go.Sort Rw YtkcfgbddlpomgaaGreat.Nm Pr Bk
def qO {α:Type} (c:α->α->Int):List α->Bool
 | x::y::l=>decide (c x y<0) && qO c (y::l)
 | _=>true
end Av
namespace Bk
open Go.RowKit Rw YtkcfgbddlpomgaaGreat.Nm Pr
def EH (B b2 _:Nat) (so:Option Addr) (sn sc at_:Nat) (lo hiv:aF) (z:qM) (lt ld:List qM) (i:Nat) (v:aF) (x:aA):Prop :=
 match i with
 | 0=>∃ g,v=ay (aC ⟨g,0,U⟩) 0 0/\B<=g/\dJ x g #[] 61
 | 1=>v=ak (aC ⟨b2,5,U⟩)
 | 2=>v=ay so sn sc
 | 3=>v=L O (at_:Int)
 | 4=>v=lo
 | 5=>oN x B v lt
 | 6=>v=mD (z.1,z.2.1)
 | 7=>v=dR z.2.2
 | 8=>v=Ql z
 | 9=>oN x B v [z]
 | 10=>oN x B v (lt++[z])
 | 11=>v=ak (aC ⟨b2,5,U⟩)
 | 12=>v=ay so sn sc
 | 13=>v=L O (at_:Int)
 | 14=>v=hiv
 | 15=>oN x B v (lt++[z]++ld)
 | 16=>v=ak (aC ⟨b2,5,U⟩)
 | _=>True
noncomputable def Sk:Code:=((Tryz.f27.body.bind (eG 6)).getD .skip)
theorem Oh (B b2 b3:Nat) (so:Option Addr) (sn sc at_:Nat) (lo hiv:aF) (z:qM) (lt ld:List qM) (i:Nat) (v:aF) (x x':aA) (h:EH B b2 b3 so sn sc at_ lo hiv z lt ld i v x) (hb:Below x.heap.size x x'):EH B b2 b3 so sn sc at_ lo hiv z lt ld i v x':=by
 by_cases hi:i<17
 ·rcases (by omega:i=0\/i=1\/i=2\/i=3\/i=4\/i=5\/i=6\/i=7\/i=8\/i=9\/i=10\/i=11\/i=12\/i=13\/i=14\/i=15\/i=16) with rfl|rfl|rfl|rfl|rfl|rfl|rfl|rfl|rfl|rfl|rfl|rfl|rfl|rfl|rfl|rfl|rfl
  ·obtain⟨g,h1,h2,h3⟩:=h;exact⟨g,h1,h2,h3.on hb⟩
  ·exact h
  ·exact h
  ·exact h
  ·exact h
  ·exact dB h hb
  ·exact h
  ·exact h
  ·exact h
  ·exact dB h hb
  ·exact dB h hb
  ·exact h
  ·exact h
  ·exact h
  ·exact h
  ·exact dB h hb
  ·exact h
 ·unfold EH
  split <;> first | omega | trivial
theorem YH (Q:Exit->Act->aA->Prop) (W:aA) (b2 b3:Nat) (me:Int) (y1 y2 y3 y4:aF) (so:Option Addr) (sn sc at_:Nat) (l:List qM) (z:qM) (u0 u1 u5 u6 u7 u9 u10 u11 u12 u13 u14 u15 u16 u17 u18 u19 u20 u21 u22 u23 u24 u25 u26 u27 u28 u29 u30 u31 u32 u33 u34 u35 u36 u37 u38 u39 u40 u41 u42 u43 u44 u45 u46 u47 u48 u49 u50 u51 u52 u53 u54 u55 u56 u57 u58 u59 u60 u61 u62 u63 u64 u65 u66 u67 u68 u69 u70 u71 u72 u73 u74 u75 u76 u77 u78 u79 u80 u81 u82 u83 u84 u85 u86 u87 u88 u89 u90 u91 u92 u93 u94 u95 u96 u97 u98:aF)
  (h2:dJ W b2 #[L O me,y1,y2,y3,y4,ay so sn sc] 33) (hx:∀ x,Below W.heap.size W x->∀ j u,(jm (z.1,z.2.1))[j]?=aC u->x.cell? ((⟨b3,0,U⟩:Addr).add j)=aC u) (hs:Nf W (ay so sn sc) l) (hat:at_<=l.length) (hlen:l.length<=900)
  (hQ:∀ (x:aA) (v47 v48 v49 v50 v51 v52 v53 v54 v55 v56 v57 v58 v59 v60 v61 v62 v63:aF),dJ x b2 #[L O me,y1,y2,y3,y4,v62] 33->oN x W.heap.size v62 (l.take at_++[z]++l.drop at_)->(∀ B,B<=b2->Below B W x)->(∀ c cs t,c≠b2->dJ W c cs t->dJ x c cs t)->(∀ k,k<W.heap.size->k≠b2->x.heap[k]?=W.heap[k]?)->Q .normal ⟨(u0::u1::dR z.2.2::ak (aC ⟨b2,0,U⟩)::ak (aC ⟨b3,0,U⟩)::u5::u6::u7::L O (at_:Int)::u9::u10::u11::u12::u13::u14::u15::u16::u17::u18::u19::u20::u21::u22::u23::u24::u25::u26::u27::u28::u29::u30::u31::u32::u33::u34::u35::u36::u37::u38::u39::u40::u41::u42::u43::u44::u45::u46::v47::v48::v49::v50::v51::v52::v53::v54::v55::v56::v57::v58::v59::v60::v61::v62::v63::u64::u65::u66::u67::u68::u69::u70::u71::u72::u73::u74::u75::u76::u77::u78::u79::u80::u81::u82::u83::u84::u85::u86::u87::u88::u89::u90::u91::u92::u93::u94::u95::u96::u97::u98::[]).toArray,[]⟩ x) :
  Code.wp Tryz.prog Sk Q ⟨(u0::u1::dR z.2.2::ak (aC ⟨b2,0,U⟩)::ak (aC ⟨b3,0,U⟩)::u5::u6::u7::L O (at_:Int)::u9::u10::u11::u12::u13::u14::u15::u16::u17::u18::u19::u20::u21::u22::u23::u24::u25::u26::u27::u28::u29::u30::u31::u32::u33::u34::u35::u36::u37::u38::u39::u40::u41::u42::u43::u44::u45::u46::u47::u48::u49::u50::u51::u52::u53::u54::u55::u56::u57::u58::u59::u60::u61::u62::u63::u64::u65::u66::u67::u68::u69::u70::u71::u72::u73::u74::u75::u76::u77::u78::u79::u80::u81::u82::u83::u84::u85::u86::u87::u88::u89::u90::u91::u92::u93::u94::u95::u96::u97::u98::[]).toArray,[]⟩ W:=by
 have HQ:=Z hQ;have H2:=Z h2;have LX:=Z hx;obtain⟨lo,AU,uE⟩:=tY okW hs at_ (by omega);obtain⟨hiv,AV,vX⟩:=oL okW hs (at_) hat;have LT:=Z (show (l.take at_).length<=1000 by rw [aJ]; omega);have Qp:=Z (show (l.take at_).length<=900 by rw [aJ]; omega);have LD:=Z (show (l.drop (at_)).length<=1000 by rw [List.length_drop]; omega);generalize l.take at_=lt at *;generalize l.drop (at_)=ld at *;have SL:=Z AU;have SH:=Z AV;have RL:=Z uE;have RH:=Z vX;clear hQ h2 hx hs AU AV uE vX hat hlen;have iN:=Oh W.heap.size b2 b3 so sn sc at_ lo hiv z lt ld;unfold Sk
 conv=>arg 2; whnf
 have nd:∀ j,(j<47\/64<=j)->∀ i,i<17->(fun i=>47+i) i≠j:=by
  intro j hj i hi h;simp only at h;omega
 refine Rg.fJ 18 17 (fun i=>47+i) (fun i=>if i=0 then 5 else if i=5 then 10 else if i=9 then 10 else if i=10 then 15 else 17) (EH W.heap.size b2 b3 so sn sc at_ lo hiv z lt ld) (by kernel_rfl) (by kernel_rfl) rfl (by decide) (fun i j _ _ h=>by have h2:47+i=47+j:=h; omega) (fun i hi=>by show 47+i<99; omega) ?_ (fun _=>Rg.jc 1 (by kernel_rfl)) (fun kk o h1 h2=>by omega) ?_
 ·intro i o hi ho a x D hnd hc hD hb seen K hK;clear HQ;rcases (by omega:i=0\/i=1\/i=2\/i=3\/i=4\/i=5\/i=6\/i=7\/i=8\/i=9\/i=10\/i=11\/i=12\/i=13\/i=14\/i=15\/i=16) with rfl|rfl|rfl|rfl|rfl|rfl|rfl|rfl|rfl|rfl|rfl|rfl|rfl|rfl|rfl|rfl|rfl
  ·cases ho;exact Rg.dw rfl rfl (Rg.iJ a.eval _ 31 0 #[] rfl rfl (by simp [go_sem])) (hK (ay (aC ⟨x.heap.size,0,U⟩) 0 0) (x.alloc (.cells #[] 61)) ⟨x.heap.size,rfl,hb.size,dL x #[] 61⟩ ((J _ _).alloc hb.size _) fun j u _ _ _ _ _ h=>iN j u _ _ h ((J _ _).alloc (aI _) _))
  ·cases ho;have e3:a.eval (au 3)=ak (aC ⟨b2,0,U⟩):=seen.kp 3 _ (nd 3 (by omega)) rfl;exact Rg.dw rfl rfl (Rg.dP a.eval _ 33 (au 3) 5 rfl (by rw [e3]; simp [go_sem])) (hK _ _ rfl (J _ _) fun _ _ _ _ _ _ _ h=>h)
  ·cases ho;have e48:a.eval (au 48)=ak (aC ⟨b2,5,U⟩):=seen.at_ ⟨1,.data⟩ (by simp) rfl (aH (by decide));have y:=(H2.out.on hb).cell 5;simp only [V,ah,aj] at y;exact Rg.dw rfl rfl (Rg.dY a.eval _ 31 (au 48) rfl (by rw [e48]; simp [go_sem,y])) (hK _ _ rfl (J _ _) fun _ _ _ _ _ _ _ h=>h)
  ·cases ho;have e8:a.eval (au 8)=L O (at_:Int):=seen.kp 8 _ (nd 8 (by omega)) rfl;exact Rg.dw rfl rfl (Rg.fU a.eval _ (au 8) rfl x) (hK _ _ e8 (J _ _) fun _ _ _ _ _ _ _ h=>h)
  ·cases ho;have e49:a.eval (au 49)=ay so sn sc:=seen.at_ ⟨2,.data⟩ (by simp) rfl (aH (by decide));have e50:a.eval (au 50)=L O (at_:Int):=seen.at_ ⟨3,.data⟩ (by simp) rfl (aH (by decide));exact Rg.dw rfl rfl (Rg.jL a.eval _ 31 (au 49) U (aC (au 50)) U rfl (by show (Instr.sliceAt 31 (a.eval (au 49)) U (aC (a.eval (au 50))) U).run Tryz.prog x=.ok lo x; rw [e49,e50]; exact SL.out x)) (hK _ _ rfl (J _ _) fun _ _ _ _ _ _ _ h=>h)
  ·cases ho;obtain⟨g,q0,hBg,hbx⟩:=seen.at_ ⟨0,.data⟩ (by simp) rfl (aN rfl);have q0:a.eval (au 47)=ay (aC ⟨g,0,U⟩) 0 0:=q0;have e51:a.eval (au 51)=lo:=seen.at_ ⟨4,.data⟩ (by simp) rfl (aH (by decide));obtain⟨v',x',r,o',gr⟩:=gy okW W.heap.size hbx hBg (RL.out.on hb) LT.out 31;exact Rg.dw rfl rfl (Rg.fO a.eval _ (au 47) (au 51) 31 rfl q0 e51 r) (hK v' x' o' (gr.mono hb.size) fun j u _ _ _ _ _ h=>iN j u _ _ h gr)
  ·cases ho;have e4:a.eval (au 4)=ak (aC ⟨b3,0,U⟩):=seen.kp 4 _ (nd 4 (by omega)) rfl;exact Rg.dw rfl rfl (Rg.dY a.eval _ 38 (au 4) rfl (by rw [e4]; exact Bz x _ (z.1,z.2.1) (LX.out x hb))) (hK _ _ rfl (J _ _) fun _ _ _ _ _ _ _ h=>h)
  ·cases ho;have e2:a.eval (au 2)=dR z.2.2:=seen.kp 2 _ (nd 2 (by omega)) rfl;exact Rg.dw rfl rfl (Rg.fU a.eval _ (au 2) rfl x) (hK _ _ e2 (J _ _) fun _ _ _ _ _ _ _ h=>h)
  ·cases ho;have e53:a.eval (au 53)=mD (z.1,z.2.1):=seen.at_ ⟨6,.data⟩ (by simp) rfl (aH (by decide));have e54:a.eval (au 54)=dR z.2.2:=seen.at_ ⟨7,.data⟩ (by simp) rfl (aH (by decide));exact Rg.dw rfl rfl (Rg.jO a.eval _ 61 #[(0,au 53),(1,au 54)] rfl (ps:=#[(0,mD (z.1,z.2.1)),(1,dR z.2.2)]) (by simp only [List.map_toArray,List.map_cons,List.map_nil,e53,e54]) (by simp [go_sem])) (hK _ _ rfl (J _ _) fun _ _ _ _ _ _ _ h=>h)
  ·cases ho;have e55:a.eval (au 55)=Ql z:=seen.at_ ⟨8,.data⟩ (by simp) rfl (aH (by decide));have hl:=gT okW x [z] 1 rfl (by simp) (tZ z).toArray (by simp [flat,EW]);have hl:oN (x.alloc (.cells (tZ z).toArray 61)) x.heap.size (ay (aC ⟨x.heap.size,0,U⟩) 1 1) [z]:=hl;exact Rg.dw rfl rfl (Rg.iJ a.eval _ 31 1 #[(0,au 55)] rfl (ps:=#[(0,Ql z)]) (by simp [e55]) (by simp [go_sem])) (hK (ay (aC ⟨x.heap.size,0,U⟩) 1 1) (x.alloc (.cells (tZ z).toArray 61)) (dG hl hb.size) ((J _ _).alloc hb.size _) fun j u _ _ _ _ _ h=>iN j u _ _ h ((J _ _).alloc (aI _) _))
  ·cases ho;have o52:oN x W.heap.size (a.eval (au 52)) (lt):=seen.at_ ⟨5,.data⟩ (by simp) rfl (aN rfl);have o56:oN x W.heap.size (a.eval (au 56)) ([z]):=seen.at_ ⟨9,.data⟩ (by simp) rfl (aN rfl);have ox:=Row.dx o56;obtain⟨v',x',r,o',gr⟩:=fT okW W.heap.size o52 ox (by have:=LT.out; omega) (by simp) hb.size 31;exact Rg.dw rfl rfl (Rg.fO a.eval _ (au 52) (au 56) 31 rfl rfl rfl r) (hK v' x' o' ((J _ x).grown gr hb.size fun j hj=>(o52.lt j hj).1) fun j u hj dj nl nx ni h=>by
    rcases (by omega:j=0\/j=1\/j=2\/j=3\/j=4\/j=5\/j=6\/j=7\/j=8\/j=9\/j=10\/j=11\/j=12\/j=13\/j=14\/j=15\/j=16) with rfl|rfl|rfl|rfl|rfl|rfl|rfl|rfl|rfl|rfl|rfl|rfl|rfl|rfl|rfl|rfl|rfl
    ·exact absurd rfl (fun _:(0:Nat)=0=>nl (hc 5 _ (hD ⟨5,.data⟩ (by simp) rfl) rfl ⟨0,.data⟩ (by simp) rfl |> fun _=>hD ⟨5,.data⟩ (by simp) rfl))
    ·exact h
    ·exact h
    ·exact h
    ·exact h
    ·exact absurd rfl (fun _:(0:Nat)=0=>nx rfl)
    ·exact h
    ·exact h
    ·exact h
    ·exact absurd rfl (fun _:(0:Nat)=0=>nx rfl)
    ·exact absurd rfl (fun _:(0:Nat)=0=>ni rfl)
    ·exact h
    ·exact h
    ·exact h
    ·exact h
    ·exact absurd rfl (fun _:(0:Nat)=0=>hnd (hc 15 _ dj rfl ⟨10,.data⟩ (by simp) rfl))
    ·exact h)
  ·cases ho;have e3:a.eval (au 3)=ak (aC ⟨b2,0,U⟩):=seen.kp 3 _ (nd 3 (by omega)) rfl;exact Rg.dw rfl rfl (Rg.dP a.eval _ 33 (au 3) 5 rfl (by rw [e3]; simp [go_sem])) (hK _ _ rfl (J _ _) fun _ _ _ _ _ _ _ h=>h)
  ·cases ho;have e58:a.eval (au 58)=ak (aC ⟨b2,5,U⟩):=seen.at_ ⟨11,.data⟩ (by simp) rfl (aH (by decide));have y:=(H2.out.on hb).cell 5;simp only [V,ah,aj] at y;exact Rg.dw rfl rfl (Rg.dY a.eval _ 31 (au 58) rfl (by rw [e58]; simp [go_sem,y])) (hK _ _ rfl (J _ _) fun _ _ _ _ _ _ _ h=>h)
  ·cases ho;have e8:a.eval (au 8)=L O (at_:Int):=seen.kp 8 _ (nd 8 (by omega)) rfl;exact Rg.dw rfl rfl (Rg.fU a.eval _ (au 8) rfl x) (hK _ _ e8 (J _ _) fun _ _ _ _ _ _ _ h=>h)
  ·cases ho;have e59:a.eval (au 59)=ay so sn sc:=seen.at_ ⟨12,.data⟩ (by simp) rfl (aH (by decide));have e60:a.eval (au 60)=L O (at_:Int):=seen.at_ ⟨13,.data⟩ (by simp) rfl (aH (by decide));exact Rg.dw rfl rfl (Rg.jL a.eval _ 31 (au 59) (aC (au 60)) U U rfl (by show (Instr.sliceAt 31 (a.eval (au 59)) (aC (a.eval (au 60))) U U).run Tryz.prog x=.ok hiv x; rw [e59,e60]; exact SH.out x)) (hK _ _ rfl (J _ _) fun _ _ _ _ _ _ _ h=>h)
  ·cases ho;have o57:oN x W.heap.size (a.eval (au 57)) ((lt++[z])):=seen.at_ ⟨10,.data⟩ (by simp) rfl (aN rfl);have e61:a.eval (au 61)=hiv:=seen.at_ ⟨14,.data⟩ (by simp) rfl (aH (by decide));have ox:Nf x (a.eval (au 61)) ld:=by rw [e61]; exact RH.out.on hb
   obtain⟨v',x',r,o',gr⟩:=fT okW W.heap.size o57 ox (by have:=Qp.out; rw [List.length_append,List.length_singleton]; omega) LD.out hb.size 31;exact Rg.dw rfl rfl (Rg.fO a.eval _ (au 57) (au 61) 31 rfl rfl rfl r) (hK v' x' o' ((J _ x).grown gr hb.size fun j hj=>(o57.lt j hj).1) fun j u hj dj nl nx ni h=>by
    rcases (by omega:j=0\/j=1\/j=2\/j=3\/j=4\/j=5\/j=6\/j=7\/j=8\/j=9\/j=10\/j=11\/j=12\/j=13\/j=14\/j=15\/j=16) with rfl|rfl|rfl|rfl|rfl|rfl|rfl|rfl|rfl|rfl|rfl|rfl|rfl|rfl|rfl|rfl|rfl
    ·exact absurd rfl (fun _:(0:Nat)=0=>nl (hc 10 _ (hD ⟨10,.data⟩ (by simp) rfl) rfl ⟨5,.data⟩ (by simp) rfl))
    ·exact h
    ·exact h
    ·exact h
    ·exact h
    ·exact absurd rfl (fun _:(0:Nat)=0=>nl (hD ⟨10,.data⟩ (by simp) rfl))
    ·exact h
    ·exact h
    ·exact h
    ·exact absurd rfl (fun _:(0:Nat)=0=>nl (hD ⟨10,.data⟩ (by simp) rfl))
    ·exact absurd rfl (fun _:(0:Nat)=0=>nx rfl)
    ·exact h
    ·exact h
    ·exact h
    ·exact h
    ·exact absurd rfl (fun _:(0:Nat)=0=>ni rfl)
    ·exact h)
  ·cases ho;have e3:a.eval (au 3)=ak (aC ⟨b2,0,U⟩):=seen.kp 3 _ (nd 3 (by omega)) rfl;exact Rg.dw rfl rfl (Rg.dP a.eval _ 33 (au 3) 5 rfl (by rw [e3]; simp [go_sem])) (hK _ _ rfl (J _ _) fun _ _ _ _ _ _ _ h=>h)
 ·intro a w' df sz kp ⟨vs,hv⟩ hb;have gr:a.tmps[62]?=aC (vs 15):=(hv 15 (by omega)).1;have gp:a.tmps[63]?=aC (ak (aC ⟨b2,5,U⟩)):=by
   have h:vs 16=ak (aC ⟨b2,5,U⟩):=(hv 16 (by omega)).2 (by decide);rw [<- h];exact (hv 16 (by omega)).1
  have oR:oN w' W.heap.size (vs 15) (lt++[z]++ld):=(hv 15 (by omega)).2 (by decide);generalize vs 15=xR at *;obtain⟨ca,cp,eR⟩:=(Row.dx oR).len;have hbx:=H2.out.on hb;have hblt:=H2.out.lt;have c5:=hbx.cell 5;have f5:=hbx.fr 5;simp only [V,ah,aj] at c5;have hb1:=dN (k:=5) hbx xR;show Rg.fC _ _ _ 1 17 a w';simp only [Rg.fC];refine Rg.fM 31 (au 63) (au 62) rfl rfl rfl rfl (Rg.dI gp) (Rg.dI gr) (w':=w'.setCell ⟨b2,5,U⟩ xR) (by rw [eR]; simp [go_sem,c5,f5]) ?_;have qU:∀ j,(j<47\/64<=j)->a.tmps[j]?=(u0::u1::dR z.2.2::ak (aC ⟨b2,0,U⟩)::ak (aC ⟨b3,0,U⟩)::u5::u6::u7::L O (at_:Int)::u9::u10::u11::u12::u13::u14::u15::u16::u17::u18::u19::u20::u21::u22::u23::u24::u25::u26::u27::u28::u29::u30::u31::u32::u33::u34::u35::u36::u37::u38::u39::u40::u41::u42::u43::u44::u45::u46::u47::u48::u49::u50::u51::u52::u53::u54::u55::u56::u57::u58::u59::u60::u61::u62::u63::u64::u65::u66::u67::u68::u69::u70::u71::u72::u73::u74::u75::u76::u77::u78::u79::u80::u81::u82::u83::u84::u85::u86::u87::u88::u89::u90::u91::u92::u93::u94::u95::u96::u97::u98::[])[j]?:=fun j hj=>(kp j (nd j hj)).trans V;obtain⟨mid,hmid,rfl⟩:=Rg.gq 47 17 df sz (by simp) qU
  match mid,hmid with
  | [v47,v48,v49,v50,v51,v52,v53,v54,v55,v56,v57,v58,v59,v60,v61,v62,v63],_ =>
   have e1:aC v62=aC xR:=gr;obtain rfl:=Option.some.inj e1;refine HQ.out _ v47 v48 v49 v50 v51 v52 v53 v54 v55 v56 v57 v58 v59 v60 v61 v62 v63 ?_ ?_ ?_ ?_ ?_
   ·simpa using hb1
   ·exact dM oR b2 5 _ hblt
   ·exact fun B hB=>(hb.mono (aM (Nat.lt_of_le_of_lt hB hblt))).setCell hB _
   ·intro c cs t hc hbc;exact (aB _ _ _ _ hc).trans (hbc.on hb)
   ·intro k hk hne;exact (aB _ _ _ _ hne).trans (hb.block k hk)
end Bk
namespace At
open Go.RowKit Va
abbrev V3:=Bool×Int×ByteArray
theorem nP {a b:ByteArray} (h:a.toList=b.toList):a=b:=by
 rw [aD,aD] at h;exact WideShapes.bytes_inj h
def wP:List A4->ByteArray->Option V3
 | [],_=>U
 | x::r,n=>if x.1=n then aC x.2 else wP r n
def adE (l:List A4):Prop:=l.Pairwise fun x y=>Op.bytesLess x.1.toList y.1.toList=true
theorem get_none:∀ (l:List A4) (n:ByteArray),(∀ x∈l,x.1≠n)->wP l n=U
 | [],_,_=>rfl
 | x::r,n,h=>by
  simp only [wP];rw [if_neg (h x (List.mem_cons_self ..)),get_none r n (fun y hy=>h y (List.mem_cons_of_mem _ hy))]
/-! ### the publications that numbers make -/
theorem Lp (i:Nat):(nm i).toList=[UInt8.ofNat (97+i)]:=by rw [aD]; rfl
theorem Ee (i j:Nat) (h:i<j) (hj:j<7):Op.bytesLess (nm i).toList (nm j).toList=true:=by
 rw [Lp,Lp,VaP.xV];left;simp only [UInt8.toNat_ofNat'];omega
theorem sO (has vals:List Int):∀ k,∀ x∈rE has vals k,∃ i,i<k/\x.1=nm i
 | 0,x,h=>by simp [rE] at h
 | k+1,x,h=>by
  simp only [rE] at h
  split at h
  ·rcases aK.1 h with h|h
   ·obtain⟨i,h1,h2⟩:=sO has vals k x h;exact⟨i,by omega,h2⟩
   ·simp at h;exact⟨k,by omega,by rw [h]⟩
  ·obtain⟨i,h1,h2⟩:=sO has vals k x h;exact⟨i,by omega,h2⟩
theorem zx (has vals:List Int):∀ k,k<=7->adE (rE has vals k)
 | 0,_=>List.Pairwise.nil
 | k+1,hk=>by
  simp only [rE]
  split
  ·unfold adE;rw [List.pairwise_append];refine⟨zx has vals k (by omega),by simp,fun x hx y hy=>?_⟩;obtain⟨i,h1,h2⟩:=sO has vals k x hx;simp at hy;rw [h2,hy];exact Ee i k h1 (by omega)
  ·exact zx has vals k (by omega)
theorem wQ (has vals:List Int):∀ k,∀ x∈rE has vals k,D5 x.2.1 x.2.2.1 x.2.2.2=true/\x.2.2.2.size<=3
 | 0,x,h=>by simp [rE] at h
 | k+1,x,h=>by
  simp only [rE] at h
  split at h
  ·rcases aK.1 h with h|h
   ·exact wQ has vals k x h
   ·simp at h;rw [h];exact⟨Qi _,FR _⟩
  ·exact wQ has vals k x h
theorem GV (has vals:List Int):∀ k,(rE has vals k).length<=5
 | 0=>by simp [rE]
 | k+1=>by
  have:=GV has vals k;simp only [rE]
  split
  ·rename_i h
   simp; omega
  ·exact this
theorem Ef (i:Nat):(nm i).size=1:=rfl
end At
namespace At
open Go.RowKit Go.Sort Va In
def JN:Option V3->aF
 | some v=>.tuple #[vl v.1 v.2.1 v.2.2,aG true]
 | none=>.tuple #[vl false 0 ⟨#[]⟩,aG false]
def adF:Prop:=∀ (lv:aF) (l:List A4) (n:ByteArray) (w:aA),uL w lv l->l.length<=100->n.size<=maxLen ->
 Calls Tryz.prog 44 #[lv,aL n] w fun e w'=>e=.returned (JN (wP l n))/\Below w.heap.size w w'
end At
namespace Va
open Go.RowKit
end Va
namespace At
open Go.RowKit Go.Sort Va In
def oq (W:aA) (b:Nat) (t:Bool) (i:Int) (s:ByteArray):Prop:=W.heap[b]?=aC (.cells #[aG t,L O i,aL s] 93)
theorem oq.cell {W:aA} {b:Nat} {t:Bool} {i:Int} {s:ByteArray} (h:oq W b t i s) (k:Nat):W.cell? ⟨b,k,U⟩=#[aG t,L O i,aL s][k]?:=by
 unfold oq at h;simp [World.cell?,h]
theorem oq.fr {W:aA} {b:Nat} {t:Bool} {i:Int} {s:ByteArray} (h:oq W b t i s) (k:Nat):W.frozen? ⟨b,k,U⟩=false:=by
 unfold oq at h;simp [World.frozen?,h]
theorem oq.lt {W:aA} {b:Nat} {t:Bool} {i:Int} {s:ByteArray} (h:oq W b t i s):b<W.heap.size:=lt_of_heap h
theorem oq.on {W W':aA} {b:Nat} {t:Bool} {i:Int} {s:ByteArray} (h:oq W b t i s) (hb:Below W.heap.size W W'):oq W' b t i s:=by
 have hl:=h.lt;unfold oq at *;rw [hb.block _ hl]; exact h
theorem oq.more {W:aA} {b:Nat} {t:Bool} {i:Int} {s:ByteArray} (h:oq W b t i s) (o:Obj):oq (W.alloc o) b t i s:=h.on ((J _ _).alloc (aI _) _)
theorem dL (W:aA) (t:Bool) (i:Int) (s:ByteArray):oq (W.alloc (.cells #[aG t,L O i,aL s] 93)) W.heap.size t i s:=by
 unfold oq;show (W.heap.push _)[W.heap.size]?=_;simp
def Sm (W:aA) (b:Nat) (t:Bool) (i:Int) (s:ByteArray):aA:=((W.setCell ⟨b,0,U⟩ (aG t)).setCell ⟨b,1,U⟩ (L O i)).setCell ⟨b,2,U⟩ (aL s)
theorem oq.adG {W:aA} {b:Nat} {t:Bool} {i:Int} {s:ByteArray} (h:oq W b t i s) (t':Bool) (i':Int) (s':ByteArray):oq (Sm W b t' i' s') b t' i' s':=by
 unfold oq Sm at *;simp [World.setCell,Array.getElem?_modify,h]
theorem uw {B b:Nat} {W W':aA} (hb:Below B W W') (hB:B<=b) (t:Bool) (i:Int) (s:ByteArray):Below B W (Sm W' b t i s):=((hb.setCell hB _).setCell hB _).setCell hB _
end At
namespace Rl
open Go.RowKit Pu Rw Pr
end Rl
namespace Sb
open Go.RowKit Go.Sort Rw YtkcfgbddlpomgaaGreat.Nm Pr Bk Av
abbrev GY (W:aA) (b:Nat) (a0 a1 a2 a3 a4 a5 a6:aF):aA:=((((((W.setCell ⟨b,0,U⟩ a0).setCell ⟨b,1,U⟩ a1).setCell ⟨b,2,U⟩ a2).setCell ⟨b,3,U⟩ a3).setCell ⟨b,4,U⟩ a4).setCell ⟨b,5,U⟩ a5).setCell ⟨b,6,U⟩ a6
theorem zy {W:aA} {b:Nat} {t:TypeId} {z0 z1 z2 z3 z4 z5 z6:aF} (h:dJ W b #[z0,z1,z2,z3,z4,z5,z6] t) (a0 a1 a2 a3 a4 a5 a6:aF):dJ (GY W b a0 a1 a2 a3 a4 a5 a6) b #[a0,a1,a2,a3,a4,a5,a6] t:=by
 have h2:=dN (k:=6) (dN (k:=5) (dN (k:=4) (dN (k:=3) (dN (k:=2) (dN (k:=1) (dN (k:=0) h a0) a1) a2) a3) a4) a5) a6;simpa using h2
theorem uy {B:Nat} {W0 W:aA} {b:Nat} (h:Below B W0 W) (hb:B<=b) (a0 a1 a2 a3 a4 a5 a6:aF):Below B W0 (GY W b a0 a1 a2 a3 a4 a5 a6):=(((((((h).setCell (p:=⟨b,0,U⟩) hb a0).setCell (p:=⟨b,1,U⟩) hb a1).setCell (p:=⟨b,2,U⟩) hb a2).setCell (p:=⟨b,3,U⟩) hb a3).setCell (p:=⟨b,4,U⟩) hb a4).setCell (p:=⟨b,5,U⟩) hb a5).setCell (p:=⟨b,6,U⟩) hb a6
theorem Sn {α:Type} {E:Ek α} {W:aA} {B:Nat} {v:aF} {l:List α} (h:Own E W B v l) (b:Nat) (hb:b<B) (a0 a1 a2 a3 a4 a5 a6:aF):Own E (GY W b a0 a1 a2 a3 a4 a5 a6) B v l :=
 dM (dM (dM (dM (dM (dM (dM (h) b 0 a0 hb) b 1 a1 hb) b 2 a2 hb) b 3 a3 hb) b 4 a4 hb) b 5 a5 hb) b 6 a6 hb
theorem G7 (w:aA) (b:Nat) (a0 a1 a2 a3 a4 a5 a6:aF):But b w (GY w b a0 a1 a2 a3 a4 a5 a6) :=
 ((((((dQ _ b _ _).trans (dQ _ b _ _)).trans (dQ _ b _ _)).trans (dQ _ b _ _)).trans (dQ _ b _ _)).trans (dQ _ b _ _)).trans (dQ _ b _ _)
theorem EK (x:iA) (p:List C5) (w:aA) (hp:fK w (dR x.2.2.2.2.1) p) (hl:p.length<=900) :
  Calls Tryz.prog 47 #[qR x] w fun e w'=>(∃ v':Sl,e=.returned (qR (x.1,x.2.1,x.2.2.1,x.2.2.2.1,v',x.2.2.2.2.2.1,x.2.2.2.2.2.2))/\jP w' w.heap.size (dR v') p)/\Below w.heap.size w w':=by
 obtain⟨y1,y2,y3,y4,⟨s1,s2,s3⟩,y6,y7⟩:=x;obtain⟨h0,X,Y⟩:=gK w #[L O y1,L O y2,L O y3,L O y4,ay s1 s2 s3,L O y6,aG y7] #[L O 0,L O 0,L O 0,L O 0,ay U 0 0,L O 0,aG false] 68 68;have C:=Z (qC (s1,s2,s3) p _ (hp.on h0) hl);have B:=Z h0;have x4:=X.cell 4;simp only [V,ah,aj] at x4;have X:=Z X;have Y:=Z Y;clear h0 hp hl;go_enter Tryz.func47,Tryz.ntmps47;go_wp2_with fail;generalize (w.alloc (.cells #[L O y1,L O y2,L O y3,L O y4,ay s1 s2 s3,L O y6,aG y7] 68)).alloc (.cells #[L O 0,L O 0,L O 0,L O 0,ay U 0 0,L O 0,aG false] 68)=W at *;refine C.out.mono ?_;rintro e w1 ⟨⟨⟨u1,u2,u3⟩,rfl,ho⟩,hb⟩;have X1:=X.out.on hb;have Y1:=Y.out.on hb;have hs:w.heap.size<W.heap.size:=X.out.lt;have O1:=Z (dM ho w.heap.size 4 (ay u1 u2 u3) hs);have XB:=Z (show dJ _ _ #[L O y1,L O y2,L O y3,L O y4,ay u1 u2 u3,L O y6,aG y7] _ from by simpa using dN (k:=4) X1 (ay u1 u2 u3));have YB:=Z (show dJ _ _ _ _ from (aB w1 ⟨w.heap.size,4,U⟩ (ay u1 u2 u3) _ (show w.heap.size+1≠w.heap.size by omega)).trans Y1);have B1:=Z ((B.out.trans (hb.mono B.out.size)).setCell (p:=⟨w.heap.size,4,U⟩) (aI _) (ay u1 u2 u3));have y4':=X1.cell 4;have f4:=X1.fr 4;have z4:=X1.lt;simp only [V,ah,aj] at y4';clear X1 Y1 ho hb x4 C;go_upto_region 2 with fail;clear y4' f4 z4;generalize w1.setCell ⟨w.heap.size,4,U⟩ (ay u1 u2 u3)=w2 at *;obtain⟨x0,x1,x2,x3,x4,x5,x6⟩:=XB.out.mU;obtain⟨r0,r1,r2,r3,r4,r5,r6⟩:=YB.out.mU;obtain⟨t0,t1,t2,t3,t4,t5,t6⟩:=YB.out.fs7;have zz:=YB.out.lt;have hs2:w.heap.size+1<W.heap.size:=Y.out.lt;have FB:=Z (zy YB.out (L O y1) (L O y2) (L O y3) (L O y4) (ay u1 u2 u3) (L O y6) (aG y7));have BL:=Z (uy (b:=w.heap.size+1) B1.out (by omega) (L O y1) (L O y2) (L O y3) (L O y4) (ay u1 u2 u3) (L O y6) (aG y7));have FO:=Z (Sn O1.out (w.heap.size+1) hs2 (L O y1) (L O y2) (L O y3) (L O y4) (ay u1 u2 u3) (L O y6) (aG y7));have HS:=Z hs;clear hs hs2;go_wp2_with fail;obtain⟨v0,v1,v2,v3,v4,v5,v6⟩:=FB.out.mU;refine bodyPost_ret (v:=.agg #[L O y1,L O y2,L O y3,L O y4,ay u1 u2 u3,L O y6,aG y7]) (by simp [results,Tryz.results47,go_sem,v0,v1,v2,v3,v4,v5,v6]) rfl ?_;exact⟨⟨(u1,u2,u3),rfl,dG FO.out (aM HS.out)⟩,BL.out⟩
end Sb
end Go.Proofs.YtkcfgbddlpomgaaGreat
