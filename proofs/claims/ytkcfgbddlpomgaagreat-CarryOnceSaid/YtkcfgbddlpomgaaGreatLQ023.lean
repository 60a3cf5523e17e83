/-
  New of package adver. Conditions as told.
-/
import Derived.Test.YtkcfgbddlpomgaaGreatLQ016
import Derived.Test.YtkcfgbddlpomgaaGreatLQ022
import Derived.Maps.OwnSet
import Derived.DeepKeys4
import Derived.KernelRfl
set_option maxRecDepth 100000
set_option maxHeartbeats 64000000
open _root_.Bool renaming false->aM,true->bf,eq_iff_iff->bG
open _root_.Go renaming World->ay,Value->aK,cell_regrown->aN,below_regrown->aW,maxLen->aX,bodyPost_ret->aZ,Calls->bL,Addr->bN,redrawn->bP
open Go.Builtin renaming copy_->aQ,append_->bH
open Go.Ending renaming returned->aR
open Go.Instr renaming sliceAt->au,indexAt->bK
open Go.IntKind renaming i64->ah,wrap_i64->bD
open Go.Lib renaming hid->O
open Go.Obj renaming cells->aD
open Go.Operand renaming tmp->aB
open Go.Proofs.Tryz renaming prog->U,underlying59->aP,underlying3->aS,underlying4->aT,ntmps51->bg,underlying27->bn,func51->bF,results44->bJ
open Go.RowKit.Below renaming refl->Z,heap_setCell->aO
open Go.Value renaming slice->J,int->aj,pointer->ak,string->aG,bool->aJ
open _root_.List renaming getElem?_eq_getElem->aC,getElem?_toArray->aF,getElem?_cons_zero->aH,getElem?_cons_succ->aI,length_take->bC
open _root_.Nat renaming le_refl->aA,lt_or_ge->aU,le_of_lt->aY,le_trans->bM,zero_le->bO
open _root_.Option renaming none->L,some->V
open Option.some renaming inj->aV
open _root_.Or renaming inr->aL,inl->bI
namespace Go.Proofs.YtkcfgbddlpomgaaGreat
namespace Av
open Go.RowKit Rw YtkcfgbddlpomgaaGreat.Nm Pr Bk Go.Sort
abbrev Ct (me:Int) (near:List Int):Br:=⟨me,near,[],[],[],[]⟩
theorem Rv (me:Int) (v:Sl) (l:List Int) (w:ay) (hv:qH w (dP v) l) (hl:l.length<=900) :
  bL U 41 #[aj ah me,dP v] w fun e w'=>(∃ (l':List Int) (nv:Sl),e=aR (nT me nv (L,0,0) (L,0,0) (L,0,0) (L,0,0))/\iA w' (Ct me l') nv (L,0,0) (L,0,0) (L,0,0) (L,0,0)/\(∃ B,mI w' B (dP nv) l')/\l'.Pairwise (·<·)/\∀ x,x∈l'↔x∈l)/\Below w.heap.size w w':=by
 have n0:=fO w (aD #[aj ah 0,J L 0 0,J L 0 0,J L 0 0,J L 0 0,J L 0 0] 33);have X:=O (dK w #[aj ah 0,J L 0 0,J L 0 0,J L 0 0,J L 0 0,J L 0 0] 33);have C:=O (yI v l _ (hv.on n0) hl);have B0:=O n0;have HL:=O hl;obtain⟨vo,vn,vc⟩:=v;clear hv hl n0;go_enter Tryz.func41,Tryz.ntmps41;go_wp2_with fail;generalize w.alloc (aD #[aj ah 0,J L 0 0,J L 0 0,J L 0 0,J L 0 0,J L 0 0] 33)=W at *;refine C.out.mono ?_;rintro e1 w1 ⟨⟨⟨p1,p2,p3⟩,rfl,ho⟩,hb⟩;have B1:=O (B0.out.trans (hb.mono B0.out.size));have X1:=O (X.out.on hb);have hlt:w.heap.size<W.heap.size:=X.out.lt;have C2:=O (Bo w1 W.heap.size _ l ho HL.out);have OT:=O (fun g hg=>(ho.lt g hg).1);have HW:=O hlt;clear hb ho C X;go_wp2_with fail;refine C2.out.mono ?_;rintro e2 w2 ⟨rfl,l2,ho2,hp2,hs2,hg2⟩;have B2:=O (B1.out.grown hg2 B1.out.size (fun j hj=>bM (aY HW.out) (OT.out j hj)));have X2:=O (show dI w2 w.heap.size _ _ from (hg2.block _ X1.out.lt (fun e=>by have:=OT.out _ e.symm; have:=HW.out; omega)).trans X1.out);have C3:=O (FN w2 W.heap.size (p1,p2,p3) l2 ho2 hs2 (by rw [hp2.length_eq]; exact HL.out));have PM:=O hp2;have OT2:=O (fun g hg=>(ho2.lt g hg).1);clear ho2 hp2 hs2 hg2 C2 OT X1;go_wp2_with fail;refine C3.out.mono ?_;rintro e3 w3 ⟨⟨⟨t1,t2,t3⟩,rfl,l3,ho3,hs3,hm3⟩,hg3⟩;have B3:=O (B2.out.grown hg3 B2.out.size (fun j hj=>bM (aY HW.out) (OT2.out j hj)));have Y:=show dI w3 w.heap.size _ _ from (hg3.block _ X2.out.lt (fun e=>by have:=OT2.out _ e.symm; have:=HW.out; omega)).trans X2.out;obtain⟨y0,y1,y2,y3,y4,y5⟩:=Y.eZ;obtain⟨f0,f1,f2,f3,f4,f5⟩:=Y.ku;have zz:=Y.lt;have FB:=O (dJ Y (aj ah me) (J t1 t2 t3) (J L 0 0) (J L 0 0) (J L 0 0) (J L 0 0));have FL:=O (dB (b:=w.heap.size) B3.out (aA _) (aj ah me) (J t1 t2 t3) (J L 0 0) (J L 0 0) (J L 0 0) (J L 0 0));have FO:=O (fE ho3 w.heap.size HW.out (aj ah me) (J t1 t2 t3) (J L 0 0) (J L 0 0) (J L 0 0) (J L 0 0));have Q:=O (show l3.Pairwise (·<·)/\∀ x,x∈l3↔x∈l from ⟨hs3,fun x=>(hm3 x).trans PM.out.mem_iff⟩);clear ho3 hs3 hm3 hg3 Y X2 C3 B2 B1 B0;go_wp2_with fail;obtain⟨v0,v1,v2,v3,v4,v5⟩:=FB.out.eZ;refine aZ (v:=.agg #[aj ah me,J t1 t2 t3,J L 0 0,J L 0 0,J L 0 0,J L 0 0]) (by simp [results,Tryz.results41,go_sem,v0,v1,v2,v3,v4,v5]) rfl ?_;exact⟨⟨l3,(t1,t2,t3),rfl,⟨Row.dw FO.out,⟨[],jg _,.nil⟩,jg _,⟨[],jg _,.nil⟩,⟨[],jg _,.nil⟩⟩,⟨_,FO.out⟩,Q.out.1,Q.out.2⟩,FL.out⟩
end Av
namespace Bk
open Go.RowKit Go.Sort Rw YtkcfgbddlpomgaaGreat.Nm
end Bk
namespace Bk
open Go.RowKit Rw YtkcfgbddlpomgaaGreat.Nm Pr
def D8 (B b2 _:Nat) (so:Option bN) (sn sc at_:Nat) (lo hiv:aK) (z:qK) (lt ld:List qK) (i:Nat) (v:aK) (x:ay):Prop :=
 match i with
 | 0=>∃ g,v=J (V ⟨g,0,L⟩) 0 0/\B<=g/\dI x g #[] 61
 | 1=>v=ak (V ⟨b2,5,L⟩)
 | 2=>v=J so sn sc
 | 3=>v=aj ah (at_:Int)
 | 4=>v=lo
 | 5=>pI x B v lt
 | 6=>v=lV (z.1,z.2.1)
 | 7=>v=dP z.2.2
 | 8=>v=P7 z
 | 9=>pI x B v [z]
 | 10=>pI x B v (lt++[z])
 | 11=>v=ak (V ⟨b2,5,L⟩)
 | 12=>v=J so sn sc
 | 13=>v=aj ah (at_:Int)
 | 14=>v=hiv
 | 15=>pI x B v (lt++[z]++ld)
 | 16=>v=ak (V ⟨b2,5,L⟩)
 | _=>True
noncomputable def Rx:Code:=((Tryz.f27.body.bind (eD 6)).getD .skip)
theorem NY (B b2 b3:Nat) (so:Option bN) (sn sc at_:Nat) (lo hiv:aK) (z:qK) (lt ld:List qK) (i:Nat) (v:aK) (x x':ay) (h:D8 B b2 b3 so sn sc at_ lo hiv z lt ld i v x) (hb:Below x.heap.size x x'):D8 B b2 b3 so sn sc at_ lo hiv z lt ld i v x':=by
 by_cases hi:i<17
 ·rcases (by omega:i=0\/i=1\/i=2\/i=3\/i=4\/i=5\/i=6\/i=7\/i=8\/i=9\/i=10\/i=11\/i=12\/i=13\/i=14\/i=15\/i=16) with rfl|rfl|rfl|rfl|rfl|rfl|rfl|rfl|rfl|rfl|rfl|rfl|rfl|rfl|rfl|rfl|rfl
  ·obtain⟨g,h1,h2,h3⟩:=h;exact⟨g,h1,h2,h3.on hb⟩
  ·exact h
  ·exact h
  ·exact h
  ·exact h
  ·exact dx h hb
  ·exact h
  ·exact h
  ·exact h
  ·exact dx h hb
  ·exact dx h hb
  ·exact h
  ·exact h
  ·exact h
  ·exact h
  ·exact dx h hb
  ·exact h
 ·unfold D8
  split <;> first | omega | trivial
theorem Yf (Q:Exit->Act->ay->Prop) (W:ay) (b2 b3:Nat) (me:Int) (y1 y2 y3 y4:aK) (so:Option bN) (sn sc at_:Nat) (l:List qK) (z:qK) (u0 u1 u5 u6 u7 u9 u10 u11 u12 u13 u14 u15 u16 u17 u18 u19 u20 u21 u22 u23 u24 u25 u26 u27 u28 u29 u30 u31 u32 u33 u34 u35 u36 u37 u38 u39 u40 u41 u42 u43 u44 u45 u46 u47 u48 u49 u50 u51 u52 u53 u54 u55 u56 u57 u58 u59 u60 u61 u62 u63 u64 u65 u66 u67 u68 u69 u70 u71 u72 u73 u74 u75 u76 u77 u78 u79 u80 u81 u82 u83 u84 u85 u86 u87 u88 u89 u90 u91 u92 u93 u94 u95 u96 u97 u98:aK)
  (h2:dI W b2 #[aj ah me,y1,y2,y3,y4,J so sn sc] 33) (hx:∀ x,Below W.heap.size W x->∀ j u,(jk (z.1,z.2.1))[j]?=V u->x.cell? ((⟨b3,0,L⟩:bN).add j)=V u) (hs:I9 W (J so sn sc) l) (hat:at_<=l.length) (hlen:l.length<=900)
  (hQ:∀ (x:ay) (v47 v48 v49 v50 v51 v52 v53 v54 v55 v56 v57 v58 v59 v60 v61 v62 v63:aK),dI x b2 #[aj ah me,y1,y2,y3,y4,v62] 33->pI x W.heap.size v62 (l.take at_++[z]++l.drop at_)->(∀ B,B<=b2->Below B W x)->(∀ c cs t,c≠b2->dI W c cs t->dI x c cs t)->(∀ k,k<W.heap.size->k≠b2->x.heap[k]?=W.heap[k]?)->Q .normal ⟨(u0::u1::dP z.2.2::ak (V ⟨b2,0,L⟩)::ak (V ⟨b3,0,L⟩)::u5::u6::u7::aj ah (at_:Int)::u9::u10::u11::u12::u13::u14::u15::u16::u17::u18::u19::u20::u21::u22::u23::u24::u25::u26::u27::u28::u29::u30::u31::u32::u33::u34::u35::u36::u37::u38::u39::u40::u41::u42::u43::u44::u45::u46::v47::v48::v49::v50::v51::v52::v53::v54::v55::v56::v57::v58::v59::v60::v61::v62::v63::u64::u65::u66::u67::u68::u69::u70::u71::u72::u73::u74::u75::u76::u77::u78::u79::u80::u81::u82::u83::u84::u85::u86::u87::u88::u89::u90::u91::u92::u93::u94::u95::u96::u97::u98::[]).toArray,[]⟩ x) :
  Code.wp U Rx Q ⟨(u0::u1::dP z.2.2::ak (V ⟨b2,0,L⟩)::ak (V ⟨b3,0,L⟩)::u5::u6::u7::aj ah (at_:Int)::u9::u10::u11::u12::u13::u14::u15::u16::u17::u18::u19::u20::u21::u22::u23::u24::u25::u26::u27::u28::u29::u30::u31::u32::u33::u34::u35::u36::u37::u38::u39::u40::u41::u42::u43::u44::u45::u46::u47::u48::u49::u50::u51::u52::u53::u54::u55::u56::u57::u58::u59::u60::u61::u62::u63::u64::u65::u66::u67::u68::u69::u70::u71::u72::u73::u74::u75::u76::u77::u78::u79::u80::u81::u82::u83::u84::u85::u86::u87::u88::u89::u90::u91::u92::u93::u94::u95::u96::u97::u98::[]).toArray,[]⟩ W:=by
 have HQ:=O hQ;have H2:=O h2;have LX:=O hx;obtain⟨lo,Ao,uw⟩:=tQ okW hs at_ (by omega);obtain⟨hiv,Ap,vO⟩:=oU okW hs (at_) hat;have LT:=O (show (l.take at_).length<=1000 by rw [bC]; omega);have Qa:=O (show (l.take at_).length<=900 by rw [bC]; omega);have LD:=O (show (l.drop (at_)).length<=1000 by rw [List.length_drop]; omega);generalize l.take at_=lt at *;generalize l.drop (at_)=ld at *;have SL:=O Ao;have SH:=O Ap;have RL:=O uw;have RH:=O vO;clear hQ h2 hx hs Ao Ap uw vO hat hlen;have iM:=NY W.heap.size b2 b3 so sn sc at_ lo hiv z lt ld;unfold Rx
 conv=>arg 2; whnf
 have nd:∀ j,(j<47\/64<=j)->∀ i,i<17->(fun i=>47+i) i≠j:=by
  intro j hj i hi h;simp only at h;omega
 refine Rg.fH 18 17 (fun i=>47+i) (fun i=>if i=0 then 5 else if i=5 then 10 else if i=9 then 10 else if i=10 then 15 else 17) (D8 W.heap.size b2 b3 so sn sc at_ lo hiv z lt ld) (by kernel_rfl) (by kernel_rfl) rfl (by decide) (fun i j _ _ h=>by have h2:47+i=47+j:=h; omega) (fun i hi=>by show 47+i<99; omega) ?_ (fun _=>Rg.iY 1 (by kernel_rfl)) (fun kk o h1 h2=>by omega) ?_
 ·intro i o hi ho a x D hnd hc hD hb seen K hK;clear HQ;rcases (by omega:i=0\/i=1\/i=2\/i=3\/i=4\/i=5\/i=6\/i=7\/i=8\/i=9\/i=10\/i=11\/i=12\/i=13\/i=14\/i=15\/i=16) with rfl|rfl|rfl|rfl|rfl|rfl|rfl|rfl|rfl|rfl|rfl|rfl|rfl|rfl|rfl|rfl|rfl
  ·cases ho;exact Rg.dn rfl rfl (Rg.iI a.eval _ 31 0 #[] rfl rfl (by simp [go_sem])) (hK (J (V ⟨x.heap.size,0,L⟩) 0 0) (x.alloc (aD #[] 61)) ⟨x.heap.size,rfl,hb.size,dK x #[] 61⟩ ((Z _ _).alloc hb.size _) fun j u _ _ _ _ _ h=>iM j u _ _ h ((Z _ _).alloc (aA _) _))
  ·cases ho;have e3:a.eval (aB 3)=ak (V ⟨b2,0,L⟩):=seen.kp 3 _ (nd 3 (by omega)) rfl;exact Rg.dn rfl rfl (Rg.dN a.eval _ 33 (aB 3) 5 rfl (by rw [e3]; simp [go_sem])) (hK _ _ rfl (Z _ _) fun _ _ _ _ _ _ _ h=>h)
  ·cases ho;have e48:a.eval (aB 48)=ak (V ⟨b2,5,L⟩):=seen.at_ ⟨1,.data⟩ (by simp) rfl (aL (by decide));have y:=(H2.out.on hb).cell 5;simp only [aF,aH,aI] at y;exact Rg.dn rfl rfl (Rg.dW a.eval _ 31 (aB 48) rfl (by rw [e48]; simp [go_sem,y])) (hK _ _ rfl (Z _ _) fun _ _ _ _ _ _ _ h=>h)
  ·cases ho;have e8:a.eval (aB 8)=aj ah (at_:Int):=seen.kp 8 _ (nd 8 (by omega)) rfl;exact Rg.dn rfl rfl (Rg.fQ a.eval _ (aB 8) rfl x) (hK _ _ e8 (Z _ _) fun _ _ _ _ _ _ _ h=>h)
  ·cases ho;have e49:a.eval (aB 49)=J so sn sc:=seen.at_ ⟨2,.data⟩ (by simp) rfl (aL (by decide));have e50:a.eval (aB 50)=aj ah (at_:Int):=seen.at_ ⟨3,.data⟩ (by simp) rfl (aL (by decide));exact Rg.dn rfl rfl (Rg.jK a.eval _ 31 (aB 49) L (V (aB 50)) L rfl (by show (au 31 (a.eval (aB 49)) L (V (a.eval (aB 50))) L).run U x=.ok lo x; rw [e49,e50]; exact SL.out x)) (hK _ _ rfl (Z _ _) fun _ _ _ _ _ _ _ h=>h)
  ·cases ho;obtain⟨g,q0,hBg,hbx⟩:=seen.at_ ⟨0,.data⟩ (by simp) rfl (bI rfl);have q0:a.eval (aB 47)=J (V ⟨g,0,L⟩) 0 0:=q0;have e51:a.eval (aB 51)=lo:=seen.at_ ⟨4,.data⟩ (by simp) rfl (aL (by decide));obtain⟨v',x',r,o',gr⟩:=iC okW W.heap.size hbx hBg (RL.out.on hb) LT.out 31;exact Rg.dn rfl rfl (Rg.fJ a.eval _ (aB 47) (aB 51) 31 rfl q0 e51 r) (hK v' x' o' (gr.mono hb.size) fun j u _ _ _ _ _ h=>iM j u _ _ h gr)
  ·cases ho;have e4:a.eval (aB 4)=ak (V ⟨b3,0,L⟩):=seen.kp 4 _ (nd 4 (by omega)) rfl;exact Rg.dn rfl rfl (Rg.dW a.eval _ 38 (aB 4) rfl (by rw [e4]; exact Bb x _ (z.1,z.2.1) (LX.out x hb))) (hK _ _ rfl (Z _ _) fun _ _ _ _ _ _ _ h=>h)
  ·cases ho;have e2:a.eval (aB 2)=dP z.2.2:=seen.kp 2 _ (nd 2 (by omega)) rfl;exact Rg.dn rfl rfl (Rg.fQ a.eval _ (aB 2) rfl x) (hK _ _ e2 (Z _ _) fun _ _ _ _ _ _ _ h=>h)
  ·cases ho;have e53:a.eval (aB 53)=lV (z.1,z.2.1):=seen.at_ ⟨6,.data⟩ (by simp) rfl (aL (by decide));have e54:a.eval (aB 54)=dP z.2.2:=seen.at_ ⟨7,.data⟩ (by simp) rfl (aL (by decide));exact Rg.dn rfl rfl (Rg.jN a.eval _ 61 #[(0,aB 53),(1,aB 54)] rfl (ps:=#[(0,lV (z.1,z.2.1)),(1,dP z.2.2)]) (by simp only [List.map_toArray,List.map_cons,List.map_nil,e53,e54]) (by simp [go_sem])) (hK _ _ rfl (Z _ _) fun _ _ _ _ _ _ _ h=>h)
  ·cases ho;have e55:a.eval (aB 55)=P7 z:=seen.at_ ⟨8,.data⟩ (by simp) rfl (aL (by decide));have hl:=gZ okW x [z] 1 rfl (by simp) (tT z).toArray (by simp [flat,EW]);have hl:pI (x.alloc (aD (tT z).toArray 61)) x.heap.size (J (V ⟨x.heap.size,0,L⟩) 1 1) [z]:=hl;exact Rg.dn rfl rfl (Rg.iI a.eval _ 31 1 #[(0,aB 55)] rfl (ps:=#[(0,P7 z)]) (by simp [e55]) (by simp [go_sem])) (hK (J (V ⟨x.heap.size,0,L⟩) 1 1) (x.alloc (aD (tT z).toArray 61)) (dG hl hb.size) ((Z _ _).alloc hb.size _) fun j u _ _ _ _ _ h=>iM j u _ _ h ((Z _ _).alloc (aA _) _))
  ·cases ho;have o52:pI x W.heap.size (a.eval (aB 52)) (lt):=seen.at_ ⟨5,.data⟩ (by simp) rfl (bI rfl);have o56:pI x W.heap.size (a.eval (aB 56)) ([z]):=seen.at_ ⟨9,.data⟩ (by simp) rfl (bI rfl);have ox:=Row.dw o56;obtain⟨v',x',r,o',gr⟩:=fT okW W.heap.size o52 ox (by have:=LT.out; omega) (by simp) hb.size 31;exact Rg.dn rfl rfl (Rg.fJ a.eval _ (aB 52) (aB 56) 31 rfl rfl rfl r) (hK v' x' o' ((Z _ x).grown gr hb.size fun j hj=>(o52.lt j hj).1) fun j u hj dj nl nx ni h=>by
    rcases (by omega:j=0\/j=1\/j=2\/j=3\/j=4\/j=5\/j=6\/j=7\/j=8\/j=9\/j=10\/j=11\/j=12\/j=13\/j=14\/j=15\/j=16) with rfl|rfl|rfl|rfl|rfl|rfl|rfl|rfl|rfl|rfl|rfl|rfl|rfl|rfl|rfl|rfl|rfl
    ·exact absurd rfl (fun _:(0:Nat)=0=>nl (hc 5 _ (hD ⟨5,.data⟩ (by simp) rfl) rfl ⟨0,.data⟩ (by simp) rfl |> fun _=>hD ⟨5,.data⟩ (by simp) rfl))
    ·exact h
    ·exact h
    ·exact h
    ·exact h
    ·exact absurd rfl (fun _:(0:Nat)=0=>nx rfl)
    ·exact h
    ·exact h
    ·exact h
    ·exact absurd rfl (fun _:(0:Nat)=0=>nx rfl)
    ·exact absurd rfl (fun _:(0:Nat)=0=>ni rfl)
    ·exact h
    ·exact h
    ·exact h
    ·exact h
    ·exact absurd rfl (fun _:(0:Nat)=0=>hnd (hc 15 _ dj rfl ⟨10,.data⟩ (by simp) rfl))
    ·exact h)
  ·cases ho;have e3:a.eval (aB 3)=ak (V ⟨b2,0,L⟩):=seen.kp 3 _ (nd 3 (by omega)) rfl;exact Rg.dn rfl rfl (Rg.dN a.eval _ 33 (aB 3) 5 rfl (by rw [e3]; simp [go_sem])) (hK _ _ rfl (Z _ _) fun _ _ _ _ _ _ _ h=>h)
  ·cases ho;have e58:a.eval (aB 58)=ak (V ⟨b2,5,L⟩):=seen.at_ ⟨11,.data⟩ (by simp) rfl (aL (by decide));have y:=(H2.out.on hb).cell 5;simp only [aF,aH,aI] at y;exact Rg.dn rfl rfl (Rg.dW a.eval _ 31 (aB 58) rfl (by rw [e58]; simp [go_sem,y])) (hK _ _ rfl (Z _ _) fun _ _ _ _ _ _ _ h=>h)
  ·cases ho;have e8:a.eval (aB 8)=aj ah (at_:Int):=seen.kp 8 _ (nd 8 (by omega)) rfl;exact Rg.dn rfl rfl (Rg.fQ a.eval _ (aB 8) rfl x) (hK _ _ e8 (Z _ _) fun _ _ _ _ _ _ _ h=>h)
  ·cases ho;have e59:a.eval (aB 59)=J so sn sc:=seen.at_ ⟨12,.data⟩ (by simp) rfl (aL (by decide));have e60:a.eval (aB 60)=aj ah (at_:Int):=seen.at_ ⟨13,.data⟩ (by simp) rfl (aL (by decide));exact Rg.dn rfl rfl (Rg.jK a.eval _ 31 (aB 59) (V (aB 60)) L L rfl (by show (au 31 (a.eval (aB 59)) (V (a.eval (aB 60))) L L).run U x=.ok hiv x; rw [e59,e60]; exact SH.out x)) (hK _ _ rfl (Z _ _) fun _ _ _ _ _ _ _ h=>h)
  ·cases ho;have o57:pI x W.heap.size (a.eval (aB 57)) ((lt++[z])):=seen.at_ ⟨10,.data⟩ (by simp) rfl (bI rfl);have e61:a.eval (aB 61)=hiv:=seen.at_ ⟨14,.data⟩ (by simp) rfl (aL (by decide));have ox:I9 x (a.eval (aB 61)) ld:=by rw [e61]; exact RH.out.on hb
   obtain⟨v',x',r,o',gr⟩:=fT okW W.heap.size o57 ox (by have:=Qa.out; rw [List.length_append,List.length_singleton]; omega) LD.out hb.size 31;exact Rg.dn rfl rfl (Rg.fJ a.eval _ (aB 57) (aB 61) 31 rfl rfl rfl r) (hK v' x' o' ((Z _ x).grown gr hb.size fun j hj=>(o57.lt j hj).1) fun j u hj dj nl nx ni h=>by
    rcases (by omega:j=0\/j=1\/j=2\/j=3\/j=4\/j=5\/j=6\/j=7\/j=8\/j=9\/j=10\/j=11\/j=12\/j=13\/j=14\/j=15\/j=16) with rfl|rfl|rfl|rfl|rfl|rfl|rfl|rfl|rfl|rfl|rfl|rfl|rfl|rfl|rfl|rfl|rfl
    ·exact absurd rfl (fun _:(0:Nat)=0=>nl (hc 10 _ (hD ⟨10,.data⟩ (by simp) rfl) rfl ⟨5,.data⟩ (by simp) rfl))
    ·exact h
    ·exact h
    ·exact h
    ·exact h
    ·exact absurd rfl (fun _:(0:Nat)=0=>nl (hD ⟨10,.data⟩ (by simp) rfl))
    ·exact h
    ·exact h
    ·exact h
    ·exact absurd rfl (fun _:(0:Nat)=0=>nl (hD ⟨10,.data⟩ (by simp) rfl))
    ·exact absurd rfl (fun _:(0:Nat)=0=>nx rfl)
    ·exact h
    ·exact h
    ·exact h
    ·exact h
    ·exact absurd rfl (fun _:(0:Nat)=0=>ni rfl)
    ·exact h)
  ·cases ho;have e3:a.eval (aB 3)=ak (V ⟨b2,0,L⟩):=seen.kp 3 _ (nd 3 (by omega)) rfl;exact Rg.dn rfl rfl (Rg.dN a.eval _ 33 (aB 3) 5 rfl (by rw [e3]; simp [go_sem])) (hK _ _ rfl (Z _ _) fun _ _ _ _ _ _ _ h=>h)
 ·intro a w' df sz kp ⟨vs,hv⟩ hb;have gr:a.tmps[62]?=V (vs 15):=(hv 15 (by omega)).1;have gp:a.tmps[63]?=V (ak (V ⟨b2,5,L⟩)):=by
   have h:vs 16=ak (V ⟨b2,5,L⟩):=(hv 16 (by omega)).2 (by decide);rw [<- h];exact (hv 16 (by omega)).1
  have oR:pI w' W.heap.size (vs 15) (lt++[z]++ld):=(hv 15 (by omega)).2 (by decide);generalize vs 15=xR at *;obtain⟨ca,cp,eR⟩:=(Row.dw oR).len;have hbx:=H2.out.on hb;have hblt:=H2.out.lt;have c5:=hbx.cell 5;have f5:=hbx.fr 5;simp only [aF,aH,aI] at c5;have hb1:=dO (k:=5) hbx xR;show Rg.fA _ _ _ 1 17 a w';simp only [Rg.fA];refine Rg.fI 31 (aB 63) (aB 62) rfl rfl rfl rfl (Rg.dH gp) (Rg.dH gr) (w':=w'.setCell ⟨b2,5,L⟩ xR) (by rw [eR]; simp [go_sem,c5,f5]) ?_;have q8:∀ j,(j<47\/64<=j)->a.tmps[j]?=(u0::u1::dP z.2.2::ak (V ⟨b2,0,L⟩)::ak (V ⟨b3,0,L⟩)::u5::u6::u7::aj ah (at_:Int)::u9::u10::u11::u12::u13::u14::u15::u16::u17::u18::u19::u20::u21::u22::u23::u24::u25::u26::u27::u28::u29::u30::u31::u32::u33::u34::u35::u36::u37::u38::u39::u40::u41::u42::u43::u44::u45::u46::u47::u48::u49::u50::u51::u52::u53::u54::u55::u56::u57::u58::u59::u60::u61::u62::u63::u64::u65::u66::u67::u68::u69::u70::u71::u72::u73::u74::u75::u76::u77::u78::u79::u80::u81::u82::u83::u84::u85::u86::u87::u88::u89::u90::u91::u92::u93::u94::u95::u96::u97::u98::[])[j]?:=fun j hj=>(kp j (nd j hj)).trans aF;obtain⟨mid,hmid,rfl⟩:=Rg.fU 47 17 df sz (by simp) q8
  match mid,hmid with
  | [v47,v48,v49,v50,v51,v52,v53,v54,v55,v56,v57,v58,v59,v60,v61,v62,v63],_ =>
   have e1:V v62=V xR:=gr;obtain rfl:=aV e1;refine HQ.out _ v47 v48 v49 v50 v51 v52 v53 v54 v55 v56 v57 v58 v59 v60 v61 v62 v63 ?_ ?_ ?_ ?_ ?_
   ·simpa using hb1
   ·exact dY oR b2 5 _ hblt
   ·exact fun B hB=>(hb.mono (aY (Nat.lt_of_le_of_lt hB hblt))).setCell hB _
   ·intro c cs t hc hbc;exact (aO _ _ _ _ hc).trans (hbc.on hb)
   ·intro k hk hne;exact (aO _ _ _ _ hne).trans (hb.block k hk)
end Bk
namespace Bk
open Go.RowKit Go.Sort Rw YtkcfgbddlpomgaaGreat.Nm Pr
noncomputable def aaX:Code:=((Tryz.f27.body.bind (gL 0)).getD .skip)
theorem Ww (Q:Exit->Act->ay->Prop) (W:ay) (b2 b3:Nat) (me c d:Int) (y1 y2 y3 y4:aK) (so:Option bN) (n sc:Nat) (l:List qK) (u0 u1 u2 u5 u6 u7 u9 u10 u11 u12 u13 u14 u15 u16 u17 u18 u19 u20 u21 u22 u23 u24 u25 u26 u27 u28 u29 u30 u31 u32 u33 u34 u35 u36 u37 u38 u39 u40 u41 u42 u43 u44 u45 u46 u47 u48 u49 u50 u51 u52 u53 u54 u55 u56 u57 u58 u59 u60 u61 u62 u63 u64 u65 u66 u67 u68 u69 u70 u71 u72 u73 u74 u75 u76 u77 u78 u79 u80 u81 u82 u83 u84 u85 u86 u87 u88 u89 u90 u91 u92 u93 u94 u95 u96 u97 u98:aK)
  (h2:dI W b2 #[aj ah me,y1,y2,y3,y4,J so n sc] 33) (h3:dI W b3 #[aj ah c,aj ah d] 38) (hs:I9 W (J so n sc) l) (hn:n=l.length) (hm:n<=1000000)
  (hQ:∀ (wr:ay) (v14 v15 v16 v17 v18 v19 v20 v21 v22 v23 v24 v25 v26 v27 v28 v29 v30:aK),Below W.heap.size W wr->Q .normal ⟨(u0::u1::u2::ak (V ⟨b2,0,L⟩)::ak (V ⟨b3,0,L⟩)::u5::u6::u7::aj ah (fF (l.map fun y=>(y.1,y.2.1)) (c,d):Nat)::u9::u10::u11::u12::u13::v14::v15::v16::v17::v18::v19::v20::v21::v22::v23::v24::v25::v26::v27::v28::v29::v30::u31::u32::u33::u34::u35::u36::u37::u38::u39::u40::u41::u42::u43::u44::u45::u46::u47::u48::u49::u50::u51::u52::u53::u54::u55::u56::u57::u58::u59::u60::u61::u62::u63::u64::u65::u66::u67::u68::u69::u70::u71::u72::u73::u74::u75::u76::u77::u78::u79::u80::u81::u82::u83::u84::u85::u86::u87::u88::u89::u90::u91::u92::u93::u94::u95::u96::u97::u98::[]).toArray,[]⟩ wr) :
  Code.wp U aaX Q ⟨(u0::u1::u2::ak (V ⟨b2,0,L⟩)::ak (V ⟨b3,0,L⟩)::u5::u6::u7::aj ah 0::u9::u10::u11::u12::u13::u14::u15::u16::u17::u18::u19::u20::u21::u22::u23::u24::u25::u26::u27::u28::u29::u30::u31::u32::u33::u34::u35::u36::u37::u38::u39::u40::u41::u42::u43::u44::u45::u46::u47::u48::u49::u50::u51::u52::u53::u54::u55::u56::u57::u58::u59::u60::u61::u62::u63::u64::u65::u66::u67::u68::u69::u70::u71::u72::u73::u74::u75::u76::u77::u78::u79::u80::u81::u82::u83::u84::u85::u86::u87::u88::u89::u90::u91::u92::u93::u94::u95::u96::u97::u98::[]).toArray,[]⟩ W:=by
 have HQ:=O hQ;have H2:=O h2;have H3:=O h3;have HS:=O hs;have HN:=O hn;clear hQ h2 h3 hs hn
 conv=>arg 2; whnf
 go_wp2
 go_loopw [8] (fun i wr=>∃ k:Nat,k<=n/\i=aj ah k/\Below W.heap.size W wr/\∀ (j:Nat) (y:Id),j<k->(l.map fun y=>(y.1,y.2.1))[j]?=V y->dZ y (c,d)=bf) (fun i _=>n-(intOf i).toNat)
 case atStart=>exact⟨0,bO _,rfl,Z _ _,fun j y h=>by omega⟩
 case round =>
  obtain⟨k,hk,rfl,hbe,hall⟩:=hrel;have BE:=O hbe;have AL:=O hall;clear hbe hall;have q0:=aN (show wr.cell? ⟨b2,5,L⟩=V (J so n sc) from (H2.out.on BE.out).cell 5);have r0:=aN (show wr.cell? ⟨b3,0,L⟩=V (aj ah c) from (H3.out.on BE.out).cell 0);have r1:=aN (show wr.cell? ⟨b3,1,L⟩=V (aj ah d) from (H3.out.on BE.out).cell 1);have hw3:IntKind.i64.wrap ((k:Int)+1)=(k:Int)+1:=IntWalk.i64_in _ (by omega);by_cases hlt:k<n
  ·obtain⟨y,hy⟩:∃ y,l[k]?=V y:=⟨_,aC (by rw [<- HN.out]; exact hlt)⟩;obtain⟨p,ix,px⟩:=elW HS.out rfl HN.out.symm hy;have xu:=px wr BE.out;obtain⟨y1,y2,⟨yo,yn,yc⟩⟩:=y;simp only at xu;have p0:=aN xu.1;have p1:=aN xu.2.1;have wP:decide ((k:Int)<(n:Int))=bf:=decide_eq_true (by omega);have Au:decide (k<n)=bf:=decide_eq_true hlt;obtain⟨r,hr⟩:∃ r,dZ (y1,y2) (c,d)=r:=⟨_,rfl⟩;have LS:=O (fun d' os=>Calls.regrown_of (d:=d') (os:=os) ((rF (y1,y2) (c,d) (grow (bP wr d') os)).mono fun _ _ h=>⟨by rw [h.1,hr],h.2⟩));have HY:=O (show (l.map fun y=>(y.1,y.2.1))[k]?=V (y1,y2) by rw [List.getElem?_map,hy]; rfl);have HR:=O hr;clear px xu hy hr;cases r
   ·go_wp2_with fail;refine wp_region_quiet_below (by kernel_rfl) (by kernel_rfl) ?_
    repeat (go_big_quiet_step (first | (with_reducible exact LS.out _ _)))
    refine wpQuiet_nil ?_;intro _ hw';obtain⟨⟨dq,osq⟩,hw''⟩:=hw';subst hw'';have Z6:=aW wr dq osq;have HF:=O (fun v14 v15 v16 v17 v18 v19 v20 v21 v22 v23 v24 v25 v26 v27 v28 v29 v30=>HQ.out (grow (bP wr dq) osq) v14 v15 v16 v17 v18 v19 v20 v21 v22 v23 v24 v25 v26 v27 v28 v29 v30 (BE.out.trans (Z6.mono BE.out.size)));rw [nU (l.map fun y=>(y.1,y.2.1)) (c,d) k AL.out (aL ⟨_,HY.out,HR.out⟩)] at HF;clear ix HQ q0 r0 r1 LS wP Au p0 p1;go_wp2;exact HF.out _ _ _ _ _ _ _ _ _ _ _ _ _ _ _ _ _
   ·go_wp2_with fail;refine wp_region_quiet_below (by kernel_rfl) (by kernel_rfl) ?_
    repeat (go_big_quiet_step (first | (with_reducible exact LS.out _ _)))
    refine wpQuiet_nil ?_;intro _ hw';obtain⟨⟨dq,osq⟩,hw''⟩:=hw';subst hw'';have Z6:=O (aW wr dq osq);clear ix q0 r0 r1 LS wP Au p0 p1;go_wp2
    go_roundw
    case rel=>exact⟨k+1,by omega,by go_num,BE.out.trans (Z6.out.mono BE.out.size),fun j y' hj h1=>by
     rcases aU j k with h3|h3
     ·exact AL.out j y' h3 h1
     ·obtain rfl:j=k:=by omega
      have e1:=HY.out;rw [h1] at e1;rw [aV e1];exact HR.out⟩
    case measure=>simp [intOf]; omega
  ·obtain rfl:k=n:=by omega
   have wP:decide ((k:Int)<(k:Int))=aM:=by simp
   have Au:decide (k<k)=aM:=by simp
   go_wp2_with fail;refine wp_region_quiet_below (by kernel_rfl) (by kernel_rfl) ?_
   repeat (go_big_quiet_step (fail))
   refine wpQuiet_nil ?_;intro _ hw';obtain⟨⟨dq,osq⟩,hw''⟩:=hw';subst hw'';have Z6:=aW wr dq osq;have HF:=O (fun v14 v15 v16 v17 v18 v19 v20 v21 v22 v23 v24 v25 v26 v27 v28 v29 v30=>HQ.out (grow (bP wr dq) osq) v14 v15 v16 v17 v18 v19 v20 v21 v22 v23 v24 v25 v26 v27 v28 v29 v30 (BE.out.trans (Z6.mono BE.out.size)));rw [nU (l.map fun y=>(y.1,y.2.1)) (c,d) k AL.out (bI (by simpa using HN.out))] at HF;clear HQ q0 r0 r1 wP Au;go_wp2;exact HF.out _ _ _ _ _ _ _ _ _ _ _ _ _ _ _ _ _
def Cu (near:List Int) (n:Int):Int:=(near[(Wi.within n 0 near.length).toNat]?).getD (-1)
theorem Ry (me n:Int) (nv:Sl) (av sv ev ov:aK) (l:List Int) (w:ay) (hs:qH w (dP nv) l) (hl:l.length<=900) (h1:-9223372036854775808<=n) (h2:n<=9223372036854775807) :
  bL U 8 #[.agg #[aj ah me,dP nv,av,sv,ev,ov],aj ah n] w fun e w'=>e=aR (aj ah (Cu l n))/\Below w.heap.size w w':=by
 obtain⟨no,nn,nc⟩:=nv;obtain⟨q1,q2,hq⟩:=hs.len;obtain⟨rfl,rfl,rfl⟩:no=q1/\nn=l.length/\nc=q2:=by
  have:J no nn nc=J q1 l.length q2:=hq;simpa using this
 obtain⟨nn,hnn⟩:∃ n,n=l.length:=⟨_,rfl⟩;simp only [<- hnn] at hs ⊢;have NB:=fO w (aD #[aj ah me,J no nn nc,av,sv,ev,ov] 33);have B0:=O NB;have X2:=O (dK w #[aj ah me,J no nn nc,av,sv,ev,ov] 33);have HS:=O (hs.on NB);have HN:=O hnn;have nl:nn<=900:=by omega
 clear NB hs hq hnn hl;show bL U 8 #[.agg #[aj ah me,J no nn nc,av,sv,ev,ov],aj ah n] w _;go_enter Tryz.func8,Tryz.ntmps8;go_upto_region 1 with fail;generalize w.alloc (aD #[aj ah me,J no nn nc,av,sv,ev,ov] 33)=W at *;have x1:=X2.out.cell 1;simp only [aF,aH,aI] at x1;have WI:=Wi.gW n 0 (nn:Int) W (by omega) (by decide) (by omega) h1 h2;have WB:=Wi.iO n 0 (nn:Int) (by omega);have SD:=O (show Cu l n=(l[(Wi.within n 0 (nn:Int)).toNat]?).getD (-1) from by unfold Cu; rw [HN.out]);generalize Wi.within n 0 (nn:Int)=y at *;obtain⟨m,rfl⟩:∃ m:Nat,y=m:=⟨y.toNat,by omega⟩;rw [Int.toNat_natCast] at SD;go_wp2_with fail;refine WI.mono ?_;rintro e2 w2 ⟨rfl,rfl⟩;clear WI;by_cases hm:m<nn
 ·have hm2:(m:Int)<(nn:Int):=by omega
  obtain⟨z,hz⟩:∃ z,l[m]?=V z:=⟨_,aC (by rw [<- HN.out]; exact hm)⟩;obtain⟨p,ix,px⟩:=elI HS.out rfl HN.out.symm hz;have p0:=px.2 W (Z _ _);rw [hz] at SD;clear px hz;go_wp2_with fail;go_ret;exact⟨by rw [SD.out]; rfl,B0.out⟩
 ·have hm2:¬ ((m:Int)<(nn:Int)):=by omega
  rw [List.getElem?_eq_none (by have:=HN.out; omega)] at SD;go_wp2_with fail;go_ret;exact⟨by rw [SD.out]; rfl,B0.out⟩
end Bk
namespace Av
open Go.RowKit Go.ChangeShapes Go.WideShapes Bk
theorem Wx:Tryz.prog.cellsOf 83=7:=by kernel_rfl
theorem Wy (a:bN) (m len cap:Nat) (h:m<len) (w:ay):(bK 22 (J (V a) len cap) (aj ah m)).run U w=.ok (ak (V (a.add (m * 7)))) w:=by
 have h1:(m:Int)<len:=by omega
 simp [go_sem,Tryz.underlying22,h1]
structure JD (W:ay) (v:aK) (n:Nat):Prop where
 shape:∃ ao cap,v=J ao n cap
 at_:∀ i:Nat,i<n->∃ (p:bN) (z0 z1 z2 z3 z4:Int) (h1:Option bN) (h2 h3:Nat) (g1:Option bN) (g2 g3:Nat) (has vals:List Int),p.block<W.heap.size/\(∀ w,(bK 22 v (aj ah i)).run U w=.ok (ak (V p)) w)/\(∀ j u,([aj ah z0,aj ah z1,aj ah z2,aj ah z3,aj ah z4,J h1 h2 h3,J g1 g2 g3]:List aK)[j]?=V u->W.cell? (p.add j)=V u)/\((-9223372036854775808<=z0/\z0<=9223372036854775807)/\(-9223372036854775808<=z1/\z1<=9223372036854775807)/\(-9223372036854775808<=z2/\z2<=9223372036854775807)/\(-9223372036854775808<=z3/\z3<=9223372036854775807)/\(-9223372036854775808<=z4/\z4<=9223372036854775807))/\In.jl W (J h1 h2 h3) has/\In.jl W (J g1 g2 g3) vals/\has.length<=aX/\vals.length<=aX
theorem JD.on {W W':ay} {v:aK} {n:Nat} (h:JD W v n) (hb:Below W.heap.size W W'):JD W' v n :=
 ⟨h.shape,fun i hi=>by
  obtain⟨p,z0,z1,z2,z3,z4,x1,x2,x3,y1,y2,y3,has,vals,h1,h2,h3,h4,h5,h6,h7⟩:=h.at_ i hi;exact⟨p,z0,z1,z2,z3,z4,x1,x2,x3,y1,y2,y3,has,vals,Nat.lt_of_lt_of_le h1 hb.size,h2,fun j u hu=>by rw [hb.cell (by rw [uJ]; exact h1)]; exact h3 j u hu,h4,h5.on hb,h6.on hb,h7⟩⟩
end Av
namespace Va
open Go.RowKit
end Va
namespace At
open Go.RowKit Go.Sort Va In
end At
namespace Ca
open Go.RowKit Rw Bk Go.Maps Go.ChangeMaps
def Gc (n:Int):Prop:=-9223372036854775808<=n/\n<=9223372036854775807
theorem law:Keyed U 3:=int_keyed aS
theorem afd {n:Int} (h:Gc n):(Lit.int ah n).wf=bf:=by
 show (decide (IntKind.i64.min<=n) && decide (n<=IntKind.i64.max))=bf;rw [Bool.and_eq_true,decide_eq_true_eq,decide_eq_true_eq,show IntKind.i64.min=-9223372036854775808 by decide,show IntKind.i64.max=9223372036854775807 by decide];exact h
def kl (n:Int):Lit:=Lit.int ah n
theorem KT (n:Int) (h:Gc n):keyOf U 3 (aj ah n)=V (kl n):=by
 have hw:=afd h;simp [keyOf,mapKey,aS,hw,kl]
theorem Rz {l m:Int} (_:Gc l) (_:Gc m) (h:kl l=kl m):l=m:=by
 unfold kl at h;injection h
theorem acR (w:ay):(zeroValue 4).run U w=.ok (aJ aM) w:=by kernel_rfl
def jr (W:ay) (b:Nat) (s:List Int):Prop:=∃ (n:Nat) (D:DataW Unit),n<=s.length/\W.ownsMap U 3 (plainElem U 4) b n D/\IsMap D/\(∀ l,Gc l->D.atKey (kl l) (.lit (.bool aM))=.lit (.bool (decide (l∈s))))/\(∀ l,Gc l->Maps.has D (kl l)=decide (l∈s))/\Maps.size D=s.length
theorem Gp (w:ay):jr (w.alloc (.map #[] 0)) w.heap.size [] :=
 ⟨0,.map [],aA _,World.ownsMap_made _ _ _ _,⟨[],rfl⟩,fun l _=>by simp [DataW.atKey],fun l _=>by simp [Maps.has],rfl⟩
theorem jr.lt {W:ay} {b:Nat} {s:List Int} (h:jr W b s):b<W.heap.size:=by
 obtain⟨n,D,_,h2,_⟩:=h;exact h2.lt
theorem jr.of_block {W W':ay} {b:Nat} {s:List Int} (h:jr W b s) (hb:W'.heap[b]?=W.heap[b]?):jr W' b s:=by
 obtain⟨n,D,h1,⟨es,clock,h2,r⟩,h3⟩:=h;exact⟨n,D,h1,⟨es,clock,by rw [hb]; exact h2,r⟩,h3⟩
theorem jr.on {W W':ay} {b:Nat} {s:List Int} (h:jr W b s) (hb:Below W.heap.size W W'):jr W' b s:=h.of_block (hb.block _ h.lt)
theorem jr.look {W:ay} {b:Nat} {s:List Int} (h:jr W b s) (l:Int) (hl:Gc l):(Instr.lookup 59 (.map (V b)) (aj ah l) aM).run U W=.ok (aJ (decide (l∈s))) W:=by
 obtain⟨n,D,_,h2,_,h4,_⟩:=h;obtain⟨v,ps,hr,hv⟩:=h2.lookup law aP (acR W) (plainElem_bool aT _) (KT l hl);rw [h4 l hl] at hv;rw [hr];cases v <;> simp [plainElem,aT] at hv;rw [hv.1]
theorem jr.count {W:ay} {b:Nat} {s:List Int} (h:jr W b s) (ty:TypeId):(Builtin.len_ #[59] ty #[.map (V b)]).run U W=.ok (aj ah (s.length:Nat)) W:=by
 obtain⟨n,D,_,h2,_,_,_,h6⟩:=h;rw [h2.len aP ty,h6]
def p8 (s:List Int) (l:Int):List Int:=if l∈s then s else s++[l]
theorem jr.store {W:ay} {b:Nat} {s:List Int} (h:jr W b s) (l:Int) (hl:Gc l) (hs:s.length<1000):∃ W',(Instr.mapUpdate 59 (.map (V b)) (aj ah l) (aJ bf)).run U W=.ok () W'/\jr W' b (p8 s l)/\W.grownBy W' (V b):=by
 obtain⟨n,D,h1,h2,h3,h4,h5,h6⟩:=h;have hp:=h2.tidy law;have hz:=Maps.size_put hp (k:=kl l) (.lit (.bool bf));rw [h5 l hl] at hz;obtain⟨W',hr,ho,ht⟩:=h2.store law aP (by unfold aX; omega) (KT l hl) (plainElem_bool aT bf);have hm:∀ m,m∈p8 s l↔m∈s\/m=l:=fun m=>by
  unfold p8
  split
  ·rename_i hin
   exact⟨bI,fun h=>h.elim id (fun e=>e ▸ hin)⟩
  ·simp
 have hat:∀ m,Gc m->(D.put (kl l) (.lit (.bool bf))).atKey (kl m) (.lit (.bool aM))=.lit (.bool (decide (m∈p8 s l))):=fun m hmk=>by
  by_cases e:m=l
  ·subst e;rw [atKey_put_same h3 (law.key (KT m hmk)),decide_eq_true ((hm m).2 (aL rfl))]
  ·rw [atKey_put_other (fun h=>e (Rz hmk hl h)),h4 m hmk];exact congrArg (fun q=>DataW.lit (Lit.bool q)) (bG.2 (by simp [hm,e]))
 have hha:∀ m,Gc m->Maps.has (D.put (kl l) (.lit (.bool bf))) (kl m)=decide (m∈p8 s l):=fun m hmk=>by
  by_cases e:m=l
  ·subst e;rw [Maps.has_put_same h3 (law.key (KT m hmk)),decide_eq_true ((hm m).2 (aL rfl))]
  ·rw [Maps.has_put_other (fun h=>e (Rz hmk hl h)),h5 m hmk];exact bG.2 (by simp [hm,e])
 have hsz:Maps.size (D.put (kl l) (.lit (.bool bf)))=(p8 s l).length:=by
  rw [hz,h6];unfold p8;by_cases hin:l∈s
  ·simp [hin]
  ·simp [hin]
 refine⟨W',hr,?_,ht.grown⟩;by_cases hin:l∈s
 ·have hle:Maps.size (D.put (kl l) (.lit (.bool bf)))<=n:=by
   rw [hz,h6];have:=h2.size_le;rw [h6] at this;simp [hin];exact this
  obtain⟨es,clock,k1,k2,k3,k4⟩:=ho;refine⟨(p8 s l).length,_,aA _,⟨es,clock,k1,k2,?_,k4⟩,h3.put _ _,hat,hha,hsz⟩;have k5:Maps.size (D.put (kl l) (.lit (.bool bf)))=es.size:=by rw [k4]; exact length_read es
  omega
 ·exact⟨n+1,_,by unfold p8; rw [if_neg hin]; simp; omega,ho,ho.isMap,hat,hha,hsz⟩
end Ca
namespace At
open Go.RowKit Go.Sort Va In
def oC (W:ay) (b:Nat) (t:Bool) (i:Int) (s:ByteArray):Prop:=W.heap[b]?=V (aD #[aJ t,aj ah i,aG s] 93)
theorem oC.cell {W:ay} {b:Nat} {t:Bool} {i:Int} {s:ByteArray} (h:oC W b t i s) (k:Nat):W.cell? ⟨b,k,L⟩=#[aJ t,aj ah i,aG s][k]?:=by
 unfold oC at h;simp [World.cell?,h]
theorem oC.fr {W:ay} {b:Nat} {t:Bool} {i:Int} {s:ByteArray} (h:oC W b t i s) (k:Nat):W.frozen? ⟨b,k,L⟩=aM:=by
 unfold oC at h;simp [World.frozen?,h]
theorem oC.lt {W:ay} {b:Nat} {t:Bool} {i:Int} {s:ByteArray} (h:oC W b t i s):b<W.heap.size:=lt_of_heap h
theorem oC.on {W W':ay} {b:Nat} {t:Bool} {i:Int} {s:ByteArray} (h:oC W b t i s) (hb:Below W.heap.size W W'):oC W' b t i s:=by
 have hl:=h.lt;unfold oC at *;rw [hb.block _ hl]; exact h
theorem oC.more {W:ay} {b:Nat} {t:Bool} {i:Int} {s:ByteArray} (h:oC W b t i s) (o:Obj):oC (W.alloc o) b t i s:=h.on ((Z _ _).alloc (aA _) _)
theorem dK (W:ay) (t:Bool) (i:Int) (s:ByteArray):oC (W.alloc (aD #[aJ t,aj ah i,aG s] 93)) W.heap.size t i s:=by
 unfold oC;show (W.heap.push _)[W.heap.size]?=_;simp
def RA (W:ay) (b:Nat) (t:Bool) (i:Int) (s:ByteArray):ay:=((W.setCell ⟨b,0,L⟩ (aJ t)).setCell ⟨b,1,L⟩ (aj ah i)).setCell ⟨b,2,L⟩ (aG s)
theorem oC.acS {W:ay} {b:Nat} {t:Bool} {i:Int} {s:ByteArray} (h:oC W b t i s) (t':Bool) (i':Int) (s':ByteArray):oC (RA W b t' i' s') b t' i' s':=by
 unfold oC RA at *;simp [World.setCell,Array.getElem?_modify,h]
theorem um {B b:Nat} {W W':ay} (hb:Below B W W') (hB:B<=b) (t:Bool) (i:Int) (s:ByteArray):Below B W (RA W' b t i s):=((hb.setCell hB _).setCell hB _).setCell hB _
theorem Cv:∀ (l:List A4) (n:ByteArray) (k:Nat) (x:A4),l[k]?=V x->x.1=n->(∀ (j:Nat) (y:A4),j<k->l[j]?=V y->y.1≠n)->wF l n=V x.2
 | [],n,k,x,h,_,_=>by simp at h
 | y::r,n,0,x,h,e,_=>by simp at h; subst h; simp [wF,e]
 | y::r,n,k+1,x,h,e,hn=>by
  simp only [wF];rw [if_neg (hn 0 y (by omega) rfl),Cv r n k x (by simpa using h) e (fun j z hj hz=>hn (j+1) z (by omega) (by simpa using hz))]
theorem NZ (l:List A4) (n:ByteArray) (h:∀ (j:Nat) (y:A4),j<l.length->l[j]?=V y->y.1≠n):wF l n=L :=
 get_none l n fun x hx=>by
  obtain⟨j,hj,e⟩:=List.getElem_of_mem hx;exact h j x hj (by rw [aC hj,e])
theorem acT:acO:=by
 intro lv l n w hl h5 hn;have HL:=O hl;obtain⟨lo,lc,rfl⟩:=hl.len;have B0:=O (show Below w.heap.size w (w.alloc (aD #[aJ aM,aj ah 0,aG ⟨#[]⟩] 93)) from (Z _ _).alloc (aA _) _);have HT0:=O (dK w aM 0 ⟨#[]⟩);clear hl;go_enter Tryz.func44,Tryz.ntmps44;go_wp2;generalize w.alloc (aD #[aJ aM,aj ah 0,aG ⟨#[]⟩] 93)=w1 at B0 HT0 ⊢
 go_loopw [10] (fun i wr=>∃ k:Nat,k<=l.length/\i=aj ah k/\Below w.heap.size w wr/\oC wr w.heap.size aM 0 ⟨#[]⟩/\∀ (j:Nat) (y:A4),j<k->l[j]?=V y->y.1≠n) (fun i _=>l.length-(intOf i).toNat)
 case atStart=>exact⟨0,bO _,rfl,B0.out,HT0.out,fun j y h=>by omega⟩
 case round =>
  obtain⟨k,hk,rfl,hb,ht,hall⟩:=hrel;have HB:=O hb;have HT:=O ht;have AL:=O hall;clear hb hall ht;by_cases hlt:k<l.length
  ·obtain⟨⟨xn,xt,xi,xs⟩,hx⟩:∃ x,l[k]?=V x:=⟨_,aC hlt⟩;obtain⟨p,ix,px⟩:=Ny HL.out rfl rfl hx;obtain⟨p0,p1,p2,p3⟩:=px _ HB.out;have HX:=O hx;have B4:=O (HB.out.alloc HB.out.size (aD #[aG xn,aJ xt,aj ah xi,aG xs] 97));have T4:=O (HT.out.more (aD #[aG xn,aJ xt,aj ah xi,aG xs] 97));clear hx px;simp only at p0 p1 p2 p3;by_cases he:xn=n
   ·have hn:(xn.toList == n.toList)=bf:=by rw [he]; exact beq_self_eq_true _
    have R:=O (Cv l n k _ HX.out he AL.out);have HE:=O he;clear he;have c0:=HT.out.cell 0;have c1:=HT.out.cell 1;have c2:=HT.out.cell 2;simp at c0 c1 c2;have f0:=HT.out.fr 0;have f1:=HT.out.fr 1;have f2:=HT.out.fr 2;have aaW:=HT.out.lt;go_wp2;have T5:=(HT.out.acS xt xi xs).more (aD #[aG xn,aJ xt,aj ah xi,aG xs] 97);have B5:=(um HB.out (aA _) xt xi xs).alloc (um HB.out (aA _) xt xi xs).size (aD #[aG xn,aJ xt,aj ah xi,aG xs] 97);unfold RA at T5 B5;generalize World.alloc _ (aD #[aG xn,aJ xt,aj ah xi,aG xs] 97)=w6 at T5 B5 ⊢;have d0:=T5.cell 0;have d1:=T5.cell 1;have d2:=T5.cell 2;simp at d0 d1 d2;refine aZ (v:=JC (V (xt,xi,xs))) (by simp [results,bJ,go_sem,d0,d1,d2,JC]) rfl ⟨by rw [R.out],B5⟩
   ·have hn:(xn.toList == n.toList)=aM:=by rw [beq_eq_false_iff_ne]; exact fun h=>he (nO h)
    have HE:=O he;clear he;go_wp2
    go_roundw
    case rel=>exact⟨k+1,by omega,by go_num,B4.out,T4.out,fun j y hj hy=>by
     rcases aU j k with h3|h3
     ·exact AL.out j y h3 hy
     ·obtain rfl:j=k:=by omega
      have e:=HX.out;rw [hy] at e;rw [aV e];exact HE.out⟩
    case measure=>simp [intOf]; omega
  ·obtain rfl:k=l.length:=by omega
   have R:=O (NZ l n (fun j y hj hy=>AL.out j y hj hy));have c0:=HT.out.cell 0;have c1:=HT.out.cell 1;have c2:=HT.out.cell 2;simp at c0 c1 c2;have f0:=HT.out.fr 0;have f1:=HT.out.fr 1;have f2:=HT.out.fr 2;have aaW:=HT.out.lt;go_wp2;have T5:=HT.out.acS aM 0 ⟨#[]⟩;have B5:=um HB.out (aA _) aM 0 ⟨#[]⟩;unfold RA at T5 B5;generalize World.setCell _ _ (aG ⟨#[]⟩)=w6 at T5 B5 ⊢;have d0:=T5.cell 0;have d1:=T5.cell 1;have d2:=T5.cell 2;simp at d0 d1 d2;refine aZ (v:=JC L) (by simp [results,bJ,go_sem,d0,d1,d2,JC]) rfl ⟨by rw [R.out],B5⟩
end At
namespace Rl
open Go.RowKit Pu Rw Pr
end Rl
namespace Av
open Go.RowKit Rw YtkcfgbddlpomgaaGreat.Nm Pr Bk
theorem RD {W:ay} {b:Nat} {c:iF} (h:dI W b (iG c).toArray 68):kC W (J (V ⟨b,0,L⟩) 1 1) [c] :=
 aL ⟨⟨b,0,L⟩,1,rfl,by simp,by decide,uz h (by simp [EN])⟩
def zf (B:Nat) (l:List iF) (k:Nat) (c:iF) (vv:aK) (W:ay) (e:Ending) (w':ay):Prop:=∃ v',e=aR v'/\jA w' B v' (l.take k++c::l.drop k)/\Below B W w'/\(∀ j,j<W.heap.size->V j≠vv.ownBlock->w'.heap[j]?=W.heap[j]?)
theorem Gq (B:Nat) (v:aK) (l:List iF) (c:iF) (b:Nat) (W:ay) (ho:jA W B v l) (hx:dI W b (iG c).toArray 68) (hl:l.length<=900) (hB:B<=W.heap.size) :
  bL U 51 #[v,aj ah (l.length:Nat),J (V ⟨b,0,L⟩) 1 1] W (zf B l l.length c v W):=by
 obtain⟨v',w',hr,ho2,hg⟩:=fT nR B ho (RD hx) (by omega) (by simp) hB 30;have hr:(bH #[30,30] 30 #[v,J (V ⟨b,0,L⟩) 1 1]).run U W=.ok v' w':=hr;have Q:=O (show zf B l l.length c v W (aR v') w' from ⟨v',rfl,by rw [List.take_of_length_le (aA _),List.drop_of_length_le (aA _)]; exact ho2,(Z B W).grown hg hB (fun j hj=>(ho.lt j hj).1),fun j hj hne=>hg.block j hj hne⟩);obtain⟨sx,hs,_⟩:=oU nR (Row.dw ho) l.length (aA _);have hs:∀ w,(au 30 v (V (aj ah l.length)) L L).run U w=.ok sx w:=hs;obtain⟨ao,ac,rfl⟩:=(Row.dw ho).len;clear ho ho2 hg;generalize hn:l.length=n at *;clear hn;go_enter bF,bg;go_wp2_with (first | (at_builtin; refine wpList_append_run rfl _ _ 30 rfl rfl rfl hr ?_) | fail);go_ret;exact Q.out
theorem RG (w:ay) (g b k la lb cb:Nat) (cur cs:Array aK) (hb:dI w b cs 68) (hg:dI w g cur 68) (hne:b≠g) (h0:0<cur.size):(callFunc 88 #[J (V ⟨b,0,L⟩) la 1,J (V ⟨g,k,L⟩) lb cb]).run U w=.ok (.value (aJ aM)) w:=by
 rw [run_callFunc_extern Tryz.func88 (by kernel_rfl) (by kernel_rfl) (by kernel_rfl) (e:=Extern.SlicesOverlaps.overlaps #[30,30] #[4]) (by kernel_rfl),
  Lib.run_overlaps_apart w 30 4 68 Tryz.underlying30 7 Tryz.sizeOf68 ⟨b,0,L⟩ ⟨g,k,L⟩ la 1 lb cb hne 68 68 cs.size cur.size hb.shape hg.shape (by omega) (hb.fr 0) (hb.fr _)]
 rfl
theorem AO (B g n cap:Nat) (cur:Array aK) (l:List iF) (k:Nat) (c:iF) (b:Nat) (W:ay) (hn:n=l.length) (hBg:B<=g) (hg:dI W g cur 68) (hcm:cap<=aX) (hsz:cur.size=cap * 7) (ht:cur.toList.take (n * 7)=flat EN l) (hx:dI W b (iG c).toArray 68) (hne:b≠g) (hk:k<n) (hroom:n+1<=cap) (hl:n<=900) :
  bL U 51 #[J (V ⟨g,0,L⟩) n cap,aj ah k,J (V ⟨b,0,L⟩) 1 1] W (zf B l k c (J (V ⟨g,0,L⟩) n cap) W):=by
 obtain⟨R1,R2,r1,r2,ow⟩:=vK (E:=EN) (l:=l) (k:=k) (cap:=cap) (cur:=cur) (cs:=(iG c).toArray) (c:=c) nR (by omega) (by omega) hsz (by rw [<- hn]; exact ht) g b hne;have hov:=fun lb cb=>RG W g b ((k+1) * 7) 1 lb cb cur (iG c).toArray hx hg hne (by omega);have s0:=jd (E:=EN) nR g k n cap (by omega) (by omega);have s1:=nL (E:=EN) nR ⟨g,0,L⟩ (n+1) n cap (by omega);have s2:=jd (E:=EN) nR g (k+1) (n+1) cap (by omega) (by omega);have s3:=jd (E:=EN) nR g k (n+1) cap (by omega) (by omega);have q1:=r1 W.drew 3 (n+1-(k+1)) (cap-(k+1)) (n+1-k) (cap-k) hg (by omega);have q2:=r2 (W.drew.setRow g R1) 3 (n+1-k) (cap-k) (dI.set (show dI W.drew g cur 68 from hg) R1) (dI.other (show dI W.drew b _ 68 from hx) hne R1) rfl (by omega);have Q:=O (show zf B l k c (J (V ⟨g,0,L⟩) n cap) W (aR (J (V ⟨g,0,L⟩) (n+1) cap)) ((W.drew.setRow g R1).setRow g R2) from ⟨_,rfl,by rw [hn]; exact ow _ B hBg hcm (dI.set (dI.set (show dI W.drew g cur 68 from hg) R1) R2),below_setRow (below_setRow (Z B W).drew hBg _) hBg _,fun j hj hne=>(setRow_other _ g j _ (fun e=>hne (by rw [e]; rfl))).trans (setRow_other _ g j _ (fun e=>hne (by rw [e]; rfl)))⟩);clear r1 r2 ow hg ht hx hsz hBg hcm;change ∀ w,(au 30 (J (V ⟨g,0,L⟩) n cap) (V (aj ah k)) L L).run U w=.ok (J (V ⟨g,k * 7,L⟩) (n-k) (cap-k)) w at s0;change ∀ w,(au 30 (J (V ⟨g,0,L⟩) n cap) L (V (aj ah ((n:Int)+1))) L).run U w=.ok (J (V ⟨g,0,L⟩) (n+1) cap) w at s1;change ∀ w,(au 30 (J (V ⟨g,0,L⟩) (n+1) cap) (V (aj ah ((k:Int)+1))) L L).run U w=.ok (J (V ⟨g,(k+1) * 7,L⟩) (n+1-(k+1)) (cap-(k+1))) w at s2;change ∀ w,(au 30 (J (V ⟨g,0,L⟩) (n+1) cap) (V (aj ah k)) L L).run U w=.ok (J (V ⟨g,k * 7,L⟩) (n+1-k) (cap-k)) w at s3;have e1:((k:Int) == (n:Int))=aM:=by rw [beq_eq_false_iff_ne]; omega
 have e2:decide ((cap:Int)<(n:Int)+1)=aM:=by simp; omega
 change (aQ #[30,30] 3 #[J (V ⟨g,(k+1) * 7,L⟩) (n+1-(k+1)) (cap-(k+1)),J (V ⟨g,k * 7,L⟩) (n+1-k) (cap-k)]).run U W.drew=.ok (aj ah ((l.length-k:Nat):Int)) (W.drew.setRow g R1) at q1;change (aQ #[30,30] 3 #[J (V ⟨g,k * 7,L⟩) (n+1-k) (cap-k),J (V ⟨b,0,L⟩) 1 1]).run U (W.drew.setRow g R1)=.ok (aj ah 1) ((W.drew.setRow g R1).setRow g R2) at q2;clear hn;go_enter bF,bg;go_wp2_with (first | (simp only [hov]) | fail);clear hov s0 s1 s2 s3;have hw1:IntKind.i64.wrap ((k:Int)+1)=(k:Int)+1:=by rw [bD]; omega
 have hb1:(0:Int)<=(k:Int)+1:=by omega
 have hb0:(k:Int)+1<=(n:Int)+1:=by omega
 have htn:((k:Int)+1).toNat=k+1:=by omega
 have hb2:¬ (cap=k+1):=by omega
 have hb3:(k:Int)<=(n:Int)+1:=by omega
 have hb4:¬ (cap=k):=by omega
 have h81:n+1-(k+1)=n-k:=by omega
 rw [h81] at q1;clear h81
 go_region_law (refine jM rfl (aB 73) (aB 76) 30 rfl (v:=J (V ⟨g,(k+1) * 7,L⟩) (n-k) (cap-(k+1))) (xv:=J (V ⟨g,k * 7,L⟩) (n+1-k) (cap-k)) (by simp [Act.eval,Act.put]) (by simp [Act.eval,Act.put]) q1 ?_)
 all_goals simp only [Exit.then]
 all_goals apply_assumption
 clear q1 hw1 hb1 hb0 htn hb2 hb3 hb4;have s3:=jd (E:=EN) nR g k (n+1) cap (by omega) (by omega);change ∀ w,(au 30 (J (V ⟨g,0,L⟩) (n+1) cap) (V (aj ah k)) L L).run U w=.ok (J (V ⟨g,k * 7,L⟩) (n+1-k) (cap-k)) w at s3;go_wp2_with (first | (at_builtin; refine wpList_copy_run rfl _ _ 30 rfl rfl rfl q2 ?_) | fail);go_ret;exact Q.out
theorem D9 (B g n cap:Nat) (cur:Array aK) (l:List iF) (k:Nat) (c:iF) (b:Nat) (W:ay) (hn:n=l.length) (hg:dI W g cur 68) (hcm:cap<=aX) (hnc:n<=cap) (ht:cur.toList.take (n * 7)=flat EN l) (hx:dI W b (iG c).toArray 68) (hk:k<n) (hroom:cap<n+1) (hl:n<=900) (hB:B<=W.heap.size) :
  bL U 51 #[J (V ⟨g,0,L⟩) n cap,aj ah k,J (V ⟨b,0,L⟩) 1 1] W (zf B l k c (J (V ⟨g,0,L⟩) n cap) W):=by
 have hgw:=hg.lt;have hbw:=hx.lt;obtain⟨G,R1,R2,R3,hG1,hG2,r1,r2,r3,ow⟩:=yh (E:=EN) (l:=l) (k:=k) (cap:=cap) (cur:=cur) (cs:=(iG c).toArray) (c:=c) nR 3 aS (by omega) (by omega) (by omega) (by omega) (by rw [<- hn]; exact ht) W g b hg hbw;unfold aX at hcm hG2;have s0:=jd (E:=EN) nR g k n cap (by omega) (by omega);have s1:=nL (E:=EN) nR ⟨g,0,L⟩ k n cap (by omega);have s2:=jd (E:=EN) nR W.heap.size k (n+1) G (by omega) (by omega);have s3:=jd (E:=EN) nR W.heap.size (k+1) (n+1) G (by omega) (by omega);have a1:=r1 30;have n1:=dK W.drew R1 68;have bl:W.drew.heap.size=W.heap.size:=rfl;rw [bl] at n1;have g1:dI (W.drew.alloc (aD R1 68)) g cur 68:=dI.more (show dI W.drew g cur 68 from hg) _;have x1:dI (W.drew.alloc (aD R1 68)) b (iG c).toArray 68:=dI.more (show dI W.drew b _ 68 from hx) _;have q2:=r2 (W.drew.alloc (aD R1 68)) 3 (n+1-k) (G-k) n1 x1 rfl (by omega);have q3:=r3 ((W.drew.alloc (aD R1 68)).setRow W.heap.size R2).drew 3 (n+1-(k+1)) (G-(k+1)) (n-k) (cap-k) (dI.set n1 R2) (dI.other g1 (by omega) R2) (by omega);have Q:=O (show zf B l k c (J (V ⟨g,0,L⟩) n cap) W (aR (J (V ⟨W.heap.size,0,L⟩) (n+1) G)) (((W.drew.alloc (aD R1 68)).setRow W.heap.size R2).drew.setRow W.heap.size R3) from ⟨_,rfl,by rw [hn]; exact ow _ B hB (dI.set (dI.set n1 R2) R3),below_setRow (below_setRow ((Z B W).drew.alloc hB _) hB _).drew hB _,fun j hj _=>(setRow_other _ W.heap.size j _ (by omega)).trans ((setRow_other _ W.heap.size j _ (by omega)).trans (Array.getElem?_push_lt hj |>.trans (Array.getElem?_eq_getElem hj).symm))⟩);have l1:l.length+1=n+1:=by rw [hn]
 rw [l1,<- hn] at a1;clear r1 r2 r3 ow hg ht hx g1 x1 n1 bl l1;change ∀ w,(au 30 (J (V ⟨g,0,L⟩) n cap) (V (aj ah k)) L L).run U w=.ok (J (V ⟨g,k * 7,L⟩) (n-k) (cap-k)) w at s0;change ∀ w,(au 30 (J (V ⟨g,0,L⟩) n cap) L (V (aj ah k)) L).run U w=.ok (J (V ⟨g,0,L⟩) k cap) w at s1;change ∀ w,(au 30 (J (V ⟨W.heap.size,0,L⟩) (n+1) G) (V (aj ah k)) L L).run U w=.ok (J (V ⟨W.heap.size,k * 7,L⟩) (n+1-k) (G-k)) w at s2;change ∀ w,(au 30 (J (V ⟨W.heap.size,0,L⟩) (n+1) G) (V (aj ah ((k:Int)+1))) L L).run U w=.ok (J (V ⟨W.heap.size,(k+1) * 7,L⟩) (n+1-(k+1)) (G-(k+1))) w at s3;change (bH #[30,3] 30 #[J (V ⟨g,0,L⟩) k cap,aj ah ((n:Int)+1-k)]).run U W=.ok (J (V ⟨W.heap.size,0,L⟩) (n+1) G) (W.drew.alloc (aD R1 68)) at a1;change (aQ #[30,30] 3 #[J (V ⟨W.heap.size,k * 7,L⟩) (n+1-k) (G-k),J (V ⟨b,0,L⟩) 1 1]).run U (W.drew.alloc (aD R1 68))=.ok (aj ah 1) ((W.drew.alloc (aD R1 68)).setRow W.heap.size R2) at q2;change (aQ #[30,30] 3 #[J (V ⟨W.heap.size,(k+1) * 7,L⟩) (n+1-(k+1)) (G-(k+1)),J (V ⟨g,k * 7,L⟩) (n-k) (cap-k)]).run U ((W.drew.alloc (aD R1 68)).setRow W.heap.size R2).drew=.ok (aj ah ((l.length-k:Nat):Int)) (((W.drew.alloc (aD R1 68)).setRow W.heap.size R2).drew.setRow W.heap.size R3) at q3;have e1:((k:Int) == (n:Int))=aM:=by rw [beq_eq_false_iff_ne]; omega
 have e2:decide ((cap:Int)<(n:Int)+1)=bf:=by simp; omega
 have hGn:n+1<=G:=by omega
 clear hn;generalize W.heap.size=N at *;generalize W.drew.alloc (aD R1 68)=W1 at *;generalize W1.setRow N R2=W2 at *;go_enter bF,bg;go_wp2_with (first | (at_builtin; refine kL rfl _ _ 30 3 rfl rfl rfl a1 ?_) | (at_builtin; refine wpList_copy_run rfl _ _ 30 rfl rfl rfl q2 ?_) | fail);clear a1 q2 s0 s1 s2 s3;have hw1:IntKind.i64.wrap ((k:Int)+1)=(k:Int)+1:=by rw [bD]; omega
 have hb1:(0:Int)<=(k:Int)+1:=by omega
 have hb0:(k:Int)+1<=(n:Int)+1:=by omega
 have htn:((k:Int)+1).toNat=k+1:=by omega
 have hb2:¬ (G=k+1):=by omega
 have hb3:(k:Int)<=(n:Int):=by omega
 have hb4:¬ (cap=k):=by omega
 have h81:n+1-(k+1)=n-k:=by omega
 rw [h81] at q3;clear h81
 go_region_law (refine jM rfl (aB 50) (aB 53) 30 rfl (v:=J (V ⟨N,(k+1) * 7,L⟩) (n-k) (G-(k+1))) (xv:=J (V ⟨g,k * 7,L⟩) (n-k) (cap-k)) (by simp [Act.eval,Act.put]) (by simp [Act.eval,Act.put]) q3 ?_)
 all_goals simp only [Exit.then]
 all_goals apply_assumption
 go_wp2;go_ret;exact Q.out
theorem wX (B:Nat) (v:aK) (l:List iF) (k:Nat) (c:iF) (b:Nat) (W:ay) (ho:jA W B v l) (hx:dI W b (iG c).toArray 68) (hne:v.ownBlock≠V b) (hk:k<=l.length) (hl:l.length<=900) (hB:B<=W.heap.size) :
  bL U 51 #[v,aj ah k,J (V ⟨b,0,L⟩) 1 1] W (zf B l k c v W):=by
 rcases aU k l.length with h|h
 ·rcases iR ho with⟨_,h2⟩|⟨g,cap,cur,rfl,h1,h2,h3,h4,h5,h6⟩
  ·rw [h2] at h; simp at h
  ·rcases aU cap (l.length+1) with h7|h7
   ·exact D9 B g _ cap cur l k c b W rfl h2 h4 h3 h6 hx h h7 hl hB
   ·exact AO B g _ cap cur l k c b W rfl h1 h2 h4 h5 h6 hx (fun e=>hne (by simp [Value.ownBlock,e])) h h7 hl
 ·obtain rfl:k=l.length:=by omega
  exact Gq B v l c b W ho hx hl hB
end Av
namespace At
open Go.RowKit Go.ChangeShapes Go.WideShapes In
theorem aaY:Tryz.prog.cellsOf 27=2:=by kernel_rfl
theorem DJ:Tryz.prog.cellsOf 25=1:=by kernel_rfl
theorem IW {H:Type} {enc:TypeId×aK->H} {W:ay} {r:Reach} {b0:Nat} {sp:Nat->Bool} {held:Bool} {v:aK} {d:DataW H} {ps:List MemPlace}
  (hval:Value.okWide U W r b0 27 v) (hd:DataW.Trod enc U W 0 sp held 27 v d ps) :
  ∃ (hv vv:aK) (has vals:List Int),v=.agg #[hv,vv]/\has.length<=aX/\vals.length<=aX/\jl W hv has/\jl W vv vals:=by
 obtain⟨cs,rfl,hsz⟩:=okWide_struct bn hval;obtain⟨fuel,hf⟩:=hd;obtain⟨xs,n,_,_,_,hxl,hx⟩:=DataW.trod_struct bn hf;rw [aaY] at hsz;obtain⟨l⟩:=cs
 match l,hsz with
 | [c0,c1],_ =>
  have f0:DataW.trod enc U W 0 sp held n 25 (([c0,c1].drop 0).take (Tryz.prog.cellsOf 25))=xs[0]?:=hx 0 _ rfl;have f1:DataW.trod enc U W 0 sp held n 25 (([c0,c1].drop 1).take (Tryz.prog.cellsOf 25))=xs[1]?:=hx 1 _ rfl;have acU:xs.length=2:=hxl;simp only [DJ,List.drop_zero,List.drop_succ_cons,List.take_succ_cons,List.take_zero] at f0 f1;rw [aC (by omega)] at f0 f1;obtain⟨has,h1,h2⟩:=xP f0;obtain⟨vals,h3,h4⟩:=xP f1;exact⟨c0,c1,has,vals,rfl,h1,h3,h2,h4⟩
end At
end Go.Proofs.YtkcfgbddlpomgaaGreat
