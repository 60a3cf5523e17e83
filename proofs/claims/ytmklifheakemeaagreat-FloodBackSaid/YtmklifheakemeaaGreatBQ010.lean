/-
  The region of Learn . Conditions as told.
-/
import Derived.Test.YtmklifheakemeaaGreatBQ006
import Derived.Maps.AppendAt
import Derived.Lib.QuietBelow
import Derived.BigQuiet
set_option maxRecDepth 100000
set_option maxHeartbeats 64000000
open _root_.Bool renaming true->aL,and_eq_true->aP,false->aY
open _root_.Go renaming Value->aC,World->aF,Addr->bJ,Act->bK
open Go.Instr renaming sliceAt->aN
open Go.IntKind renaming i64->aH
open Go.Lib renaming hid->Y
open Go.Operand renaming tmp->U
open Go.Proofs.Tryz renaming prog->aJ,ntmps27->bF,func27->bI
open Go.Proofs.YtmklifheakemeaaGreat.Rg renaming dD->au,dU->bf,dW->bG,fZ->bH,jd->bL,gq->bM,kG->bN,fG->bQ,dM->bR
open Go.Region renaming binds->aD
open Go.RowKit.Below renaming refl->J,heap_setCell->ay
open Go.Value renaming pointer->O,slice->aA,int->aK,string->aT
open _root_.List renaming getElem?_toArray->Z,getElem?_cons_zero->aj,getElem?_cons_succ->ak,length_take->aG,getElem?_eq_some_iff->aM,getElem?_eq_getElem->aO,length_singleton->aQ,length_append->aU,length_drop->aW,all_eq_true->aX,mem_range->aZ
open _root_.Nat renaming le_refl->aR,lt_of_le_of_lt->aV,le_of_lt->bg
open _root_.Option renaming some->X,none->ah
open Option.some renaming inj->aI
open _root_.Or renaming inr->aB,inl->aS
namespace Go.Proofs.YtmklifheakemeaaGreat
namespace Bk
open Go.RowKit Rw YtmklifheakemeaaGreat.Nm Pr
def Ml (B b2 b3:Nat) (so:Option bJ) (sn sc at_:Nat) (lo hiv:aC) (z:fD) (lt ld:List fD) (i:Nat) (v:aC) (x:aF):Prop :=
 match i with
 | 0=>∃ g,v=aA (X ⟨g,0,ah⟩) 0 0/\B<=g/\dJ x g #[] 31
 | 1=>v=O (X ⟨b2,3,ah⟩)
 | 2=>v=aA so sn sc
 | 3=>v=aK aH (at_:Int)
 | 4=>v=lo
 | 5=>rW x B v lt
 | 6=>v=O (X ⟨b3,0,ah⟩)
 | 7=>v=Ro z
 | 8=>rW x B v [z]
 | 9=>rW x B v (lt++[z])
 | 10=>v=O (X ⟨b2,3,ah⟩)
 | 11=>v=aA so sn sc
 | 12=>v=aK aH (at_:Int)
 | 13=>v=hiv
 | 14=>rW x B v (lt++[z]++ld)
 | 15=>v=O (X ⟨b2,3,ah⟩)
 | _=>True
noncomputable def Zk:Code:=((Tryz.f45.body.bind (eT 6)).getD .skip)
theorem R8 (B b2 b3:Nat) (so:Option bJ) (sn sc at_:Nat) (lo hiv:aC) (z:fD) (lt ld:List fD) (i:Nat) (v:aC) (x x':aF) (h:Ml B b2 b3 so sn sc at_ lo hiv z lt ld i v x) (hb:Below x.heap.size x x'):Ml B b2 b3 so sn sc at_ lo hiv z lt ld i v x':=by
 by_cases hi:i<16
 ·rcases (by omega:i=0\/i=1\/i=2\/i=3\/i=4\/i=5\/i=6\/i=7\/i=8\/i=9\/i=10\/i=11\/i=12\/i=13\/i=14\/i=15) with rfl|rfl|rfl|rfl|rfl|rfl|rfl|rfl|rfl|rfl|rfl|rfl|rfl|rfl|rfl|rfl
  ·obtain⟨g,h1,h2,h3⟩:=h;exact⟨g,h1,h2,h3.on hb⟩
  ·exact h
  ·exact h
  ·exact h
  ·exact h
  ·exact dI h hb
  ·exact h
  ·exact h
  ·exact dI h hb
  ·exact dI h hb
  ·exact h
  ·exact h
  ·exact h
  ·exact h
  ·exact dI h hb
  ·exact h
 ·unfold Ml
  split <;> first | omega | trivial
theorem agU (Q:Exit->bK->aF->Prop) (W:aF) (b2 b3:Nat) (me:Int) (y1 y2 y4 y5:aC) (so:Option bJ) (sn sc at_:Nat) (l:List fD) (z:fD) (u0 u1 u4 u5 u7 u8 u9 u10 u11 u12 u13 u14 u15 u16 u17 u18 u19 u20 u21 u22 u23 u24 u25 u26 u27 u28 u29 u30 u31 u32 u33 u34 u35 u36 u37 u38 u39 u40 u41 u42 u43 u44 u45 u46 u47 u48 u49 u50 u51 u52 u53 u54 u55 u56 u57 u58 u59 u60 u61 u62 u63 u64 u65 u66 u67 u68 u69 u70 u71 u72 u73 u74 u75 u76 u77 u78:aC)
  (h2:dJ W b2 #[aK aH me,y1,y2,aA so sn sc,y4,y5] 28) (hx:∀ x,Below W.heap.size W x->∀ j u,(jO z)[j]?=X u->x.cell? ((⟨b3,0,ah⟩:bJ).add j)=X u) (hs:uY W (aA so sn sc) l) (hat:at_<=l.length) (hlen:l.length<=900)
  (hQ:∀ (x:aF) (v29 v30 v31 v32 v33 v34 v35 v36 v37 v38 v39 v40 v41 v42 v43 v44:aC),dJ x b2 #[aK aH me,y1,y2,v43,y4,y5] 28->rW x W.heap.size v43 (l.take at_++[z]++l.drop at_)->(∀ B,B<=b2->Below B W x)->(∀ c cs t,c≠b2->dJ W c cs t->dJ x c cs t)->(∀ k,k<W.heap.size->k≠b2->x.heap[k]?=W.heap[k]?)->Q .normal ⟨(u0::u1::O (X ⟨b2,0,ah⟩)::O (X ⟨b3,0,ah⟩)::u4::u5::aK aH (at_:Int)::u7::u8::u9::u10::u11::u12::u13::u14::u15::u16::u17::u18::u19::u20::u21::u22::u23::u24::u25::u26::u27::u28::v29::v30::v31::v32::v33::v34::v35::v36::v37::v38::v39::v40::v41::v42::v43::v44::u45::u46::u47::u48::u49::u50::u51::u52::u53::u54::u55::u56::u57::u58::u59::u60::u61::u62::u63::u64::u65::u66::u67::u68::u69::u70::u71::u72::u73::u74::u75::u76::u77::u78::[]).toArray,[]⟩ x) :
  Code.wp aJ Zk Q ⟨(u0::u1::O (X ⟨b2,0,ah⟩)::O (X ⟨b3,0,ah⟩)::u4::u5::aK aH (at_:Int)::u7::u8::u9::u10::u11::u12::u13::u14::u15::u16::u17::u18::u19::u20::u21::u22::u23::u24::u25::u26::u27::u28::u29::u30::u31::u32::u33::u34::u35::u36::u37::u38::u39::u40::u41::u42::u43::u44::u45::u46::u47::u48::u49::u50::u51::u52::u53::u54::u55::u56::u57::u58::u59::u60::u61::u62::u63::u64::u65::u66::u67::u68::u69::u70::u71::u72::u73::u74::u75::u76::u77::u78::[]).toArray,[]⟩ W:=by
 have HQ:=Y hQ;have H2:=Y h2;have LX:=Y hx;obtain⟨lo,Cj,vN⟩:=uX Ca hs at_ (by omega);obtain⟨hiv,Ck,xg⟩:=p9 Ca hs (at_) hat;have LT:=Y (show (l.take at_).length<=1000 by rw [aG]; omega);have RS:=Y (show (l.take at_).length<=900 by rw [aG]; omega);have LD:=Y (show (l.drop (at_)).length<=1000 by rw [aW]; omega);generalize l.take at_=lt at *;generalize l.drop (at_)=ld at *;have SL:=Y Cj;have SH:=Y Ck;have RL:=Y vN;have RH:=Y xg;clear hQ h2 hx hs Cj Ck vN xg hat hlen;have iT:=R8 W.heap.size b2 b3 so sn sc at_ lo hiv z lt ld;unfold Zk
 conv=>arg 2; whnf
 have nd:∀ j,(j<29\/45<=j)->∀ i,i<16->(fun i=>29+i) i≠j:=by
  intro j hj i hi h;simp only at h;omega
 refine Rg.fT 17 16 (fun i=>29+i) (fun i=>if i=0 then 5 else if i=5 then 9 else if i=8 then 9 else if i=9 then 14 else 16) (Ml W.heap.size b2 b3 so sn sc at_ lo hiv z lt ld) (by kernel_rfl) (by kernel_rfl) rfl (by decide) (fun i j _ _ h=>by have h2:29+i=29+j:=h; omega) (fun i hi=>by show 29+i<79; omega) ?_ (fun _=>Rg.jk 1 (by kernel_rfl)) (fun kk o h1 h2=>by omega) ?_
 ·intro i o hi ho a x D hnd hc hD hb seen K hK;clear HQ;rcases (by omega:i=0\/i=1\/i=2\/i=3\/i=4\/i=5\/i=6\/i=7\/i=8\/i=9\/i=10\/i=11\/i=12\/i=13\/i=14\/i=15) with rfl|rfl|rfl|rfl|rfl|rfl|rfl|rfl|rfl|rfl|rfl|rfl|rfl|rfl|rfl|rfl
  ·cases ho;exact au rfl rfl (bL a.eval _ 24 0 #[] rfl rfl (by simp [go_sem])) (hK (aA (X ⟨x.heap.size,0,ah⟩) 0 0) (x.alloc (.cells #[] 31)) ⟨x.heap.size,rfl,hb.size,dO x #[] 31⟩ ((J _ _).alloc hb.size _) fun j u _ _ _ _ _ h=>iT j u _ _ h ((J _ _).alloc (aR _) _))
  ·cases ho;have e2:a.eval (U 2)=O (X ⟨b2,0,ah⟩):=seen.kp 2 _ (nd 2 (by omega)) rfl;exact au rfl rfl (bf a.eval _ 28 (U 2) 3 rfl (by rw [e2]; simp [go_sem])) (hK _ _ rfl (J _ _) fun _ _ _ _ _ _ _ h=>h)
  ·cases ho;have e30:a.eval (U 30)=O (X ⟨b2,3,ah⟩):=seen.at_ ⟨1,.data⟩ (by simp) rfl (aB (by decide));have y:=(H2.out.on hb).cell 3;simp only [Z,aj,ak] at y;exact au rfl rfl (bG a.eval _ 24 (U 30) rfl (by rw [e30]; simp [go_sem,y])) (hK _ _ rfl (J _ _) fun _ _ _ _ _ _ _ h=>h)
  ·cases ho;have e6:a.eval (U 6)=aK aH (at_:Int):=seen.kp 6 _ (nd 6 (by omega)) rfl;exact au rfl rfl (bM a.eval _ (U 6) rfl x) (hK _ _ e6 (J _ _) fun _ _ _ _ _ _ _ h=>h)
  ·cases ho;have e31:a.eval (U 31)=aA so sn sc:=seen.at_ ⟨2,.data⟩ (by simp) rfl (aB (by decide));have e32:a.eval (U 32)=aK aH (at_:Int):=seen.at_ ⟨3,.data⟩ (by simp) rfl (aB (by decide));exact au rfl rfl (bN a.eval _ 24 (U 31) ah (X (U 32)) ah rfl (by show (aN 24 (a.eval (U 31)) ah (X (a.eval (U 32))) ah).run aJ x=.ok lo x; rw [e31,e32]; exact SL.out x)) (hK _ _ rfl (J _ _) fun _ _ _ _ _ _ _ h=>h)
  ·cases ho;obtain⟨g,q0,hBg,hbx⟩:=seen.at_ ⟨0,.data⟩ (by simp) rfl (aS rfl);have q0:a.eval (U 29)=aA (X ⟨g,0,ah⟩) 0 0:=q0;have e33:a.eval (U 33)=lo:=seen.at_ ⟨4,.data⟩ (by simp) rfl (aB (by decide));obtain⟨v',x',r,o',gr⟩:=jc Ca W.heap.size hbx hBg (RL.out.on hb) LT.out 24;exact au rfl rfl (bH a.eval _ (U 29) (U 33) 24 rfl q0 e33 r) (hK v' x' o' (gr.mono hb.size) fun j u _ _ _ _ _ h=>iT j u _ _ h gr)
  ·cases ho;have e3:a.eval (U 3)=O (X ⟨b3,0,ah⟩):=seen.kp 3 _ (nd 3 (by omega)) rfl;exact au rfl rfl (bf a.eval _ 74 (U 3) 0 rfl (by rw [e3]; simp [go_sem])) (hK _ _ rfl (J _ _) fun _ _ _ _ _ _ _ h=>h)
  ·cases ho;have e35:a.eval (U 35)=O (X ⟨b3,0,ah⟩):=seen.at_ ⟨6,.data⟩ (by simp) rfl (aB (by decide));exact au rfl rfl (bG a.eval _ 31 (U 35) rfl (by rw [e35]; exact CX x _ z (LX.out x hb))) (hK _ _ rfl (J _ _) fun _ _ _ _ _ _ _ h=>h)
  ·cases ho;have e36:a.eval (U 36)=Ro z:=seen.at_ ⟨7,.data⟩ (by simp) rfl (aB (by decide));have hl:=iN Ca x [z] 1 rfl (by simp) (jO z).toArray (by simp [flat,EJ]);have hl:rW (x.alloc (.cells (jO z).toArray 31)) x.heap.size (aA (X ⟨x.heap.size,0,ah⟩) 1 1) [z]:=hl;exact au rfl rfl (bL a.eval _ 24 1 #[(0,U 36)] rfl (ps:=#[(0,Ro z)]) (by simp [e36]) (by simp [go_sem])) (hK (aA (X ⟨x.heap.size,0,ah⟩) 1 1) (x.alloc (.cells (jO z).toArray 31)) (dN hl hb.size) ((J _ _).alloc hb.size _) fun j u _ _ _ _ _ h=>iT j u _ _ h ((J _ _).alloc (aR _) _))
  ·cases ho;have o34:rW x W.heap.size (a.eval (U 34)) (lt):=seen.at_ ⟨5,.data⟩ (by simp) rfl (aS rfl);have o37:rW x W.heap.size (a.eval (U 37)) ([z]):=seen.at_ ⟨8,.data⟩ (by simp) rfl (aS rfl);have ox:=Row.dH o37;obtain⟨v',x',r,o',gr⟩:=gI Ca W.heap.size o34 ox (by have:=LT.out; omega) (by simp) hb.size 24;exact au rfl rfl (bH a.eval _ (U 34) (U 37) 24 rfl rfl rfl r) (hK v' x' o' ((J _ x).grown gr hb.size fun j hj=>(o34.lt j hj).1) fun j u hj dj nl nx ni h=>by
    rcases (by omega:j=0\/j=1\/j=2\/j=3\/j=4\/j=5\/j=6\/j=7\/j=8\/j=9\/j=10\/j=11\/j=12\/j=13\/j=14\/j=15) with rfl|rfl|rfl|rfl|rfl|rfl|rfl|rfl|rfl|rfl|rfl|rfl|rfl|rfl|rfl|rfl
    ·exact absurd rfl (fun _:(0:Nat)=0=>nl (hc 5 _ (hD ⟨5,.data⟩ (by simp) rfl) rfl ⟨0,.data⟩ (by simp) rfl |> fun _=>hD ⟨5,.data⟩ (by simp) rfl))
    ·exact h
    ·exact h
    ·exact h
    ·exact h
    ·exact absurd rfl (fun _:(0:Nat)=0=>nx rfl)
    ·exact h
    ·exact h
    ·exact absurd rfl (fun _:(0:Nat)=0=>nx rfl)
    ·exact absurd rfl (fun _:(0:Nat)=0=>ni rfl)
    ·exact h
    ·exact h
    ·exact h
    ·exact h
    ·exact absurd rfl (fun _:(0:Nat)=0=>hnd (hc 14 _ dj rfl ⟨9,.data⟩ (by simp) rfl))
    ·exact h)
  ·cases ho;have e2:a.eval (U 2)=O (X ⟨b2,0,ah⟩):=seen.kp 2 _ (nd 2 (by omega)) rfl;exact au rfl rfl (bf a.eval _ 28 (U 2) 3 rfl (by rw [e2]; simp [go_sem])) (hK _ _ rfl (J _ _) fun _ _ _ _ _ _ _ h=>h)
  ·cases ho;have e39:a.eval (U 39)=O (X ⟨b2,3,ah⟩):=seen.at_ ⟨10,.data⟩ (by simp) rfl (aB (by decide));have y:=(H2.out.on hb).cell 3;simp only [Z,aj,ak] at y;exact au rfl rfl (bG a.eval _ 24 (U 39) rfl (by rw [e39]; simp [go_sem,y])) (hK _ _ rfl (J _ _) fun _ _ _ _ _ _ _ h=>h)
  ·cases ho;have e6:a.eval (U 6)=aK aH (at_:Int):=seen.kp 6 _ (nd 6 (by omega)) rfl;exact au rfl rfl (bM a.eval _ (U 6) rfl x) (hK _ _ e6 (J _ _) fun _ _ _ _ _ _ _ h=>h)
  ·cases ho;have e40:a.eval (U 40)=aA so sn sc:=seen.at_ ⟨11,.data⟩ (by simp) rfl (aB (by decide));have e41:a.eval (U 41)=aK aH (at_:Int):=seen.at_ ⟨12,.data⟩ (by simp) rfl (aB (by decide));exact au rfl rfl (bN a.eval _ 24 (U 40) (X (U 41)) ah ah rfl (by show (aN 24 (a.eval (U 40)) (X (a.eval (U 41))) ah ah).run aJ x=.ok hiv x; rw [e40,e41]; exact SH.out x)) (hK _ _ rfl (J _ _) fun _ _ _ _ _ _ _ h=>h)
  ·cases ho;have o38:rW x W.heap.size (a.eval (U 38)) ((lt++[z])):=seen.at_ ⟨9,.data⟩ (by simp) rfl (aS rfl);have e42:a.eval (U 42)=hiv:=seen.at_ ⟨13,.data⟩ (by simp) rfl (aB (by decide));have ox:uY x (a.eval (U 42)) ld:=by rw [e42]; exact RH.out.on hb
   obtain⟨v',x',r,o',gr⟩:=gI Ca W.heap.size o38 ox (by have:=RS.out; rw [aU,aQ]; omega) LD.out hb.size 24;exact au rfl rfl (bH a.eval _ (U 38) (U 42) 24 rfl rfl rfl r) (hK v' x' o' ((J _ x).grown gr hb.size fun j hj=>(o38.lt j hj).1) fun j u hj dj nl nx ni h=>by
    rcases (by omega:j=0\/j=1\/j=2\/j=3\/j=4\/j=5\/j=6\/j=7\/j=8\/j=9\/j=10\/j=11\/j=12\/j=13\/j=14\/j=15) with rfl|rfl|rfl|rfl|rfl|rfl|rfl|rfl|rfl|rfl|rfl|rfl|rfl|rfl|rfl|rfl
    ·exact absurd rfl (fun _:(0:Nat)=0=>nl (hc 9 _ (hD ⟨9,.data⟩ (by simp) rfl) rfl ⟨5,.data⟩ (by simp) rfl))
    ·exact h
    ·exact h
    ·exact h
    ·exact h
    ·exact absurd rfl (fun _:(0:Nat)=0=>nl (hD ⟨9,.data⟩ (by simp) rfl))
    ·exact h
    ·exact h
    ·exact absurd rfl (fun _:(0:Nat)=0=>nl (hD ⟨9,.data⟩ (by simp) rfl))
    ·exact absurd rfl (fun _:(0:Nat)=0=>nx rfl)
    ·exact h
    ·exact h
    ·exact h
    ·exact h
    ·exact absurd rfl (fun _:(0:Nat)=0=>ni rfl)
    ·exact h)
  ·cases ho;have e2:a.eval (U 2)=O (X ⟨b2,0,ah⟩):=seen.kp 2 _ (nd 2 (by omega)) rfl;exact au rfl rfl (bf a.eval _ 28 (U 2) 3 rfl (by rw [e2]; simp [go_sem])) (hK _ _ rfl (J _ _) fun _ _ _ _ _ _ _ h=>h)
 ·intro a w' df sz kp ⟨vs,hv⟩ hb;have gr:a.tmps[43]?=X (vs 14):=(hv 14 (by omega)).1;have gp:a.tmps[44]?=X (O (X ⟨b2,3,ah⟩)):=by
   have h:vs 15=O (X ⟨b2,3,ah⟩):=(hv 15 (by omega)).2 (by decide);rw [<- h];exact (hv 15 (by omega)).1
  have oR:rW w' W.heap.size (vs 14) (lt++[z]++ld):=(hv 14 (by omega)).2 (by decide);generalize vs 14=xR at *;obtain⟨ca,cp,eR⟩:=(Row.dH oR).len;have hbx:=H2.out.on hb;have hblt:=H2.out.lt;have c5:=hbx.cell 3;have f5:=hbx.fr 3;simp only [Z,aj,ak] at c5;have hb1:=dR (k:=3) hbx xR;show bQ _ _ _ 1 16 a w';simp only [bQ];refine Rg.fQ 24 (U 44) (U 43) rfl rfl rfl rfl (bR gp) (bR gr) (w':=w'.setCell ⟨b2,3,ah⟩ xR) (by rw [eR]; simp [go_sem,c5,f5]) ?_;have rA:∀ j,(j<29\/45<=j)->a.tmps[j]?=(u0::u1::O (X ⟨b2,0,ah⟩)::O (X ⟨b3,0,ah⟩)::u4::u5::aK aH (at_:Int)::u7::u8::u9::u10::u11::u12::u13::u14::u15::u16::u17::u18::u19::u20::u21::u22::u23::u24::u25::u26::u27::u28::u29::u30::u31::u32::u33::u34::u35::u36::u37::u38::u39::u40::u41::u42::u43::u44::u45::u46::u47::u48::u49::u50::u51::u52::u53::u54::u55::u56::u57::u58::u59::u60::u61::u62::u63::u64::u65::u66::u67::u68::u69::u70::u71::u72::u73::u74::u75::u76::u77::u78::[])[j]?:=fun j hj=>(kp j (nd j hj)).trans Z;obtain⟨mid,hmid,rfl⟩:=Rg.gG 29 16 df sz (by simp) rA
  match mid,hmid with
  | [v29,v30,v31,v32,v33,v34,v35,v36,v37,v38,v39,v40,v41,v42,v43,v44],_ =>
   have e1:X v43=X xR:=gr;obtain rfl:=aI e1;refine HQ.out _ v29 v30 v31 v32 v33 v34 v35 v36 v37 v38 v39 v40 v41 v42 v43 v44 ?_ ?_ ?_ ?_ ?_
   ·simpa using hb1
   ·exact eO oR b2 3 _ hblt
   ·exact fun B hB=>(hb.mono (bg (aV hB hblt))).setCell hB _
   ·intro c cs t hc hbc;exact (ay _ _ _ _ hc).trans (hbc.on hb)
   ·intro k hk hne;exact (ay _ _ _ _ hne).trans (hb.block k hk)
def Ez (B b2 _b3:Nat) (so:Option bJ) (sn sc at_:Nat) (lo hiv:aC) (z:jI) (lt ld:List jI) (i:Nat) (v:aC) (x:aF):Prop :=
 match i with
 | 0=>∃ g,v=aA (X ⟨g,0,ah⟩) 0 0/\B<=g/\dJ x g #[] 74
 | 1=>v=O (X ⟨b2,2,ah⟩)
 | 2=>v=aA so sn sc
 | 3=>v=aK aH (at_:Int)
 | 4=>v=lo
 | 5=>lN x B v lt
 | 6=>v=mY z
 | 7=>lN x B v [z]
 | 8=>lN x B v (lt++[z])
 | 9=>v=O (X ⟨b2,2,ah⟩)
 | 10=>v=aA so sn sc
 | 11=>v=aK aH (at_:Int)
 | 12=>v=hiv
 | 13=>lN x B v (lt++[z]++ld)
 | 14=>v=O (X ⟨b2,2,ah⟩)
 | _=>True
noncomputable def R9:Code:=((Tryz.f45.body.bind (eT 10)).getD .skip)
theorem PI (B b2 b3:Nat) (so:Option bJ) (sn sc at_:Nat) (lo hiv:aC) (z:jI) (lt ld:List jI) (i:Nat) (v:aC) (x x':aF) (h:Ez B b2 b3 so sn sc at_ lo hiv z lt ld i v x) (hb:Below x.heap.size x x'):Ez B b2 b3 so sn sc at_ lo hiv z lt ld i v x':=by
 by_cases hi:i<15
 ·rcases (by omega:i=0\/i=1\/i=2\/i=3\/i=4\/i=5\/i=6\/i=7\/i=8\/i=9\/i=10\/i=11\/i=12\/i=13\/i=14) with rfl|rfl|rfl|rfl|rfl|rfl|rfl|rfl|rfl|rfl|rfl|rfl|rfl|rfl|rfl
  ·obtain⟨g,h1,h2,h3⟩:=h;exact⟨g,h1,h2,h3.on hb⟩
  ·exact h
  ·exact h
  ·exact h
  ·exact h
  ·exact dI h hb
  ·exact h
  ·exact dI h hb
  ·exact dI h hb
  ·exact h
  ·exact h
  ·exact h
  ·exact h
  ·exact dI h hb
  ·exact h
 ·unfold Ez
  split <;> first | omega | trivial
theorem aef (Q:Exit->bK->aF->Prop) (W:aF) (b2 b3:Nat) (me:Int) (y1 y3 y4 y5:aC) (so:Option bJ) (sn sc at_:Nat) (l:List jI) (z:jI) (u0 u1 u4 u5 u7 u8 u9 u10 u11 u12 u13 u14 u15 u16 u17 u18 u19 u20 u21 u22 u23 u24 u25 u26 u27 u28 u29 u30 u31 u32 u33 u34 u35 u36 u37 u38 u39 u40 u41 u42 u43 u44 u45 u46 u47 u48 u49 u50 u51 u52 u53 u54 u55 u56 u57 u58 u59 u60 u61 u62 u63 u64 u65 u66 u67 u68 u69 u70 u71 u72 u73 u74 u75 u76 u77 u78:aC)
  (h2:dJ W b2 #[aK aH me,y1,aA so sn sc,y3,y4,y5] 28) (hx:∀ x,Below W.heap.size W x->∀ j u,(cellsD z)[j]?=X u->x.cell? ((⟨b3,0,ah⟩:bJ).add j)=X u) (hs:vT W (aA so sn sc) l) (hat:at_<=l.length) (hlen:l.length<=900)
  (hQ:∀ (x:aF) (v63 v64 v65 v66 v67 v68 v69 v70 v71 v72 v73 v74 v75 v76 v77:aC),dJ x b2 #[aK aH me,y1,v76,y3,y4,y5] 28->lN x W.heap.size v76 (l.take at_++[z]++l.drop at_)->(∀ B,B<=b2->Below B W x)->(∀ c cs t,c≠b2->dJ W c cs t->dJ x c cs t)->(∀ k,k<W.heap.size->k≠b2->x.heap[k]?=W.heap[k]?)->Q .normal ⟨(u0::u1::O (X ⟨b2,0,ah⟩)::O (X ⟨b3,0,ah⟩)::u4::u5::aK aH (at_:Int)::u7::u8::u9::u10::u11::u12::u13::u14::u15::u16::u17::u18::u19::u20::u21::u22::u23::u24::u25::u26::u27::u28::u29::u30::u31::u32::u33::u34::u35::u36::u37::u38::u39::u40::u41::u42::u43::u44::u45::u46::u47::u48::u49::u50::u51::u52::u53::u54::u55::u56::u57::u58::u59::u60::u61::u62::v63::v64::v65::v66::v67::v68::v69::v70::v71::v72::v73::v74::v75::v76::v77::u78::[]).toArray,[]⟩ x) :
  Code.wp aJ R9 Q ⟨(u0::u1::O (X ⟨b2,0,ah⟩)::O (X ⟨b3,0,ah⟩)::u4::u5::aK aH (at_:Int)::u7::u8::u9::u10::u11::u12::u13::u14::u15::u16::u17::u18::u19::u20::u21::u22::u23::u24::u25::u26::u27::u28::u29::u30::u31::u32::u33::u34::u35::u36::u37::u38::u39::u40::u41::u42::u43::u44::u45::u46::u47::u48::u49::u50::u51::u52::u53::u54::u55::u56::u57::u58::u59::u60::u61::u62::u63::u64::u65::u66::u67::u68::u69::u70::u71::u72::u73::u74::u75::u76::u77::u78::[]).toArray,[]⟩ W:=by
 have HQ:=Y hQ;have H2:=Y h2;have LX:=Y hx;obtain⟨lo,Cj,vN⟩:=uX okD hs at_ (by omega);obtain⟨hiv,Ck,xg⟩:=p9 okD hs (at_) hat;have LT:=Y (show (l.take at_).length<=1000 by rw [aG]; omega);have RS:=Y (show (l.take at_).length<=900 by rw [aG]; omega);have LD:=Y (show (l.drop (at_)).length<=1000 by rw [aW]; omega);generalize l.take at_=lt at *;generalize l.drop (at_)=ld at *;have SL:=Y Cj;have SH:=Y Ck;have RL:=Y vN;have RH:=Y xg;clear hQ h2 hx hs Cj Ck vN xg hat hlen;have iT:=PI W.heap.size b2 b3 so sn sc at_ lo hiv z lt ld;unfold R9
 conv=>arg 2; whnf
 have nd:∀ j,(j<63\/78<=j)->∀ i,i<15->(fun i=>63+i) i≠j:=by
  intro j hj i hi h;simp only at h;omega
 refine Rg.fT 16 15 (fun i=>63+i) (fun i=>if i=0 then 5 else if i=5 then 8 else if i=7 then 8 else if i=8 then 13 else 15) (Ez W.heap.size b2 b3 so sn sc at_ lo hiv z lt ld) (by kernel_rfl) (by kernel_rfl) rfl (by decide) (fun i j _ _ h=>by have h2:63+i=63+j:=h; omega) (fun i hi=>by show 63+i<79; omega) ?_ (fun _=>Rg.jk 1 (by kernel_rfl)) (fun kk o h1 h2=>by omega) ?_
 ·intro i o hi ho a x D hnd hc hD hb seen K hK;clear HQ;rcases (by omega:i=0\/i=1\/i=2\/i=3\/i=4\/i=5\/i=6\/i=7\/i=8\/i=9\/i=10\/i=11\/i=12\/i=13\/i=14) with rfl|rfl|rfl|rfl|rfl|rfl|rfl|rfl|rfl|rfl|rfl|rfl|rfl|rfl|rfl
  ·cases ho;exact au rfl rfl (bL a.eval _ 23 0 #[] rfl rfl (by simp [go_sem])) (hK (aA (X ⟨x.heap.size,0,ah⟩) 0 0) (x.alloc (.cells #[] 74)) ⟨x.heap.size,rfl,hb.size,dO x #[] 74⟩ ((J _ _).alloc hb.size _) fun j u _ _ _ _ _ h=>iT j u _ _ h ((J _ _).alloc (aR _) _))
  ·cases ho;have e2:a.eval (U 2)=O (X ⟨b2,0,ah⟩):=seen.kp 2 _ (nd 2 (by omega)) rfl;exact au rfl rfl (bf a.eval _ 28 (U 2) 2 rfl (by rw [e2]; simp [go_sem])) (hK _ _ rfl (J _ _) fun _ _ _ _ _ _ _ h=>h)
  ·cases ho;have e64:a.eval (U 64)=O (X ⟨b2,2,ah⟩):=seen.at_ ⟨1,.data⟩ (by simp) rfl (aB (by decide));have y:=(H2.out.on hb).cell 2;simp only [Z,aj,ak] at y;exact au rfl rfl (bG a.eval _ 23 (U 64) rfl (by rw [e64]; simp [go_sem,y])) (hK _ _ rfl (J _ _) fun _ _ _ _ _ _ _ h=>h)
  ·cases ho;have e6:a.eval (U 6)=aK aH (at_:Int):=seen.kp 6 _ (nd 6 (by omega)) rfl;exact au rfl rfl (bM a.eval _ (U 6) rfl x) (hK _ _ e6 (J _ _) fun _ _ _ _ _ _ _ h=>h)
  ·cases ho;have e65:a.eval (U 65)=aA so sn sc:=seen.at_ ⟨2,.data⟩ (by simp) rfl (aB (by decide));have e66:a.eval (U 66)=aK aH (at_:Int):=seen.at_ ⟨3,.data⟩ (by simp) rfl (aB (by decide));exact au rfl rfl (bN a.eval _ 23 (U 65) ah (X (U 66)) ah rfl (by show (aN 23 (a.eval (U 65)) ah (X (a.eval (U 66))) ah).run aJ x=.ok lo x; rw [e65,e66]; exact SL.out x)) (hK _ _ rfl (J _ _) fun _ _ _ _ _ _ _ h=>h)
  ·cases ho;obtain⟨g,q0,hBg,hbx⟩:=seen.at_ ⟨0,.data⟩ (by simp) rfl (aS rfl);have q0:a.eval (U 63)=aA (X ⟨g,0,ah⟩) 0 0:=q0;have e67:a.eval (U 67)=lo:=seen.at_ ⟨4,.data⟩ (by simp) rfl (aB (by decide));obtain⟨v',x',r,o',gr⟩:=jc okD W.heap.size hbx hBg (RL.out.on hb) LT.out 23;exact au rfl rfl (bH a.eval _ (U 63) (U 67) 23 rfl q0 e67 r) (hK v' x' o' (gr.mono hb.size) fun j u _ _ _ _ _ h=>iT j u _ _ h gr)
  ·cases ho;have e3:a.eval (U 3)=O (X ⟨b3,0,ah⟩):=seen.kp 3 _ (nd 3 (by omega)) rfl;exact au rfl rfl (bG a.eval _ 74 (U 3) rfl (by rw [e3]; exact Rp x _ z (LX.out x hb))) (hK _ _ rfl (J _ _) fun _ _ _ _ _ _ _ h=>h)
  ·cases ho;have e69:a.eval (U 69)=mY z:=seen.at_ ⟨6,.data⟩ (by simp) rfl (aB (by decide));have hl:=iN okD x [z] 1 rfl (by simp) (cellsD z).toArray (by simp [flat,ED]);have hl:lN (x.alloc (.cells (cellsD z).toArray 74)) x.heap.size (aA (X ⟨x.heap.size,0,ah⟩) 1 1) [z]:=hl;exact au rfl rfl (bL a.eval _ 23 1 #[(0,U 69)] rfl (ps:=#[(0,mY z)]) (by simp [e69]) (by simp [go_sem])) (hK (aA (X ⟨x.heap.size,0,ah⟩) 1 1) (x.alloc (.cells (cellsD z).toArray 74)) (dN hl hb.size) ((J _ _).alloc hb.size _) fun j u _ _ _ _ _ h=>iT j u _ _ h ((J _ _).alloc (aR _) _))
  ·cases ho;have o68:lN x W.heap.size (a.eval (U 68)) (lt):=seen.at_ ⟨5,.data⟩ (by simp) rfl (aS rfl);have o70:lN x W.heap.size (a.eval (U 70)) ([z]):=seen.at_ ⟨7,.data⟩ (by simp) rfl (aS rfl);have ox:=Row.dH o70;obtain⟨v',x',r,o',gr⟩:=gI okD W.heap.size o68 ox (by have:=LT.out; omega) (by simp) hb.size 23;exact au rfl rfl (bH a.eval _ (U 68) (U 70) 23 rfl rfl rfl r) (hK v' x' o' ((J _ x).grown gr hb.size fun j hj=>(o68.lt j hj).1) fun j u hj dj nl nx ni h=>by
    rcases (by omega:j=0\/j=1\/j=2\/j=3\/j=4\/j=5\/j=6\/j=7\/j=8\/j=9\/j=10\/j=11\/j=12\/j=13\/j=14) with rfl|rfl|rfl|rfl|rfl|rfl|rfl|rfl|rfl|rfl|rfl|rfl|rfl|rfl|rfl
    ·exact absurd rfl (fun _:(0:Nat)=0=>nl (hc 5 _ (hD ⟨5,.data⟩ (by simp) rfl) rfl ⟨0,.data⟩ (by simp) rfl |> fun _=>hD ⟨5,.data⟩ (by simp) rfl))
    ·exact h
    ·exact h
    ·exact h
    ·exact h
    ·exact absurd rfl (fun _:(0:Nat)=0=>nx rfl)
    ·exact h
    ·exact absurd rfl (fun _:(0:Nat)=0=>nx rfl)
    ·exact absurd rfl (fun _:(0:Nat)=0=>ni rfl)
    ·exact h
    ·exact h
    ·exact h
    ·exact h
    ·exact absurd rfl (fun _:(0:Nat)=0=>hnd (hc 13 _ dj rfl ⟨8,.data⟩ (by simp) rfl))
    ·exact h)
  ·cases ho;have e2:a.eval (U 2)=O (X ⟨b2,0,ah⟩):=seen.kp 2 _ (nd 2 (by omega)) rfl;exact au rfl rfl (bf a.eval _ 28 (U 2) 2 rfl (by rw [e2]; simp [go_sem])) (hK _ _ rfl (J _ _) fun _ _ _ _ _ _ _ h=>h)
  ·cases ho;have e72:a.eval (U 72)=O (X ⟨b2,2,ah⟩):=seen.at_ ⟨9,.data⟩ (by simp) rfl (aB (by decide));have y:=(H2.out.on hb).cell 2;simp only [Z,aj,ak] at y;exact au rfl rfl (bG a.eval _ 23 (U 72) rfl (by rw [e72]; simp [go_sem,y])) (hK _ _ rfl (J _ _) fun _ _ _ _ _ _ _ h=>h)
  ·cases ho;have e6:a.eval (U 6)=aK aH (at_:Int):=seen.kp 6 _ (nd 6 (by omega)) rfl;exact au rfl rfl (bM a.eval _ (U 6) rfl x) (hK _ _ e6 (J _ _) fun _ _ _ _ _ _ _ h=>h)
  ·cases ho;have e73:a.eval (U 73)=aA so sn sc:=seen.at_ ⟨10,.data⟩ (by simp) rfl (aB (by decide));have e74:a.eval (U 74)=aK aH (at_:Int):=seen.at_ ⟨11,.data⟩ (by simp) rfl (aB (by decide));exact au rfl rfl (bN a.eval _ 23 (U 73) (X (U 74)) ah ah rfl (by show (aN 23 (a.eval (U 73)) (X (a.eval (U 74))) ah ah).run aJ x=.ok hiv x; rw [e73,e74]; exact SH.out x)) (hK _ _ rfl (J _ _) fun _ _ _ _ _ _ _ h=>h)
  ·cases ho;have o71:lN x W.heap.size (a.eval (U 71)) ((lt++[z])):=seen.at_ ⟨8,.data⟩ (by simp) rfl (aS rfl);have e75:a.eval (U 75)=hiv:=seen.at_ ⟨12,.data⟩ (by simp) rfl (aB (by decide));have ox:vT x (a.eval (U 75)) ld:=by rw [e75]; exact RH.out.on hb
   obtain⟨v',x',r,o',gr⟩:=gI okD W.heap.size o71 ox (by have:=RS.out; rw [aU,aQ]; omega) LD.out hb.size 23;exact au rfl rfl (bH a.eval _ (U 71) (U 75) 23 rfl rfl rfl r) (hK v' x' o' ((J _ x).grown gr hb.size fun j hj=>(o71.lt j hj).1) fun j u hj dj nl nx ni h=>by
    rcases (by omega:j=0\/j=1\/j=2\/j=3\/j=4\/j=5\/j=6\/j=7\/j=8\/j=9\/j=10\/j=11\/j=12\/j=13\/j=14) with rfl|rfl|rfl|rfl|rfl|rfl|rfl|rfl|rfl|rfl|rfl|rfl|rfl|rfl|rfl
    ·exact absurd rfl (fun _:(0:Nat)=0=>nl (hc 8 _ (hD ⟨8,.data⟩ (by simp) rfl) rfl ⟨5,.data⟩ (by simp) rfl))
    ·exact h
    ·exact h
    ·exact h
    ·exact h
    ·exact absurd rfl (fun _:(0:Nat)=0=>nl (hD ⟨8,.data⟩ (by simp) rfl))
    ·exact h
    ·exact absurd rfl (fun _:(0:Nat)=0=>nl (hD ⟨8,.data⟩ (by simp) rfl))
    ·exact absurd rfl (fun _:(0:Nat)=0=>nx rfl)
    ·exact h
    ·exact h
    ·exact h
    ·exact h
    ·exact absurd rfl (fun _:(0:Nat)=0=>ni rfl)
    ·exact h)
  ·cases ho;have e2:a.eval (U 2)=O (X ⟨b2,0,ah⟩):=seen.kp 2 _ (nd 2 (by omega)) rfl;exact au rfl rfl (bf a.eval _ 28 (U 2) 2 rfl (by rw [e2]; simp [go_sem])) (hK _ _ rfl (J _ _) fun _ _ _ _ _ _ _ h=>h)
 ·intro a w' df sz kp ⟨vs,hv⟩ hb;have gr:a.tmps[76]?=X (vs 13):=(hv 13 (by omega)).1;have gp:a.tmps[77]?=X (O (X ⟨b2,2,ah⟩)):=by
   have h:vs 14=O (X ⟨b2,2,ah⟩):=(hv 14 (by omega)).2 (by decide);rw [<- h];exact (hv 14 (by omega)).1
  have oR:lN w' W.heap.size (vs 13) (lt++[z]++ld):=(hv 13 (by omega)).2 (by decide);generalize vs 13=xR at *;obtain⟨ca,cp,eR⟩:=(Row.dH oR).len;have hbx:=H2.out.on hb;have hblt:=H2.out.lt;have c5:=hbx.cell 2;have f5:=hbx.fr 2;simp only [Z,aj,ak] at c5;have hb1:=dR (k:=2) hbx xR;show bQ _ _ _ 1 15 a w';simp only [bQ];refine Rg.fQ 23 (U 77) (U 76) rfl rfl rfl rfl (bR gp) (bR gr) (w':=w'.setCell ⟨b2,2,ah⟩ xR) (by rw [eR]; simp [go_sem,c5,f5]) ?_;have rA:∀ j,(j<63\/78<=j)->a.tmps[j]?=(u0::u1::O (X ⟨b2,0,ah⟩)::O (X ⟨b3,0,ah⟩)::u4::u5::aK aH (at_:Int)::u7::u8::u9::u10::u11::u12::u13::u14::u15::u16::u17::u18::u19::u20::u21::u22::u23::u24::u25::u26::u27::u28::u29::u30::u31::u32::u33::u34::u35::u36::u37::u38::u39::u40::u41::u42::u43::u44::u45::u46::u47::u48::u49::u50::u51::u52::u53::u54::u55::u56::u57::u58::u59::u60::u61::u62::u63::u64::u65::u66::u67::u68::u69::u70::u71::u72::u73::u74::u75::u76::u77::u78::[])[j]?:=fun j hj=>(kp j (nd j hj)).trans Z;obtain⟨mid,hmid,rfl⟩:=Rg.gG 63 15 df sz (by simp) rA
  match mid,hmid with
  | [v63,v64,v65,v66,v67,v68,v69,v70,v71,v72,v73,v74,v75,v76,v77],_ =>
   have e1:X v76=X xR:=gr;obtain rfl:=aI e1;refine HQ.out _ v63 v64 v65 v66 v67 v68 v69 v70 v71 v72 v73 v74 v75 v76 v77 ?_ ?_ ?_ ?_ ?_
   ·simpa using hb1
   ·exact eO oR b2 2 _ hblt
   ·exact fun B hB=>(hb.mono (bg (aV hB hblt))).setCell hB _
   ·intro c cs t hc hbc;exact (ay _ _ _ _ hc).trans (hbc.on hb)
   ·intro k hk hne;exact (ay _ _ _ _ hne).trans (hb.block k hk)
end Bk
namespace At
open Go.RowKit Va In
def nm (i:Nat):ByteArray:=⟨#[UInt8.ofNat (97+i)]⟩
def vP:Array aC:=#[aT ⟨#[97]⟩,aT ⟨#[98]⟩,aT ⟨#[99]⟩,aT ⟨#[100]⟩,aT ⟨#[101]⟩,aT ⟨#[102]⟩,aT ⟨#[103]⟩]
def sw (zs:List Int) (i:Nat):Int:=if zs=[] then 0 else zs.getD (i % zs.length) 0
def odd (z:Int):Bool:=bits BinOp.and aH z 1 == 1
end At
namespace At
open Go.RowKit Go.Sort Va In
end At
namespace At
open Go.RowKit Go.Sort Va In
def yM (c:UInt8):Bool:=decide (97<=c.toNat) && decide (c.toNat<=122)
def nM (s:ByteArray):Bool:=s.data.toList.all yM && (decide (1<=s.size) && decide (s.size<=12))
end At
namespace Wr
open YtmklifheakemeaaGreat.Nm At Pr
def PS (c:C5):Bool:=nM c.1 && (if c.2.1=1 then decide (c.2.2.2.2.size=0) && decide (c.2.2.1<=c.2.2.2.1) else if c.2.1=2 then decide (c.2.2.1=0) && (decide (c.2.2.2.1=0) && decide (c.2.2.2.2.size<=12)) else if c.2.1=3 then decide (c.2.2.1=0) && (decide (c.2.2.2.1=0) && decide (c.2.2.2.2.size<=11)) else aY)
def aeg (p x:C5):Bool:=Op.bytesLess p.1.toList x.1.toList
def Sc (l:List C5) (k:Nat):Bool:=match l[k]? with
 | some x=>PS x && (k == 0 || (match l[k-1]? with
  | some p=>aeg p x
  | none=>aL))
 | none=>aL
def jB (l:List C5):Bool:=(List.range l.length).all (Sc l) && decide (l.length<=5)
theorem Ki (l:List C5) (h:∀ j,j<l.length->Sc l j=aL):jB l=decide (l.length<=5):=by
 unfold jB;rw [aX.2 fun j hj=>h j (aZ.1 hj),Bool.true_and]
end Wr
namespace Pr
open Go.RowKit Go.Sort Pu Rw Va
def jv:List C5->List C5->Bool
 | [],[]=>aL
 | x::l,y::m=>yN x y && jv l m
 | _,_=>aY
theorem Da:∀ l m,jv l m=aL->l.length=m.length
 | [],[],_=>rfl
 | x::l,y::m,h=>by
  simp only [jv,aP] at h;simp [Da l m h.2]
 | [],y::m,h=>by simp [jv] at h
 | x::l,[],h=>by simp [jv] at h
theorem Db:∀ l m,l.length=m.length->(∀ (k:Nat) (x y:C5),l[k]?=X x->m[k]?=X y->yN x y=aL)->jv l m=aL
 | [],[],_,_=>rfl
 | x::l,y::m,hl,h=>by
  simp only [jv,aP];exact⟨h 0 x y rfl rfl,Db l m (by simpa using hl) (fun k a b ha hb=>h (k+1) a b (by simpa using ha) (by simpa using hb))⟩
 | [],y::m,hl,_=>by simp at hl
 | x::l,[],hl,_=>by simp at hl
theorem Dc:∀ (l m:List C5) (k:Nat) (x y:C5),l[k]?=X x->m[k]?=X y->yN x y=aY->jv l m=aY
 | [],_,k,x,y,h,_,_=>by simp at h
 | _::_,[],k,x,y,_,h,_=>by simp at h
 | a::l,b::m,0,x,y,h1,h2,h3=>by
  simp at h1 h2;subst h1 h2;simp [jv,h3]
 | a::l,b::m,k+1,x,y,h1,h2,h3=>by
  simp only [jv,Dc l m k x y (by simpa using h1) (by simpa using h2) h3,Bool.and_false]
theorem tO:∀ l m:List C5,jv l m=aL↔l=m
 | [],[]=>by simp [jv]
 | x::l,y::m=>by
  simp only [jv,aP,Gl,tO l m,List.cons.injEq]
 | [],y::m=>by simp [jv]
 | x::l,[]=>by simp [jv]
theorem xq (oL bv:aC) (l m:List C5) (w:aF) (ha:fH w oL l) (hb:fH w bv m) (hl:l.length<=1000000) (_hm:m.length<=1000000) :
  Calls aJ 27 #[oL,bv] w fun e w'=>e=.returned (.bool (jv l m))/\Below w.heap.size w w':=by
 have HA:=Y ha;have HB:=Y hb;obtain⟨ao,ac,rfl⟩:=ha.len;obtain⟨bo,bc,rfl⟩:=hb.len;clear ha hb;by_cases hlen:l.length=m.length
 ·have HL:=Y hlen;rw [<- hlen] at HB ⊢;generalize hn:l.length=n at *;have HN:=Y hn;clear hlen hn;go_enter bI,bF;go_wp2
  go_loopw [5] (fun i wr=>∃ k:Nat,k<=n/\i=aK aH k/\Below w.heap.size w wr/\∀ (j:Nat) (x y:C5),j<k->l[j]?=X x->m[j]?=X y->yN x y=aL) (fun i _=>n-(intOf i).toNat)
  case atStart=>exact⟨0,Nat.zero_le _,rfl,J _ _,fun j x y h=>by omega⟩
  case round =>
   obtain⟨k,hk,rfl,hbe,hall⟩:=hrel;have BE:=Y hbe;have AL:=Y hall;clear hbe hall;by_cases hlt:k<n
   ·obtain⟨x,hx⟩:∃ x,l[k]?=X x:=⟨_,aO (by rw [HN.out]; exact hlt)⟩;obtain⟨y,hy⟩:∃ y,m[k]?=X y:=⟨_,aO (by rw [<- HL.out]; exact hlt)⟩;obtain⟨p,ix,px⟩:=Xv HA.out rfl HN.out hx;obtain⟨q,iy,py⟩:=Xv HB.out rfl HL.out.symm hy;have p0:=cell_regrown (px _ BE.out).1;have p1:=cell_regrown (px _ BE.out).2.1;have p2:=cell_regrown (px _ BE.out).2.2.1;have p3:=cell_regrown (px _ BE.out).2.2.2.1;have p4:=cell_regrown (px _ BE.out).2.2.2.2;have q0:=cell_regrown (py _ BE.out).1;have q1:=cell_regrown (py _ BE.out).2.1;have q2:=cell_regrown (py _ BE.out).2.2.1;have q3:=cell_regrown (py _ BE.out).2.2.2.1;have q4:=cell_regrown (py _ BE.out).2.2.2.2;clear px py;obtain⟨r,hr⟩:∃ r,yN x y=r:=⟨_,rfl⟩;have hne:=agO x y r hr;have HX:=Y hx;have HY:=Y hy;have HR:=Y hr;clear hx hy hr;cases r
    ·have R:=Y (show jv l m=aY from Dc l m k x y HX.out HY.out HR.out);go_wp2;refine wp_region_quiet_below (by kernel_rfl) (by kernel_rfl) ?_
     repeat (go_big_quiet_step (fail))
     refine wpQuiet_nil ?_;intro _ hw';obtain⟨⟨dq,osq⟩,hw''⟩:=hw';subst hw'';go_wp2;go_ret;exact⟨eD R.out.symm,BE.out.trans ((below_regrown wr dq osq).mono BE.out.size)⟩
    ·go_wp2;refine wp_region_quiet_below (by kernel_rfl) (by kernel_rfl) ?_
     repeat (go_big_quiet_step (fail))
     refine wpQuiet_nil ?_;intro _ hw';obtain⟨⟨dq,osq⟩,hw''⟩:=hw';subst hw'';clear ix iy p0 p1 p2 p3 p4 q0 q1 q2 q3 q4 hne;go_wp2
     go_roundw
     case rel=>exact⟨k+1,by omega,by go_num,BE.out.trans ((below_regrown wr dq osq).mono BE.out.size),fun j x' y' hj h1 h2=>by
      rcases Nat.lt_or_ge j k with h3|h3
      ·exact AL.out j x' y' h3 h1 h2
      ·obtain rfl:j=k:=by omega
       have e1:=HX.out;have e2:=HY.out;rw [h1] at e1;rw [h2] at e2;rw [aI e1,aI e2];exact HR.out⟩
     case measure=>simp [intOf]; omega
   ·obtain rfl:k=n:=by omega
    have R:=Y (show jv l m=aL from Db l m (by rw [HN.out]; exact HL.out) (fun j a b h1 h2=>AL.out j a b (by have:=(aM.1 h1).1; have:=HN.out; omega) h1 h2));go_wp2;go_ret;exact⟨eD R.out.symm,BE.out⟩
 ·have R:=Y (show jv l m=aY by
   cases h:jv l m
   ·rfl
   ·exact absurd (Da _ _ h) hlen)
  have hne:(((l.length:Nat):Int) != ((m.length:Nat):Int))=aL:=by simp; omega
  have hne2:(((l.length:Nat):Int) == ((m.length:Nat):Int))=aY:=by simp; omega
  clear hlen;go_enter bI,bF;go_wp2;go_ret;exact⟨eD R.out.symm,J _ _⟩
end Pr
namespace Rg
open Go.RowKit
structure Zl (i N:Nat) (dst:Nat->Option Nat) (last:Nat->Nat) (V:Nat->aC->aF->Prop) (base:bK) (o:Oper) (a:bK) (w:aF):Prop where
 kp:∀ j u,(∀ k,k<N->dst k≠X j)->base.tmps[j]?=X u->a.eval (U j)=u
 at_:∀ e∈o.after,aD .any e=aL->(last e.on=i\/N<=last e.on)->∀ d,dst e.on=X d->V e.on (a.eval (U d)) w
 st:∀ e∈o.after,aD .any e=aL->(last e.on=i\/N<=last e.on)->∃ v,V e.on v w
theorem Df (a:bK) (d:Option Nat) (v:aC) (j:Nat) (hj:d≠X j):(a.put d v).tmps[j]?=a.tmps[j]?:=by
 cases d with
 | none=>rfl
 | some d=>exact get_put _ _ _ _ (fun e=>hj (by rw [e]))
theorem Sd (a:bK) (d:Option Nat) (v:aC):(a.put d v).tmps.size=a.tmps.size:=by
 cases d with
 | none=>rfl
 | some d=>exact size_put _ _ _
theorem put_defers (a:bK) (d:Option Nat) (v:aC):(a.put d v).defers=a.defers:=by
 cases d <;> rfl
structure PhD (l:List Oper) (N:Nat) (dst:Nat->Option Nat) (last:Nat->Nat) (V:Nat->aC->aF->Prop) (F:(Nat->Prop)->aF->Prop) (base:bK) (L:Array Bool) (a:bK) (x:aF):Prop where
 cl:∀ i o,done L i->l[i]?=X o->∀ e∈o.after,aD .any e=aL->done L e.on
 df:a.defers=base.defers
 sz:a.tmps.size=base.tmps.size
 kp:∀ j,(∀ i,i<N->dst i≠X j)->a.tmps[j]?=base.tmps[j]?
 fr:F (done L) x
 no:∀ i,N<=i->¬ done L i
 val:∃ vs:Nat->aC,∀ i,i<N->done L i->(∀ d,dst i=X d->a.tmps[d]?=X (vs i))/\(¬ done L (last i)->V i (vs i) x)
theorem pE {P:Program} {Q:Exit->bK->aF->Prop} {id:Nat} {base:bK} {w:aF} {l:List Oper} (N:Nat) (dst:Nat->Option Nat) (last:Nat->Nat) (V:Nat->aC->aF->Prop) (F:(Nat->Prop)->aF->Prop)
  (hm:P.follows .mixedOrders=aL) (hf:Pg l.toArray=aL) (hN:l.length=N) (hinj:∀ i j d,i<N->j<N->dst i=X d->dst j=X d->i=j) (hs:∀ i d,i<N->dst i=X d->d<base.tmps.size) (h0:F (fun _=>False) w.drew)
  (hop:∀ i o,i<N->l[i]?=X o->∀ a w' (D:Nat->Prop),¬ D i->(∀ j oj,D j->l[j]?=X oj->∀ e∈oj.after,aD .any e=aL->D e.on)->(∀ e∈o.after,aD .any e=aL->D e.on)->F D w'->Zl i N dst last V base o a w'->∀ K:bK->aF->Prop,(∀ v w'',V i v w''->F (fun j=>j=i\/D j) w''->(∀ j u,j<N->D j->¬ D (last j)->last j≠i->j≠i->V j u w'->V j u w'')->K (a.put (dst i) v) w'')->wpOp P l.toArray Q i K a w')
  (hend:∀ a w',a.defers=base.defers->a.tmps.size=base.tmps.size->(∀ j,(∀ i,i<N->dst i≠X j)->a.tmps[j]?=base.tmps[j]?)->(∃ vs:Nat->aC,∀ i,i<N->(∀ d,dst i=X d->a.tmps[d]?=X (vs i))/\(N<=last i->V i (vs i) w'))->(∃ D:Nat->Prop,(∀ i,i<N->D i)/\F D w')->Q .normal a w'):(Code.region id l.toArray aL).wp P Q base w:=by
 refine ru (fun L a x=>PhD l N dst last V F base L a x) hm hf ?_ ?_ ?_
 ·exact⟨fun i o h=>absurd h (gN _ _),rfl,rfl,fun _ _=>rfl,by rw [show done (Array.replicate l.length aY)=fun _=>False from funext fun i=>propext ⟨fun h=>gN _ _ h,False.elim⟩]; exact h0,fun i _=>gN _ _,fun _=>.bool aL,fun i _ h=>absurd h (gN _ _)⟩
 ·intro L a x i o hsz I ho hnd om;have hi:i<l.length:=(aM.1 ho).1;have Ch:i<L.size:=by omega
  have hiM:i<N:=by omega
  obtain⟨vs,q1⟩:=I.val;have hon:∀ e∈o.after,aD .any e=aL->e.on<N:=fun e he hb=>by
   have h7:=aX.1 hf i (aZ.2 (by simpa using hi));have ho':(l.toArray)[i]?=X o:=by simpa using ho
   rw [ho'] at h7;have h8:=Array.all_eq_true'.1 h7 e he;rw [hb] at h8;have:e.on<i:=by simpa using h8
   omega
  have lv:∀ e∈o.after,aD .any e=aL->(last e.on=i\/N<=last e.on)->V e.on (vs e.on) x:=fun e he hbd hl=>by
   refine (q1 e.on (hon e he hbd) (om e he hbd)).2 ?_;rcases hl with hl|hl
   ·rw [hl]; exact hnd
   ·exact I.no _ hl
  have seen:Zl i N dst last V base o a x:=⟨fun j u hj hu=>dM (by rw [I.kp j hj]; exact hu),fun e he hbd hl d hd=>by
   rw [dM ((q1 e.on (hon e he hbd) (om e he hbd)).1 d hd)];exact lv e he hbd hl,fun e he hbd hl=>⟨_,lv e he hbd hl⟩⟩
  refine hop i o hiM ho a x (done L) hnd I.cl om I.fr seen _ fun v w'' hvw hfw hpr=>?_;refine⟨fun k q hk hq e he hb=>?_,by rw [put_defers]; exact I.df,by rw [Sd]; exact I.sz,fun j hj=>?_,by rw [show done (L.setIfInBounds i aL)=fun j=>j=i\/done L j from funext fun j=>propext (iC Ch j)]; exact hfw,fun k hk hd=>?_,fun k=>if k=i then v else vs k,fun k XJ hk=>?_⟩
  ·rw [iC Ch] at hk ⊢;rcases hk with rfl|hk
   ·rw [hq] at ho;cases ho;exact aB (om e he hb)
   ·exact aB (I.cl k q hk hq e he hb)
  ·rw [Df _ _ _ _ (hj i hiM)];exact I.kp j hj
  ·rcases (iC Ch k).1 hd with h9|h9
   ·omega
   ·exact I.no k hk h9
  ·by_cases e:k=i
   ·subst e;simp only [if_true];refine⟨fun d hd=>?_,fun _=>hvw⟩;have h9:d<a.tmps.size:=by rw [I.sz]; exact hs k d XJ hd
    rw [hd];simp [Act.put,h9]
   ·simp only [if_neg e];rcases (iC Ch k).1 hk with h9|h9
    ·exact absurd h9 e
    ·obtain⟨p1,p2⟩:=q1 k XJ h9;refine⟨fun d hd=>?_,fun hn=>?_⟩
     ·rw [Df _ _ _ _ (fun h=>e (hinj k i d XJ hiM hd h))];exact p1 d hd
     ·have n1:last k≠i:=fun e3=>hn ((iC Ch _).2 (aS e3));have n2:¬ done L (last k):=fun e3=>hn ((iC Ch _).2 (aB e3));exact hpr k _ XJ h9 n2 n1 e (p2 n2)
 ·intro L a x I hd;obtain⟨vs,q1⟩:=I.val;exact hend a x I.df I.sz I.kp ⟨vs,fun k hk=>⟨(q1 k hk (hd k (by omega))).1,fun hl=>(q1 k hk (hd k (by omega))).2 (I.no _ hl)⟩⟩ ⟨done L,fun i hi=>hd i (by omega),I.fr⟩
end Rg
end Go.Proofs.YtmklifheakemeaaGreat
