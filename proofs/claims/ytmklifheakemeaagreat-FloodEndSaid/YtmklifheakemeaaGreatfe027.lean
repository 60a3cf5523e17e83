/-
  A set of IDs as a ma. Conditions as told.
-/
import Derived.Maps.OwnSet
import Derived.DeepKeys4
import Derived.KernelRfl
import Derived.Test.YtmklifheakemeaaGreatfe022
import Derived.Test.YtmklifheakemeaaGreatfe026
import Derived.Test.YtmklifheakemeaaGreatfe020
set_option maxRecDepth 100000
set_option maxHeartbeats 64000000
open _root_.Bool renaming false->aR,true->aS
open _root_.Go renaming World->aB,Value->aK,Addr->bn,Calls->bD
open Go.IntKind renaming i64->U
open Go.Lib renaming hid->L
open Go.Obj renaming cells->aI
open Go.Operand renaming tmp->aA
open Go.Proofs.Tryz renaming prog->aG,results150->aP,results15->bf
open Go.RowKit.Below renaming refl->ak,heap_setCell->aC
open Go.Value renaming slice->J,int->O,pointer->au,bool->aH,agg->aV
open _root_.List renaming getElem?_toArray->Z,getElem?_cons_zero->ah,getElem?_cons_succ->aj,getElem?_eq_getElem->aF,length_take->aM,mem_cons->aN,length_drop->aQ,mem_cons_of_mem->aT,mem_of_getElem?->aU,pairwise_cons->aW,length_append->aY
open _root_.Nat renaming le_trans->aD,le_refl->aL,lt_of_le_of_lt->aX,le_of_lt->aZ
open _root_.Option renaming none->V,some->ay
open Option.some renaming inj->aO
open _root_.Or renaming inr->aJ,inl->bg
namespace Go.Proofs.YtmklifheakemeaaGreat
namespace Av
open Go.RowKit Rw Bk Go.Maps Go.ChangeMaps
end Av
namespace Av
open Go.RowKit Go.Sort Rw YtmklifheakemeaaGreat.Nm Pr Bk
structure yK (W:aB) (b:Br) (nv av sv ev ov:Sl):Prop where
 br:iZ W b nv av sv ev ov
 no:om W nv b.near
theorem yK.on {W W':aB} {b:Br} {nv av sv ev ov:Sl} (h:yK W b nv av sv ev ov) (hb:Below W.heap.size W W'):yK W' b nv av sv ev ov:=⟨h.br.on hb,h.no.on hb⟩
theorem yK.keep {W W':aB} {k:Nat} {me:Int} {s1 s2 s3 s4 s5:Sl} {b:Br} {nv av sv ev ov:Sl} (h:yK W b nv av sv ev ov) (hb:dK W k (jA me s1 s2 s3 s4 s5) 28) (hk:But k W W'):yK W' b nv av sv ev ov:=by
 obtain⟨B,hn⟩:=h.no;have hn2:zI W' B (dU nv) b.near:=hk.own hn hb (by decide);exact⟨fF h.br hb hk.1 (Row.dH hn2),B,hn2⟩
theorem Uf (W:aB) (me:Int) {near:List Int} {nv:Sl} (h:qJ W (dU nv) near):iZ W ⟨me,near,[],[],[],[]⟩ nv (V,0,0) (V,0,0) (V,0,0) (V,0,0):=⟨h,⟨[],iL _,.nil⟩,iL _,⟨[],iL _,.nil⟩,⟨[],iL _,.nil⟩⟩
theorem yL:∀ {l m:List Int},l.Pairwise (·<·)->m.Pairwise (·<·)->(∀ x,x∈l↔x∈m)->l=m
 | [],[],_,_,_=>rfl
 | [],y::m,_,_,h=>by have:=(h y).2 (by simp); simp at this
 | x::l,[],_,_,h=>by have:=(h x).1 (by simp); simp at this
 | x::l,y::m,hl,hm,h=>by
  have hl':=aW.1 hl;have hm':=aW.1 hm;have h1:x=y:=by
   rcases aN.1 ((h x).1 (by simp)) with e|e
   ·exact e
   ·rcases aN.1 ((h y).2 (by simp)) with e2|e2
    ·exact e2.symm
    ·have a1:=hm'.1 x e;have a2:=hl'.1 y e2;omega
  subst h1;rw [yL hl'.2 hm'.2 fun z=>⟨fun hz=>?_,fun hz=>?_⟩]
  ·rcases aN.1 ((h z).1 (aT _ hz)) with e|e
   ·have:=hl'.1 z hz;omega
   ·exact e
  ·rcases aN.1 ((h z).2 (aT _ hz)) with e|e
   ·have:=hm'.1 z hz;omega
   ·exact e
theorem yM {W W':aB} {b:Nat} (h:W.grownBy W' (ay b)):But b W W':=⟨fun k hk hne=>h.block k hk (by simpa using hne),h.size⟩
end Av
namespace Bk
open Go.RowKit Rw YtmklifheakemeaaGreat.Nm Pr
def NI (B b2 _:Nat) (so:Option bn) (sn sc at_:Nat) (lo hiv:aK) (lt ld:List iq) (i:Nat) (v:aK) (x:aB):Prop :=
 match i with
 | 0=>∃ g,v=J (ay ⟨g,0,V⟩) 0 0/\B<=g/\dK x g #[] 66
 | 1=>v=au (ay ⟨b2,4,V⟩)
 | 2=>v=J so sn sc
 | 3=>v=O U (at_:Int)
 | 4=>v=lo
 | 5=>jV x B v lt
 | 6=>v=au (ay ⟨b2,4,V⟩)
 | 7=>v=J so sn sc
 | 8=>v=O U (at_:Int)
 | 9=>v=O U ((at_:Int)+1)
 | 10=>v=hiv
 | 11=>jV x B v (lt++ld)
 | 12=>v=au (ay ⟨b2,4,V⟩)
 | _=>True
noncomputable def aah:Code:=((Tryz.f150.body.bind (eO 5)).getD .skip)
theorem Ug (B b2 b3:Nat) (so:Option bn) (sn sc at_:Nat) (lo hiv:aK) (lt ld:List iq) (i:Nat) (v:aK) (x x':aB) (h:NI B b2 b3 so sn sc at_ lo hiv lt ld i v x) (hb:Below x.heap.size x x'):NI B b2 b3 so sn sc at_ lo hiv lt ld i v x':=by
 by_cases hi:i<13
 ·rcases (by omega:i=0\/i=1\/i=2\/i=3\/i=4\/i=5\/i=6\/i=7\/i=8\/i=9\/i=10\/i=11\/i=12) with rfl|rfl|rfl|rfl|rfl|rfl|rfl|rfl|rfl|rfl|rfl|rfl|rfl
  ·obtain⟨g,h1,h2,h3⟩:=h;exact⟨g,h1,h2,h3.on hb⟩
  ·exact h
  ·exact h
  ·exact h
  ·exact h
  ·exact dI h hb
  ·exact h
  ·exact h
  ·exact h
  ·exact h
  ·exact h
  ·exact dI h hb
  ·exact h
 ·unfold NI
  split <;> first | omega | trivial
theorem ag2 (Q:Exit->Act->aB->Prop) (W:aB) (b2 b3:Nat) (me:Int) (y1 y2 y3 y5:aK) (so:Option bn) (sn sc at_:Nat) (l:List iq) (u0 u1 u2 u3 u6 u7 u8 u9 u10 u12 u13 u14 u15 u16 u17 u18 u19 u20 u21 u22 u23 u24 u25 u26 u27 u28 u29 u30 u31 u32 u33 u34 u35 u36 u37 u38 u39 u40 u41 u42 u43 u44 u45 u46 u47 u48 u49 u50 u51 u52 u53 u54 u55 u56 u57 u58 u59 u60 u61 u62 u63 u64 u65 u66 u67 u68 u69 u70 u71 u72 u73 u74 u75 u76 u77 u78 u79 u80 u81 u82 u83 u84 u85 u86 u87 u88 u89 u90 u91 u92 u93 u94 u95 u96 u97 u98 u99 u100 u101 u102 u103:aK)
  (h2:dK W b2 #[O U me,y1,y2,y3,J so sn sc,y5] 28) (hs:lI W (J so sn sc) l) (hat:at_+1<=l.length) (hlen:l.length<=900)
  (hQ:∀ (x:aB) (v39 v40 v41 v42 v43 v44 v45 v46 v47 v48 v49 v50 v51:aK),dK x b2 #[O U me,y1,y2,y3,v50,y5] 28->jV x W.heap.size v50 (l.take at_++l.drop (at_+1))->(∀ B,B<=b2->Below B W x)->(∀ c cs t,c≠b2->dK W c cs t->dK x c cs t)->(∀ k,k<W.heap.size->k≠b2->x.heap[k]?=W.heap[k]?)->Q .normal ⟨(u0::u1::u2::u3::au (ay ⟨b2,0,V⟩)::au (ay ⟨b3,0,V⟩)::u6::u7::u8::u9::u10::O U (at_:Int)::u12::u13::u14::u15::u16::u17::u18::u19::u20::u21::u22::u23::u24::u25::u26::u27::u28::u29::u30::u31::u32::u33::u34::u35::u36::u37::u38::v39::v40::v41::v42::v43::v44::v45::v46::v47::v48::v49::v50::v51::u52::u53::u54::u55::u56::u57::u58::u59::u60::u61::u62::u63::u64::u65::u66::u67::u68::u69::u70::u71::u72::u73::u74::u75::u76::u77::u78::u79::u80::u81::u82::u83::u84::u85::u86::u87::u88::u89::u90::u91::u92::u93::u94::u95::u96::u97::u98::u99::u100::u101::u102::u103::[]).toArray,[]⟩ x) :
  Code.wp aG aah Q ⟨(u0::u1::u2::u3::au (ay ⟨b2,0,V⟩)::au (ay ⟨b3,0,V⟩)::u6::u7::u8::u9::u10::O U (at_:Int)::u12::u13::u14::u15::u16::u17::u18::u19::u20::u21::u22::u23::u24::u25::u26::u27::u28::u29::u30::u31::u32::u33::u34::u35::u36::u37::u38::u39::u40::u41::u42::u43::u44::u45::u46::u47::u48::u49::u50::u51::u52::u53::u54::u55::u56::u57::u58::u59::u60::u61::u62::u63::u64::u65::u66::u67::u68::u69::u70::u71::u72::u73::u74::u75::u76::u77::u78::u79::u80::u81::u82::u83::u84::u85::u86::u87::u88::u89::u90::u91::u92::u93::u94::u95::u96::u97::u98::u99::u100::u101::u102::u103::[]).toArray,[]⟩ W:=by
 have HQ:=L hQ;have H2:=L h2;have AT1:=L (show at_<=900 by omega);obtain⟨lo,Dc,wB⟩:=vS nO hs at_ (by omega);obtain⟨hiv,Df,xX⟩:=qp nO hs (at_+1) hat;have LT:=L (show (l.take at_).length<=1000 by rw [aM]; omega);have Sc:=L (show (l.take at_).length<=900 by rw [aM]; omega);have LD:=L (show (l.drop (at_+1)).length<=1000 by rw [aQ]; omega);generalize l.take at_=lt at *;generalize l.drop (at_+1)=ld at *;have SL:=L Dc;have SH:=L (show ∀ w,(Instr.sliceAt 25 (J so sn sc) (ay (O U ((at_:Int)+1))) V V).run aG w=.ok hiv w from Df);have RL:=L wB;have RH:=L xX;clear hQ h2 hs Dc Df wB xX hat hlen;have iQ:=Ug W.heap.size b2 b3 so sn sc at_ lo hiv lt ld;unfold aah
 conv=>arg 2; whnf
 have nd:∀ j,(j<39\/52<=j)->∀ i,i<13->(fun i=>39+i) i≠j:=by
  intro j hj i hi h;simp only at h;omega
 refine Rg.fQ 14 13 (fun i=>39+i) (fun i=>if i=0 then 5 else if i=5 then 11 else 13) (NI W.heap.size b2 b3 so sn sc at_ lo hiv lt ld) (by kernel_rfl) (by kernel_rfl) rfl (by decide) (fun i j _ _ h=>by have h2:39+i=39+j:=h; omega) (fun i hi=>by show 39+i<104; omega) ?_ (fun _=>Rg.jl 1 (by kernel_rfl)) (fun kk o h1 h2=>by omega) ?_
 ·intro i o hi ho a x D hnd hc hD hb seen K hK;clear HQ;rcases (by omega:i=0\/i=1\/i=2\/i=3\/i=4\/i=5\/i=6\/i=7\/i=8\/i=9\/i=10\/i=11\/i=12) with rfl|rfl|rfl|rfl|rfl|rfl|rfl|rfl|rfl|rfl|rfl|rfl|rfl
  ·cases ho;exact Rg.dD rfl rfl (Rg.iU a.eval _ 25 0 #[] rfl rfl (by simp [go_sem])) (hK (J (ay ⟨x.heap.size,0,V⟩) 0 0) (x.alloc (aI #[] 66)) ⟨x.heap.size,rfl,hb.size,dJ x #[] 66⟩ ((ak _ _).alloc hb.size _) fun j u _ _ _ _ _ h=>iQ j u _ _ h ((ak _ _).alloc (aL _) _))
  ·cases ho;have e4:a.eval (aA 4)=au (ay ⟨b2,0,V⟩):=seen.kp 4 _ (nd 4 (by omega)) rfl;exact Rg.dD rfl rfl (Rg.dR a.eval _ 28 (aA 4) 4 rfl (by rw [e4]; simp [go_sem])) (hK _ _ rfl (ak _ _) fun _ _ _ _ _ _ _ h=>h)
  ·cases ho;have e40:a.eval (aA 40)=au (ay ⟨b2,4,V⟩):=seen.at_ ⟨1,.data⟩ (by simp) rfl (aJ (by decide));have y:=(H2.out.on hb).cell 4;simp only [Z,ah,aj] at y;exact Rg.dD rfl rfl (Rg.dX a.eval _ 25 (aA 40) rfl (by rw [e40]; simp [go_sem,y])) (hK _ _ rfl (ak _ _) fun _ _ _ _ _ _ _ h=>h)
  ·cases ho;have e11:a.eval (aA 11)=O U (at_:Int):=seen.kp 11 _ (nd 11 (by omega)) rfl;exact Rg.dD rfl rfl (Rg.gy a.eval _ (aA 11) rfl x) (hK _ _ e11 (ak _ _) fun _ _ _ _ _ _ _ h=>h)
  ·cases ho;have e41:a.eval (aA 41)=J so sn sc:=seen.at_ ⟨2,.data⟩ (by simp) rfl (aJ (by decide));have e42:a.eval (aA 42)=O U (at_:Int):=seen.at_ ⟨3,.data⟩ (by simp) rfl (aJ (by decide));exact Rg.dD rfl rfl (Rg.kF a.eval _ 25 (aA 41) V (ay (aA 42)) V rfl (by show (Instr.sliceAt 25 (a.eval (aA 41)) V (ay (a.eval (aA 42))) V).run aG x=.ok lo x; rw [e41,e42]; exact SL.out x)) (hK _ _ rfl (ak _ _) fun _ _ _ _ _ _ _ h=>h)
  ·cases ho;obtain⟨g,q0,hBg,hbx⟩:=seen.at_ ⟨0,.data⟩ (by simp) rfl (bg rfl);have q0:a.eval (aA 39)=J (ay ⟨g,0,V⟩) 0 0:=q0;have e43:a.eval (aA 43)=lo:=seen.at_ ⟨4,.data⟩ (by simp) rfl (aJ (by decide));obtain⟨v',x',r,o',gr⟩:=iY nO W.heap.size hbx hBg (RL.out.on hb) LT.out 25;exact Rg.dD rfl rfl (Rg.fZ a.eval _ (aA 39) (aA 43) 25 rfl q0 e43 r) (hK v' x' o' (gr.mono hb.size) fun j u _ _ _ _ _ h=>iQ j u _ _ h gr)
  ·cases ho;have e4:a.eval (aA 4)=au (ay ⟨b2,0,V⟩):=seen.kp 4 _ (nd 4 (by omega)) rfl;exact Rg.dD rfl rfl (Rg.dR a.eval _ 28 (aA 4) 4 rfl (by rw [e4]; simp [go_sem])) (hK _ _ rfl (ak _ _) fun _ _ _ _ _ _ _ h=>h)
  ·cases ho;have e45:a.eval (aA 45)=au (ay ⟨b2,4,V⟩):=seen.at_ ⟨6,.data⟩ (by simp) rfl (aJ (by decide));have y:=(H2.out.on hb).cell 4;simp only [Z,ah,aj] at y;exact Rg.dD rfl rfl (Rg.dX a.eval _ 25 (aA 45) rfl (by rw [e45]; simp [go_sem,y])) (hK _ _ rfl (ak _ _) fun _ _ _ _ _ _ _ h=>h)
  ·cases ho;have e11:a.eval (aA 11)=O U (at_:Int):=seen.kp 11 _ (nd 11 (by omega)) rfl;exact Rg.dD rfl rfl (Rg.gy a.eval _ (aA 11) rfl x) (hK _ _ e11 (ak _ _) fun _ _ _ _ _ _ _ h=>h)
  ·cases ho;have e47:a.eval (aA 47)=O U (at_:Int):=seen.at_ ⟨8,.data⟩ (by simp) rfl (aJ (by decide));exact Rg.dD rfl rfl (Rg.Rz a.eval _ .add 3 (aA 47) (.const (O U 1)) 3 rfl (by rw [e47]; exact add_one _ _ _ _ at_ AT1.out)) (hK _ _ rfl (ak _ _) fun _ _ _ _ _ _ _ h=>h)
  ·cases ho;have e46:a.eval (aA 46)=J so sn sc:=seen.at_ ⟨7,.data⟩ (by simp) rfl (aJ (by decide));have e48:a.eval (aA 48)=O U ((at_:Int)+1):=seen.at_ ⟨9,.data⟩ (by simp) rfl (aJ (by decide));exact Rg.dD rfl rfl (Rg.kF a.eval _ 25 (aA 46) (ay (aA 48)) V V rfl (by show (Instr.sliceAt 25 (a.eval (aA 46)) (ay (a.eval (aA 48))) V V).run aG x=.ok hiv x; rw [e46,e48]; exact SH.out x)) (hK _ _ rfl (ak _ _) fun _ _ _ _ _ _ _ h=>h)
  ·cases ho;have o44:jV x W.heap.size (a.eval (aA 44)) (lt):=seen.at_ ⟨5,.data⟩ (by simp) rfl (bg rfl);have e49:a.eval (aA 49)=hiv:=seen.at_ ⟨10,.data⟩ (by simp) rfl (aJ (by decide));have ox:lI x (a.eval (aA 49)) ld:=by rw [e49]; exact RH.out.on hb
   obtain⟨v',x',r,o',gr⟩:=gJ nO W.heap.size o44 ox (by have:=Sc.out; omega) LD.out hb.size 25;exact Rg.dD rfl rfl (Rg.fZ a.eval _ (aA 44) (aA 49) 25 rfl rfl rfl r) (hK v' x' o' ((ak _ x).grown gr hb.size fun j hj=>(o44.lt j hj).1) fun j u hj dj nl nx ni h=>by
    rcases (by omega:j=0\/j=1\/j=2\/j=3\/j=4\/j=5\/j=6\/j=7\/j=8\/j=9\/j=10\/j=11\/j=12) with rfl|rfl|rfl|rfl|rfl|rfl|rfl|rfl|rfl|rfl|rfl|rfl|rfl
    ·exact absurd rfl (fun _:(0:Nat)=0=>nl (hD ⟨5,.data⟩ (by simp) rfl))
    ·exact h
    ·exact h
    ·exact h
    ·exact h
    ·exact absurd rfl (fun _:(0:Nat)=0=>nx rfl)
    ·exact h
    ·exact h
    ·exact h
    ·exact h
    ·exact h
    ·exact absurd rfl (fun _:(0:Nat)=0=>ni rfl)
    ·exact h)
  ·cases ho;have e4:a.eval (aA 4)=au (ay ⟨b2,0,V⟩):=seen.kp 4 _ (nd 4 (by omega)) rfl;exact Rg.dD rfl rfl (Rg.dR a.eval _ 28 (aA 4) 4 rfl (by rw [e4]; simp [go_sem])) (hK _ _ rfl (ak _ _) fun _ _ _ _ _ _ _ h=>h)
 ·intro a w' df sz kp ⟨vs,hv⟩ hb;have gr:a.tmps[50]?=ay (vs 11):=(hv 11 (by omega)).1;have gp:a.tmps[51]?=ay (au (ay ⟨b2,4,V⟩)):=by
   have h:vs 12=au (ay ⟨b2,4,V⟩):=(hv 12 (by omega)).2 (by decide);rw [<- h];exact (hv 12 (by omega)).1
  have oR:jV w' W.heap.size (vs 11) (lt++ld):=(hv 11 (by omega)).2 (by decide);generalize vs 11=xR at *;obtain⟨ca,cp,eR⟩:=(Row.dH oR).len;have hbx:=H2.out.on hb;have hblt:=H2.out.lt;have c5:=hbx.cell 4;have f5:=hbx.fr 4;simp only [Z,ah,aj] at c5;have hb1:=dW (k:=4) hbx xR;show Rg.fH _ _ _ 1 13 a w';simp only [Rg.fH];refine Rg.fP 25 (aA 51) (aA 50) rfl rfl rfl rfl (Rg.dN gp) (Rg.dN gr) (w':=w'.setCell ⟨b2,4,V⟩ xR) (by rw [eR]; simp [go_sem,c5,f5]) ?_;have rV:∀ j,(j<39\/52<=j)->a.tmps[j]?=(u0::u1::u2::u3::au (ay ⟨b2,0,V⟩)::au (ay ⟨b3,0,V⟩)::u6::u7::u8::u9::u10::O U (at_:Int)::u12::u13::u14::u15::u16::u17::u18::u19::u20::u21::u22::u23::u24::u25::u26::u27::u28::u29::u30::u31::u32::u33::u34::u35::u36::u37::u38::u39::u40::u41::u42::u43::u44::u45::u46::u47::u48::u49::u50::u51::u52::u53::u54::u55::u56::u57::u58::u59::u60::u61::u62::u63::u64::u65::u66::u67::u68::u69::u70::u71::u72::u73::u74::u75::u76::u77::u78::u79::u80::u81::u82::u83::u84::u85::u86::u87::u88::u89::u90::u91::u92::u93::u94::u95::u96::u97::u98::u99::u100::u101::u102::u103::[])[j]?:=fun j hj=>(kp j (nd j hj)).trans Z;obtain⟨mid,hmid,rfl⟩:=Rg.gI 39 13 df sz (by simp) rV
  match mid,hmid with
  | [v39,v40,v41,v42,v43,v44,v45,v46,v47,v48,v49,v50,v51],_ =>
   have e1:ay v50=ay xR:=gr;obtain rfl:=aO e1;refine HQ.out _ v39 v40 v41 v42 v43 v44 v45 v46 v47 v48 v49 v50 v51 ?_ ?_ ?_ ?_ ?_
   ·simpa using hb1
   ·exact eF oR b2 4 _ hblt
   ·exact fun B hB=>(hb.mono (aZ (aX hB hblt))).setCell hB _
   ·intro c cs t hc hbc;exact (aC _ _ _ _ hc).trans (hbc.on hb)
   ·intro k hk hne;exact (aC _ _ _ _ hne).trans (hb.block k hk)
end Bk
namespace Bk
open Go.RowKit Go.Sort Rw YtmklifheakemeaaGreat.Nm Pr
open Av
theorem Qz (b:Br) (nv av sv ev ov:Sl) (x s:Id) (f:Int) (w:aB) (h:iZ w b nv av sv ev ov) (l3:b.ent.length<=900) (hok:∀ e∈b.ent,dZ e.p) :
  bD aG 150 #[rP b.me nv av sv ev ov,mM x,mM s,O U f] w fun e w'=>(∃ ev' lo:Sl,e=.returned (.tuple #[rP b.me nv av sv ev' ov,dU lo,aH (takeB b x s f).2.2])/\iZ w' (takeB b x s f).1 nv av sv ev' ov/\∃ xs,lI w' (dU lo) xs/\eP (jm w') xs (takeB b x s f).2.1)/\Below w.heap.size w w':=by
 obtain⟨no,nn,nc⟩:=nv;obtain⟨ao,an,ac⟩:=av;obtain⟨so,sn,sc⟩:=sv;obtain⟨eo,en,ec⟩:=ev;obtain⟨oo,dY,oc⟩:=ov;obtain⟨c,d⟩:=x;obtain⟨c2,d2⟩:=s;obtain⟨es,he1,he2⟩:=h.ent;have XW:=L (keys_eq he2);have EL:=L (show es.length<=900 by rw [he2.len]; exact l3);have HE2:=L he2;have OK:=L hok;obtain⟨q1,q2,hq⟩:=he1.len;obtain⟨rfl,rfl,rfl⟩:eo=q1/\en=es.length/\ec=q2:=by
  have:J eo en ec=J q1 es.length q2:=hq;simpa using this
 have EY:=AO b.me (J no nn nc) (J ao an ac) (J so sn sc) (J oo dY oc) (eo,es.length,ec) es (c,d) (c2,d2);have HH:=L h;obtain⟨h0,h1,h2,h3,h4⟩:=Bj w #[O U b.me,J no nn nc,J ao an ac,J so sn sc,J eo es.length ec,J oo dY oc] #[O U c,O U d] #[O U c2,O U d2] #[O U 0,J V 0 0,J V 0 0,J V 0 0,J V 0 0,J V 0 0] 28 31 31 28;obtain⟨n3,Sz⟩:∃ n,n=es.length:=⟨_,rfl⟩;simp only [<- Sz] at h0 h1 h2 h3 h4 he1 HH EY ⊢;obtain⟨me,hme⟩:∃ me,me=b.me:=⟨_,rfl⟩;simp only [<- hme] at h0 h1 h2 h3 h4 EY ⊢;have N3:=L Sz;have gB:=L (h0);have qQ:=L (h1);have nu:=L (h2);have mE:=L (h3);have uZ:=L (h4);have QA:=L (he1.on h0);have HEW:=L he1;clear h0 h1 h2 h3 h4 he1 he2 h hq Sz l3 hme hok;go_enter Tryz.func150,Tryz.ntmps150;go_upto_region 1 with fail;generalize ((((w.alloc (aI #[O U me,J no nn nc,J ao an ac,J so sn sc,J eo n3 ec,J oo dY oc] 28)).alloc (aI #[O U c,O U d] 31)).alloc (aI #[O U c2,O U d2] 31)).alloc (aI #[O U 0,J V 0 0,J V 0 0,J V 0 0,J V 0 0,J V 0 0] 28))=W at *;have SW:=L (EY W QA.out);clear EY;obtain⟨x0,x1,x2,x3,x4,x5⟩:=qQ.out.eZ;obtain⟨y0,y1⟩:=nu.out.cs2;obtain⟨z0,z1⟩:=mE.out.cs2;rcases lQ (es.map iR) ((c,d),(c2,d2)) with hf|⟨k,hf,hkk⟩
 ·have LB:=L (show takeB b (c,d) (c2,d2) f=(b,[],aR) by
   have hf2:=hf;rw [XW.out] at hf2;unfold takeB;rw [hf2]
   split
   ·rfl
   ·rw [if_pos rfl])
  rw [hf] at SW;clear hf;go_wp2_with fail;refine SW.out.mono ?_;rintro e1 w1 ⟨rfl,hb⟩;clear SW;clear x0 x1 x2 x3 x4 x5 y0 y1 z0 z1;have lS:=L (gB.out.trans (hb.mono gB.out.size));have kX:=L (qQ.out.on hb);have QB:=L (nu.out.on hb);have oW:=L (mE.out.on hb);have qA:=L (uZ.out.on hb);have acW:=L (QA.out.on hb);clear gB qQ nu mE uZ QA;clear hb;obtain⟨x0,x1,x2,x3,x4,x5⟩:=kX.out.eZ;obtain⟨r0,r1,r2,r3,r4,r5⟩:=qA.out.eZ;obtain⟨wW,vg,zN,Bl,Bn,Bo⟩:=qA.out.kL;have zz:=qA.out.lt;have FB:=L (dM qA.out (O U me) (J no nn nc) (J ao an ac) (J so sn sc) (J eo n3 ec) (J oo dY oc));have BL:=L (dG (b:=w.heap.size+1+1+1) lS.out (by omega) (O U me) (J no nn nc) (J ao an ac) (J so sn sc) (J eo n3 ec) (J oo dY oc));go_wp2_with fail;obtain⟨v0,v1,v2,v3,v4,v5⟩:=FB.out.eZ;refine bodyPost_ret (v:=.tuple #[aV #[O U me,J no nn nc,J ao an ac,J so sn sc,J eo n3 ec,J oo dY oc],J V 0 0,aH aR]) (by simp [results,aP,go_sem,v0,v1,v2,v3,v4,v5]) rfl ?_;rw [LB.out];exact⟨⟨(eo,n3,ec),(V,0,0),rfl,HH.out.on BL.out,[],iL _,.nil⟩,BL.out⟩
 ·rw [hf] at SW;have hk:k<es.length:=by have:=(List.getElem?_eq_some_iff.1 hkk).1; simpa using this
  obtain⟨y,hy⟩:∃ y,es[k]?=ay y:=⟨_,aF hk⟩;obtain⟨e0,he0⟩:∃ e,b.ent[k]?=ay e:=⟨_,aF (by rw [<- HE2.out.len]; exact hk)⟩;obtain⟨y_,hy_,hye⟩:=HE2.out.at k e0 he0;obtain rfl:y=y_:=aO (hy.symm.trans hy_);have hkn:k<n3:=by rw [N3.out]; exact hk
  have LB:=L (show takeB b (c,d) (c2,d2) f=if e0.from_≠f then (b,[],aR) else if e0.up=aR then ({ b with ent:=cutAt b.ent k },[],aR) else ({ b with ent:=(iV (c,d) (cutAt b.ent k) (cutAt b.ent k).length).1 },(iV (c,d) (cutAt b.ent k) (cutAt b.ent k).length).2,aS) by
   have hf2:=hf;rw [XW.out] at hf2;unfold takeB;rw [hf2,Int.toNat_natCast,he0];simp only;rw [if_neg (by omega)])
  obtain⟨p,ix,px⟩:=Kh QA.out rfl N3.out.symm hy;obtain⟨t1,t2,t3,t4,⟨po,pn,pc⟩,fr,up⟩:=y;obtain⟨hl1,hl2,hfr,hup,hl5⟩:=hye;simp only at hfr hup;rw [<- hfr,<- hup] at LB;clear hfr hup hl1 hl2 hl5 hy_ he0 e0;have hik:decide ((k:Int)<0)=aR:=decide_eq_false (by omega);have XL:=EL.out;go_wp2_with fail;refine SW.out.mono ?_;rintro e1 w1 ⟨rfl,hb⟩;have zM:=px w1 hb;obtain⟨p0,p1,p2,p3,p4,p5,p6⟩:=zM;clear SW px;clear x0 x1 x2 x3 x4 x5 y0 y1 z0 z1;have lS:=L (gB.out.trans (hb.mono gB.out.size));have kX:=L (qQ.out.on hb);have QB:=L (nu.out.on hb);have oW:=L (mE.out.on hb);have qA:=L (uZ.out.on hb);have acW:=L (QA.out.on hb);clear gB qQ nu mE uZ QA;clear hb hf;by_cases hpf:fr=f
  ·rw [if_neg (by simp [hpf])] at LB;have hne:(fr != f)=aR:=by simp [hpf]
   obtain⟨x0,x1,x2,x3,x4,x5⟩:=kX.out.eZ;obtain⟨r0,r1,r2,r3,r4,r5⟩:=qA.out.eZ;obtain⟨wW,vg,zN,Bl,Bn,Bo⟩:=qA.out.kL;have zz:=qA.out.lt;go_upto_region 5 with fail;clear zz hne hik ix p0 p1 p2 p3 p4 p5 p6;clear x0 x1 x2 x3 x4 x5 r0 r1 r2 r3 r4 r5 wW vg zN Bl Bn Bo;refine ag2 _ w1 w.heap.size (w.heap.size+1) me _ _ _ _ eo n3 ec k es _ _ _ _ _ _ _ _ _ _ _ _ _ _ _ _ _ _ _ _ _ _ _ _ _ _ _ _ _ _ _ _ _ _ _ _ _ _ _ _ _ _ _ _ _ _ _ _ _ _ _ _ _ _ _ _ _ _ _ _ _ _ _ _ _ _ _ _ _ _ _ _ _ _ _ _ _ _ _ _ _ _ _ _ _ _ _ _ _ _ _ _ _ _ _ _ _ _ _ _ _ kX.out acW.out (by omega) XL ?_;intro xw v39 v40 v41 v42 v43 v44 v45 v46 v47 v48 v49 v50 v51 hbx ho hbl hoth hblk;have CE:=L (show eP (jm w) (es.take k++es.drop (k+1)) (cutAt b.ent k) from (HE2.out.take k).append (HE2.out.drop (k+1)));have OK2:=L (show ∀ e∈cutAt b.ent k,dZ e.p from fun e he=>by
    rcases List.mem_append.1 he with h|h
    ·exact OK.out e (List.mem_of_mem_take h)
    ·exact OK.out e (List.mem_of_mem_drop h))
   have CL:=L (show (es.take k++es.drop (k+1)).length<=900 from by rw [aY,aM,aQ]; omega);generalize es.take k++es.drop (k+1)=cs at *;obtain⟨ea,GU,hev⟩:=(Row.dH ho).len;obtain⟨n,hn⟩:∃ n,n=cs.length:=⟨_,rfl⟩;rw [<- hn] at hev;subst hev;have N:=L hn;clear hn;have CN:=L (show (cutAt b.ent k).length=n from by rw [N.out,CE.out.len]);have hcl:=CN.out;simp only [hcl] at LB;generalize cutAt b.ent k=cb at *;clear hcl;have qB:=L (lS.out.trans (hbl _ (aL _)));have YR:=L (hbx);have NJ:=L (hoth _ _ _ (by omega) QB.out);have mP:=L (hoth _ _ _ (by omega) oW.out);have qg:=L (hoth _ _ _ (by omega) qA.out);have Uh:=L (dO ho (show w.heap.size+4<=w1.heap.size by have:=qA.out.lt; omega));have WF:=L (show w.heap.size+4<=xw.heap.size from by have:=qg.out.lt; omega);clear hbx ho hbl hoth hblk lS kX QB oW qA acW;cases up
   ·rw [if_pos rfl] at LB;obtain⟨x0,x1,x2,x3,x4,x5⟩:=YR.out.eZ;obtain⟨r0,r1,r2,r3,r4,r5⟩:=qg.out.eZ;obtain⟨wW,vg,zN,Bl,Bn,Bo⟩:=qg.out.kL;have zz:=qg.out.lt;have FB:=L (dM qg.out (O U me) (J no nn nc) (J ao an ac) (J so sn sc) (J ea n GU) (J oo dY oc));have BL:=L (dG (b:=w.heap.size+1+1+1) qB.out (by omega) (O U me) (J no nn nc) (J ao an ac) (J so sn sc) (J ea n GU) (J oo dY oc));have P7:=L (fO Uh.out (w.heap.size+1+1+1) (by omega) (O U me) (J no nn nc) (J ao an ac) (J so sn sc) (J ea n GU) (J oo dY oc));go_wp2_with fail;obtain⟨v0,v1,v2,v3,v4,v5⟩:=FB.out.eZ;refine bodyPost_ret (v:=.tuple #[aV #[O U me,J no nn nc,J ao an ac,J so sn sc,J ea n GU,J oo dY oc],J V 0 0,aH aR]) (by simp [results,aP,go_sem,v0,v1,v2,v3,v4,v5]) rfl ?_;rw [LB.out];have hI:=HH.out.on BL.out;exact⟨⟨(ea,n,GU),(V,0,0),rfl,⟨hI.near,hI.dQ,hI.seen,⟨cs,Row.dH P7.out,CE.out.mono fun _ _ h=>h.on BL.out⟩,hI.own⟩,[],iL _,.nil⟩,BL.out⟩
   ·rw [if_neg (by simp)] at LB;have L4:=CL.out;rw [<- N.out] at L4;obtain⟨x0,x1,x2,x3,x4,x5⟩:=YR.out.eZ;go_wp2_with fail;clear x0 x1 x2 x3 x4 x5
    go_loopw [13,58] (fun v i wr=>∃ (k:Nat) (xs ls:List iq) (a:Option bn) (c_:Nat),k<=n/\i=O U k/\Below w.heap.size w wr/\w.heap.size+4<=wr.heap.size/\dK wr w.heap.size #[O U me,J no nn nc,J ao an ac,J so sn sc,J a n c_,J oo dY oc] 28/\dK wr (w.heap.size+1) #[O U c,O U d] 31/\dK wr (w.heap.size+1+1+1) #[O U 0,J V 0 0,J V 0 0,J V 0 0,J V 0 0,J V 0 0] 28/\jV wr (w.heap.size+4) (J a n c_) xs/\eP (jm w) xs (iV (c,d) cb k).1/\jV wr (w.heap.size+4) v ls/\eP (jm w) ls (iV (c,d) cb k).2) (fun _ i _=>n-(intOf i).toNat)
    case atStart=>exact⟨0,cs,[],ea,GU,Nat.zero_le _,rfl,qB.out,WF.out,YR.out,NJ.out,qg.out,Uh.out,CE.out,iM _ _,.nil⟩
    case round =>
     clear WF qB YR NJ mP qg Uh;obtain⟨k,xs,ls,ea,GU,hk,rfl,hgb,hwf,hx4,hx5,Ui,hoe,hen,hol,hln⟩:=hrel;have wX:=L (hgb);have vI:=L (hx4);have aai:=L (hx5);have Eh:=L (Ui);have nK:=L (hoe);have NK:=L (hol);have WF:=L hwf;have EN:=L hen;have LN:=L hln;clear hgb hwf hx4 hx5 Ui hoe hen hol hln;have XN:=L (show xs.length=n from by rw [EN.out.len,(oH _ _ _).1,CN.out]);have LN9:=L (show ls.length<=900 from by rw [LN.out.len]; exact aD (oH _ _ _).2 (by omega));by_cases hlt:k<n
     ·have hlt':(k:Int)<(n:Int):=by omega
      have hw:IntKind.i64.wrap ((k:Int)+1)=(k:Int)+1:=IntWalk.i64_in _ (by omega);obtain⟨y,hy⟩:∃ y,xs[k]?=ay y:=⟨_,aF (by rw [XN.out]; exact hlt)⟩;obtain⟨e,he⟩:∃ e,(iV (c,d) cb k).1[k]?=ay e:=⟨_,aF (by rw [<- EN.out.len,XN.out]; exact hlt)⟩;obtain⟨y_,hy_,hye⟩:=EN.out.at k e he;obtain rfl:y=y_:=aO (hy.symm.trans hy_);have TK:=L (show iV (c,d) cb (k+1)=if e.tree=(c,d)/\e.up=aR/\fD (iV (c,d) cb k).1 (c,d) e.p=aR then ((iV (c,d) cb k).1.set k (XY e),(iV (c,d) cb k).2++[XY e]) else iV (c,d) cb k from by rw [nk]; unfold iJ; rw [he]);have OKK:=L ((IY (t:=(c,d)) dZ OK2.out k).1);have Uj:=L hye;have HY:=L hy;have OKE:=L (OKK.out e (aU he));clear hy_ hye he;generalize iV (c,d) cb k=mk at *;obtain⟨p,ix,px⟩:=Kh (Row.dH nK.out) rfl XN.out hy;obtain⟨p0,p1,p2,p3,p4,p5,p6⟩:=px wr (ak _ _);obtain⟨y1,y2,y3,y4,⟨yo,yn,yc⟩,y6,y7⟩:=y;simp only at p0 p1 p2 p3 p4 p5 p6;clear px hy;obtain⟨x0,x1,x2,x3,x4,x5⟩:=vI.out.eZ;go_upto_region 13 with fail;clear x0 x1 x2 x3 x4 x5;clear p0 p1 p2 p3 p4 p5 p6 ix;have NN:=fM wr (aI #[O U y1,O U y2,O U y3,O U y4,J yo yn yc,O U y6,aH y7] 66);have WG:=L NN.size;have kY:=L (wX.out.trans (NN.mono wX.out.size));have wY:=L (vI.out.on NN);have I4:=L (aai.out.on NN);have y9:=L (Eh.out.on NN);have wZ:=L (Bk.dI nK.out NN);have NM:=L (Bk.dI NK.out NN);clear wX vI aai Eh nK NK;clear NN;have Ei:=L (dJ wr #[O U y1,O U y2,O U y3,O U y4,J yo yn yc,O U y6,aH y7] 66);generalize wr.alloc (aI #[O U y1,O U y2,O U y3,O U y4,J yo yn yc,O U y6,aH y7] 66)=wa at *;obtain⟨x0,x1,x2,x3,x4,x5⟩:=wY.out.eZ;obtain⟨Gi,y_1⟩:=I4.out.cs2;obtain⟨z0,z1,z2,z3,z4,z5,z6⟩:=Ei.out.mI;have TE:=L (show e.tree=(y1,y2) from Uj.out.1.symm);have UE:=L (show e.up=y7 from Uj.out.2.2.2.1.symm);obtain⟨r1,hr1⟩:∃ r,(y1 == c && y2 == d)=r:=⟨_,rfl⟩;have heq:=qO y1 y2 c d r1 hr1;have R1:=L hr1;clear hr1;cases r1
      ·go_wp2_with fail
       go_roundw
       case rel=>exact⟨k+1,xs,ls,ea,GU,by omega,by go_num,kY.out,by have:=WG.out; have:=WF.out; omega,wY.out,I4.out,y9.out,wZ.out,by rw [TK.out,if_neg (by intro hh; have h1:=hh.1; rw [TE.out] at h1; have h2:=R1.out; simp at h1; simp [h1] at h2)]; exact EN.out,NM.out,by rw [TK.out,if_neg (by intro hh; have h1:=hh.1; rw [TE.out] at h1; have h2:=R1.out; simp at h1; simp [h1] at h2)]; exact LN.out⟩
       case measure=>simp [intOf]; omega
      ·cases y7
       ·obtain⟨cv,hcv⟩:∃ r,fD mk.1 (c,d) e.p=r:=⟨_,rfl⟩;have CO:=wV me (J no nn nc) (J ao an ac) (J so sn sc) (J oo dY oc) (ea,n,GU) xs mk.1 (c,d) (J yo yn yc) e.p wa (Row.dH wZ.out) (EN.out.mono fun _ _ h=>h.on kY.out) (Uj.out.2.2.2.2.on kY.out) OKK.out OKE.out;rw [hcv] at CO;rw [hcv] at TK;clear hcv;go_wp2_with fail;refine CO.mono ?_;rintro e2 wb ⟨rfl,hb⟩;clear CO;clear x0 x1 x2 x3 x4 x5 Gi y_1 z0 z1 z2 z3 z4 z5 z6;have kH:=L (kY.out.trans (hb.mono kY.out.size));have qR:=L (wY.out.on hb);have Uk:=L (I4.out.on hb);have Ul:=L (y9.out.on hb);have vJ:=L (Bk.dI wZ.out hb);have NP:=L (Bk.dI NM.out hb);have za:=L (Ei.out.on hb);clear kY wY I4 y9 wZ NM Ei;have WGb:=L (aD WG.out hb.size);clear hb WG;have WG:=L WGb.out;cases cv
        ·rw [if_pos ⟨by rw [TE.out]; have h:=R1.out; simp at h; rw [h.1,h.2],UE.out,rfl⟩] at TK;have NB:=fM wb (aI #[] 66);obtain⟨va,x1,q1,oa,ga⟩:=iY nO (w:=wb.alloc (aI #[] 66)) wb.heap.size (dJ wb #[] 66) (aL _) (Row.dH (dI vJ.out NB)) (by rw [XN.out]; omega) 25;have G1:=L (NB.trans (ga.mono NB.size));have m4:=(qR.out.on NB).cell 4;simp only [Z,ah,aj] at m4;rcases gM oa with⟨_,h0⟩|⟨g,cg,_,rfl,hBg,_,_⟩
         ·rw [h0] at XN;have:=XN.out;simp at this;omega
         rw [XN.out] at q1 oa;have q1:(Builtin.append_ #[25,25] 25 #[J (ay ⟨wb.heap.size,0,V⟩) 0 0,J ea n GU]).run aG (wb.alloc (aI #[] 66))=.ok (J (ay ⟨g,0,V⟩) n cg) x1:=q1;have OA:=L (dO oa (show w.heap.size+4<=wb.heap.size from by have:=WG.out; have:=WF.out; omega));have GL:=L (aD hBg (aL g));clear oa ga NB;have OLB:=L (NP.out);have xg:=L (kH.out.trans (G1.out.mono kH.out.size));have sw:=L (qR.out.on G1.out);have aaj:=L (Uk.out.on G1.out);have I5:=L (Ul.out.on G1.out);have NQ:=L (Bk.dI vJ.out G1.out);have aak:=L (Bk.dI NP.out G1.out);have qU:=L (za.out.on G1.out);clear kH qR Uk Ul vJ NP za;have WG1:=L (aD WG.out G1.out.size);obtain⟨x0,x1,x2,x3,x4,x5⟩:=sw.out.eZ;obtain⟨xf0,xf1,YS,YT,QC,YU⟩:=sw.out.kL;have hl4:=sw.out.lt;go_upto_region 15 with (first | (at_builtin; refine wpList_append_run rfl _ _ 25 rfl rfl rfl q1 ?_) | fail)
         clear x0 x1 x2 x3 x4 x5 xf0 xf1 YS YT QC YU;clear hl4 q1 m4;have X4b:=dW (k:=4) sw.out (J (ay ⟨g,0,V⟩) n cg);simp only [List.setIfInBounds_toArray,List.set_cons_zero,List.set_cons_succ] at X4b;have BK:=dP x1 w.heap.size 4 (J (ay ⟨g,0,V⟩) n cg);have GB2:=L (xg.out.setCell (p:=⟨w.heap.size,4,V⟩) (aL _) (J (ay ⟨g,0,V⟩) n cg));have Y4:=L X4b;have Y5:=L (BK.box aaj.out (by omega));have Y8:=L (BK.box I5.out (by omega));have OA2:=L (eF OA.out w.heap.size 4 (J (ay ⟨g,0,V⟩) n cg) (by omega));have OL2:=L (eF aak.out w.heap.size 4 (J (ay ⟨g,0,V⟩) n cg) (by omega));have WG2:=L (show wr.heap.size<=(x1.setCell ⟨w.heap.size,4,V⟩ (J (ay ⟨g,0,V⟩) n cg)).heap.size from by have:=WG1.out; simpa using this);clear X4b BK OA WG1 xg sw aaj I5 NQ aak qU;generalize x1.setCell ⟨w.heap.size,4,V⟩ (J (ay ⟨g,0,V⟩) n cg)=x2 at *;have UP:=YQ OA2.out HY.out;obtain⟨u1,u2,u3⟩:=UP;simp only at u1 u2;have ix:=lC nO g k n cg hlt;have ix:∀ w,(Instr.indexAt 25 (J (ay ⟨g,0,V⟩) n cg) (O U (k:Int))).run aG w=.ok (au (ay ⟨g,k * 7,V⟩)) w:=ix;have x4:=Y4.out.cell 4;simp only [Z,ah,aj] at x4;have OU:=L u1;clear u1;have gl:g<x2.heap.size:=by obtain⟨cur,hb⟩:=jJ OA2.out; exact hb.lt
         go_upto_region 16 with fail;clear u2 u3 x4 gl;have BG:=dP x2 g (k * 7+6) (aH aS);have GG:=L (show w.heap.size+4<=g from by have:=WG.out; have:=WF.out; have:=GL.out; omega);have GB3:=L (GB2.out.setCell (p:=⟨g,k * 7+6,V⟩) (by have:=GG.out; show w.heap.size<=g; omega) (aH aS));have Z4:=L (BG.box Y4.out (by have:=GG.out; omega));have Z5:=L (BG.box Y5.out (by have:=GG.out; omega));have Z8:=L (BG.box Y8.out (by have:=GG.out; omega));have LG:=L (show u13.ownBlock=V\/u13.ownBlock≠ay g from by
          cases hob:u13.ownBlock with
          | none=>exact bg rfl
          | some j =>
           refine aJ fun e=>?_;injection e with e
           have h1:=(OLB.out.lt j hob).2;have h2:=GL.out;omega)
         have OL3:=L (OL2.out.kept (w':=x2.setCell ⟨g,k * 7+6,V⟩ (aH aS)) (row:=ay g) ⟨rfl,rfl,rfl,by simp [World.setCell],fun j _ hne=>aC _ _ _ _ (fun e=>hne (by rw [e]))⟩ LG.out);have WG3:=L (show wr.heap.size<=(x2.setCell ⟨g,k * 7+6,V⟩ (aH aS)).heap.size from by have:=WG2.out; simpa using this);clear BG GB2 Y4 Y5 Y8 OA2 OL2 WG2;generalize x2.setCell ⟨g,k * 7+6,V⟩ (aH aS)=x3 at *;have OU2:=OU.out;have hset:(xs.set k (y1,y2,y3,y4,(yo,yn,yc),y6,aS))[k]?=ay (y1,y2,y3,y4,(yo,yn,yc),y6,aS):=List.getElem?_set_self (by rw [XN.out]; exact hlt);have ce:∀ j u,(iH (y1,y2,y3,y4,(yo,yn,yc),y6,aS))[j]?=ay u->x3.cell? ((⟨g,k * 7,V⟩:bn).add j)=ay u:=jE nO OU2 hset x3 (ak _ _);have c0_:=ce 0 _ rfl;have c1_:=ce 1 _ rfl;have c2_:=ce 2 _ rfl;have c3_:=ce 3 _ rfl;have c4_:=ce 4 _ rfl;have c5_:=ce 5 _ rfl;have c6_:=ce 6 _ rfl;simp [Addr.add] at c0_ c1_ c2_ c3_ c4_ c5_ c6_;have x4:=Z4.out.cell 4;simp only [Z,ah,aj] at x4;have hlit:=iF nO x3 [(y1,y2,y3,y4,(yo,yn,yc),y6,aS)] 1 rfl (by simp) #[O U y1,O U y2,O U y3,O U y4,J yo yn yc,O U y6,aH aS] rfl;have NB:=fM x3 (aI #[O U y1,O U y2,O U y3,O U y4,J yo yn yc,O U y6,aH aS] 66);have hB:w.heap.size+4<=(x3.alloc (aI #[O U y1,O U y2,O U y3,O U y4,J yo yn yc,O U y6,aH aS] 66)).heap.size:=aD (aD WF.out WG3.out) NB.size;obtain⟨v',x5,q2,o2,g2⟩:=gJ nO (w.heap.size+4) (dI OL3.out NB) (Row.dH hlit) (by have:=LN9.out; omega) (by simp) hB 25;have q2:(Builtin.append_ #[25,25] 25 #[u13,J (ay ⟨x3.heap.size,0,V⟩) 1 1]).run aG (x3.alloc (aI #[O U y1,O U y2,O U y3,O U y4,J yo yn yc,O U y6,aH aS] 66))=.ok v' x5:=q2;have GF:=L (show Below w.heap.size w x5 from ((GB3.out.trans (NB.mono GB3.out.size)).grown g2 (by omega) fun j hj=>by have:=((dI OL3.out NB).lt j hj).1; omega));have BO:=L (show ∀ j,j<x3.heap.size->ay j≠u13.ownBlock->x5.heap[j]?=x3.heap[j]? from fun j hj hne=>(g2.block j (Nat.lt_of_lt_of_le hj NB.size) hne).trans (NB.block j hj));have ZX:=fun (bb:Nat) (cs:Array aK) (tt:TypeId) (hbb:bb<w.heap.size+4) (hbx:dK x3 bb cs tt)=>show dK x5 bb cs tt from (BO.out bb hbx.lt (fun e=>by have:=(OL3.out.lt bb e.symm).1; omega)).trans hbx;have V4:=L (ZX _ _ _ (by omega) Z4.out);have V5:=L (ZX _ _ _ (by omega) Z5.out);have V8:=L (ZX _ _ _ (by omega) Z8.out);have OU5:=L (show jV x5 (w.heap.size+4) (J (ay ⟨g,0,V⟩) n cg) (xs.set k (y1,y2,y3,y4,(yo,yn,yc),y6,aS)) from by
          have h1:=Bk.dI OU.out NB;exact h1.kept g2 (by
           cases hob:u13.ownBlock with
           | none=>exact aJ (by simp [Value.ownBlock])
           | some j =>
            refine aJ fun e=>?_;have h2:=LG.out;rw [hob] at h2;rcases h2 with h2|h2
            ·cases h2
            ·exact h2 (by rw [<- e]; rfl)))
         have O2:=L o2;have W5:=L (aD WG3.out (aD NB.size g2.size));clear hlit hB o2 g2 ZX BO OU2 NB hset ce;go_wp2_with (first | (at_builtin; refine wpList_append_run rfl _ _ 25 rfl rfl rfl q2 ?_) | fail)
         go_roundw
         case rel=>exact⟨k+1,_,_,ay ⟨g,0,V⟩,cg,by omega,by go_num,GF.out,by have:=WF.out; have:=W5.out; omega,V4.out,V5.out,V8.out,OU5.out,by
          rw [TK.out];exact EN.out.set2 k ⟨Uj.out.1,Uj.out.2.1,Uj.out.2.2.1,rfl,Uj.out.2.2.2.2⟩,O2.out,by
          rw [TK.out];exact LN.out.append (.cons ⟨Uj.out.1,Uj.out.2.1,Uj.out.2.2.1,rfl,Uj.out.2.2.2.2⟩ .nil)⟩
         case measure=>simp [intOf]; omega
        ·go_wp2_with fail
         go_roundw
         case rel=>exact⟨k+1,xs,ls,ea,GU,by omega,by go_num,kH.out,by have:=WG.out; have:=WF.out; omega,qR.out,Uk.out,Ul.out,vJ.out,by rw [TK.out,if_neg (by simp)]; exact EN.out,NP.out,by rw [TK.out,if_neg (by simp)]; exact LN.out⟩
         case measure=>simp [intOf]; omega
       ·go_wp2_with fail
        go_roundw
        case rel=>exact⟨k+1,xs,ls,ea,GU,by omega,by go_num,kY.out,by have:=WG.out; have:=WF.out; omega,wY.out,I4.out,y9.out,wZ.out,by rw [TK.out,if_neg (by intro hh; have h1:=hh.2.1; rw [UE.out] at h1; cases h1)]; exact EN.out,NM.out,by rw [TK.out,if_neg (by intro hh; have h1:=hh.2.1; rw [UE.out] at h1; cases h1)]; exact LN.out⟩
        case measure=>simp [intOf]; omega
     ·obtain rfl:k=n:=by omega
      obtain⟨x0,x1,x2,x3,x4,x5⟩:=vI.out.eZ;obtain⟨la,lc,hlv⟩:=(Row.dH NK.out).len;obtain⟨ln,hln⟩:∃ n,n=ls.length:=⟨_,rfl⟩;rw [<- hln] at hlv;subst hlv;clear hln;obtain⟨r0,r1,r2,r3,r4,r5⟩:=Eh.out.eZ;obtain⟨wW,vg,zN,Bl,Bn,Bo⟩:=Eh.out.kL;have zz:=Eh.out.lt;have FB:=L (dM Eh.out (O U me) (J no nn nc) (J ao an ac) (J so sn sc) (J ea k GU) (J oo dY oc));have BL:=L (dG (b:=w.heap.size+1+1+1) wX.out (by omega) (O U me) (J no nn nc) (J ao an ac) (J so sn sc) (J ea k GU) (J oo dY oc));have P7:=L (fO nK.out (w.heap.size+1+1+1) (by omega) (O U me) (J no nn nc) (J ao an ac) (J so sn sc) (J ea k GU) (J oo dY oc));have OL2:=L (fO NK.out (w.heap.size+1+1+1) (by omega) (O U me) (J no nn nc) (J ao an ac) (J so sn sc) (J ea k GU) (J oo dY oc));go_wp2_with fail;obtain⟨v0,v1,v2,v3,v4,v5⟩:=FB.out.eZ;refine bodyPost_ret (v:=.tuple #[aV #[O U me,J no nn nc,J ao an ac,J so sn sc,J ea k GU,J oo dY oc],J la ln lc,aH aS]) (by simp [results,aP,go_sem,v0,v1,v2,v3,v4,v5]) rfl ?_;rw [LB.out];have hI:=HH.out.on BL.out;exact⟨⟨(ea,k,GU),(la,ln,lc),rfl,⟨hI.near,hI.dQ,hI.seen,⟨xs,Row.dH P7.out,EN.out.mono fun _ _ h=>h.on BL.out⟩,hI.own⟩,ls,Row.dH OL2.out,LN.out.mono fun _ _ h=>h.on BL.out⟩,BL.out⟩
  ·rw [if_pos hpf] at LB;have hne:(fr != f)=aS:=by simp [hpf]
   obtain⟨x0,x1,x2,x3,x4,x5⟩:=kX.out.eZ;obtain⟨r0,r1,r2,r3,r4,r5⟩:=qA.out.eZ;obtain⟨wW,vg,zN,Bl,Bn,Bo⟩:=qA.out.kL;have zz:=qA.out.lt;have FB:=L (dM qA.out (O U me) (J no nn nc) (J ao an ac) (J so sn sc) (J eo n3 ec) (J oo dY oc));have BL:=L (dG (b:=w.heap.size+1+1+1) lS.out (by omega) (O U me) (J no nn nc) (J ao an ac) (J so sn sc) (J eo n3 ec) (J oo dY oc));go_wp2_with fail;obtain⟨v0,v1,v2,v3,v4,v5⟩:=FB.out.eZ;refine bodyPost_ret (v:=.tuple #[aV #[O U me,J no nn nc,J ao an ac,J so sn sc,J eo n3 ec,J oo dY oc],J V 0 0,aH aR]) (by simp [results,aP,go_sem,v0,v1,v2,v3,v4,v5]) rfl ?_;rw [LB.out];exact⟨⟨(eo,n3,ec),(V,0,0),rfl,HH.out.on BL.out,[],iL _,.nil⟩,BL.out⟩
structure Ou where
 iD:Int
 kind:Int
 tree:Id
 id:Id
 p:List C5
def tC (W:aB) (x:mO) (o:Ou):Prop:=x.1=o.iD/\x.2.1=o.kind/\(x.2.2.1,x.2.2.2.1)=o.tree/\(x.2.2.2.2.1,x.2.2.2.2.2.1)=o.id/\fI W (dU x.2.2.2.2.2.2.1) o.p/\x.2.2.2.2.2.2.2=(V,0,0)
theorem tC.on {W W':aB} {x:mO} {o:Ou} (h:tC W x o) (hb:Below W.heap.size W W'):tC W' x o:=⟨h.1,h.2.1,h.2.2.1,h.2.2.2.1,h.2.2.2.2.1.on hb,h.2.2.2.2.2⟩
def lW (W:aB) (s:Sl) (l:List Ou):Prop:=∃ xs,Qh W (dU s) xs/\eP (tC W) xs l
theorem lW.on {W W':aB} {s:Sl} {l:List Ou} (h:lW W s l) (hb:Below W.heap.size W W'):lW W' s l:=by
 obtain⟨xs,h1,h2⟩:=h;exact⟨xs,h1.on hb,h2.mono fun _ _ h=>h.on hb⟩
theorem qV (W:aB):lW W (V,0,0) []:=⟨[],iL _,.nil⟩
def xq (iD:Int) (e:En):Ou:=⟨iD,3,e.tree,e.sub,e.p⟩
abbrev Li (iD:Int) (x:iq):mO:=(iD,3,x.1,x.2.1,x.2.2.1,x.2.2.2.1,x.2.2.2.2.1,(V,0,0))
theorem acY {W:aB} {x:iq} {e:En} (h:jm W x e) (t:Int):tC W (Li t x) (xq t e):=⟨rfl,rfl,h.1,h.2.1,h.2.2.2.2,rfl⟩
def kI (b:Br) (t x:Id) (f:Int):Br×List Ou:=if (takeB b t x f).2.2=aR then ((takeB b t x f).1,[]) else
 match b.dQ[(fJ (b.dQ.map Ad.id) t).toNat]? with
 | none=>((takeB b t x f).1,[])
 | some a=>((takeB b t x f).1,(takeB b t x f).2.1.map (xq a.par)++[⟨a.par,4,t,x,[]⟩])
theorem jQ (b:Br) (t x:Id) (f:Int):(takeB b t x f).1.dQ=b.dQ/\(takeB b t x f).1.near=b.near/\(takeB b t x f).1.me=b.me/\(takeB b t x f).1.seen=b.seen/\(takeB b t x f).1.own=b.own:=by
 unfold takeB
 split
 ·exact⟨rfl,rfl,rfl,rfl,rfl⟩
 ·split
  ·exact⟨rfl,rfl,rfl,rfl,rfl⟩
  ·split
   ·exact⟨rfl,rfl,rfl,rfl,rfl⟩
   ·split <;> exact⟨rfl,rfl,rfl,rfl,rfl⟩
theorem Ej (l:List Id) (x:Id) (h:x∈l):∃ k:Nat,fJ l x=k/\l[k]?=ay x:=by
 induction l with
 | nil=>simp at h
 | cons a r ih =>
  by_cases e:a=x
  ·subst e;exact⟨0,by simp [fJ],rfl⟩
  ·have hr:x∈r:=by
    rcases aN.1 h with h1|h1
    ·exact absurd h1.symm e
    ·exact h1
   obtain⟨k,h1,h2⟩:=ih hr;refine⟨k+1,?_,by simpa using h2⟩;rw [fJ,if_neg e,h1,if_neg (by omega)];omega
theorem Lj {b:Br} {t x:Id} {f:Int} (h:(takeB b t x f).2.2=aS):∃ e∈b.ent,e.tree=t:=by
 unfold takeB at h
 split at h
 ·cases h
 ·rename_i e he
  split at h
  ·cases h
  ·rename_i h1
   rcases lQ (b.ent.map fB) (t,x) with h2|⟨k,h2,h3⟩
   ·exact absurd h2 h1
   ·rw [h2,Int.toNat_natCast] at he;refine⟨e,aU he,?_⟩;rw [List.getElem?_map,he] at h3;exact congrArg Prod.fst (aO h3)
theorem uQ (b:Br) (t x:Id) (f:Int):(takeB b t x f).1.ent.length<=b.ent.length/\(takeB b t x f).2.1.length<=b.ent.length:=by
 unfold takeB
 split
 ·simp
 ·split
  ·simp
  ·split
   ·simp
   ·have hc:(cutAt b.ent (iA (b.ent.map fB) (t,x)).toNat).length<=b.ent.length:=by
     unfold cutAt;rw [aY,aM,aQ];omega
    split
    ·exact⟨hc,by simp⟩
    ·have h1:=oH t (cutAt b.ent (iA (b.ent.map fB) (t,x)).toNat) (cutAt b.ent (iA (b.ent.map fB) (t,x)).toNat).length;exact⟨by rw [show ((iV t _ _).1.length)=_ from h1.1]; exact hc,aD h1.2 hc⟩
theorem xu {W x:aB} {b F0:Nat} {cs:Array aK} {t:TypeId} (h:dK W b cs t) (hb:Below F0 W x) (hl:b<F0):dK x b cs t:=(hb.block b hl).trans h
def uV (B:Nat) (bv:aK) (f c d:Int) (l:List Int) (i:Nat) (v:aK) (x:aB):Prop :=
 match i with
 | 0=>v=bv
 | 1=>v=bv
 | 2=>v=O U f
 | 3=>v=mM (c,d)
 | 4=>v=aV #[O U 2,O U c,O U d,O U 0,O U 0,J V 0 0,J V 0 0]
 | 5=>∃ sl:Sl,v=dU sl/\jI x B v (mD l f fun n=>(n,2,c,d,0,0,(V,0,0),(V,0,0)))
 | _=>True
noncomputable def NS:Code:=((Tryz.f15.body.bind (eO 4)).getD .skip)
theorem Um (Q:Exit->Act->aB->Prop) (W:aB) (b3 b5 b6:Nat) (me f c d:Int) (o1 o2 o3 o4 o5:Option bn) (n1 c1 n2 c2 n3 c3 n4 c4 n5 c5:Nat) (l:List Int) (z0 z1 z2 z3 z4 z5:aK) (u0 u2 u4 u7 u8 u9 u10 u11 u12 u13 u14 u15 u16 u17 u18 u19 u20 u21 u22 u23 u24:aK)
  (h3:dK W b3 #[O U me,J o1 n1 c1,J o2 n2 c2,J o3 n3 c3,J o4 n4 c4,J o5 n5 c5] 28) (h5:dK W b5 #[O U c,O U d] 31) (h6:dK W b6 #[z0,z1,z2,z3,z4,z5] 28) (hl:qJ W (J o1 n1 c1) l) (hlen:l.length<=900)
  (hQ:∀ (a:Act) (x:aB) (sl:Sl),a.defers=[]->a.tmps[6]?=ay (au (ay ⟨b6,0,V⟩))->a.tmps[7]?=ay (dU sl)->dK x b6 #[O U me,J o1 n1 c1,J o2 n2 c2,J o3 n3 c3,J o4 n4 c4,J o5 n5 c5] 28->jI x W.heap.size (dU sl) (mD l f fun n=>(n,2,c,d,0,0,(V,0,0),(V,0,0)))->(∀ k,k<W.heap.size->k≠b6->x.heap[k]?=W.heap[k]?)->(∀ B,B<=b6->Below B W x)->Q .normal a x) :
  Code.wp aG NS Q ⟨(u0::O U f::u2::au (ay ⟨b3,0,V⟩)::u4::au (ay ⟨b5,0,V⟩)::au (ay ⟨b6,0,V⟩)::u7::u8::u9::u10::u11::u12::u13::u14::u15::u16::u17::u18::u19::u20::u21::u22::u23::u24::[]).toArray,[]⟩ W:=by
 have HQ:=L hQ;have H3:=L h3;have H5:=L h5;have H6:=L h6;have HL:=L hl;have LL:=L hlen;clear hQ h3 h5 h6 hl hlen;have iQ:∀ (j:Nat) (u:aK) (x x':aB),j<6->uV W.heap.size (aV #[O U me,J o1 n1 c1,J o2 n2 c2,J o3 n3 c3,J o4 n4 c4,J o5 n5 c5]) f c d l j u x->Below x.heap.size x x'->uV W.heap.size (aV #[O U me,J o1 n1 c1,J o2 n2 c2,J o3 n3 c3,J o4 n4 c4,J o5 n5 c5]) f c d l j u x':=by
  intro i u x x' hi h hb;rcases (by omega:i=0\/i=1\/i=2\/i=3\/i=4\/i=5) with rfl|rfl|rfl|rfl|rfl|rfl
  ·exact h
  ·exact h
  ·exact h
  ·exact h
  ·exact h
  ·obtain⟨sl,h1,h2⟩:=h;exact⟨sl,h1,dI h2 hb⟩
 unfold NS
 conv=>arg 2; whnf
 have nd:∀ j,(j<19\/25<=j)->∀ i,i<6->(fun i=>19+i) i≠j:=by
  intro j hj i hi h;simp only at h;omega
 refine Rg.fQ 8 6 (fun i=>19+i) (fun _=>6) (uV W.heap.size (aV #[O U me,J o1 n1 c1,J o2 n2 c2,J o3 n3 c3,J o4 n4 c4,J o5 n5 c5]) f c d l) (by kernel_rfl) (by kernel_rfl) rfl (by decide) (fun i j _ _ h=>by have h2:19+i=19+j:=h; omega) (fun i hi=>by show 19+i<25; omega) ?_ (fun _=>Rg.jl 3 (by kernel_rfl)) ?_ ?_
 ·intro i o hi ho a x D hnd hc hD hb seen K hK;clear HQ;rcases (by omega:i=0\/i=1\/i=2\/i=3\/i=4\/i=5) with rfl|rfl|rfl|rfl|rfl|rfl
  ·cases ho;have e3:a.eval (aA 3)=au (ay ⟨b3,0,V⟩):=seen.kp 3 _ (nd 3 (by omega)) rfl;exact Rg.dD rfl rfl (Rg.dX a.eval _ 28 (aA 3) rfl (by rw [e3]; exact yx (H3.out.on hb))) (hK _ _ rfl (ak _ _) fun _ _ _ _ _ _ _ h=>h)
  ·cases ho;have e3:a.eval (aA 3)=au (ay ⟨b3,0,V⟩):=seen.kp 3 _ (nd 3 (by omega)) rfl;exact Rg.dD rfl rfl (Rg.dX a.eval _ 28 (aA 3) rfl (by rw [e3]; exact yx (H3.out.on hb))) (hK _ _ rfl (ak _ _) fun _ _ _ _ _ _ _ h=>h)
  ·cases ho;have e1:a.eval (aA 1)=O U f:=seen.kp 1 _ (nd 1 (by omega)) rfl;exact Rg.dD rfl rfl (Rg.gy a.eval _ (aA 1) rfl x) (hK _ _ e1 (ak _ _) fun _ _ _ _ _ _ _ h=>h)
  ·cases ho;have e5:a.eval (aA 5)=au (ay ⟨b5,0,V⟩):=seen.kp 5 _ (nd 5 (by omega)) rfl;exact Rg.dD rfl rfl (Rg.dX a.eval _ 31 (aA 5) rfl (by rw [e5]; exact Dw x _ (c,d) (Nk (H5.out.on hb)))) (hK _ _ rfl (ak _ _) fun _ _ _ _ _ _ _ h=>h)
  ·cases ho;have e22:a.eval (aA 22)=mM (c,d):=seen.at_ ⟨3,.data⟩ (by simp) rfl (aJ (by decide));exact Rg.dD rfl rfl (Rg.jM a.eval _ 41 #[(0,.const (O U 2)),(1,aA 22)] rfl (ps:=#[(0,O U 2),(1,mM (c,d))]) (by simp only [List.map_toArray,List.map_cons,List.map_nil,e22]; rfl) (by simp [go_sem])) (hK _ _ rfl (ak _ _) fun _ _ _ _ _ _ _ h=>h)
  ·cases ho;have e20:a.eval (aA 20)=aV #[O U me,J o1 n1 c1,J o2 n2 c2,J o3 n3 c3,J o4 n4 c4,J o5 n5 c5]:=seen.at_ ⟨1,.data⟩ (by simp) rfl (aJ (by decide));have e21:a.eval (aA 21)=O U f:=seen.at_ ⟨2,.data⟩ (by simp) rfl (aJ (by decide));have e23:a.eval (aA 23)=aV #[O U 2,O U c,O U d,O U 0,O U 0,J V 0 0,J V 0 0]:=seen.at_ ⟨4,.data⟩ (by simp) rfl (aJ (by decide));exact Rg.gU rfl rfl (yA a.eval _ (aA 20) (aA 21) (aA 23) 28 3 41 41 rfl e20 e21 e23 rfl _ (gF Tryz.func41 rfl rfl _ _)) (AY me f 2 c d 0 0 (o1,n1,c1) _ _ _ _ (V,0,0) (V,0,0) l x (HL.out.on hb) LL.out) fun e w1 h=>by
    obtain⟨⟨v,rfl,h1⟩,h3⟩:=h;exact⟨_,rfl,hK _ _ ⟨v,rfl,dO h1 hb.size⟩ (h3.mono hb.size) fun j u hj _ _ _ hne h=>iQ j u _ _ (by omega) h h3⟩
 ·intro kk o h1 h2 ho;obtain rfl:kk=7:=by omega
  cases ho;exact⟨⟨6,.chain⟩,by simp,rfl,rfl⟩
 ·intro a w' df sz kp ⟨vs,hv⟩ hb;have g19:a.tmps[19]?=ay (aV #[O U me,J o1 n1 c1,J o2 n2 c2,J o3 n3 c3,J o4 n4 c4,J o5 n5 c5]):=by
   have h:vs 0=aV #[O U me,J o1 n1 c1,J o2 n2 c2,J o3 n3 c3,J o4 n4 c4,J o5 n5 c5]:=(hv 0 (by omega)).2 (by decide);rw [<- h];exact (hv 0 (by omega)).1
  obtain⟨sl,hsl,ho⟩:=(hv 5 (by omega)).2 (by decide);have g24:a.tmps[24]?=ay (dU sl):=by
   rw [<- hsl];exact (hv 5 (by omega)).1
  rw [hsl] at ho;have g6:a.tmps[6]?=ay (au (ay ⟨b6,0,V⟩)):=(kp 6 (nd 6 (by omega))).trans rfl;have sz':a.tmps.size=25:=sz;have H6':=H6.out.on hb;have lt6:=H6.out.lt;show Rg.fH _ _ _ 2 6 a w';simp only [Rg.fH];refine Rg.fP 28 (aA 6) (aA 19) rfl rfl rfl rfl (Rg.dN g6) (Rg.dN g19) (w':=gH w' b6 (O U me) (J o1 n1 c1) (J o2 n2 c2) (J o3 n3 c3) (J o4 n4 c4) (J o5 n5 c5)) (p8 H6' me _ _ _ _ _ _ _ _ _ _ _ _ _ _ _) ?_;refine Rg.dD rfl rfl (Rg.kM a.eval _ (aA 24) rfl _) ?_;rw [Rg.dN g24];refine HQ.out _ _ sl df ((Rg.get_put a 7 (dU sl) 6 (by decide)).trans g6) ?_ (dM H6' _ _ _ _ _ _) (fO ho b6 lt6 _ _ _ _ _ _) ?_ ?_
  ·have:7<a.tmps.size:=by omega
   show (a.put (ay 7) (dU sl)).tmps[7]?=_;simp [Act.put,this]
  ·intro k hk hne;exact (dL w' b6 (O U me) (J o1 n1 c1) (J o2 n2 c2) (J o3 n3 c3) (J o4 n4 c4) (J o5 n5 c5) k hne).trans (hb.block k hk)
  ·exact fun B hB=>dG (hb.mono (aZ (aX hB lt6))) hB _ _ _ _ _ _
def Bp (b:Br) (f:Int) (x:Id):List mO:=if (gY b x f).2=aS then mD b.near f (fun n=>(n,2,x.1,x.2,0,0,(V,0,0),(V,0,0))) else []
theorem kZ (b:Br) (x:Id) (f:Int):(gY b x f).1.near=b.near/\(gY b x f).1.me=b.me:=by
 unfold gY
 split
 ·exact⟨rfl,rfl⟩
 ·split
  ·exact⟨rfl,rfl⟩
  ·split <;> exact⟨rfl,rfl⟩
theorem Ll (b:Br) (nv av sv ev ov:Sl) (x:Id) (f:Int) (w:aB) (h:iZ w b nv av sv ev ov) (l1:b.near.length<=900) (l2:b.dQ.length<=900) (l3:b.ent.length<=900) :
  bD aG 15 #[rP b.me nv av sv ev ov,O U f,mM x] w fun e w'=>(∃ CZ ev' sl:Sl,e=.returned (.tuple #[rP b.me nv CZ sv ev' ov,dU sl])/\iZ w' (gY b x f).1 nv CZ sv ev' ov/\Qh w' (dU sl) (Bp b f x))/\Below w.heap.size w w':=by
 obtain⟨no,nn,nc⟩:=nv;obtain⟨ao,an,ac⟩:=av;obtain⟨so,sn,sc⟩:=sv;obtain⟨eo,en,ec⟩:=ev;obtain⟨oo,dY,oc⟩:=ov;obtain⟨c,d⟩:=x;have FG:=L (fun W hb'=>Ic b (no,nn,nc) (ao,an,ac) (so,sn,sc) (eo,en,ec) (oo,dY,oc) (c,d) f W (h.on (show Below w.heap.size w W from hb')) l2 l3);have xU:=L h.near;have L1:=L l1;obtain⟨h0,h1,h2,h3⟩:=gK w #[O U b.me,J no nn nc,J ao an ac,J so sn sc,J eo en ec,J oo dY oc] #[O U c,O U d] #[O U 0,J V 0 0,J V 0 0,J V 0 0,J V 0 0,J V 0 0] 28 31 28;obtain⟨me,hme⟩:∃ me,me=b.me:=⟨_,rfl⟩;simp only [<- hme] at h0 h1 h2 h3 FG ⊢;have B0:=L h0;have X2:=L h1;have X3:=L h2;have X5:=L h3;clear h0 h1 h2 h3 h l1 l2 l3 hme;show bD aG 15 #[aV #[O U me,J no nn nc,J ao an ac,J so sn sc,J eo en ec,J oo dY oc],O U f,aV #[O U c,O U d]] w _;go_enter Tryz.func15,Tryz.ntmps15;go_upto_region 1 with fail;generalize (((w.alloc (aI #[O U me,J no nn nc,J ao an ac,J so sn sc,J eo en ec,J oo dY oc] 28)).alloc (aI #[O U c,O U d] 31)).alloc (aI #[O U 0,J V 0 0,J V 0 0,J V 0 0,J V 0 0,J V 0 0] 28))=W at *;have SW:=L (FG.out W B0.out);have x_:=X2.out;have y_:=X3.out;obtain⟨x0,x1,x2,x3,x4,x5⟩:=x_.eZ;obtain⟨y0,y1⟩:=y_.cs2;clear x_ y_ FG;go_wp2_with fail;refine SW.out.mono ?_;rintro e1 w1 ⟨⟨⟨NU,lK,lM⟩,⟨NV,iB,iC⟩,rfl,hbr⟩,hb⟩;obtain⟨fb,Lm⟩:∃ r,(gY b (c,d) f).2=r:=⟨_,rfl⟩;have LB:=L Lm;rw [Lm];have B1:=L (B0.out.trans (hb.mono B0.out.size));have Y2:=X2.out.on hb;have Y3:=X3.out.on hb;have Y5:=X5.out.on hb;obtain⟨k0,k1,k2,k3,k4,k5⟩:=Y2.eZ;obtain⟨t0,t1,t2,t3,t4,t5⟩:=Y2.kL;have zz:=Y2.lt;have FB:=L (dM Y2 (O U me) (J no nn nc) (J NU lK lM) (J so sn sc) (J NV iB iC) (J oo dY oc));have B2:=L (dG (b:=w.heap.size) B1.out (aL _) (O U me) (J no nn nc) (J NU lK lM) (J so sn sc) (J NV iB iC) (J oo dY oc));have F3:=L (show dK _ _ _ _ from (dL w1 w.heap.size (O U me) (J no nn nc) (J NU lK lM) (J so sn sc) (J NV iB iC) (J oo dY oc) (w.heap.size+1) (by omega)).trans Y3);have F5:=L (show dK _ _ _ _ from (dL w1 w.heap.size (O U me) (J no nn nc) (J NU lK lM) (J so sn sc) (J NV iB iC) (J oo dY oc) (w.heap.size+1+1) (by omega)).trans Y5);have HB:=L (fF (s1:=(no,nn,nc)) (s2:=(ao,an,ac)) (s3:=(so,sn,sc)) (s4:=(eo,en,ec)) (s5:=(oo,dY,oc)) hbr Y2 (fun j _ hj=>dL w1 w.heap.size (O U me) (J no nn nc) (J NU lK lM) (J so sn sc) (J NV iB iC) (J oo dY oc) j hj) (by rw [(kZ b (c,d) f).1]; exact xU.out.on B2.out));clear Lm hbr hb SW X2 X3 X5 B1 Y2 Y3 Y5 x0 x1 x2 x3 x4 x5 y0 y1;go_upto_region 2 with fail;clear zz k0 k1 k2 k3 k4 k5 t0 t1 t2 t3 t4 t5;unfold gH at FB B2 F3 F5 HB;generalize ((((((w1.setCell ⟨w.heap.size,0,V⟩ (O U me)).setCell ⟨w.heap.size,1,V⟩ (J no nn nc)).setCell ⟨w.heap.size,2,V⟩ (J NU lK lM)).setCell ⟨w.heap.size,3,V⟩ (J so sn sc)).setCell ⟨w.heap.size,4,V⟩ (J NV iB iC)).setCell ⟨w.heap.size,5,V⟩ (J oo dY oc))=w2 at *;cases fb
 ·have x_:=FB.out;have r_:=F5.out;obtain⟨x0,x1,x2,x3,x4,x5⟩:=x_.eZ;obtain⟨r0,r1,r2,r3,r4,r5⟩:=r_.eZ;obtain⟨t0,t1,t2,t3,t4,t5⟩:=r_.kL;have zz:=r_.lt;have GB:=L (dM r_ (O U me) (J no nn nc) (J NU lK lM) (J so sn sc) (J NV iB iC) (J oo dY oc));have BL:=L (dG (b:=w.heap.size+1+1) B2.out (by omega) (O U me) (J no nn nc) (J NU lK lM) (J so sn sc) (J NV iB iC) (J oo dY oc));have HC:=L (fF (s1:=(V,0,0)) (s2:=(V,0,0)) (s3:=(V,0,0)) (s4:=(V,0,0)) (s5:=(V,0,0)) HB.out r_ (fun j _ hj=>dL w2 (w.heap.size+1+1) (O U me) (J no nn nc) (J NU lK lM) (J so sn sc) (J NV iB iC) (J oo dY oc) j hj) (by rw [(kZ b (c,d) f).1]; exact xU.out.on BL.out));clear x_ r_ HB FB F3 F5;go_wp2_with fail;obtain⟨v0,v1,v2,v3,v4,v5⟩:=GB.out.eZ;refine bodyPost_ret (v:=.tuple #[aV #[O U me,J no nn nc,J NU lK lM,J so sn sc,J NV iB iC,J oo dY oc],J V 0 0]) (by simp [results,bf,go_sem,v0,v1,v2,v3,v4,v5]) rfl ?_;exact⟨⟨(NU,lK,lM),(NV,iB,iC),(V,0,0),rfl,HC.out,by unfold Bp; rw [LB.out]; exact bg ⟨rfl,rfl⟩⟩,BL.out⟩
 ·go_upto_region 4 with fail;refine Um _ w2 w.heap.size (w.heap.size+1) (w.heap.size+1+1) me f c d no NU so NV oo nn nc lK lM sn sc iB iC dY oc b.near _ _ _ _ _ _ _ _ _ _ _ _ _ _ _ _ _ _ _ _ _ _ _ _ _ _ _ FB.out F3.out F5.out (xU.out.on B2.out) L1.out ?_;intro a9 x9 sl IW h69 h79 hbx ho hblk hbl;have BL:=L (B2.out.trans (hbl w.heap.size (by omega)));have HC:=L (fF (s1:=(V,0,0)) (s2:=(V,0,0)) (s3:=(V,0,0)) (s4:=(V,0,0)) (s5:=(V,0,0)) HB.out F5.out (fun j hlt hj=>hblk j hlt hj) (by rw [(kZ b (c,d) f).1]; exact xU.out.on BL.out));have HU:=L (Row.dH ho);have aeQ:=hbx;obtain⟨v0,v1,v2,v3,v4,v5⟩:=aeQ.eZ;clear aeQ hbx ho hblk hbl HB FB F3 F5;simp only [Exit.then]
  apply_assumption
  go_wp2_with fail;refine bodyPost_ret (v:=.tuple #[aV #[O U me,J no nn nc,J NU lK lM,J so sn sc,J NV iB iC,J oo dY oc],dU sl]) (by simp [results,bf,go_sem,h69,h79,v0,v1,v2,v3,v4,v5]) IW ?_;exact⟨⟨(NU,lK,lM),(NV,iB,iC),sl,rfl,HC.out,by unfold Bp; rw [LB.out]; exact HU.out⟩,BL.out⟩
end Bk
namespace Sb
open Go.RowKit Go.Sort Rw YtmklifheakemeaaGreat.Nm Pr Bk Av
abbrev I6 (W:aB) (b:Nat) (a0 a1 a2 a3 a4 a5 a6:aK):aB:=((((((W.setCell ⟨b,0,V⟩ a0).setCell ⟨b,1,V⟩ a1).setCell ⟨b,2,V⟩ a2).setCell ⟨b,3,V⟩ a3).setCell ⟨b,4,V⟩ a4).setCell ⟨b,5,V⟩ a5).setCell ⟨b,6,V⟩ a6
theorem tF {W:aB} {b:Nat} {t:TypeId} {z0 z1 z2 z3 z4 z5 z6:aK} (h:dK W b #[z0,z1,z2,z3,z4,z5,z6] t) (a0 a1 a2 a3 a4 a5 a6:aK):dK (I6 W b a0 a1 a2 a3 a4 a5 a6) b #[a0,a1,a2,a3,a4,a5,a6] t:=by
 have h2:=dW (k:=6) (dW (k:=5) (dW (k:=4) (dW (k:=3) (dW (k:=2) (dW (k:=1) (dW (k:=0) h a0) a1) a2) a3) a4) a5) a6;simpa using h2
theorem oZ {B:Nat} {W0 W:aB} {b:Nat} (h:Below B W0 W) (hb:B<=b) (a0 a1 a2 a3 a4 a5 a6:aK):Below B W0 (I6 W b a0 a1 a2 a3 a4 a5 a6):=(((((((h).setCell (p:=⟨b,0,V⟩) hb a0).setCell (p:=⟨b,1,V⟩) hb a1).setCell (p:=⟨b,2,V⟩) hb a2).setCell (p:=⟨b,3,V⟩) hb a3).setCell (p:=⟨b,4,V⟩) hb a4).setCell (p:=⟨b,5,V⟩) hb a5).setCell (p:=⟨b,6,V⟩) hb a6
theorem I7 {α:Type} {E:Ek α} {W:aB} {B:Nat} {v:aK} {l:List α} (h:Own E W B v l) (b:Nat) (hb:b<B) (a0 a1 a2 a3 a4 a5 a6:aK):Own E (I6 W b a0 a1 a2 a3 a4 a5 a6) B v l :=
 eF (eF (eF (eF (eF (eF (eF (h) b 0 a0 hb) b 1 a1 hb) b 2 a2 hb) b 3 a3 hb) b 4 a4 hb) b 5 a5 hb) b 6 a6 hb
theorem I8 (w:aB) (b:Nat) (a0 a1 a2 a3 a4 a5 a6:aK):But b w (I6 w b a0 a1 a2 a3 a4 a5 a6) :=
 ((((((dP _ b _ _).trans (dP _ b _ _)).trans (dP _ b _ _)).trans (dP _ b _ _)).trans (dP _ b _ _)).trans (dP _ b _ _)).trans (dP _ b _ _)
theorem Aa (x:iq) (p:List C5) (w:aB) (hp:fI w (dU x.2.2.2.2.1) p) (hl:p.length<=900) :
  bD aG 76 #[pF x] w fun e w'=>(∃ v':Sl,e=.returned (pF (x.1,x.2.1,x.2.2.1,x.2.2.2.1,v',x.2.2.2.2.2.1,x.2.2.2.2.2.2))/\gT w' w.heap.size (dU v') p)/\Below w.heap.size w w':=by
 obtain⟨y1,y2,y3,y4,⟨s1,s2,s3⟩,y6,y7⟩:=x;obtain⟨h0,X,Y⟩:=gP w #[O U y1,O U y2,O U y3,O U y4,J s1 s2 s3,O U y6,aH y7] #[O U 0,O U 0,O U 0,O U 0,J V 0 0,O U 0,aH aR] 66 66;have C:=L (mW (s1,s2,s3) p _ (hp.on h0) hl);have B:=L h0;have x4:=X.cell 4;simp only [Z,ah,aj] at x4;have X:=L X;have Y:=L Y;clear h0 hp hl;go_enter Tryz.func76,Tryz.ntmps76;go_wp2_with fail;generalize (w.alloc (aI #[O U y1,O U y2,O U y3,O U y4,J s1 s2 s3,O U y6,aH y7] 66)).alloc (aI #[O U 0,O U 0,O U 0,O U 0,J V 0 0,O U 0,aH aR] 66)=W at *;refine C.out.mono ?_;rintro e w1 ⟨⟨⟨u1,u2,u3⟩,rfl,ho⟩,hb⟩;have X1:=X.out.on hb;have Y1:=Y.out.on hb;have hs:w.heap.size<W.heap.size:=X.out.lt;have O1:=L (eF ho w.heap.size 4 (J u1 u2 u3) hs);have XB:=L (show dK _ _ #[O U y1,O U y2,O U y3,O U y4,J u1 u2 u3,O U y6,aH y7] _ from by simpa using dW (k:=4) X1 (J u1 u2 u3));have YB:=L (show dK _ _ _ _ from (aC w1 ⟨w.heap.size,4,V⟩ (J u1 u2 u3) _ (show w.heap.size+1≠w.heap.size by omega)).trans Y1);have B1:=L ((B.out.trans (hb.mono B.out.size)).setCell (p:=⟨w.heap.size,4,V⟩) (aL _) (J u1 u2 u3));have y4':=X1.cell 4;have f4:=X1.fr 4;have z4:=X1.lt;simp only [Z,ah,aj] at y4';clear X1 Y1 ho hb x4 C;go_upto_region 2 with fail;clear y4' f4 z4;generalize w1.setCell ⟨w.heap.size,4,V⟩ (J u1 u2 u3)=w2 at *;obtain⟨x0,x1,x2,x3,x4,x5,x6⟩:=XB.out.mI;obtain⟨r0,r1,r2,r3,r4,r5,r6⟩:=YB.out.mI;obtain⟨t0,t1,t2,t3,t4,t5,t6⟩:=YB.out.Yb;have zz:=YB.out.lt;have hs2:w.heap.size+1<W.heap.size:=Y.out.lt;have FB:=L (tF YB.out (O U y1) (O U y2) (O U y3) (O U y4) (J u1 u2 u3) (O U y6) (aH y7));have BL:=L (oZ (b:=w.heap.size+1) B1.out (by omega) (O U y1) (O U y2) (O U y3) (O U y4) (J u1 u2 u3) (O U y6) (aH y7));have FO:=L (I7 O1.out (w.heap.size+1) hs2 (O U y1) (O U y2) (O U y3) (O U y4) (J u1 u2 u3) (O U y6) (aH y7));have HS:=L hs;clear hs hs2;go_wp2_with fail;obtain⟨v0,v1,v2,v3,v4,v5,v6⟩:=FB.out.mI;refine bodyPost_ret (v:=aV #[O U y1,O U y2,O U y3,O U y4,J u1 u2 u3,O U y6,aH y7]) (by simp [results,Tryz.results76,go_sem,v0,v1,v2,v3,v4,v5,v6]) rfl ?_;exact⟨⟨(u1,u2,u3),rfl,dO FO.out (aZ HS.out)⟩,BL.out⟩
end Sb
end Go.Proofs.YtmklifheakemeaaGreat
