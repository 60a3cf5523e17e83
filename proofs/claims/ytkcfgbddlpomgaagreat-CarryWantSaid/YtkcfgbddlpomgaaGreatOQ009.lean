/-
  The region of Add th. Conditions as told.
-/
import Derived.Test.YtkcfgbddlpomgaaGreatOQ006
import Derived.Lib.Bytealg
set_option maxRecDepth 100000
set_option maxHeartbeats 64000000
open Go.IntKind renaming i64->au
open Go.Lib renaming hid->L
open Go.Operand renaming tmp->X
open Go.Proofs.Tryz renaming prog->aA
open Go.RowKit.Below renaming refl->J,heap_setCell->ay
open Go.Value renaming pointer->U,slice->aj,int->ak
open _root_.List renaming getElem?_cons_succ->O,getElem?_toArray->V,getElem?_cons_zero->Y,length_take->aC
open _root_.Option renaming some->Z,none->ah
open _root_.Or renaming inr->aB,inl->aD
namespace Go.Proofs.YtkcfgbddlpomgaaGreat
namespace Bk
open Go.RowKit Rw YtkcfgbddlpomgaaGreat.Nm Pr
def MZ (B b2 _:Nat) (so:Option Addr) (sn sc at_:Nat) (lo hiv:Value) (z:iH) (lt ld:List iH) (i:Nat) (v:Value) (x:World):Prop :=
 match i with
 | 0=>∃ g,v=aj (Z ⟨g,0,ah⟩) 0 0/\B<=g/\dN x g #[] 68
 | 1=>v=U (Z ⟨b2,4,ah⟩)
 | 2=>v=aj so sn sc
 | 3=>v=ak au (at_:Int)
 | 4=>v=lo
 | 5=>iU x B v lt
 | 6=>v=qg z
 | 7=>iU x B v [z]
 | 8=>iU x B v (lt++[z])
 | 9=>v=U (Z ⟨b2,4,ah⟩)
 | 10=>v=aj so sn sc
 | 11=>v=ak au (at_:Int)
 | 12=>v=hiv
 | 13=>iU x B v (lt++[z]++ld)
 | 14=>v=U (Z ⟨b2,4,ah⟩)
 | _=>True
noncomputable def aai:Code:=((Tryz.f57.body.bind (eP 8)).getD .skip)
theorem Tg (B b2 b3:Nat) (so:Option Addr) (sn sc at_:Nat) (lo hiv:Value) (z:iH) (lt ld:List iH) (i:Nat) (v:Value) (x x':World) (h:MZ B b2 b3 so sn sc at_ lo hiv z lt ld i v x) (hb:Below x.heap.size x x'):MZ B b2 b3 so sn sc at_ lo hiv z lt ld i v x':=by
 by_cases hi:i<15
 ·rcases (by omega:i=0\/i=1\/i=2\/i=3\/i=4\/i=5\/i=6\/i=7\/i=8\/i=9\/i=10\/i=11\/i=12\/i=13\/i=14) with rfl|rfl|rfl|rfl|rfl|rfl|rfl|rfl|rfl|rfl|rfl|rfl|rfl|rfl|rfl
  ·obtain⟨g,h1,h2,h3⟩:=h;exact⟨g,h1,h2,h3.on hb⟩
  ·exact h
  ·exact h
  ·exact h
  ·exact h
  ·exact dG h hb
  ·exact h
  ·exact dG h hb
  ·exact dG h hb
  ·exact h
  ·exact h
  ·exact h
  ·exact h
  ·exact dG h hb
  ·exact h
 ·unfold MZ
  split <;> first | omega | trivial
theorem PI (Q:Exit->Act->World->Prop) (W:World) (b2 b3:Nat) (me:Int) (y1 y2 y3 y5:Value) (so:Option Addr) (sn sc at_:Nat) (l:List iH) (z:iH) (u0 u1 u4 u5 u6 u8 u9 u10 u11 u12 u13 u14 u15 u16 u17 u18 u19 u20 u21 u22 u23 u24 u25 u26 u27 u28 u29 u30 u31 u32 u33 u34 u35 u36 u37 u38 u39 u40 u41 u42 u43 u44 u45 u46 u47 u48 u49 u50 u51 u52 u53 u54 u55 u56 u57 u58 u59 u60 u61 u62 u63 u64 u65 u66 u67 u68 u69 u70 u71 u72 u73 u74 u75 u76 u77 u78 u79 u80 u81 u82 u83 u84 u85 u86 u87 u88 u89 u90 u91 u92 u93 u94 u95 u96 u97 u98 u99 u100 u101 u102 u103 u104 u105 u106 u107 u108 u109 u110 u111 u112 u113 u114:Value)
  (h2:dN W b2 #[ak au me,y1,y2,y3,aj so sn sc,y5] 33) (hx:∀ x,Below W.heap.size W x->∀ j u,(iR z)[j]?=Z u->x.cell? ((⟨b3,0,ah⟩:Addr).add j)=Z u) (hs:kM W (aj so sn sc) l) (hat:at_<=l.length) (hlen:l.length<=900)
  (hQ:∀ (x:World) (v97 v98 v99 v100 v101 v102 v103 v104 v105 v106 v107 v108 v109 v110 v111:Value),dN x b2 #[ak au me,y1,y2,y3,v110,y5] 33->iU x W.heap.size v110 (l.take at_++[z]++l.drop at_)->(∀ B,B<=b2->Below B W x)->(∀ c cs t,c≠b2->dN W c cs t->dN x c cs t)->(∀ k,k<W.heap.size->k≠b2->x.heap[k]?=W.heap[k]?)->Q .normal ⟨(u0::u1::U (Z ⟨b2,0,ah⟩)::U (Z ⟨b3,0,ah⟩)::u4::u5::u6::ak au (at_:Int)::u8::u9::u10::u11::u12::u13::u14::u15::u16::u17::u18::u19::u20::u21::u22::u23::u24::u25::u26::u27::u28::u29::u30::u31::u32::u33::u34::u35::u36::u37::u38::u39::u40::u41::u42::u43::u44::u45::u46::u47::u48::u49::u50::u51::u52::u53::u54::u55::u56::u57::u58::u59::u60::u61::u62::u63::u64::u65::u66::u67::u68::u69::u70::u71::u72::u73::u74::u75::u76::u77::u78::u79::u80::u81::u82::u83::u84::u85::u86::u87::u88::u89::u90::u91::u92::u93::u94::u95::u96::v97::v98::v99::v100::v101::v102::v103::v104::v105::v106::v107::v108::v109::v110::v111::u112::u113::u114::[]).toArray,[]⟩ x) :
  Code.wp aA aai Q ⟨(u0::u1::U (Z ⟨b2,0,ah⟩)::U (Z ⟨b3,0,ah⟩)::u4::u5::u6::ak au (at_:Int)::u8::u9::u10::u11::u12::u13::u14::u15::u16::u17::u18::u19::u20::u21::u22::u23::u24::u25::u26::u27::u28::u29::u30::u31::u32::u33::u34::u35::u36::u37::u38::u39::u40::u41::u42::u43::u44::u45::u46::u47::u48::u49::u50::u51::u52::u53::u54::u55::u56::u57::u58::u59::u60::u61::u62::u63::u64::u65::u66::u67::u68::u69::u70::u71::u72::u73::u74::u75::u76::u77::u78::u79::u80::u81::u82::u83::u84::u85::u86::u87::u88::u89::u90::u91::u92::u93::u94::u95::u96::u97::u98::u99::u100::u101::u102::u103::u104::u105::u106::u107::u108::u109::u110::u111::u112::u113::u114::[]).toArray,[]⟩ W:=by
 have HQ:=L hQ;have H2:=L h2;have LX:=L hx;obtain⟨lo,Cy,wm⟩:=vL lF hs at_ (by omega);obtain⟨hiv,Cz,xQ⟩:=qH lF hs (at_) hat;have LT:=L (show (l.take at_).length<=1000 by rw [aC]; omega);have SK:=L (show (l.take at_).length<=900 by rw [aC]; omega);have LD:=L (show (l.drop (at_)).length<=1000 by rw [List.length_drop]; omega);generalize l.take at_=lt at *;generalize l.drop (at_)=ld at *;have SL:=L Cy;have SH:=L Cz;have RL:=L wm;have RH:=L xQ;clear hQ h2 hx hs Cy Cz wm xQ hat hlen;have iN:=Tg W.heap.size b2 b3 so sn sc at_ lo hiv z lt ld;unfold aai
 conv=>arg 2; whnf
 have nd:∀ j,(j<97\/112<=j)->∀ i,i<15->(fun i=>97+i) i≠j:=by
  intro j hj i hi h;simp only at h;omega
 refine Rg.fM 16 15 (fun i=>97+i) (fun i=>if i=0 then 5 else if i=5 then 8 else if i=7 then 8 else if i=8 then 13 else 15) (MZ W.heap.size b2 b3 so sn sc at_ lo hiv z lt ld) (by kernel_rfl) (by kernel_rfl) rfl (by decide) (fun i j _ _ h=>by have h2:97+i=97+j:=h; omega) (fun i hi=>by show 97+i<115; omega) ?_ (fun _=>Rg.jq 1 (by kernel_rfl)) (fun kk o h1 h2=>by omega) ?_
 ·intro i o hi ho a x D hnd hc hD hb seen K hK;clear HQ;rcases (by omega:i=0\/i=1\/i=2\/i=3\/i=4\/i=5\/i=6\/i=7\/i=8\/i=9\/i=10\/i=11\/i=12\/i=13\/i=14) with rfl|rfl|rfl|rfl|rfl|rfl|rfl|rfl|rfl|rfl|rfl|rfl|rfl|rfl|rfl
  ·cases ho;exact Rg.dD rfl rfl (Rg.iQ a.eval _ 30 0 #[] rfl rfl (by simp [go_sem])) (hK (aj (Z ⟨x.heap.size,0,ah⟩) 0 0) (x.alloc (.cells #[] 68)) ⟨x.heap.size,rfl,hb.size,dO x #[] 68⟩ ((J _ _).alloc hb.size _) fun j u _ _ _ _ _ h=>iN j u _ _ h ((J _ _).alloc (Nat.le_refl _) _))
  ·cases ho;have e2:a.eval (X 2)=U (Z ⟨b2,0,ah⟩):=seen.kp 2 _ (nd 2 (by omega)) rfl;exact Rg.dD rfl rfl (Rg.dX a.eval _ 33 (X 2) 4 rfl (by rw [e2]; simp [go_sem])) (hK _ _ rfl (J _ _) fun _ _ _ _ _ _ _ h=>h)
  ·cases ho;have e98:a.eval (X 98)=U (Z ⟨b2,4,ah⟩):=seen.at_ ⟨1,.data⟩ (by simp) rfl (aB (by decide));have y:=(H2.out.on hb).cell 4;simp only [V,Y,O] at y;exact Rg.dD rfl rfl (Rg.dZ a.eval _ 30 (X 98) rfl (by rw [e98]; simp [go_sem,y])) (hK _ _ rfl (J _ _) fun _ _ _ _ _ _ _ h=>h)
  ·cases ho;have e7:a.eval (X 7)=ak au (at_:Int):=seen.kp 7 _ (nd 7 (by omega)) rfl;exact Rg.dD rfl rfl (Rg.fQ a.eval _ (X 7) rfl x) (hK _ _ e7 (J _ _) fun _ _ _ _ _ _ _ h=>h)
  ·cases ho;have e99:a.eval (X 99)=aj so sn sc:=seen.at_ ⟨2,.data⟩ (by simp) rfl (aB (by decide));have e100:a.eval (X 100)=ak au (at_:Int):=seen.at_ ⟨3,.data⟩ (by simp) rfl (aB (by decide));exact Rg.dD rfl rfl (Rg.kD a.eval _ 30 (X 99) ah (Z (X 100)) ah rfl (by show (Instr.sliceAt 30 (a.eval (X 99)) ah (Z (a.eval (X 100))) ah).run aA x=.ok lo x; rw [e99,e100]; exact SL.out x)) (hK _ _ rfl (J _ _) fun _ _ _ _ _ _ _ h=>h)
  ·cases ho;obtain⟨g,q0,hBg,hbx⟩:=seen.at_ ⟨0,.data⟩ (by simp) rfl (aD rfl);have q0:a.eval (X 97)=aj (Z ⟨g,0,ah⟩) 0 0:=q0;have e101:a.eval (X 101)=lo:=seen.at_ ⟨4,.data⟩ (by simp) rfl (aB (by decide));obtain⟨v',x',r,o',gr⟩:=gK lF W.heap.size hbx hBg (RL.out.on hb) LT.out 30;exact Rg.dD rfl rfl (Rg.gq a.eval _ (X 97) (X 101) 30 rfl q0 e101 r) (hK v' x' o' (gr.mono hb.size) fun j u _ _ _ _ _ h=>iN j u _ _ h gr)
  ·cases ho;have e3:a.eval (X 3)=U (Z ⟨b3,0,ah⟩):=seen.kp 3 _ (nd 3 (by omega)) rfl;exact Rg.dD rfl rfl (Rg.dZ a.eval _ 68 (X 3) rfl (by rw [e3]; exact aaf x _ z (LX.out x hb))) (hK _ _ rfl (J _ _) fun _ _ _ _ _ _ _ h=>h)
  ·cases ho;have e103:a.eval (X 103)=qg z:=seen.at_ ⟨6,.data⟩ (by simp) rfl (aB (by decide));have hl:=iD lF x [z] 1 rfl (by simp) (iR z).toArray (by simp [flat,EN]);have hl:iU (x.alloc (.cells (iR z).toArray 68)) x.heap.size (aj (Z ⟨x.heap.size,0,ah⟩) 1 1) [z]:=hl;exact Rg.dD rfl rfl (Rg.iQ a.eval _ 30 1 #[(0,X 103)] rfl (ps:=#[(0,qg z)]) (by simp [e103]) (by simp [go_sem])) (hK (aj (Z ⟨x.heap.size,0,ah⟩) 1 1) (x.alloc (.cells (iR z).toArray 68)) (dJ hl hb.size) ((J _ _).alloc hb.size _) fun j u _ _ _ _ _ h=>iN j u _ _ h ((J _ _).alloc (Nat.le_refl _) _))
  ·cases ho;have o102:iU x W.heap.size (a.eval (X 102)) (lt):=seen.at_ ⟨5,.data⟩ (by simp) rfl (aD rfl);have o104:iU x W.heap.size (a.eval (X 104)) ([z]):=seen.at_ ⟨7,.data⟩ (by simp) rfl (aD rfl);have ox:=Row.dH o104;obtain⟨v',x',r,o',gr⟩:=gG lF W.heap.size o102 ox (by have:=LT.out; omega) (by simp) hb.size 30;exact Rg.dD rfl rfl (Rg.gq a.eval _ (X 102) (X 104) 30 rfl rfl rfl r) (hK v' x' o' ((J _ x).grown gr hb.size fun j hj=>(o102.lt j hj).1) fun j u hj dj nl nx ni h=>by
    rcases (by omega:j=0\/j=1\/j=2\/j=3\/j=4\/j=5\/j=6\/j=7\/j=8\/j=9\/j=10\/j=11\/j=12\/j=13\/j=14) with rfl|rfl|rfl|rfl|rfl|rfl|rfl|rfl|rfl|rfl|rfl|rfl|rfl|rfl|rfl
    ·exact absurd rfl (fun _:(0:Nat)=0=>nl (hc 5 _ (hD ⟨5,.data⟩ (by simp) rfl) rfl ⟨0,.data⟩ (by simp) rfl |> fun _=>hD ⟨5,.data⟩ (by simp) rfl))
    ·exact h
    ·exact h
    ·exact h
    ·exact h
    ·exact absurd rfl (fun _:(0:Nat)=0=>nx rfl)
    ·exact h
    ·exact absurd rfl (fun _:(0:Nat)=0=>nx rfl)
    ·exact absurd rfl (fun _:(0:Nat)=0=>ni rfl)
    ·exact h
    ·exact h
    ·exact h
    ·exact h
    ·exact absurd rfl (fun _:(0:Nat)=0=>hnd (hc 13 _ dj rfl ⟨8,.data⟩ (by simp) rfl))
    ·exact h)
  ·cases ho;have e2:a.eval (X 2)=U (Z ⟨b2,0,ah⟩):=seen.kp 2 _ (nd 2 (by omega)) rfl;exact Rg.dD rfl rfl (Rg.dX a.eval _ 33 (X 2) 4 rfl (by rw [e2]; simp [go_sem])) (hK _ _ rfl (J _ _) fun _ _ _ _ _ _ _ h=>h)
  ·cases ho;have e106:a.eval (X 106)=U (Z ⟨b2,4,ah⟩):=seen.at_ ⟨9,.data⟩ (by simp) rfl (aB (by decide));have y:=(H2.out.on hb).cell 4;simp only [V,Y,O] at y;exact Rg.dD rfl rfl (Rg.dZ a.eval _ 30 (X 106) rfl (by rw [e106]; simp [go_sem,y])) (hK _ _ rfl (J _ _) fun _ _ _ _ _ _ _ h=>h)
  ·cases ho;have e7:a.eval (X 7)=ak au (at_:Int):=seen.kp 7 _ (nd 7 (by omega)) rfl;exact Rg.dD rfl rfl (Rg.fQ a.eval _ (X 7) rfl x) (hK _ _ e7 (J _ _) fun _ _ _ _ _ _ _ h=>h)
  ·cases ho;have e107:a.eval (X 107)=aj so sn sc:=seen.at_ ⟨10,.data⟩ (by simp) rfl (aB (by decide));have e108:a.eval (X 108)=ak au (at_:Int):=seen.at_ ⟨11,.data⟩ (by simp) rfl (aB (by decide));exact Rg.dD rfl rfl (Rg.kD a.eval _ 30 (X 107) (Z (X 108)) ah ah rfl (by show (Instr.sliceAt 30 (a.eval (X 107)) (Z (a.eval (X 108))) ah ah).run aA x=.ok hiv x; rw [e107,e108]; exact SH.out x)) (hK _ _ rfl (J _ _) fun _ _ _ _ _ _ _ h=>h)
  ·cases ho;have o105:iU x W.heap.size (a.eval (X 105)) ((lt++[z])):=seen.at_ ⟨8,.data⟩ (by simp) rfl (aD rfl);have e109:a.eval (X 109)=hiv:=seen.at_ ⟨12,.data⟩ (by simp) rfl (aB (by decide));have ox:kM x (a.eval (X 109)) ld:=by rw [e109]; exact RH.out.on hb
   obtain⟨v',x',r,o',gr⟩:=gG lF W.heap.size o105 ox (by have:=SK.out; rw [List.length_append,List.length_singleton]; omega) LD.out hb.size 30;exact Rg.dD rfl rfl (Rg.gq a.eval _ (X 105) (X 109) 30 rfl rfl rfl r) (hK v' x' o' ((J _ x).grown gr hb.size fun j hj=>(o105.lt j hj).1) fun j u hj dj nl nx ni h=>by
    rcases (by omega:j=0\/j=1\/j=2\/j=3\/j=4\/j=5\/j=6\/j=7\/j=8\/j=9\/j=10\/j=11\/j=12\/j=13\/j=14) with rfl|rfl|rfl|rfl|rfl|rfl|rfl|rfl|rfl|rfl|rfl|rfl|rfl|rfl|rfl
    ·exact absurd rfl (fun _:(0:Nat)=0=>nl (hc 8 _ (hD ⟨8,.data⟩ (by simp) rfl) rfl ⟨5,.data⟩ (by simp) rfl))
    ·exact h
    ·exact h
    ·exact h
    ·exact h
    ·exact absurd rfl (fun _:(0:Nat)=0=>nl (hD ⟨8,.data⟩ (by simp) rfl))
    ·exact h
    ·exact absurd rfl (fun _:(0:Nat)=0=>nl (hD ⟨8,.data⟩ (by simp) rfl))
    ·exact absurd rfl (fun _:(0:Nat)=0=>nx rfl)
    ·exact h
    ·exact h
    ·exact h
    ·exact h
    ·exact absurd rfl (fun _:(0:Nat)=0=>ni rfl)
    ·exact h)
  ·cases ho;have e2:a.eval (X 2)=U (Z ⟨b2,0,ah⟩):=seen.kp 2 _ (nd 2 (by omega)) rfl;exact Rg.dD rfl rfl (Rg.dX a.eval _ 33 (X 2) 4 rfl (by rw [e2]; simp [go_sem])) (hK _ _ rfl (J _ _) fun _ _ _ _ _ _ _ h=>h)
 ·intro a w' df sz kp ⟨vs,hv⟩ hb;have gr:a.tmps[110]?=Z (vs 13):=(hv 13 (by omega)).1;have gp:a.tmps[111]?=Z (U (Z ⟨b2,4,ah⟩)):=by
   have h:vs 14=U (Z ⟨b2,4,ah⟩):=(hv 14 (by omega)).2 (by decide);rw [<- h];exact (hv 14 (by omega)).1
  have oR:iU w' W.heap.size (vs 13) (lt++[z]++ld):=(hv 13 (by omega)).2 (by decide);generalize vs 13=xR at *;obtain⟨ca,cp,eR⟩:=(Row.dH oR).len;have hbx:=H2.out.on hb;have hblt:=H2.out.lt;have c5:=hbx.cell 4;have f5:=hbx.fr 4;simp only [V,Y,O] at c5;have hb1:=dR (k:=4) hbx xR;show Rg.fF _ _ _ 1 15 a w';simp only [Rg.fF];refine Rg.fP 30 (X 111) (X 110) rfl rfl rfl rfl (Rg.dK gp) (Rg.dK gr) (w':=w'.setCell ⟨b2,4,ah⟩ xR) (by rw [eR]; simp [go_sem,c5,f5]) ?_;have sI:∀ j,(j<97\/112<=j)->a.tmps[j]?=(u0::u1::U (Z ⟨b2,0,ah⟩)::U (Z ⟨b3,0,ah⟩)::u4::u5::u6::ak au (at_:Int)::u8::u9::u10::u11::u12::u13::u14::u15::u16::u17::u18::u19::u20::u21::u22::u23::u24::u25::u26::u27::u28::u29::u30::u31::u32::u33::u34::u35::u36::u37::u38::u39::u40::u41::u42::u43::u44::u45::u46::u47::u48::u49::u50::u51::u52::u53::u54::u55::u56::u57::u58::u59::u60::u61::u62::u63::u64::u65::u66::u67::u68::u69::u70::u71::u72::u73::u74::u75::u76::u77::u78::u79::u80::u81::u82::u83::u84::u85::u86::u87::u88::u89::u90::u91::u92::u93::u94::u95::u96::u97::u98::u99::u100::u101::u102::u103::u104::u105::u106::u107::u108::u109::u110::u111::u112::u113::u114::[])[j]?:=fun j hj=>(kp j (nd j hj)).trans V;obtain⟨mid,hmid,rfl⟩:=Rg.gF 97 15 df sz (by simp) sI
  match mid,hmid with
  | [v97,v98,v99,v100,v101,v102,v103,v104,v105,v106,v107,v108,v109,v110,v111],_ =>
   have e1:Z v110=Z xR:=gr;obtain rfl:=Option.some.inj e1;refine HQ.out _ v97 v98 v99 v100 v101 v102 v103 v104 v105 v106 v107 v108 v109 v110 v111 ?_ ?_ ?_ ?_ ?_
   ·simpa using hb1
   ·exact dP oR b2 4 _ hblt
   ·exact fun B hB=>(hb.mono (Nat.le_of_lt (Nat.lt_of_le_of_lt hB hblt))).setCell hB _
   ·intro c cs t hc hbc;exact (ay _ _ _ _ hc).trans (hbc.on hb)
   ·intro k hk hne;exact (ay _ _ _ _ hne).trans (hb.block k hk)
end Bk
namespace Av
open Go.RowKit Rw YtkcfgbddlpomgaaGreat.Nm Pr Bk
theorem Kz (l:List eT) (x:eT) (h:∀ (j:Nat) (y:eT),l[j]?=Z y->y≠x):fK l x=-1:=by
 induction l with
 | nil=>rfl
 | cons a l ih =>
  rw [fK,if_neg (h 0 a rfl),ih fun j y hj=>h (j+1) y (by simpa using hj),if_pos rfl]
theorem Ti (l:List eT) (k:Nat) (x:eT) (h:l[k]?=Z x) (hall:∀ (j:Nat) (z:eT),j<k->l[j]?=Z z->z≠x):fK l x=k:=by
 induction l generalizing k with
 | nil=>simp at h
 | cons a l ih =>
  cases k with
  | zero =>
   obtain rfl:a=x:=by simpa using h
   rw [fK,if_pos rfl]
   rfl
  | succ k =>
   have h2:=ih k (by simpa using h) fun j z hj hz=>hall (j+1) z (by omega) (by simpa using hz);rw [fK,if_neg (hall 0 a (by omega) rfl),h2,if_neg (by omega)];omega
theorem Ib (l:List eT) (x:eT):decide ((0:Int)<=fK l x)=decide (x∈l):=by
 induction l with
 | nil=>simp [fK]
 | cons a l ih =>
  have hb:=qZ l x;rw [fK];by_cases h:a=x
  ·rw [if_pos h]; simp [h]
  ·rw [if_neg h];have h':¬ x=a:=fun e=>h e.symm;simp only [List.mem_cons,h',false_or];rw [<- ih];by_cases h2:fK l x=-1
   ·rw [if_pos h2,h2]
   ·rw [if_neg h2];have h3:0<=fK l x:=by omega
    have h4:0<=fK l x+1:=by omega
    simp [h3,h4]
theorem PS (sv:Sl) (l:List eT) (x:eT) (w:World) (hs:xP w (dU sv) l) :
  Calls aA 111 #[dU sv,mY x] w fun e w'=>e=.returned (ak au (fK l x))/\Below w.heap.size w w':=by
 obtain⟨c,d⟩:=x;obtain⟨so,sn,sc⟩:=sv;obtain⟨ao,ac,hv⟩:=hs.len;have hv:aj so sn sc=aj ao l.length ac:=hv;obtain⟨rfl,rfl,rfl⟩:so=ao/\sn=l.length/\sc=ac:=by simpa using hv
 have h0:=fI w (.cells #[ak au c,ak au d] 38);have h2:=dO w #[ak au c,ak au d] 38;have B:=L h0;have HS:=L (hs.on h0);have X3:=L h2;have lm:=hs.most;unfold maxLen at lm;obtain⟨n,hn⟩:∃ n,n=l.length:=⟨_,rfl⟩;rw [<- hn] at HS lm ⊢;have HN:=L hn.symm;clear h0 h2 hs hv hn;go_enter Tryz.func111,Tryz.ntmps111;go_upto_region 1 with fail;generalize w.alloc (.cells #[ak au c,ak au d] 38)=W at *;go_wp2
 go_loopw [8] (fun i wr=>∃ k:Nat,k<=n/\i=ak au k/\Below W.heap.size W wr/\∀ (j:Nat) (y:eT),j<k->l[j]?=Z y->y≠(c,d)) (fun i _=>n-(intOf i).toNat)
 case atStart=>exact⟨0,Nat.zero_le _,rfl,J _ _,fun j y h=>by omega⟩
 case round =>
  obtain⟨k,hk,rfl,hbe,hall⟩:=hrel;have BE:=L hbe;have AL:=L hall;clear hbe hall;by_cases hlt:k<n
  ·obtain⟨y,hy⟩:∃ y,l[k]?=Z y:=⟨_,List.getElem?_eq_getElem (by rw [HN.out]; exact hlt)⟩;obtain⟨p,ix,px⟩:=elJ HS.out rfl HN.out hy;have DD:Below W.heap.size W wr.drew:=BE.out.drew;obtain⟨p0,p1⟩:=px wr BE.out;obtain⟨y1,y2⟩:=y;simp only at p0 p1;obtain⟨x0,x1⟩:=(X3.out.on BE.out).cs2;have hw3:IntKind.i64.wrap ((k:Int)+1)=(k:Int)+1:=IntWalk.i64_in _ (by omega);obtain⟨r,hr⟩:∃ r,(c == y1 && d == y2)=r:=⟨_,rfl⟩;have he:=wC c d y1 y2 r hr;have DB:=L DD;have HY:=L hy;have HR:=L hr;clear px hy hr DD;cases r
   ·go_wp2_with fail
    go_quiet (fail)
    go_wp2
    go_roundw
    case rel=>exact⟨k+1,by omega,by go_num,⟨BE.out.os,BE.out.tape,BE.out.output,BE.out.size,BE.out.block⟩,fun j y' hj h1=>by
     rcases Nat.lt_or_ge j k with h3|h3
     ·exact AL.out j y' h3 h1
     ·obtain rfl:j=k:=by omega
      have e1:=HY.out;rw [h1] at e1;rw [Option.some.inj e1];intro e;obtain⟨rfl,rfl⟩:y1=c/\y2=d:=by simpa using e
      have:=HR.out;simp at this⟩
    case measure=>simp [intOf]; omega
   ·go_wp2_with fail
    go_quiet (fail)
    go_wp2;go_ret;have h8:=HR.out;obtain⟨rfl,rfl⟩:c=y1/\d=y2:=by simpa using h8
    exact⟨by rw [Ti l k (c,d) HY.out AL.out]; rfl,B.out.trans (Below.mono ⟨BE.out.os,BE.out.tape,BE.out.output,BE.out.size,BE.out.block⟩ B.out.size)⟩
  ·obtain rfl:k=n:=by omega
   go_wp2;go_ret;have hd:fK l (c,d)=-1:=Kz l (c,d) fun j y hj=>AL.out j y (by rw [<- HN.out]; exact (List.getElem?_eq_some_iff.1 hj).1) hj;exact⟨by rw [hd]; rfl,B.out.trans (BE.out.mono B.out.size)⟩
theorem Fu (sv:Sl) (l:List eT) (x:eT) (w:World) (hs:xP w (dU sv) l) :
  Calls aA 97 #[dU sv,mY x] w fun e w'=>e=.returned (.bool (decide (x∈l)))/\Below w.heap.size w w':=by
 have h0:=fI w (.cells #[ak au x.1,ak au x.2] 38);have h2:=dO w #[ak au x.1,ak au x.2] 38;have C:=PS sv l x _ (hs.on h0);have R:=L (Ib l x);obtain⟨c,d⟩:=x;obtain⟨so,sn,sc⟩:=sv;have B:=L h0;obtain⟨x0,x1⟩:=h2.cs2;generalize fK l (c,d)=r at *;generalize decide ((c,d)∈l)=s at *;clear h0 h2 hs;go_enter Tryz.func97,Tryz.ntmps97;go_wp2_with fail;refine C.mono ?_;rintro e w1 ⟨rfl,hb⟩;go_wp2;go_ret;exact⟨by have h:=R.out; subst h; rfl,B.out.trans (hb.mono B.out.size)⟩
theorem PU (me:Int) (nv av ev ov:Value) (sv:Sl) (l:List eT) (x:eT) (w:World) (hs:xP w (dU sv) l) :
  Calls aA 69 #[.agg #[ak au me,nv,av,dU sv,ev,ov],mY x] w fun e w'=>e=.returned (.bool (decide (x∈l)))/\Below w.heap.size w w':=by
 obtain⟨h0,h1,h2⟩:=iE w #[ak au me,nv,av,dU sv,ev,ov] #[ak au x.1,ak au x.2] 33 38;have C:=Fu sv l x _ (hs.on h0);obtain⟨c,d⟩:=x;obtain⟨so,sn,sc⟩:=sv;have B:=L h0;have b3:=h1.cell 3;obtain⟨x0,x1⟩:=h2.cs2;simp only [V,Y,O] at b3;generalize decide ((c,d)∈l)=s at *;clear h0 h1 h2 hs;go_enter Tryz.func69,Tryz.ntmps69;go_wp2_with fail;refine C.mono ?_;rintro e w1 ⟨rfl,hb⟩;go_wp2;go_ret;exact⟨rfl,B.out.trans (hb.mono B.out.size)⟩
end Av
namespace Rl
open Go.RowKit Pu Pr
end Rl
namespace Pr
open Go.RowKit Pu
def ng:List Cn->ByteArray->Nat
 | [],_=>0
 | x::r,n=>if Op.bytesLess x.1.toList n.toList=true then ng r n+1 else 0
theorem M0:∀ l n,ng l n<=l.length
 | [],n=>Nat.le_refl _
 | x::r,n=>by
  have:=M0 r n;simp only [ng]
  split <;> simp; omega
def qM (l:List Cn) (n:ByteArray):Bool:=match l[ng l n]? with
 | some x=>decide (x.1=n)
 | none=>false
def Tj (m:List Cn) (c:Cn):Option (List Cn):=match m[ng m c.1]? with
 | some x=>if x.1=c.1 then (fE x.2 c.2).map fun k=>m.set (ng m c.1) (x.1,k) else Z (m.take (ng m c.1)++c::m.drop (ng m c.1))
 | none=>Z (m.take (ng m c.1)++c::m.drop (ng m c.1))
theorem Fv:∀ (m:List Cn) (c:Cn),sH m c=Tj m c
 | [],c=>rfl
 | x::r,c=>by
  unfold Tj;simp only [sH,ng]
  split
  ·rw [Fv r c,Tj];simp only [O,List.take_succ_cons,List.drop_succ_cons,List.set_cons_succ];cases h:r[ng r c.1]? with
   | none=>simp
   | some y =>
    simp only
    split
    ·simp [Option.map_map,Function.comp_def]
    ·simp
  ·simp
theorem PV {m:List Cn} {c:Cn} (h:qM m c.1=true):∃ x,m[ng m c.1]?=Z x/\x.1=c.1/\sH m c=(fE x.2 c.2).map fun k=>m.set (ng m c.1) (x.1,k):=by
 rw [Fv];unfold qM at h;unfold Tj;cases hx:m[ng m c.1]? with
 | none=>rw [hx] at h; cases h
 | some x =>
  rw [hx] at h;have e:x.1=c.1:=by simpa using h
  exact⟨x,rfl,e,by simp only; rw [if_pos e]⟩
theorem M6 {m:List Cn} {c:Cn} (h:qM m c.1=false):sH m c=Z (m.take (ng m c.1)++c::m.drop (ng m c.1)):=by
 rw [Fv];unfold qM at h;unfold Tj;cases hx:m[ng m c.1]? with
 | none=>rfl
 | some x =>
  rw [hx] at h;have e:¬ x.1=c.1:=by simpa using h
  simp only;rw [if_neg e]
end Pr
namespace Rg
open Go.RowKit
end Rg
end Go.Proofs.YtkcfgbddlpomgaaGreat
