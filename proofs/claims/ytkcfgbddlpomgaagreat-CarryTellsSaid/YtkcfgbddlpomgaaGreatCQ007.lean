/-
  A list of numbers th. Conditions as told.
-/
import Derived.ChangeSlices
import Derived.Below
import Derived.Lib.QuietBelow
import Derived.BigQuiet
import Derived.Test.YtkcfgbddlpomgaaGreatCQ006
set_option maxRecDepth 100000
set_option maxHeartbeats 64000000
open _root_.Go renaming Value->aB,World->aH,Addr->aS
open Go.Instr renaming sliceAt->aG,indexAt->aV
open Go.IntKind renaming i64->aC
open Go.Lib renaming hid->aj
open Go.Operand renaming tmp->O
open Go.Proofs.Tryz renaming prog->aA,underlying25->aP
open Go.Proofs.YtkcfgbddlpomgaaGreat.Rg renaming cZ->au,dJ->aQ,dR->aT,fM->aU,fJ->aW,jI->aX,fu->aY,dD->aZ,iG->bf,fH->bg,iW->bn,fI->bA,fQ->bC
open Go.RowKit.Below renaming refl->J,heap_setCell->ah
open Go.Value renaming pointer->L,slice->ak,int->aD
open _root_.List renaming getElem?_toArray->U,getElem?_cons_zero->Y,getElem?_cons_succ->Z,length_take->aF,length_drop->aL,length_singleton->aN,length_append->aO
open _root_.Nat renaming lt_of_le_of_lt->aJ,le_refl->aK,le_of_lt->aR
open _root_.Option renaming some->V,none->X
open Option.some renaming inj->aM
open _root_.Or renaming inr->ay,inl->aI
namespace Go.Proofs.YtkcfgbddlpomgaaGreat
namespace In
open Go.RowKit Go.ChangeShapes Go.WideShapes
structure iU (W:aH) (nv:aB) (zs:List Int):Prop where
 shape:∃ ao cap,nv=ak ao zs.length cap
 at_:∀ (i:Nat) (z:Int),zs[i]?=V z->(-9223372036854775808<=z/\z<=9223372036854775807)/\∃ p:aS,p.block<W.heap.size/\(∀ w,(aV 25 nv (aD aC i)).run aA w=.ok (L (V p)) w)/\W.cell? p=V (aD aC z)
theorem iU.on {W W':aH} {nv:aB} {zs:List Int} (h:iU W nv zs) (hb:Below W.heap.size W W'):iU W' nv zs :=
 ⟨h.shape,fun i z hz=>by
  obtain⟨h1,p,h2,h3,h4⟩:=h.at_ i z hz;exact⟨h1,p,Nat.lt_of_lt_of_le h2 hb.size,h3,by rw [hb.cell h2]; exact h4⟩⟩
theorem sD {n:Int} (h:(Lit.int aC n).wf=true):-9223372036854775808<=n/\n<=9223372036854775807:=by
 have h2:(decide (IntKind.i64.min<=n) && decide (n<=IntKind.i64.max))=true:=h;rw [Bool.and_eq_true,decide_eq_true_eq,decide_eq_true_eq,show IntKind.i64.min=-9223372036854775808 by decide,show IntKind.i64.max=9223372036854775807 by decide] at h2;exact h2
theorem I7:Tryz.prog.cellsOf 3=1:=by kernel_rfl
theorem I8 (a:aS) (m len cap:Nat) (h:m<len) (w:aH):(aV 25 (ak (V a) len cap) (aD aC m)).run aA w=.ok (L (V (a.add m))) w:=by
 have h1:(m:Int)<len:=by omega
 simp [go_sem,aP,h1]
theorem xU {H:Type} {enc:TypeId×aB->H} {W:aH} {sp:Nat->Bool} {held:Bool} {fuel:Nat} {v:aB} {x:DataW H×List MemPlace}
  (hf:DataW.trod enc aA W 0 sp held fuel 25 [v]=V x):∃ zs,zs.length<=maxLen/\iU W v zs:=by
 rcases open_ints aP Tryz.underlying3 I7 hf with⟨h1,_⟩|⟨a',len',cap',zs,h1,_,h3,h4,h5,_,h7,h8⟩
 ·have e:v=ak X 0 0:=by simpa using h1
  rw [e];exact⟨[],Nat.zero_le _,⟨X,0,rfl⟩,fun i z h=>by simp at h⟩
 ·have e:v=ak (V a') len' cap':=by simpa using h1
  rw [e];have hle:len'<=zs.length:=by rw [h5]; split <;> omega
  have hl:(zs.take len').length=len':=by simp; omega
  refine⟨zs.take len',by omega,⟨V a',cap',by rw [hl]⟩,fun i z hz=>?_⟩;obtain⟨hi,hzi⟩:=List.getElem?_eq_some_iff.1 hz;have hi2:i<len':=by omega
  have hz2:zs[i]'(by omega)=z:=by simpa using hzi
  have hc:=h7 i (by omega);have hg:zs.getD i 0=z:=by rw [<- hz2]; simp [List.getD,show i<zs.length by omega]
  rw [hg] at hc;exact⟨sD (h8 z (by rw [<- hz2]; exact List.getElem_mem _)),a'.add i,World.block_lt_of_cell? W _ hc,fun w=>I8 a' i len' cap' hi2 w,hc⟩
end In
namespace Pr
open Go.RowKit Go.Sort Pu Rw
end Pr
namespace Bk
open Go.RowKit Rw
theorem dx {α:Type} {E:Ek α} {W:aH} {B C:Nat} {v:aB} {l:List α} (h:Own E W B v l) (hc:C<=B):Own E W C v l:=by
 refine⟨h.1,?_⟩;rcases h.2 with h2|⟨g,cap,cur,h1,h2,h3⟩
 ·exact aI h2
 ·exact ay ⟨g,cap,cur,h1,Nat.le_trans hc h2,h3⟩
theorem dh {α:Type} {E:Ek α} {W W':aH} {B:Nat} {v:aB} {l:List α} (h:Own E W B v l) (hb:Below W.heap.size W W'):Own E W' B v l :=
 h.kept (w':=W') (row:=X) ⟨hb.os,hb.tape,hb.output,hb.size,fun k hk _=>hb.block k hk⟩ (by cases v.ownBlock <;> simp)
theorem dW {α:Type} {E:Ek α} {W:aH} {B:Nat} {v:aB} {l:List α} (h:Own E W B v l) (b k:Nat) (x:aB) (hb:b<B):Own E (W.setCell ⟨b,k,X⟩ x) B v l :=
 h.kept (w':=W.setCell ⟨b,k,X⟩ x) (row:=V b) ⟨rfl,rfl,rfl,by simp [World.setCell],fun j _ hne=>ah _ _ _ _ (fun e=>hne (by rw [e]))⟩ (by
  cases hv:v.ownBlock with
  | none=>exact aI rfl
  | some j =>
   refine ay fun e=>?_;injection e with e
   have h1:=(h.lt j hv).1;omega)
theorem add_one (x y:Operand) (t:TypeId) (w:aH) (k:Nat) (hk:k<=900):(do eqGuard .add t x y (aD aC k) (aD aC 1); binOp .add t (aD aC k) (aD aC 1):Sem aB).run aA w=.ok (aD aC ((k:Int)+1)) w:=by
 have h:IntKind.i64.wrap ((k:Int)+1)=(k:Int)+1:=IntWalk.i64_in _ (by omega);simp [eqGuard,binOp,Op.intArith,go_sem,h]
theorem dO {W:aH} {rb k:Nat} {cs:Array aB} {t:TypeId} (h:dG W rb cs t) (x:aB):dG (W.setCell ⟨rb,k,X⟩ x) rb (cs.setIfInBounds k x) t:=heap_setCell_same W rb k cs t x h
end Bk
namespace Bk
open Go.RowKit Rw YtkcfgbddlpomgaaGreat.Nm Pr
def Kc (B b2 b3:Nat) (so:Option aS) (sn sc at_:Nat) (lo hiv:aB) (z:eF) (lt ld:List eF) (i:Nat) (v:aB) (x:aH):Prop :=
 match i with
 | 0=>∃ g,v=ak (V ⟨g,0,X⟩) 0 0/\B<=g/\dG x g #[] 38
 | 1=>v=L (V ⟨b2,3,X⟩)
 | 2=>v=ak so sn sc
 | 3=>v=aD aC (at_:Int)
 | 4=>v=lo
 | 5=>qY x B v lt
 | 6=>v=L (V ⟨b3,0,X⟩)
 | 7=>v=PD z
 | 8=>qY x B v [z]
 | 9=>qY x B v (lt++[z])
 | 10=>v=L (V ⟨b2,3,X⟩)
 | 11=>v=ak so sn sc
 | 12=>v=aD aC (at_:Int)
 | 13=>v=hiv
 | 14=>qY x B v (lt++[z]++ld)
 | 15=>v=L (V ⟨b2,3,X⟩)
 | _=>True
noncomputable def Xo:Code:=((Tryz.f60.body.bind (eu 6)).getD .skip)
theorem PS (B b2 b3:Nat) (so:Option aS) (sn sc at_:Nat) (lo hiv:aB) (z:eF) (lt ld:List eF) (i:Nat) (v:aB) (x x':aH) (h:Kc B b2 b3 so sn sc at_ lo hiv z lt ld i v x) (hb:Below x.heap.size x x'):Kc B b2 b3 so sn sc at_ lo hiv z lt ld i v x':=by
 by_cases hi:i<16
 ·rcases (by omega:i=0\/i=1\/i=2\/i=3\/i=4\/i=5\/i=6\/i=7\/i=8\/i=9\/i=10\/i=11\/i=12\/i=13\/i=14\/i=15) with rfl|rfl|rfl|rfl|rfl|rfl|rfl|rfl|rfl|rfl|rfl|rfl|rfl|rfl|rfl|rfl
  ·obtain⟨g,h1,h2,h3⟩:=h;exact⟨g,h1,h2,h3.on hb⟩
  ·exact h
  ·exact h
  ·exact h
  ·exact h
  ·exact dh h hb
  ·exact h
  ·exact h
  ·exact dh h hb
  ·exact dh h hb
  ·exact h
  ·exact h
  ·exact h
  ·exact h
  ·exact dh h hb
  ·exact h
 ·unfold Kc
  split <;> first | omega | trivial
theorem ad6 (Q:Exit->Act->aH->Prop) (W:aH) (b2 b3:Nat) (me:Int) (y1 y2 y4 y5:aB) (so:Option aS) (sn sc at_:Nat) (l:List eF) (z:eF) (u0 u1 u4 u5 u7 u8 u9 u10 u11 u12 u13 u14 u15 u16 u17 u18 u19 u20 u21 u22 u23 u24 u25 u26 u27 u28 u29 u30 u31 u32 u33 u34 u35 u36 u37 u38 u39 u40 u41 u42 u43 u44 u45 u46 u47 u48 u49 u50 u51 u52 u53 u54 u55 u56 u57 u58 u59 u60 u61 u62 u63 u64 u65 u66 u67 u68 u69 u70 u71 u72 u73 u74 u75 u76 u77 u78:aB)
  (h2:dG W b2 #[aD aC me,y1,y2,ak so sn sc,y4,y5] 33) (hx:∀ x,Below W.heap.size W x->∀ j u,(ji z)[j]?=V u->x.cell? ((⟨b3,0,X⟩:aS).add j)=V u) (hs:vR W (ak so sn sc) l) (hat:at_<=l.length) (hlen:l.length<=900)
  (hQ:∀ (x:aH) (v29 v30 v31 v32 v33 v34 v35 v36 v37 v38 v39 v40 v41 v42 v43 v44:aB),dG x b2 #[aD aC me,y1,y2,v43,y4,y5] 33->qY x W.heap.size v43 (l.take at_++[z]++l.drop at_)->(∀ B,B<=b2->Below B W x)->(∀ c cs t,c≠b2->dG W c cs t->dG x c cs t)->(∀ k,k<W.heap.size->k≠b2->x.heap[k]?=W.heap[k]?)->Q .normal ⟨(u0::u1::L (V ⟨b2,0,X⟩)::L (V ⟨b3,0,X⟩)::u4::u5::aD aC (at_:Int)::u7::u8::u9::u10::u11::u12::u13::u14::u15::u16::u17::u18::u19::u20::u21::u22::u23::u24::u25::u26::u27::u28::v29::v30::v31::v32::v33::v34::v35::v36::v37::v38::v39::v40::v41::v42::v43::v44::u45::u46::u47::u48::u49::u50::u51::u52::u53::u54::u55::u56::u57::u58::u59::u60::u61::u62::u63::u64::u65::u66::u67::u68::u69::u70::u71::u72::u73::u74::u75::u76::u77::u78::[]).toArray,[]⟩ x) :
  Code.wp aA Xo Q ⟨(u0::u1::L (V ⟨b2,0,X⟩)::L (V ⟨b3,0,X⟩)::u4::u5::aD aC (at_:Int)::u7::u8::u9::u10::u11::u12::u13::u14::u15::u16::u17::u18::u19::u20::u21::u22::u23::u24::u25::u26::u27::u28::u29::u30::u31::u32::u33::u34::u35::u36::u37::u38::u39::u40::u41::u42::u43::u44::u45::u46::u47::u48::u49::u50::u51::u52::u53::u54::u55::u56::u57::u58::u59::u60::u61::u62::u63::u64::u65::u66::u67::u68::u69::u70::u71::u72::u73::u74::u75::u76::u77::u78::[]).toArray,[]⟩ W:=by
 have HQ:=aj hQ;have H2:=aj h2;have LX:=aj hx;obtain⟨lo,AA,uz⟩:=tV Am hs at_ (by omega);obtain⟨hiv,AJ,vS⟩:=oN Am hs (at_) hat;have LT:=aj (show (l.take at_).length<=1000 by rw [aF]; omega);have PU:=aj (show (l.take at_).length<=900 by rw [aF]; omega);have LD:=aj (show (l.drop (at_)).length<=1000 by rw [aL]; omega);generalize l.take at_=lt at *;generalize l.drop (at_)=ld at *;have SL:=aj AA;have SH:=aj AJ;have RL:=aj uz;have RH:=aj vS;clear hQ h2 hx hs AA AJ uz vS hat hlen;have iJ:=PS W.heap.size b2 b3 so sn sc at_ lo hiv z lt ld;unfold Xo
 conv=>arg 2; whnf
 have nd:∀ j,(j<29\/45<=j)->∀ i,i<16->(fun i=>29+i) i≠j:=by
  intro j hj i hi h;simp only at h;omega
 refine bg 17 16 (fun i=>29+i) (fun i=>if i=0 then 5 else if i=5 then 9 else if i=8 then 9 else if i=9 then 14 else 16) (Kc W.heap.size b2 b3 so sn sc at_ lo hiv z lt ld) (by kernel_rfl) (by kernel_rfl) rfl (by decide) (fun i j _ _ h=>by have h2:29+i=29+j:=h; omega) (fun i hi=>by show 29+i<79; omega) ?_ (fun _=>bn 1 (by kernel_rfl)) (fun kk o h1 h2=>by omega) ?_
 ·intro i o hi ho a x D hnd hc hD hb seen K hK;clear HQ;rcases (by omega:i=0\/i=1\/i=2\/i=3\/i=4\/i=5\/i=6\/i=7\/i=8\/i=9\/i=10\/i=11\/i=12\/i=13\/i=14\/i=15) with rfl|rfl|rfl|rfl|rfl|rfl|rfl|rfl|rfl|rfl|rfl|rfl|rfl|rfl|rfl|rfl
  ·cases ho;exact au rfl rfl (bf a.eval _ 29 0 #[] rfl rfl (by simp [go_sem])) (hK (ak (V ⟨x.heap.size,0,X⟩) 0 0) (x.alloc (.cells #[] 38)) ⟨x.heap.size,rfl,hb.size,dI x #[] 38⟩ ((J _ _).alloc hb.size _) fun j u _ _ _ _ _ h=>iJ j u _ _ h ((J _ _).alloc (aK _) _))
  ·cases ho;have e2:a.eval (O 2)=L (V ⟨b2,0,X⟩):=seen.kp 2 _ (nd 2 (by omega)) rfl;exact au rfl rfl (aQ a.eval _ 33 (O 2) 3 rfl (by rw [e2]; simp [go_sem])) (hK _ _ rfl (J _ _) fun _ _ _ _ _ _ _ h=>h)
  ·cases ho;have e30:a.eval (O 30)=L (V ⟨b2,3,X⟩):=seen.at_ ⟨1,.data⟩ (by simp) rfl (ay (by decide));have y:=(H2.out.on hb).cell 3;simp only [U,Y,Z] at y;exact au rfl rfl (aT a.eval _ 29 (O 30) rfl (by rw [e30]; simp [go_sem,y])) (hK _ _ rfl (J _ _) fun _ _ _ _ _ _ _ h=>h)
  ·cases ho;have e6:a.eval (O 6)=aD aC (at_:Int):=seen.kp 6 _ (nd 6 (by omega)) rfl;exact au rfl rfl (aW a.eval _ (O 6) rfl x) (hK _ _ e6 (J _ _) fun _ _ _ _ _ _ _ h=>h)
  ·cases ho;have e31:a.eval (O 31)=ak so sn sc:=seen.at_ ⟨2,.data⟩ (by simp) rfl (ay (by decide));have e32:a.eval (O 32)=aD aC (at_:Int):=seen.at_ ⟨3,.data⟩ (by simp) rfl (ay (by decide));exact au rfl rfl (aX a.eval _ 29 (O 31) X (V (O 32)) X rfl (by show (aG 29 (a.eval (O 31)) X (V (a.eval (O 32))) X).run aA x=.ok lo x; rw [e31,e32]; exact SL.out x)) (hK _ _ rfl (J _ _) fun _ _ _ _ _ _ _ h=>h)
  ·cases ho;obtain⟨g,q0,hBg,hbx⟩:=seen.at_ ⟨0,.data⟩ (by simp) rfl (aI rfl);have q0:a.eval (O 29)=ak (V ⟨g,0,X⟩) 0 0:=q0;have e33:a.eval (O 33)=lo:=seen.at_ ⟨4,.data⟩ (by simp) rfl (ay (by decide));obtain⟨v',x',r,o',gr⟩:=iA Am W.heap.size hbx hBg (RL.out.on hb) LT.out 29;exact au rfl rfl (aU a.eval _ (O 29) (O 33) 29 rfl q0 e33 r) (hK v' x' o' (gr.mono hb.size) fun j u _ _ _ _ _ h=>iJ j u _ _ h gr)
  ·cases ho;have e3:a.eval (O 3)=L (V ⟨b3,0,X⟩):=seen.kp 3 _ (nd 3 (by omega)) rfl;exact au rfl rfl (aQ a.eval _ 53 (O 3) 0 rfl (by rw [e3]; simp [go_sem])) (hK _ _ rfl (J _ _) fun _ _ _ _ _ _ _ h=>h)
  ·cases ho;have e35:a.eval (O 35)=L (V ⟨b3,0,X⟩):=seen.at_ ⟨6,.data⟩ (by simp) rfl (ay (by decide));exact au rfl rfl (aT a.eval _ 38 (O 35) rfl (by rw [e35]; exact Bp x _ z (LX.out x hb))) (hK _ _ rfl (J _ _) fun _ _ _ _ _ _ _ h=>h)
  ·cases ho;have e36:a.eval (O 36)=PD z:=seen.at_ ⟨7,.data⟩ (by simp) rfl (ay (by decide));have hl:=gH Am x [z] 1 rfl (by simp) (ji z).toArray (by simp [flat,EJ]);have hl:qY (x.alloc (.cells (ji z).toArray 38)) x.heap.size (ak (V ⟨x.heap.size,0,X⟩) 1 1) [z]:=hl;exact au rfl rfl (bf a.eval _ 29 1 #[(0,O 36)] rfl (ps:=#[(0,PD z)]) (by simp [e36]) (by simp [go_sem])) (hK (ak (V ⟨x.heap.size,0,X⟩) 1 1) (x.alloc (.cells (ji z).toArray 38)) (dx hl hb.size) ((J _ _).alloc hb.size _) fun j u _ _ _ _ _ h=>iJ j u _ _ h ((J _ _).alloc (aK _) _))
  ·cases ho;have o34:qY x W.heap.size (a.eval (O 34)) (lt):=seen.at_ ⟨5,.data⟩ (by simp) rfl (aI rfl);have o37:qY x W.heap.size (a.eval (O 37)) ([z]):=seen.at_ ⟨8,.data⟩ (by simp) rfl (aI rfl);have ox:=Row.dn o37;obtain⟨v',x',r,o',gr⟩:=fO Am W.heap.size o34 ox (by have:=LT.out; omega) (by simp) hb.size 29;exact au rfl rfl (aU a.eval _ (O 34) (O 37) 29 rfl rfl rfl r) (hK v' x' o' ((J _ x).grown gr hb.size fun j hj=>(o34.lt j hj).1) fun j u hj dj nl nx ni h=>by
    rcases (by omega:j=0\/j=1\/j=2\/j=3\/j=4\/j=5\/j=6\/j=7\/j=8\/j=9\/j=10\/j=11\/j=12\/j=13\/j=14\/j=15) with rfl|rfl|rfl|rfl|rfl|rfl|rfl|rfl|rfl|rfl|rfl|rfl|rfl|rfl|rfl|rfl
    ·exact absurd rfl (fun _:(0:Nat)=0=>nl (hc 5 _ (hD ⟨5,.data⟩ (by simp) rfl) rfl ⟨0,.data⟩ (by simp) rfl |> fun _=>hD ⟨5,.data⟩ (by simp) rfl))
    ·exact h
    ·exact h
    ·exact h
    ·exact h
    ·exact absurd rfl (fun _:(0:Nat)=0=>nx rfl)
    ·exact h
    ·exact h
    ·exact absurd rfl (fun _:(0:Nat)=0=>nx rfl)
    ·exact absurd rfl (fun _:(0:Nat)=0=>ni rfl)
    ·exact h
    ·exact h
    ·exact h
    ·exact h
    ·exact absurd rfl (fun _:(0:Nat)=0=>hnd (hc 14 _ dj rfl ⟨9,.data⟩ (by simp) rfl))
    ·exact h)
  ·cases ho;have e2:a.eval (O 2)=L (V ⟨b2,0,X⟩):=seen.kp 2 _ (nd 2 (by omega)) rfl;exact au rfl rfl (aQ a.eval _ 33 (O 2) 3 rfl (by rw [e2]; simp [go_sem])) (hK _ _ rfl (J _ _) fun _ _ _ _ _ _ _ h=>h)
  ·cases ho;have e39:a.eval (O 39)=L (V ⟨b2,3,X⟩):=seen.at_ ⟨10,.data⟩ (by simp) rfl (ay (by decide));have y:=(H2.out.on hb).cell 3;simp only [U,Y,Z] at y;exact au rfl rfl (aT a.eval _ 29 (O 39) rfl (by rw [e39]; simp [go_sem,y])) (hK _ _ rfl (J _ _) fun _ _ _ _ _ _ _ h=>h)
  ·cases ho;have e6:a.eval (O 6)=aD aC (at_:Int):=seen.kp 6 _ (nd 6 (by omega)) rfl;exact au rfl rfl (aW a.eval _ (O 6) rfl x) (hK _ _ e6 (J _ _) fun _ _ _ _ _ _ _ h=>h)
  ·cases ho;have e40:a.eval (O 40)=ak so sn sc:=seen.at_ ⟨11,.data⟩ (by simp) rfl (ay (by decide));have e41:a.eval (O 41)=aD aC (at_:Int):=seen.at_ ⟨12,.data⟩ (by simp) rfl (ay (by decide));exact au rfl rfl (aX a.eval _ 29 (O 40) (V (O 41)) X X rfl (by show (aG 29 (a.eval (O 40)) (V (a.eval (O 41))) X X).run aA x=.ok hiv x; rw [e40,e41]; exact SH.out x)) (hK _ _ rfl (J _ _) fun _ _ _ _ _ _ _ h=>h)
  ·cases ho;have o38:qY x W.heap.size (a.eval (O 38)) ((lt++[z])):=seen.at_ ⟨9,.data⟩ (by simp) rfl (aI rfl);have e42:a.eval (O 42)=hiv:=seen.at_ ⟨13,.data⟩ (by simp) rfl (ay (by decide));have ox:vR x (a.eval (O 42)) ld:=by rw [e42]; exact RH.out.on hb
   obtain⟨v',x',r,o',gr⟩:=fO Am W.heap.size o38 ox (by have:=PU.out; rw [aO,aN]; omega) LD.out hb.size 29;exact au rfl rfl (aU a.eval _ (O 38) (O 42) 29 rfl rfl rfl r) (hK v' x' o' ((J _ x).grown gr hb.size fun j hj=>(o38.lt j hj).1) fun j u hj dj nl nx ni h=>by
    rcases (by omega:j=0\/j=1\/j=2\/j=3\/j=4\/j=5\/j=6\/j=7\/j=8\/j=9\/j=10\/j=11\/j=12\/j=13\/j=14\/j=15) with rfl|rfl|rfl|rfl|rfl|rfl|rfl|rfl|rfl|rfl|rfl|rfl|rfl|rfl|rfl|rfl
    ·exact absurd rfl (fun _:(0:Nat)=0=>nl (hc 9 _ (hD ⟨9,.data⟩ (by simp) rfl) rfl ⟨5,.data⟩ (by simp) rfl))
    ·exact h
    ·exact h
    ·exact h
    ·exact h
    ·exact absurd rfl (fun _:(0:Nat)=0=>nl (hD ⟨9,.data⟩ (by simp) rfl))
    ·exact h
    ·exact h
    ·exact absurd rfl (fun _:(0:Nat)=0=>nl (hD ⟨9,.data⟩ (by simp) rfl))
    ·exact absurd rfl (fun _:(0:Nat)=0=>nx rfl)
    ·exact h
    ·exact h
    ·exact h
    ·exact h
    ·exact absurd rfl (fun _:(0:Nat)=0=>ni rfl)
    ·exact h)
  ·cases ho;have e2:a.eval (O 2)=L (V ⟨b2,0,X⟩):=seen.kp 2 _ (nd 2 (by omega)) rfl;exact au rfl rfl (aQ a.eval _ 33 (O 2) 3 rfl (by rw [e2]; simp [go_sem])) (hK _ _ rfl (J _ _) fun _ _ _ _ _ _ _ h=>h)
 ·intro a w' df sz kp ⟨vs,hv⟩ hb;have gr:a.tmps[43]?=V (vs 14):=(hv 14 (by omega)).1;have gp:a.tmps[44]?=V (L (V ⟨b2,3,X⟩)):=by
   have h:vs 15=L (V ⟨b2,3,X⟩):=(hv 15 (by omega)).2 (by decide);rw [<- h];exact (hv 15 (by omega)).1
  have oR:qY w' W.heap.size (vs 14) (lt++[z]++ld):=(hv 14 (by omega)).2 (by decide);generalize vs 14=xR at *;obtain⟨ca,cp,eR⟩:=(Row.dn oR).len;have hbx:=H2.out.on hb;have hblt:=H2.out.lt;have c5:=hbx.cell 3;have f5:=hbx.fr 3;simp only [U,Y,Z] at c5;have hb1:=dO (k:=3) hbx xR;show aY _ _ _ 1 16 a w';simp only [aY];refine bA 29 (O 44) (O 43) rfl rfl rfl rfl (aZ gp) (aZ gr) (w':=w'.setCell ⟨b2,3,X⟩ xR) (by rw [eR]; simp [go_sem,c5,f5]) ?_;have qF:∀ j,(j<29\/45<=j)->a.tmps[j]?=(u0::u1::L (V ⟨b2,0,X⟩)::L (V ⟨b3,0,X⟩)::u4::u5::aD aC (at_:Int)::u7::u8::u9::u10::u11::u12::u13::u14::u15::u16::u17::u18::u19::u20::u21::u22::u23::u24::u25::u26::u27::u28::u29::u30::u31::u32::u33::u34::u35::u36::u37::u38::u39::u40::u41::u42::u43::u44::u45::u46::u47::u48::u49::u50::u51::u52::u53::u54::u55::u56::u57::u58::u59::u60::u61::u62::u63::u64::u65::u66::u67::u68::u69::u70::u71::u72::u73::u74::u75::u76::u77::u78::[])[j]?:=fun j hj=>(kp j (nd j hj)).trans U;obtain⟨mid,hmid,rfl⟩:=bC 29 16 df sz (by simp) qF
  match mid,hmid with
  | [v29,v30,v31,v32,v33,v34,v35,v36,v37,v38,v39,v40,v41,v42,v43,v44],_ =>
   have e1:V v43=V xR:=gr;obtain rfl:=aM e1;refine HQ.out _ v29 v30 v31 v32 v33 v34 v35 v36 v37 v38 v39 v40 v41 v42 v43 v44 ?_ ?_ ?_ ?_ ?_
   ·simpa using hb1
   ·exact dW oR b2 3 _ hblt
   ·exact fun B hB=>(hb.mono (aR (aJ hB hblt))).setCell hB _
   ·intro c cs t hc hbc;exact (ah _ _ _ _ hc).trans (hbc.on hb)
   ·intro k hk hne;exact (ah _ _ _ _ hne).trans (hb.block k hk)
def Dy (B b2 _b3:Nat) (so:Option aS) (sn sc at_:Nat) (lo hiv:aB) (z:jv) (lt ld:List jv) (i:Nat) (v:aB) (x:aH):Prop :=
 match i with
 | 0=>∃ g,v=ak (V ⟨g,0,X⟩) 0 0/\B<=g/\dG x g #[] 53
 | 1=>v=L (V ⟨b2,2,X⟩)
 | 2=>v=ak so sn sc
 | 3=>v=aD aC (at_:Int)
 | 4=>v=lo
 | 5=>kR x B v lt
 | 6=>v=mD z
 | 7=>kR x B v [z]
 | 8=>kR x B v (lt++[z])
 | 9=>v=L (V ⟨b2,2,X⟩)
 | 10=>v=ak so sn sc
 | 11=>v=aD aC (at_:Int)
 | 12=>v=hiv
 | 13=>kR x B v (lt++[z]++ld)
 | 14=>v=L (V ⟨b2,2,X⟩)
 | _=>True
noncomputable def PV:Code:=((Tryz.f60.body.bind (eu 10)).getD .skip)
theorem MU (B b2 b3:Nat) (so:Option aS) (sn sc at_:Nat) (lo hiv:aB) (z:jv) (lt ld:List jv) (i:Nat) (v:aB) (x x':aH) (h:Dy B b2 b3 so sn sc at_ lo hiv z lt ld i v x) (hb:Below x.heap.size x x'):Dy B b2 b3 so sn sc at_ lo hiv z lt ld i v x':=by
 by_cases hi:i<15
 ·rcases (by omega:i=0\/i=1\/i=2\/i=3\/i=4\/i=5\/i=6\/i=7\/i=8\/i=9\/i=10\/i=11\/i=12\/i=13\/i=14) with rfl|rfl|rfl|rfl|rfl|rfl|rfl|rfl|rfl|rfl|rfl|rfl|rfl|rfl|rfl
  ·obtain⟨g,h1,h2,h3⟩:=h;exact⟨g,h1,h2,h3.on hb⟩
  ·exact h
  ·exact h
  ·exact h
  ·exact h
  ·exact dh h hb
  ·exact h
  ·exact dh h hb
  ·exact dh h hb
  ·exact h
  ·exact h
  ·exact h
  ·exact h
  ·exact dh h hb
  ·exact h
 ·unfold Dy
  split <;> first | omega | trivial
theorem abJ (Q:Exit->Act->aH->Prop) (W:aH) (b2 b3:Nat) (me:Int) (y1 y3 y4 y5:aB) (so:Option aS) (sn sc at_:Nat) (l:List jv) (z:jv) (u0 u1 u4 u5 u7 u8 u9 u10 u11 u12 u13 u14 u15 u16 u17 u18 u19 u20 u21 u22 u23 u24 u25 u26 u27 u28 u29 u30 u31 u32 u33 u34 u35 u36 u37 u38 u39 u40 u41 u42 u43 u44 u45 u46 u47 u48 u49 u50 u51 u52 u53 u54 u55 u56 u57 u58 u59 u60 u61 u62 u63 u64 u65 u66 u67 u68 u69 u70 u71 u72 u73 u74 u75 u76 u77 u78:aB)
  (h2:dG W b2 #[aD aC me,y1,ak so sn sc,y3,y4,y5] 33) (hx:∀ x,Below W.heap.size W x->∀ j u,(cellsD z)[j]?=V u->x.cell? ((⟨b3,0,X⟩:aS).add j)=V u) (hs:uH W (ak so sn sc) l) (hat:at_<=l.length) (hlen:l.length<=900)
  (hQ:∀ (x:aH) (v63 v64 v65 v66 v67 v68 v69 v70 v71 v72 v73 v74 v75 v76 v77:aB),dG x b2 #[aD aC me,y1,v76,y3,y4,y5] 33->kR x W.heap.size v76 (l.take at_++[z]++l.drop at_)->(∀ B,B<=b2->Below B W x)->(∀ c cs t,c≠b2->dG W c cs t->dG x c cs t)->(∀ k,k<W.heap.size->k≠b2->x.heap[k]?=W.heap[k]?)->Q .normal ⟨(u0::u1::L (V ⟨b2,0,X⟩)::L (V ⟨b3,0,X⟩)::u4::u5::aD aC (at_:Int)::u7::u8::u9::u10::u11::u12::u13::u14::u15::u16::u17::u18::u19::u20::u21::u22::u23::u24::u25::u26::u27::u28::u29::u30::u31::u32::u33::u34::u35::u36::u37::u38::u39::u40::u41::u42::u43::u44::u45::u46::u47::u48::u49::u50::u51::u52::u53::u54::u55::u56::u57::u58::u59::u60::u61::u62::v63::v64::v65::v66::v67::v68::v69::v70::v71::v72::v73::v74::v75::v76::v77::u78::[]).toArray,[]⟩ x) :
  Code.wp aA PV Q ⟨(u0::u1::L (V ⟨b2,0,X⟩)::L (V ⟨b3,0,X⟩)::u4::u5::aD aC (at_:Int)::u7::u8::u9::u10::u11::u12::u13::u14::u15::u16::u17::u18::u19::u20::u21::u22::u23::u24::u25::u26::u27::u28::u29::u30::u31::u32::u33::u34::u35::u36::u37::u38::u39::u40::u41::u42::u43::u44::u45::u46::u47::u48::u49::u50::u51::u52::u53::u54::u55::u56::u57::u58::u59::u60::u61::u62::u63::u64::u65::u66::u67::u68::u69::u70::u71::u72::u73::u74::u75::u76::u77::u78::[]).toArray,[]⟩ W:=by
 have HQ:=aj hQ;have H2:=aj h2;have LX:=aj hx;obtain⟨lo,AA,uz⟩:=tV okD hs at_ (by omega);obtain⟨hiv,AJ,vS⟩:=oN okD hs (at_) hat;have LT:=aj (show (l.take at_).length<=1000 by rw [aF]; omega);have PU:=aj (show (l.take at_).length<=900 by rw [aF]; omega);have LD:=aj (show (l.drop (at_)).length<=1000 by rw [aL]; omega);generalize l.take at_=lt at *;generalize l.drop (at_)=ld at *;have SL:=aj AA;have SH:=aj AJ;have RL:=aj uz;have RH:=aj vS;clear hQ h2 hx hs AA AJ uz vS hat hlen;have iJ:=MU W.heap.size b2 b3 so sn sc at_ lo hiv z lt ld;unfold PV
 conv=>arg 2; whnf
 have nd:∀ j,(j<63\/78<=j)->∀ i,i<15->(fun i=>63+i) i≠j:=by
  intro j hj i hi h;simp only at h;omega
 refine bg 16 15 (fun i=>63+i) (fun i=>if i=0 then 5 else if i=5 then 8 else if i=7 then 8 else if i=8 then 13 else 15) (Dy W.heap.size b2 b3 so sn sc at_ lo hiv z lt ld) (by kernel_rfl) (by kernel_rfl) rfl (by decide) (fun i j _ _ h=>by have h2:63+i=63+j:=h; omega) (fun i hi=>by show 63+i<79; omega) ?_ (fun _=>bn 1 (by kernel_rfl)) (fun kk o h1 h2=>by omega) ?_
 ·intro i o hi ho a x D hnd hc hD hb seen K hK;clear HQ;rcases (by omega:i=0\/i=1\/i=2\/i=3\/i=4\/i=5\/i=6\/i=7\/i=8\/i=9\/i=10\/i=11\/i=12\/i=13\/i=14) with rfl|rfl|rfl|rfl|rfl|rfl|rfl|rfl|rfl|rfl|rfl|rfl|rfl|rfl|rfl
  ·cases ho;exact au rfl rfl (bf a.eval _ 28 0 #[] rfl rfl (by simp [go_sem])) (hK (ak (V ⟨x.heap.size,0,X⟩) 0 0) (x.alloc (.cells #[] 53)) ⟨x.heap.size,rfl,hb.size,dI x #[] 53⟩ ((J _ _).alloc hb.size _) fun j u _ _ _ _ _ h=>iJ j u _ _ h ((J _ _).alloc (aK _) _))
  ·cases ho;have e2:a.eval (O 2)=L (V ⟨b2,0,X⟩):=seen.kp 2 _ (nd 2 (by omega)) rfl;exact au rfl rfl (aQ a.eval _ 33 (O 2) 2 rfl (by rw [e2]; simp [go_sem])) (hK _ _ rfl (J _ _) fun _ _ _ _ _ _ _ h=>h)
  ·cases ho;have e64:a.eval (O 64)=L (V ⟨b2,2,X⟩):=seen.at_ ⟨1,.data⟩ (by simp) rfl (ay (by decide));have y:=(H2.out.on hb).cell 2;simp only [U,Y,Z] at y;exact au rfl rfl (aT a.eval _ 28 (O 64) rfl (by rw [e64]; simp [go_sem,y])) (hK _ _ rfl (J _ _) fun _ _ _ _ _ _ _ h=>h)
  ·cases ho;have e6:a.eval (O 6)=aD aC (at_:Int):=seen.kp 6 _ (nd 6 (by omega)) rfl;exact au rfl rfl (aW a.eval _ (O 6) rfl x) (hK _ _ e6 (J _ _) fun _ _ _ _ _ _ _ h=>h)
  ·cases ho;have e65:a.eval (O 65)=ak so sn sc:=seen.at_ ⟨2,.data⟩ (by simp) rfl (ay (by decide));have e66:a.eval (O 66)=aD aC (at_:Int):=seen.at_ ⟨3,.data⟩ (by simp) rfl (ay (by decide));exact au rfl rfl (aX a.eval _ 28 (O 65) X (V (O 66)) X rfl (by show (aG 28 (a.eval (O 65)) X (V (a.eval (O 66))) X).run aA x=.ok lo x; rw [e65,e66]; exact SL.out x)) (hK _ _ rfl (J _ _) fun _ _ _ _ _ _ _ h=>h)
  ·cases ho;obtain⟨g,q0,hBg,hbx⟩:=seen.at_ ⟨0,.data⟩ (by simp) rfl (aI rfl);have q0:a.eval (O 63)=ak (V ⟨g,0,X⟩) 0 0:=q0;have e67:a.eval (O 67)=lo:=seen.at_ ⟨4,.data⟩ (by simp) rfl (ay (by decide));obtain⟨v',x',r,o',gr⟩:=iA okD W.heap.size hbx hBg (RL.out.on hb) LT.out 28;exact au rfl rfl (aU a.eval _ (O 63) (O 67) 28 rfl q0 e67 r) (hK v' x' o' (gr.mono hb.size) fun j u _ _ _ _ _ h=>iJ j u _ _ h gr)
  ·cases ho;have e3:a.eval (O 3)=L (V ⟨b3,0,X⟩):=seen.kp 3 _ (nd 3 (by omega)) rfl;exact au rfl rfl (aT a.eval _ 53 (O 3) rfl (by rw [e3]; exact PG x _ z (LX.out x hb))) (hK _ _ rfl (J _ _) fun _ _ _ _ _ _ _ h=>h)
  ·cases ho;have e69:a.eval (O 69)=mD z:=seen.at_ ⟨6,.data⟩ (by simp) rfl (ay (by decide));have hl:=gH okD x [z] 1 rfl (by simp) (cellsD z).toArray (by simp [flat,ED]);have hl:kR (x.alloc (.cells (cellsD z).toArray 53)) x.heap.size (ak (V ⟨x.heap.size,0,X⟩) 1 1) [z]:=hl;exact au rfl rfl (bf a.eval _ 28 1 #[(0,O 69)] rfl (ps:=#[(0,mD z)]) (by simp [e69]) (by simp [go_sem])) (hK (ak (V ⟨x.heap.size,0,X⟩) 1 1) (x.alloc (.cells (cellsD z).toArray 53)) (dx hl hb.size) ((J _ _).alloc hb.size _) fun j u _ _ _ _ _ h=>iJ j u _ _ h ((J _ _).alloc (aK _) _))
  ·cases ho;have o68:kR x W.heap.size (a.eval (O 68)) (lt):=seen.at_ ⟨5,.data⟩ (by simp) rfl (aI rfl);have o70:kR x W.heap.size (a.eval (O 70)) ([z]):=seen.at_ ⟨7,.data⟩ (by simp) rfl (aI rfl);have ox:=Row.dn o70;obtain⟨v',x',r,o',gr⟩:=fO okD W.heap.size o68 ox (by have:=LT.out; omega) (by simp) hb.size 28;exact au rfl rfl (aU a.eval _ (O 68) (O 70) 28 rfl rfl rfl r) (hK v' x' o' ((J _ x).grown gr hb.size fun j hj=>(o68.lt j hj).1) fun j u hj dj nl nx ni h=>by
    rcases (by omega:j=0\/j=1\/j=2\/j=3\/j=4\/j=5\/j=6\/j=7\/j=8\/j=9\/j=10\/j=11\/j=12\/j=13\/j=14) with rfl|rfl|rfl|rfl|rfl|rfl|rfl|rfl|rfl|rfl|rfl|rfl|rfl|rfl|rfl
    ·exact absurd rfl (fun _:(0:Nat)=0=>nl (hc 5 _ (hD ⟨5,.data⟩ (by simp) rfl) rfl ⟨0,.data⟩ (by simp) rfl |> fun _=>hD ⟨5,.data⟩ (by simp) rfl))
    ·exact h
    ·exact h
    ·exact h
    ·exact h
    ·exact absurd rfl (fun _:(0:Nat)=0=>nx rfl)
    ·exact h
    ·exact absurd rfl (fun _:(0:Nat)=0=>nx rfl)
    ·exact absurd rfl (fun _:(0:Nat)=0=>ni rfl)
    ·exact h
    ·exact h
    ·exact h
    ·exact h
    ·exact absurd rfl (fun _:(0:Nat)=0=>hnd (hc 13 _ dj rfl ⟨8,.data⟩ (by simp) rfl))
    ·exact h)
  ·cases ho;have e2:a.eval (O 2)=L (V ⟨b2,0,X⟩):=seen.kp 2 _ (nd 2 (by omega)) rfl;exact au rfl rfl (aQ a.eval _ 33 (O 2) 2 rfl (by rw [e2]; simp [go_sem])) (hK _ _ rfl (J _ _) fun _ _ _ _ _ _ _ h=>h)
  ·cases ho;have e72:a.eval (O 72)=L (V ⟨b2,2,X⟩):=seen.at_ ⟨9,.data⟩ (by simp) rfl (ay (by decide));have y:=(H2.out.on hb).cell 2;simp only [U,Y,Z] at y;exact au rfl rfl (aT a.eval _ 28 (O 72) rfl (by rw [e72]; simp [go_sem,y])) (hK _ _ rfl (J _ _) fun _ _ _ _ _ _ _ h=>h)
  ·cases ho;have e6:a.eval (O 6)=aD aC (at_:Int):=seen.kp 6 _ (nd 6 (by omega)) rfl;exact au rfl rfl (aW a.eval _ (O 6) rfl x) (hK _ _ e6 (J _ _) fun _ _ _ _ _ _ _ h=>h)
  ·cases ho;have e73:a.eval (O 73)=ak so sn sc:=seen.at_ ⟨10,.data⟩ (by simp) rfl (ay (by decide));have e74:a.eval (O 74)=aD aC (at_:Int):=seen.at_ ⟨11,.data⟩ (by simp) rfl (ay (by decide));exact au rfl rfl (aX a.eval _ 28 (O 73) (V (O 74)) X X rfl (by show (aG 28 (a.eval (O 73)) (V (a.eval (O 74))) X X).run aA x=.ok hiv x; rw [e73,e74]; exact SH.out x)) (hK _ _ rfl (J _ _) fun _ _ _ _ _ _ _ h=>h)
  ·cases ho;have o71:kR x W.heap.size (a.eval (O 71)) ((lt++[z])):=seen.at_ ⟨8,.data⟩ (by simp) rfl (aI rfl);have e75:a.eval (O 75)=hiv:=seen.at_ ⟨12,.data⟩ (by simp) rfl (ay (by decide));have ox:uH x (a.eval (O 75)) ld:=by rw [e75]; exact RH.out.on hb
   obtain⟨v',x',r,o',gr⟩:=fO okD W.heap.size o71 ox (by have:=PU.out; rw [aO,aN]; omega) LD.out hb.size 28;exact au rfl rfl (aU a.eval _ (O 71) (O 75) 28 rfl rfl rfl r) (hK v' x' o' ((J _ x).grown gr hb.size fun j hj=>(o71.lt j hj).1) fun j u hj dj nl nx ni h=>by
    rcases (by omega:j=0\/j=1\/j=2\/j=3\/j=4\/j=5\/j=6\/j=7\/j=8\/j=9\/j=10\/j=11\/j=12\/j=13\/j=14) with rfl|rfl|rfl|rfl|rfl|rfl|rfl|rfl|rfl|rfl|rfl|rfl|rfl|rfl|rfl
    ·exact absurd rfl (fun _:(0:Nat)=0=>nl (hc 8 _ (hD ⟨8,.data⟩ (by simp) rfl) rfl ⟨5,.data⟩ (by simp) rfl))
    ·exact h
    ·exact h
    ·exact h
    ·exact h
    ·exact absurd rfl (fun _:(0:Nat)=0=>nl (hD ⟨8,.data⟩ (by simp) rfl))
    ·exact h
    ·exact absurd rfl (fun _:(0:Nat)=0=>nl (hD ⟨8,.data⟩ (by simp) rfl))
    ·exact absurd rfl (fun _:(0:Nat)=0=>nx rfl)
    ·exact h
    ·exact h
    ·exact h
    ·exact h
    ·exact absurd rfl (fun _:(0:Nat)=0=>ni rfl)
    ·exact h)
  ·cases ho;have e2:a.eval (O 2)=L (V ⟨b2,0,X⟩):=seen.kp 2 _ (nd 2 (by omega)) rfl;exact au rfl rfl (aQ a.eval _ 33 (O 2) 2 rfl (by rw [e2]; simp [go_sem])) (hK _ _ rfl (J _ _) fun _ _ _ _ _ _ _ h=>h)
 ·intro a w' df sz kp ⟨vs,hv⟩ hb;have gr:a.tmps[76]?=V (vs 13):=(hv 13 (by omega)).1;have gp:a.tmps[77]?=V (L (V ⟨b2,2,X⟩)):=by
   have h:vs 14=L (V ⟨b2,2,X⟩):=(hv 14 (by omega)).2 (by decide);rw [<- h];exact (hv 14 (by omega)).1
  have oR:kR w' W.heap.size (vs 13) (lt++[z]++ld):=(hv 13 (by omega)).2 (by decide);generalize vs 13=xR at *;obtain⟨ca,cp,eR⟩:=(Row.dn oR).len;have hbx:=H2.out.on hb;have hblt:=H2.out.lt;have c5:=hbx.cell 2;have f5:=hbx.fr 2;simp only [U,Y,Z] at c5;have hb1:=dO (k:=2) hbx xR;show aY _ _ _ 1 15 a w';simp only [aY];refine bA 28 (O 77) (O 76) rfl rfl rfl rfl (aZ gp) (aZ gr) (w':=w'.setCell ⟨b2,2,X⟩ xR) (by rw [eR]; simp [go_sem,c5,f5]) ?_;have qF:∀ j,(j<63\/78<=j)->a.tmps[j]?=(u0::u1::L (V ⟨b2,0,X⟩)::L (V ⟨b3,0,X⟩)::u4::u5::aD aC (at_:Int)::u7::u8::u9::u10::u11::u12::u13::u14::u15::u16::u17::u18::u19::u20::u21::u22::u23::u24::u25::u26::u27::u28::u29::u30::u31::u32::u33::u34::u35::u36::u37::u38::u39::u40::u41::u42::u43::u44::u45::u46::u47::u48::u49::u50::u51::u52::u53::u54::u55::u56::u57::u58::u59::u60::u61::u62::u63::u64::u65::u66::u67::u68::u69::u70::u71::u72::u73::u74::u75::u76::u77::u78::[])[j]?:=fun j hj=>(kp j (nd j hj)).trans U;obtain⟨mid,hmid,rfl⟩:=bC 63 15 df sz (by simp) qF
  match mid,hmid with
  | [v63,v64,v65,v66,v67,v68,v69,v70,v71,v72,v73,v74,v75,v76,v77],_ =>
   have e1:V v76=V xR:=gr;obtain rfl:=aM e1;refine HQ.out _ v63 v64 v65 v66 v67 v68 v69 v70 v71 v72 v73 v74 v75 v76 v77 ?_ ?_ ?_ ?_ ?_
   ·simpa using hb1
   ·exact dW oR b2 2 _ hblt
   ·exact fun B hB=>(hb.mono (aR (aJ hB hblt))).setCell hB _
   ·intro c cs t hc hbc;exact (ah _ _ _ _ hc).trans (hbc.on hb)
   ·intro k hk hne;exact (ah _ _ _ _ hne).trans (hb.block k hk)
def Ke (B b2 _b3:Nat) (so:Option aS) (sn sc at_:Nat) (lo hiv:aB) (lt ld:List jv) (i:Nat) (v:aB) (x:aH):Prop :=
 match i with
 | 0=>∃ g,v=ak (V ⟨g,0,X⟩) 0 0/\B<=g/\dG x g #[] 53
 | 1=>v=L (V ⟨b2,2,X⟩)
 | 2=>v=ak so sn sc
 | 3=>v=aD aC (at_:Int)
 | 4=>v=lo
 | 5=>kR x B v lt
 | 6=>v=L (V ⟨b2,2,X⟩)
 | 7=>v=ak so sn sc
 | 8=>v=aD aC (at_:Int)
 | 9=>v=aD aC ((at_:Int)+1)
 | 10=>v=hiv
 | 11=>kR x B v (lt++ld)
 | 12=>v=L (V ⟨b2,2,X⟩)
 | _=>True
noncomputable def Xp:Code:=((Tryz.f95.body.bind (eu 4)).getD .skip)
theorem PW (B b2 b3:Nat) (so:Option aS) (sn sc at_:Nat) (lo hiv:aB) (lt ld:List jv) (i:Nat) (v:aB) (x x':aH) (h:Ke B b2 b3 so sn sc at_ lo hiv lt ld i v x) (hb:Below x.heap.size x x'):Ke B b2 b3 so sn sc at_ lo hiv lt ld i v x':=by
 by_cases hi:i<13
 ·rcases (by omega:i=0\/i=1\/i=2\/i=3\/i=4\/i=5\/i=6\/i=7\/i=8\/i=9\/i=10\/i=11\/i=12) with rfl|rfl|rfl|rfl|rfl|rfl|rfl|rfl|rfl|rfl|rfl|rfl|rfl
  ·obtain⟨g,h1,h2,h3⟩:=h;exact⟨g,h1,h2,h3.on hb⟩
  ·exact h
  ·exact h
  ·exact h
  ·exact h
  ·exact dh h hb
  ·exact h
  ·exact h
  ·exact h
  ·exact h
  ·exact h
  ·exact dh h hb
  ·exact h
 ·unfold Ke
  split <;> first | omega | trivial
theorem ad7 (Q:Exit->Act->aH->Prop) (W:aH) (b2 b3:Nat) (me:Int) (y1 y3 y4 y5:aB) (so:Option aS) (sn sc at_:Nat) (l:List jv) (u0 u1 u2 u5 u6 u7 u9 u10 u11 u12 u13 u14 u15 u16 u17 u18 u19 u20 u21 u22 u23 u24 u25 u26 u27 u28 u29 u30 u31 u32 u33 u34 u35 u36 u37 u38 u39 u40 u41 u42 u43 u44 u45 u46 u47 u48 u49 u50 u51 u52 u53 u54 u55 u56 u57 u58 u59:aB)
  (h2:dG W b2 #[aD aC me,y1,ak so sn sc,y3,y4,y5] 33) (hs:uH W (ak so sn sc) l) (hat:at_+1<=l.length) (hlen:l.length<=900)
  (hQ:∀ (x:aH) (v28 v29 v30 v31 v32 v33 v34 v35 v36 v37 v38 v39 v40:aB),dG x b2 #[aD aC me,y1,v39,y3,y4,y5] 33->kR x W.heap.size v39 (l.take at_++l.drop (at_+1))->(∀ B,B<=b2->Below B W x)->(∀ c cs t,c≠b2->dG W c cs t->dG x c cs t)->(∀ k,k<W.heap.size->k≠b2->x.heap[k]?=W.heap[k]?)->Q .normal ⟨(u0::u1::u2::L (V ⟨b2,0,X⟩)::L (V ⟨b3,0,X⟩)::u5::u6::u7::aD aC (at_:Int)::u9::u10::u11::u12::u13::u14::u15::u16::u17::u18::u19::u20::u21::u22::u23::u24::u25::u26::u27::v28::v29::v30::v31::v32::v33::v34::v35::v36::v37::v38::v39::v40::u41::u42::u43::u44::u45::u46::u47::u48::u49::u50::u51::u52::u53::u54::u55::u56::u57::u58::u59::[]).toArray,[]⟩ x) :
  Code.wp aA Xp Q ⟨(u0::u1::u2::L (V ⟨b2,0,X⟩)::L (V ⟨b3,0,X⟩)::u5::u6::u7::aD aC (at_:Int)::u9::u10::u11::u12::u13::u14::u15::u16::u17::u18::u19::u20::u21::u22::u23::u24::u25::u26::u27::u28::u29::u30::u31::u32::u33::u34::u35::u36::u37::u38::u39::u40::u41::u42::u43::u44::u45::u46::u47::u48::u49::u50::u51::u52::u53::u54::u55::u56::u57::u58::u59::[]).toArray,[]⟩ W:=by
 have HQ:=aj hQ;have H2:=aj h2;have AT1:=aj (show at_<=900 by omega);obtain⟨lo,AA,uz⟩:=tV okD hs at_ (by omega);obtain⟨hiv,AJ,vS⟩:=oN okD hs (at_+1) hat;have LT:=aj (show (l.take at_).length<=1000 by rw [aF]; omega);have PU:=aj (show (l.take at_).length<=900 by rw [aF]; omega);have LD:=aj (show (l.drop (at_+1)).length<=1000 by rw [aL]; omega);generalize l.take at_=lt at *;generalize l.drop (at_+1)=ld at *;have SL:=aj AA;have SH:=aj (show ∀ w,(aG 28 (ak so sn sc) (V (aD aC ((at_:Int)+1))) X X).run aA w=.ok hiv w from AJ);have RL:=aj uz;have RH:=aj vS;clear hQ h2 hs AA AJ uz vS hat hlen;have iJ:=PW W.heap.size b2 b3 so sn sc at_ lo hiv lt ld;unfold Xp
 conv=>arg 2; whnf
 have nd:∀ j,(j<28\/41<=j)->∀ i,i<13->(fun i=>28+i) i≠j:=by
  intro j hj i hi h;simp only at h;omega
 refine bg 14 13 (fun i=>28+i) (fun i=>if i=0 then 5 else if i=5 then 11 else 13) (Ke W.heap.size b2 b3 so sn sc at_ lo hiv lt ld) (by kernel_rfl) (by kernel_rfl) rfl (by decide) (fun i j _ _ h=>by have h2:28+i=28+j:=h; omega) (fun i hi=>by show 28+i<60; omega) ?_ (fun _=>bn 1 (by kernel_rfl)) (fun kk o h1 h2=>by omega) ?_
 ·intro i o hi ho a x D hnd hc hD hb seen K hK;clear HQ;rcases (by omega:i=0\/i=1\/i=2\/i=3\/i=4\/i=5\/i=6\/i=7\/i=8\/i=9\/i=10\/i=11\/i=12) with rfl|rfl|rfl|rfl|rfl|rfl|rfl|rfl|rfl|rfl|rfl|rfl|rfl
  ·cases ho;exact au rfl rfl (bf a.eval _ 28 0 #[] rfl rfl (by simp [go_sem])) (hK (ak (V ⟨x.heap.size,0,X⟩) 0 0) (x.alloc (.cells #[] 53)) ⟨x.heap.size,rfl,hb.size,dI x #[] 53⟩ ((J _ _).alloc hb.size _) fun j u _ _ _ _ _ h=>iJ j u _ _ h ((J _ _).alloc (aK _) _))
  ·cases ho;have e3:a.eval (O 3)=L (V ⟨b2,0,X⟩):=seen.kp 3 _ (nd 3 (by omega)) rfl;exact au rfl rfl (aQ a.eval _ 33 (O 3) 2 rfl (by rw [e3]; simp [go_sem])) (hK _ _ rfl (J _ _) fun _ _ _ _ _ _ _ h=>h)
  ·cases ho;have e29:a.eval (O 29)=L (V ⟨b2,2,X⟩):=seen.at_ ⟨1,.data⟩ (by simp) rfl (ay (by decide));have y:=(H2.out.on hb).cell 2;simp only [U,Y,Z] at y;exact au rfl rfl (aT a.eval _ 28 (O 29) rfl (by rw [e29]; simp [go_sem,y])) (hK _ _ rfl (J _ _) fun _ _ _ _ _ _ _ h=>h)
  ·cases ho;have e8:a.eval (O 8)=aD aC (at_:Int):=seen.kp 8 _ (nd 8 (by omega)) rfl;exact au rfl rfl (aW a.eval _ (O 8) rfl x) (hK _ _ e8 (J _ _) fun _ _ _ _ _ _ _ h=>h)
  ·cases ho;have e30:a.eval (O 30)=ak so sn sc:=seen.at_ ⟨2,.data⟩ (by simp) rfl (ay (by decide));have e31:a.eval (O 31)=aD aC (at_:Int):=seen.at_ ⟨3,.data⟩ (by simp) rfl (ay (by decide));exact au rfl rfl (aX a.eval _ 28 (O 30) X (V (O 31)) X rfl (by show (aG 28 (a.eval (O 30)) X (V (a.eval (O 31))) X).run aA x=.ok lo x; rw [e30,e31]; exact SL.out x)) (hK _ _ rfl (J _ _) fun _ _ _ _ _ _ _ h=>h)
  ·cases ho;obtain⟨g,q0,hBg,hbx⟩:=seen.at_ ⟨0,.data⟩ (by simp) rfl (aI rfl);have q0:a.eval (O 28)=ak (V ⟨g,0,X⟩) 0 0:=q0;have e32:a.eval (O 32)=lo:=seen.at_ ⟨4,.data⟩ (by simp) rfl (ay (by decide));obtain⟨v',x',r,o',gr⟩:=iA okD W.heap.size hbx hBg (RL.out.on hb) LT.out 28;exact au rfl rfl (aU a.eval _ (O 28) (O 32) 28 rfl q0 e32 r) (hK v' x' o' (gr.mono hb.size) fun j u _ _ _ _ _ h=>iJ j u _ _ h gr)
  ·cases ho;have e3:a.eval (O 3)=L (V ⟨b2,0,X⟩):=seen.kp 3 _ (nd 3 (by omega)) rfl;exact au rfl rfl (aQ a.eval _ 33 (O 3) 2 rfl (by rw [e3]; simp [go_sem])) (hK _ _ rfl (J _ _) fun _ _ _ _ _ _ _ h=>h)
  ·cases ho;have e34:a.eval (O 34)=L (V ⟨b2,2,X⟩):=seen.at_ ⟨6,.data⟩ (by simp) rfl (ay (by decide));have y:=(H2.out.on hb).cell 2;simp only [U,Y,Z] at y;exact au rfl rfl (aT a.eval _ 28 (O 34) rfl (by rw [e34]; simp [go_sem,y])) (hK _ _ rfl (J _ _) fun _ _ _ _ _ _ _ h=>h)
  ·cases ho;have e8:a.eval (O 8)=aD aC (at_:Int):=seen.kp 8 _ (nd 8 (by omega)) rfl;exact au rfl rfl (aW a.eval _ (O 8) rfl x) (hK _ _ e8 (J _ _) fun _ _ _ _ _ _ _ h=>h)
  ·cases ho;have e36:a.eval (O 36)=aD aC (at_:Int):=seen.at_ ⟨8,.data⟩ (by simp) rfl (ay (by decide));exact au rfl rfl (Rg.Py a.eval _ .add 3 (O 36) (.const (aD aC 1)) 3 rfl (by rw [e36]; exact add_one _ _ _ _ at_ AT1.out)) (hK _ _ rfl (J _ _) fun _ _ _ _ _ _ _ h=>h)
  ·cases ho;have e35:a.eval (O 35)=ak so sn sc:=seen.at_ ⟨7,.data⟩ (by simp) rfl (ay (by decide));have e37:a.eval (O 37)=aD aC ((at_:Int)+1):=seen.at_ ⟨9,.data⟩ (by simp) rfl (ay (by decide));exact au rfl rfl (aX a.eval _ 28 (O 35) (V (O 37)) X X rfl (by show (aG 28 (a.eval (O 35)) (V (a.eval (O 37))) X X).run aA x=.ok hiv x; rw [e35,e37]; exact SH.out x)) (hK _ _ rfl (J _ _) fun _ _ _ _ _ _ _ h=>h)
  ·cases ho;have o33:kR x W.heap.size (a.eval (O 33)) (lt):=seen.at_ ⟨5,.data⟩ (by simp) rfl (aI rfl);have e38:a.eval (O 38)=hiv:=seen.at_ ⟨10,.data⟩ (by simp) rfl (ay (by decide));have ox:uH x (a.eval (O 38)) ld:=by rw [e38]; exact RH.out.on hb
   obtain⟨v',x',r,o',gr⟩:=fO okD W.heap.size o33 ox (by have:=PU.out; omega) LD.out hb.size 28;exact au rfl rfl (aU a.eval _ (O 33) (O 38) 28 rfl rfl rfl r) (hK v' x' o' ((J _ x).grown gr hb.size fun j hj=>(o33.lt j hj).1) fun j u hj dj nl nx ni h=>by
    rcases (by omega:j=0\/j=1\/j=2\/j=3\/j=4\/j=5\/j=6\/j=7\/j=8\/j=9\/j=10\/j=11\/j=12) with rfl|rfl|rfl|rfl|rfl|rfl|rfl|rfl|rfl|rfl|rfl|rfl|rfl
    ·exact absurd rfl (fun _:(0:Nat)=0=>nl (hD ⟨5,.data⟩ (by simp) rfl))
    ·exact h
    ·exact h
    ·exact h
    ·exact h
    ·exact absurd rfl (fun _:(0:Nat)=0=>nx rfl)
    ·exact h
    ·exact h
    ·exact h
    ·exact h
    ·exact h
    ·exact absurd rfl (fun _:(0:Nat)=0=>ni rfl)
    ·exact h)
  ·cases ho;have e3:a.eval (O 3)=L (V ⟨b2,0,X⟩):=seen.kp 3 _ (nd 3 (by omega)) rfl;exact au rfl rfl (aQ a.eval _ 33 (O 3) 2 rfl (by rw [e3]; simp [go_sem])) (hK _ _ rfl (J _ _) fun _ _ _ _ _ _ _ h=>h)
 ·intro a w' df sz kp ⟨vs,hv⟩ hb;have gr:a.tmps[39]?=V (vs 11):=(hv 11 (by omega)).1;have gp:a.tmps[40]?=V (L (V ⟨b2,2,X⟩)):=by
   have h:vs 12=L (V ⟨b2,2,X⟩):=(hv 12 (by omega)).2 (by decide);rw [<- h];exact (hv 12 (by omega)).1
  have oR:kR w' W.heap.size (vs 11) (lt++ld):=(hv 11 (by omega)).2 (by decide);generalize vs 11=xR at *;obtain⟨ca,cp,eR⟩:=(Row.dn oR).len;have hbx:=H2.out.on hb;have hblt:=H2.out.lt;have c5:=hbx.cell 2;have f5:=hbx.fr 2;simp only [U,Y,Z] at c5;have hb1:=dO (k:=2) hbx xR;show aY _ _ _ 1 13 a w';simp only [aY];refine bA 28 (O 40) (O 39) rfl rfl rfl rfl (aZ gp) (aZ gr) (w':=w'.setCell ⟨b2,2,X⟩ xR) (by rw [eR]; simp [go_sem,c5,f5]) ?_;have qF:∀ j,(j<28\/41<=j)->a.tmps[j]?=(u0::u1::u2::L (V ⟨b2,0,X⟩)::L (V ⟨b3,0,X⟩)::u5::u6::u7::aD aC (at_:Int)::u9::u10::u11::u12::u13::u14::u15::u16::u17::u18::u19::u20::u21::u22::u23::u24::u25::u26::u27::u28::u29::u30::u31::u32::u33::u34::u35::u36::u37::u38::u39::u40::u41::u42::u43::u44::u45::u46::u47::u48::u49::u50::u51::u52::u53::u54::u55::u56::u57::u58::u59::[])[j]?:=fun j hj=>(kp j (nd j hj)).trans U;obtain⟨mid,hmid,rfl⟩:=bC 28 13 df sz (by simp) qF
  match mid,hmid with
  | [v28,v29,v30,v31,v32,v33,v34,v35,v36,v37,v38,v39,v40],_ =>
   have e1:V v39=V xR:=gr;obtain rfl:=aM e1;refine HQ.out _ v28 v29 v30 v31 v32 v33 v34 v35 v36 v37 v38 v39 v40 ?_ ?_ ?_ ?_ ?_
   ·simpa using hb1
   ·exact dW oR b2 2 _ hblt
   ·exact fun B hB=>(hb.mono (aR (aJ hB hblt))).setCell hB _
   ·intro c cs t hc hbc;exact (ah _ _ _ _ hc).trans (hbc.on hb)
   ·intro k hk hne;exact (ah _ _ _ _ hne).trans (hb.block k hk)
end Bk
namespace Rg
open Go.RowKit
end Rg
end Go.Proofs.YtkcfgbddlpomgaaGreat
