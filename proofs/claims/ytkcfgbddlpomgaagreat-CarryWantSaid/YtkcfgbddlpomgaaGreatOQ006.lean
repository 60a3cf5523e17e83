/-
  Small things for reg. Conditions as told.
-/
import Derived.Test.YtkcfgbddlpomgaaGreatOQ005
import Derived.Lib.QuietBelow
import Derived.BigQuiet
import Derived.ChangeSlices
import Derived.Below
set_option maxRecDepth 100000
set_option maxHeartbeats 64000000
open _root_.Bool renaming and_eq_true->aK,true->aR,false->bO
open _root_.Go renaming Value->aB,World->aG,Addr->aY,TypeId->aZ,Operand->bM
open Go.Instr renaming sliceAt->aI,indexAt->bA
open Go.IntKind renaming i64->aC
open Go.Lib renaming hid->ak
open Go.Operand renaming tmp->O
open Go.Proofs.Tryz renaming prog->ay,underlying25->aX
open Go.Proofs.YtkcfgbddlpomgaaGreat.Rg renaming dD->au,dX->aV,dZ->bf,gq->bg,fQ->bI,kD->bJ,fF->bK,dK->bL,iQ->bN,fM->bQ,gF->bR
open Go.Region renaming binds->aL
open Go.RowKit.Below renaming refl->J,heap_setCell->ah
open Go.Value renaming pointer->L,slice->aj,int->aF
open _root_.List renaming getElem?_toArray->U,getElem?_cons_zero->Y,getElem?_cons_succ->Z,length_take->aH,pairwise_cons->aO,mem_cons->aP,length_drop->aQ,length_singleton->aS,mem_map_of_mem->aT,length_append->aU
open _root_.Nat renaming le_refl->aJ,lt_of_le_of_lt->aN,le_of_lt->aW,le_trans->bF,zero_le->bH
open _root_.Option renaming some->V,none->X
open Option.some renaming inj->aD
open _root_.Or renaming inr->aA,inl->aM
namespace Go.Proofs.YtkcfgbddlpomgaaGreat
namespace Rg
open Go.RowKit
theorem fP {P:Program} {ops:Array Oper} {Q:Exit->Act->aG->Prop} {K:Act->aG->Prop} {a:Act} {w w':aG} {i:Nat} {o:Oper} (t:aZ) (x y:bM) {p v:aB}
  (ho:ops[i]?=V o) (hg:o.guard=X) (hop:o.op=.store t x y) (hd:o.dst=X) (hx:a.eval x=p) (hy:a.eval y=v) (hr:(Instr.storeAt t p v).run P w=.ok () w') (h:K a w'):wpOp P ops Q i K a w:=by
 refine Ym ho hg (Sy a.eval o t x y hop (by rw [hx,hy]; exact hr)) ?_;rw [hd];exact h
def Fp (l:List Oper) (i:Nat):List Nat:=match l[i]? with
 | some o=>(o.after.toList.filter fun e=>aL .any e).map fun e=>e.on
 | none=>[]
def Kq (l:List Oper):Nat->List Nat->List Nat
 | 0,s=>s
 | n+1,s=>Kq l n (s++s.flatMap (Fp l))
theorem MS {l:List Oper} {D:Nat->Prop} {i:Nat} (h:∀ o,l[i]?=V o->∀ e∈o.after,aL .any e=aR->D e.on):∀ j∈Fp l i,D j:=by
 intro j hj;unfold Fp at hj;cases ho:l[i]? with
 | none=>rw [ho] at hj; cases hj
 | some o =>
  rw [ho] at hj;obtain⟨e,he,rfl⟩:=List.mem_map.1 hj;obtain⟨h1,h2⟩:=List.mem_filter.1 he;exact h o ho e (Array.mem_toList_iff.1 h1) h2
theorem Hz {l:List Oper} {D:Nat->Prop} (hc:∀ j o,D j->l[j]?=V o->∀ e∈o.after,aL .any e=aR->D e.on):∀ n s,(∀ j∈s,D j)->∀ j∈Kq l n s,D j
 | 0,_,hs=>hs
 | n+1,s,hs=>Hz hc n _ fun j hj=>by
  rcases List.mem_append.1 hj with h|h
  ·exact hs j h
  ·obtain⟨i,hi,hd⟩:=List.mem_flatMap.1 h;exact MS (fun o ho=>hc i o (hs i hi) ho) j hd
theorem jq {l:List Oper} {M:Nat} (n:Nat) (h:(List.range M).all (fun i=>(Kq l n (Fp l M)).contains i)=aR) (D:Nat->Prop) (hc:∀ j o,D j->l[j]?=V o->∀ e∈o.after,aL .any e=aR->D e.on) (hm:∀ o,l[M]?=V o->∀ e∈o.after,aL .any e=aR->D e.on):∀ i,i<M->D i:=by
 intro i hi;have h2:=List.all_eq_true.1 h i (List.mem_range.2 hi);exact Hz hc n _ (MS hm) i (List.contains_iff_mem.1 h2)
theorem wD {P:Program} (ρ:bM->aB) (o:Oper) (t:aZ) (ho:o.op=.alloc t) {v:aB} {w w':aG} (hr:(Instr.alloc t aR (.tuple #[])).run P w=.ok v w'):(execOp ρ o).run P w=.ok (.value v) w':=by
 simp [execOp,ho,hr,Result.andThen]
end Rg
namespace Rw
open Go.RowKit
theorem gK {α:Type} {E:Ek α} (K:E.Ok) {w:aG} (B:Nat) {g:Nat} {x:aB} {m:List α} (ku:dN w g #[] E.t) (hBg:B<=g) (hx:Row E w x m) (hm:m.length<=1000) (ty:aZ) :
  ∃ v' w',(Builtin.append_ #[E.ts,E.ts] ty #[aj (V ⟨g,0,X⟩) 0 0,x]).run ay w=.ok v' w'/\Own E w' B v' m/\Below w.heap.size w w':=by
 have ho:Own E w B (aj (V ⟨g,0,X⟩) 0 0) ([]:List α):=qW K rfl hBg ku (aJ _) (bH _) (by simp) (by simp [flat]);have hl:=ku.lt;obtain⟨v',w',r,o',gr⟩:=gG K B ho hx (by simp) hm (by omega) ty;refine⟨v',w',r,by simpa using o',?_⟩;obtain⟨i,i1,i2,i3,i4⟩:=K.info;rcases hx with⟨rfl,rfl⟩|⟨ad,c,rfl,h2,h3,h4⟩
 ·have r2:=run_append_owned_none (P:=ay) (w:=w) B E.ts ty E.t i E.n K.hu i1 _ _ _ ho;rw [r2] at r;injection r with _ e
  rw [<- e];exact J _ _
 ·rcases Nat.eq_zero_or_pos m.length with h0|h0
  ·have r2:=run_append_room (P:=ay) (w:=w) E.ts ty E.t i K.hu i1 g 0 0 #[] ku ad m.length c (flat E m) (by rw [eF K,i3]) h4 (oU K m) (by omega) (by rw [eF K,h0]; simp);rw [r2] at r;injection r with _ e
   rw [<- e];have hf:flat E m=[]:=List.eq_nil_of_length_eq_zero (by rw [eF K,h0]; simp);have hs:=dN.set ku ((#[]:Array aB).toList.take (0 * i.size)++flat E m++(#[]:Array aB).toList.drop (0 * i.size+(flat E m).length)).toArray;refine⟨rfl,rfl,rfl,by simp [World.setRow],fun k hk=>?_⟩;by_cases hkg:k=g
   ·subst hkg;refine hs.trans ?_;rw [hf];simpa using ku.symm
   ·exact setRow_other w g k _ hkg
  ·have r2:=run_append_grow (P:=ay) (w:=w) E.ts ty E.t i E.z K.hu i1 i2 ⟨g,0,X⟩ 0 0 [] (by simp) (fun j v h=>by simp at h) ad m.length c (flat E m) (by rw [eF K,i3]) h4 (by omega) (by omega) (by
    rw [Nat.zero_add,nextslicecap_zero h0,i4];exact bF (Nat.mul_le_mul hm K.few) (by decide))
   rw [r2] at r;injection r with _ e
   rw [<- e];exact (J _ _).drew.alloc (aJ _) _
end Rw
namespace Bk
open Go.RowKit Rw
theorem dJ {α:Type} {E:Ek α} {W:aG} {B C:Nat} {v:aB} {l:List α} (h:Own E W B v l) (hc:C<=B):Own E W C v l:=by
 refine⟨h.1,?_⟩;rcases h.2 with h2|⟨g,cap,cur,h1,h2,h3⟩
 ·exact aM h2
 ·exact aA ⟨g,cap,cur,h1,bF hc h2,h3⟩
theorem dG {α:Type} {E:Ek α} {W W':aG} {B:Nat} {v:aB} {l:List α} (h:Own E W B v l) (hb:Below W.heap.size W W'):Own E W' B v l :=
 h.kept (w':=W') (row:=X) ⟨hb.os,hb.tape,hb.output,hb.size,fun k hk _=>hb.block k hk⟩ (by cases v.ownBlock <;> simp)
theorem dP {α:Type} {E:Ek α} {W:aG} {B:Nat} {v:aB} {l:List α} (h:Own E W B v l) (b k:Nat) (x:aB) (hb:b<B):Own E (W.setCell ⟨b,k,X⟩ x) B v l :=
 h.kept (w':=W.setCell ⟨b,k,X⟩ x) (row:=V b) ⟨rfl,rfl,rfl,by simp [World.setCell],fun j _ hne=>ah _ _ _ _ (fun e=>hne (by rw [e]))⟩ (by
  cases hv:v.ownBlock with
  | none=>exact aM rfl
  | some j =>
   refine aA fun e=>?_;injection e with e
   have h1:=(h.lt j hv).1;omega)
theorem add_one (x y:bM) (t:aZ) (w:aG) (k:Nat) (hk:k<=900):(do eqGuard .add t x y (aF aC k) (aF aC 1); binOp .add t (aF aC k) (aF aC 1):Sem aB).run ay w=.ok (aF aC ((k:Int)+1)) w:=by
 have h:IntKind.i64.wrap ((k:Int)+1)=(k:Int)+1:=IntWalk.i64_in _ (by omega);simp [eqGuard,binOp,Op.intArith,go_sem,h]
theorem dR {W:aG} {rb k:Nat} {cs:Array aB} {t:aZ} (h:dN W rb cs t) (x:aB):dN (W.setCell ⟨rb,k,X⟩ x) rb (cs.setIfInBounds k x) t:=heap_setCell_same W rb k cs t x h
end Bk
namespace Bk
open Go.RowKit Rw YtkcfgbddlpomgaaGreat.Nm Pr
def MU (B b2 b3:Nat) (so:Option aY) (sn sc at_:Nat) (lo hiv:aB) (z:eT) (lt ld:List eT) (i:Nat) (v:aB) (x:aG):Prop :=
 match i with
 | 0=>∃ g,v=aj (V ⟨g,0,X⟩) 0 0/\B<=g/\dN x g #[] 38
 | 1=>v=L (V ⟨b2,3,X⟩)
 | 2=>v=aj so sn sc
 | 3=>v=aF aC (at_:Int)
 | 4=>v=lo
 | 5=>qY x B v lt
 | 6=>v=L (V ⟨b3,0,X⟩)
 | 7=>v=SF z
 | 8=>qY x B v [z]
 | 9=>qY x B v (lt++[z])
 | 10=>v=L (V ⟨b2,3,X⟩)
 | 11=>v=aj so sn sc
 | 12=>v=aF aC (at_:Int)
 | 13=>v=hiv
 | 14=>qY x B v (lt++[z]++ld)
 | 15=>v=L (V ⟨b2,3,X⟩)
 | _=>True
noncomputable def aag:Code:=((Tryz.f60.body.bind (eP 6)).getD .skip)
theorem SI (B b2 b3:Nat) (so:Option aY) (sn sc at_:Nat) (lo hiv:aB) (z:eT) (lt ld:List eT) (i:Nat) (v:aB) (x x':aG) (h:MU B b2 b3 so sn sc at_ lo hiv z lt ld i v x) (hb:Below x.heap.size x x'):MU B b2 b3 so sn sc at_ lo hiv z lt ld i v x':=by
 by_cases hi:i<16
 ·rcases (by omega:i=0\/i=1\/i=2\/i=3\/i=4\/i=5\/i=6\/i=7\/i=8\/i=9\/i=10\/i=11\/i=12\/i=13\/i=14\/i=15) with rfl|rfl|rfl|rfl|rfl|rfl|rfl|rfl|rfl|rfl|rfl|rfl|rfl|rfl|rfl|rfl
  ·obtain⟨g,h1,h2,h3⟩:=h;exact⟨g,h1,h2,h3.on hb⟩
  ·exact h
  ·exact h
  ·exact h
  ·exact h
  ·exact dG h hb
  ·exact h
  ·exact h
  ·exact dG h hb
  ·exact dG h hb
  ·exact h
  ·exact h
  ·exact h
  ·exact h
  ·exact dG h hb
  ·exact h
 ·unfold MU
  split <;> first | omega | trivial
theorem ahS (Q:Exit->Act->aG->Prop) (W:aG) (b2 b3:Nat) (me:Int) (y1 y2 y4 y5:aB) (so:Option aY) (sn sc at_:Nat) (l:List eT) (z:eT) (u0 u1 u4 u5 u7 u8 u9 u10 u11 u12 u13 u14 u15 u16 u17 u18 u19 u20 u21 u22 u23 u24 u25 u26 u27 u28 u29 u30 u31 u32 u33 u34 u35 u36 u37 u38 u39 u40 u41 u42 u43 u44 u45 u46 u47 u48 u49 u50 u51 u52 u53 u54 u55 u56 u57 u58 u59 u60 u61 u62 u63 u64 u65 u66 u67 u68 u69 u70 u71 u72 u73 u74 u75 u76 u77 u78:aB)
  (h2:dN W b2 #[aF aC me,y1,y2,aj so sn sc,y4,y5] 33) (hx:∀ x,Below W.heap.size W x->∀ j u,(jQ z)[j]?=V u->x.cell? ((⟨b3,0,X⟩:aY).add j)=V u) (hs:xP W (aj so sn sc) l) (hat:at_<=l.length) (hlen:l.length<=900)
  (hQ:∀ (x:aG) (v29 v30 v31 v32 v33 v34 v35 v36 v37 v38 v39 v40 v41 v42 v43 v44:aB),dN x b2 #[aF aC me,y1,y2,v43,y4,y5] 33->qY x W.heap.size v43 (l.take at_++[z]++l.drop at_)->(∀ B,B<=b2->Below B W x)->(∀ c cs t,c≠b2->dN W c cs t->dN x c cs t)->(∀ k,k<W.heap.size->k≠b2->x.heap[k]?=W.heap[k]?)->Q .normal ⟨(u0::u1::L (V ⟨b2,0,X⟩)::L (V ⟨b3,0,X⟩)::u4::u5::aF aC (at_:Int)::u7::u8::u9::u10::u11::u12::u13::u14::u15::u16::u17::u18::u19::u20::u21::u22::u23::u24::u25::u26::u27::u28::v29::v30::v31::v32::v33::v34::v35::v36::v37::v38::v39::v40::v41::v42::v43::v44::u45::u46::u47::u48::u49::u50::u51::u52::u53::u54::u55::u56::u57::u58::u59::u60::u61::u62::u63::u64::u65::u66::u67::u68::u69::u70::u71::u72::u73::u74::u75::u76::u77::u78::[]).toArray,[]⟩ x) :
  Code.wp ay aag Q ⟨(u0::u1::L (V ⟨b2,0,X⟩)::L (V ⟨b3,0,X⟩)::u4::u5::aF aC (at_:Int)::u7::u8::u9::u10::u11::u12::u13::u14::u15::u16::u17::u18::u19::u20::u21::u22::u23::u24::u25::u26::u27::u28::u29::u30::u31::u32::u33::u34::u35::u36::u37::u38::u39::u40::u41::u42::u43::u44::u45::u46::u47::u48::u49::u50::u51::u52::u53::u54::u55::u56::u57::u58::u59::u60::u61::u62::u63::u64::u65::u66::u67::u68::u69::u70::u71::u72::u73::u74::u75::u76::u77::u78::[]).toArray,[]⟩ W:=by
 have HQ:=ak hQ;have H2:=ak h2;have LX:=ak hx;obtain⟨lo,Cy,wm⟩:=vL zP hs at_ (by omega);obtain⟨hiv,Cz,xQ⟩:=qH zP hs (at_) hat;have LT:=ak (show (l.take at_).length<=1000 by rw [aH]; omega);have SK:=ak (show (l.take at_).length<=900 by rw [aH]; omega);have LD:=ak (show (l.drop (at_)).length<=1000 by rw [aQ]; omega);generalize l.take at_=lt at *;generalize l.drop (at_)=ld at *;have SL:=ak Cy;have SH:=ak Cz;have RL:=ak wm;have RH:=ak xQ;clear hQ h2 hx hs Cy Cz wm xQ hat hlen;have iN:=SI W.heap.size b2 b3 so sn sc at_ lo hiv z lt ld;unfold aag
 conv=>arg 2; whnf
 have nd:∀ j,(j<29\/45<=j)->∀ i,i<16->(fun i=>29+i) i≠j:=by
  intro j hj i hi h;simp only at h;omega
 refine bQ 17 16 (fun i=>29+i) (fun i=>if i=0 then 5 else if i=5 then 9 else if i=8 then 9 else if i=9 then 14 else 16) (MU W.heap.size b2 b3 so sn sc at_ lo hiv z lt ld) (by kernel_rfl) (by kernel_rfl) rfl (by decide) (fun i j _ _ h=>by have h2:29+i=29+j:=h; omega) (fun i hi=>by show 29+i<79; omega) ?_ (fun _=>Rg.jq 1 (by kernel_rfl)) (fun kk o h1 h2=>by omega) ?_
 ·intro i o hi ho a x D hnd hc hD hb seen K hK;clear HQ;rcases (by omega:i=0\/i=1\/i=2\/i=3\/i=4\/i=5\/i=6\/i=7\/i=8\/i=9\/i=10\/i=11\/i=12\/i=13\/i=14\/i=15) with rfl|rfl|rfl|rfl|rfl|rfl|rfl|rfl|rfl|rfl|rfl|rfl|rfl|rfl|rfl|rfl
  ·cases ho;exact au rfl rfl (bN a.eval _ 29 0 #[] rfl rfl (by simp [go_sem])) (hK (aj (V ⟨x.heap.size,0,X⟩) 0 0) (x.alloc (.cells #[] 38)) ⟨x.heap.size,rfl,hb.size,dO x #[] 38⟩ ((J _ _).alloc hb.size _) fun j u _ _ _ _ _ h=>iN j u _ _ h ((J _ _).alloc (aJ _) _))
  ·cases ho;have e2:a.eval (O 2)=L (V ⟨b2,0,X⟩):=seen.kp 2 _ (nd 2 (by omega)) rfl;exact au rfl rfl (aV a.eval _ 33 (O 2) 3 rfl (by rw [e2]; simp [go_sem])) (hK _ _ rfl (J _ _) fun _ _ _ _ _ _ _ h=>h)
  ·cases ho;have e30:a.eval (O 30)=L (V ⟨b2,3,X⟩):=seen.at_ ⟨1,.data⟩ (by simp) rfl (aA (by decide));have y:=(H2.out.on hb).cell 3;simp only [U,Y,Z] at y;exact au rfl rfl (bf a.eval _ 29 (O 30) rfl (by rw [e30]; simp [go_sem,y])) (hK _ _ rfl (J _ _) fun _ _ _ _ _ _ _ h=>h)
  ·cases ho;have e6:a.eval (O 6)=aF aC (at_:Int):=seen.kp 6 _ (nd 6 (by omega)) rfl;exact au rfl rfl (bI a.eval _ (O 6) rfl x) (hK _ _ e6 (J _ _) fun _ _ _ _ _ _ _ h=>h)
  ·cases ho;have e31:a.eval (O 31)=aj so sn sc:=seen.at_ ⟨2,.data⟩ (by simp) rfl (aA (by decide));have e32:a.eval (O 32)=aF aC (at_:Int):=seen.at_ ⟨3,.data⟩ (by simp) rfl (aA (by decide));exact au rfl rfl (bJ a.eval _ 29 (O 31) X (V (O 32)) X rfl (by show (aI 29 (a.eval (O 31)) X (V (a.eval (O 32))) X).run ay x=.ok lo x; rw [e31,e32]; exact SL.out x)) (hK _ _ rfl (J _ _) fun _ _ _ _ _ _ _ h=>h)
  ·cases ho;obtain⟨g,q0,hBg,hbx⟩:=seen.at_ ⟨0,.data⟩ (by simp) rfl (aM rfl);have q0:a.eval (O 29)=aj (V ⟨g,0,X⟩) 0 0:=q0;have e33:a.eval (O 33)=lo:=seen.at_ ⟨4,.data⟩ (by simp) rfl (aA (by decide));obtain⟨v',x',r,o',gr⟩:=gK zP W.heap.size hbx hBg (RL.out.on hb) LT.out 29;exact au rfl rfl (bg a.eval _ (O 29) (O 33) 29 rfl q0 e33 r) (hK v' x' o' (gr.mono hb.size) fun j u _ _ _ _ _ h=>iN j u _ _ h gr)
  ·cases ho;have e3:a.eval (O 3)=L (V ⟨b3,0,X⟩):=seen.kp 3 _ (nd 3 (by omega)) rfl;exact au rfl rfl (aV a.eval _ 53 (O 3) 0 rfl (by rw [e3]; simp [go_sem])) (hK _ _ rfl (J _ _) fun _ _ _ _ _ _ _ h=>h)
  ·cases ho;have e35:a.eval (O 35)=L (V ⟨b3,0,X⟩):=seen.at_ ⟨6,.data⟩ (by simp) rfl (aA (by decide));exact au rfl rfl (bf a.eval _ 38 (O 35) rfl (by rw [e35]; exact Dl x _ z (LX.out x hb))) (hK _ _ rfl (J _ _) fun _ _ _ _ _ _ _ h=>h)
  ·cases ho;have e36:a.eval (O 36)=SF z:=seen.at_ ⟨7,.data⟩ (by simp) rfl (aA (by decide));have hl:=iD zP x [z] 1 rfl (by simp) (jQ z).toArray (by simp [flat,EJ]);have hl:qY (x.alloc (.cells (jQ z).toArray 38)) x.heap.size (aj (V ⟨x.heap.size,0,X⟩) 1 1) [z]:=hl;exact au rfl rfl (bN a.eval _ 29 1 #[(0,O 36)] rfl (ps:=#[(0,SF z)]) (by simp [e36]) (by simp [go_sem])) (hK (aj (V ⟨x.heap.size,0,X⟩) 1 1) (x.alloc (.cells (jQ z).toArray 38)) (dJ hl hb.size) ((J _ _).alloc hb.size _) fun j u _ _ _ _ _ h=>iN j u _ _ h ((J _ _).alloc (aJ _) _))
  ·cases ho;have o34:qY x W.heap.size (a.eval (O 34)) (lt):=seen.at_ ⟨5,.data⟩ (by simp) rfl (aM rfl);have o37:qY x W.heap.size (a.eval (O 37)) ([z]):=seen.at_ ⟨8,.data⟩ (by simp) rfl (aM rfl);have ox:=Row.dH o37;obtain⟨v',x',r,o',gr⟩:=gG zP W.heap.size o34 ox (by have:=LT.out; omega) (by simp) hb.size 29;exact au rfl rfl (bg a.eval _ (O 34) (O 37) 29 rfl rfl rfl r) (hK v' x' o' ((J _ x).grown gr hb.size fun j hj=>(o34.lt j hj).1) fun j u hj dj nl nx ni h=>by
    rcases (by omega:j=0\/j=1\/j=2\/j=3\/j=4\/j=5\/j=6\/j=7\/j=8\/j=9\/j=10\/j=11\/j=12\/j=13\/j=14\/j=15) with rfl|rfl|rfl|rfl|rfl|rfl|rfl|rfl|rfl|rfl|rfl|rfl|rfl|rfl|rfl|rfl
    ·exact absurd rfl (fun _:(0:Nat)=0=>nl (hc 5 _ (hD ⟨5,.data⟩ (by simp) rfl) rfl ⟨0,.data⟩ (by simp) rfl |> fun _=>hD ⟨5,.data⟩ (by simp) rfl))
    ·exact h
    ·exact h
    ·exact h
    ·exact h
    ·exact absurd rfl (fun _:(0:Nat)=0=>nx rfl)
    ·exact h
    ·exact h
    ·exact absurd rfl (fun _:(0:Nat)=0=>nx rfl)
    ·exact absurd rfl (fun _:(0:Nat)=0=>ni rfl)
    ·exact h
    ·exact h
    ·exact h
    ·exact h
    ·exact absurd rfl (fun _:(0:Nat)=0=>hnd (hc 14 _ dj rfl ⟨9,.data⟩ (by simp) rfl))
    ·exact h)
  ·cases ho;have e2:a.eval (O 2)=L (V ⟨b2,0,X⟩):=seen.kp 2 _ (nd 2 (by omega)) rfl;exact au rfl rfl (aV a.eval _ 33 (O 2) 3 rfl (by rw [e2]; simp [go_sem])) (hK _ _ rfl (J _ _) fun _ _ _ _ _ _ _ h=>h)
  ·cases ho;have e39:a.eval (O 39)=L (V ⟨b2,3,X⟩):=seen.at_ ⟨10,.data⟩ (by simp) rfl (aA (by decide));have y:=(H2.out.on hb).cell 3;simp only [U,Y,Z] at y;exact au rfl rfl (bf a.eval _ 29 (O 39) rfl (by rw [e39]; simp [go_sem,y])) (hK _ _ rfl (J _ _) fun _ _ _ _ _ _ _ h=>h)
  ·cases ho;have e6:a.eval (O 6)=aF aC (at_:Int):=seen.kp 6 _ (nd 6 (by omega)) rfl;exact au rfl rfl (bI a.eval _ (O 6) rfl x) (hK _ _ e6 (J _ _) fun _ _ _ _ _ _ _ h=>h)
  ·cases ho;have e40:a.eval (O 40)=aj so sn sc:=seen.at_ ⟨11,.data⟩ (by simp) rfl (aA (by decide));have e41:a.eval (O 41)=aF aC (at_:Int):=seen.at_ ⟨12,.data⟩ (by simp) rfl (aA (by decide));exact au rfl rfl (bJ a.eval _ 29 (O 40) (V (O 41)) X X rfl (by show (aI 29 (a.eval (O 40)) (V (a.eval (O 41))) X X).run ay x=.ok hiv x; rw [e40,e41]; exact SH.out x)) (hK _ _ rfl (J _ _) fun _ _ _ _ _ _ _ h=>h)
  ·cases ho;have o38:qY x W.heap.size (a.eval (O 38)) ((lt++[z])):=seen.at_ ⟨9,.data⟩ (by simp) rfl (aM rfl);have e42:a.eval (O 42)=hiv:=seen.at_ ⟨13,.data⟩ (by simp) rfl (aA (by decide));have ox:xP x (a.eval (O 42)) ld:=by rw [e42]; exact RH.out.on hb
   obtain⟨v',x',r,o',gr⟩:=gG zP W.heap.size o38 ox (by have:=SK.out; rw [aU,aS]; omega) LD.out hb.size 29;exact au rfl rfl (bg a.eval _ (O 38) (O 42) 29 rfl rfl rfl r) (hK v' x' o' ((J _ x).grown gr hb.size fun j hj=>(o38.lt j hj).1) fun j u hj dj nl nx ni h=>by
    rcases (by omega:j=0\/j=1\/j=2\/j=3\/j=4\/j=5\/j=6\/j=7\/j=8\/j=9\/j=10\/j=11\/j=12\/j=13\/j=14\/j=15) with rfl|rfl|rfl|rfl|rfl|rfl|rfl|rfl|rfl|rfl|rfl|rfl|rfl|rfl|rfl|rfl
    ·exact absurd rfl (fun _:(0:Nat)=0=>nl (hc 9 _ (hD ⟨9,.data⟩ (by simp) rfl) rfl ⟨5,.data⟩ (by simp) rfl))
    ·exact h
    ·exact h
    ·exact h
    ·exact h
    ·exact absurd rfl (fun _:(0:Nat)=0=>nl (hD ⟨9,.data⟩ (by simp) rfl))
    ·exact h
    ·exact h
    ·exact absurd rfl (fun _:(0:Nat)=0=>nl (hD ⟨9,.data⟩ (by simp) rfl))
    ·exact absurd rfl (fun _:(0:Nat)=0=>nx rfl)
    ·exact h
    ·exact h
    ·exact h
    ·exact h
    ·exact absurd rfl (fun _:(0:Nat)=0=>ni rfl)
    ·exact h)
  ·cases ho;have e2:a.eval (O 2)=L (V ⟨b2,0,X⟩):=seen.kp 2 _ (nd 2 (by omega)) rfl;exact au rfl rfl (aV a.eval _ 33 (O 2) 3 rfl (by rw [e2]; simp [go_sem])) (hK _ _ rfl (J _ _) fun _ _ _ _ _ _ _ h=>h)
 ·intro a w' df sz kp ⟨vs,hv⟩ hb;have gr:a.tmps[43]?=V (vs 14):=(hv 14 (by omega)).1;have gp:a.tmps[44]?=V (L (V ⟨b2,3,X⟩)):=by
   have h:vs 15=L (V ⟨b2,3,X⟩):=(hv 15 (by omega)).2 (by decide);rw [<- h];exact (hv 15 (by omega)).1
  have oR:qY w' W.heap.size (vs 14) (lt++[z]++ld):=(hv 14 (by omega)).2 (by decide);generalize vs 14=xR at *;obtain⟨ca,cp,eR⟩:=(Row.dH oR).len;have hbx:=H2.out.on hb;have hblt:=H2.out.lt;have c5:=hbx.cell 3;have f5:=hbx.fr 3;simp only [U,Y,Z] at c5;have hb1:=dR (k:=3) hbx xR;show bK _ _ _ 1 16 a w';simp only [bK];refine Rg.fP 29 (O 44) (O 43) rfl rfl rfl rfl (bL gp) (bL gr) (w':=w'.setCell ⟨b2,3,X⟩ xR) (by rw [eR]; simp [go_sem,c5,f5]) ?_;have sI:∀ j,(j<29\/45<=j)->a.tmps[j]?=(u0::u1::L (V ⟨b2,0,X⟩)::L (V ⟨b3,0,X⟩)::u4::u5::aF aC (at_:Int)::u7::u8::u9::u10::u11::u12::u13::u14::u15::u16::u17::u18::u19::u20::u21::u22::u23::u24::u25::u26::u27::u28::u29::u30::u31::u32::u33::u34::u35::u36::u37::u38::u39::u40::u41::u42::u43::u44::u45::u46::u47::u48::u49::u50::u51::u52::u53::u54::u55::u56::u57::u58::u59::u60::u61::u62::u63::u64::u65::u66::u67::u68::u69::u70::u71::u72::u73::u74::u75::u76::u77::u78::[])[j]?:=fun j hj=>(kp j (nd j hj)).trans U;obtain⟨mid,hmid,rfl⟩:=bR 29 16 df sz (by simp) sI
  match mid,hmid with
  | [v29,v30,v31,v32,v33,v34,v35,v36,v37,v38,v39,v40,v41,v42,v43,v44],_ =>
   have e1:V v43=V xR:=gr;obtain rfl:=aD e1;refine HQ.out _ v29 v30 v31 v32 v33 v34 v35 v36 v37 v38 v39 v40 v41 v42 v43 v44 ?_ ?_ ?_ ?_ ?_
   ·simpa using hb1
   ·exact dP oR b2 3 _ hblt
   ·exact fun B hB=>(hb.mono (aW (aN hB hblt))).setCell hB _
   ·intro c cs t hc hbc;exact (ah _ _ _ _ hc).trans (hbc.on hb)
   ·intro k hk hne;exact (ah _ _ _ _ hne).trans (hb.block k hk)
def Fq (B b2 _b3:Nat) (so:Option aY) (sn sc at_:Nat) (lo hiv:aB) (z:kr) (lt ld:List kr) (i:Nat) (v:aB) (x:aG):Prop :=
 match i with
 | 0=>∃ g,v=aj (V ⟨g,0,X⟩) 0 0/\B<=g/\dN x g #[] 53
 | 1=>v=L (V ⟨b2,2,X⟩)
 | 2=>v=aj so sn sc
 | 3=>v=aF aC (at_:Int)
 | 4=>v=lo
 | 5=>lD x B v lt
 | 6=>v=nR z
 | 7=>lD x B v [z]
 | 8=>lD x B v (lt++[z])
 | 9=>v=L (V ⟨b2,2,X⟩)
 | 10=>v=aj so sn sc
 | 11=>v=aF aC (at_:Int)
 | 12=>v=hiv
 | 13=>lD x B v (lt++[z]++ld)
 | 14=>v=L (V ⟨b2,2,X⟩)
 | _=>True
noncomputable def SQ:Code:=((Tryz.f60.body.bind (eP 10)).getD .skip)
theorem Py (B b2 b3:Nat) (so:Option aY) (sn sc at_:Nat) (lo hiv:aB) (z:kr) (lt ld:List kr) (i:Nat) (v:aB) (x x':aG) (h:Fq B b2 b3 so sn sc at_ lo hiv z lt ld i v x) (hb:Below x.heap.size x x'):Fq B b2 b3 so sn sc at_ lo hiv z lt ld i v x':=by
 by_cases hi:i<15
 ·rcases (by omega:i=0\/i=1\/i=2\/i=3\/i=4\/i=5\/i=6\/i=7\/i=8\/i=9\/i=10\/i=11\/i=12\/i=13\/i=14) with rfl|rfl|rfl|rfl|rfl|rfl|rfl|rfl|rfl|rfl|rfl|rfl|rfl|rfl|rfl
  ·obtain⟨g,h1,h2,h3⟩:=h;exact⟨g,h1,h2,h3.on hb⟩
  ·exact h
  ·exact h
  ·exact h
  ·exact h
  ·exact dG h hb
  ·exact h
  ·exact dG h hb
  ·exact dG h hb
  ·exact h
  ·exact h
  ·exact h
  ·exact h
  ·exact dG h hb
  ·exact h
 ·unfold Fq
  split <;> first | omega | trivial
theorem aeX (Q:Exit->Act->aG->Prop) (W:aG) (b2 b3:Nat) (me:Int) (y1 y3 y4 y5:aB) (so:Option aY) (sn sc at_:Nat) (l:List kr) (z:kr) (u0 u1 u4 u5 u7 u8 u9 u10 u11 u12 u13 u14 u15 u16 u17 u18 u19 u20 u21 u22 u23 u24 u25 u26 u27 u28 u29 u30 u31 u32 u33 u34 u35 u36 u37 u38 u39 u40 u41 u42 u43 u44 u45 u46 u47 u48 u49 u50 u51 u52 u53 u54 u55 u56 u57 u58 u59 u60 u61 u62 u63 u64 u65 u66 u67 u68 u69 u70 u71 u72 u73 u74 u75 u76 u77 u78:aB)
  (h2:dN W b2 #[aF aC me,y1,aj so sn sc,y3,y4,y5] 33) (hx:∀ x,Below W.heap.size W x->∀ j u,(cellsD z)[j]?=V u->x.cell? ((⟨b3,0,X⟩:aY).add j)=V u) (hs:wB W (aj so sn sc) l) (hat:at_<=l.length) (hlen:l.length<=900)
  (hQ:∀ (x:aG) (v63 v64 v65 v66 v67 v68 v69 v70 v71 v72 v73 v74 v75 v76 v77:aB),dN x b2 #[aF aC me,y1,v76,y3,y4,y5] 33->lD x W.heap.size v76 (l.take at_++[z]++l.drop at_)->(∀ B,B<=b2->Below B W x)->(∀ c cs t,c≠b2->dN W c cs t->dN x c cs t)->(∀ k,k<W.heap.size->k≠b2->x.heap[k]?=W.heap[k]?)->Q .normal ⟨(u0::u1::L (V ⟨b2,0,X⟩)::L (V ⟨b3,0,X⟩)::u4::u5::aF aC (at_:Int)::u7::u8::u9::u10::u11::u12::u13::u14::u15::u16::u17::u18::u19::u20::u21::u22::u23::u24::u25::u26::u27::u28::u29::u30::u31::u32::u33::u34::u35::u36::u37::u38::u39::u40::u41::u42::u43::u44::u45::u46::u47::u48::u49::u50::u51::u52::u53::u54::u55::u56::u57::u58::u59::u60::u61::u62::v63::v64::v65::v66::v67::v68::v69::v70::v71::v72::v73::v74::v75::v76::v77::u78::[]).toArray,[]⟩ x) :
  Code.wp ay SQ Q ⟨(u0::u1::L (V ⟨b2,0,X⟩)::L (V ⟨b3,0,X⟩)::u4::u5::aF aC (at_:Int)::u7::u8::u9::u10::u11::u12::u13::u14::u15::u16::u17::u18::u19::u20::u21::u22::u23::u24::u25::u26::u27::u28::u29::u30::u31::u32::u33::u34::u35::u36::u37::u38::u39::u40::u41::u42::u43::u44::u45::u46::u47::u48::u49::u50::u51::u52::u53::u54::u55::u56::u57::u58::u59::u60::u61::u62::u63::u64::u65::u66::u67::u68::u69::u70::u71::u72::u73::u74::u75::u76::u77::u78::[]).toArray,[]⟩ W:=by
 have HQ:=ak hQ;have H2:=ak h2;have LX:=ak hx;obtain⟨lo,Cy,wm⟩:=vL okD hs at_ (by omega);obtain⟨hiv,Cz,xQ⟩:=qH okD hs (at_) hat;have LT:=ak (show (l.take at_).length<=1000 by rw [aH]; omega);have SK:=ak (show (l.take at_).length<=900 by rw [aH]; omega);have LD:=ak (show (l.drop (at_)).length<=1000 by rw [aQ]; omega);generalize l.take at_=lt at *;generalize l.drop (at_)=ld at *;have SL:=ak Cy;have SH:=ak Cz;have RL:=ak wm;have RH:=ak xQ;clear hQ h2 hx hs Cy Cz wm xQ hat hlen;have iN:=Py W.heap.size b2 b3 so sn sc at_ lo hiv z lt ld;unfold SQ
 conv=>arg 2; whnf
 have nd:∀ j,(j<63\/78<=j)->∀ i,i<15->(fun i=>63+i) i≠j:=by
  intro j hj i hi h;simp only at h;omega
 refine bQ 16 15 (fun i=>63+i) (fun i=>if i=0 then 5 else if i=5 then 8 else if i=7 then 8 else if i=8 then 13 else 15) (Fq W.heap.size b2 b3 so sn sc at_ lo hiv z lt ld) (by kernel_rfl) (by kernel_rfl) rfl (by decide) (fun i j _ _ h=>by have h2:63+i=63+j:=h; omega) (fun i hi=>by show 63+i<79; omega) ?_ (fun _=>Rg.jq 1 (by kernel_rfl)) (fun kk o h1 h2=>by omega) ?_
 ·intro i o hi ho a x D hnd hc hD hb seen K hK;clear HQ;rcases (by omega:i=0\/i=1\/i=2\/i=3\/i=4\/i=5\/i=6\/i=7\/i=8\/i=9\/i=10\/i=11\/i=12\/i=13\/i=14) with rfl|rfl|rfl|rfl|rfl|rfl|rfl|rfl|rfl|rfl|rfl|rfl|rfl|rfl|rfl
  ·cases ho;exact au rfl rfl (bN a.eval _ 28 0 #[] rfl rfl (by simp [go_sem])) (hK (aj (V ⟨x.heap.size,0,X⟩) 0 0) (x.alloc (.cells #[] 53)) ⟨x.heap.size,rfl,hb.size,dO x #[] 53⟩ ((J _ _).alloc hb.size _) fun j u _ _ _ _ _ h=>iN j u _ _ h ((J _ _).alloc (aJ _) _))
  ·cases ho;have e2:a.eval (O 2)=L (V ⟨b2,0,X⟩):=seen.kp 2 _ (nd 2 (by omega)) rfl;exact au rfl rfl (aV a.eval _ 33 (O 2) 2 rfl (by rw [e2]; simp [go_sem])) (hK _ _ rfl (J _ _) fun _ _ _ _ _ _ _ h=>h)
  ·cases ho;have e64:a.eval (O 64)=L (V ⟨b2,2,X⟩):=seen.at_ ⟨1,.data⟩ (by simp) rfl (aA (by decide));have y:=(H2.out.on hb).cell 2;simp only [U,Y,Z] at y;exact au rfl rfl (bf a.eval _ 28 (O 64) rfl (by rw [e64]; simp [go_sem,y])) (hK _ _ rfl (J _ _) fun _ _ _ _ _ _ _ h=>h)
  ·cases ho;have e6:a.eval (O 6)=aF aC (at_:Int):=seen.kp 6 _ (nd 6 (by omega)) rfl;exact au rfl rfl (bI a.eval _ (O 6) rfl x) (hK _ _ e6 (J _ _) fun _ _ _ _ _ _ _ h=>h)
  ·cases ho;have e65:a.eval (O 65)=aj so sn sc:=seen.at_ ⟨2,.data⟩ (by simp) rfl (aA (by decide));have e66:a.eval (O 66)=aF aC (at_:Int):=seen.at_ ⟨3,.data⟩ (by simp) rfl (aA (by decide));exact au rfl rfl (bJ a.eval _ 28 (O 65) X (V (O 66)) X rfl (by show (aI 28 (a.eval (O 65)) X (V (a.eval (O 66))) X).run ay x=.ok lo x; rw [e65,e66]; exact SL.out x)) (hK _ _ rfl (J _ _) fun _ _ _ _ _ _ _ h=>h)
  ·cases ho;obtain⟨g,q0,hBg,hbx⟩:=seen.at_ ⟨0,.data⟩ (by simp) rfl (aM rfl);have q0:a.eval (O 63)=aj (V ⟨g,0,X⟩) 0 0:=q0;have e67:a.eval (O 67)=lo:=seen.at_ ⟨4,.data⟩ (by simp) rfl (aA (by decide));obtain⟨v',x',r,o',gr⟩:=gK okD W.heap.size hbx hBg (RL.out.on hb) LT.out 28;exact au rfl rfl (bg a.eval _ (O 63) (O 67) 28 rfl q0 e67 r) (hK v' x' o' (gr.mono hb.size) fun j u _ _ _ _ _ h=>iN j u _ _ h gr)
  ·cases ho;have e3:a.eval (O 3)=L (V ⟨b3,0,X⟩):=seen.kp 3 _ (nd 3 (by omega)) rfl;exact au rfl rfl (bf a.eval _ 53 (O 3) rfl (by rw [e3]; exact SG x _ z (LX.out x hb))) (hK _ _ rfl (J _ _) fun _ _ _ _ _ _ _ h=>h)
  ·cases ho;have e69:a.eval (O 69)=nR z:=seen.at_ ⟨6,.data⟩ (by simp) rfl (aA (by decide));have hl:=iD okD x [z] 1 rfl (by simp) (cellsD z).toArray (by simp [flat,ED]);have hl:lD (x.alloc (.cells (cellsD z).toArray 53)) x.heap.size (aj (V ⟨x.heap.size,0,X⟩) 1 1) [z]:=hl;exact au rfl rfl (bN a.eval _ 28 1 #[(0,O 69)] rfl (ps:=#[(0,nR z)]) (by simp [e69]) (by simp [go_sem])) (hK (aj (V ⟨x.heap.size,0,X⟩) 1 1) (x.alloc (.cells (cellsD z).toArray 53)) (dJ hl hb.size) ((J _ _).alloc hb.size _) fun j u _ _ _ _ _ h=>iN j u _ _ h ((J _ _).alloc (aJ _) _))
  ·cases ho;have o68:lD x W.heap.size (a.eval (O 68)) (lt):=seen.at_ ⟨5,.data⟩ (by simp) rfl (aM rfl);have o70:lD x W.heap.size (a.eval (O 70)) ([z]):=seen.at_ ⟨7,.data⟩ (by simp) rfl (aM rfl);have ox:=Row.dH o70;obtain⟨v',x',r,o',gr⟩:=gG okD W.heap.size o68 ox (by have:=LT.out; omega) (by simp) hb.size 28;exact au rfl rfl (bg a.eval _ (O 68) (O 70) 28 rfl rfl rfl r) (hK v' x' o' ((J _ x).grown gr hb.size fun j hj=>(o68.lt j hj).1) fun j u hj dj nl nx ni h=>by
    rcases (by omega:j=0\/j=1\/j=2\/j=3\/j=4\/j=5\/j=6\/j=7\/j=8\/j=9\/j=10\/j=11\/j=12\/j=13\/j=14) with rfl|rfl|rfl|rfl|rfl|rfl|rfl|rfl|rfl|rfl|rfl|rfl|rfl|rfl|rfl
    ·exact absurd rfl (fun _:(0:Nat)=0=>nl (hc 5 _ (hD ⟨5,.data⟩ (by simp) rfl) rfl ⟨0,.data⟩ (by simp) rfl |> fun _=>hD ⟨5,.data⟩ (by simp) rfl))
    ·exact h
    ·exact h
    ·exact h
    ·exact h
    ·exact absurd rfl (fun _:(0:Nat)=0=>nx rfl)
    ·exact h
    ·exact absurd rfl (fun _:(0:Nat)=0=>nx rfl)
    ·exact absurd rfl (fun _:(0:Nat)=0=>ni rfl)
    ·exact h
    ·exact h
    ·exact h
    ·exact h
    ·exact absurd rfl (fun _:(0:Nat)=0=>hnd (hc 13 _ dj rfl ⟨8,.data⟩ (by simp) rfl))
    ·exact h)
  ·cases ho;have e2:a.eval (O 2)=L (V ⟨b2,0,X⟩):=seen.kp 2 _ (nd 2 (by omega)) rfl;exact au rfl rfl (aV a.eval _ 33 (O 2) 2 rfl (by rw [e2]; simp [go_sem])) (hK _ _ rfl (J _ _) fun _ _ _ _ _ _ _ h=>h)
  ·cases ho;have e72:a.eval (O 72)=L (V ⟨b2,2,X⟩):=seen.at_ ⟨9,.data⟩ (by simp) rfl (aA (by decide));have y:=(H2.out.on hb).cell 2;simp only [U,Y,Z] at y;exact au rfl rfl (bf a.eval _ 28 (O 72) rfl (by rw [e72]; simp [go_sem,y])) (hK _ _ rfl (J _ _) fun _ _ _ _ _ _ _ h=>h)
  ·cases ho;have e6:a.eval (O 6)=aF aC (at_:Int):=seen.kp 6 _ (nd 6 (by omega)) rfl;exact au rfl rfl (bI a.eval _ (O 6) rfl x) (hK _ _ e6 (J _ _) fun _ _ _ _ _ _ _ h=>h)
  ·cases ho;have e73:a.eval (O 73)=aj so sn sc:=seen.at_ ⟨10,.data⟩ (by simp) rfl (aA (by decide));have e74:a.eval (O 74)=aF aC (at_:Int):=seen.at_ ⟨11,.data⟩ (by simp) rfl (aA (by decide));exact au rfl rfl (bJ a.eval _ 28 (O 73) (V (O 74)) X X rfl (by show (aI 28 (a.eval (O 73)) (V (a.eval (O 74))) X X).run ay x=.ok hiv x; rw [e73,e74]; exact SH.out x)) (hK _ _ rfl (J _ _) fun _ _ _ _ _ _ _ h=>h)
  ·cases ho;have o71:lD x W.heap.size (a.eval (O 71)) ((lt++[z])):=seen.at_ ⟨8,.data⟩ (by simp) rfl (aM rfl);have e75:a.eval (O 75)=hiv:=seen.at_ ⟨12,.data⟩ (by simp) rfl (aA (by decide));have ox:wB x (a.eval (O 75)) ld:=by rw [e75]; exact RH.out.on hb
   obtain⟨v',x',r,o',gr⟩:=gG okD W.heap.size o71 ox (by have:=SK.out; rw [aU,aS]; omega) LD.out hb.size 28;exact au rfl rfl (bg a.eval _ (O 71) (O 75) 28 rfl rfl rfl r) (hK v' x' o' ((J _ x).grown gr hb.size fun j hj=>(o71.lt j hj).1) fun j u hj dj nl nx ni h=>by
    rcases (by omega:j=0\/j=1\/j=2\/j=3\/j=4\/j=5\/j=6\/j=7\/j=8\/j=9\/j=10\/j=11\/j=12\/j=13\/j=14) with rfl|rfl|rfl|rfl|rfl|rfl|rfl|rfl|rfl|rfl|rfl|rfl|rfl|rfl|rfl
    ·exact absurd rfl (fun _:(0:Nat)=0=>nl (hc 8 _ (hD ⟨8,.data⟩ (by simp) rfl) rfl ⟨5,.data⟩ (by simp) rfl))
    ·exact h
    ·exact h
    ·exact h
    ·exact h
    ·exact absurd rfl (fun _:(0:Nat)=0=>nl (hD ⟨8,.data⟩ (by simp) rfl))
    ·exact h
    ·exact absurd rfl (fun _:(0:Nat)=0=>nl (hD ⟨8,.data⟩ (by simp) rfl))
    ·exact absurd rfl (fun _:(0:Nat)=0=>nx rfl)
    ·exact h
    ·exact h
    ·exact h
    ·exact h
    ·exact absurd rfl (fun _:(0:Nat)=0=>ni rfl)
    ·exact h)
  ·cases ho;have e2:a.eval (O 2)=L (V ⟨b2,0,X⟩):=seen.kp 2 _ (nd 2 (by omega)) rfl;exact au rfl rfl (aV a.eval _ 33 (O 2) 2 rfl (by rw [e2]; simp [go_sem])) (hK _ _ rfl (J _ _) fun _ _ _ _ _ _ _ h=>h)
 ·intro a w' df sz kp ⟨vs,hv⟩ hb;have gr:a.tmps[76]?=V (vs 13):=(hv 13 (by omega)).1;have gp:a.tmps[77]?=V (L (V ⟨b2,2,X⟩)):=by
   have h:vs 14=L (V ⟨b2,2,X⟩):=(hv 14 (by omega)).2 (by decide);rw [<- h];exact (hv 14 (by omega)).1
  have oR:lD w' W.heap.size (vs 13) (lt++[z]++ld):=(hv 13 (by omega)).2 (by decide);generalize vs 13=xR at *;obtain⟨ca,cp,eR⟩:=(Row.dH oR).len;have hbx:=H2.out.on hb;have hblt:=H2.out.lt;have c5:=hbx.cell 2;have f5:=hbx.fr 2;simp only [U,Y,Z] at c5;have hb1:=dR (k:=2) hbx xR;show bK _ _ _ 1 15 a w';simp only [bK];refine Rg.fP 28 (O 77) (O 76) rfl rfl rfl rfl (bL gp) (bL gr) (w':=w'.setCell ⟨b2,2,X⟩ xR) (by rw [eR]; simp [go_sem,c5,f5]) ?_;have sI:∀ j,(j<63\/78<=j)->a.tmps[j]?=(u0::u1::L (V ⟨b2,0,X⟩)::L (V ⟨b3,0,X⟩)::u4::u5::aF aC (at_:Int)::u7::u8::u9::u10::u11::u12::u13::u14::u15::u16::u17::u18::u19::u20::u21::u22::u23::u24::u25::u26::u27::u28::u29::u30::u31::u32::u33::u34::u35::u36::u37::u38::u39::u40::u41::u42::u43::u44::u45::u46::u47::u48::u49::u50::u51::u52::u53::u54::u55::u56::u57::u58::u59::u60::u61::u62::u63::u64::u65::u66::u67::u68::u69::u70::u71::u72::u73::u74::u75::u76::u77::u78::[])[j]?:=fun j hj=>(kp j (nd j hj)).trans U;obtain⟨mid,hmid,rfl⟩:=bR 63 15 df sz (by simp) sI
  match mid,hmid with
  | [v63,v64,v65,v66,v67,v68,v69,v70,v71,v72,v73,v74,v75,v76,v77],_ =>
   have e1:V v76=V xR:=gr;obtain rfl:=aD e1;refine HQ.out _ v63 v64 v65 v66 v67 v68 v69 v70 v71 v72 v73 v74 v75 v76 v77 ?_ ?_ ?_ ?_ ?_
   ·simpa using hb1
   ·exact dP oR b2 2 _ hblt
   ·exact fun B hB=>(hb.mono (aW (aN hB hblt))).setCell hB _
   ·intro c cs t hc hbc;exact (ah _ _ _ _ hc).trans (hbc.on hb)
   ·intro k hk hne;exact (ah _ _ _ _ hne).trans (hb.block k hk)
def MV (B b2 _b3:Nat) (so:Option aY) (sn sc at_:Nat) (lo hiv:aB) (lt ld:List kr) (i:Nat) (v:aB) (x:aG):Prop :=
 match i with
 | 0=>∃ g,v=aj (V ⟨g,0,X⟩) 0 0/\B<=g/\dN x g #[] 53
 | 1=>v=L (V ⟨b2,2,X⟩)
 | 2=>v=aj so sn sc
 | 3=>v=aF aC (at_:Int)
 | 4=>v=lo
 | 5=>lD x B v lt
 | 6=>v=L (V ⟨b2,2,X⟩)
 | 7=>v=aj so sn sc
 | 8=>v=aF aC (at_:Int)
 | 9=>v=aF aC ((at_:Int)+1)
 | 10=>v=hiv
 | 11=>lD x B v (lt++ld)
 | 12=>v=L (V ⟨b2,2,X⟩)
 | _=>True
noncomputable def aah:Code:=((Tryz.f95.body.bind (eP 4)).getD .skip)
theorem SY (B b2 b3:Nat) (so:Option aY) (sn sc at_:Nat) (lo hiv:aB) (lt ld:List kr) (i:Nat) (v:aB) (x x':aG) (h:MV B b2 b3 so sn sc at_ lo hiv lt ld i v x) (hb:Below x.heap.size x x'):MV B b2 b3 so sn sc at_ lo hiv lt ld i v x':=by
 by_cases hi:i<13
 ·rcases (by omega:i=0\/i=1\/i=2\/i=3\/i=4\/i=5\/i=6\/i=7\/i=8\/i=9\/i=10\/i=11\/i=12) with rfl|rfl|rfl|rfl|rfl|rfl|rfl|rfl|rfl|rfl|rfl|rfl|rfl
  ·obtain⟨g,h1,h2,h3⟩:=h;exact⟨g,h1,h2,h3.on hb⟩
  ·exact h
  ·exact h
  ·exact h
  ·exact h
  ·exact dG h hb
  ·exact h
  ·exact h
  ·exact h
  ·exact h
  ·exact h
  ·exact dG h hb
  ·exact h
 ·unfold MV
  split <;> first | omega | trivial
theorem ahT (Q:Exit->Act->aG->Prop) (W:aG) (b2 b3:Nat) (me:Int) (y1 y3 y4 y5:aB) (so:Option aY) (sn sc at_:Nat) (l:List kr) (u0 u1 u2 u5 u6 u7 u9 u10 u11 u12 u13 u14 u15 u16 u17 u18 u19 u20 u21 u22 u23 u24 u25 u26 u27 u28 u29 u30 u31 u32 u33 u34 u35 u36 u37 u38 u39 u40 u41 u42 u43 u44 u45 u46 u47 u48 u49 u50 u51 u52 u53 u54 u55 u56 u57 u58 u59:aB)
  (h2:dN W b2 #[aF aC me,y1,aj so sn sc,y3,y4,y5] 33) (hs:wB W (aj so sn sc) l) (hat:at_+1<=l.length) (hlen:l.length<=900)
  (hQ:∀ (x:aG) (v28 v29 v30 v31 v32 v33 v34 v35 v36 v37 v38 v39 v40:aB),dN x b2 #[aF aC me,y1,v39,y3,y4,y5] 33->lD x W.heap.size v39 (l.take at_++l.drop (at_+1))->(∀ B,B<=b2->Below B W x)->(∀ c cs t,c≠b2->dN W c cs t->dN x c cs t)->(∀ k,k<W.heap.size->k≠b2->x.heap[k]?=W.heap[k]?)->Q .normal ⟨(u0::u1::u2::L (V ⟨b2,0,X⟩)::L (V ⟨b3,0,X⟩)::u5::u6::u7::aF aC (at_:Int)::u9::u10::u11::u12::u13::u14::u15::u16::u17::u18::u19::u20::u21::u22::u23::u24::u25::u26::u27::v28::v29::v30::v31::v32::v33::v34::v35::v36::v37::v38::v39::v40::u41::u42::u43::u44::u45::u46::u47::u48::u49::u50::u51::u52::u53::u54::u55::u56::u57::u58::u59::[]).toArray,[]⟩ x) :
  Code.wp ay aah Q ⟨(u0::u1::u2::L (V ⟨b2,0,X⟩)::L (V ⟨b3,0,X⟩)::u5::u6::u7::aF aC (at_:Int)::u9::u10::u11::u12::u13::u14::u15::u16::u17::u18::u19::u20::u21::u22::u23::u24::u25::u26::u27::u28::u29::u30::u31::u32::u33::u34::u35::u36::u37::u38::u39::u40::u41::u42::u43::u44::u45::u46::u47::u48::u49::u50::u51::u52::u53::u54::u55::u56::u57::u58::u59::[]).toArray,[]⟩ W:=by
 have HQ:=ak hQ;have H2:=ak h2;have AT1:=ak (show at_<=900 by omega);obtain⟨lo,Cy,wm⟩:=vL okD hs at_ (by omega);obtain⟨hiv,Cz,xQ⟩:=qH okD hs (at_+1) hat;have LT:=ak (show (l.take at_).length<=1000 by rw [aH]; omega);have SK:=ak (show (l.take at_).length<=900 by rw [aH]; omega);have LD:=ak (show (l.drop (at_+1)).length<=1000 by rw [aQ]; omega);generalize l.take at_=lt at *;generalize l.drop (at_+1)=ld at *;have SL:=ak Cy;have SH:=ak (show ∀ w,(aI 28 (aj so sn sc) (V (aF aC ((at_:Int)+1))) X X).run ay w=.ok hiv w from Cz);have RL:=ak wm;have RH:=ak xQ;clear hQ h2 hs Cy Cz wm xQ hat hlen;have iN:=SY W.heap.size b2 b3 so sn sc at_ lo hiv lt ld;unfold aah
 conv=>arg 2; whnf
 have nd:∀ j,(j<28\/41<=j)->∀ i,i<13->(fun i=>28+i) i≠j:=by
  intro j hj i hi h;simp only at h;omega
 refine bQ 14 13 (fun i=>28+i) (fun i=>if i=0 then 5 else if i=5 then 11 else 13) (MV W.heap.size b2 b3 so sn sc at_ lo hiv lt ld) (by kernel_rfl) (by kernel_rfl) rfl (by decide) (fun i j _ _ h=>by have h2:28+i=28+j:=h; omega) (fun i hi=>by show 28+i<60; omega) ?_ (fun _=>Rg.jq 1 (by kernel_rfl)) (fun kk o h1 h2=>by omega) ?_
 ·intro i o hi ho a x D hnd hc hD hb seen K hK;clear HQ;rcases (by omega:i=0\/i=1\/i=2\/i=3\/i=4\/i=5\/i=6\/i=7\/i=8\/i=9\/i=10\/i=11\/i=12) with rfl|rfl|rfl|rfl|rfl|rfl|rfl|rfl|rfl|rfl|rfl|rfl|rfl
  ·cases ho;exact au rfl rfl (bN a.eval _ 28 0 #[] rfl rfl (by simp [go_sem])) (hK (aj (V ⟨x.heap.size,0,X⟩) 0 0) (x.alloc (.cells #[] 53)) ⟨x.heap.size,rfl,hb.size,dO x #[] 53⟩ ((J _ _).alloc hb.size _) fun j u _ _ _ _ _ h=>iN j u _ _ h ((J _ _).alloc (aJ _) _))
  ·cases ho;have e3:a.eval (O 3)=L (V ⟨b2,0,X⟩):=seen.kp 3 _ (nd 3 (by omega)) rfl;exact au rfl rfl (aV a.eval _ 33 (O 3) 2 rfl (by rw [e3]; simp [go_sem])) (hK _ _ rfl (J _ _) fun _ _ _ _ _ _ _ h=>h)
  ·cases ho;have e29:a.eval (O 29)=L (V ⟨b2,2,X⟩):=seen.at_ ⟨1,.data⟩ (by simp) rfl (aA (by decide));have y:=(H2.out.on hb).cell 2;simp only [U,Y,Z] at y;exact au rfl rfl (bf a.eval _ 28 (O 29) rfl (by rw [e29]; simp [go_sem,y])) (hK _ _ rfl (J _ _) fun _ _ _ _ _ _ _ h=>h)
  ·cases ho;have e8:a.eval (O 8)=aF aC (at_:Int):=seen.kp 8 _ (nd 8 (by omega)) rfl;exact au rfl rfl (bI a.eval _ (O 8) rfl x) (hK _ _ e8 (J _ _) fun _ _ _ _ _ _ _ h=>h)
  ·cases ho;have e30:a.eval (O 30)=aj so sn sc:=seen.at_ ⟨2,.data⟩ (by simp) rfl (aA (by decide));have e31:a.eval (O 31)=aF aC (at_:Int):=seen.at_ ⟨3,.data⟩ (by simp) rfl (aA (by decide));exact au rfl rfl (bJ a.eval _ 28 (O 30) X (V (O 31)) X rfl (by show (aI 28 (a.eval (O 30)) X (V (a.eval (O 31))) X).run ay x=.ok lo x; rw [e30,e31]; exact SL.out x)) (hK _ _ rfl (J _ _) fun _ _ _ _ _ _ _ h=>h)
  ·cases ho;obtain⟨g,q0,hBg,hbx⟩:=seen.at_ ⟨0,.data⟩ (by simp) rfl (aM rfl);have q0:a.eval (O 28)=aj (V ⟨g,0,X⟩) 0 0:=q0;have e32:a.eval (O 32)=lo:=seen.at_ ⟨4,.data⟩ (by simp) rfl (aA (by decide));obtain⟨v',x',r,o',gr⟩:=gK okD W.heap.size hbx hBg (RL.out.on hb) LT.out 28;exact au rfl rfl (bg a.eval _ (O 28) (O 32) 28 rfl q0 e32 r) (hK v' x' o' (gr.mono hb.size) fun j u _ _ _ _ _ h=>iN j u _ _ h gr)
  ·cases ho;have e3:a.eval (O 3)=L (V ⟨b2,0,X⟩):=seen.kp 3 _ (nd 3 (by omega)) rfl;exact au rfl rfl (aV a.eval _ 33 (O 3) 2 rfl (by rw [e3]; simp [go_sem])) (hK _ _ rfl (J _ _) fun _ _ _ _ _ _ _ h=>h)
  ·cases ho;have e34:a.eval (O 34)=L (V ⟨b2,2,X⟩):=seen.at_ ⟨6,.data⟩ (by simp) rfl (aA (by decide));have y:=(H2.out.on hb).cell 2;simp only [U,Y,Z] at y;exact au rfl rfl (bf a.eval _ 28 (O 34) rfl (by rw [e34]; simp [go_sem,y])) (hK _ _ rfl (J _ _) fun _ _ _ _ _ _ _ h=>h)
  ·cases ho;have e8:a.eval (O 8)=aF aC (at_:Int):=seen.kp 8 _ (nd 8 (by omega)) rfl;exact au rfl rfl (bI a.eval _ (O 8) rfl x) (hK _ _ e8 (J _ _) fun _ _ _ _ _ _ _ h=>h)
  ·cases ho;have e36:a.eval (O 36)=aF aC (at_:Int):=seen.at_ ⟨8,.data⟩ (by simp) rfl (aA (by decide));exact au rfl rfl (Rg.Sw a.eval _ .add 3 (O 36) (.const (aF aC 1)) 3 rfl (by rw [e36]; exact add_one _ _ _ _ at_ AT1.out)) (hK _ _ rfl (J _ _) fun _ _ _ _ _ _ _ h=>h)
  ·cases ho;have e35:a.eval (O 35)=aj so sn sc:=seen.at_ ⟨7,.data⟩ (by simp) rfl (aA (by decide));have e37:a.eval (O 37)=aF aC ((at_:Int)+1):=seen.at_ ⟨9,.data⟩ (by simp) rfl (aA (by decide));exact au rfl rfl (bJ a.eval _ 28 (O 35) (V (O 37)) X X rfl (by show (aI 28 (a.eval (O 35)) (V (a.eval (O 37))) X X).run ay x=.ok hiv x; rw [e35,e37]; exact SH.out x)) (hK _ _ rfl (J _ _) fun _ _ _ _ _ _ _ h=>h)
  ·cases ho;have o33:lD x W.heap.size (a.eval (O 33)) (lt):=seen.at_ ⟨5,.data⟩ (by simp) rfl (aM rfl);have e38:a.eval (O 38)=hiv:=seen.at_ ⟨10,.data⟩ (by simp) rfl (aA (by decide));have ox:wB x (a.eval (O 38)) ld:=by rw [e38]; exact RH.out.on hb
   obtain⟨v',x',r,o',gr⟩:=gG okD W.heap.size o33 ox (by have:=SK.out; omega) LD.out hb.size 28;exact au rfl rfl (bg a.eval _ (O 33) (O 38) 28 rfl rfl rfl r) (hK v' x' o' ((J _ x).grown gr hb.size fun j hj=>(o33.lt j hj).1) fun j u hj dj nl nx ni h=>by
    rcases (by omega:j=0\/j=1\/j=2\/j=3\/j=4\/j=5\/j=6\/j=7\/j=8\/j=9\/j=10\/j=11\/j=12) with rfl|rfl|rfl|rfl|rfl|rfl|rfl|rfl|rfl|rfl|rfl|rfl|rfl
    ·exact absurd rfl (fun _:(0:Nat)=0=>nl (hD ⟨5,.data⟩ (by simp) rfl))
    ·exact h
    ·exact h
    ·exact h
    ·exact h
    ·exact absurd rfl (fun _:(0:Nat)=0=>nx rfl)
    ·exact h
    ·exact h
    ·exact h
    ·exact h
    ·exact h
    ·exact absurd rfl (fun _:(0:Nat)=0=>ni rfl)
    ·exact h)
  ·cases ho;have e3:a.eval (O 3)=L (V ⟨b2,0,X⟩):=seen.kp 3 _ (nd 3 (by omega)) rfl;exact au rfl rfl (aV a.eval _ 33 (O 3) 2 rfl (by rw [e3]; simp [go_sem])) (hK _ _ rfl (J _ _) fun _ _ _ _ _ _ _ h=>h)
 ·intro a w' df sz kp ⟨vs,hv⟩ hb;have gr:a.tmps[39]?=V (vs 11):=(hv 11 (by omega)).1;have gp:a.tmps[40]?=V (L (V ⟨b2,2,X⟩)):=by
   have h:vs 12=L (V ⟨b2,2,X⟩):=(hv 12 (by omega)).2 (by decide);rw [<- h];exact (hv 12 (by omega)).1
  have oR:lD w' W.heap.size (vs 11) (lt++ld):=(hv 11 (by omega)).2 (by decide);generalize vs 11=xR at *;obtain⟨ca,cp,eR⟩:=(Row.dH oR).len;have hbx:=H2.out.on hb;have hblt:=H2.out.lt;have c5:=hbx.cell 2;have f5:=hbx.fr 2;simp only [U,Y,Z] at c5;have hb1:=dR (k:=2) hbx xR;show bK _ _ _ 1 13 a w';simp only [bK];refine Rg.fP 28 (O 40) (O 39) rfl rfl rfl rfl (bL gp) (bL gr) (w':=w'.setCell ⟨b2,2,X⟩ xR) (by rw [eR]; simp [go_sem,c5,f5]) ?_;have sI:∀ j,(j<28\/41<=j)->a.tmps[j]?=(u0::u1::u2::L (V ⟨b2,0,X⟩)::L (V ⟨b3,0,X⟩)::u5::u6::u7::aF aC (at_:Int)::u9::u10::u11::u12::u13::u14::u15::u16::u17::u18::u19::u20::u21::u22::u23::u24::u25::u26::u27::u28::u29::u30::u31::u32::u33::u34::u35::u36::u37::u38::u39::u40::u41::u42::u43::u44::u45::u46::u47::u48::u49::u50::u51::u52::u53::u54::u55::u56::u57::u58::u59::[])[j]?:=fun j hj=>(kp j (nd j hj)).trans U;obtain⟨mid,hmid,rfl⟩:=bR 28 13 df sz (by simp) sI
  match mid,hmid with
  | [v28,v29,v30,v31,v32,v33,v34,v35,v36,v37,v38,v39,v40],_ =>
   have e1:V v39=V xR:=gr;obtain rfl:=aD e1;refine HQ.out _ v28 v29 v30 v31 v32 v33 v34 v35 v36 v37 v38 v39 v40 ?_ ?_ ?_ ?_ ?_
   ·simpa using hb1
   ·exact dP oR b2 2 _ hblt
   ·exact fun B hB=>(hb.mono (aW (aN hB hblt))).setCell hB _
   ·intro c cs t hc hbc;exact (ah _ _ _ _ hc).trans (hbc.on hb)
   ·intro k hk hne;exact (ah _ _ _ _ hne).trans (hb.block k hk)
end Bk
namespace Pr
open Go.RowKit Go.Sort Pu Rw Va
end Pr
namespace Rl
open Go.RowKit Pu Pr
abbrev An:=ByteArray×V3
def has (m:List Cn) (n:ByteArray):Bool:=m.any fun x=>decide (x.1=n)
def zQ (a b:List Cn):Bool:=match zO a.length a b with
 | .ok _=>aR
 | .error _=>bO
theorem Pz {c:Cn} {r:List Cn} (h:oz (c::r)):∀ y∈r,y.1≠c.1:=fun y hy e=>Fj ((aO.1 h).1 y hy) e.symm
theorem zR:∀ (m:List Cn) (c:Cn) (m':List Cn),oz m->sH m c=V m'->m'.length=m.length+(if has m c.1 then 0 else 1)
 | [],c,m',_,h=>by
  obtain rfl:=aD h
  rfl
 | x::r,c,m',hr,h=>by
  obtain⟨h1,h2⟩:=aO.1 hr;simp only [sH] at h
  split at h
  ·rename_i hl
   cases hi:sH r c with
   | none=>rw [hi] at h; cases h
   | some n =>
    rw [hi] at h;obtain rfl:=aD h;have e:=zR r c n h2 hi;have hx:has (x::r) c.1=has r c.1:=by simp [has,Fj hl]
    rw [hx];simp only [List.length_cons];omega
  ·rename_i hl
   split at h
   ·rename_i he
    cases hb:fE x.2 c.2 with
    | none=>rw [hb] at h; cases h
    | some k =>
     rw [hb] at h;obtain rfl:=aD h;have hx:has (x::r) c.1=aR:=by simp [has,he]
     rw [hx]
     rfl
   ·rename_i he
    obtain rfl:=aD h;have hx:has (x::r) c.1=bO:=by
     simp only [has,List.any_cons,Bool.or_eq_false_iff,decide_eq_false_iff_not,List.any_eq_false,decide_eq_true_eq];refine⟨he,fun y hy e=>?_⟩;have h3:=h1 y hy;rw [e] at h3;exact hl h3
    rw [hx]
    rfl
/-! ### match -/
def xS (p:List Cn) (l:List An):Bool:=p.all fun c=>l.any fun a=>decide (a.1=c.1) && eG c.2 a.2
theorem uniq {l:List An} (h:(l.map (·.1)).Nodup) {x y:An} (hx:x∈l) (hy:y∈l) (e:x.1=y.1):x=y:=by
 induction l with
 | nil=>cases hx
 | cons z r ih =>
  simp only [List.map_cons,List.nodup_cons] at h;rcases aP.1 hx with rfl|hx2 <;> rcases aP.1 hy with rfl|hy2
  ·rfl
  ·exact absurd (by rw [e]; exact aT hy2) h.1
  ·exact absurd (by rw [<- e]; exact aT hx2) h.1
  ·exact ih h.2 hx2 hy2
theorem aeY {l:List Cn} (h:oz l) {x y:Cn} (hx:x∈l) (hy:y∈l) (e:x.1=y.1):x=y:=by
 induction l with
 | nil=>cases hx
 | cons z r ih =>
  have h1:=Pz h;have h2:=(aO.1 h).2;rcases aP.1 hx with rfl|hx2 <;> rcases aP.1 hy with rfl|hy2
  ·rfl
  ·exact absurd e.symm (h1 y hy2)
  ·exact absurd e (h1 x hx2)
  ·exact ih h2 hx2 hy2
/-! ### cover -/
def eX:Kd->Kd->Bool
 | .rg p q,.rg r s=>decide (r<=p) && decide (q<=s)
 | .tx s,.tx t=>s.data.toList == t.data.toList
 | .tx s,.pr t=>pfx t s
 | .pr s,.pr t=>pfx t s
 | _,_=>bO
theorem vg (a b:Kd) (h:eX a b=aR) (v:V3) (hv:eG a v=aR):eG b v=aR:=by
 obtain⟨t,n,u⟩:=v;cases a <;> cases b <;> simp only [eX,aK,decide_eq_true_eq,beq_iff_eq] at h <;> simp only [eG,aK,decide_eq_true_eq,beq_iff_eq] at hv ⊢
 ·exact⟨hv.1,by omega,by omega⟩
 ·cases h
 ·cases h
 ·cases h
 ·exact⟨hv.1,hv.2.trans h⟩
 ·exact⟨hv.1,by rw [fU,hv.2,<- fU]; exact h⟩
 ·cases h
 ·cases h
 ·exact⟨hv.1,(fU _ _).2 (((fU _ _).1 h).trans ((fU _ _).1 hv.2))⟩
theorem CF (a b:Kd) (ha:jy a=aR) (h:∀ v,eG a v=aR->eG b v=aR):eX a b=aR:=by
 cases a with
 | rg p q =>
  simp only [jy,decide_eq_true_eq] at ha;have h1:=h (bO,p,⟨#[]⟩) (by rw [zN]; simp [ha]);have h2:=h (bO,q,⟨#[]⟩) (by rw [zN]; simp [ha]);cases b with
  | rg r s =>
   rw [zN] at h1 h2;simp only [aK,decide_eq_true_eq] at h1 h2;simp [eX,h1.1,h2.2]
  | tx t=>simp [eG] at h1
  | pr t=>simp [eG] at h1
 | tx s =>
  have h1:=h (aR,0,s) (by rw [nL]; simp);cases b with
  | rg r t=>rw [uE] at h1; cases h1
  | tx t=>rw [nL] at h1; exact h1
  | pr t=>rw [lT] at h1; exact h1
 | pr s =>
  have h1:=h (aR,0,s) (by rw [lT]; exact pI s);cases b with
  | rg r t=>rw [uE] at h1; cases h1
  | tx t =>
   have h2:=h (aR,0,more s) (by rw [lT]; exact Hy s);rw [nL,beq_iff_eq] at h1 h2;rw [<- h1] at h2;have h3:=congrArg List.length h2;simp [more] at h3
  | pr t=>rw [lT] at h1; exact h1
def qw (a b:List Cn):Bool:=a.all fun x=>b.any fun y=>decide (y.1=x.1) && eX y.2 x.2
end Rl
namespace In
open Go.RowKit Go.ChangeShapes Go.WideShapes
structure iC (W:aG) (nv:aB) (zs:List Int):Prop where
 shape:∃ ao cap,nv=aj ao zs.length cap
 at_:∀ (i:Nat) (z:Int),zs[i]?=V z->(-9223372036854775808<=z/\z<=9223372036854775807)/\∃ p:aY,p.block<W.heap.size/\(∀ w,(bA 25 nv (aF aC i)).run ay w=.ok (L (V p)) w)/\W.cell? p=V (aF aC z)
theorem iC.on {W W':aG} {nv:aB} {zs:List Int} (h:iC W nv zs) (hb:Below W.heap.size W W'):iC W' nv zs :=
 ⟨h.shape,fun i z hz=>by
  obtain⟨h1,p,h2,h3,h4⟩:=h.at_ i z hz;exact⟨h1,p,Nat.lt_of_lt_of_le h2 hb.size,h3,by rw [hb.cell h2]; exact h4⟩⟩
theorem uG {n:Int} (h:(Lit.int aC n).wf=aR):-9223372036854775808<=n/\n<=9223372036854775807:=by
 have h2:(decide (IntKind.i64.min<=n) && decide (n<=IntKind.i64.max))=aR:=h;rw [aK,decide_eq_true_eq,decide_eq_true_eq,show IntKind.i64.min=-9223372036854775808 by decide,show IntKind.i64.max=9223372036854775807 by decide] at h2;exact h2
theorem Kr:Tryz.prog.cellsOf 3=1:=by kernel_rfl
theorem Kt (a:aY) (m len cap:Nat) (h:m<len) (w:aG):(bA 25 (aj (V a) len cap) (aF aC m)).run ay w=.ok (L (V (a.add m))) w:=by
 have h1:(m:Int)<len:=by omega
 simp [go_sem,aX,h1]
theorem uH {H:Type} {enc:aZ×aB->H} {W:aG} {sp:Nat->Bool} {held:Bool} {fuel:Nat} {v:aB} {x:DataW H×List MemPlace}
  (hf:DataW.trod enc ay W 0 sp held fuel 25 [v]=V x):∃ zs,zs.length<=maxLen/\iC W v zs:=by
 rcases open_ints aX Tryz.underlying3 Kr hf with⟨h1,_⟩|⟨a',len',cap',zs,h1,_,h3,h4,h5,_,h7,h8⟩
 ·have e:v=aj X 0 0:=by simpa using h1
  rw [e];exact⟨[],bH _,⟨X,0,rfl⟩,fun i z h=>by simp at h⟩
 ·have e:v=aj (V a') len' cap':=by simpa using h1
  rw [e];have hle:len'<=zs.length:=by rw [h5]; split <;> omega
  have hl:(zs.take len').length=len':=by simp; omega
  refine⟨zs.take len',by omega,⟨V a',cap',by rw [hl]⟩,fun i z hz=>?_⟩;obtain⟨hi,hzi⟩:=List.getElem?_eq_some_iff.1 hz;have hi2:i<len':=by omega
  have hz2:zs[i]'(by omega)=z:=by simpa using hzi
  have hc:=h7 i (by omega);have hg:zs.getD i 0=z:=by rw [<- hz2]; simp [List.getD,show i<zs.length by omega]
  rw [hg] at hc;exact⟨uG (h8 z (by rw [<- hz2]; exact List.getElem_mem _)),a'.add i,World.block_lt_of_cell? W _ hc,fun w=>Kt a' i len' cap' hi2 w,hc⟩
end In
end Go.Proofs.YtkcfgbddlpomgaaGreat
