/-
  Numbers in memory, a. Conditions as told.
-/
import Derived.Test.YtghlpefopidlaaaGreatBQ000
import Derived.Lib.AppendZerosOnto
import Derived.Lib.Overlaps
import Derived.Deep.RegionLaw
import Derived.Laws.Externs
import Derived.Orders
import Derived.ChangeSlices
import Derived.Below
import Derived.Lib.Bytealg
set_option maxRecDepth 100000
set_option maxHeartbeats 64000000
open _root_.Array renaming getD->aI,getElem?_eq_some_iff->aQ,length_toList->aW,getElem?_eq_getElem->bC,all_eq_true'->cK
open _root_.Bool renaming true->aB,false->dz
open _root_.Go renaming World->O,Value->U,Operand->aj,TypeId->ay,Act->bG
open Go.Builtin renaming copy_->aO,append_->aS,firstCells->cB,zeroCells->dh
open Go.Deferred renaming ofValue->bJ
open Go.IntKind renaming i64->bN
open Go.Lib renaming compareBytes->Z
open Go.Op renaming bytesLess->aC
open Go.Oper renaming wp->aX,upon_enter->dD
open Go.Proofs.Tryz renaming prog->ak,underlying24->bF
open Go.Region renaming wanted->X,binds->Y,ready->dw
open Go.Result renaming andThen->aJ,andThen_ok->bH
open Go.Value renaming slice->aF,int->bZ
open _root_.List renaming length_take->aA,append_assoc->aD,getElem?_eq_some_iff->aH,getElem?_take->aM,length_append->aN,size_toArray->aP,length_drop->aR,eq_nil_of_length_eq_zero->aU,getElem?_drop->bf,getElem?_append_right->bg,getElem?_append_left->bD,map_toArray->bI,getElem_mem->bK,all_eq_true->bL,take_of_length_le->bP,drop_of_length_le->bQ,take_append_drop->bV,mem_range->bY,map_cons->cu,map_nil->dn,take_left'->dB
open _root_.Nat renaming mul_le_mul_right->J,min_eq_left->au,lt_or_ge->aG,le_refl->aT,add_mul->aV,mul_le_mul->bW,add_zero->cO,le_trans->cZ
open _root_.Option renaming some->ah,none->aK
open _root_.Or renaming inl->aY,inr->aZ
open _root_.UInt8 renaming not_lt->bU,le_antisymm->dx
namespace Go.Proofs.YtghlpefopidlaaaGreat
namespace Nm
open Go.RowKit Rw
def EI:Ek Int:=⟨3,24,1,8,bZ bN 0,fun n=>.int bN n,fun n=>[bZ bN n]⟩
theorem TP:(Tryz.prog.info? 3).map (fun i=>(i.zero,i.size,i.bytes))=ah (ah (bZ bN 0),1,8):=by kernel_rfl
theorem PG:EI.Ok where
 hu:=bF
 info:=by
  have h:=TP;cases hi:Tryz.prog.info? 3 with
  | none=>rw [hi] at h; cases h
  | some i =>
   rw [hi] at h;simp only [Option.map_some,Option.some.injEq,Prod.mk.injEq] at h;exact⟨i,hi,h.1,h.2.1,h.2.2⟩
 zs:=rfl
 len:=fun _=>rfl
 one:=fun x u hu=>by
  simp only [EI,List.mem_cons,List.not_mem_nil,or_false] at hu;rw [hu]
  rfl
 pos:=by decide
 few:=by decide
 load:=fun w p x h=>by
  have h0:=h 0 _ rfl;rw [add_zero] at h0;show (Instr.loadAt 3 (.pointer (ah p))).run ak w=.ok (bZ bN x) w;simp [go_sem,h0]
abbrev Bw (W:O) (v:U) (l:List Int):Prop:=Row EI W v l
abbrev uH (W:O) (B:Nat) (v:U) (l:List Int):Prop:=Own EI W B v l
theorem Bz:∀ l:List Int,flat EI l=l.map (fun n=>.int bN n)
 | []=>rfl
 | x::r=>by
  show EI.cells x++flat EI r=_;rw [Bz r]
  rfl
end Nm
namespace Rw
open Go.RowKit
variable {α:Type} {E:Ek α}
theorem below_setRow {B g:Nat} {W w:O} (h:Below B W w) (hB:B<=g) (cs:Array U):Below B W (w.setRow g cs) :=
 ⟨h.os,h.tape,h.output,by simp [World.setRow]; exact h.size,fun k hk=>by
  have hne:g≠k:=by omega
  have h2:=h.block k hk;simp [World.setRow,Array.getElem?_modify,hne,h2]⟩
theorem dG.set {w:O} {g:Nat} {cur:Array U} {t:ay} (h:dG w g cur t) (cs:Array U):dG (w.setRow g cs) g cs t:=setRow_heap w g cur cs t (0,0) h
theorem dG.other {w:O} {g b:Nat} {cur:Array U} {t:ay} (h:dG w b cur t) (hne:b≠g) (cs:Array U):dG (w.setRow g cs) b cur t:=(setRow_other w g b cs hne).trans h
theorem dG.shape {w:O} {b:Nat} {cur:Array U} {t:ay} (h:dG w b cur t):w.shape? b=ah (t,cur.size):=by
 unfold dG at h;simp [World.shape?,h]
theorem eZ {W:O} {B:Nat} {v:U} {l:List α} (h:Own E W B v l):(v=aF aK 0 0/\l=[])\/∃ g cap cur,v=aF (ah ⟨g,0,aK⟩) l.length cap/\B<=g/\dG W g cur E.t/\l.length<=cap/\cap<=maxLen/\cur.size=cap * E.n/\cur.toList.take (l.length * E.n)=flat E l:=by
 rcases h.2 with⟨h1,h2⟩|⟨g,cap,cur,h1,h2,h3,h4,h5,h6,h7⟩
 ·exact aY ⟨h1,aU h2⟩
 ·exact aZ ⟨g,cap,cur,h1,h2,h3,h4,h5,h6,h7⟩
theorem kD (K:E.Ok) {W:O} {B g cap n:Nat} {cur:Array U} {l:List α} (hn:n=l.length) (hB:B<=g) (hb:dG W g cur E.t) (h1:n<=cap) (h2:cap<=maxLen) (h3:cur.size=cap * E.n) (h4:cur.toList.take (n * E.n)=flat E l):Own E W B (aF (ah ⟨g,0,aK⟩) n cap) l:=by
 subst hn;exact⟨dJ K l,aZ ⟨g,cap,cur,rfl,hB,hb,h1,h2,h3,h4⟩⟩
theorem kX (K:E.Ok) (l:List α) (k:Nat):(flat E l).take (k * E.n)=flat E (l.take k):=by
 rcases Nat.le_total k l.length with h|h
 ·conv=>lhs; rw [<- bV k l,fC]
  have e:(flat E (l.take k)).length=k * E.n:=by rw [dJ K,aA,au h]
  rw [<- e,List.take_left]
 ·rw [bP h,bP];rw [dJ K];exact J _ h
theorem sD (K:E.Ok) (l:List α) (k:Nat):(flat E l).drop (k * E.n)=flat E (l.drop k):=by
 rcases Nat.le_total k l.length with h|h
 ·conv=>lhs; rw [<- bV k l,fC]
  have e:(flat E (l.take k)).length=k * E.n:=by rw [dJ K,aA,au h]
  rw [<- e,List.drop_left]
 ·rw [bQ h,bQ]
  ·rfl
  rw [dJ K];exact J _ h
theorem qX (K:E.Ok) {W:O} {g:Nat} {cur:Array U} {t:ay} {l:List α} (hb:dG W g cur t) (ht:cur.toList.take (l.length * E.n)=flat E l) (k:Nat):∀ j u,(flat E (l.drop k))[j]?=ah u->W.cell? ((⟨g,k * E.n,aK⟩:Addr).add j)=ah u:=by
 intro j u hj;rw [Addr.add_lit,hb.cell];rw [<- sD K,bf,<- ht,aM] at hj
 split at hj
 ·simpa using hj
 ·cases hj
theorem nS {W:O} {b:Nat} {cs:Array U} {t:ay} {x:α} (hb:dG W b cs t) (hc:cs.toList=E.cells x):∀ j u,(flat E [x])[j]?=ah u->W.cell? ((⟨b,0,aK⟩:Addr).add j)=ah u:=by
 intro j u hj;rw [mD,hb.cell];rw [Il,<- hc] at hj;simpa using hj
theorem fE (K:E.Ok) (g k len cap:Nat) (h:k<=len) (hc:k<cap) (w:O):(Instr.sliceAt E.ts (aF (ah ⟨g,0,aK⟩) len cap) (ah (bZ bN k)) aK aK).run ak w=.ok (aF (ah ⟨g,k * E.n,aK⟩) (len-k) (cap-k)) w:=by
 rw [qU K ⟨g,0,aK⟩ k len cap h w,if_neg (by omega),mD]
theorem qY (K:E.Ok) {w:O} {g o nd cd ns sc:Nat} {a:Addr} {cur:Array U} {m:List α} (hb:dG w g cur E.t) (hm:∀ j u,(flat E m)[j]?=ah u->w.cell? (a.add j)=ah u) (hk:min ns nd=m.length) (hr:(o+m.length) * E.n<=cur.size) (ty:ay) :
  (aO #[E.ts,E.ts] ty #[aF (ah ⟨g,o * E.n,aK⟩) nd cd,aF (ah a) ns sc]).run ak w=.ok (bZ bN m.length) (w.setRow g (cur.toList.take (o * E.n)++flat E m++cur.toList.drop ((o+m.length) * E.n)).toArray):=by
 obtain⟨i,i1,i2,i3,i4⟩:=K.info;have hl:=run_loadCells_list (P:=ak) w a (flat E m) hm;have hst:=run_storeCells_at ak g (o * E.n) E.t (flat E m) 0 cur w hb (by rw [dJ K,cO,<- aV]; exact hr) (jU K m);rw [dJ K] at hl;have e:o * E.n+0+(flat E m).length=(o+m.length) * E.n:=by rw [dJ K,cO,aV]
 rw [e,cO] at hst;simp [aO,run_underlying K.hu,Builtin.lenOf,cB,sizeOf,typeInfo,i1,i3,hk,hl,goInt];simpa using congrArg (fun r=>r.andThen fun _ w=>Result.ok (bZ bN m.length) w) hst
/-! ### one element more, in the middle -/
section
variable {l:List α} {k cap:Nat} {cur cs:Array U} {c:α}
theorem nk (K:E.Ok) (hk:k<l.length) (hcap:l.length+1<=cap) (hsz:cur.size=cap * E.n) (ht:cur.toList.take (l.length * E.n)=flat E l) (g b:Nat) (_hne:b≠g) :
  ∃ R1 R2:Array U,
   (∀ (W:O) (ty:ay) (nd dc ns sc:Nat),dG W g cur E.t->min ns nd=l.length-k->(aO #[E.ts,E.ts] ty #[aF (ah ⟨g,(k+1) * E.n,aK⟩) nd dc,aF (ah ⟨g,k * E.n,aK⟩) ns sc]).run ak W=.ok (bZ bN ((l.length-k:Nat):Int)) (W.setRow g R1)) /\
   (∀ (W:O) (ty:ay) (nd dc:Nat),dG W g R1 E.t->dG W b cs E.t->cs.toList=E.cells c->1<=nd->(aO #[E.ts,E.ts] ty #[aF (ah ⟨g,k * E.n,aK⟩) nd dc,aF (ah ⟨b,0,aK⟩) 1 1]).run ak W=.ok (bZ bN 1) (W.setRow g R2)) /\
   (∀ (W:O) (B:Nat),B<=g->cap<=maxLen->dG W g R2 E.t->Own E W B (aF (ah ⟨g,0,aK⟩) (l.length+1) cap) (l.take k++c::l.drop k)):=by
 have hkl:(l.drop k).length=l.length-k:=by simp
 have hs1:(cur.toList.take ((k+1) * E.n)++flat E (l.drop k)++cur.toList.drop ((k+1+(l.drop k).length) * E.n)).length=cap * E.n:=by
  have h1:(k+1) * E.n<=cap * E.n:=J _ (by omega);have h2:(k+1+(l.drop k).length) * E.n<=cap * E.n:=J _ (by omega);simp only [aN,aA,aR,aW,dJ K,hsz];rw [au h1];have h3:(k+1+(l.drop k).length) * E.n=(k+1) * E.n+(l.drop k).length * E.n:=aV ..;simp only [aR] at h2 h3 ⊢;omega
 refine⟨(cur.toList.take ((k+1) * E.n)++flat E (l.drop k)++cur.toList.drop ((k+1+(l.drop k).length) * E.n)).toArray,
  ((cur.toList.take ((k+1) * E.n)++flat E (l.drop k)++cur.toList.drop ((k+1+(l.drop k).length) * E.n)).take (k * E.n)++flat E [c]++(cur.toList.take ((k+1) * E.n)++flat E (l.drop k)++cur.toList.drop ((k+1+(l.drop k).length) * E.n)).drop ((k+1) * E.n)).toArray,?_,?_,?_⟩
 ·intro W ty nd dc ns sc hb hm;have h:=qY K (o:=k+1) (m:=l.drop k) (nd:=nd) (cd:=dc) (ns:=ns) (sc:=sc) hb (qX K hb ht k) (by rw [hkl]; exact hm) (by rw [hkl,hsz]; exact J _ (by omega)) ty;rw [hkl] at h ⊢;exact h
 ·intro W ty nd dc hb hx hc hn;have h:=qY K (o:=k) (m:=[c]) (nd:=nd) (cd:=dc) (ns:=1) (sc:=1) hb (nS hx hc) (by simp; omega) (by rw [aP,hs1]; exact J _ (by simp; omega)) ty;simpa using h
 ·intro W B hB hm hb;have p1:(cur.toList.take ((k+1) * E.n)).length=(k+1) * E.n:=by
   rw [aA,aW,hsz];exact au (J _ (by omega))
  have p2:(cur.toList.take ((k+1) * E.n)++flat E (l.drop k)++cur.toList.drop ((k+1+(l.drop k).length) * E.n)).take (k * E.n)=flat E (l.take k):=by
   rw [aD,List.take_append_of_le_length (by rw [p1]; exact J _ (by omega)),List.take_take,au (J _ (by omega)),<- kX K,<- ht,List.take_take,au (J _ (by omega))]
  have p3:(cur.toList.take ((k+1) * E.n)++flat E (l.drop k)++cur.toList.drop ((k+1+(l.drop k).length) * E.n)).drop ((k+1) * E.n)=flat E (l.drop k)++cur.toList.drop ((k+1+(l.drop k).length) * E.n):=by
   rw [aD,List.drop_left' p1]
  have e:flat E (l.take k)++flat E [c]++flat E (l.drop k)=flat E (l.take k++c::l.drop k):=by
   rw [fC,show c::l.drop k=[c]++l.drop k from rfl,fC,aD]
  have ln:(l.take k++c::l.drop k).length=l.length+1:=by simp; omega
  have q:(flat E (l.take k)++flat E [c]++flat E (l.drop k)).length=(l.length+1) * E.n:=by rw [e,dJ K,ln]
  refine kD K ln.symm hB hb hcap hm ?_ ?_
  ·rw [aP,p2,p3,<- aD,aN,q,aR,show cur.toList.length=cap * E.n from Array.length_toList.trans hsz,hkl];have h1:(l.length+1) * E.n<=cap * E.n:=J _ hcap;rw [show k+1+(l.length-k)=l.length+1 by omega];omega
  ·rw [p2,p3,<- aD];exact (dB q).trans e
theorem oN (K:E.Ok) (tn:ay) (htn:Tryz.prog.underlying tn=ah (.int .i64)) (hk:k<l.length) (hl:l.length<=1000) (hcap:cap<l.length+1) (hlc:l.length<=cap) (ht:cur.toList.take (l.length * E.n)=flat E l) (W:O) (g b:Nat) (hb:dG W g cur E.t) (_hbW:b<W.heap.size) :
  ∃ (G:Nat) (R1 R2 R3:Array U),l.length+1<=G/\G<=maxLen /\
   (∀ ty,(aS #[E.ts,tn] ty #[aF (ah ⟨g,0,aK⟩) k cap,bZ bN ((l.length:Int)+1-k)]).run ak W=.ok (aF (ah ⟨W.heap.size,0,aK⟩) (l.length+1) G) (W.drew.alloc (.cells R1 E.t))) /\
   (∀ (w:O) (ty:ay) (nd dc:Nat),dG w W.heap.size R1 E.t->dG w b cs E.t->cs.toList=E.cells c->1<=nd->(aO #[E.ts,E.ts] ty #[aF (ah ⟨W.heap.size,k * E.n,aK⟩) nd dc,aF (ah ⟨b,0,aK⟩) 1 1]).run ak w=.ok (bZ bN 1) (w.setRow W.heap.size R2)) /\
   (∀ (w:O) (ty:ay) (nd dc ns sc:Nat),dG w W.heap.size R2 E.t->dG w g cur E.t->min ns nd=l.length-k->(aO #[E.ts,E.ts] ty #[aF (ah ⟨W.heap.size,(k+1) * E.n,aK⟩) nd dc,aF (ah ⟨g,k * E.n,aK⟩) ns sc]).run ak w=.ok (bZ bN ((l.length-k:Nat):Int)) (w.setRow W.heap.size R3)) /\
   (∀ (w:O) (B:Nat),B<=W.heap.size->dG w W.heap.size R3 E.t->Own E w B (aF (ah ⟨W.heap.size,0,aK⟩) (l.length+1) G) (l.take k++c::l.drop k)):=by
 obtain⟨i,i1,i2,i3,i4⟩:=K.info;have hf:=K.few;have hpos:=K.pos;have hkl:(l.drop k).length=l.length-k:=by simp
 have hold:(cB i.size k (aF (ah ⟨g,0,aK⟩) k cap)).run ak W.drew=.ok (flat E (l.take k)).toArray W.drew :=
  run_firstCells_some (P:=ak) (w:=W.drew) i.size k ⟨g,0,aK⟩ k cap (flat E (l.take k)) (by rw [dJ K,aA,au (by omega),i3]) (fun j u hj=>by
   rw [mD];show W.cell? _=_;rw [hb.cell];rw [<- kX K,<- ht,aM] at hj
   split at hj
   ·rw [aM] at hj
    split at hj
    ·simpa using hj
    ·cases hj
   ·cases hj)
 have happ:=fun ty=>Lib.run_append_grow_zeros (P:=ak) W E.ts tn ty E.t i _ bN bN K.hu htn i1 i2 (ah ⟨g,0,aK⟩) k cap (flat E (l.take k)) hold (l.length+1-k) (by omega) (by rw [i3]; exact hpos) (by omega) (by omega)
  (by rw [i4]; exact cZ (bW (show l.length+1-k<=2000 by omega) hf) (by decide))
  (growslice_fits (by omega) (by rw [i4]; exact cZ (bW (show k+(l.length+1-k)<=2000 by omega) hf) (by decide)))
 rw [show k+(l.length+1-k)=l.length+1 by omega] at happ;have hG1:=grownCap_ge W (l.length+1) cap E.t;have hG2:=grownCap_le_maxLen W (l.length+1) cap E.t (by unfold maxLen; omega);generalize grownCap W (l.length+1) cap E.t=G at happ hG1 hG2;obtain⟨R1,ZJ⟩:∃ R1:Array U,R1=(flat E (l.take k)).toArray++dh E.z.cells (l.length+1-k)++dh E.z.cells (G-(l.length+1)):=⟨_,rfl⟩;rw [<- ZJ] at happ;have hs0:R1.size=G * E.n:=by
  rw [ZJ];simp only [Array.size_append,aP,size_zeroCells,K.zs,dJ K,aA,au (Nat.le_of_lt hk),<- aV];rw [show k+(l.length+1-k)+(G-(l.length+1))=G by omega]
 have hh:R1.toList.take (k * E.n)=flat E (l.take k):=by
  rw [ZJ];simp only [Array.toList_append,aD];have e:(flat E (l.take k)).length=k * E.n:=by rw [dJ K,aA,au (by omega)]
  rw [<- e];simp
 have q1:(flat E [c]).length=1 * E.n:=by rw [dJ K]; rfl
 have q0:(R1.toList.take (k * E.n)).length=k * E.n:=by
  rw [hh,dJ K,aA,au (by omega)]
 have hs2:(R1.toList.take (k * E.n)++flat E [c]++R1.toList.drop ((k+[c].length) * E.n)).length=G * E.n:=by
  have h1:(k+1) * E.n<=G * E.n:=J _ (by omega);have h2:(k+1) * E.n=k * E.n+1 * E.n:=aV ..;simp only [aN,q0,q1,aR,aW,hs0,List.length_singleton];omega
 refine⟨G,R1,(R1.toList.take (k * E.n)++flat E [c]++R1.toList.drop ((k+[c].length) * E.n)).toArray,
  ((R1.toList.take (k * E.n)++flat E [c]++R1.toList.drop ((k+[c].length) * E.n)).take ((k+1) * E.n)++flat E (l.drop k)++(R1.toList.take (k * E.n)++flat E [c]++R1.toList.drop ((k+[c].length) * E.n)).drop ((k+1+(l.drop k).length) * E.n)).toArray,hG1,hG2,?_,?_,?_,?_⟩
 ·intro ty;have h:=happ ty;rw [show ((l.length+1-k:Nat):Int)=(l.length:Int)+1-k by omega] at h;exact h
 ·intro w ty nd dc hb' hx hc hn;have h:=qY K (o:=k) (m:=[c]) (nd:=nd) (cd:=dc) (ns:=1) (sc:=1) hb' (nS hx hc) (by simp; omega) (by rw [hs0]; exact J _ (by simp; omega)) ty;simpa using h
 ·intro w ty nd dc ns sc hb' hx hm;have h:=qY K (o:=k+1) (m:=l.drop k) (nd:=nd) (cd:=dc) (ns:=ns) (sc:=sc) hb' (qX K hx ht k) (by rw [hkl]; exact hm) (by rw [hkl,aP,hs2]; exact J _ (by omega)) ty;rw [hkl] at h ⊢;exact h
 ·intro w B hB hb';have p2:(R1.toList.take (k * E.n)++flat E [c]++R1.toList.drop ((k+[c].length) * E.n)).take ((k+1) * E.n)=flat E (l.take k)++flat E [c]:=by
   have e:(R1.toList.take (k * E.n)++flat E [c]).length=(k+1) * E.n:=by rw [aN,q0,q1,<- aV]
   rw [<- e,List.take_left,hh]
  have e:flat E (l.take k)++flat E [c]++flat E (l.drop k)=flat E (l.take k++c::l.drop k):=by
   rw [fC,show c::l.drop k=[c]++l.drop k from rfl,fC,aD]
  have ln:(l.take k++c::l.drop k).length=l.length+1:=by simp; omega
  have q:(flat E (l.take k)++flat E [c]++flat E (l.drop k)).length=(l.length+1) * E.n:=by rw [e,dJ K,ln]
  refine kD K ln.symm hB hb' hG1 hG2 ?_ ?_
  ·rw [aP,p2,aN,q,aR,hs2,hkl];have h1:(l.length+1) * E.n<=G * E.n:=J _ hG1;rw [show k+1+(l.length-k)=l.length+1 by omega];omega
  ·rw [p2];exact (dB q).trans e
end
theorem gN {P:Program} {ops:Array Oper} {rest:List Oper} {o:Oper} {a:bG} {Q:Exit->bG->O->Prop} {w w':O} (hgd:o.guard=aK) (s x:aj) (t t':ay)
  (ho:o.op=.call { callee:=.builtin .append,args:=#[s,x],argTypes:=#[t,t'] }) {v xv v':U} (hs:a.eval s=v) (hx:a.eval x=xv) (hr:(aS #[t,t'] o.type #[v,xv]).run P w=.ok v' w')
  (h:wpList P ops Q rest (a.put o.dst v') w'):wpList P ops Q (o::rest) a w:=by
 refine wpList_plain hgd fun K hK=>?_;unfold aX execOp;simp only [ho,resolve,invoke,builtin,Sem.run_bind,Sem.run_pure,bH,bI,cu,dn,hs,hx,hr];exact hK _ _ h
theorem gq {P:Program} {ops:Array Oper} {o:Oper} {a:bG} {w w':O} {K:bG->O->Prop} {Q:Exit->bG->O->Prop} {E:Prop}
  (hg:o.guard=aK) (s x:aj) (t:ay) (hop:o.op=.call { callee:=.builtin .copy,args:=#[s,x],argTypes:=#[t,t] }) {v xv v':U} (hs:a.eval s=v) (hx:a.eval x=xv)
  (hr:(aO #[t,t] o.type #[v,xv]).run P w=.ok v' w') (hK:K (a.put o.dst v') w') :
  if X o (yielded ops a.tmps)=aB then aX P o a w K Q else E:=by
 have hw:X o (yielded ops a.tmps)=aB:=by simp [X,hg]
 rw [if_pos hw];unfold aX execOp;simp only [hop,resolve,invoke,builtin,Sem.run_bind,Sem.run_pure,bH,bI,cu,dn,hs,hx,hr];exact hK
theorem oG {P:Program} {ops:Array Oper} {o:Oper} {a:bG} {w w':O} {K:bG->O->Prop} {Q:Exit->bG->O->Prop} {E:Prop}
  (hg:o.guard=aK) (s x:aj) (t:ay) (hop:o.op=.call { callee:=.builtin .append,args:=#[s,x],argTypes:=#[t,t] }) {v xv v':U} (hs:a.eval s=v) (hx:a.eval x=xv)
  (hr:(aS #[t,t] o.type #[v,xv]).run P w=.ok v' w') (hK:K (a.put o.dst v') w') :
  if X o (yielded ops a.tmps)=aB then aX P o a w K Q else E:=by
 have hw:X o (yielded ops a.tmps)=aB:=by simp [X,hg]
 rw [if_pos hw];unfold aX execOp;simp only [hop,resolve,invoke,builtin,Sem.run_bind,Sem.run_pure,bH,bI,cu,dn,hs,hx,hr];exact hK
theorem mM {P:Program} {ops:Array Oper} {o:Oper} {a:bG} {w:O} {K:bG->O->Prop} {Q:Exit->bG->O->Prop} {E:Prop} {f:FuncId} {args:Array U} {R:Ending->O->Prop}
  (hg:o.guard=aK) (hr:(execOp a.eval o).run P w=.ok (.enter f args) w) (hc:Calls P f args w R) (hR:∀ e w',R e w'->∃ v,e=.returned v/\K (a.put o.dst v) w') :
  if X o (yielded ops a.tmps)=aB then aX P o a w K Q else E:=by
 have hw:X o (yielded ops a.tmps)=aB:=by simp [X,hg]
 rw [if_pos hw];unfold aX;rw [hr,dD];refine hc.mono ?_;intro e w' h;obtain⟨v,rfl,hk⟩:=hR e w' h;exact hk
theorem fD {P : Program} {f : FuncId} {fn : Func} {c : Code} (hf : P.funcs[f]? = some fn) (hname : (fn.name == "runtime.NumGoroutine") = false) (hb : fn.body = some c) (args : Array Value) (w : World) : (callFunc f args).run P w = .ok (.enter f args) w := by
 have h1 : fn.name ≠ "runtime.NumGoroutine" := by simpa using hname
 simp [callFunc,hf,h1,hb]
theorem iT {P:Program} (ρ:aj->U) (o:Oper) (x:aj) (t:ay) (f:FuncId) (ho:o.op=.call { callee:=.value (.func f),args:=#[x],argTypes:=#[t] }) {v:U} (hx:ρ x=v) (hf:ρ (.func f)=.func (.func f) #[] #[]) (w:O)
  (hc:(callFunc f #[v]).run P w=.ok (.enter f #[v]) w):(execOp ρ o).run P w=.ok (.enter f #[v]) w:=by
 simp [execOp,ho,resolve,invoke,hx,hf,bJ,hc]
theorem kE {P:Program} (ρ:aj->U) (o:Oper) (x y:aj) (t s:ay) (f:FuncId) (ho:o.op=.call { callee:=.value (.func f),args:=#[x,y],argTypes:=#[t,s] }) {v u:U} (hx:ρ x=v) (hy:ρ y=u) (hf:ρ (.func f)=.func (.func f) #[] #[]) (w:O)
  (hc:(callFunc f #[v,u]).run P w=.ok (.enter f #[v,u]) w):(execOp ρ o).run P w=.ok (.enter f #[v,u]) w:=by
 simp [execOp,ho,resolve,invoke,hx,hy,hf,bJ,hc]
end Rw
namespace Rg
open Go.RowKit
def left (L:Array Bool):Nat:=L.toList.countP (fun b=>!b)
theorem KH (L:Array Bool) (i:Nat) (h:L.getD i aB=dz):left (L.setIfInBounds i aB)+1=left L:=by
 obtain⟨l⟩:=L;have hi:i<l.length:=by
  rcases aG i l.length with h0|h0
  ·exact h0
  ·exact absurd h (by simp [aI,Nat.not_lt.2 h0])
 have hv:l[i]=dz:=by simpa [aI,hi] using h
 unfold left;simp only [List.setIfInBounds_toArray];rw [List.countP_set hi,hv];have hp:0<l.countP (fun b=>!b):=List.countP_pos_iff.2 ⟨l[i],bK hi,by rw [hv]; rfl⟩;simp;omega
theorem Iy (L:Array Bool) (h:left L=0) (i:Nat):L.getD i aB=aB:=by
 obtain⟨l⟩:=L;unfold left at h;rw [List.countP_eq_zero] at h;rcases aG i l.length with h0|h0
 ·have:=h l[i] (bK h0);simp [aI,h0];simpa using this
 ·simp [aI,Nat.not_lt.2 h0]
def El (ops:Array Oper):Bool:=(List.range ops.size).all fun i=>match ops[i]? with
 | some o=>o.after.all fun e=>!Region.binds .any e || decide (e.on<i)
 | none=>aB
def done (L:Array Bool) (i:Nat):Prop:=L.getD i dz=aB
theorem BD {ops:Array Oper} (hf:El ops=aB) {L:Array Bool} (hs:L.size=ops.size) (h:dw .any ops L=[]):∀ n,n<=ops.size->∀ i,i<n->done L i:=by
 intro n
 induction n with
 | zero=>intro _ i hi; omega
 | succ n ih =>
  intro hn i hi;rcases aG i n with h1|h1
  ·exact ih (by omega) i h1
  ·obtain rfl:i=n:=by omega
   cases hd:L.getD i aB
   ·exfalso;have hm:i∈dw .any ops L:=by
     rw [mem_ready];refine⟨hd,ops[i],bC (by omega),fun e he hbd=>?_⟩;have h2:=bL.1 hf i (bY.2 (by omega));rw [bC (by omega)] at h2;have h3:=cK.1 h2 e he;rw [hbd] at h3;exact ih (by omega) e.on (by simpa using h3)
    rw [h] at hm;cases hm
   ·unfold done;have hi2:i<L.size:=by omega
    simp [aI,hi2] at hd ⊢;exact hd
section
variable {P:Program} {ops:Array Oper} {Q:Exit->bG->O->Prop}
theorem Em (I:Array Bool->bG->O->Prop) (hf:El ops=aB)
  (hstep:∀ L a w i o,L.size=ops.size->I L a w->ops[i]?=ah o->¬ done L i->(∀ e∈o.after,Y .any e=aB->done L e.on)->wpOp P ops Q i (I (L.setIfInBounds i aB)) a w)
  (hend:∀ L a w,I L a w->(∀ i,i<ops.size->done L i)->Q .normal a w) :
  ∀ (fuel:Nat) (L:Array Bool) (a:bG) (w:O),L.size=ops.size->left L<=fuel->I L a w->wpAny P .any ops Q fuel L a w:=by
 intro fuel
 induction fuel with
 | zero =>
  intro L a w hs hl hI;have hr:dw .any ops L=[]:=by
   rw [List.eq_nil_iff_forall_not_mem];intro i hi;have h1:=(mem_ready.1 hi).1;rw [Iy L (by omega) i] at h1;cases h1
  exact⟨hr,hend L a w hI (BD hf hs hr ops.size (aT _))⟩
 | succ fuel ih =>
  intro L a w hs hl hI;refine⟨fun hr=>hend L a w hI (BD hf hs hr ops.size (aT _)),fun i hi=>?_⟩;obtain⟨h1,o,h2,h3⟩:=mem_ready.1 hi;have hlt:i<ops.size:=(aQ.1 h2).1;have hnd:¬ done L i:=by
   unfold done;have:i<L.size:=by omega
   simp [aI,this] at h1 ⊢;exact h1
  have hst:=hstep L a w i o hs hI h2 hnd (fun e he hb=>h3 e he hb);have hmono:∀ a' w',I (L.setIfInBounds i aB) a' w'->wpAny P .any ops Q fuel (L.setIfInBounds i aB) a' w':=fun a' w' h =>
   ih _ a' w' (by simpa using hs) (by have:=KH L i h1; omega) h
  unfold wpOp at hst ⊢;rw [h2] at hst ⊢;simp only at hst ⊢
  split at hst
  ·rename_i hw
   rw [if_pos hw];rcases hst with hst|hst
   ·exact aY (Oper.wp_mono hmono hst)
   ·exact aZ hst
  ·rename_i hw
   rw [if_neg hw];exact hmono _ _ hst
theorem nT (I:Array Bool->bG->O->Prop) {id:Nat} {a:bG} {w:O} {l:List Oper} (hm:P.follows .mixedOrders=aB) (hf:El l.toArray=aB)
  (h0:I (Array.replicate l.length dz) a { w with drawn:=w.drawn+1 })
  (hstep:∀ L a w i o,L.size=l.length->I L a w->l[i]?=ah o->¬ done L i->(∀ e∈o.after,Y .any e=aB->done L e.on)->wpOp P l.toArray Q i (I (L.setIfInBounds i aB)) a w)
  (hend:∀ L a w,I L a w->(∀ i,i<l.length->done L i)->Q .normal a w):(Code.region id l.toArray aB).wp P Q a w:=by
 refine wp_region_any hm (Em (ops:=l.toArray) I hf (fun L a w i o hs hI ho=>hstep L a w i o (by simpa using hs) hI (by simpa using ho)) (fun L a w hI hd=>hend L a w hI (by simpa using hd)) _ _ _ _ (by simp) ?_ (by simpa using h0));unfold left;have h2:=List.countP_le_length (p:=fun b:Bool=>!b) (l:=List.replicate l.length dz);simpa using h2
end
theorem fV {L:Array Bool} {i:Nat} (h:i<L.size) (j:Nat):done (L.setIfInBounds i aB) j↔j=i\/done L j:=by
 unfold done;by_cases e:j=i
 ·subst e; simp [aI,h]
 ·by_cases hj:j<L.size
  ·have h2:i≠j:=fun x=>e x.symm;simp [aI,hj,e,h2]
  ·simp [aI,hj,e]
theorem gD (n j:Nat):¬ done (Array.replicate n dz) j:=by
 unfold done;by_cases hj:j<n <;> simp [aI,hj]
theorem dF {P:Program} {ops:Array Oper} {Q:Exit->bG->O->Prop} {K:bG->O->Prop} {a:bG} {w w':O} {i:Nat} {o:Oper} {v:U}
  (ho:ops[i]?=ah o) (hg:o.guard=aK) (hr:(execOp a.eval o).run P w=.ok (.value v) w') (h:K (a.put o.dst v) w'):wpOp P ops Q i K a w:=by
 unfold wpOp;rw [ho];have hw:X o (yielded ops a.tmps)=aB:=by simp [X,hg]
 simp only [hw,if_true];refine aY ?_;unfold aX;rw [hr];exact h
theorem VU {P:Program} {s:Sem U} {w w':O} {v:U} (h:s.run P w=.ok v w'):(do pure (Next.value (<- s)):Sem Next).run P w=.ok (.value v) w':=by
 simp [go_sem,h]
theorem Iz {P:Program} (ρ:aj->U) (o:Oper) (s x:aj) (t:ay) (ho:o.op=.call { callee:=.builtin .append,args:=#[s,x],argTypes:=#[t,t] }) {v x' v':U} {w w':O}
  (hs:ρ s=v) (hx:ρ x=x') (hrun:(aS #[t,t] o.type #[v,x']).run P w=.ok v' w'):(execOp ρ o).run P w=.ok (.value v') w':=by
 simp [execOp,ho,resolve,invoke,builtin,hs,hx,hrun,aJ]
theorem nu {P:Program} (ρ:aj->U) (o:Oper) (t:ay) (x i:aj) (ho:o.op=.indexAddr t x i) {v:U} {w:O} (hr:(Instr.indexAt t (ρ x) (ρ i)).run P w=.ok v w) :
  (execOp ρ o).run P w=.ok (.value v) w:=by
 simp [execOp,ho,hr,aJ]
theorem eH {P:Program} (ρ:aj->U) (o:Oper) (t:ay) (x:aj) (ho:o.op=.load t x) {v:U} {w:O} (hr:(Instr.loadAt t (ρ x)).run P w=.ok v w) :
  (execOp ρ o).run P w=.ok (.value v) w:=by
 simp [execOp,ho,hr,aJ]
theorem oO {P:Program} (ρ:aj->U) (o:Oper) (t:ay) (n:Nat) (parts:Array (Nat×aj)) (ho:o.op=.buildSlice t n parts) {ps:Array (Nat×U)} (hp:parts.map (fun x=>(x.1,ρ x.2))=ps) {v:U} {w w':O} (hr:(Instr.buildSlice t n ps).run P w=.ok v w') :
  (execOp ρ o).run P w=.ok (.value v) w':=by
 subst hp;simp [execOp,ho,hr,aJ]
theorem iZ {P:Program} (ρ:aj->U) (o:Oper) (x:aj) (ho:o.op=.move x) (w:O):(execOp ρ o).run P w=.ok (.value (ρ x)) w:=by
 simp [execOp,ho]
theorem kY {P:Program} (ρ:aj->U) (o:Oper) (x:aj) (ho:o.op=.assign x) (w:O):(execOp ρ o).run P w=.ok (.value (ρ x)) w:=by
 simp [execOp,ho]
theorem size_put (a:bG) (d:Nat) (v:U):(a.put (ah d) v).tmps.size=a.tmps.size:=by simp [Act.put]
theorem get_put (a:bG) (d:Nat) (v:U) (j:Nat) (hd:j≠d):(a.put (ah d) v).tmps[j]?=a.tmps[j]?:=by
 have h2:d≠j:=fun x=>hd x.symm;simp [Act.put,h2]
theorem dU {a:bG} {j:Nat} {v:U} (h:a.tmps[j]?=ah v):a.eval (.tmp j)=v:=by
 have h1:=(aQ.1 h).1;have h2:=(aQ.1 h).2;simp [Act.eval,aI,h1,h2]
def St (mk:Nat->Nat) (R:Nat) (L:Array Bool) (s:Nat):Prop:=s<=R/\(∀ j,j<s->done L (mk j))/\∀ j,s<=j->j<R->¬ done L (mk j)
theorem PI {P:Program} {ops:Array Oper} {Q:Exit->bG->O->Prop} {K:bG->O->Prop} {a:bG} {w w':O} {i:Nat} {o:Oper}
  (ho:ops[i]?=ah o) (hg:o.guard=aK) (hr:(execOp a.eval o).run P w=.ok .skip w') (h:K (a.put o.dst undef) w'):wpOp P ops Q i K a w:=by
 unfold wpOp;rw [ho];have hw:X o (yielded ops a.tmps)=aB:=by simp [X,hg]
 simp only [hw,if_true];refine aY ?_;unfold aX;rw [hr];exact h
theorem iA {a:bG} {bl:List U} (d0 m:Nat) (df:a.defers=[]) (sz:a.tmps.size=bl.length) (hle:d0+m<=bl.length) (kp:∀ j,(j<d0\/d0+m<=j)->a.tmps[j]?=bl[j]?) :
  ∃ mid:List U,mid.length=m/\a=⟨(bl.take d0++(mid++bl.drop (d0+m))).toArray,[]⟩:=by
 obtain⟨tmps,defers⟩:=a;have hd:defers=[]:=df;have hs:tmps.size=bl.length:=sz;have hk:∀ j,(j<d0\/d0+m<=j)->tmps[j]?=bl[j]?:=kp;subst hd;have hl:((tmps.toList.drop d0).take m).length=m:=by simp; omega
 refine⟨(tmps.toList.drop d0).take m,hl,congrArg (fun x=>(⟨x,[]⟩:bG)) ?_⟩;apply Array.ext_getElem?;intro j
 conv=>rhs; rw [List.getElem?_toArray]
 by_cases h1:j<d0
 ·rw [hk j (aY h1),bD (by simp; omega),aM,if_pos h1]
 ·have ht:(bl.take d0).length=d0:=by simp; omega
  rw [bg (by omega),ht];by_cases h2:j<d0+m
  ·rw [bD (by omega),aM,if_pos (by omega),bf,Array.getElem?_toList,show d0+(j-d0)=j by omega]
  ·rw [hk j (aZ (by omega)),bg (by omega),hl,bf,show d0+m+(j-d0-m)=j by omega]
theorem fZ {P:Program} {ops:Array Oper} {Q:Exit->bG->O->Prop} {K:bG->O->Prop} {a:bG} {w:O} {i:Nat} {o:Oper} {f:FuncId} {args:Array U} {R:Ending->O->Prop}
  (ho:ops[i]?=ah o) (hg:o.guard=aK) (hr:(execOp a.eval o).run P w=.ok (.enter f args) w) (hc:Calls P f args w R) (hR:∀ e w',R e w'->∃ v,e=.returned v/\K (a.put o.dst v) w'):wpOp P ops Q i K a w:=by
 unfold wpOp;rw [ho];have hw:X o (yielded ops a.tmps)=aB:=by simp [X,hg]
 simp only [hw,if_true];refine aY ?_;unfold aX;rw [hr,dD];refine hc.mono ?_;intro e w' h;obtain⟨v,rfl,hk⟩:=hR e w' h;exact hk
theorem BI {P:Program} (ρ:aj->U) (o:Oper) (x y z:aj) (t:ay) (f:FuncId) (ho:o.op=.call { callee:=.value (.func f),args:=#[x,y,z],argTypes:=#[t,t,t] }) {v u s:U} (hx:ρ x=v) (hy:ρ y=u) (hz:ρ z=s) (hf:ρ (.func f)=.func (.func f) #[] #[]) (w:O)
  (hc:(callFunc f #[v,u,s]).run P w=.ok (.enter f #[v,u,s]) w):(execOp ρ o).run P w=.ok (.enter f #[v,u,s]) w:=by
 simp [execOp,ho,resolve,invoke,hx,hy,hz,hf,bJ,hc]
theorem eD {P:Program} (ρ:aj->U) (o:Oper) (s:ay) (x:aj) (f:Nat) (ho:o.op=.fieldAddr s x f) {v:U} {w:O} (hr:(Instr.fieldAt s (ρ x) f).run P w=.ok v w):(execOp ρ o).run P w=.ok (.value v) w:=by
 unfold execOp;rw [ho];exact VU hr
theorem wpOp_mono {P:Program} {ops:Array Oper} {Q:Exit->bG->O->Prop} {i:Nat} {K K':bG->O->Prop} {a:bG} {w:O} (h:∀ a w,K a w->K' a w) (hw:wpOp P ops Q i K a w):wpOp P ops Q i K' a w:=by
 unfold wpOp at hw ⊢;cases ho:ops[i]? with
 | none =>
  rw [ho] at hw;exact h _ _ hw
 | some o =>
  rw [ho] at hw;simp only at hw ⊢
  split at hw
  ·rename_i h1
   rw [if_pos h1];rcases hw with hw|hw
   ·exact aY (Oper.wp_mono h hw)
   ·exact aZ hw
  ·rename_i h1
   rw [if_neg h1];exact h _ _ hw
def iJ (P:Program) (ops:Array Oper) (Q:Exit->bG->O->Prop):Nat->Nat->bG->O->Prop
 | 0,_,a,w=>Q .normal a w
 | n+1,k,a,w=>wpOp P ops Q k (fun a w=>iJ P ops Q n (k+1) a w) a w
structure Rm (i M:Nat) (dst last:Nat->Nat) (V:Nat->U->O->Prop) (base:bG) (o:Oper) (a:bG) (w:O):Prop where
 kp:∀ j u,(∀ k,k<M->dst k≠j)->base.tmps[j]?=ah u->a.eval (.tmp j)=u
 at_:∀ e∈o.after,Y .any e=aB->(last e.on=i\/M<=last e.on)->V e.on (a.eval (.tmp (dst e.on))) w
 got:∀ e∈o.after,Y .any e=aB->a.tmps[dst e.on]?=ah (a.eval (.tmp (dst e.on)))
structure PhL (l:List Oper) (M:Nat) (dst last:Nat->Nat) (V:Nat->U->O->Prop) (base:bG) (w:O) (L:Array Bool) (a:bG) (x:O):Prop where
 no:∀ i,M<=i->¬ done L i
 cl:∀ i o,done L i->l[i]?=ah o->∀ e∈o.after,Y .any e=aB->done L e.on
 df:a.defers=base.defers
 sz:a.tmps.size=base.tmps.size
 kp:∀ j,(∀ i,i<M->dst i≠j)->a.tmps[j]?=base.tmps[j]?
 qm:Below w.heap.size w x
 val:∃ vs:Nat->U,∀ i,i<M->done L i->a.tmps[dst i]?=ah (vs i)/\(¬ done L (last i)->V i (vs i) x)
theorem jv {P:Program} {Q:Exit->bG->O->Prop} {id:Nat} {base:bG} {w:O} {l:List Oper} (N M:Nat) (dst last:Nat->Nat) (V:Nat->U->O->Prop)
  (hm:P.follows .mixedOrders=aB) (hf:El l.toArray=aB) (hN:l.length=N) (hMN:M<=N) (hinj:∀ i j,i<M->j<M->dst i=dst j->i=j) (hs:∀ i,i<M->dst i<base.tmps.size)
  (hop:∀ i o,i<M->l[i]?=ah o->∀ a w' (D:Nat->Prop),¬ D i->(∀ j oj,D j->l[j]?=ah oj->∀ e∈oj.after,Y .any e=aB->D e.on)->(∀ e∈o.after,Y .any e=aB->D e.on)->Below w.heap.size w w'->Rm i M dst last V base o a w'->∀ K:bG->O->Prop,(∀ v w'',V i v w''->Below w.heap.size w' w''->(∀ j u,j<M->D j->¬ D (last j)->last j≠i->j≠i->V j u w'->V j u w'')->K (a.put (ah (dst i)) v) w'')->wpOp P l.toArray Q i K a w')
  (hall:M<N->∀ D:Nat->Prop,(∀ j o,D j->l[j]?=ah o->∀ e∈o.after,Y .any e=aB->D e.on)->(∀ o,l[M]?=ah o->∀ e∈o.after,Y .any e=aB->D e.on)->∀ i,i<M->D i)
  (hnext:∀ k o,M<k->k<N->l[k]?=ah o->∃ e∈o.after,Y .any e=aB/\e.on=k-1)
  (hseq:∀ a w',a.defers=base.defers->a.tmps.size=base.tmps.size->(∀ j,(∀ i,i<M->dst i≠j)->a.tmps[j]?=base.tmps[j]?)->(∃ vs:Nat->U,∀ i,i<M->a.tmps[dst i]?=ah (vs i)/\(M<=last i->V i (vs i) w'))->Below w.heap.size w w'->iJ P l.toArray Q (N-M) M a w'):(Code.region id l.toArray aB).wp P Q base w:=by
 refine nT (fun L a x=>PhL l M dst last V base w L a x\/∃ s,1<=s/\M+s<=N/\(∀ i,i<N->(done L i↔i<M+s))/\iJ P l.toArray Q (N-M-s) (M+s) a x) hm hf ?_ ?_ ?_
 ·exact aY ⟨fun i _=>gD _ _,fun i o h=>absurd h (gD _ _),rfl,rfl,fun _ _=>rfl,(Below.refl _ _).drew,fun _=>.bool aB,fun i _ h=>absurd h (gD _ _)⟩
 ·intro L a x i o hsz hI ho hnd lI;have hi:i<l.length:=(aH.1 ho).1;have vD:i<L.size:=by omega
  rcases hI with I|⟨s,h1,h2,h3,h4⟩
  ·rcases aG i M with hiM|hiM
   ·obtain⟨vs,q1⟩:=I.val;have hon:∀ e∈o.after,Y .any e=aB->e.on<M:=fun e he hb=>by
     have h7:=bL.1 hf i (bY.2 (by simpa using hi));have ho':(l.toArray)[i]?=ah o:=by simpa using ho
     rw [ho'] at h7;have h8:=cK.1 h7 e he;rw [hb] at h8;have:e.on<i:=by simpa using h8
     omega
    have seen:Rm i M dst last V base o a x:=⟨fun j u hj hu=>dU (by rw [I.kp j hj]; exact hu),fun e he hbd hl=>by
     obtain⟨p1,p2⟩:=q1 e.on (hon e he hbd) (lI e he hbd);rw [dU p1];refine p2 ?_;rcases hl with hl|hl
     ·rw [hl]; exact hnd
     ·exact I.no _ hl,fun e he hbd=>by
     obtain⟨p1,p2⟩:=q1 e.on (hon e he hbd) (lI e he hbd);rw [dU p1];exact p1⟩
    refine hop i o hiM ho a x (done L) hnd I.cl lI I.qm seen _ fun v w'' hvw hbw hpr=>aY ?_;refine⟨fun k hk hd=>?_,fun k q hk hq e he hb=>?_,I.df,by rw [size_put]; exact I.sz,fun j hj=>?_,I.qm.trans hbw,fun k=>if k=i then v else vs k,fun k PN hk=>?_⟩
    ·rcases (fV vD k).1 hd with h9|h9
     ·omega
     ·exact I.no k hk h9
    ·rw [fV vD] at hk ⊢;rcases hk with rfl|hk
     ·rw [hq] at ho;cases ho;exact aZ (lI e he hb)
     ·exact aZ (I.cl k q hk hq e he hb)
    ·rw [get_put _ _ _ _ (fun e=>hj i hiM e.symm)];exact I.kp j hj
    ·by_cases e:k=i
     ·subst e;have:dst k<a.tmps.size:=by rw [I.sz]; exact hs k PN
      simp only [if_true];exact⟨by simp [Act.put,this],fun _=>hvw⟩
     ·simp only [if_neg e];rw [get_put _ _ _ _ (fun e2=>e (hinj k i PN hiM e2))];rcases (fV vD k).1 hk with h9|h9
      ·exact absurd h9 e
      ·obtain⟨p1,p2⟩:=q1 k PN h9;refine⟨p1,fun hn=>?_⟩;have n1:last k≠i:=fun e3=>hn ((fV vD _).2 (aY e3));have n2:¬ done L (last k):=fun e3=>hn ((fV vD _).2 (aZ e3));exact hpr k _ PN h9 n2 n1 e (p2 n2)
   ·have ZK:i=M:=by
     rcases aG M i with h9|h9
     ·obtain⟨e,he,hb,hon⟩:=hnext i o h9 (by omega) ho;have hd:=lI e he hb;rw [hon] at hd;exact absurd hd (I.no _ (by omega))
     ·omega
    subst ZK;have hD:=hall (by omega) (done L) I.cl (fun o' ho' e he hb=>by
     rw [ho] at ho';cases ho';exact lI e he hb)
    obtain⟨vs,q1⟩:=I.val;have hq:=hseq a x I.df I.sz I.kp ⟨vs,fun k hk=>⟨(q1 k hk (hD k hk)).1,fun hl=>(q1 k hk (hD k hk)).2 (I.no _ hl)⟩⟩ I.qm;rw [show N-i=(N-i-1)+1 by omega] at hq;refine wpOp_mono (fun a' x' h=>aZ ⟨1,aT _,by omega,fun k hk=>?_,h⟩) hq;rw [fV vD];constructor
    ·rintro (rfl|h9)
     ·omega
     ·rcases aG k i with h8|h8
      ·omega
      ·exact absurd h9 (I.no k h8)
    ·intro h9;by_cases e:k=i
     ·exact aY e
     ·exact aZ (hD k (by omega))
  ·have hge:M+s<=i:=by
    rcases aG i (M+s) with h9|h9
    ·exact absurd ((h3 i (by omega)).2 h9) hnd
    ·exact h9
   have hie:i=M+s:=by
    rcases aG (M+s) i with h9|h9
    ·obtain⟨e,he,hb,hon⟩:=hnext i o (by omega) (by omega) ho;have hd:=lI e he hb;rw [hon] at hd;have:=(h3 (i-1) (by omega)).1 hd;omega
    ·omega
   subst hie;rw [show N-M-s=(N-M-(s+1))+1 by omega] at h4;refine wpOp_mono (fun a' x' h=>aZ ⟨s+1,by omega,by omega,fun k hk=>?_,h⟩) h4;rw [fV vD];constructor
   ·rintro (rfl|h9)
    ·omega
    ·have:=(h3 k hk).1 h9;omega
   ·intro h9;by_cases e:k=M+s
    ·exact aY e
    ·exact aZ ((h3 k hk).2 (by omega))
 ·intro L a x hI hd;rcases hI with I|⟨s,h1,h2,h3,h4⟩
  ·rcases aG M N with h9|h9
   ·exact absurd (hd M (by omega)) (I.no M (aT _))
   ·obtain⟨vs,q1⟩:=I.val;have hq:=hseq a x I.df I.sz I.kp ⟨vs,fun k hk=>⟨(q1 k hk (hd k (by omega))).1,fun hl=>(q1 k hk (hd k (by omega))).2 (I.no _ hl)⟩⟩ I.qm;rw [show N-M=0 by omega] at hq;exact hq
  ·have:=(h3 (N-1) (by omega)).1 (hd (N-1) (by omega));rw [show N-M-s=0 by omega] at h4;exact h4
theorem jD {P:Program} (ρ:aj->U) (o:Oper) (t:ay) (parts:Array (Nat×aj)) (ho:o.op=.build t parts) {ps:Array (Nat×U)} (hp:parts.map (fun x=>(x.1,ρ x.2))=ps) {v:U} {w:O} (hr:(Instr.build t ps).run P w=.ok v w) :
  (execOp ρ o).run P w=.ok (.value v) w:=by
 subst hp;simp [execOp,ho,hr,aJ]
theorem KI {P:Program} (ρ:aj->U) (o:Oper) (t:ay) (x y:aj) (ho:o.op=.store t x y) {w w':O} (hr:(Instr.storeAt t (ρ x) (ρ y)).run P w=.ok () w') :
  (execOp ρ o).run P w=.ok .skip w':=by
 simp [execOp,ho,hr,aJ]
theorem gI {P:Program} {ops:Array Oper} {Q:Exit->bG->O->Prop} {K:bG->O->Prop} {a:bG} {w w':O} {i:Nat} {o:Oper} (t:ay) (x y:aj) {p v:U}
  (ho:ops[i]?=ah o) (hg:o.guard=aK) (hop:o.op=.store t x y) (hd:o.dst=aK) (hx:a.eval x=p) (hy:a.eval y=v) (hr:(Instr.storeAt t p v).run P w=.ok () w') (h:K a w'):wpOp P ops Q i K a w:=by
 refine PI ho hg (KI a.eval o t x y hop (by rw [hx,hy]; exact hr)) ?_;rw [hd];exact h
def z8 (l:List Oper) (i:Nat):List Nat:=match l[i]? with
 | some o=>(o.after.toList.filter fun e=>Y .any e).map fun e=>e.on
 | none=>[]
def Eo (l:List Oper):Nat->List Nat->List Nat
 | 0,s=>s
 | n+1,s=>Eo l n (s++s.flatMap (z8 l))
theorem Gt {l:List Oper} {D:Nat->Prop} {i:Nat} (h:∀ o,l[i]?=ah o->∀ e∈o.after,Y .any e=aB->D e.on):∀ j∈z8 l i,D j:=by
 intro j hj;unfold z8 at hj;cases ho:l[i]? with
 | none=>rw [ho] at hj; cases hj
 | some o =>
  rw [ho] at hj;obtain⟨e,he,rfl⟩:=List.mem_map.1 hj;obtain⟨h1,h2⟩:=List.mem_filter.1 he;exact h o ho e (Array.mem_toList_iff.1 h1) h2
theorem BJ {l:List Oper} {D:Nat->Prop} (hc:∀ j o,D j->l[j]?=ah o->∀ e∈o.after,Y .any e=aB->D e.on):∀ n s,(∀ j∈s,D j)->∀ j∈Eo l n s,D j
 | 0,_,hs=>hs
 | n+1,s,hs=>BJ hc n _ fun j hj=>by
  rcases List.mem_append.1 hj with h|h
  ·exact hs j h
  ·obtain⟨i,hi,hd⟩:=List.mem_flatMap.1 h;exact Gt (fun o ho=>hc i o (hs i hi) ho) j hd
theorem nU {l:List Oper} {M:Nat} (n:Nat) (h:(List.range M).all (fun i=>(Eo l n (z8 l M)).contains i)=aB) (D:Nat->Prop) (hc:∀ j o,D j->l[j]?=ah o->∀ e∈o.after,Y .any e=aB->D e.on) (hm:∀ o,l[M]?=ah o->∀ e∈o.after,Y .any e=aB->D e.on):∀ i,i<M->D i:=by
 intro i hi;have h2:=bL.1 h i (bY.2 hi);exact BJ hc n _ (Gt hm) i (List.contains_iff_mem.1 h2)
theorem vE {P:Program} (ρ:aj->U) (o:Oper) (t:ay) (ho:o.op=.alloc t) {v:U} {w w':O} (hr:(Instr.alloc t aB (.tuple #[])).run P w=.ok v w'):(execOp ρ o).run P w=.ok (.value v) w':=by
 simp [execOp,ho,hr,aJ]
end Rg
namespace Rw
open Go.RowKit
theorem kZ {α:Type} {E:Ek α} (K:E.Ok) {w:O} (B:Nat) {g:Nat} {x:U} {m:List α} (jc:dG w g #[] E.t) (hBg:B<=g) (hx:Row E w x m) (hm:m.length<=1000) (ty:ay) :
  ∃ v' w',(aS #[E.ts,E.ts] ty #[aF (ah ⟨g,0,aK⟩) 0 0,x]).run ak w=.ok v' w'/\Own E w' B v' m/\Below w.heap.size w w':=by
 have ho:Own E w B (aF (ah ⟨g,0,aK⟩) 0 0) ([]:List α):=kD K rfl hBg jc (aT _) (Nat.zero_le _) (by simp) (by simp [flat]);have hl:=jc.lt;obtain⟨v',w',r,o',gr⟩:=kr K B ho hx (by simp) hm (by omega) ty;refine⟨v',w',r,by simpa using o',?_⟩;obtain⟨i,i1,i2,i3,i4⟩:=K.info;rcases hx with⟨rfl,rfl⟩|⟨ad,c,rfl,h2,h3,h4⟩
 ·have r2:=run_append_owned_none (P:=ak) (w:=w) B E.ts ty E.t i E.n K.hu i1 _ _ _ ho;rw [r2] at r;injection r with _ e
  rw [<- e];exact Below.refl _ _
 ·rcases Nat.eq_zero_or_pos m.length with h0|h0
  ·have r2:=run_append_room (P:=ak) (w:=w) E.ts ty E.t i K.hu i1 g 0 0 #[] jc ad m.length c (flat E m) (by rw [dJ K,i3]) h4 (jU K m) (by omega) (by rw [dJ K,h0]; simp);rw [r2] at r;injection r with _ e
   rw [<- e];have hf:flat E m=[]:=aU (by rw [dJ K,h0]; simp);have hs:=dG.set jc ((#[]:Array U).toList.take (0 * i.size)++flat E m++(#[]:Array U).toList.drop (0 * i.size+(flat E m).length)).toArray;refine⟨rfl,rfl,rfl,by simp [World.setRow],fun k hk=>?_⟩;by_cases hkg:k=g
   ·subst hkg;refine hs.trans ?_;rw [hf];simpa using jc.symm
   ·exact setRow_other w g k _ hkg
  ·have r2:=run_append_grow (P:=ak) (w:=w) E.ts ty E.t i E.z K.hu i1 i2 ⟨g,0,aK⟩ 0 0 [] (by simp) (fun j v h=>by simp at h) ad m.length c (flat E m) (by rw [dJ K,i3]) h4 (by omega) (by omega) (by
    rw [Nat.zero_add,nextslicecap_zero h0,i4];exact cZ (bW hm K.few) (by decide))
   rw [r2] at r;injection r with _ e
   rw [<- e];exact (Below.refl _ _).drew.alloc (aT _) _
end Rw
namespace In
open Go.RowKit Go.ChangeShapes Go.WideShapes
structure mO (W:O) (nv:U) (zs:List Int):Prop where
 shape:∃ ao cap,nv=aF ao zs.length cap
 at_:∀ (i:Nat) (z:Int),zs[i]?=ah z->(-9223372036854775808<=z/\z<=9223372036854775807)/\∃ p:Addr,p.block<W.heap.size/\(∀ w,(Instr.indexAt 24 nv (bZ bN i)).run ak w=.ok (.pointer (ah p)) w)/\W.cell? p=ah (bZ bN z)
theorem mO.on {W W':O} {nv:U} {zs:List Int} (h:mO W nv zs) (hb:Below W.heap.size W W'):mO W' nv zs :=
 ⟨h.shape,fun i z hz=>by
  obtain⟨h1,p,h2,h3,h4⟩:=h.at_ i z hz;exact⟨h1,p,Nat.lt_of_lt_of_le h2 hb.size,h3,by rw [hb.cell h2]; exact h4⟩⟩
theorem pV {n:Int} (h:(Lit.int bN n).wf=aB):-9223372036854775808<=n/\n<=9223372036854775807:=by
 have h2:(decide (IntKind.i64.min<=n) && decide (n<=IntKind.i64.max))=aB:=h;rw [Bool.and_eq_true,decide_eq_true_eq,decide_eq_true_eq,show IntKind.i64.min=-9223372036854775808 by decide,show IntKind.i64.max=9223372036854775807 by decide] at h2;exact h2
theorem KJ:Tryz.prog.cellsOf 3=1:=by kernel_rfl
theorem Ep (a:Addr) (m len cap:Nat) (h:m<len) (w:O):(Instr.indexAt 24 (aF (ah a) len cap) (bZ bN m)).run ak w=.ok (.pointer (ah (a.add m))) w:=by
 have h1:(m:Int)<len:=by omega
 simp [go_sem,bF,h1]
theorem Gu {H:Type} {enc:ay×U->H} {W:O} {sp:Nat->Bool} {held:Bool} {fuel:Nat} {v:U} {x:DataW H×List MemPlace}
  (hf:DataW.trod enc ak W 0 sp held fuel 24 [v]=ah x):∃ zs,zs.length<=maxLen/\mO W v zs:=by
 rcases open_ints bF Tryz.underlying3 KJ hf with⟨h1,_⟩|⟨a',len',cap',zs,h1,_,h3,h4,h5,_,h7,h8⟩
 ·have e:v=aF aK 0 0:=by simpa using h1
  rw [e];exact⟨[],Nat.zero_le _,⟨aK,0,rfl⟩,fun i z h=>by simp at h⟩
 ·have e:v=aF (ah a') len' cap':=by simpa using h1
  rw [e];have hle:len'<=zs.length:=by rw [h5]; split <;> omega
  have hl:(zs.take len').length=len':=by simp; omega
  refine⟨zs.take len',by omega,⟨ah a',cap',by rw [hl]⟩,fun i z hz=>?_⟩;obtain⟨hi,hzi⟩:=aH.1 hz;have hi2:i<len':=by omega
  have hz2:zs[i]'(by omega)=z:=by simpa using hzi
  have hc:=h7 i (by omega);have hg:zs.getD i 0=z:=by rw [<- hz2]; simp [List.getD,show i<zs.length by omega]
  rw [hg] at hc;exact⟨pV (h8 z (by rw [<- hz2]; exact bK _)),a'.add i,World.block_lt_of_cell? W _ hc,fun w=>Ep a' i len' cap' hi2 w,hc⟩
end In
namespace Pr
open Go.RowKit Pu
def jL:List Cn->ByteArray->Nat
 | [],_=>0
 | x::r,n=>if aC x.1.toList n.toList=aB then jL r n+1 else 0
theorem uO:∀ l n,jL l n<=l.length
 | [],n=>aT _
 | x::r,n=>by
  have:=uO r n;simp only [jL]
  split <;> simp; omega
theorem Gv:∀ (l:List Cn) (n:ByteArray) (k:Nat),k<=l.length->(∀ (j:Nat) (y:Cn),j<k->l[j]?=ah y->aC y.1.toList n.toList=aB)->(∀ y:Cn,l[k]?=ah y->aC y.1.toList n.toList=dz)->jL l n=k
 | [],n,k,hk,_,_=>by simp at hk; simp [jL,hk]
 | x::r,n,0,_,_,h=>by simp [jL,h x rfl]
 | x::r,n,k+1,hk,h1,h2=>by
  simp only [jL];rw [if_pos (h1 0 x (by omega) rfl),Gv r n k (by simpa using hk) (fun j y hj hy=>h1 (j+1) y (by omega) (by simpa using hy)) (fun y hy=>h2 y (by simpa using hy))]
def jV (l:List Cn) (n:ByteArray):Bool:=match l[jL l n]? with
 | some x=>decide (x.1=n)
 | none=>dz
def KM (m:List Cn) (c:Cn):Option (List Cn):=match m[jL m c.1]? with
 | some x=>if x.1=c.1 then (fK x.2 c.2).map fun k=>m.set (jL m c.1) (x.1,k) else ah (m.take (jL m c.1)++c::m.drop (jL m c.1))
 | none=>ah (m.take (jL m c.1)++c::m.drop (jL m c.1))
theorem Aa:∀ (m:List Cn) (c:Cn),kL m c=KM m c
 | [],c=>rfl
 | x::r,c=>by
  unfold KM;simp only [kL,jL]
  split
  ·rw [Aa r c,KM];simp only [List.getElem?_cons_succ,List.take_succ_cons,List.drop_succ_cons,List.set_cons_succ];cases h:r[jL r c.1]? with
   | none=>simp
   | some y =>
    simp only
    split
    ·simp [Option.map_map,Function.comp_def]
    ·simp
  ·simp
theorem IB {m:List Cn} {c:Cn} (h:jV m c.1=aB):∃ x,m[jL m c.1]?=ah x/\x.1=c.1/\kL m c=(fK x.2 c.2).map fun k=>m.set (jL m c.1) (x.1,k):=by
 rw [Aa];unfold jV at h;unfold KM;cases hx:m[jL m c.1]? with
 | none=>rw [hx] at h; cases h
 | some x =>
  rw [hx] at h;have e:x.1=c.1:=by simpa using h
  exact⟨x,rfl,e,by simp only; rw [if_pos e]⟩
theorem Gw {m:List Cn} {c:Cn} (h:jV m c.1=dz):kL m c=ah (m.take (jL m c.1)++c::m.drop (jL m c.1)):=by
 rw [Aa];unfold jV at h;unfold KM;cases hx:m[jL m c.1]? with
 | none=>rfl
 | some x =>
  rw [hx] at h;have e:¬ x.1=c.1:=by simpa using h
  simp only;rw [if_neg e]
theorem BO:∀ a b:List UInt8,Z a b<0↔aC a b=aB
 | [],[]=>by simp [Z,aC]
 | [],_::_=>by simp [Z,aC]
 | _::_,[]=>by simp [Z,aC]
 | a::x,b::y=>by
  simp only [Z,aC];by_cases h1:a<b
  ·rw [if_pos h1]; simp [h1]
  ·rw [if_neg h1];by_cases h2:b<a
   ·have h3:a≠b:=by rintro rfl; exact h1 h2
    rw [if_pos h2]; simp [h1,h3]
   ·have h3:a=b:=dx (bU.1 h2) (bU.1 h1);subst h3;rw [if_neg h2,BO x y]; simp [h1]
theorem BP:∀ a b:List UInt8,Z a b=0↔a=b
 | [],[]=>by simp [Z]
 | [],_::_=>by simp [Z]
 | _::_,[]=>by simp [Z]
 | a::x,b::y=>by
  simp only [Z];by_cases h1:a<b
  ·rw [if_pos h1];have h3:a≠b:=by rintro rfl; exact absurd h1 (UInt8.lt_irrefl _)
   simp [h3]
  ·rw [if_neg h1];by_cases h2:b<a
   ·have h3:a≠b:=by rintro rfl; exact h1 h2
    rw [if_pos h2]; simp [h3]
   ·have h3:a=b:=dx (bU.1 h2) (bU.1 h1);subst h3;rw [if_neg h2,BP x y]; simp
def Ab (a b:ByteArray):Int:=Z a.data.toList b.data.toList
theorem IC (a b:ByteArray):decide (Ab a b<0)=aC a.toList b.toList:=by
 rw [ByteArray.toList_eq,ByteArray.toList_eq,Bool.eq_iff_iff,decide_eq_true_eq];exact BO _ _
theorem IE (a b:ByteArray):Ab a b=0↔a=b:=by
 unfold Ab;rw [BP];exact⟨qW,fun h=>by rw [h]⟩
theorem yE {l:List Cn} (h:iB l) {i j:Nat} {x y:Cn} (hij:i<=j) (hi:l[i]?=ah x) (hj:l[j]?=ah y) {n:ByteArray} (hy:aC y.1.toList n.toList=aB):aC x.1.toList n.toList=aB:=by
 rcases aG i j with h1|h1
 ·obtain⟨a1,a2⟩:=aH.1 hi;obtain⟨b1,b2⟩:=aH.1 hj;have h2:=List.pairwise_iff_getElem.1 h i j a1 b1 h1;rw [a2,b2] at h2;exact Vs.uV _ _ _ h2 hy
 ·obtain rfl:i=j:=by omega
  rw [hi] at hj;obtain rfl:=Option.some.inj hj;exact hy
end Pr
end Go.Proofs.YtghlpefopidlaaaGreat
