/-
  Rows of elements of . Conditions as told.
-/
import Derived.Test.YtkcfgbddlpomgaaGreatCQ002
import Derived.Lib.AppendZerosOnto
import Derived.Lib.Overlaps
import Derived.Deep.RegionLaw
import Derived.Laws.Externs
import Derived.Orders
import Derived.IntWalk
set_option maxRecDepth 100000
set_option maxHeartbeats 64000000
open _root_.Array renaming getD->aG,getElem?_eq_some_iff->aN,length_toList->aS,getElem?_eq_getElem->aY,all_eq_true'->bN,replicate->bV
open _root_.Bool renaming true->aD
open _root_.Go renaming World->O,Value->U,Operand->X,TypeId->au,Act->bf,Exit->cu,maxLen->cB
open Go.Builtin renaming append_->aK,copy_->aL,firstCells->bL,zeroCells->bQ
open Go.Deferred renaming ofValue->bC
open Go.IntKind renaming i64->bG
open Go.Oper renaming wp->aT,upon_enter->bW,wp_mono->cO
open Go.Proofs.Tryz renaming prog->ah
open Go.Region renaming wanted->Y,binds->Z,ready->bS
open Go.Result renaming andThen->aC,andThen_ok->bg
open Go.Value renaming slice->aB,int->bJ
open _root_.List renaming length_take->ay,append_assoc->aA,getElem?_take->aH,length_append->aI,size_toArray->aM,length_drop->aO,eq_nil_of_length_eq_zero->aP,getElem?_drop->aW,getElem?_append_right->aX,getElem?_append_left->aZ,map_toArray->bn,all_eq_true->bA,take_of_length_le->bD,drop_of_length_le->bE,take_append_drop->bF,mem_range->bI,map_cons->bK,map_nil->bR,getElem_mem->bT,take_left'->bU,take_left->bY,take_take->bZ
open _root_.Nat renaming mul_le_mul_right->J,min_eq_left->aj,lt_or_ge->aF,add_mul->aQ,le_refl->aR,mul_le_mul->bH,add_zero->bO,le_trans->bP,le_total->cK
open _root_.Option renaming some->ak,none->aJ
open _root_.Or renaming inl->aU,inr->aV
namespace Go.Proofs.YtkcfgbddlpomgaaGreat
namespace Rw
open Go.RowKit
variable {α:Type} {E:Ek α}
theorem below_setRow {B g:Nat} {W w:O} (h:Below B W w) (hB:B<=g) (cs:Array U):Below B W (w.setRow g cs) :=
 ⟨h.os,h.tape,h.output,by simp [World.setRow]; exact h.size,fun k hk=>by
  have hne:g≠k:=by omega
  have h2:=h.block k hk;simp [World.setRow,Array.getElem?_modify,hne,h2]⟩
theorem dG.set {w:O} {g:Nat} {cur:Array U} {t:au} (h:dG w g cur t) (cs:Array U):dG (w.setRow g cs) g cs t:=setRow_heap w g cur cs t (0,0) h
theorem dG.other {w:O} {g b:Nat} {cur:Array U} {t:au} (h:dG w b cur t) (hne:b≠g) (cs:Array U):dG (w.setRow g cs) b cur t:=(setRow_other w g b cs hne).trans h
theorem dG.drew {w:O} {b:Nat} {cur:Array U} {t:au} (h:dG w b cur t):dG w.drew b cur t:=h
theorem dG.shape {w:O} {b:Nat} {cur:Array U} {t:au} (h:dG w b cur t):w.shape? b=ak (t,cur.size):=by
 unfold dG at h;simp [World.shape?,h]
theorem iP {W:O} {B:Nat} {v:U} {l:List α} (h:Own E W B v l):(v=aB aJ 0 0/\l=[])\/∃ g cap cur,v=aB (ak ⟨g,0,aJ⟩) l.length cap/\B<=g/\dG W g cur E.t/\l.length<=cap/\cap<=cB/\cur.size=cap * E.n/\cur.toList.take (l.length * E.n)=flat E l:=by
 rcases h.2 with⟨h1,h2⟩|⟨g,cap,cur,h1,h2,h3,h4,h5,h6,h7⟩
 ·exact aU ⟨h1,aP h2⟩
 ·exact aV ⟨g,cap,cur,h1,h2,h3,h4,h5,h6,h7⟩
theorem uD (K:E.Ok) {W:O} {B g cap n:Nat} {cur:Array U} {l:List α} (hn:n=l.length) (hB:B<=g) (hb:dG W g cur E.t) (h1:n<=cap) (h2:cap<=cB) (h3:cur.size=cap * E.n) (h4:cur.toList.take (n * E.n)=flat E l):Own E W B (aB (ak ⟨g,0,aJ⟩) n cap) l:=by
 subst hn;exact⟨dU K l,aV ⟨g,cap,cur,rfl,hB,hb,h1,h2,h3,h4⟩⟩
theorem vP (K:E.Ok) (l:List α) (k:Nat):(flat E l).take (k * E.n)=flat E (l.take k):=by
 rcases cK k l.length with h|h
 ·conv=>lhs; rw [<- bF k l,gF]
  have e:(flat E (l.take k)).length=k * E.n:=by rw [dU K,ay,aj h]
  rw [<- e,bY]
 ·rw [bD h,bD];rw [dU K];exact J _ h
theorem MI (K:E.Ok) (l:List α) (k:Nat):(flat E l).drop (k * E.n)=flat E (l.drop k):=by
 rcases cK k l.length with h|h
 ·conv=>lhs; rw [<- bF k l,gF]
  have e:(flat E (l.take k)).length=k * E.n:=by rw [dU K,ay,aj h]
  rw [<- e,List.drop_left]
 ·rw [bE h,bE]
  ·rfl
  rw [dU K];exact J _ h
theorem Fq (K:E.Ok) {W:O} {g:Nat} {cur:Array U} {t:au} {l:List α} (hb:dG W g cur t) (ht:cur.toList.take (l.length * E.n)=flat E l) (k:Nat):∀ j u,(flat E (l.drop k))[j]?=ak u->W.cell? ((⟨g,k * E.n,aJ⟩:Addr).add j)=ak u:=by
 intro j u hj;rw [Addr.add_lit,hb.cell];rw [<- MI K,aW,<- ht,aH] at hj
 split at hj
 ·simpa using hj
 ·cases hj
theorem uE {W:O} {b:Nat} {cs:Array U} {t:au} {x:α} (hb:dG W b cs t) (hc:cs.toList=E.cells x):∀ j u,(flat E [x])[j]?=ak u->W.cell? ((⟨b,0,aJ⟩:Addr).add j)=ak u:=by
 intro j u hj;rw [mZ,hb.cell];rw [Mx,<- hc] at hj;simpa using hj
theorem jc (K:E.Ok) (g k len cap:Nat) (h:k<=len) (hc:k<cap) (w:O):(Instr.sliceAt E.ts (aB (ak ⟨g,0,aJ⟩) len cap) (ak (bJ bG k)) aJ aJ).run ah w=.ok (aB (ak ⟨g,k * E.n,aJ⟩) (len-k) (cap-k)) w:=by
 rw [Fg K ⟨g,0,aJ⟩ k len cap h w,if_neg (by omega),mZ]
theorem uF (K:E.Ok) {w:O} {g o nd cd ns sc:Nat} {a:Addr} {cur:Array U} {m:List α} (hb:dG w g cur E.t) (hm:∀ j u,(flat E m)[j]?=ak u->w.cell? (a.add j)=ak u) (hk:min ns nd=m.length) (hr:(o+m.length) * E.n<=cur.size) (ty:au) :
  (aL #[E.ts,E.ts] ty #[aB (ak ⟨g,o * E.n,aJ⟩) nd cd,aB (ak a) ns sc]).run ah w=.ok (bJ bG m.length) (w.setRow g (cur.toList.take (o * E.n)++flat E m++cur.toList.drop ((o+m.length) * E.n)).toArray):=by
 obtain⟨i,i1,i2,i3,i4⟩:=K.info;have hl:=run_loadCells_list (P:=ah) w a (flat E m) hm;have hst:=run_storeCells_at ah g (o * E.n) E.t (flat E m) 0 cur w hb (by rw [dU K,bO,<- aQ]; exact hr) (pq K m);rw [dU K] at hl;have e:o * E.n+0+(flat E m).length=(o+m.length) * E.n:=by rw [dU K,bO,aQ]
 rw [e,bO] at hst;simp [aL,run_underlying K.hu,Builtin.lenOf,bL,sizeOf,typeInfo,i1,i3,hk,hl,goInt];simpa using congrArg (fun r=>r.andThen fun _ w=>Result.ok (bJ bG m.length) w) hst
/-! ### one element more, in the middle -/
section
variable {l:List α} {k cap:Nat} {cur cs:Array U} {c:α}
theorem vQ (K:E.Ok) (hk:k<l.length) (hcap:l.length+1<=cap) (hsz:cur.size=cap * E.n) (ht:cur.toList.take (l.length * E.n)=flat E l) (g b:Nat) (_hne:b≠g) :
  ∃ R1 R2:Array U,
   (∀ (W:O) (ty:au) (nd dc ns sc:Nat),dG W g cur E.t->min ns nd=l.length-k->(aL #[E.ts,E.ts] ty #[aB (ak ⟨g,(k+1) * E.n,aJ⟩) nd dc,aB (ak ⟨g,k * E.n,aJ⟩) ns sc]).run ah W=.ok (bJ bG ((l.length-k:Nat):Int)) (W.setRow g R1)) /\
   (∀ (W:O) (ty:au) (nd dc:Nat),dG W g R1 E.t->dG W b cs E.t->cs.toList=E.cells c->1<=nd->(aL #[E.ts,E.ts] ty #[aB (ak ⟨g,k * E.n,aJ⟩) nd dc,aB (ak ⟨b,0,aJ⟩) 1 1]).run ah W=.ok (bJ bG 1) (W.setRow g R2)) /\
   (∀ (W:O) (B:Nat),B<=g->cap<=cB->dG W g R2 E.t->Own E W B (aB (ak ⟨g,0,aJ⟩) (l.length+1) cap) (l.take k++c::l.drop k)):=by
 have hkl:(l.drop k).length=l.length-k:=by simp
 have hs1:(cur.toList.take ((k+1) * E.n)++flat E (l.drop k)++cur.toList.drop ((k+1+(l.drop k).length) * E.n)).length=cap * E.n:=by
  have h1:(k+1) * E.n<=cap * E.n:=J _ (by omega);have h2:(k+1+(l.drop k).length) * E.n<=cap * E.n:=J _ (by omega);simp only [aI,ay,aO,aS,dU K,hsz];rw [aj h1];have h3:(k+1+(l.drop k).length) * E.n=(k+1) * E.n+(l.drop k).length * E.n:=aQ ..;simp only [aO] at h2 h3 ⊢;omega
 refine⟨(cur.toList.take ((k+1) * E.n)++flat E (l.drop k)++cur.toList.drop ((k+1+(l.drop k).length) * E.n)).toArray,
  ((cur.toList.take ((k+1) * E.n)++flat E (l.drop k)++cur.toList.drop ((k+1+(l.drop k).length) * E.n)).take (k * E.n)++flat E [c]++(cur.toList.take ((k+1) * E.n)++flat E (l.drop k)++cur.toList.drop ((k+1+(l.drop k).length) * E.n)).drop ((k+1) * E.n)).toArray,?_,?_,?_⟩
 ·intro W ty nd dc ns sc hb hm;have h:=uF K (o:=k+1) (m:=l.drop k) (nd:=nd) (cd:=dc) (ns:=ns) (sc:=sc) hb (Fq K hb ht k) (by rw [hkl]; exact hm) (by rw [hkl,hsz]; exact J _ (by omega)) ty;rw [hkl] at h ⊢;exact h
 ·intro W ty nd dc hb hx hc hn;have h:=uF K (o:=k) (m:=[c]) (nd:=nd) (cd:=dc) (ns:=1) (sc:=1) hb (uE hx hc) (by simp; omega) (by rw [aM,hs1]; exact J _ (by simp; omega)) ty;simpa using h
 ·intro W B hB hm hb;have p1:(cur.toList.take ((k+1) * E.n)).length=(k+1) * E.n:=by
   rw [ay,aS,hsz];exact aj (J _ (by omega))
  have p2:(cur.toList.take ((k+1) * E.n)++flat E (l.drop k)++cur.toList.drop ((k+1+(l.drop k).length) * E.n)).take (k * E.n)=flat E (l.take k):=by
   rw [aA,List.take_append_of_le_length (by rw [p1]; exact J _ (by omega)),bZ,aj (J _ (by omega)),<- vP K,<- ht,bZ,aj (J _ (by omega))]
  have p3:(cur.toList.take ((k+1) * E.n)++flat E (l.drop k)++cur.toList.drop ((k+1+(l.drop k).length) * E.n)).drop ((k+1) * E.n)=flat E (l.drop k)++cur.toList.drop ((k+1+(l.drop k).length) * E.n):=by
   rw [aA,List.drop_left' p1]
  have e:flat E (l.take k)++flat E [c]++flat E (l.drop k)=flat E (l.take k++c::l.drop k):=by
   rw [gF,show c::l.drop k=[c]++l.drop k from rfl,gF,aA]
  have ln:(l.take k++c::l.drop k).length=l.length+1:=by simp; omega
  have q:(flat E (l.take k)++flat E [c]++flat E (l.drop k)).length=(l.length+1) * E.n:=by rw [e,dU K,ln]
  refine uD K ln.symm hB hb hcap hm ?_ ?_
  ·rw [aM,p2,p3,<- aA,aI,q,aO,show cur.toList.length=cap * E.n from Array.length_toList.trans hsz,hkl];have h1:(l.length+1) * E.n<=cap * E.n:=J _ hcap;rw [show k+1+(l.length-k)=l.length+1 by omega];omega
  ·rw [p2,p3,<- aA];exact (bU q).trans e
theorem yE (K:E.Ok) (tn:au) (htn:Tryz.prog.underlying tn=ak (.int .i64)) (hk:k<l.length) (hl:l.length<=1000) (hcap:cap<l.length+1) (hlc:l.length<=cap) (ht:cur.toList.take (l.length * E.n)=flat E l) (W:O) (g b:Nat) (hb:dG W g cur E.t) (_hbW:b<W.heap.size) :
  ∃ (G:Nat) (R1 R2 R3:Array U),l.length+1<=G/\G<=cB /\
   (∀ ty,(aK #[E.ts,tn] ty #[aB (ak ⟨g,0,aJ⟩) k cap,bJ bG ((l.length:Int)+1-k)]).run ah W=.ok (aB (ak ⟨W.heap.size,0,aJ⟩) (l.length+1) G) (W.drew.alloc (.cells R1 E.t))) /\
   (∀ (w:O) (ty:au) (nd dc:Nat),dG w W.heap.size R1 E.t->dG w b cs E.t->cs.toList=E.cells c->1<=nd->(aL #[E.ts,E.ts] ty #[aB (ak ⟨W.heap.size,k * E.n,aJ⟩) nd dc,aB (ak ⟨b,0,aJ⟩) 1 1]).run ah w=.ok (bJ bG 1) (w.setRow W.heap.size R2)) /\
   (∀ (w:O) (ty:au) (nd dc ns sc:Nat),dG w W.heap.size R2 E.t->dG w g cur E.t->min ns nd=l.length-k->(aL #[E.ts,E.ts] ty #[aB (ak ⟨W.heap.size,(k+1) * E.n,aJ⟩) nd dc,aB (ak ⟨g,k * E.n,aJ⟩) ns sc]).run ah w=.ok (bJ bG ((l.length-k:Nat):Int)) (w.setRow W.heap.size R3)) /\
   (∀ (w:O) (B:Nat),B<=W.heap.size->dG w W.heap.size R3 E.t->Own E w B (aB (ak ⟨W.heap.size,0,aJ⟩) (l.length+1) G) (l.take k++c::l.drop k)):=by
 obtain⟨i,i1,i2,i3,i4⟩:=K.info;have hf:=K.few;have hpos:=K.pos;have hkl:(l.drop k).length=l.length-k:=by simp
 have hold:(bL i.size k (aB (ak ⟨g,0,aJ⟩) k cap)).run ah W.drew=.ok (flat E (l.take k)).toArray W.drew :=
  run_firstCells_some (P:=ah) (w:=W.drew) i.size k ⟨g,0,aJ⟩ k cap (flat E (l.take k)) (by rw [dU K,ay,aj (by omega),i3]) (fun j u hj=>by
   rw [mZ];show W.cell? _=_;rw [hb.cell];rw [<- vP K,<- ht,aH] at hj
   split at hj
   ·rw [aH] at hj
    split at hj
    ·simpa using hj
    ·cases hj
   ·cases hj)
 have happ:=fun ty=>Lib.run_append_grow_zeros (P:=ah) W E.ts tn ty E.t i _ bG bG K.hu htn i1 i2 (ak ⟨g,0,aJ⟩) k cap (flat E (l.take k)) hold (l.length+1-k) (by omega) (by rw [i3]; exact hpos) (by omega) (by omega)
  (by rw [i4]; exact bP (bH (show l.length+1-k<=2000 by omega) hf) (by decide))
  (growslice_fits (by omega) (by rw [i4]; exact bP (bH (show k+(l.length+1-k)<=2000 by omega) hf) (by decide)))
 rw [show k+(l.length+1-k)=l.length+1 by omega] at happ;have hG1:=grownCap_ge W (l.length+1) cap E.t;have hG2:=grownCap_le_maxLen W (l.length+1) cap E.t (by unfold cB; omega);generalize grownCap W (l.length+1) cap E.t=G at happ hG1 hG2;obtain⟨R1,hR1⟩:∃ R1:Array U,R1=(flat E (l.take k)).toArray++bQ E.z.cells (l.length+1-k)++bQ E.z.cells (G-(l.length+1)):=⟨_,rfl⟩;rw [<- hR1] at happ;have hs0:R1.size=G * E.n:=by
  rw [hR1];simp only [Array.size_append,aM,size_zeroCells,K.zs,dU K,ay,aj (Nat.le_of_lt hk),<- aQ];rw [show k+(l.length+1-k)+(G-(l.length+1))=G by omega]
 have hh:R1.toList.take (k * E.n)=flat E (l.take k):=by
  rw [hR1];simp only [Array.toList_append,aA];have e:(flat E (l.take k)).length=k * E.n:=by rw [dU K,ay,aj (by omega)]
  rw [<- e];simp
 have q1:(flat E [c]).length=1 * E.n:=by rw [dU K]; rfl
 have q0:(R1.toList.take (k * E.n)).length=k * E.n:=by
  rw [hh,dU K,ay,aj (by omega)]
 have hs2:(R1.toList.take (k * E.n)++flat E [c]++R1.toList.drop ((k+[c].length) * E.n)).length=G * E.n:=by
  have h1:(k+1) * E.n<=G * E.n:=J _ (by omega);have h2:(k+1) * E.n=k * E.n+1 * E.n:=aQ ..;simp only [aI,q0,q1,aO,aS,hs0,List.length_singleton];omega
 refine⟨G,R1,(R1.toList.take (k * E.n)++flat E [c]++R1.toList.drop ((k+[c].length) * E.n)).toArray,
  ((R1.toList.take (k * E.n)++flat E [c]++R1.toList.drop ((k+[c].length) * E.n)).take ((k+1) * E.n)++flat E (l.drop k)++(R1.toList.take (k * E.n)++flat E [c]++R1.toList.drop ((k+[c].length) * E.n)).drop ((k+1+(l.drop k).length) * E.n)).toArray,hG1,hG2,?_,?_,?_,?_⟩
 ·intro ty;have h:=happ ty;rw [show ((l.length+1-k:Nat):Int)=(l.length:Int)+1-k by omega] at h;exact h
 ·intro w ty nd dc hb' hx hc hn;have h:=uF K (o:=k) (m:=[c]) (nd:=nd) (cd:=dc) (ns:=1) (sc:=1) hb' (uE hx hc) (by simp; omega) (by rw [hs0]; exact J _ (by simp; omega)) ty;simpa using h
 ·intro w ty nd dc ns sc hb' hx hm;have h:=uF K (o:=k+1) (m:=l.drop k) (nd:=nd) (cd:=dc) (ns:=ns) (sc:=sc) hb' (Fq K hx ht k) (by rw [hkl]; exact hm) (by rw [hkl,aM,hs2]; exact J _ (by omega)) ty;rw [hkl] at h ⊢;exact h
 ·intro w B hB hb';have p2:(R1.toList.take (k * E.n)++flat E [c]++R1.toList.drop ((k+[c].length) * E.n)).take ((k+1) * E.n)=flat E (l.take k)++flat E [c]:=by
   have e:(R1.toList.take (k * E.n)++flat E [c]).length=(k+1) * E.n:=by rw [aI,q0,q1,<- aQ]
   rw [<- e,bY,hh]
  have e:flat E (l.take k)++flat E [c]++flat E (l.drop k)=flat E (l.take k++c::l.drop k):=by
   rw [gF,show c::l.drop k=[c]++l.drop k from rfl,gF,aA]
  have ln:(l.take k++c::l.drop k).length=l.length+1:=by simp; omega
  have q:(flat E (l.take k)++flat E [c]++flat E (l.drop k)).length=(l.length+1) * E.n:=by rw [e,dU K,ln]
  refine uD K ln.symm hB hb' hG1 hG2 ?_ ?_
  ·rw [aM,p2,aI,q,aO,hs2,hkl];have h1:(l.length+1) * E.n<=G * E.n:=J _ hG1;rw [show k+1+(l.length-k)=l.length+1 by omega];omega
  ·rw [p2];exact (bU q).trans e
end
theorem kI {P:Program} {ops:Array Oper} {rest:List Oper} {o:Oper} {a:bf} {Q:cu->bf->O->Prop} {w w':O} (hgd:o.guard=aJ) (s x:X) (t t':au)
  (ho:o.op=.call { callee:=.builtin .append,args:=#[s,x],argTypes:=#[t,t'] }) {v xv v':U} (hs:a.eval s=v) (hx:a.eval x=xv) (hr:(aK #[t,t'] o.type #[v,xv]).run P w=.ok v' w')
  (h:wpList P ops Q rest (a.put o.dst v') w'):wpList P ops Q (o::rest) a w:=by
 refine wpList_plain hgd fun K hK=>?_;unfold aT execOp;simp only [ho,resolve,invoke,builtin,Sem.run_bind,Sem.run_pure,bg,bn,bK,bR,hs,hx,hr];exact hK _ _ h
theorem jK {P:Program} {ops:Array Oper} {o:Oper} {a:bf} {w w':O} {K:bf->O->Prop} {Q:cu->bf->O->Prop} {E:Prop}
  (hg:o.guard=aJ) (s x:X) (t:au) (hop:o.op=.call { callee:=.builtin .copy,args:=#[s,x],argTypes:=#[t,t] }) {v xv v':U} (hs:a.eval s=v) (hx:a.eval x=xv)
  (hr:(aL #[t,t] o.type #[v,xv]).run P w=.ok v' w') (hK:K (a.put o.dst v') w') :
  if Y o (yielded ops a.tmps)=aD then aT P o a w K Q else E:=by
 have hw:Y o (yielded ops a.tmps)=aD:=by simp [Y,hg]
 rw [if_pos hw];unfold aT execOp;simp only [hop,resolve,invoke,builtin,Sem.run_bind,Sem.run_pure,bg,bn,bK,bR,hs,hx,hr];exact hK
end Rw
namespace Nm
open Go.RowKit Rw
def EI:Ek Int:=⟨3,25,1,8,bJ bG 0,fun n=>.int bG n,fun n=>[bJ bG n]⟩
theorem Zr:(Tryz.prog.info? 3).map (fun i=>(i.zero,i.size,i.bytes))=ak (ak (bJ bG 0),1,8):=by kernel_rfl
theorem I4:EI.Ok where
 hu:=Tryz.underlying25
 info:=by
  have h:=Zr;cases hi:Tryz.prog.info? 3 with
  | none=>rw [hi] at h; cases h
  | some i =>
   rw [hi] at h;simp only [Option.map_some,Option.some.injEq,Prod.mk.injEq] at h;exact⟨i,hi,h.1,h.2.1,h.2.2⟩
 zs:=rfl
 len:=fun _=>rfl
 one:=fun x u hu=>by
  simp only [EI,List.mem_cons,List.not_mem_nil,or_false] at hu;rw [hu]
  rfl
 pos:=by decide
 few:=by decide
 load:=fun w p x h=>by
  have h0:=h 0 _ rfl;rw [add_zero] at h0;show (Instr.loadAt 3 (.pointer (ak p))).run ah w=.ok (bJ bG x) w;simp [go_sem,h0]
abbrev qW (W:O) (v:U) (l:List Int):Prop:=Row EI W v l
abbrev mq (W:O) (B:Nat) (v:U) (l:List Int):Prop:=Own EI W B v l
theorem elI {W:O} {v:U} {l:List Int} {ao:Option Addr} {n c k:Nat} {x:Int} (h:qW W v l) (hv:v=aB ao n c) (hn:l.length=n) (hk:l[k]?=ak x) :
  ∃ p:Addr,(∀ w,(Instr.indexAt 25 (aB ao n c) (bJ bG k)).run ah w=.ok (.pointer (ak p)) w)/\p.block<W.heap.size/\∀ w,Below W.heap.size W w->w.cell? p=ak (bJ bG x):=by
 obtain⟨p,h1,h3,h2⟩:=kU I4 h hv hn hk;exact⟨p,h1,h3,fun w hw=>by
  have h0:=h2 w hw 0 _ rfl
  rwa [add_zero] at h0⟩
theorem ad4 {w:O} (B:Nat) {v x:U} {l m:List Int} (hown:mq w B v l) (hx:qW w x m) (hn:l.length<=1000) (hm:m.length<=1000) (hB:B<=w.heap.size) :
  ∃ v' w',(aK #[25,25] 25 #[v,x]).run ah w=.ok v' w'/\mq w' B v' (l++m)/\w.grownBy w' v.ownBlock:=fO I4 B hown hx hn hm hB 25
theorem Pw (w:O) (c:Int):qW (w.alloc (.cells #[bJ bG c] 3)) (aB (ak ⟨w.heap.size,0,aJ⟩) 1 1) [c] :=
 Row.dn (gH I4 w [c] 1 rfl (by simp) _ rfl)
theorem Fu:∀ l:List Int,flat EI l=l.map (fun n=>.int bG n)
 | []=>rfl
 | x::r=>by
  show EI.cells x++flat EI r=_;rw [Fu r]
  rfl
end Nm
namespace Rg
open Go.RowKit
def left (L:Array Bool):Nat:=L.toList.countP (fun b=>!b)
theorem Px (L:Array Bool) (i:Nat) (h:L.getD i aD=false):left (L.setIfInBounds i aD)+1=left L:=by
 obtain⟨l⟩:=L;have hi:i<l.length:=by
  rcases aF i l.length with h0|h0
  ·exact h0
  ·exact absurd h (by simp [aG,Nat.not_lt.2 h0])
 have hv:l[i]=false:=by simpa [aG,hi] using h
 unfold left;simp only [List.setIfInBounds_toArray];rw [List.countP_set hi,hv];have hp:0<l.countP (fun b=>!b):=List.countP_pos_iff.2 ⟨l[i],bT hi,by rw [hv]; rfl⟩;simp;omega
theorem MJ (L:Array Bool) (h:left L=0) (i:Nat):L.getD i aD=aD:=by
 obtain⟨l⟩:=L;unfold left at h;rw [List.countP_eq_zero] at h;rcases aF i l.length with h0|h0
 ·have:=h l[i] (bT h0);simp [aG,h0];simpa using this
 ·simp [aG,Nat.not_lt.2 h0]
def MN (ops:Array Oper):Bool:=(List.range ops.size).all fun i=>match ops[i]? with
 | some o=>o.after.all fun e=>!Region.binds .any e || decide (e.on<i)
 | none=>aD
def done (L:Array Bool) (i:Nat):Prop:=L.getD i false=aD
theorem Fv {ops:Array Oper} (hf:MN ops=aD) {L:Array Bool} (hs:L.size=ops.size) (h:bS .any ops L=[]):∀ n,n<=ops.size->∀ i,i<n->done L i:=by
 intro n
 induction n with
 | zero=>intro _ i hi; omega
 | succ n ih =>
  intro hn i hi;rcases aF i n with h1|h1
  ·exact ih (by omega) i h1
  ·obtain rfl:i=n:=by omega
   cases hd:L.getD i aD
   ·exfalso;have hm:i∈bS .any ops L:=by
     rw [mem_ready];refine⟨hd,ops[i],aY (by omega),fun e he hbd=>?_⟩;have h2:=bA.1 hf i (bI.2 (by omega));rw [aY (by omega)] at h2;have h3:=bN.1 h2 e he;rw [hbd] at h3;exact ih (by omega) e.on (by simpa using h3)
    rw [h] at hm;cases hm
   ·unfold done;have hi2:i<L.size:=by omega
    simp [aG,hi2] at hd ⊢;exact hd
section
variable {P:Program} {ops:Array Oper} {Q:cu->bf->O->Prop}
theorem I5 (I:Array Bool->bf->O->Prop) (hf:MN ops=aD)
  (hstep:∀ L a w i o,L.size=ops.size->I L a w->ops[i]?=ak o->¬ done L i->(∀ e∈o.after,Z .any e=aD->done L e.on)->wpOp P ops Q i (I (L.setIfInBounds i aD)) a w)
  (hend:∀ L a w,I L a w->(∀ i,i<ops.size->done L i)->Q .normal a w) :
  ∀ (fuel:Nat) (L:Array Bool) (a:bf) (w:O),L.size=ops.size->left L<=fuel->I L a w->wpAny P .any ops Q fuel L a w:=by
 intro fuel
 induction fuel with
 | zero =>
  intro L a w hs hl hI;have hr:bS .any ops L=[]:=by
   rw [List.eq_nil_iff_forall_not_mem];intro i hi;have h1:=(mem_ready.1 hi).1;rw [MJ L (by omega) i] at h1;cases h1
  exact⟨hr,hend L a w hI (Fv hf hs hr ops.size (aR _))⟩
 | succ fuel ih =>
  intro L a w hs hl hI;refine⟨fun hr=>hend L a w hI (Fv hf hs hr ops.size (aR _)),fun i hi=>?_⟩;obtain⟨h1,o,h2,h3⟩:=mem_ready.1 hi;have hlt:i<ops.size:=(aN.1 h2).1;have hnd:¬ done L i:=by
   unfold done;have:i<L.size:=by omega
   simp [aG,this] at h1 ⊢;exact h1
  have hst:=hstep L a w i o hs hI h2 hnd (fun e he hb=>h3 e he hb);have hmono:∀ a' w',I (L.setIfInBounds i aD) a' w'->wpAny P .any ops Q fuel (L.setIfInBounds i aD) a' w':=fun a' w' h =>
   ih _ a' w' (by simpa using hs) (by have:=Px L i h1; omega) h
  unfold wpOp at hst ⊢;rw [h2] at hst ⊢;simp only at hst ⊢
  split at hst
  ·rename_i hw
   rw [if_pos hw];rcases hst with hst|hst
   ·exact aU (cO hmono hst)
   ·exact aV hst
  ·rename_i hw
   rw [if_neg hw];exact hmono _ _ hst
theorem qE (I:Array Bool->bf->O->Prop) {id:Nat} {a:bf} {w:O} {l:List Oper} (hm:P.follows .mixedOrders=aD) (hf:MN l.toArray=aD)
  (h0:I (bV l.length false) a { w with drawn:=w.drawn+1 })
  (hstep:∀ L a w i o,L.size=l.length->I L a w->l[i]?=ak o->¬ done L i->(∀ e∈o.after,Z .any e=aD->done L e.on)->wpOp P l.toArray Q i (I (L.setIfInBounds i aD)) a w)
  (hend:∀ L a w,I L a w->(∀ i,i<l.length->done L i)->Q .normal a w):(Code.region id l.toArray aD).wp P Q a w:=by
 refine wp_region_any hm (I5 (ops:=l.toArray) I hf (fun L a w i o hs hI ho=>hstep L a w i o (by simpa using hs) hI (by simpa using ho)) (fun L a w hI hd=>hend L a w hI (by simpa using hd)) _ _ _ _ (by simp) ?_ (by simpa using h0));unfold left;have h2:=List.countP_le_length (p:=fun b:Bool=>!b) (l:=List.replicate l.length false);simpa using h2
end
theorem gP {L:Array Bool} {i:Nat} (h:i<L.size) (j:Nat):done (L.setIfInBounds i aD) j↔j=i\/done L j:=by
 unfold done;by_cases e:j=i
 ·subst e; simp [aG,h]
 ·by_cases hj:j<L.size
  ·have h2:i≠j:=fun x=>e x.symm;simp [aG,hj,e,h2]
  ·simp [aG,hj,e]
theorem gy (n j:Nat):¬ done (bV n false) j:=by
 unfold done;by_cases hj:j<n <;> simp [aG,hj]
theorem cZ {P:Program} {ops:Array Oper} {Q:cu->bf->O->Prop} {K:bf->O->Prop} {a:bf} {w w':O} {i:Nat} {o:Oper} {v:U}
  (ho:ops[i]?=ak o) (hg:o.guard=aJ) (hr:(execOp a.eval o).run P w=.ok (.value v) w') (h:K (a.put o.dst v) w'):wpOp P ops Q i K a w:=by
 unfold wpOp;rw [ho];have hw:Y o (yielded ops a.tmps)=aD:=by simp [Y,hg]
 simp only [hw,if_true];refine aU ?_;unfold aT;rw [hr];exact h
theorem Xl {P:Program} {s:Sem U} {w w':O} {v:U} (h:s.run P w=.ok v w'):(do pure (Next.value (<- s)):Sem Next).run P w=.ok (.value v) w':=by
 simp [go_sem,h]
theorem fM {P:Program} (ρ:X->U) (o:Oper) (s x:X) (t:au) (ho:o.op=.call { callee:=.builtin .append,args:=#[s,x],argTypes:=#[t,t] }) {v x' v':U} {w w':O}
  (hs:ρ s=v) (hx:ρ x=x') (hrun:(aK #[t,t] o.type #[v,x']).run P w=.ok v' w'):(execOp ρ o).run P w=.ok (.value v') w':=by
 simp [execOp,ho,resolve,invoke,builtin,hs,hx,hrun,aC]
theorem jI {P:Program} (ρ:X->U) (o:Oper) (t:au) (x:X) (l h m:Option X) (ho:o.op=.slice t x l h m) {v:U} {w:O} (hr:(Instr.sliceAt t (ρ x) (l.map ρ) (h.map ρ) (m.map ρ)).run P w=.ok v w) :
  (execOp ρ o).run P w=.ok (.value v) w:=by
 simp [execOp,ho,hr,aC]
theorem nP {P:Program} (ρ:X->U) (o:Oper) (t:au) (x i:X) (ho:o.op=.indexAddr t x i) {v:U} {w:O} (hr:(Instr.indexAt t (ρ x) (ρ i)).run P w=.ok v w) :
  (execOp ρ o).run P w=.ok (.value v) w:=by
 simp [execOp,ho,hr,aC]
theorem dR {P:Program} (ρ:X->U) (o:Oper) (t:au) (x:X) (ho:o.op=.load t x) {v:U} {w:O} (hr:(Instr.loadAt t (ρ x)).run P w=.ok v w) :
  (execOp ρ o).run P w=.ok (.value v) w:=by
 simp [execOp,ho,hr,aC]
theorem iG {P:Program} (ρ:X->U) (o:Oper) (t:au) (n:Nat) (parts:Array (Nat×X)) (ho:o.op=.buildSlice t n parts) {ps:Array (Nat×U)} (hp:parts.map (fun x=>(x.1,ρ x.2))=ps) {v:U} {w w':O} (hr:(Instr.buildSlice t n ps).run P w=.ok v w') :
  (execOp ρ o).run P w=.ok (.value v) w':=by
 subst hp;simp [execOp,ho,hr,aC]
theorem fJ {P:Program} (ρ:X->U) (o:Oper) (x:X) (ho:o.op=.move x) (w:O):(execOp ρ o).run P w=.ok (.value (ρ x)) w:=by
 simp [execOp,ho]
theorem kM {P:Program} (ρ:X->U) (o:Oper) (x:X) (ho:o.op=.assign x) (w:O):(execOp ρ o).run P w=.ok (.value (ρ x)) w:=by
 simp [execOp,ho]
theorem size_put (a:bf) (d:Nat) (v:U):(a.put (ak d) v).tmps.size=a.tmps.size:=by simp [Act.put]
theorem get_put (a:bf) (d:Nat) (v:U) (j:Nat) (hd:j≠d):(a.put (ak d) v).tmps[j]?=a.tmps[j]?:=by
 have h2:d≠j:=fun x=>hd x.symm;simp [Act.put,h2]
theorem dD {a:bf} {j:Nat} {v:U} (h:a.tmps[j]?=ak v):a.eval (.tmp j)=v:=by
 have h1:=(aN.1 h).1;have h2:=(aN.1 h).2;simp [Act.eval,aG,h1,h2]
theorem Vi {P:Program} {ops:Array Oper} {Q:cu->bf->O->Prop} {K:bf->O->Prop} {a:bf} {w w':O} {i:Nat} {o:Oper}
  (ho:ops[i]?=ak o) (hg:o.guard=aJ) (hr:(execOp a.eval o).run P w=.ok .skip w') (h:K (a.put o.dst undef) w'):wpOp P ops Q i K a w:=by
 unfold wpOp;rw [ho];have hw:Y o (yielded ops a.tmps)=aD:=by simp [Y,hg]
 simp only [hw,if_true];refine aU ?_;unfold aT;rw [hr];exact h
theorem fQ {a:bf} {bl:List U} (d0 m:Nat) (df:a.defers=[]) (sz:a.tmps.size=bl.length) (hle:d0+m<=bl.length) (kp:∀ j,(j<d0\/d0+m<=j)->a.tmps[j]?=bl[j]?) :
  ∃ mid:List U,mid.length=m/\a=⟨(bl.take d0++(mid++bl.drop (d0+m))).toArray,[]⟩:=by
 obtain⟨tmps,defers⟩:=a;have hd:defers=[]:=df;have hs:tmps.size=bl.length:=sz;have hk:∀ j,(j<d0\/d0+m<=j)->tmps[j]?=bl[j]?:=kp;subst hd;have hl:((tmps.toList.drop d0).take m).length=m:=by simp; omega
 refine⟨(tmps.toList.drop d0).take m,hl,congrArg (fun x=>(⟨x,[]⟩:bf)) ?_⟩;apply Array.ext_getElem?;intro j
 conv=>rhs; rw [List.getElem?_toArray]
 by_cases h1:j<d0
 ·rw [hk j (aU h1),aZ (by simp; omega),aH,if_pos h1]
 ·have ht:(bl.take d0).length=d0:=by simp; omega
  rw [aX (by omega),ht];by_cases h2:j<d0+m
  ·rw [aZ (by omega),aH,if_pos (by omega),aW,Array.getElem?_toList,show d0+(j-d0)=j by omega]
  ·rw [hk j (aV (by omega)),aX (by omega),hl,aW,show d0+m+(j-d0-m)=j by omega]
end Rg
namespace Rw
open Go.RowKit
theorem eD {P:Program} {ops:Array Oper} {o:Oper} {a:bf} {w w':O} {K:bf->O->Prop} {Q:cu->bf->O->Prop} {E:Prop}
  (hg:o.guard=aJ) (s x:X) (t:au) (hop:o.op=.call { callee:=.builtin .append,args:=#[s,x],argTypes:=#[t,t] }) {v xv v':U} (hs:a.eval s=v) (hx:a.eval x=xv)
  (hr:(aK #[t,t] o.type #[v,xv]).run P w=.ok v' w') (hK:K (a.put o.dst v') w') :
  if Y o (yielded ops a.tmps)=aD then aT P o a w K Q else E:=by
 have hw:Y o (yielded ops a.tmps)=aD:=by simp [Y,hg]
 rw [if_pos hw];unfold aT execOp;simp only [hop,resolve,invoke,builtin,Sem.run_bind,Sem.run_pure,bg,bn,bK,bR,hs,hx,hr];exact hK
theorem oP {P:Program} {ops:Array Oper} {o:Oper} {a:bf} {w:O} {K:bf->O->Prop} {Q:cu->bf->O->Prop} {E:Prop} {f:FuncId} {args:Array U} {R:Ending->O->Prop}
  (hg:o.guard=aJ) (hr:(execOp a.eval o).run P w=.ok (.enter f args) w) (hc:Calls P f args w R) (hR:∀ e w',R e w'->∃ v,e=.returned v/\K (a.put o.dst v) w') :
  if Y o (yielded ops a.tmps)=aD then aT P o a w K Q else E:=by
 have hw:Y o (yielded ops a.tmps)=aD:=by simp [Y,hg]
 rw [if_pos hw];unfold aT;rw [hr,bW];refine hc.mono ?_;intro e w' h;obtain⟨v,rfl,hk⟩:=hR e w' h;exact hk
theorem fK {P : Program} {f : FuncId} {fn : Func} {c : Code} (hf : P.funcs[f]? = some fn) (hname : (fn.name == "runtime.NumGoroutine") = false) (hb : fn.body = some c) (args : Array Value) (w : World) : (callFunc f args).run P w = .ok (.enter f args) w := by
 have h1 : fn.name ≠ "runtime.NumGoroutine" := by simpa using hname
 simp [callFunc,hf,h1,hb]
theorem gY {P:Program} (ρ:X->U) (o:Oper) (x:X) (t:au) (f:FuncId) (ho:o.op=.call { callee:=.value (.func f),args:=#[x],argTypes:=#[t] }) {v:U} (hx:ρ x=v) (hf:ρ (.func f)=.func (.func f) #[] #[]) (w:O)
  (hc:(callFunc f #[v]).run P w=.ok (.enter f #[v]) w):(execOp ρ o).run P w=.ok (.enter f #[v]) w:=by
 simp [execOp,ho,resolve,invoke,hx,hf,bC,hc]
theorem rE {P:Program} (ρ:X->U) (o:Oper) (x y:X) (t s:au) (f:FuncId) (ho:o.op=.call { callee:=.value (.func f),args:=#[x,y],argTypes:=#[t,s] }) {v u:U} (hx:ρ x=v) (hy:ρ y=u) (hf:ρ (.func f)=.func (.func f) #[] #[]) (w:O)
  (hc:(callFunc f #[v,u]).run P w=.ok (.enter f #[v,u]) w):(execOp ρ o).run P w=.ok (.enter f #[v,u]) w:=by
 simp [execOp,ho,resolve,invoke,hx,hy,hf,bC,hc]
end Rw
namespace Rg
open Go.RowKit
theorem gq {P:Program} {ops:Array Oper} {Q:cu->bf->O->Prop} {K:bf->O->Prop} {a:bf} {w:O} {i:Nat} {o:Oper} {f:FuncId} {args:Array U} {R:Ending->O->Prop}
  (ho:ops[i]?=ak o) (hg:o.guard=aJ) (hr:(execOp a.eval o).run P w=.ok (.enter f args) w) (hc:Calls P f args w R) (hR:∀ e w',R e w'->∃ v,e=.returned v/\K (a.put o.dst v) w'):wpOp P ops Q i K a w:=by
 unfold wpOp;rw [ho];have hw:Y o (yielded ops a.tmps)=aD:=by simp [Y,hg]
 simp only [hw,if_true];refine aU ?_;unfold aT;rw [hr,bW];refine hc.mono ?_;intro e w' h;obtain⟨v,rfl,hk⟩:=hR e w' h;exact hk
theorem rF {P:Program} (ρ:X->U) (o:Oper) (x y z:X) (t:au) (f:FuncId) (ho:o.op=.call { callee:=.value (.func f),args:=#[x,y,z],argTypes:=#[t,t,t] }) {v u s:U} (hx:ρ x=v) (hy:ρ y=u) (hz:ρ z=s) (hf:ρ (.func f)=.func (.func f) #[] #[]) (w:O)
  (hc:(callFunc f #[v,u,s]).run P w=.ok (.enter f #[v,u,s]) w):(execOp ρ o).run P w=.ok (.enter f #[v,u,s]) w:=by
 simp [execOp,ho,resolve,invoke,hx,hy,hz,hf,bC,hc]
theorem dJ {P:Program} (ρ:X->U) (o:Oper) (s:au) (x:X) (f:Nat) (ho:o.op=.fieldAddr s x f) {v:U} {w:O} (hr:(Instr.fieldAt s (ρ x) f).run P w=.ok v w):(execOp ρ o).run P w=.ok (.value v) w:=by
 unfold execOp;rw [ho];exact Xl hr
theorem Py {P:Program} (ρ:X->U) (o:Oper) (op:BinOp) (t:au) (x y:X) (r:au) (ho:o.op=.binOp op t x y r) {v:U} {w:O} (hr:(do eqGuard op t x y (ρ x) (ρ y); binOp op t (ρ x) (ρ y):Sem U).run P w=.ok v w):(execOp ρ o).run P w=.ok (.value v) w:=by
 unfold execOp;rw [ho];exact Xl hr
theorem wpOp_mono {P:Program} {ops:Array Oper} {Q:cu->bf->O->Prop} {i:Nat} {K K':bf->O->Prop} {a:bf} {w:O} (h:∀ a w,K a w->K' a w) (hw:wpOp P ops Q i K a w):wpOp P ops Q i K' a w:=by
 unfold wpOp at hw ⊢;cases ho:ops[i]? with
 | none =>
  rw [ho] at hw;exact h _ _ hw
 | some o =>
  rw [ho] at hw;simp only at hw ⊢
  split at hw
  ·rename_i h1
   rw [if_pos h1];rcases hw with hw|hw
   ·exact aU (cO h hw)
   ·exact aV hw
  ·rename_i h1
   rw [if_neg h1];exact h _ _ hw
def fu (P:Program) (ops:Array Oper) (Q:cu->bf->O->Prop):Nat->Nat->bf->O->Prop
 | 0,_,a,w=>Q .normal a w
 | n+1,k,a,w=>wpOp P ops Q k (fun a w=>fu P ops Q n (k+1) a w) a w
structure Xm (i M:Nat) (dst last:Nat->Nat) (V:Nat->U->O->Prop) (base:bf) (o:Oper) (a:bf) (w:O):Prop where
 kp:∀ j u,(∀ k,k<M->dst k≠j)->base.tmps[j]?=ak u->a.eval (.tmp j)=u
 at_:∀ e∈o.after,Z .any e=aD->(last e.on=i\/M<=last e.on)->V e.on (a.eval (.tmp (dst e.on))) w
 got:∀ e∈o.after,Z .any e=aD->a.tmps[dst e.on]?=ak (a.eval (.tmp (dst e.on)))
structure PhL (l:List Oper) (M:Nat) (dst last:Nat->Nat) (V:Nat->U->O->Prop) (base:bf) (w:O) (L:Array Bool) (a:bf) (x:O):Prop where
 no:∀ i,M<=i->¬ done L i
 cl:∀ i o,done L i->l[i]?=ak o->∀ e∈o.after,Z .any e=aD->done L e.on
 df:a.defers=base.defers
 sz:a.tmps.size=base.tmps.size
 kp:∀ j,(∀ i,i<M->dst i≠j)->a.tmps[j]?=base.tmps[j]?
 tu:Below w.heap.size w x
 val:∃ vs:Nat->U,∀ i,i<M->done L i->a.tmps[dst i]?=ak (vs i)/\(¬ done L (last i)->V i (vs i) x)
theorem fH {P:Program} {Q:cu->bf->O->Prop} {id:Nat} {base:bf} {w:O} {l:List Oper} (N M:Nat) (dst last:Nat->Nat) (V:Nat->U->O->Prop)
  (hm:P.follows .mixedOrders=aD) (hf:MN l.toArray=aD) (hN:l.length=N) (hMN:M<=N) (hinj:∀ i j,i<M->j<M->dst i=dst j->i=j) (hs:∀ i,i<M->dst i<base.tmps.size)
  (hop:∀ i o,i<M->l[i]?=ak o->∀ a w' (D:Nat->Prop),¬ D i->(∀ j oj,D j->l[j]?=ak oj->∀ e∈oj.after,Z .any e=aD->D e.on)->(∀ e∈o.after,Z .any e=aD->D e.on)->Below w.heap.size w w'->Xm i M dst last V base o a w'->∀ K:bf->O->Prop,(∀ v w'',V i v w''->Below w.heap.size w' w''->(∀ j u,j<M->D j->¬ D (last j)->last j≠i->j≠i->V j u w'->V j u w'')->K (a.put (ak (dst i)) v) w'')->wpOp P l.toArray Q i K a w')
  (hall:M<N->∀ D:Nat->Prop,(∀ j o,D j->l[j]?=ak o->∀ e∈o.after,Z .any e=aD->D e.on)->(∀ o,l[M]?=ak o->∀ e∈o.after,Z .any e=aD->D e.on)->∀ i,i<M->D i)
  (hnext:∀ k o,M<k->k<N->l[k]?=ak o->∃ e∈o.after,Z .any e=aD/\e.on=k-1)
  (hseq:∀ a w',a.defers=base.defers->a.tmps.size=base.tmps.size->(∀ j,(∀ i,i<M->dst i≠j)->a.tmps[j]?=base.tmps[j]?)->(∃ vs:Nat->U,∀ i,i<M->a.tmps[dst i]?=ak (vs i)/\(M<=last i->V i (vs i) w'))->Below w.heap.size w w'->fu P l.toArray Q (N-M) M a w'):(Code.region id l.toArray aD).wp P Q base w:=by
 refine qE (fun L a x=>PhL l M dst last V base w L a x\/∃ s,1<=s/\M+s<=N/\(∀ i,i<N->(done L i↔i<M+s))/\fu P l.toArray Q (N-M-s) (M+s) a x) hm hf ?_ ?_ ?_
 ·exact aU ⟨fun i _=>gy _ _,fun i o h=>absurd h (gy _ _),rfl,rfl,fun _ _=>rfl,(Below.refl _ _).drew,fun _=>.bool aD,fun i _ h=>absurd h (gy _ _)⟩
 ·intro L a x i o hsz hI ho hnd nQ;have hi:i<l.length:=(List.getElem?_eq_some_iff.1 ho).1;have Ay:i<L.size:=by omega
  rcases hI with I|⟨s,h1,h2,h3,h4⟩
  ·rcases aF i M with hiM|hiM
   ·obtain⟨vs,q1⟩:=I.val;have hon:∀ e∈o.after,Z .any e=aD->e.on<M:=fun e he hb=>by
     have h7:=bA.1 hf i (bI.2 (by simpa using hi));have ho':(l.toArray)[i]?=ak o:=by simpa using ho
     rw [ho'] at h7;have h8:=bN.1 h7 e he;rw [hb] at h8;have:e.on<i:=by simpa using h8
     omega
    have seen:Xm i M dst last V base o a x:=⟨fun j u hj hu=>dD (by rw [I.kp j hj]; exact hu),fun e he hbd hl=>by
     obtain⟨p1,p2⟩:=q1 e.on (hon e he hbd) (nQ e he hbd);rw [dD p1];refine p2 ?_;rcases hl with hl|hl
     ·rw [hl]; exact hnd
     ·exact I.no _ hl,fun e he hbd=>by
     obtain⟨p1,p2⟩:=q1 e.on (hon e he hbd) (nQ e he hbd);rw [dD p1];exact p1⟩
    refine hop i o hiM ho a x (done L) hnd I.cl nQ I.tu seen _ fun v w'' hvw hbw hpr=>aU ?_;refine⟨fun k hk hd=>?_,fun k q hk hq e he hb=>?_,I.df,by rw [size_put]; exact I.sz,fun j hj=>?_,I.tu.trans hbw,fun k=>if k=i then v else vs k,fun k Vj hk=>?_⟩
    ·rcases (gP Ay k).1 hd with h9|h9
     ·omega
     ·exact I.no k hk h9
    ·rw [gP Ay] at hk ⊢;rcases hk with rfl|hk
     ·rw [hq] at ho;cases ho;exact aV (nQ e he hb)
     ·exact aV (I.cl k q hk hq e he hb)
    ·rw [get_put _ _ _ _ (fun e=>hj i hiM e.symm)];exact I.kp j hj
    ·by_cases e:k=i
     ·subst e;have:dst k<a.tmps.size:=by rw [I.sz]; exact hs k Vj
      simp only [if_true];exact⟨by simp [Act.put,this],fun _=>hvw⟩
     ·simp only [if_neg e];rw [get_put _ _ _ _ (fun e2=>e (hinj k i Vj hiM e2))];rcases (gP Ay k).1 hk with h9|h9
      ·exact absurd h9 e
      ·obtain⟨p1,p2⟩:=q1 k Vj h9;refine⟨p1,fun hn=>?_⟩;have n1:last k≠i:=fun e3=>hn ((gP Ay _).2 (aU e3));have n2:¬ done L (last k):=fun e3=>hn ((gP Ay _).2 (aV e3));exact hpr k _ Vj h9 n2 n1 e (p2 n2)
   ·have ad5:i=M:=by
     rcases aF M i with h9|h9
     ·obtain⟨e,he,hb,hon⟩:=hnext i o h9 (by omega) ho;have hd:=nQ e he hb;rw [hon] at hd;exact absurd hd (I.no _ (by omega))
     ·omega
    subst ad5;have hD:=hall (by omega) (done L) I.cl (fun o' ho' e he hb=>by
     rw [ho] at ho';cases ho';exact nQ e he hb)
    obtain⟨vs,q1⟩:=I.val;have hq:=hseq a x I.df I.sz I.kp ⟨vs,fun k hk=>⟨(q1 k hk (hD k hk)).1,fun hl=>(q1 k hk (hD k hk)).2 (I.no _ hl)⟩⟩ I.tu;rw [show N-i=(N-i-1)+1 by omega] at hq;refine wpOp_mono (fun a' x' h=>aV ⟨1,aR _,by omega,fun k hk=>?_,h⟩) hq;rw [gP Ay];constructor
    ·rintro (rfl|h9)
     ·omega
     ·rcases aF k i with h8|h8
      ·omega
      ·exact absurd h9 (I.no k h8)
    ·intro h9;by_cases e:k=i
     ·exact aU e
     ·exact aV (hD k (by omega))
  ·have hge:M+s<=i:=by
    rcases aF i (M+s) with h9|h9
    ·exact absurd ((h3 i (by omega)).2 h9) hnd
    ·exact h9
   have hie:i=M+s:=by
    rcases aF (M+s) i with h9|h9
    ·obtain⟨e,he,hb,hon⟩:=hnext i o (by omega) (by omega) ho;have hd:=nQ e he hb;rw [hon] at hd;have:=(h3 (i-1) (by omega)).1 hd;omega
    ·omega
   subst hie;rw [show N-M-s=(N-M-(s+1))+1 by omega] at h4;refine wpOp_mono (fun a' x' h=>aV ⟨s+1,by omega,by omega,fun k hk=>?_,h⟩) h4;rw [gP Ay];constructor
   ·rintro (rfl|h9)
    ·omega
    ·have:=(h3 k hk).1 h9;omega
   ·intro h9;by_cases e:k=M+s
    ·exact aU e
    ·exact aV ((h3 k hk).2 (by omega))
 ·intro L a x hI hd;rcases hI with I|⟨s,h1,h2,h3,h4⟩
  ·rcases aF M N with h9|h9
   ·exact absurd (hd M (by omega)) (I.no M (aR _))
   ·obtain⟨vs,q1⟩:=I.val;have hq:=hseq a x I.df I.sz I.kp ⟨vs,fun k hk=>⟨(q1 k hk (hd k (by omega))).1,fun hl=>(q1 k hk (hd k (by omega))).2 (I.no _ hl)⟩⟩ I.tu;rw [show N-M=0 by omega] at hq;exact hq
  ·have:=(h3 (N-1) (by omega)).1 (hd (N-1) (by omega));rw [show N-M-s=0 by omega] at h4;exact h4
theorem iM {P:Program} (ρ:X->U) (o:Oper) (t:au) (parts:Array (Nat×X)) (ho:o.op=.build t parts) {ps:Array (Nat×U)} (hp:parts.map (fun x=>(x.1,ρ x.2))=ps) {v:U} {w:O} (hr:(Instr.build t ps).run P w=.ok v w) :
  (execOp ρ o).run P w=.ok (.value v) w:=by
 subst hp;simp [execOp,ho,hr,aC]
theorem Pz {P:Program} (ρ:X->U) (o:Oper) (t:au) (x y:X) (ho:o.op=.store t x y) {w w':O} (hr:(Instr.storeAt t (ρ x) (ρ y)).run P w=.ok () w') :
  (execOp ρ o).run P w=.ok .skip w':=by
 simp [execOp,ho,hr,aC]
theorem fI {P:Program} {ops:Array Oper} {Q:cu->bf->O->Prop} {K:bf->O->Prop} {a:bf} {w w':O} {i:Nat} {o:Oper} (t:au) (x y:X) {p v:U}
  (ho:ops[i]?=ak o) (hg:o.guard=aJ) (hop:o.op=.store t x y) (hd:o.dst=aJ) (hx:a.eval x=p) (hy:a.eval y=v) (hr:(Instr.storeAt t p v).run P w=.ok () w') (h:K a w'):wpOp P ops Q i K a w:=by
 refine Vi ho hg (Pz a.eval o t x y hop (by rw [hx,hy]; exact hr)) ?_;rw [hd];exact h
def Dx (l:List Oper) (i:Nat):List Nat:=match l[i]? with
 | some o=>(o.after.toList.filter fun e=>Z .any e).map fun e=>e.on
 | none=>[]
def I6 (l:List Oper):Nat->List Nat->List Nat
 | 0,s=>s
 | n+1,s=>I6 l n (s++s.flatMap (Dx l))
theorem J9 {l:List Oper} {D:Nat->Prop} {i:Nat} (h:∀ o,l[i]?=ak o->∀ e∈o.after,Z .any e=aD->D e.on):∀ j∈Dx l i,D j:=by
 intro j hj;unfold Dx at hj;cases ho:l[i]? with
 | none=>rw [ho] at hj; cases hj
 | some o =>
  rw [ho] at hj;obtain⟨e,he,rfl⟩:=List.mem_map.1 hj;obtain⟨h1,h2⟩:=List.mem_filter.1 he;exact h o ho e (Array.mem_toList_iff.1 h1) h2
theorem Fw {l:List Oper} {D:Nat->Prop} (hc:∀ j o,D j->l[j]?=ak o->∀ e∈o.after,Z .any e=aD->D e.on):∀ n s,(∀ j∈s,D j)->∀ j∈I6 l n s,D j
 | 0,_,hs=>hs
 | n+1,s,hs=>Fw hc n _ fun j hj=>by
  rcases List.mem_append.1 hj with h|h
  ·exact hs j h
  ·obtain⟨i,hi,hd⟩:=List.mem_flatMap.1 h;exact J9 (fun o ho=>hc i o (hs i hi) ho) j hd
theorem iW {l:List Oper} {M:Nat} (n:Nat) (h:(List.range M).all (fun i=>(I6 l n (Dx l M)).contains i)=aD) (D:Nat->Prop) (hc:∀ j o,D j->l[j]?=ak o->∀ e∈o.after,Z .any e=aD->D e.on) (hm:∀ o,l[M]?=ak o->∀ e∈o.after,Z .any e=aD->D e.on):∀ i,i<M->D i:=by
 intro i hi;have h2:=bA.1 h i (bI.2 hi);exact Fw hc n _ (J9 hm) i (List.contains_iff_mem.1 h2)
theorem uG {P:Program} (ρ:X->U) (o:Oper) (t:au) (ho:o.op=.alloc t) {v:U} {w w':O} (hr:(Instr.alloc t aD (.tuple #[])).run P w=.ok v w'):(execOp ρ o).run P w=.ok (.value v) w':=by
 simp [execOp,ho,hr,aC]
end Rg
namespace Rw
open Go.RowKit
theorem iA {α:Type} {E:Ek α} (K:E.Ok) {w:O} (B:Nat) {g:Nat} {x:U} {m:List α} (jQ:dG w g #[] E.t) (hBg:B<=g) (hx:Row E w x m) (hm:m.length<=1000) (ty:au) :
  ∃ v' w',(aK #[E.ts,E.ts] ty #[aB (ak ⟨g,0,aJ⟩) 0 0,x]).run ah w=.ok v' w'/\Own E w' B v' m/\Below w.heap.size w w':=by
 have ho:Own E w B (aB (ak ⟨g,0,aJ⟩) 0 0) ([]:List α):=uD K rfl hBg jQ (aR _) (Nat.zero_le _) (by simp) (by simp [flat]);have hl:=jQ.lt;obtain⟨v',w',r,o',gr⟩:=fO K B ho hx (by simp) hm (by omega) ty;refine⟨v',w',r,by simpa using o',?_⟩;obtain⟨i,i1,i2,i3,i4⟩:=K.info;rcases hx with⟨rfl,rfl⟩|⟨ad,c,rfl,h2,h3,h4⟩
 ·have r2:=run_append_owned_none (P:=ah) (w:=w) B E.ts ty E.t i E.n K.hu i1 _ _ _ ho;rw [r2] at r;injection r with _ e
  rw [<- e];exact Below.refl _ _
 ·rcases Nat.eq_zero_or_pos m.length with h0|h0
  ·have r2:=run_append_room (P:=ah) (w:=w) E.ts ty E.t i K.hu i1 g 0 0 #[] jQ ad m.length c (flat E m) (by rw [dU K,i3]) h4 (pq K m) (by omega) (by rw [dU K,h0]; simp);rw [r2] at r;injection r with _ e
   rw [<- e];have hf:flat E m=[]:=aP (by rw [dU K,h0]; simp);have hs:=dG.set jQ ((#[]:Array U).toList.take (0 * i.size)++flat E m++(#[]:Array U).toList.drop (0 * i.size+(flat E m).length)).toArray;refine⟨rfl,rfl,rfl,by simp [World.setRow],fun k hk=>?_⟩;by_cases hkg:k=g
   ·subst hkg;refine hs.trans ?_;rw [hf];simpa using jQ.symm
   ·exact setRow_other w g k _ hkg
  ·have r2:=run_append_grow (P:=ah) (w:=w) E.ts ty E.t i E.z K.hu i1 i2 ⟨g,0,aJ⟩ 0 0 [] (by simp) (fun j v h=>by simp at h) ad m.length c (flat E m) (by rw [dU K,i3]) h4 (by omega) (by omega) (by
    rw [Nat.zero_add,nextslicecap_zero h0,i4];exact bP (bH hm K.few) (by decide))
   rw [r2] at r;injection r with _ e
   rw [<- e];exact (Below.refl _ _).drew.alloc (aR _) _
end Rw
namespace Nm
def hor (l:List UInt8):Int:=l.foldl (fun h b=>h * 256+(b.toNat:Int)) 0
def qX (l:List UInt8):Int:=IntKind.i64.wrap (hor l)
end Nm
end Go.Proofs.YtkcfgbddlpomgaaGreat
