/-
  Numbers in memory, a. Conditions as told.
-/
import Derived.Test.YtghlpefopidlaaaGreatCQ000
import Derived.Lib.AppendZerosOnto
import Derived.Lib.Overlaps
import Derived.Deep.RegionLaw
import Derived.Laws.Externs
import Derived.IntWalk
set_option maxRecDepth 100000
set_option maxHeartbeats 64000000
open _root_.Array renaming length_toList->aC
open _root_.Go renaming World->ah,Value->au,TypeId->aB
open Go.Builtin renaming copy_->Y,firstCells->aI,zeroCells->aK,append_->aO
open Go.Proofs.Tryz renaming prog->U
open Go.Value renaming slice->V,int->aL
open _root_.List renaming length_take->L,append_assoc->O,length_append->X,size_toArray->Z,length_drop->aj,getElem?_take->aD,take_of_length_le->aF,drop_of_length_le->aG,take_append_drop->aH,map_toArray->aM,take_left'->aN,take_left->aP,take_take->aQ,map_cons->aS,map_nil->aV
open _root_.Nat renaming mul_le_mul_right->D,min_eq_left->J,add_mul->aA,add_zero->aJ,mul_le_mul->aR,le_total->aT,le_trans->aU
open _root_.Option renaming some->ak,none->ay
namespace Go.Proofs.YtghlpefopidlaaaGreat
namespace Nm
open Go.RowKit Rw
def EI:Ek Int:=⟨3,24,1,8,aL .i64 0,fun n=>.int .i64 n,fun n=>[aL .i64 n]⟩
theorem Kv:(Tryz.prog.info? 3).map (fun i=>(i.zero,i.size,i.bytes))=ak (ak (aL .i64 0),1,8):=by kernel_rfl
theorem Jg:EI.Ok where
 hu:=Tryz.underlying24
 info:=by
  have h:=Kv;cases hi:Tryz.prog.info? 3 with
  | none=>rw [hi] at h; cases h
  | some i =>
   rw [hi] at h;simp only [Option.map_some,Option.some.injEq,Prod.mk.injEq] at h;exact⟨i,hi,h.1,h.2.1,h.2.2⟩
 zs:=rfl
 len:=fun _=>rfl
 one:=fun x u hu=>by
  simp only [EI,List.mem_cons,List.not_mem_nil,or_false] at hu;rw [hu]
  rfl
 pos:=by decide
 few:=by decide
 load:=fun w p x h=>by
  have h0:=h 0 _ rfl;rw [add_zero] at h0;show (Instr.loadAt 3 (.pointer (ak p))).run U w=.ok (aL .i64 x) w;simp [go_sem,h0]
abbrev Ao (W:ah) (v:au) (l:List Int):Prop:=Row EI W v l
abbrev qB (W:ah) (B:Nat) (v:au) (l:List Int):Prop:=Own EI W B v l
theorem vX:∀ l:List Int,flat EI l=l.map (fun n=>.int .i64 n)
 | []=>rfl
 | x::r=>by
  show EI.cells x++flat EI r=_;rw [vX r]
  rfl
end Nm
namespace Rw
open Go.RowKit
variable {α:Type} {E:Ek α}
theorem below_setRow {B g:Nat} {W w:ah} (h:Below B W w) (hB:B<=g) (cs:Array au):Below B W (w.setRow g cs) :=
 ⟨h.os,h.tape,h.output,by simp [World.setRow]; exact h.size,fun k hk=>by
  have hne:g≠k:=by omega
  have h2:=h.block k hk;simp [World.setRow,Array.getElem?_modify,hne,h2]⟩
theorem cZ.set {w:ah} {g:Nat} {cur:Array au} {t:aB} (h:cZ w g cur t) (cs:Array au):cZ (w.setRow g cs) g cs t:=setRow_heap w g cur cs t (0,0) h
theorem cZ.other {w:ah} {g b:Nat} {cur:Array au} {t:aB} (h:cZ w b cur t) (hne:b≠g) (cs:Array au):cZ (w.setRow g cs) b cur t:=(setRow_other w g b cs hne).trans h
theorem cZ.shape {w:ah} {b:Nat} {cur:Array au} {t:aB} (h:cZ w b cur t):w.shape? b=ak (t,cur.size):=by
 unfold cZ at h;simp [World.shape?,h]
theorem dY {W:ah} {B:Nat} {v:au} {l:List α} (h:Own E W B v l):(v=V ay 0 0/\l=[])\/∃ g cap cur,v=V (ak ⟨g,0,ay⟩) l.length cap/\B<=g/\cZ W g cur E.t/\l.length<=cap/\cap<=maxLen/\cur.size=cap * E.n/\cur.toList.take (l.length * E.n)=flat E l:=by
 rcases h.2 with⟨h1,h2⟩|⟨g,cap,cur,h1,h2,h3,h4,h5,h6,h7⟩
 ·exact Or.inl ⟨h1,List.eq_nil_of_length_eq_zero h2⟩
 ·exact Or.inr ⟨g,cap,cur,h1,h2,h3,h4,h5,h6,h7⟩
theorem jf (K:E.Ok) {W:ah} {B g cap n:Nat} {cur:Array au} {l:List α} (hn:n=l.length) (hB:B<=g) (hb:cZ W g cur E.t) (h1:n<=cap) (h2:cap<=maxLen) (h3:cur.size=cap * E.n) (h4:cur.toList.take (n * E.n)=flat E l):Own E W B (V (ak ⟨g,0,ay⟩) n cap) l:=by
 subst hn;exact⟨dh K l,Or.inr ⟨g,cap,cur,rfl,hB,hb,h1,h2,h3,h4⟩⟩
theorem jy (K:E.Ok) (l:List α) (k:Nat):(flat E l).take (k * E.n)=flat E (l.take k):=by
 rcases aT k l.length with h|h
 ·conv=>lhs; rw [<- aH k l,eG]
  have e:(flat E (l.take k)).length=k * E.n:=by rw [dh K,L,J h]
  rw [<- e,aP]
 ·rw [aF h,aF];rw [dh K];exact D _ h
theorem oL (K:E.Ok) (l:List α) (k:Nat):(flat E l).drop (k * E.n)=flat E (l.drop k):=by
 rcases aT k l.length with h|h
 ·conv=>lhs; rw [<- aH k l,eG]
  have e:(flat E (l.take k)).length=k * E.n:=by rw [dh K,L,J h]
  rw [<- e,List.drop_left]
 ·rw [aG h,aG]
  ·rfl
  rw [dh K];exact D _ h
theorem nO (K:E.Ok) {W:ah} {g:Nat} {cur:Array au} {t:aB} {l:List α} (hb:cZ W g cur t) (ht:cur.toList.take (l.length * E.n)=flat E l) (k:Nat):∀ j u,(flat E (l.drop k))[j]?=ak u->W.cell? ((⟨g,k * E.n,ay⟩:Addr).add j)=ak u:=by
 intro j u hj;rw [Addr.add_lit,hb.cell];rw [<- oL K,List.getElem?_drop,<- ht,aD] at hj
 split at hj
 ·simpa using hj
 ·cases hj
theorem kH {W:ah} {b:Nat} {cs:Array au} {t:aB} {x:α} (hb:cZ W b cs t) (hc:cs.toList=E.cells x):∀ j u,(flat E [x])[j]?=ak u->W.cell? ((⟨b,0,ay⟩:Addr).add j)=ak u:=by
 intro j u hj;rw [jM,hb.cell];rw [Ah,<- hc] at hj;simpa using hj
theorem eH (K:E.Ok) (g k len cap:Nat) (h:k<=len) (hc:k<cap) (w:ah):(Instr.sliceAt E.ts (V (ak ⟨g,0,ay⟩) len cap) (ak (aL .i64 k)) ay ay).run U w=.ok (V (ak ⟨g,k * E.n,ay⟩) (len-k) (cap-k)) w:=by
 rw [nJ K ⟨g,0,ay⟩ k len cap h w,if_neg (by omega),jM]
theorem nP (K:E.Ok) {w:ah} {g o nd cd ns sc:Nat} {a:Addr} {cur:Array au} {m:List α} (hb:cZ w g cur E.t) (hm:∀ j u,(flat E m)[j]?=ak u->w.cell? (a.add j)=ak u) (hk:min ns nd=m.length) (hr:(o+m.length) * E.n<=cur.size) (ty:aB) :
  (Y #[E.ts,E.ts] ty #[V (ak ⟨g,o * E.n,ay⟩) nd cd,V (ak a) ns sc]).run U w=.ok (aL .i64 m.length) (w.setRow g (cur.toList.take (o * E.n)++flat E m++cur.toList.drop ((o+m.length) * E.n)).toArray):=by
 obtain⟨i,i1,i2,i3,i4⟩:=K.info;have hl:=run_loadCells_list (P:=U) w a (flat E m) hm;have hst:=run_storeCells_at U g (o * E.n) E.t (flat E m) 0 cur w hb (by rw [dh K,aJ,<- aA]; exact hr) (iT K m);rw [dh K] at hl;have e:o * E.n+0+(flat E m).length=(o+m.length) * E.n:=by rw [dh K,aJ,aA]
 rw [e,aJ] at hst;simp [Y,run_underlying K.hu,Builtin.lenOf,aI,sizeOf,typeInfo,i1,i3,hk,hl,goInt];simpa using congrArg (fun r=>r.andThen fun _ w=>Result.ok (aL .i64 m.length) w) hst
/-! ### one element more, in the middle -/
section
variable {l:List α} {k cap:Nat} {cur cs:Array au} {c:α}
theorem jZ (K:E.Ok) (hk:k<l.length) (hcap:l.length+1<=cap) (hsz:cur.size=cap * E.n) (ht:cur.toList.take (l.length * E.n)=flat E l) (g b:Nat) (_hne:b≠g) :
  ∃ R1 R2:Array au,
   (∀ (W:ah) (ty:aB) (nd dc ns sc:Nat),cZ W g cur E.t->min ns nd=l.length-k->(Y #[E.ts,E.ts] ty #[V (ak ⟨g,(k+1) * E.n,ay⟩) nd dc,V (ak ⟨g,k * E.n,ay⟩) ns sc]).run U W=.ok (aL .i64 ((l.length-k:Nat):Int)) (W.setRow g R1)) /\
   (∀ (W:ah) (ty:aB) (nd dc:Nat),cZ W g R1 E.t->cZ W b cs E.t->cs.toList=E.cells c->1<=nd->(Y #[E.ts,E.ts] ty #[V (ak ⟨g,k * E.n,ay⟩) nd dc,V (ak ⟨b,0,ay⟩) 1 1]).run U W=.ok (aL .i64 1) (W.setRow g R2)) /\
   (∀ (W:ah) (B:Nat),B<=g->cap<=maxLen->cZ W g R2 E.t->Own E W B (V (ak ⟨g,0,ay⟩) (l.length+1) cap) (l.take k++c::l.drop k)):=by
 have hkl:(l.drop k).length=l.length-k:=by simp
 have hs1:(cur.toList.take ((k+1) * E.n)++flat E (l.drop k)++cur.toList.drop ((k+1+(l.drop k).length) * E.n)).length=cap * E.n:=by
  have h1:(k+1) * E.n<=cap * E.n:=D _ (by omega);have h2:(k+1+(l.drop k).length) * E.n<=cap * E.n:=D _ (by omega);simp only [X,L,aj,aC,dh K,hsz];rw [J h1];have h3:(k+1+(l.drop k).length) * E.n=(k+1) * E.n+(l.drop k).length * E.n:=aA ..;simp only [aj] at h2 h3 ⊢;omega
 refine⟨(cur.toList.take ((k+1) * E.n)++flat E (l.drop k)++cur.toList.drop ((k+1+(l.drop k).length) * E.n)).toArray,
  ((cur.toList.take ((k+1) * E.n)++flat E (l.drop k)++cur.toList.drop ((k+1+(l.drop k).length) * E.n)).take (k * E.n)++flat E [c]++(cur.toList.take ((k+1) * E.n)++flat E (l.drop k)++cur.toList.drop ((k+1+(l.drop k).length) * E.n)).drop ((k+1) * E.n)).toArray,?_,?_,?_⟩
 ·intro W ty nd dc ns sc hb hm;have h:=nP K (o:=k+1) (m:=l.drop k) (nd:=nd) (cd:=dc) (ns:=ns) (sc:=sc) hb (nO K hb ht k) (by rw [hkl]; exact hm) (by rw [hkl,hsz]; exact D _ (by omega)) ty;rw [hkl] at h ⊢;exact h
 ·intro W ty nd dc hb hx hc hn;have h:=nP K (o:=k) (m:=[c]) (nd:=nd) (cd:=dc) (ns:=1) (sc:=1) hb (kH hx hc) (by simp; omega) (by rw [Z,hs1]; exact D _ (by simp; omega)) ty;simpa using h
 ·intro W B hB hm hb;have p1:(cur.toList.take ((k+1) * E.n)).length=(k+1) * E.n:=by
   rw [L,aC,hsz];exact J (D _ (by omega))
  have p2:(cur.toList.take ((k+1) * E.n)++flat E (l.drop k)++cur.toList.drop ((k+1+(l.drop k).length) * E.n)).take (k * E.n)=flat E (l.take k):=by
   rw [O,List.take_append_of_le_length (by rw [p1]; exact D _ (by omega)),aQ,J (D _ (by omega)),<- jy K,<- ht,aQ,J (D _ (by omega))]
  have p3:(cur.toList.take ((k+1) * E.n)++flat E (l.drop k)++cur.toList.drop ((k+1+(l.drop k).length) * E.n)).drop ((k+1) * E.n)=flat E (l.drop k)++cur.toList.drop ((k+1+(l.drop k).length) * E.n):=by
   rw [O,List.drop_left' p1]
  have e:flat E (l.take k)++flat E [c]++flat E (l.drop k)=flat E (l.take k++c::l.drop k):=by
   rw [eG,show c::l.drop k=[c]++l.drop k from rfl,eG,O]
  have ln:(l.take k++c::l.drop k).length=l.length+1:=by simp; omega
  have q:(flat E (l.take k)++flat E [c]++flat E (l.drop k)).length=(l.length+1) * E.n:=by rw [e,dh K,ln]
  refine jf K ln.symm hB hb hcap hm ?_ ?_
  ·rw [Z,p2,p3,<- O,X,q,aj,show cur.toList.length=cap * E.n from Array.length_toList.trans hsz,hkl];have h1:(l.length+1) * E.n<=cap * E.n:=D _ hcap;rw [show k+1+(l.length-k)=l.length+1 by omega];omega
  ·rw [p2,p3,<- O];exact (aN q).trans e
theorem kZ (K:E.Ok) (tn:aB) (htn:Tryz.prog.underlying tn=ak (.int .i64)) (hk:k<l.length) (hl:l.length<=1000) (hcap:cap<l.length+1) (hlc:l.length<=cap) (ht:cur.toList.take (l.length * E.n)=flat E l) (W:ah) (g b:Nat) (hb:cZ W g cur E.t) (_hbW:b<W.heap.size) :
  ∃ (G:Nat) (R1 R2 R3:Array au),l.length+1<=G/\G<=maxLen /\
   (∀ ty,(aO #[E.ts,tn] ty #[V (ak ⟨g,0,ay⟩) k cap,aL .i64 ((l.length:Int)+1-k)]).run U W=.ok (V (ak ⟨W.heap.size,0,ay⟩) (l.length+1) G) (W.drew.alloc (.cells R1 E.t))) /\
   (∀ (w:ah) (ty:aB) (nd dc:Nat),cZ w W.heap.size R1 E.t->cZ w b cs E.t->cs.toList=E.cells c->1<=nd->(Y #[E.ts,E.ts] ty #[V (ak ⟨W.heap.size,k * E.n,ay⟩) nd dc,V (ak ⟨b,0,ay⟩) 1 1]).run U w=.ok (aL .i64 1) (w.setRow W.heap.size R2)) /\
   (∀ (w:ah) (ty:aB) (nd dc ns sc:Nat),cZ w W.heap.size R2 E.t->cZ w g cur E.t->min ns nd=l.length-k->(Y #[E.ts,E.ts] ty #[V (ak ⟨W.heap.size,(k+1) * E.n,ay⟩) nd dc,V (ak ⟨g,k * E.n,ay⟩) ns sc]).run U w=.ok (aL .i64 ((l.length-k:Nat):Int)) (w.setRow W.heap.size R3)) /\
   (∀ (w:ah) (B:Nat),B<=W.heap.size->cZ w W.heap.size R3 E.t->Own E w B (V (ak ⟨W.heap.size,0,ay⟩) (l.length+1) G) (l.take k++c::l.drop k)):=by
 obtain⟨i,i1,i2,i3,i4⟩:=K.info;have hf:=K.few;have hpos:=K.pos;have hkl:(l.drop k).length=l.length-k:=by simp
 have hold:(aI i.size k (V (ak ⟨g,0,ay⟩) k cap)).run U W.drew=.ok (flat E (l.take k)).toArray W.drew :=
  run_firstCells_some (P:=U) (w:=W.drew) i.size k ⟨g,0,ay⟩ k cap (flat E (l.take k)) (by rw [dh K,L,J (by omega),i3]) (fun j u hj=>by
   rw [jM];show W.cell? _=_;rw [hb.cell];rw [<- jy K,<- ht,aD] at hj
   split at hj
   ·rw [aD] at hj
    split at hj
    ·simpa using hj
    ·cases hj
   ·cases hj)
 have happ:=fun ty=>Lib.run_append_grow_zeros (P:=U) W E.ts tn ty E.t i _ .i64 .i64 K.hu htn i1 i2 (ak ⟨g,0,ay⟩) k cap (flat E (l.take k)) hold (l.length+1-k) (by omega) (by rw [i3]; exact hpos) (by omega) (by omega)
  (by rw [i4]; exact aU (aR (show l.length+1-k<=2000 by omega) hf) (by decide))
  (growslice_fits (by omega) (by rw [i4]; exact aU (aR (show k+(l.length+1-k)<=2000 by omega) hf) (by decide)))
 rw [show k+(l.length+1-k)=l.length+1 by omega] at happ;have hG1:=grownCap_ge W (l.length+1) cap E.t;have hG2:=grownCap_le_maxLen W (l.length+1) cap E.t (by unfold maxLen; omega);generalize grownCap W (l.length+1) cap E.t=G at happ hG1 hG2;obtain⟨R1,PV⟩:∃ R1:Array au,R1=(flat E (l.take k)).toArray++aK E.z.cells (l.length+1-k)++aK E.z.cells (G-(l.length+1)):=⟨_,rfl⟩;rw [<- PV] at happ;have hs0:R1.size=G * E.n:=by
  rw [PV];simp only [Array.size_append,Z,size_zeroCells,K.zs,dh K,L,J (Nat.le_of_lt hk),<- aA];rw [show k+(l.length+1-k)+(G-(l.length+1))=G by omega]
 have hh:R1.toList.take (k * E.n)=flat E (l.take k):=by
  rw [PV];simp only [Array.toList_append,O];have e:(flat E (l.take k)).length=k * E.n:=by rw [dh K,L,J (by omega)]
  rw [<- e];simp
 have q1:(flat E [c]).length=1 * E.n:=by rw [dh K]; rfl
 have q0:(R1.toList.take (k * E.n)).length=k * E.n:=by
  rw [hh,dh K,L,J (by omega)]
 have hs2:(R1.toList.take (k * E.n)++flat E [c]++R1.toList.drop ((k+[c].length) * E.n)).length=G * E.n:=by
  have h1:(k+1) * E.n<=G * E.n:=D _ (by omega);have h2:(k+1) * E.n=k * E.n+1 * E.n:=aA ..;simp only [X,q0,q1,aj,aC,hs0,List.length_singleton];omega
 refine⟨G,R1,(R1.toList.take (k * E.n)++flat E [c]++R1.toList.drop ((k+[c].length) * E.n)).toArray,
  ((R1.toList.take (k * E.n)++flat E [c]++R1.toList.drop ((k+[c].length) * E.n)).take ((k+1) * E.n)++flat E (l.drop k)++(R1.toList.take (k * E.n)++flat E [c]++R1.toList.drop ((k+[c].length) * E.n)).drop ((k+1+(l.drop k).length) * E.n)).toArray,hG1,hG2,?_,?_,?_,?_⟩
 ·intro ty;have h:=happ ty;rw [show ((l.length+1-k:Nat):Int)=(l.length:Int)+1-k by omega] at h;exact h
 ·intro w ty nd dc hb' hx hc hn;have h:=nP K (o:=k) (m:=[c]) (nd:=nd) (cd:=dc) (ns:=1) (sc:=1) hb' (kH hx hc) (by simp; omega) (by rw [hs0]; exact D _ (by simp; omega)) ty;simpa using h
 ·intro w ty nd dc ns sc hb' hx hm;have h:=nP K (o:=k+1) (m:=l.drop k) (nd:=nd) (cd:=dc) (ns:=ns) (sc:=sc) hb' (nO K hx ht k) (by rw [hkl]; exact hm) (by rw [hkl,Z,hs2]; exact D _ (by omega)) ty;rw [hkl] at h ⊢;exact h
 ·intro w B hB hb';have p2:(R1.toList.take (k * E.n)++flat E [c]++R1.toList.drop ((k+[c].length) * E.n)).take ((k+1) * E.n)=flat E (l.take k)++flat E [c]:=by
   have e:(R1.toList.take (k * E.n)++flat E [c]).length=(k+1) * E.n:=by rw [X,q0,q1,<- aA]
   rw [<- e,aP,hh]
  have e:flat E (l.take k)++flat E [c]++flat E (l.drop k)=flat E (l.take k++c::l.drop k):=by
   rw [eG,show c::l.drop k=[c]++l.drop k from rfl,eG,O]
  have ln:(l.take k++c::l.drop k).length=l.length+1:=by simp; omega
  have q:(flat E (l.take k)++flat E [c]++flat E (l.drop k)).length=(l.length+1) * E.n:=by rw [e,dh K,ln]
  refine jf K ln.symm hB hb' hG1 hG2 ?_ ?_
  ·rw [Z,p2,X,q,aj,hs2,hkl];have h1:(l.length+1) * E.n<=G * E.n:=D _ hG1;rw [show k+1+(l.length-k)=l.length+1 by omega];omega
  ·rw [p2];exact (aN q).trans e
end
theorem fD {P:Program} {ops:Array Oper} {rest:List Oper} {o:Oper} {a:Act} {Q:Exit->Act->ah->Prop} {w w':ah} (hgd:o.guard=ay) (s x:Operand) (t t':aB)
  (ho:o.op=.call { callee:=.builtin .append,args:=#[s,x],argTypes:=#[t,t'] }) {v xv v':au} (hs:a.eval s=v) (hx:a.eval x=xv) (hr:(aO #[t,t'] o.type #[v,xv]).run P w=.ok v' w')
  (h:wpList P ops Q rest (a.put o.dst v') w'):wpList P ops Q (o::rest) a w:=by
 refine wpList_plain hgd fun K hK=>?_;unfold Oper.wp execOp;simp only [ho,resolve,invoke,builtin,Sem.run_bind,Sem.run_pure,Result.andThen_ok,aM,aS,aV,hs,hx,hr];exact hK _ _ h
theorem eZ {P:Program} {ops:Array Oper} {o:Oper} {a:Act} {w w':ah} {K:Act->ah->Prop} {Q:Exit->Act->ah->Prop} {E:Prop}
  (hg:o.guard=ay) (s x:Operand) (t:aB) (hop:o.op=.call { callee:=.builtin .copy,args:=#[s,x],argTypes:=#[t,t] }) {v xv v':au} (hs:a.eval s=v) (hx:a.eval x=xv)
  (hr:(Y #[t,t] o.type #[v,xv]).run P w=.ok v' w') (hK:K (a.put o.dst v') w') :
  if Region.wanted o (yielded ops a.tmps)=true then Oper.wp P o a w K Q else E:=by
 have hw:Region.wanted o (yielded ops a.tmps)=true:=by simp [Region.wanted,hg]
 rw [if_pos hw];unfold Oper.wp execOp;simp only [hop,resolve,invoke,builtin,Sem.run_bind,Sem.run_pure,Result.andThen_ok,aM,aS,aV,hs,hx,hr];exact hK
end Rw
namespace Nm
def hor (l:List UInt8):Int:=l.foldl (fun h b=>h * 256+(b.toNat:Int)) 0
def rV (l:List UInt8):Int:=IntKind.i64.wrap (hor l)
end Nm
end Go.Proofs.YtghlpefopidlaaaGreat
