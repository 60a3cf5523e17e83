/-
  Rows of elements of . Conditions as told.
-/
import Derived.Test.YtmklifheakemeaaGreatBQ000
import Derived.Lib.AppendZerosOnto
import Derived.Lib.Overlaps
import Derived.Deep.RegionLaw
import Derived.Laws.Externs
import Derived.Test.YtmklifheakemeaaGreatBQ001
set_option maxRecDepth 100000
set_option maxHeartbeats 64000000
open _root_.Array renaming length_toList->aD
open _root_.Bool renaming and_eq_true->aH,true->aP,false->bg
open _root_.Go renaming World->aj,TypeId->au,Value->aA
open Go.Builtin renaming copy_->Y,firstCells->aL,zeroCells->aN,append_->aR
open Go.Proofs.Tryz renaming prog->U
open Go.Value renaming slice->V,int->aX
open _root_.List renaming length_take->L,append_assoc->O,length_append->X,size_toArray->Z,length_drop->ah,getElem?_take->aF,pairwise_cons->aG,take_of_length_le->aI,drop_of_length_le->aJ,take_append_drop->aK,map_toArray->aO,take_left'->aQ,take_left->aS,take_take->aT,map_cons->aV,mem_cons->aW,map_nil->bf
open _root_.Nat renaming mul_le_mul_right->D,min_eq_left->J,add_mul->aB,add_zero->aM,mul_le_mul->aU,le_total->aY,le_trans->aZ
open _root_.Option renaming some->ak,none->ay
open Option.some renaming inj->aC
namespace Go.Proofs.YtmklifheakemeaaGreat
namespace Rw
open Go.RowKit
variable {α:Type} {E:Ek α}
theorem below_setRow {B g:Nat} {W w:aj} (h:Below B W w) (hB:B<=g) (cs:Array aA):Below B W (w.setRow g cs) :=
 ⟨h.os,h.tape,h.output,by simp [World.setRow]; exact h.size,fun k hk=>by
  have hne:g≠k:=by omega
  have h2:=h.block k hk;simp [World.setRow,Array.getElem?_modify,hne,h2]⟩
theorem dJ.set {w:aj} {g:Nat} {cur:Array aA} {t:au} (h:dJ w g cur t) (cs:Array aA):dJ (w.setRow g cs) g cs t:=setRow_heap w g cur cs t (0,0) h
theorem dJ.other {w:aj} {g b:Nat} {cur:Array aA} {t:au} (h:dJ w b cur t) (hne:b≠g) (cs:Array aA):dJ (w.setRow g cs) b cur t:=(setRow_other w g b cs hne).trans h
theorem dJ.drew {w:aj} {b:Nat} {cur:Array aA} {t:au} (h:dJ w b cur t):dJ w.drew b cur t:=h
theorem dJ.shape {w:aj} {b:Nat} {cur:Array aA} {t:au} (h:dJ w b cur t):w.shape? b=ak (t,cur.size):=by
 unfold dJ at h;simp [World.shape?,h]
theorem gK {W:aj} {B:Nat} {v:aA} {l:List α} (h:Own E W B v l):(v=V ay 0 0/\l=[])\/∃ g cap cur,v=V (ak ⟨g,0,ay⟩) l.length cap/\B<=g/\dJ W g cur E.t/\l.length<=cap/\cap<=maxLen/\cur.size=cap * E.n/\cur.toList.take (l.length * E.n)=flat E l:=by
 rcases h.2 with⟨h1,h2⟩|⟨g,cap,cur,h1,h2,h3,h4,h5,h6,h7⟩
 ·exact Or.inl ⟨h1,List.eq_nil_of_length_eq_zero h2⟩
 ·exact Or.inr ⟨g,cap,cur,h1,h2,h3,h4,h5,h6,h7⟩
theorem qB (K:E.Ok) {W:aj} {B g cap n:Nat} {cur:Array aA} {l:List α} (hn:n=l.length) (hB:B<=g) (hb:dJ W g cur E.t) (h1:n<=cap) (h2:cap<=maxLen) (h3:cur.size=cap * E.n) (h4:cur.toList.take (n * E.n)=flat E l):Own E W B (V (ak ⟨g,0,ay⟩) n cap) l:=by
 subst hn;exact⟨eG K l,Or.inr ⟨g,cap,cur,rfl,hB,hb,h1,h2,h3,h4⟩⟩
theorem tJ (K:E.Ok) (l:List α) (k:Nat):(flat E l).take (k * E.n)=flat E (l.take k):=by
 rcases aY k l.length with h|h
 ·conv=>lhs; rw [<- aK k l,gU]
  have e:(flat E (l.take k)).length=k * E.n:=by rw [eG K,L,J h]
  rw [<- e,aS]
 ·rw [aI h,aI];rw [eG K];exact D _ h
theorem Pn (K:E.Ok) (l:List α) (k:Nat):(flat E l).drop (k * E.n)=flat E (l.drop k):=by
 rcases aY k l.length with h|h
 ·conv=>lhs; rw [<- aK k l,gU]
  have e:(flat E (l.take k)).length=k * E.n:=by rw [eG K,L,J h]
  rw [<- e,List.drop_left]
 ·rw [aJ h,aJ]
  ·rfl
  rw [eG K];exact D _ h
theorem Gm (K:E.Ok) {W:aj} {g:Nat} {cur:Array aA} {t:au} {l:List α} (hb:dJ W g cur t) (ht:cur.toList.take (l.length * E.n)=flat E l) (k:Nat):∀ j u,(flat E (l.drop k))[j]?=ak u->W.cell? ((⟨g,k * E.n,ay⟩:Addr).add j)=ak u:=by
 intro j u hj;rw [Addr.add_lit,hb.cell];rw [<- Pn K,List.getElem?_drop,<- ht,aF] at hj
 split at hj
 ·simpa using hj
 ·cases hj
theorem tK {W:aj} {b:Nat} {cs:Array aA} {t:au} {x:α} (hb:dJ W b cs t) (hc:cs.toList=E.cells x):∀ j u,(flat E [x])[j]?=ak u->W.cell? ((⟨b,0,ay⟩:Addr).add j)=ak u:=by
 intro j u hj;rw [nR,hb.cell];rw [O6,<- hc] at hj;simpa using hj
theorem gX (K:E.Ok) (g k len cap:Nat) (h:k<=len) (hc:k<cap) (w:aj):(Instr.sliceAt E.ts (V (ak ⟨g,0,ay⟩) len cap) (ak (aX .i64 k)) ay ay).run U w=.ok (V (ak ⟨g,k * E.n,ay⟩) (len-k) (cap-k)) w:=by
 rw [FZ K ⟨g,0,ay⟩ k len cap h w,if_neg (by omega),nR]
theorem vR (K:E.Ok) {w:aj} {g o nd cd ns sc:Nat} {a:Addr} {cur:Array aA} {m:List α} (hb:dJ w g cur E.t) (hm:∀ j u,(flat E m)[j]?=ak u->w.cell? (a.add j)=ak u) (hk:min ns nd=m.length) (hr:(o+m.length) * E.n<=cur.size) (ty:au) :
  (Y #[E.ts,E.ts] ty #[V (ak ⟨g,o * E.n,ay⟩) nd cd,V (ak a) ns sc]).run U w=.ok (aX .i64 m.length) (w.setRow g (cur.toList.take (o * E.n)++flat E m++cur.toList.drop ((o+m.length) * E.n)).toArray):=by
 obtain⟨i,i1,i2,i3,i4⟩:=K.info;have hl:=run_loadCells_list (P:=U) w a (flat E m) hm;have hst:=run_storeCells_at U g (o * E.n) E.t (flat E m) 0 cur w hb (by rw [eG K,aM,<- aB]; exact hr) (qw K m);rw [eG K] at hl;have e:o * E.n+0+(flat E m).length=(o+m.length) * E.n:=by rw [eG K,aM,aB]
 rw [e,aM] at hst;simp [Y,run_underlying K.hu,Builtin.lenOf,aL,sizeOf,typeInfo,i1,i3,hk,hl,goInt];simpa using congrArg (fun r=>r.andThen fun _ w=>Result.ok (aX .i64 m.length) w) hst
/-! ### one element more, in the middle -/
section
variable {l:List α} {k cap:Nat} {cur cs:Array aA} {c:α}
theorem tL (K:E.Ok) (hk:k<l.length) (hcap:l.length+1<=cap) (hsz:cur.size=cap * E.n) (ht:cur.toList.take (l.length * E.n)=flat E l) (g b:Nat) (_hne:b≠g) :
  ∃ R1 R2:Array aA,
   (∀ (W:aj) (ty:au) (nd dc ns sc:Nat),dJ W g cur E.t->min ns nd=l.length-k->(Y #[E.ts,E.ts] ty #[V (ak ⟨g,(k+1) * E.n,ay⟩) nd dc,V (ak ⟨g,k * E.n,ay⟩) ns sc]).run U W=.ok (aX .i64 ((l.length-k:Nat):Int)) (W.setRow g R1)) /\
   (∀ (W:aj) (ty:au) (nd dc:Nat),dJ W g R1 E.t->dJ W b cs E.t->cs.toList=E.cells c->1<=nd->(Y #[E.ts,E.ts] ty #[V (ak ⟨g,k * E.n,ay⟩) nd dc,V (ak ⟨b,0,ay⟩) 1 1]).run U W=.ok (aX .i64 1) (W.setRow g R2)) /\
   (∀ (W:aj) (B:Nat),B<=g->cap<=maxLen->dJ W g R2 E.t->Own E W B (V (ak ⟨g,0,ay⟩) (l.length+1) cap) (l.take k++c::l.drop k)):=by
 have hkl:(l.drop k).length=l.length-k:=by simp
 have hs1:(cur.toList.take ((k+1) * E.n)++flat E (l.drop k)++cur.toList.drop ((k+1+(l.drop k).length) * E.n)).length=cap * E.n:=by
  have h1:(k+1) * E.n<=cap * E.n:=D _ (by omega);have h2:(k+1+(l.drop k).length) * E.n<=cap * E.n:=D _ (by omega);simp only [X,L,ah,aD,eG K,hsz];rw [J h1];have h3:(k+1+(l.drop k).length) * E.n=(k+1) * E.n+(l.drop k).length * E.n:=aB ..;simp only [ah] at h2 h3 ⊢;omega
 refine⟨(cur.toList.take ((k+1) * E.n)++flat E (l.drop k)++cur.toList.drop ((k+1+(l.drop k).length) * E.n)).toArray,
  ((cur.toList.take ((k+1) * E.n)++flat E (l.drop k)++cur.toList.drop ((k+1+(l.drop k).length) * E.n)).take (k * E.n)++flat E [c]++(cur.toList.take ((k+1) * E.n)++flat E (l.drop k)++cur.toList.drop ((k+1+(l.drop k).length) * E.n)).drop ((k+1) * E.n)).toArray,?_,?_,?_⟩
 ·intro W ty nd dc ns sc hb hm;have h:=vR K (o:=k+1) (m:=l.drop k) (nd:=nd) (cd:=dc) (ns:=ns) (sc:=sc) hb (Gm K hb ht k) (by rw [hkl]; exact hm) (by rw [hkl,hsz]; exact D _ (by omega)) ty;rw [hkl] at h ⊢;exact h
 ·intro W ty nd dc hb hx hc hn;have h:=vR K (o:=k) (m:=[c]) (nd:=nd) (cd:=dc) (ns:=1) (sc:=1) hb (tK hx hc) (by simp; omega) (by rw [Z,hs1]; exact D _ (by simp; omega)) ty;simpa using h
 ·intro W B hB hm hb;have p1:(cur.toList.take ((k+1) * E.n)).length=(k+1) * E.n:=by
   rw [L,aD,hsz];exact J (D _ (by omega))
  have p2:(cur.toList.take ((k+1) * E.n)++flat E (l.drop k)++cur.toList.drop ((k+1+(l.drop k).length) * E.n)).take (k * E.n)=flat E (l.take k):=by
   rw [O,List.take_append_of_le_length (by rw [p1]; exact D _ (by omega)),aT,J (D _ (by omega)),<- tJ K,<- ht,aT,J (D _ (by omega))]
  have p3:(cur.toList.take ((k+1) * E.n)++flat E (l.drop k)++cur.toList.drop ((k+1+(l.drop k).length) * E.n)).drop ((k+1) * E.n)=flat E (l.drop k)++cur.toList.drop ((k+1+(l.drop k).length) * E.n):=by
   rw [O,List.drop_left' p1]
  have e:flat E (l.take k)++flat E [c]++flat E (l.drop k)=flat E (l.take k++c::l.drop k):=by
   rw [gU,show c::l.drop k=[c]++l.drop k from rfl,gU,O]
  have ln:(l.take k++c::l.drop k).length=l.length+1:=by simp; omega
  have q:(flat E (l.take k)++flat E [c]++flat E (l.drop k)).length=(l.length+1) * E.n:=by rw [e,eG K,ln]
  refine qB K ln.symm hB hb hcap hm ?_ ?_
  ·rw [Z,p2,p3,<- O,X,q,ah,show cur.toList.length=cap * E.n from Array.length_toList.trans hsz,hkl];have h1:(l.length+1) * E.n<=cap * E.n:=D _ hcap;rw [show k+1+(l.length-k)=l.length+1 by omega];omega
  ·rw [p2,p3,<- O];exact (aQ q).trans e
theorem vS (K:E.Ok) (tn:au) (htn:Tryz.prog.underlying tn=ak (.int .i64)) (hk:k<l.length) (hl:l.length<=1000) (hcap:cap<l.length+1) (hlc:l.length<=cap) (ht:cur.toList.take (l.length * E.n)=flat E l) (W:aj) (g b:Nat) (hb:dJ W g cur E.t) (_hbW:b<W.heap.size) :
  ∃ (G:Nat) (R1 R2 R3:Array aA),l.length+1<=G/\G<=maxLen /\
   (∀ ty,(aR #[E.ts,tn] ty #[V (ak ⟨g,0,ay⟩) k cap,aX .i64 ((l.length:Int)+1-k)]).run U W=.ok (V (ak ⟨W.heap.size,0,ay⟩) (l.length+1) G) (W.drew.alloc (.cells R1 E.t))) /\
   (∀ (w:aj) (ty:au) (nd dc:Nat),dJ w W.heap.size R1 E.t->dJ w b cs E.t->cs.toList=E.cells c->1<=nd->(Y #[E.ts,E.ts] ty #[V (ak ⟨W.heap.size,k * E.n,ay⟩) nd dc,V (ak ⟨b,0,ay⟩) 1 1]).run U w=.ok (aX .i64 1) (w.setRow W.heap.size R2)) /\
   (∀ (w:aj) (ty:au) (nd dc ns sc:Nat),dJ w W.heap.size R2 E.t->dJ w g cur E.t->min ns nd=l.length-k->(Y #[E.ts,E.ts] ty #[V (ak ⟨W.heap.size,(k+1) * E.n,ay⟩) nd dc,V (ak ⟨g,k * E.n,ay⟩) ns sc]).run U w=.ok (aX .i64 ((l.length-k:Nat):Int)) (w.setRow W.heap.size R3)) /\
   (∀ (w:aj) (B:Nat),B<=W.heap.size->dJ w W.heap.size R3 E.t->Own E w B (V (ak ⟨W.heap.size,0,ay⟩) (l.length+1) G) (l.take k++c::l.drop k)):=by
 obtain⟨i,i1,i2,i3,i4⟩:=K.info;have hf:=K.few;have hpos:=K.pos;have hkl:(l.drop k).length=l.length-k:=by simp
 have hold:(aL i.size k (V (ak ⟨g,0,ay⟩) k cap)).run U W.drew=.ok (flat E (l.take k)).toArray W.drew :=
  run_firstCells_some (P:=U) (w:=W.drew) i.size k ⟨g,0,ay⟩ k cap (flat E (l.take k)) (by rw [eG K,L,J (by omega),i3]) (fun j u hj=>by
   rw [nR];show W.cell? _=_;rw [hb.cell];rw [<- tJ K,<- ht,aF] at hj
   split at hj
   ·rw [aF] at hj
    split at hj
    ·simpa using hj
    ·cases hj
   ·cases hj)
 have happ:=fun ty=>Lib.run_append_grow_zeros (P:=U) W E.ts tn ty E.t i _ .i64 .i64 K.hu htn i1 i2 (ak ⟨g,0,ay⟩) k cap (flat E (l.take k)) hold (l.length+1-k) (by omega) (by rw [i3]; exact hpos) (by omega) (by omega)
  (by rw [i4]; exact aZ (aU (show l.length+1-k<=2000 by omega) hf) (by decide))
  (growslice_fits (by omega) (by rw [i4]; exact aZ (aU (show k+(l.length+1-k)<=2000 by omega) hf) (by decide)))
 rw [show k+(l.length+1-k)=l.length+1 by omega] at happ;have hG1:=grownCap_ge W (l.length+1) cap E.t;have hG2:=grownCap_le_maxLen W (l.length+1) cap E.t (by unfold maxLen; omega);generalize grownCap W (l.length+1) cap E.t=G at happ hG1 hG2;obtain⟨R1,hR1⟩:∃ R1:Array aA,R1=(flat E (l.take k)).toArray++aN E.z.cells (l.length+1-k)++aN E.z.cells (G-(l.length+1)):=⟨_,rfl⟩;rw [<- hR1] at happ;have hs0:R1.size=G * E.n:=by
  rw [hR1];simp only [Array.size_append,Z,size_zeroCells,K.zs,eG K,L,J (Nat.le_of_lt hk),<- aB];rw [show k+(l.length+1-k)+(G-(l.length+1))=G by omega]
 have hh:R1.toList.take (k * E.n)=flat E (l.take k):=by
  rw [hR1];simp only [Array.toList_append,O];have e:(flat E (l.take k)).length=k * E.n:=by rw [eG K,L,J (by omega)]
  rw [<- e];simp
 have q1:(flat E [c]).length=1 * E.n:=by rw [eG K]; rfl
 have q0:(R1.toList.take (k * E.n)).length=k * E.n:=by
  rw [hh,eG K,L,J (by omega)]
 have hs2:(R1.toList.take (k * E.n)++flat E [c]++R1.toList.drop ((k+[c].length) * E.n)).length=G * E.n:=by
  have h1:(k+1) * E.n<=G * E.n:=D _ (by omega);have h2:(k+1) * E.n=k * E.n+1 * E.n:=aB ..;simp only [X,q0,q1,ah,aD,hs0,List.length_singleton];omega
 refine⟨G,R1,(R1.toList.take (k * E.n)++flat E [c]++R1.toList.drop ((k+[c].length) * E.n)).toArray,
  ((R1.toList.take (k * E.n)++flat E [c]++R1.toList.drop ((k+[c].length) * E.n)).take ((k+1) * E.n)++flat E (l.drop k)++(R1.toList.take (k * E.n)++flat E [c]++R1.toList.drop ((k+[c].length) * E.n)).drop ((k+1+(l.drop k).length) * E.n)).toArray,hG1,hG2,?_,?_,?_,?_⟩
 ·intro ty;have h:=happ ty;rw [show ((l.length+1-k:Nat):Int)=(l.length:Int)+1-k by omega] at h;exact h
 ·intro w ty nd dc hb' hx hc hn;have h:=vR K (o:=k) (m:=[c]) (nd:=nd) (cd:=dc) (ns:=1) (sc:=1) hb' (tK hx hc) (by simp; omega) (by rw [hs0]; exact D _ (by simp; omega)) ty;simpa using h
 ·intro w ty nd dc ns sc hb' hx hm;have h:=vR K (o:=k+1) (m:=l.drop k) (nd:=nd) (cd:=dc) (ns:=ns) (sc:=sc) hb' (Gm K hx ht k) (by rw [hkl]; exact hm) (by rw [hkl,Z,hs2]; exact D _ (by omega)) ty;rw [hkl] at h ⊢;exact h
 ·intro w B hB hb';have p2:(R1.toList.take (k * E.n)++flat E [c]++R1.toList.drop ((k+[c].length) * E.n)).take ((k+1) * E.n)=flat E (l.take k)++flat E [c]:=by
   have e:(R1.toList.take (k * E.n)++flat E [c]).length=(k+1) * E.n:=by rw [X,q0,q1,<- aB]
   rw [<- e,aS,hh]
  have e:flat E (l.take k)++flat E [c]++flat E (l.drop k)=flat E (l.take k++c::l.drop k):=by
   rw [gU,show c::l.drop k=[c]++l.drop k from rfl,gU,O]
  have ln:(l.take k++c::l.drop k).length=l.length+1:=by simp; omega
  have q:(flat E (l.take k)++flat E [c]++flat E (l.drop k)).length=(l.length+1) * E.n:=by rw [e,eG K,ln]
  refine qB K ln.symm hB hb' hG1 hG2 ?_ ?_
  ·rw [Z,p2,X,q,ah,hs2,hkl];have h1:(l.length+1) * E.n<=G * E.n:=D _ hG1;rw [show k+1+(l.length-k)=l.length+1 by omega];omega
  ·rw [p2];exact (aQ q).trans e
end
theorem je {P:Program} {ops:Array Oper} {rest:List Oper} {o:Oper} {a:Act} {Q:Exit->Act->aj->Prop} {w w':aj} (hgd:o.guard=ay) (s x:Operand) (t t':au)
  (ho:o.op=.call { callee:=.builtin .append,args:=#[s,x],argTypes:=#[t,t'] }) {v xv v':aA} (hs:a.eval s=v) (hx:a.eval x=xv) (hr:(aR #[t,t'] o.type #[v,xv]).run P w=.ok v' w')
  (h:wpList P ops Q rest (a.put o.dst v') w'):wpList P ops Q (o::rest) a w:=by
 refine wpList_plain hgd fun K hK=>?_;unfold Oper.wp execOp;simp only [ho,resolve,invoke,builtin,Sem.run_bind,Sem.run_pure,Result.andThen_ok,aO,aV,bf,hs,hx,hr];exact hK _ _ h
theorem iX {P:Program} {ops:Array Oper} {o:Oper} {a:Act} {w w':aj} {K:Act->aj->Prop} {Q:Exit->Act->aj->Prop} {E:Prop}
  (hg:o.guard=ay) (s x:Operand) (t:au) (hop:o.op=.call { callee:=.builtin .copy,args:=#[s,x],argTypes:=#[t,t] }) {v xv v':aA} (hs:a.eval s=v) (hx:a.eval x=xv)
  (hr:(Y #[t,t] o.type #[v,xv]).run P w=.ok v' w') (hK:K (a.put o.dst v') w') :
  if Region.wanted o (yielded ops a.tmps)=aP then Oper.wp P o a w K Q else E:=by
 have hw:Region.wanted o (yielded ops a.tmps)=aP:=by simp [Region.wanted,hg]
 rw [if_pos hw];unfold Oper.wp execOp;simp only [hop,resolve,invoke,builtin,Sem.run_bind,Sem.run_pure,Result.andThen_ok,aO,aV,bf,hs,hx,hr];exact hK
end Rw
namespace Rl
open Go.RowKit Pu Pr
abbrev An:=ByteArray×V3
def has (m:List Cn) (n:ByteArray):Bool:=m.any fun x=>decide (x.1=n)
def sD (a b:List Cn):Bool:=match jW a.length a b with
 | .ok _=>aP
 | .error _=>bg
theorem Po {c:Cn} {r:List Cn} (h:jN (c::r)):∀ y∈r,y.1≠c.1:=fun y hy e=>Md ((aG.1 h).1 y hy) e.symm
theorem zB:∀ (m:List Cn) (c:Cn) (m':List Cn),jN m->nZ m c=ak m'->m'.length=m.length+(if has m c.1 then 0 else 1)
 | [],c,m',_,h=>by
  obtain rfl:=aC h
  rfl
 | x::r,c,m',hr,h=>by
  obtain⟨h1,h2⟩:=aG.1 hr;simp only [nZ] at h
  split at h
  ·rename_i hl
   cases hi:nZ r c with
   | none=>rw [hi] at h; cases h
   | some n =>
    rw [hi] at h;obtain rfl:=aC h;have e:=zB r c n h2 hi;have hx:has (x::r) c.1=has r c.1:=by simp [has,Md hl]
    rw [hx];simp only [List.length_cons];omega
  ·rename_i hl
   split at h
   ·rename_i he
    cases hb:fE x.2 c.2 with
    | none=>rw [hb] at h; cases h
    | some k =>
     rw [hb] at h;obtain rfl:=aC h;have hx:has (x::r) c.1=aP:=by simp [has,he]
     rw [hx]
     rfl
   ·rename_i he
    obtain rfl:=aC h;have hx:has (x::r) c.1=bg:=by
     simp only [has,List.any_cons,Bool.or_eq_false_iff,decide_eq_false_iff_not,List.any_eq_false,decide_eq_true_eq];refine⟨he,fun y hy e=>?_⟩;have h3:=h1 y hy;rw [e] at h3;exact hl h3
    rw [hx]
    rfl
/-! ### match -/
theorem ad8 {l:List Cn} (h:jN l) {x y:Cn} (hx:x∈l) (hy:y∈l) (e:x.1=y.1):x=y:=by
 induction l with
 | nil=>cases hx
 | cons z r ih =>
  have h1:=Po h;have h2:=(aG.1 h).2;rcases aW.1 hx with rfl|hx2 <;> rcases aW.1 hy with rfl|hy2
  ·rfl
  ·exact absurd e.symm (h1 y hy2)
  ·exact absurd e (h1 x hx2)
  ·exact ih h2 hx2 hy2
/-! ### cover -/
def eU:Kd->Kd->Bool
 | .rg p q,.rg r s=>decide (r<=p) && decide (q<=s)
 | .tx s,.tx t=>s.data.toList == t.data.toList
 | .tx s,.pr t=>pfx t s
 | .pr s,.pr t=>pfx t s
 | _,_=>bg
theorem uH (a b:Kd) (h:eU a b=aP) (v:V3) (hv:eH a v=aP):eH b v=aP:=by
 obtain⟨t,n,u⟩:=v;cases a <;> cases b <;> simp only [eU,aH,decide_eq_true_eq,beq_iff_eq] at h <;> simp only [eH,aH,decide_eq_true_eq,beq_iff_eq] at hv ⊢
 ·exact⟨hv.1,by omega,by omega⟩
 ·cases h
 ·cases h
 ·cases h
 ·exact⟨hv.1,hv.2.trans h⟩
 ·exact⟨hv.1,by rw [fV,hv.2,<- fV]; exact h⟩
 ·cases h
 ·cases h
 ·exact⟨hv.1,(fV _ _).2 (((fV _ _).1 h).trans ((fV _ _).1 hv.2))⟩
theorem Cg (a b:Kd) (ha:iO a=aP) (h:∀ v,eH a v=aP->eH b v=aP):eU a b=aP:=by
 cases a with
 | rg p q =>
  simp only [iO,decide_eq_true_eq] at ha;have h1:=h (bg,p,⟨#[]⟩) (by rw [zq]; simp [ha]);have h2:=h (bg,q,⟨#[]⟩) (by rw [zq]; simp [ha]);cases b with
  | rg r s =>
   rw [zq] at h1 h2;simp only [aH,decide_eq_true_eq] at h1 h2;simp [eU,h1.1,h2.2]
  | tx t=>simp [eH] at h1
  | pr t=>simp [eH] at h1
 | tx s =>
  have h1:=h (aP,0,s) (by rw [mV]; simp);cases b with
  | rg r t=>rw [tF] at h1; cases h1
  | tx t=>rw [mV] at h1; exact h1
  | pr t=>rw [lJ] at h1; exact h1
 | pr s =>
  have h1:=h (aP,0,s) (by rw [lJ]; exact nY s);cases b with
  | rg r t=>rw [tF] at h1; cases h1
  | tx t =>
   have h2:=h (aP,0,more s) (by rw [lJ]; exact Gc s);rw [mV,beq_iff_eq] at h1 h2;rw [<- h1] at h2;have h3:=congrArg List.length h2;simp [more] at h3
  | pr t=>rw [lJ] at h1; exact h1
def o8 (a b:List Cn):Bool:=a.all fun x=>b.any fun y=>decide (y.1=x.1) && eU y.2 x.2
end Rl
end Go.Proofs.YtmklifheakemeaaGreat
