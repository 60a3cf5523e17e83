/-
  An append and a call. Conditions as told.
-/
import Derived.Test.YtghlpefopidlaaaGreatOQ000
import Derived.Deep.RegionLaw
import Derived.Orders
set_option maxRecDepth 100000
set_option maxHeartbeats 64000000
open _root_.Array renaming getD->ah,getElem?_eq_some_iff->ak,getElem?_eq_getElem->ay,all_eq_true'->aI,replicate->aL
open _root_.Bool renaming true->aj,false->aN
open _root_.Go renaming World->J,Value->X,Operand->Y,Act->aD,TypeId->aH
open Go.Oper renaming wp->aG,upon_enter->aK,wp_mono->aM
open Go.Region renaming wanted->O,binds->U,ready->aJ
open Go.Result renaming andThen->au
open _root_.Nat renaming lt_or_ge->Z,le_refl->aF,not_lt->aO
open _root_.Option renaming some->aB
open _root_.Or renaming inl->aA,inr->aC
namespace Go.Proofs.YtghlpefopidlaaaGreat
namespace Rw
open Go.RowKit
theorem nN {P:Program} {ops:Array Oper} {o:Oper} {a:aD} {w w':J} {K:aD->J->Prop} {Q:Exit->aD->J->Prop} {E:Prop}
  (hg:o.guard=none) (s x:Y) (t:aH) (hop:o.op=.call { callee:=.builtin .append,args:=#[s,x],argTypes:=#[t,t] }) {v xv v':X} (hs:a.eval s=v) (hx:a.eval x=xv)
  (hr:(Builtin.append_ #[t,t] o.type #[v,xv]).run P w=.ok v' w') (hK:K (a.put o.dst v') w') :
  if O o (yielded ops a.tmps)=aj then aG P o a w K Q else E:=by
 have hw:O o (yielded ops a.tmps)=aj:=by simp [O,hg]
 rw [if_pos hw];unfold aG execOp;simp only [hop,resolve,invoke,builtin,Sem.run_bind,Sem.run_pure,Result.andThen_ok,List.map_toArray,List.map_cons,List.map_nil,hs,hx,hr];exact hK
theorem lV {P:Program} {ops:Array Oper} {o:Oper} {a:aD} {w:J} {K:aD->J->Prop} {Q:Exit->aD->J->Prop} {E:Prop} {f:FuncId} {args:Array X} {R:Ending->J->Prop}
  (hg:o.guard=none) (hr:(execOp a.eval o).run P w=.ok (.enter f args) w) (hc:Calls P f args w R) (hR:∀ e w',R e w'->∃ v,e=.returned v/\K (a.put o.dst v) w') :
  if O o (yielded ops a.tmps)=aj then aG P o a w K Q else E:=by
 have hw:O o (yielded ops a.tmps)=aj:=by simp [O,hg]
 rw [if_pos hw];unfold aG;rw [hr,aK];refine hc.mono ?_;intro e w' h;obtain⟨v,rfl,hk⟩:=hR e w' h;exact hk
theorem fG {P : Program} {f : FuncId} {fn : Func} {c : Code} (hf : P.funcs[f]? = some fn) (hname : (fn.name == "runtime.NumGoroutine") = false) (hb : fn.body = some c) (args : Array Value) (w : World) : (callFunc f args).run P w = .ok (.enter f args) w := by
 have h1 : fn.name ≠ "runtime.NumGoroutine" := by simpa using hname
 simp [callFunc,hf,h1,hb]
theorem iq {P:Program} (ρ:Y->X) (o:Oper) (x:Y) (t:aH) (f:FuncId) (ho:o.op=.call { callee:=.value (.func f),args:=#[x],argTypes:=#[t] }) {v:X} (hx:ρ x=v) (hf:ρ (.func f)=.func (.func f) #[] #[]) (w:J)
  (hc:(callFunc f #[v]).run P w=.ok (.enter f #[v]) w):(execOp ρ o).run P w=.ok (.enter f #[v]) w:=by
 simp [execOp,ho,resolve,invoke,hx,hf,Deferred.ofValue,hc]
theorem nV {P:Program} (ρ:Y->X) (o:Oper) (x y:Y) (t s:aH) (f:FuncId) (ho:o.op=.call { callee:=.value (.func f),args:=#[x,y],argTypes:=#[t,s] }) {v u:X} (hx:ρ x=v) (hy:ρ y=u) (hf:ρ (.func f)=.func (.func f) #[] #[]) (w:J)
  (hc:(callFunc f #[v,u]).run P w=.ok (.enter f #[v,u]) w):(execOp ρ o).run P w=.ok (.enter f #[v,u]) w:=by
 simp [execOp,ho,resolve,invoke,hx,hy,hf,Deferred.ofValue,hc]
end Rw
namespace Rg
open Go.RowKit
def left (L:Array Bool):Nat:=L.toList.countP (fun b=>!b)
theorem JG (L:Array Bool) (i:Nat) (h:L.getD i aj=aN):left (L.setIfInBounds i aj)+1=left L:=by
 obtain⟨l⟩:=L;have hi:i<l.length:=by
  rcases Z i l.length with h0|h0
  ·exact h0
  ·exact absurd h (by simp [ah,aO.2 h0])
 have hv:l[i]=aN:=by simpa [ah,hi] using h
 unfold left;simp only [List.setIfInBounds_toArray];rw [List.countP_set hi,hv];have hp:0<l.countP (fun b=>!b):=List.countP_pos_iff.2 ⟨l[i],List.getElem_mem hi,by rw [hv]; rfl⟩;simp;omega
theorem Gx (L:Array Bool) (h:left L=0) (i:Nat):L.getD i aj=aj:=by
 obtain⟨l⟩:=L;unfold left at h;rw [List.countP_eq_zero] at h;rcases Z i l.length with h0|h0
 ·have:=h l[i] (List.getElem_mem h0);simp [ah,h0];simpa using this
 ·simp [ah,aO.2 h0]
def CK (ops:Array Oper):Bool:=(List.range ops.size).all fun i=>match ops[i]? with
 | some o=>o.after.all fun e=>!Region.binds .any e || decide (e.on<i)
 | none=>aj
def done (L:Array Bool) (i:Nat):Prop:=L.getD i aN=aj
theorem zZ {ops:Array Oper} (hf:CK ops=aj) {L:Array Bool} (hs:L.size=ops.size) (h:aJ .any ops L=[]):∀ n,n<=ops.size->∀ i,i<n->done L i:=by
 intro n
 induction n with
 | zero=>intro _ i hi; omega
 | succ n ih =>
  intro hn i hi;rcases Z i n with h1|h1
  ·exact ih (by omega) i h1
  ·obtain rfl:i=n:=by omega
   cases hd:L.getD i aj
   ·exfalso;have hm:i∈aJ .any ops L:=by
     rw [mem_ready];refine⟨hd,ops[i],ay (by omega),fun e he hbd=>?_⟩;have h2:=List.all_eq_true.1 hf i (List.mem_range.2 (by omega));rw [ay (by omega)] at h2;have h3:=aI.1 h2 e he;rw [hbd] at h3;exact ih (by omega) e.on (by simpa using h3)
    rw [h] at hm;cases hm
   ·unfold done;have hi2:i<L.size:=by omega
    simp [ah,hi2] at hd ⊢;exact hd
section
variable {P:Program} {ops:Array Oper} {Q:Exit->aD->J->Prop}
theorem CU (I:Array Bool->aD->J->Prop) (hf:CK ops=aj)
  (hstep:∀ L a w i o,L.size=ops.size->I L a w->ops[i]?=aB o->¬ done L i->(∀ e∈o.after,U .any e=aj->done L e.on)->wpOp P ops Q i (I (L.setIfInBounds i aj)) a w)
  (hend:∀ L a w,I L a w->(∀ i,i<ops.size->done L i)->Q .normal a w) :
  ∀ (fuel:Nat) (L:Array Bool) (a:aD) (w:J),L.size=ops.size->left L<=fuel->I L a w->wpAny P .any ops Q fuel L a w:=by
 intro fuel
 induction fuel with
 | zero =>
  intro L a w hs hl hI;have hr:aJ .any ops L=[]:=by
   rw [List.eq_nil_iff_forall_not_mem];intro i hi;have h1:=(mem_ready.1 hi).1;rw [Gx L (by omega) i] at h1;cases h1
  exact⟨hr,hend L a w hI (zZ hf hs hr ops.size (aF _))⟩
 | succ fuel ih =>
  intro L a w hs hl hI;refine⟨fun hr=>hend L a w hI (zZ hf hs hr ops.size (aF _)),fun i hi=>?_⟩;obtain⟨h1,o,h2,h3⟩:=mem_ready.1 hi;have hlt:i<ops.size:=(ak.1 h2).1;have hnd:¬ done L i:=by
   unfold done;have:i<L.size:=by omega
   simp [ah,this] at h1 ⊢;exact h1
  have hst:=hstep L a w i o hs hI h2 hnd (fun e he hb=>h3 e he hb);have hmono:∀ a' w',I (L.setIfInBounds i aj) a' w'->wpAny P .any ops Q fuel (L.setIfInBounds i aj) a' w':=fun a' w' h =>
   ih _ a' w' (by simpa using hs) (by have:=JG L i h1; omega) h
  unfold wpOp at hst ⊢;rw [h2] at hst ⊢;simp only at hst ⊢
  split at hst
  ·rename_i hw
   rw [if_pos hw];rcases hst with hst|hst
   ·exact aA (aM hmono hst)
   ·exact aC hst
  ·rename_i hw
   rw [if_neg hw];exact hmono _ _ hst
theorem ng (I:Array Bool->aD->J->Prop) {id:Nat} {a:aD} {w:J} {l:List Oper} (hm:P.follows .mixedOrders=aj) (hf:CK l.toArray=aj)
  (h0:I (aL l.length aN) a { w with drawn:=w.drawn+1 })
  (hstep:∀ L a w i o,L.size=l.length->I L a w->l[i]?=aB o->¬ done L i->(∀ e∈o.after,U .any e=aj->done L e.on)->wpOp P l.toArray Q i (I (L.setIfInBounds i aj)) a w)
  (hend:∀ L a w,I L a w->(∀ i,i<l.length->done L i)->Q .normal a w):(Code.region id l.toArray aj).wp P Q a w:=by
 refine wp_region_any hm (CU (ops:=l.toArray) I hf (fun L a w i o hs hI ho=>hstep L a w i o (by simpa using hs) hI (by simpa using ho)) (fun L a w hI hd=>hend L a w hI (by simpa using hd)) _ _ _ _ (by simp) ?_ (by simpa using h0));unfold left;have h2:=List.countP_le_length (p:=fun b:Bool=>!b) (l:=List.replicate l.length aN);simpa using h2
end
theorem fK {L:Array Bool} {i:Nat} (h:i<L.size) (j:Nat):done (L.setIfInBounds i aj) j↔j=i\/done L j:=by
 unfold done;by_cases e:j=i
 ·subst e; simp [ah,h]
 ·by_cases hj:j<L.size
  ·have h2:i≠j:=fun x=>e x.symm;simp [ah,hj,e,h2]
  ·simp [ah,hj,e]
theorem fP (n j:Nat):¬ done (aL n aN) j:=by
 unfold done;by_cases hj:j<n <;> simp [ah,hj]
theorem dw {P:Program} {ops:Array Oper} {Q:Exit->aD->J->Prop} {K:aD->J->Prop} {a:aD} {w w':J} {i:Nat} {o:Oper} {v:X}
  (ho:ops[i]?=aB o) (hg:o.guard=none) (hr:(execOp a.eval o).run P w=.ok (.value v) w') (h:K (a.put o.dst v) w'):wpOp P ops Q i K a w:=by
 unfold wpOp;rw [ho];have hw:O o (yielded ops a.tmps)=aj:=by simp [O,hg]
 simp only [hw,if_true];refine aA ?_;unfold aG;rw [hr];exact h
theorem Uf {P:Program} {s:Sem X} {w w':J} {v:X} (h:s.run P w=.ok v w'):(do pure (Next.value (<- s)):Sem Next).run P w=.ok (.value v) w':=by
 simp [go_sem,h]
theorem Gy {P:Program} (ρ:Y->X) (o:Oper) (s x:Y) (t:aH) (ho:o.op=.call { callee:=.builtin .append,args:=#[s,x],argTypes:=#[t,t] }) {v x' v':X} {w w':J}
  (hs:ρ s=v) (hx:ρ x=x') (hrun:(Builtin.append_ #[t,t] o.type #[v,x']).run P w=.ok v' w'):(execOp ρ o).run P w=.ok (.value v') w':=by
 simp [execOp,ho,resolve,invoke,builtin,hs,hx,hrun,au]
theorem kM {P:Program} (ρ:Y->X) (o:Oper) (t:aH) (x i:Y) (ho:o.op=.indexAddr t x i) {v:X} {w:J} (hr:(Instr.indexAt t (ρ x) (ρ i)).run P w=.ok v w) :
  (execOp ρ o).run P w=.ok (.value v) w:=by
 simp [execOp,ho,hr,au]
theorem eH {P:Program} (ρ:Y->X) (o:Oper) (t:aH) (x:Y) (ho:o.op=.load t x) {v:X} {w:J} (hr:(Instr.loadAt t (ρ x)).run P w=.ok v w) :
  (execOp ρ o).run P w=.ok (.value v) w:=by
 simp [execOp,ho,hr,au]
theorem qy {P:Program} (ρ:Y->X) (o:Oper) (t:aH) (n:Nat) (parts:Array (Nat×Y)) (ho:o.op=.buildSlice t n parts) {ps:Array (Nat×X)} (hp:parts.map (fun x=>(x.1,ρ x.2))=ps) {v:X} {w w':J} (hr:(Instr.buildSlice t n ps).run P w=.ok v w') :
  (execOp ρ o).run P w=.ok (.value v) w':=by
 subst hp;simp [execOp,ho,hr,au]
theorem iw {P:Program} (ρ:Y->X) (o:Oper) (x:Y) (ho:o.op=.move x) (w:J):(execOp ρ o).run P w=.ok (.value (ρ x)) w:=by
 simp [execOp,ho]
theorem mo {P:Program} (ρ:Y->X) (o:Oper) (x:Y) (ho:o.op=.assign x) (w:J):(execOp ρ o).run P w=.ok (.value (ρ x)) w:=by
 simp [execOp,ho]
theorem size_put (a:aD) (d:Nat) (v:X):(a.put (aB d) v).tmps.size=a.tmps.size:=by simp [Act.put]
theorem get_put (a:aD) (d:Nat) (v:X) (j:Nat) (hd:j≠d):(a.put (aB d) v).tmps[j]?=a.tmps[j]?:=by
 have h2:d≠j:=fun x=>hd x.symm;simp [Act.put,h2]
theorem dL {a:aD} {j:Nat} {v:X} (h:a.tmps[j]?=aB v):a.eval (.tmp j)=v:=by
 have h1:=(ak.1 h).1;have h2:=(ak.1 h).2;simp [Act.eval,ah,h1,h2]
theorem Nh {P:Program} {ops:Array Oper} {Q:Exit->aD->J->Prop} {K:aD->J->Prop} {a:aD} {w w':J} {i:Nat} {o:Oper}
  (ho:ops[i]?=aB o) (hg:o.guard=none) (hr:(execOp a.eval o).run P w=.ok .skip w') (h:K (a.put o.dst undef) w'):wpOp P ops Q i K a w:=by
 unfold wpOp;rw [ho];have hw:O o (yielded ops a.tmps)=aj:=by simp [O,hg]
 simp only [hw,if_true];refine aA ?_;unfold aG;rw [hr];exact h
theorem iC {a:aD} {bl:List X} (d0 m:Nat) (df:a.defers=[]) (sz:a.tmps.size=bl.length) (hle:d0+m<=bl.length) (kp:∀ j,(j<d0\/d0+m<=j)->a.tmps[j]?=bl[j]?) :
  ∃ mid:List X,mid.length=m/\a=⟨(bl.take d0++(mid++bl.drop (d0+m))).toArray,[]⟩:=by
 obtain⟨tmps,defers⟩:=a;have hd:defers=[]:=df;have hs:tmps.size=bl.length:=sz;have hk:∀ j,(j<d0\/d0+m<=j)->tmps[j]?=bl[j]?:=kp;subst hd;have hl:((tmps.toList.drop d0).take m).length=m:=by simp; omega
 refine⟨(tmps.toList.drop d0).take m,hl,congrArg (fun x=>(⟨x,[]⟩:aD)) ?_⟩;apply Array.ext_getElem?;intro j
 conv=>rhs; rw [List.getElem?_toArray]
 by_cases h1:j<d0
 ·rw [hk j (aA h1),List.getElem?_append_left (by simp; omega),List.getElem?_take,if_pos h1]
 ·have ht:(bl.take d0).length=d0:=by simp; omega
  rw [List.getElem?_append_right (by omega),ht];by_cases h2:j<d0+m
  ·rw [List.getElem?_append_left (by omega),List.getElem?_take,if_pos (by omega),List.getElem?_drop,Array.getElem?_toList,show d0+(j-d0)=j by omega]
  ·rw [hk j (aC (by omega)),List.getElem?_append_right (by omega),hl,List.getElem?_drop,show d0+m+(j-d0-m)=j by omega]
theorem gG {P:Program} {ops:Array Oper} {Q:Exit->aD->J->Prop} {K:aD->J->Prop} {a:aD} {w:J} {i:Nat} {o:Oper} {f:FuncId} {args:Array X} {R:Ending->J->Prop}
  (ho:ops[i]?=aB o) (hg:o.guard=none) (hr:(execOp a.eval o).run P w=.ok (.enter f args) w) (hc:Calls P f args w R) (hR:∀ e w',R e w'->∃ v,e=.returned v/\K (a.put o.dst v) w'):wpOp P ops Q i K a w:=by
 unfold wpOp;rw [ho];have hw:O o (yielded ops a.tmps)=aj:=by simp [O,hg]
 simp only [hw,if_true];refine aA ?_;unfold aG;rw [hr,aK];refine hc.mono ?_;intro e w' h;obtain⟨v,rfl,hk⟩:=hR e w' h;exact hk
theorem eD {P:Program} (ρ:Y->X) (o:Oper) (s:aH) (x:Y) (f:Nat) (ho:o.op=.fieldAddr s x f) {v:X} {w:J} (hr:(Instr.fieldAt s (ρ x) f).run P w=.ok v w):(execOp ρ o).run P w=.ok (.value v) w:=by
 unfold execOp;rw [ho];exact Uf hr
theorem wpOp_mono {P:Program} {ops:Array Oper} {Q:Exit->aD->J->Prop} {i:Nat} {K K':aD->J->Prop} {a:aD} {w:J} (h:∀ a w,K a w->K' a w) (hw:wpOp P ops Q i K a w):wpOp P ops Q i K' a w:=by
 unfold wpOp at hw ⊢;cases ho:ops[i]? with
 | none =>
  rw [ho] at hw;exact h _ _ hw
 | some o =>
  rw [ho] at hw;simp only at hw ⊢
  split at hw
  ·rename_i h1
   rw [if_pos h1];rcases hw with hw|hw
   ·exact aA (aM h hw)
   ·exact aC hw
  ·rename_i h1
   rw [if_neg h1];exact h _ _ hw
def iy (P:Program) (ops:Array Oper) (Q:Exit->aD->J->Prop):Nat->Nat->aD->J->Prop
 | 0,_,a,w=>Q .normal a w
 | n+1,k,a,w=>wpOp P ops Q k (fun a w=>iy P ops Q n (k+1) a w) a w
structure Pt (i M:Nat) (dst last:Nat->Nat) (V:Nat->X->J->Prop) (base:aD) (o:Oper) (a:aD) (w:J):Prop where
 kp:∀ j u,(∀ k,k<M->dst k≠j)->base.tmps[j]?=aB u->a.eval (.tmp j)=u
 at_:∀ e∈o.after,U .any e=aj->(last e.on=i\/M<=last e.on)->V e.on (a.eval (.tmp (dst e.on))) w
 got:∀ e∈o.after,U .any e=aj->a.tmps[dst e.on]?=aB (a.eval (.tmp (dst e.on)))
structure PhL (l:List Oper) (M:Nat) (dst last:Nat->Nat) (V:Nat->X->J->Prop) (base:aD) (w:J) (L:Array Bool) (a:aD) (x:J):Prop where
 no:∀ i,M<=i->¬ done L i
 cl:∀ i o,done L i->l[i]?=aB o->∀ e∈o.after,U .any e=aj->done L e.on
 df:a.defers=base.defers
 sz:a.tmps.size=base.tmps.size
 kp:∀ j,(∀ i,i<M->dst i≠j)->a.tmps[j]?=base.tmps[j]?
 pI:Below w.heap.size w x
 val:∃ vs:Nat->X,∀ i,i<M->done L i->a.tmps[dst i]?=aB (vs i)/\(¬ done L (last i)->V i (vs i) x)
theorem iV {P:Program} {Q:Exit->aD->J->Prop} {id:Nat} {base:aD} {w:J} {l:List Oper} (N M:Nat) (dst last:Nat->Nat) (V:Nat->X->J->Prop)
  (hm:P.follows .mixedOrders=aj) (hf:CK l.toArray=aj) (hN:l.length=N) (hMN:M<=N) (hinj:∀ i j,i<M->j<M->dst i=dst j->i=j) (hs:∀ i,i<M->dst i<base.tmps.size)
  (hop:∀ i o,i<M->l[i]?=aB o->∀ a w' (D:Nat->Prop),¬ D i->(∀ j oj,D j->l[j]?=aB oj->∀ e∈oj.after,U .any e=aj->D e.on)->(∀ e∈o.after,U .any e=aj->D e.on)->Below w.heap.size w w'->Pt i M dst last V base o a w'->∀ K:aD->J->Prop,(∀ v w'',V i v w''->Below w.heap.size w' w''->(∀ j u,j<M->D j->¬ D (last j)->last j≠i->j≠i->V j u w'->V j u w'')->K (a.put (aB (dst i)) v) w'')->wpOp P l.toArray Q i K a w')
  (hall:M<N->∀ D:Nat->Prop,(∀ j o,D j->l[j]?=aB o->∀ e∈o.after,U .any e=aj->D e.on)->(∀ o,l[M]?=aB o->∀ e∈o.after,U .any e=aj->D e.on)->∀ i,i<M->D i)
  (hnext:∀ k o,M<k->k<N->l[k]?=aB o->∃ e∈o.after,U .any e=aj/\e.on=k-1)
  (hseq:∀ a w',a.defers=base.defers->a.tmps.size=base.tmps.size->(∀ j,(∀ i,i<M->dst i≠j)->a.tmps[j]?=base.tmps[j]?)->(∃ vs:Nat->X,∀ i,i<M->a.tmps[dst i]?=aB (vs i)/\(M<=last i->V i (vs i) w'))->Below w.heap.size w w'->iy P l.toArray Q (N-M) M a w'):(Code.region id l.toArray aj).wp P Q base w:=by
 refine ng (fun L a x=>PhL l M dst last V base w L a x\/∃ s,1<=s/\M+s<=N/\(∀ i,i<N->(done L i↔i<M+s))/\iy P l.toArray Q (N-M-s) (M+s) a x) hm hf ?_ ?_ ?_
 ·exact aA ⟨fun i _=>fP _ _,fun i o h=>absurd h (fP _ _),rfl,rfl,fun _ _=>rfl,(Below.refl _ _).drew,fun _=>.bool aj,fun i _ h=>absurd h (fP _ _)⟩
 ·intro L a x i o hsz hI ho hnd kP;have hi:i<l.length:=(List.getElem?_eq_some_iff.1 ho).1;have uz:i<L.size:=by omega
  rcases hI with I|⟨s,h1,h2,h3,h4⟩
  ·rcases Z i M with hiM|hiM
   ·obtain⟨vs,q1⟩:=I.val;have hon:∀ e∈o.after,U .any e=aj->e.on<M:=fun e he hb=>by
     have h7:=List.all_eq_true.1 hf i (List.mem_range.2 (by simpa using hi));have ho':(l.toArray)[i]?=aB o:=by simpa using ho
     rw [ho'] at h7;have h8:=aI.1 h7 e he;rw [hb] at h8;have:e.on<i:=by simpa using h8
     omega
    have seen:Pt i M dst last V base o a x:=⟨fun j u hj hu=>dL (by rw [I.kp j hj]; exact hu),fun e he hbd hl=>by
     obtain⟨p1,p2⟩:=q1 e.on (hon e he hbd) (kP e he hbd);rw [dL p1];refine p2 ?_;rcases hl with hl|hl
     ·rw [hl]; exact hnd
     ·exact I.no _ hl,fun e he hbd=>by
     obtain⟨p1,p2⟩:=q1 e.on (hon e he hbd) (kP e he hbd);rw [dL p1];exact p1⟩
    refine hop i o hiM ho a x (done L) hnd I.cl kP I.pI seen _ fun v w'' hvw hbw hpr=>aA ?_;refine⟨fun k hk hd=>?_,fun k q hk hq e he hb=>?_,I.df,by rw [size_put]; exact I.sz,fun j hj=>?_,I.pI.trans hbw,fun k=>if k=i then v else vs k,fun k Ni hk=>?_⟩
    ·rcases (fK uz k).1 hd with h9|h9
     ·omega
     ·exact I.no k hk h9
    ·rw [fK uz] at hk ⊢;rcases hk with rfl|hk
     ·rw [hq] at ho;cases ho;exact aC (kP e he hb)
     ·exact aC (I.cl k q hk hq e he hb)
    ·rw [get_put _ _ _ _ (fun e=>hj i hiM e.symm)];exact I.kp j hj
    ·by_cases e:k=i
     ·subst e;have:dst k<a.tmps.size:=by rw [I.sz]; exact hs k Ni
      simp only [if_true];exact⟨by simp [Act.put,this],fun _=>hvw⟩
     ·simp only [if_neg e];rw [get_put _ _ _ _ (fun e2=>e (hinj k i Ni hiM e2))];rcases (fK uz k).1 hk with h9|h9
      ·exact absurd h9 e
      ·obtain⟨p1,p2⟩:=q1 k Ni h9;refine⟨p1,fun hn=>?_⟩;have n1:last k≠i:=fun e3=>hn ((fK uz _).2 (aA e3));have n2:¬ done L (last k):=fun e3=>hn ((fK uz _).2 (aC e3));exact hpr k _ Ni h9 n2 n1 e (p2 n2)
   ·have XJ:i=M:=by
     rcases Z M i with h9|h9
     ·obtain⟨e,he,hb,hon⟩:=hnext i o h9 (by omega) ho;have hd:=kP e he hb;rw [hon] at hd;exact absurd hd (I.no _ (by omega))
     ·omega
    subst XJ;have hD:=hall (by omega) (done L) I.cl (fun o' ho' e he hb=>by
     rw [ho] at ho';cases ho';exact kP e he hb)
    obtain⟨vs,q1⟩:=I.val;have hq:=hseq a x I.df I.sz I.kp ⟨vs,fun k hk=>⟨(q1 k hk (hD k hk)).1,fun hl=>(q1 k hk (hD k hk)).2 (I.no _ hl)⟩⟩ I.pI;rw [show N-i=(N-i-1)+1 by omega] at hq;refine wpOp_mono (fun a' x' h=>aC ⟨1,aF _,by omega,fun k hk=>?_,h⟩) hq;rw [fK uz];constructor
    ·rintro (rfl|h9)
     ·omega
     ·rcases Z k i with h8|h8
      ·omega
      ·exact absurd h9 (I.no k h8)
    ·intro h9;by_cases e:k=i
     ·exact aA e
     ·exact aC (hD k (by omega))
  ·have hge:M+s<=i:=by
    rcases Z i (M+s) with h9|h9
    ·exact absurd ((h3 i (by omega)).2 h9) hnd
    ·exact h9
   have hie:i=M+s:=by
    rcases Z (M+s) i with h9|h9
    ·obtain⟨e,he,hb,hon⟩:=hnext i o (by omega) (by omega) ho;have hd:=kP e he hb;rw [hon] at hd;have:=(h3 (i-1) (by omega)).1 hd;omega
    ·omega
   subst hie;rw [show N-M-s=(N-M-(s+1))+1 by omega] at h4;refine wpOp_mono (fun a' x' h=>aC ⟨s+1,by omega,by omega,fun k hk=>?_,h⟩) h4;rw [fK uz];constructor
   ·rintro (rfl|h9)
    ·omega
    ·have:=(h3 k hk).1 h9;omega
   ·intro h9;by_cases e:k=M+s
    ·exact aA e
    ·exact aC ((h3 k hk).2 (by omega))
 ·intro L a x hI hd;rcases hI with I|⟨s,h1,h2,h3,h4⟩
  ·rcases Z M N with h9|h9
   ·exact absurd (hd M (by omega)) (I.no M (aF _))
   ·obtain⟨vs,q1⟩:=I.val;have hq:=hseq a x I.df I.sz I.kp ⟨vs,fun k hk=>⟨(q1 k hk (hd k (by omega))).1,fun hl=>(q1 k hk (hd k (by omega))).2 (I.no _ hl)⟩⟩ I.pI;rw [show N-M=0 by omega] at hq;exact hq
  ·have:=(h3 (N-1) (by omega)).1 (hd (N-1) (by omega));rw [show N-M-s=0 by omega] at h4;exact h4
end Rg
end Go.Proofs.YtghlpefopidlaaaGreat
