/-
  An append and a call. Conditions as told.
-/
import Derived.Test.YtghlpefopidlaaaGreatCQ000
import Derived.Deep.RegionLaw
import Derived.Orders
set_option maxRecDepth 100000
set_option maxHeartbeats 64000000
open _root_.Array renaming getD->U,getElem?_eq_some_iff->X,getElem?_eq_getElem->ah,replicate->aA
open _root_.Bool renaming true->Y,false->aD
open _root_.Go renaming World->J,Operand->O,Value->V,TypeId->ak,Act->aB
open Go.Oper renaming wp->aj,upon_enter->ay
open Go.Region renaming wanted->D,ready->au,binds->aC
open Go.Result renaming andThen->Z
namespace Go.Proofs.YtghlpefopidlaaaGreat
namespace Rw
open Go.RowKit
theorem kU {P:Program} {ops:Array Oper} {o:Oper} {a:aB} {w w':J} {K:aB->J->Prop} {Q:Exit->aB->J->Prop} {E:Prop}
  (hg:o.guard=none) (s x:O) (t:ak) (hop:o.op=.call { callee:=.builtin .append,args:=#[s,x],argTypes:=#[t,t] }) {v xv v':V} (hs:a.eval s=v) (hx:a.eval x=xv)
  (hr:(Builtin.append_ #[t,t] o.type #[v,xv]).run P w=.ok v' w') (hK:K (a.put o.dst v') w') :
  if D o (yielded ops a.tmps)=Y then aj P o a w K Q else E:=by
 have hw:D o (yielded ops a.tmps)=Y:=by simp [D,hg]
 rw [if_pos hw];unfold aj execOp;simp only [hop,resolve,invoke,builtin,Sem.run_bind,Sem.run_pure,Result.andThen_ok,List.map_toArray,List.map_cons,List.map_nil,hs,hx,hr];exact hK
theorem jR {P:Program} {ops:Array Oper} {o:Oper} {a:aB} {w:J} {K:aB->J->Prop} {Q:Exit->aB->J->Prop} {E:Prop} {f:FuncId} {args:Array V} {R:Ending->J->Prop}
  (hg:o.guard=none) (hr:(execOp a.eval o).run P w=.ok (.enter f args) w) (hc:Calls P f args w R) (hR:∀ e w',R e w'->∃ v,e=.returned v/\K (a.put o.dst v) w') :
  if D o (yielded ops a.tmps)=Y then aj P o a w K Q else E:=by
 have hw:D o (yielded ops a.tmps)=Y:=by simp [D,hg]
 rw [if_pos hw];unfold aj;rw [hr,ay];refine hc.mono ?_;intro e w' h;obtain⟨v,rfl,hk⟩:=hR e w' h;exact hk
theorem fu {P : Program} {f : FuncId} {fn : Func} {c : Code} (hf : P.funcs[f]? = some fn) (hname : (fn.name == "runtime.NumGoroutine") = false) (hb : fn.body = some c) (args : Array Value) (w : World) : (callFunc f args).run P w = .ok (.enter f args) w := by
 have h1 : fn.name ≠ "runtime.NumGoroutine" := by simpa using hname
 simp [callFunc,hf,h1,hb]
theorem gq {P:Program} (ρ:O->V) (o:Oper) (x:O) (t:ak) (f:FuncId) (ho:o.op=.call { callee:=.value (.func f),args:=#[x],argTypes:=#[t] }) {v:V} (hx:ρ x=v) (hf:ρ (.func f)=.func (.func f) #[] #[]) (w:J)
  (hc:(callFunc f #[v]).run P w=.ok (.enter f #[v]) w):(execOp ρ o).run P w=.ok (.enter f #[v]) w:=by
 simp [execOp,ho,resolve,invoke,hx,hf,Deferred.ofValue,hc]
theorem lg {P:Program} (ρ:O->V) (o:Oper) (x y:O) (t s:ak) (f:FuncId) (ho:o.op=.call { callee:=.value (.func f),args:=#[x,y],argTypes:=#[t,s] }) {v u:V} (hx:ρ x=v) (hy:ρ y=u) (hf:ρ (.func f)=.func (.func f) #[] #[]) (w:J)
  (hc:(callFunc f #[v,u]).run P w=.ok (.enter f #[v,u]) w):(execOp ρ o).run P w=.ok (.enter f #[v,u]) w:=by
 simp [execOp,ho,resolve,invoke,hx,hy,hf,Deferred.ofValue,hc]
end Rw
namespace Rg
open Go.RowKit
def left (L:Array Bool):Nat:=L.toList.countP (fun b=>!b)
theorem Dv (L:Array Bool) (i:Nat) (h:L.getD i Y=aD):left (L.setIfInBounds i Y)+1=left L:=by
 obtain⟨l⟩:=L;have hi:i<l.length:=by
  rcases Nat.lt_or_ge i l.length with h0|h0
  ·exact h0
  ·exact absurd h (by simp [U,Nat.not_lt.2 h0])
 have hv:l[i]=aD:=by simpa [U,hi] using h
 unfold left;simp only [List.setIfInBounds_toArray];rw [List.countP_set hi,hv];have hp:0<l.countP (fun b=>!b):=List.countP_pos_iff.2 ⟨l[i],List.getElem_mem hi,by rw [hv]; rfl⟩;simp;omega
theorem Aq (L:Array Bool) (h:left L=0) (i:Nat):L.getD i Y=Y:=by
 obtain⟨l⟩:=L;unfold left at h;rw [List.countP_eq_zero] at h;rcases Nat.lt_or_ge i l.length with h0|h0
 ·have:=h l[i] (List.getElem_mem h0);simp [U,h0];simpa using this
 ·simp [U,Nat.not_lt.2 h0]
def yg (ops:Array Oper):Bool:=(List.range ops.size).all fun i=>match ops[i]? with
 | some o=>o.after.all fun e=>!Region.binds .any e || decide (e.on<i)
 | none=>Y
def done (L:Array Bool) (i:Nat):Prop:=L.getD i aD=Y
theorem vY {ops:Array Oper} (hf:yg ops=Y) {L:Array Bool} (hs:L.size=ops.size) (h:au .any ops L=[]):∀ n,n<=ops.size->∀ i,i<n->done L i:=by
 intro n
 induction n with
 | zero=>intro _ i hi; omega
 | succ n ih =>
  intro hn i hi;rcases Nat.lt_or_ge i n with h1|h1
  ·exact ih (by omega) i h1
  ·obtain rfl:i=n:=by omega
   cases hd:L.getD i Y
   ·exfalso;have hm:i∈au .any ops L:=by
     rw [mem_ready];refine⟨hd,ops[i],ah (by omega),fun e he hbd=>?_⟩;have h2:=List.all_eq_true.1 hf i (List.mem_range.2 (by omega));rw [ah (by omega)] at h2;have h3:=Array.all_eq_true'.1 h2 e he;rw [hbd] at h3;exact ih (by omega) e.on (by simpa using h3)
    rw [h] at hm;cases hm
   ·unfold done;have hi2:i<L.size:=by omega
    simp [U,hi2] at hd ⊢;exact hd
section
variable {P:Program} {ops:Array Oper} {Q:Exit->aB->J->Prop}
theorem yh (I:Array Bool->aB->J->Prop) (hf:yg ops=Y)
  (hstep:∀ L a w i o,L.size=ops.size->I L a w->ops[i]?=some o->¬ done L i->(∀ e∈o.after,aC .any e=Y->done L e.on)->wpOp P ops Q i (I (L.setIfInBounds i Y)) a w)
  (hend:∀ L a w,I L a w->(∀ i,i<ops.size->done L i)->Q .normal a w) :
  ∀ (fuel:Nat) (L:Array Bool) (a:aB) (w:J),L.size=ops.size->left L<=fuel->I L a w->wpAny P .any ops Q fuel L a w:=by
 intro fuel
 induction fuel with
 | zero =>
  intro L a w hs hl hI;have hr:au .any ops L=[]:=by
   rw [List.eq_nil_iff_forall_not_mem];intro i hi;have h1:=(mem_ready.1 hi).1;rw [Aq L (by omega) i] at h1;cases h1
  exact⟨hr,hend L a w hI (vY hf hs hr ops.size (Nat.le_refl _))⟩
 | succ fuel ih =>
  intro L a w hs hl hI;refine⟨fun hr=>hend L a w hI (vY hf hs hr ops.size (Nat.le_refl _)),fun i hi=>?_⟩;obtain⟨h1,o,h2,h3⟩:=mem_ready.1 hi;have hlt:i<ops.size:=(X.1 h2).1;have hnd:¬ done L i:=by
   unfold done;have:i<L.size:=by omega
   simp [U,this] at h1 ⊢;exact h1
  have hst:=hstep L a w i o hs hI h2 hnd (fun e he hb=>h3 e he hb);have hmono:∀ a' w',I (L.setIfInBounds i Y) a' w'->wpAny P .any ops Q fuel (L.setIfInBounds i Y) a' w':=fun a' w' h =>
   ih _ a' w' (by simpa using hs) (by have:=Dv L i h1; omega) h
  unfold wpOp at hst ⊢;rw [h2] at hst ⊢;simp only at hst ⊢
  split at hst
  ·rename_i hw
   rw [if_pos hw];rcases hst with hst|hst
   ·exact Or.inl (Oper.wp_mono hmono hst)
   ·exact Or.inr hst
  ·rename_i hw
   rw [if_neg hw];exact hmono _ _ hst
theorem kI (I:Array Bool->aB->J->Prop) {id:Nat} {a:aB} {w:J} {l:List Oper} (hm:P.follows .mixedOrders=Y) (hf:yg l.toArray=Y)
  (h0:I (aA l.length aD) a { w with drawn:=w.drawn+1 })
  (hstep:∀ L a w i o,L.size=l.length->I L a w->l[i]?=some o->¬ done L i->(∀ e∈o.after,aC .any e=Y->done L e.on)->wpOp P l.toArray Q i (I (L.setIfInBounds i Y)) a w)
  (hend:∀ L a w,I L a w->(∀ i,i<l.length->done L i)->Q .normal a w):(Code.region id l.toArray Y).wp P Q a w:=by
 refine wp_region_any hm (yh (ops:=l.toArray) I hf (fun L a w i o hs hI ho=>hstep L a w i o (by simpa using hs) hI (by simpa using ho)) (fun L a w hI hd=>hend L a w hI (by simpa using hd)) _ _ _ _ (by simp) ?_ (by simpa using h0));unfold left;have h2:=List.countP_le_length (p:=fun b:Bool=>!b) (l:=List.replicate l.length aD);simpa using h2
end
theorem eT {L:Array Bool} {i:Nat} (h:i<L.size) (j:Nat):done (L.setIfInBounds i Y) j↔j=i\/done L j:=by
 unfold done;by_cases e:j=i
 ·subst e; simp [U,h]
 ·by_cases hj:j<L.size
  ·have h2:i≠j:=fun x=>e x.symm;simp [U,hj,e,h2]
  ·simp [U,hj,e]
theorem fA (n j:Nat):¬ done (aA n aD) j:=by
 unfold done;by_cases hj:j<n <;> simp [U,hj]
theorem cO {P:Program} {ops:Array Oper} {Q:Exit->aB->J->Prop} {K:aB->J->Prop} {a:aB} {w w':J} {i:Nat} {o:Oper} {v:V}
  (ho:ops[i]?=some o) (hg:o.guard=none) (hr:(execOp a.eval o).run P w=.ok (.value v) w') (h:K (a.put o.dst v) w'):wpOp P ops Q i K a w:=by
 unfold wpOp;rw [ho];have hw:D o (yielded ops a.tmps)=Y:=by simp [D,hg]
 simp only [hw,if_true];refine Or.inl ?_;unfold aj;rw [hr];exact h
theorem Mq {P:Program} {s:Sem V} {w w':J} {v:V} (h:s.run P w=.ok v w'):(do pure (Next.value (<- s)):Sem Next).run P w=.ok (.value v) w':=by
 simp [go_sem,h]
theorem Au {P:Program} (ρ:O->V) (o:Oper) (s x:O) (t:ak) (ho:o.op=.call { callee:=.builtin .append,args:=#[s,x],argTypes:=#[t,t] }) {v x' v':V} {w w':J}
  (hs:ρ s=v) (hx:ρ x=x') (hrun:(Builtin.append_ #[t,t] o.type #[v,x']).run P w=.ok v' w'):(execOp ρ o).run P w=.ok (.value v') w':=by
 simp [execOp,ho,resolve,invoke,builtin,hs,hx,hrun,Z]
theorem kg {P:Program} (ρ:O->V) (o:Oper) (t:ak) (x i:O) (ho:o.op=.indexAddr t x i) {v:V} {w:J} (hr:(Instr.indexAt t (ρ x) (ρ i)).run P w=.ok v w) :
  (execOp ρ o).run P w=.ok (.value v) w:=by
 simp [execOp,ho,hr,Z]
theorem dX {P:Program} (ρ:O->V) (o:Oper) (t:ak) (x:O) (ho:o.op=.load t x) {v:V} {w:J} (hr:(Instr.loadAt t (ρ x)).run P w=.ok v w) :
  (execOp ρ o).run P w=.ok (.value v) w:=by
 simp [execOp,ho,hr,Z]
theorem nQ {P:Program} (ρ:O->V) (o:Oper) (t:ak) (n:Nat) (parts:Array (Nat×O)) (ho:o.op=.buildSlice t n parts) {ps:Array (Nat×V)} (hp:parts.map (fun x=>(x.1,ρ x.2))=ps) {v:V} {w w':J} (hr:(Instr.buildSlice t n ps).run P w=.ok v w') :
  (execOp ρ o).run P w=.ok (.value v) w':=by
 subst hp;simp [execOp,ho,hr,Z]
theorem iq {P:Program} (ρ:O->V) (o:Oper) (x:O) (ho:o.op=.move x) (w:J):(execOp ρ o).run P w=.ok (.value (ρ x)) w:=by
 simp [execOp,ho]
theorem lS {P:Program} (ρ:O->V) (o:Oper) (x:O) (ho:o.op=.assign x) (w:J):(execOp ρ o).run P w=.ok (.value (ρ x)) w:=by
 simp [execOp,ho]
theorem size_put (a:aB) (d:Nat) (v:V):(a.put (some d) v).tmps.size=a.tmps.size:=by simp [Act.put]
theorem get_put (a:aB) (d:Nat) (v:V) (j:Nat) (hd:j≠d):(a.put (some d) v).tmps[j]?=a.tmps[j]?:=by
 have h2:d≠j:=fun x=>hd x.symm;simp [Act.put,h2]
theorem dD {a:aB} {j:Nat} {v:V} (h:a.tmps[j]?=some v):a.eval (.tmp j)=v:=by
 have h1:=(X.1 h).1;have h2:=(X.1 h).2;simp [Act.eval,U,h1,h2]
theorem Hg {P:Program} {ops:Array Oper} {Q:Exit->aB->J->Prop} {K:aB->J->Prop} {a:aB} {w w':J} {i:Nat} {o:Oper}
  (ho:ops[i]?=some o) (hg:o.guard=none) (hr:(execOp a.eval o).run P w=.ok .skip w') (h:K (a.put o.dst undef) w'):wpOp P ops Q i K a w:=by
 unfold wpOp;rw [ho];have hw:D o (yielded ops a.tmps)=Y:=by simp [D,hg]
 simp only [hw,if_true];refine Or.inl ?_;unfold aj;rw [hr];exact h
theorem gL {a:aB} {bl:List V} (d0 m:Nat) (df:a.defers=[]) (sz:a.tmps.size=bl.length) (hle:d0+m<=bl.length) (kp:∀ j,(j<d0\/d0+m<=j)->a.tmps[j]?=bl[j]?) :
  ∃ mid:List V,mid.length=m/\a=⟨(bl.take d0++(mid++bl.drop (d0+m))).toArray,[]⟩:=by
 obtain⟨tmps,defers⟩:=a;have hd:defers=[]:=df;have hs:tmps.size=bl.length:=sz;have hk:∀ j,(j<d0\/d0+m<=j)->tmps[j]?=bl[j]?:=kp;subst hd;have hl:((tmps.toList.drop d0).take m).length=m:=by simp; omega
 refine⟨(tmps.toList.drop d0).take m,hl,congrArg (fun x=>(⟨x,[]⟩:aB)) ?_⟩;apply Array.ext_getElem?;intro j
 conv=>rhs; rw [List.getElem?_toArray]
 by_cases h1:j<d0
 ·rw [hk j (Or.inl h1),List.getElem?_append_left (by simp; omega),List.getElem?_take,if_pos h1]
 ·have ht:(bl.take d0).length=d0:=by simp; omega
  rw [List.getElem?_append_right (by omega),ht];by_cases h2:j<d0+m
  ·rw [List.getElem?_append_left (by omega),List.getElem?_take,if_pos (by omega),List.getElem?_drop,Array.getElem?_toList,show d0+(j-d0)=j by omega]
  ·rw [hk j (Or.inr (by omega)),List.getElem?_append_right (by omega),hl,List.getElem?_drop,show d0+m+(j-d0-m)=j by omega]
theorem fO {P:Program} {ops:Array Oper} {Q:Exit->aB->J->Prop} {K:aB->J->Prop} {a:aB} {w:J} {i:Nat} {o:Oper} {f:FuncId} {args:Array V} {R:Ending->J->Prop}
  (ho:ops[i]?=some o) (hg:o.guard=none) (hr:(execOp a.eval o).run P w=.ok (.enter f args) w) (hc:Calls P f args w R) (hR:∀ e w',R e w'->∃ v,e=.returned v/\K (a.put o.dst v) w'):wpOp P ops Q i K a w:=by
 unfold wpOp;rw [ho];have hw:D o (yielded ops a.tmps)=Y:=by simp [D,hg]
 simp only [hw,if_true];refine Or.inl ?_;unfold aj;rw [hr,ay];refine hc.mono ?_;intro e w' h;obtain⟨v,rfl,hk⟩:=hR e w' h;exact hk
theorem dR {P:Program} (ρ:O->V) (o:Oper) (s:ak) (x:O) (f:Nat) (ho:o.op=.fieldAddr s x f) {v:V} {w:J} (hr:(Instr.fieldAt s (ρ x) f).run P w=.ok v w):(execOp ρ o).run P w=.ok (.value v) w:=by
 unfold execOp;rw [ho];exact Mq hr
end Rg
end Go.Proofs.YtghlpefopidlaaaGreat
