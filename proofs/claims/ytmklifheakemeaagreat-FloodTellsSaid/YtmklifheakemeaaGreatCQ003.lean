/-
  Numbers in memory, a. Conditions as told.
-/
import Derived.Test.YtmklifheakemeaaGreatCQ000
import Derived.Orders
import Derived.Deep.RegionLaw
import Derived.ChangeSlices
import Derived.Below
import Derived.Test.YtmklifheakemeaaGreatCQ002
import Derived.Test.YtmklifheakemeaaGreatCQ001
import Derived.Lib.Bytealg
set_option maxRecDepth 100000
set_option maxHeartbeats 64000000
open _root_.Array renaming getD->Y,getElem?_eq_some_iff->aj,getElem?_eq_getElem->aI,replicate->bf
open _root_.Bool renaming true->au,false->aR
open _root_.Go renaming Value->J,World->O,Operand->V,TypeId->aD,Act->bD,Addr->bN,Calls->bQ
open Go.Deferred renaming ofValue->aN
open Go.Instr renaming indexAt->aC,loadAt->bF
open Go.IntKind renaming i64->aH
open Go.Lib renaming compareBytes->D
open Go.Op renaming bytesLess->X
open Go.Oper renaming wp->aQ,upon_enter->bg
open Go.Proofs.Tryz renaming prog->aA,underlying22->aK,underlying3->aY,ntmps44->bI,func44->bJ
open Go.Region renaming wanted->U,ready->aW,binds->bG
open Go.Result renaming andThen->aB
open Go.Value renaming string->ah,slice->aL,int->aS,pointer->aV,bool->bM
open _root_.List renaming getElem?_eq_some_iff->ak,getElem?_eq_getElem->ay,getElem?_append_right->aF,getD_eq_getElem?_getD->aG,getElem?_append_left->aJ,getElem_mem->aM,getElem?_take->aT,getElem?_drop->aU
open _root_.Nat renaming lt_or_ge->aO,le_refl->aZ,not_lt->bK,mod_lt->bL
open _root_.Option renaming some->Z,none->bH
open _root_.UInt8 renaming not_lt->aP,le_antisymm->aX
namespace Go.Proofs.YtmklifheakemeaaGreat
namespace Nm
open Go.RowKit Rw
def EI:Ek Int:=⟨3,22,1,8,aS aH 0,fun n=>.int aH n,fun n=>[aS aH n]⟩
theorem afB:(Tryz.prog.info? 3).map (fun i=>(i.zero,i.size,i.bytes))=Z (Z (aS aH 0),1,8):=by kernel_rfl
theorem Oi:EI.Ok where
 hu:=aK
 info:=by
  have h:=afB;cases hi:Tryz.prog.info? 3 with
  | none=>rw [hi] at h; cases h
  | some i =>
   rw [hi] at h;simp only [Option.map_some,Option.some.injEq,Prod.mk.injEq] at h;exact⟨i,hi,h.1,h.2.1,h.2.2⟩
 zs:=rfl
 len:=fun _=>rfl
 one:=fun x u hu=>by
  simp only [EI,List.mem_cons,List.not_mem_nil,or_false] at hu;rw [hu]
  rfl
 pos:=by decide
 few:=by decide
 load:=fun w p x h=>by
  have h0:=h 0 _ rfl;rw [add_zero] at h0;show (bF 3 (aV (Z p))).run aA w=.ok (aS aH x) w;simp [go_sem,h0]
abbrev qF (W:O) (v:J) (l:List Int):Prop:=Row EI W v l
abbrev yH (W:O) (B:Nat) (v:J) (l:List Int):Prop:=Own EI W B v l
theorem elI {W:O} {v:J} {l:List Int} {ao:Option bN} {n c k:Nat} {x:Int} (h:qF W v l) (hv:v=aL ao n c) (hn:l.length=n) (hk:l[k]?=Z x) :
  ∃ p:bN,(∀ w,(aC 22 (aL ao n c) (aS aH k)).run aA w=.ok (aV (Z p)) w)/\p.block<W.heap.size/\∀ w,Below W.heap.size W w->w.cell? p=Z (aS aH x):=by
 obtain⟨p,h1,h3,h2⟩:=nV Oi h hv hn hk;exact⟨p,h1,h3,fun w hw=>by
  have h0:=h2 w hw 0 _ rfl
  rwa [add_zero] at h0⟩
theorem I9:∀ l:List Int,flat EI l=l.map (fun n=>.int aH n)
 | []=>rfl
 | x::r=>by
  show EI.cells x++flat EI r=_;rw [I9 r]
  rfl
end Nm
namespace Rg
open Go.RowKit
def left (L:Array Bool):Nat:=L.toList.countP (fun b=>!b)
theorem Tp (L:Array Bool) (i:Nat) (h:L.getD i au=aR):left (L.setIfInBounds i au)+1=left L:=by
 obtain⟨l⟩:=L;have hi:i<l.length:=by
  rcases aO i l.length with h0|h0
  ·exact h0
  ·exact absurd h (by simp [Y,bK.2 h0])
 have hv:l[i]=aR:=by simpa [Y,hi] using h
 unfold left;simp only [List.setIfInBounds_toArray];rw [List.countP_set hi,hv];have hp:0<l.countP (fun b=>!b):=List.countP_pos_iff.2 ⟨l[i],aM hi,by rw [hv]; rfl⟩;simp;omega
theorem QF (L:Array Bool) (h:left L=0) (i:Nat):L.getD i au=au:=by
 obtain⟨l⟩:=L;unfold left at h;rw [List.countP_eq_zero] at h;rcases aO i l.length with h0|h0
 ·have:=h l[i] (aM h0);simp [Y,h0];simpa using this
 ·simp [Y,bK.2 h0]
def Mh (ops:Array Oper):Bool:=(List.range ops.size).all fun i=>match ops[i]? with
 | some o=>o.after.all fun e=>!Region.binds .any e || decide (e.on<i)
 | none=>au
def done (L:Array Bool) (i:Nat):Prop:=L.getD i aR=au
theorem Ja {ops:Array Oper} (hf:Mh ops=au) {L:Array Bool} (hs:L.size=ops.size) (h:aW .any ops L=[]):∀ n,n<=ops.size->∀ i,i<n->done L i:=by
 intro n
 induction n with
 | zero=>intro _ i hi; omega
 | succ n ih =>
  intro hn i hi;rcases aO i n with h1|h1
  ·exact ih (by omega) i h1
  ·obtain rfl:i=n:=by omega
   cases hd:L.getD i au
   ·exfalso;have hm:i∈aW .any ops L:=by
     rw [mem_ready];refine⟨hd,ops[i],aI (by omega),fun e he hbd=>?_⟩;have h2:=List.all_eq_true.1 hf i (List.mem_range.2 (by omega));rw [aI (by omega)] at h2;have h3:=Array.all_eq_true'.1 h2 e he;rw [hbd] at h3;exact ih (by omega) e.on (by simpa using h3)
    rw [h] at hm;cases hm
   ·unfold done;have hi2:i<L.size:=by omega
    simp [Y,hi2] at hd ⊢;exact hd
section
variable {P:Program} {ops:Array Oper} {Q:Exit->bD->O->Prop}
theorem Mi (I:Array Bool->bD->O->Prop) (hf:Mh ops=au)
  (hstep:∀ L a w i o,L.size=ops.size->I L a w->ops[i]?=Z o->¬ done L i->(∀ e∈o.after,bG .any e=au->done L e.on)->wpOp P ops Q i (I (L.setIfInBounds i au)) a w)
  (hend:∀ L a w,I L a w->(∀ i,i<ops.size->done L i)->Q .normal a w) :
  ∀ (fuel:Nat) (L:Array Bool) (a:bD) (w:O),L.size=ops.size->left L<=fuel->I L a w->wpAny P .any ops Q fuel L a w:=by
 intro fuel
 induction fuel with
 | zero =>
  intro L a w hs hl hI;have hr:aW .any ops L=[]:=by
   rw [List.eq_nil_iff_forall_not_mem];intro i hi;have h1:=(mem_ready.1 hi).1;rw [QF L (by omega) i] at h1;cases h1
  exact⟨hr,hend L a w hI (Ja hf hs hr ops.size (aZ _))⟩
 | succ fuel ih =>
  intro L a w hs hl hI;refine⟨fun hr=>hend L a w hI (Ja hf hs hr ops.size (aZ _)),fun i hi=>?_⟩;obtain⟨h1,o,h2,h3⟩:=mem_ready.1 hi;have hlt:i<ops.size:=(aj.1 h2).1;have hnd:¬ done L i:=by
   unfold done;have:i<L.size:=by omega
   simp [Y,this] at h1 ⊢;exact h1
  have hst:=hstep L a w i o hs hI h2 hnd (fun e he hb=>h3 e he hb);have hmono:∀ a' w',I (L.setIfInBounds i au) a' w'->wpAny P .any ops Q fuel (L.setIfInBounds i au) a' w':=fun a' w' h =>
   ih _ a' w' (by simpa using hs) (by have:=Tp L i h1; omega) h
  unfold wpOp at hst ⊢;rw [h2] at hst ⊢;simp only at hst ⊢
  split at hst
  ·rename_i hw
   rw [if_pos hw];rcases hst with hst|hst
   ·exact Or.inl (Oper.wp_mono hmono hst)
   ·exact Or.inr hst
  ·rename_i hw
   rw [if_neg hw];exact hmono _ _ hst
theorem o9 (I:Array Bool->bD->O->Prop) {id:Nat} {a:bD} {w:O} {l:List Oper} (hm:P.follows .mixedOrders=au) (hf:Mh l.toArray=au)
  (h0:I (bf l.length aR) a { w with drawn:=w.drawn+1 })
  (hstep:∀ L a w i o,L.size=l.length->I L a w->l[i]?=Z o->¬ done L i->(∀ e∈o.after,bG .any e=au->done L e.on)->wpOp P l.toArray Q i (I (L.setIfInBounds i au)) a w)
  (hend:∀ L a w,I L a w->(∀ i,i<l.length->done L i)->Q .normal a w):(Code.region id l.toArray au).wp P Q a w:=by
 refine wp_region_any hm (Mi (ops:=l.toArray) I hf (fun L a w i o hs hI ho=>hstep L a w i o (by simpa using hs) hI (by simpa using ho)) (fun L a w hI hd=>hend L a w hI (by simpa using hd)) _ _ _ _ (by simp) ?_ (by simpa using h0));unfold left;have h2:=List.countP_le_length (p:=fun b:Bool=>!b) (l:=List.replicate l.length aR);simpa using h2
end
theorem ig {L:Array Bool} {i:Nat} (h:i<L.size) (j:Nat):done (L.setIfInBounds i au) j↔j=i\/done L j:=by
 unfold done;by_cases e:j=i
 ·subst e; simp [Y,h]
 ·by_cases hj:j<L.size
  ·have h2:i≠j:=fun x=>e x.symm;simp [Y,hj,e,h2]
  ·simp [Y,hj,e]
theorem gH (n j:Nat):¬ done (bf n aR) j:=by
 unfold done;by_cases hj:j<n <;> simp [Y,hj]
theorem dD {P:Program} {ops:Array Oper} {Q:Exit->bD->O->Prop} {K:bD->O->Prop} {a:bD} {w w':O} {i:Nat} {o:Oper} {v:J}
  (ho:ops[i]?=Z o) (hg:o.guard=bH) (hr:(execOp a.eval o).run P w=.ok (.value v) w') (h:K (a.put o.dst v) w'):wpOp P ops Q i K a w:=by
 unfold wpOp;rw [ho];have hw:U o (yielded ops a.tmps)=au:=by simp [U,hg]
 simp only [hw,if_true];refine Or.inl ?_;unfold aQ;rw [hr];exact h
theorem abv {P:Program} {s:Sem J} {w w':O} {v:J} (h:s.run P w=.ok v w'):(do pure (Next.value (<- s)):Sem Next).run P w=.ok (.value v) w':=by
 simp [go_sem,h]
theorem gI {P:Program} (ρ:V->J) (o:Oper) (s x:V) (t:aD) (ho:o.op=.call { callee:=.builtin .append,args:=#[s,x],argTypes:=#[t,t] }) {v x' v':J} {w w':O}
  (hs:ρ s=v) (hx:ρ x=x') (hrun:(Builtin.append_ #[t,t] o.type #[v,x']).run P w=.ok v' w'):(execOp ρ o).run P w=.ok (.value v') w':=by
 simp [execOp,ho,resolve,invoke,builtin,hs,hx,hrun,aB]
theorem kS {P:Program} (ρ:V->J) (o:Oper) (t:aD) (x:V) (l h m:Option V) (ho:o.op=.slice t x l h m) {v:J} {w:O} (hr:(Instr.sliceAt t (ρ x) (l.map ρ) (h.map ρ) (m.map ρ)).run P w=.ok v w) :
  (execOp ρ o).run P w=.ok (.value v) w:=by
 simp [execOp,ho,hr,aB]
theorem pE {P:Program} (ρ:V->J) (o:Oper) (t:aD) (x i:V) (ho:o.op=.indexAddr t x i) {v:J} {w:O} (hr:(aC t (ρ x) (ρ i)).run P w=.ok v w) :
  (execOp ρ o).run P w=.ok (.value v) w:=by
 simp [execOp,ho,hr,aB]
theorem dR {P:Program} (ρ:V->J) (o:Oper) (t:aD) (x:V) (ho:o.op=.load t x) {v:J} {w:O} (hr:(bF t (ρ x)).run P w=.ok v w) :
  (execOp ρ o).run P w=.ok (.value v) w:=by
 simp [execOp,ho,hr,aB]
theorem jg {P:Program} (ρ:V->J) (o:Oper) (t:aD) (n:Nat) (parts:Array (Nat×V)) (ho:o.op=.buildSlice t n parts) {ps:Array (Nat×J)} (hp:parts.map (fun x=>(x.1,ρ x.2))=ps) {v:J} {w w':O} (hr:(Instr.buildSlice t n ps).run P w=.ok v w') :
  (execOp ρ o).run P w=.ok (.value v) w':=by
 subst hp;simp [execOp,ho,hr,aB]
theorem fV {P:Program} (ρ:V->J) (o:Oper) (x:V) (ho:o.op=.move x) (w:O):(execOp ρ o).run P w=.ok (.value (ρ x)) w:=by
 simp [execOp,ho]
theorem jJ {P:Program} (ρ:V->J) (o:Oper) (x:V) (ho:o.op=.assign x) (w:O):(execOp ρ o).run P w=.ok (.value (ρ x)) w:=by
 simp [execOp,ho]
theorem size_put (a:bD) (d:Nat) (v:J):(a.put (Z d) v).tmps.size=a.tmps.size:=by simp [Act.put]
theorem get_put (a:bD) (d:Nat) (v:J) (j:Nat) (hd:j≠d):(a.put (Z d) v).tmps[j]?=a.tmps[j]?:=by
 have h2:d≠j:=fun x=>hd x.symm;simp [Act.put,h2]
theorem dL {a:bD} {j:Nat} {v:J} (h:a.tmps[j]?=Z v):a.eval (.tmp j)=v:=by
 have h1:=(aj.1 h).1;have h2:=(aj.1 h).2;simp [Act.eval,Y,h1,h2]
theorem aai {P:Program} {ops:Array Oper} {Q:Exit->bD->O->Prop} {K:bD->O->Prop} {a:bD} {w w':O} {i:Nat} {o:Oper}
  (ho:ops[i]?=Z o) (hg:o.guard=bH) (hr:(execOp a.eval o).run P w=.ok .skip w') (h:K (a.put o.dst undef) w'):wpOp P ops Q i K a w:=by
 unfold wpOp;rw [ho];have hw:U o (yielded ops a.tmps)=au:=by simp [U,hg]
 simp only [hw,if_true];refine Or.inl ?_;unfold aQ;rw [hr];exact h
theorem gJ {a:bD} {bl:List J} (d0 m:Nat) (df:a.defers=[]) (sz:a.tmps.size=bl.length) (hle:d0+m<=bl.length) (kp:∀ j,(j<d0\/d0+m<=j)->a.tmps[j]?=bl[j]?) :
  ∃ mid:List J,mid.length=m/\a=⟨(bl.take d0++(mid++bl.drop (d0+m))).toArray,[]⟩:=by
 obtain⟨tmps,defers⟩:=a;have hd:defers=[]:=df;have hs:tmps.size=bl.length:=sz;have hk:∀ j,(j<d0\/d0+m<=j)->tmps[j]?=bl[j]?:=kp;subst hd;have hl:((tmps.toList.drop d0).take m).length=m:=by simp; omega
 refine⟨(tmps.toList.drop d0).take m,hl,congrArg (fun x=>(⟨x,[]⟩:bD)) ?_⟩;apply Array.ext_getElem?;intro j
 conv=>rhs; rw [List.getElem?_toArray]
 by_cases h1:j<d0
 ·rw [hk j (Or.inl h1),aJ (by simp; omega),aT,if_pos h1]
 ·have ht:(bl.take d0).length=d0:=by simp; omega
  rw [aF (by omega),ht];by_cases h2:j<d0+m
  ·rw [aJ (by omega),aT,if_pos (by omega),aU,Array.getElem?_toList,show d0+(j-d0)=j by omega]
  ·rw [hk j (Or.inr (by omega)),aF (by omega),hl,aU,show d0+m+(j-d0-m)=j by omega]
end Rg
namespace Rw
open Go.RowKit
theorem fu {P:Program} {ops:Array Oper} {o:Oper} {a:bD} {w w':O} {K:bD->O->Prop} {Q:Exit->bD->O->Prop} {E:Prop}
  (hg:o.guard=bH) (s x:V) (t:aD) (hop:o.op=.call { callee:=.builtin .append,args:=#[s,x],argTypes:=#[t,t] }) {v xv v':J} (hs:a.eval s=v) (hx:a.eval x=xv)
  (hr:(Builtin.append_ #[t,t] o.type #[v,xv]).run P w=.ok v' w') (hK:K (a.put o.dst v') w') :
  if U o (yielded ops a.tmps)=au then aQ P o a w K Q else E:=by
 have hw:U o (yielded ops a.tmps)=au:=by simp [U,hg]
 rw [if_pos hw];unfold aQ execOp;simp only [hop,resolve,invoke,builtin,Sem.run_bind,Sem.run_pure,Result.andThen_ok,List.map_toArray,List.map_cons,List.map_nil,hs,hx,hr];exact hK
theorem qG {P:Program} {ops:Array Oper} {o:Oper} {a:bD} {w:O} {K:bD->O->Prop} {Q:Exit->bD->O->Prop} {E:Prop} {f:FuncId} {args:Array J} {R:Ending->O->Prop}
  (hg:o.guard=bH) (hr:(execOp a.eval o).run P w=.ok (.enter f args) w) (hc:bQ P f args w R) (hR:∀ e w',R e w'->∃ v,e=.returned v/\K (a.put o.dst v) w') :
  if U o (yielded ops a.tmps)=au then aQ P o a w K Q else E:=by
 have hw:U o (yielded ops a.tmps)=au:=by simp [U,hg]
 rw [if_pos hw];unfold aQ;rw [hr,bg];refine hc.mono ?_;intro e w' h;obtain⟨v,rfl,hk⟩:=hR e w' h;exact hk
theorem gD {P : Program} {f : FuncId} {fn : Func} {c : Code} (hf : P.funcs[f]? = some fn) (hname : (fn.name == "runtime.NumGoroutine") = false) (hb : fn.body = some c) (args : Array Value) (w : World) : (callFunc f args).run P w = .ok (.enter f args) w := by
 have h1 : fn.name ≠ "runtime.NumGoroutine" := by simpa using hname
 simp [callFunc,hf,h1,hb]
theorem iB {P:Program} (ρ:V->J) (o:Oper) (x:V) (t:aD) (f:FuncId) (ho:o.op=.call { callee:=.value (.func f),args:=#[x],argTypes:=#[t] }) {v:J} (hx:ρ x=v) (hf:ρ (.func f)=.func (.func f) #[] #[]) (w:O)
  (hc:(callFunc f #[v]).run P w=.ok (.enter f #[v]) w):(execOp ρ o).run P w=.ok (.enter f #[v]) w:=by
 simp [execOp,ho,resolve,invoke,hx,hf,aN,hc]
theorem tN {P:Program} (ρ:V->J) (o:Oper) (x y:V) (t s:aD) (f:FuncId) (ho:o.op=.call { callee:=.value (.func f),args:=#[x,y],argTypes:=#[t,s] }) {v u:J} (hx:ρ x=v) (hy:ρ y=u) (hf:ρ (.func f)=.func (.func f) #[] #[]) (w:O)
  (hc:(callFunc f #[v,u]).run P w=.ok (.enter f #[v,u]) w):(execOp ρ o).run P w=.ok (.enter f #[v,u]) w:=by
 simp [execOp,ho,resolve,invoke,hx,hy,hf,aN,hc]
end Rw
namespace Rg
open Go.RowKit
theorem gL {P:Program} {ops:Array Oper} {Q:Exit->bD->O->Prop} {K:bD->O->Prop} {a:bD} {w:O} {i:Nat} {o:Oper} {f:FuncId} {args:Array J} {R:Ending->O->Prop}
  (ho:ops[i]?=Z o) (hg:o.guard=bH) (hr:(execOp a.eval o).run P w=.ok (.enter f args) w) (hc:bQ P f args w R) (hR:∀ e w',R e w'->∃ v,e=.returned v/\K (a.put o.dst v) w'):wpOp P ops Q i K a w:=by
 unfold wpOp;rw [ho];have hw:U o (yielded ops a.tmps)=au:=by simp [U,hg]
 simp only [hw,if_true];refine Or.inl ?_;unfold aQ;rw [hr,bg];refine hc.mono ?_;intro e w' h;obtain⟨v,rfl,hk⟩:=hR e w' h;exact hk
theorem AZ {P:Program} (ρ:V->J) (o:Oper) (x y z:V) (t:aD) (f:FuncId) (ho:o.op=.call { callee:=.value (.func f),args:=#[x,y,z],argTypes:=#[t,t,t] }) {v u s:J} (hx:ρ x=v) (hy:ρ y=u) (hz:ρ z=s) (hf:ρ (.func f)=.func (.func f) #[] #[]) (w:O)
  (hc:(callFunc f #[v,u,s]).run P w=.ok (.enter f #[v,u,s]) w):(execOp ρ o).run P w=.ok (.enter f #[v,u,s]) w:=by
 simp [execOp,ho,resolve,invoke,hx,hy,hz,hf,aN,hc]
theorem dW {P:Program} (ρ:V->J) (o:Oper) (s:aD) (x:V) (f:Nat) (ho:o.op=.fieldAddr s x f) {v:J} {w:O} (hr:(Instr.fieldAt s (ρ x) f).run P w=.ok v w):(execOp ρ o).run P w=.ok (.value v) w:=by
 unfold execOp;rw [ho];exact abv hr
theorem Tq {P:Program} (ρ:V->J) (o:Oper) (op:BinOp) (t:aD) (x y:V) (r:aD) (ho:o.op=.binOp op t x y r) {v:J} {w:O} (hr:(do eqGuard op t x y (ρ x) (ρ y); binOp op t (ρ x) (ρ y):Sem J).run P w=.ok v w):(execOp ρ o).run P w=.ok (.value v) w:=by
 unfold execOp;rw [ho];exact abv hr
end Rg
namespace In
open Go.RowKit Go.ChangeShapes Go.WideShapes
structure jX (W:O) (nv:J) (zs:List Int):Prop where
 shape:∃ ao cap,nv=aL ao zs.length cap
 at_:∀ (i:Nat) (z:Int),zs[i]?=Z z->(-9223372036854775808<=z/\z<=9223372036854775807)/\∃ p:bN,p.block<W.heap.size/\(∀ w,(aC 22 nv (aS aH i)).run aA w=.ok (aV (Z p)) w)/\W.cell? p=Z (aS aH z)
theorem jX.on {W W':O} {nv:J} {zs:List Int} (h:jX W nv zs) (hb:Below W.heap.size W W'):jX W' nv zs :=
 ⟨h.shape,fun i z hz=>by
  obtain⟨h1,p,h2,h3,h4⟩:=h.at_ i z hz;exact⟨h1,p,Nat.lt_of_lt_of_le h2 hb.size,h3,by rw [hb.cell h2]; exact h4⟩⟩
theorem uK {n:Int} (h:(Lit.int aH n).wf=au):-9223372036854775808<=n/\n<=9223372036854775807:=by
 have h2:(decide (IntKind.i64.min<=n) && decide (n<=IntKind.i64.max))=au:=h;rw [Bool.and_eq_true,decide_eq_true_eq,decide_eq_true_eq,show IntKind.i64.min=-9223372036854775808 by decide,show IntKind.i64.max=9223372036854775807 by decide] at h2;exact h2
theorem Mj:Tryz.prog.cellsOf 3=1:=by kernel_rfl
theorem Mk (a:bN) (m len cap:Nat) (h:m<len) (w:O):(aC 22 (aL (Z a) len cap) (aS aH m)).run aA w=.ok (aV (Z (a.add m))) w:=by
 have h1:(m:Int)<len:=by omega
 simp [go_sem,aK,h1]
theorem Al {H:Type} {enc:aD×J->H} {W:O} {sp:Nat->Bool} {held:Bool} {fuel:Nat} {v:J} {x:DataW H×List MemPlace}
  (hf:DataW.trod enc aA W 0 sp held fuel 22 [v]=Z x):∃ zs,zs.length<=maxLen/\jX W v zs:=by
 rcases open_ints aK aY Mj hf with⟨h1,_⟩|⟨a',len',cap',zs,h1,_,h3,h4,h5,_,h7,h8⟩
 ·have e:v=aL bH 0 0:=by simpa using h1
  rw [e];exact⟨[],Nat.zero_le _,⟨bH,0,rfl⟩,fun i z h=>by simp at h⟩
 ·have e:v=aL (Z a') len' cap':=by simpa using h1
  rw [e];have hle:len'<=zs.length:=by rw [h5]; split <;> omega
  have hl:(zs.take len').length=len':=by simp; omega
  refine⟨zs.take len',by omega,⟨Z a',cap',by rw [hl]⟩,fun i z hz=>?_⟩;obtain⟨hi,hzi⟩:=ak.1 hz;have hi2:i<len':=by omega
  have hz2:zs[i]'(by omega)=z:=by simpa using hzi
  have hc:=h7 i (by omega);have hg:zs.getD i 0=z:=by rw [<- hz2]; simp [List.getD,show i<zs.length by omega]
  rw [hg] at hc;exact⟨uK (h8 z (by rw [<- hz2]; exact aM _)),a'.add i,World.block_lt_of_cell? W _ hc,fun w=>Mk a' i len' cap' hi2 w,hc⟩
end In
namespace At
open Go.RowKit Va
abbrev A4:=ByteArray×Bool×Int×ByteArray
abbrev av (x:A4):J:=.agg #[ah x.1,bM x.2.1,aS aH x.2.2.1,ah x.2.2.2]
def afC (x:A4):List J:=[ah x.1,bM x.2.1,aS aH x.2.2.1,ah x.2.2.2]
def A8:List A4->List J
 | []=>[]
 | x::r=>.string x.1::bM x.2.1::aS aH x.2.2.1::ah x.2.2.2::A8 r
theorem Jb:∀ (l:List A4) (m:Nat) (x:A4),l[m]?=Z x->(A8 l)[m * 4]?=Z (ah x.1)/\(A8 l)[m * 4+1]?=Z (bM x.2.1)/\(A8 l)[m * 4+2]?=Z (aS aH x.2.2.1)/\(A8 l)[m * 4+3]?=Z (ah x.2.2.2)
 | [],m,x,h=>by simp at h
 | y::r,0,x,h=>by
  simp at h;subst h;exact⟨rfl,rfl,rfl,rfl⟩
 | y::r,m+1,x,h=>by
  have h2:=Jb r m x (by simpa using h);rw [show (m+1) * 4=m * 4+1+1+1+1 by omega,show m * 4+1+1+1+1+2=m * 4+2+1+1+1+1 by omega,show m * 4+1+1+1+1+3=m * 4+3+1+1+1+1 by omega];exact h2
theorem add_add (a:bN) (i j:Nat):(a.add i).add j=a.add (i+j):=by
 unfold Addr.add;by_cases hi:i=0 <;> by_cases hj:j=0 <;> simp [hi,hj,Nat.add_assoc]
def QG (W:O) (lv:J) (l:List A4):Prop :=
 (l=[]/\lv=aL bH 0 0)\/∃ (a:bN) (cap:Nat),lv=aL (Z a) l.length cap/\l.length<=cap/\cap<=maxLen/\∀ j u,(A8 l)[j]?=Z u->W.cell? (a.add j)=Z u
theorem QG.len {W:O} {lv:J} {l:List A4} (h:QG W lv l):∃ ao cap,lv=aL ao l.length cap:=by
 rcases h with⟨rfl,rfl⟩|⟨a,cap,rfl,_⟩
 ·exact⟨bH,0,rfl⟩
 ·exact⟨_,cap,rfl⟩
theorem Ml (a:bN) (m len cap:Nat) (h:m<len) (w:O):(aC 39 (aL (Z a) len cap) (aS aH m)).run aA w=.ok (aV (Z (a.add (m * 4)))) w:=by
 have h1:(m:Int)<len:=by omega
 simp [go_sem,Tryz.underlying39,h1]
theorem afD:Tryz.prog.stoodInHeld 156=aR:=by kernel_rfl
def Mq (x y:A4):Bool:=x.1.toList == y.1.toList && (x.2.1 == y.2.1 && x.2.2.1 == y.2.2.1 && x.2.2.2.toList == y.2.2.2.toList)
theorem aku (x y:A4) (r:Bool) (hr:Mq x y=r) (w:O):(binOp .neq 156 (av x) (av y)).run aA w=.ok (bM (!r)) w:=by
 have st:=afD;subst hr;obtain⟨a,b,c,d⟩:=x;obtain⟨a',b',c',d'⟩:=y;unfold Mq;by_cases h1:a.toList=a'.toList <;> by_cases h2:b=b' <;> by_cases h3:c=c' <;> by_cases h4:d.toList=d'.toList <;> simp [go_sem,Tryz.underlying156,Tryz.underlying154,Tryz.underlying4,aY,Tryz.underlying9,st,h1,h2,h3,h4]
end At
namespace Nm
def hor (l:List UInt8):Int:=l.foldl (fun h b=>h * 256+(b.toNat:Int)) 0
def nW (l:List UInt8):Int:=IntKind.i64.wrap (hor l)
end Nm
namespace Kp
open Go.RowKit Va In
def nm (i:Nat):ByteArray:=⟨#[UInt8.ofNat (97+i)]⟩
def wV:Array J:=#[ah ⟨#[97]⟩,ah ⟨#[98]⟩,ah ⟨#[99]⟩,ah ⟨#[100]⟩,ah ⟨#[101]⟩,ah ⟨#[102]⟩,ah ⟨#[103]⟩]
theorem ahy (i:Nat) (h:i<7):wV[i]?=Z (ah (nm i)):=by
 match i,h with
 | 0,_=>rfl
 | 1,_=>rfl
 | 2,_=>rfl
 | 3,_=>rfl
 | 4,_=>rfl
 | 5,_=>rfl
 | 6,_=>rfl
theorem QH (w:O):bQ aA 42 #[] w fun e w'=>e=.returned (aL (Z ⟨w.heap.size,0,bH⟩) 7 7)/\w'=w.alloc (.cells wV 9):=by
 go_enter Tryz.func42,Tryz.ntmps42;go_wp2;go_ret;exact⟨rfl,rfl⟩
def tO (zs:List Int) (i:Nat):Int:=if zs=[] then 0 else zs.getD (i % zs.length) 0
theorem Tt (nv:J) (zs:List Int) (i:Nat) (w:O) (hz:jX w nv zs) (hl:zs.length<=maxLen) (hi:i<=100) :
  bQ aA 44 #[nv,aS aH i] w fun e w'=>e=.returned (aS aH (tO zs i))/\w=w':=by
 obtain⟨ao,cap,rfl⟩:=hz.shape;unfold maxLen at hl;cases zs with
 | nil =>
  go_enter bJ,bI;go_wp2;go_ret;exact⟨rfl,rfl⟩
 | cons z r =>
  have hm:i % (z::r).length<(z::r).length:=bL _ (by simp);obtain⟨y,hy⟩:∃ y,(z::r)[i % (z::r).length]?=Z y:=⟨_,ay hm⟩;obtain⟨_,p,_,hix,hpc⟩:=hz.at_ _ y hy;have P:=Lib.hid (show tO (z::r) i=y by unfold tO; rw [if_neg (by simp),aG,hy]; rfl);have h0:((((z::r).length:Nat):Int) == 0)=aR:=by simp; omega
  have hne:(((z::r).length:Nat):Int)≠0:=by simp; omega
  have ht:(i:Int) % ((z::r).length:Nat)=((i % (z::r).length:Nat):Int):=rfl;have ht2:(i:Int).tmod ((z::r).length:Nat)=((i % (z::r).length:Nat):Int):=by
   rw [Int.tmod_eq_emod_of_nonneg (by omega)]; rfl
  have hn0:0<(((z::r).length:Nat):Int):=by simp
  generalize (z::r).length=n at *;generalize i % n=m at *;clear hz hy hm;go_enter bJ,bI;go_wp2;go_ret;exact⟨Wi.GU P.out.symm,rfl⟩
def odd (z:Int):Bool:=bits BinOp.and aH z 1 == 1
theorem Tv {W:O} {nv:J} {zs:List Int} (hz:jX W nv zs) (i:Nat):-9223372036854775808<=tO zs i/\tO zs i<=9223372036854775807:=by
 unfold tO
 split
 ·omega
 ·rename_i h
  have hm:i % zs.length<zs.length:=bL _ (List.length_pos_iff.2 h);have:=(hz.at_ _ _ (ay hm)).1;rw [aG,ay hm];exact this
end Kp
namespace Pr
open Go.RowKit Pu
def kC:List Cn->ByteArray->Nat
 | [],_=>0
 | x::r,n=>if X x.1.toList n.toList=au then kC r n+1 else 0
theorem wW:∀ l n,kC l n<=l.length
 | [],n=>aZ _
 | x::r,n=>by
  have:=wW r n;simp only [kC]
  split <;> simp; omega
theorem Oj:∀ (l:List Cn) (n:ByteArray) (k:Nat),k<=l.length->(∀ (j:Nat) (y:Cn),j<k->l[j]?=Z y->X y.1.toList n.toList=au)->(∀ y:Cn,l[k]?=Z y->X y.1.toList n.toList=aR)->kC l n=k
 | [],n,k,hk,_,_=>by simp at hk; simp [kC,hk]
 | x::r,n,0,_,_,h=>by simp [kC,h x rfl]
 | x::r,n,k+1,hk,h1,h2=>by
  simp only [kC];rw [if_pos (h1 0 x (by omega) rfl),Oj r n k (by simpa using hk) (fun j y hj hy=>h1 (j+1) y (by omega) (by simpa using hy)) (fun y hy=>h2 y (by simpa using hy))]
def kJ (l:List Cn) (n:ByteArray):Bool:=match l[kC l n]? with
 | some x=>decide (x.1=n)
 | none=>aR
def Tw (m:List Cn) (c:Cn):Option (List Cn):=match m[kC m c.1]? with
 | some x=>if x.1=c.1 then (fG x.2 c.2).map fun k=>m.set (kC m c.1) (x.1,k) else Z (m.take (kC m c.1)++c::m.drop (kC m c.1))
 | none=>Z (m.take (kC m c.1)++c::m.drop (kC m c.1))
theorem GV:∀ (m:List Cn) (c:Cn),o8 m c=Tw m c
 | [],c=>rfl
 | x::r,c=>by
  unfold Tw;simp only [o8,kC]
  split
  ·rw [GV r c,Tw];simp only [List.getElem?_cons_succ,List.take_succ_cons,List.drop_succ_cons,List.set_cons_succ];cases h:r[kC r c.1]? with
   | none=>simp
   | some y =>
    simp only
    split
    ·simp [Option.map_map,Function.comp_def]
    ·simp
  ·simp
theorem Eh {m:List Cn} {c:Cn} (h:kJ m c.1=au):∃ x,m[kC m c.1]?=Z x/\x.1=c.1/\o8 m c=(fG x.2 c.2).map fun k=>m.set (kC m c.1) (x.1,k):=by
 rw [GV];unfold kJ at h;unfold Tw;cases hx:m[kC m c.1]? with
 | none=>rw [hx] at h; cases h
 | some x =>
  rw [hx] at h;have e:x.1=c.1:=by simpa using h
  exact⟨x,rfl,e,by simp only; rw [if_pos e]⟩
theorem Am {m:List Cn} {c:Cn} (h:kJ m c.1=aR):o8 m c=Z (m.take (kC m c.1)++c::m.drop (kC m c.1)):=by
 rw [GV];unfold kJ at h;unfold Tw;cases hx:m[kC m c.1]? with
 | none=>rfl
 | some x =>
  rw [hx] at h;have e:¬ x.1=c.1:=by simpa using h
  simp only;rw [if_neg e]
theorem Jc:∀ a b:List UInt8,D a b<0↔X a b=au
 | [],[]=>by simp [D,X]
 | [],_::_=>by simp [D,X]
 | _::_,[]=>by simp [D,X]
 | a::x,b::y=>by
  simp only [D,X];by_cases h1:a<b
  ·rw [if_pos h1]; simp [h1]
  ·rw [if_neg h1];by_cases h2:b<a
   ·have h3:a≠b:=by rintro rfl; exact h1 h2
    rw [if_pos h2]; simp [h1,h3]
   ·have h3:a=b:=aX (aP.1 h2) (aP.1 h1);subst h3;rw [if_neg h2,Jc x y]; simp [h1]
theorem Jd:∀ a b:List UInt8,D a b=0↔a=b
 | [],[]=>by simp [D]
 | [],_::_=>by simp [D]
 | _::_,[]=>by simp [D]
 | a::x,b::y=>by
  simp only [D];by_cases h1:a<b
  ·rw [if_pos h1];have h3:a≠b:=by rintro rfl; exact absurd h1 (UInt8.lt_irrefl _)
   simp [h3]
  ·rw [if_neg h1];by_cases h2:b<a
   ·have h3:a≠b:=by rintro rfl; exact h1 h2
    rw [if_pos h2]; simp [h3]
   ·have h3:a=b:=aX (aP.1 h2) (aP.1 h1);subst h3;rw [if_neg h2,Jd x y]; simp
def GY (a b:ByteArray):Int:=D a.data.toList b.data.toList
theorem QI (a b:ByteArray):decide (GY a b<0)=X a.toList b.toList:=by
 rw [ByteArray.toList_eq,ByteArray.toList_eq,Bool.eq_iff_iff,decide_eq_true_eq];exact Jc _ _
theorem QJ (a b:ByteArray):GY a b=0↔a=b:=by
 unfold GY;rw [Jd];exact⟨qR,fun h=>by rw [h]⟩
theorem Ei {l:List Cn} (h:jW l) {i j:Nat} {x y:Cn} (hij:i<=j) (hi:l[i]?=Z x) (hj:l[j]?=Z y) {n:ByteArray} (hy:X y.1.toList n.toList=au):X x.1.toList n.toList=au:=by
 rcases aO i j with h1|h1
 ·obtain⟨a1,a2⟩:=ak.1 hi;obtain⟨b1,b2⟩:=ak.1 hj;have h2:=List.pairwise_iff_getElem.1 h i j a1 b1 h1;rw [a2,b2] at h2;exact VaP.AV _ _ _ h2 hy
 ·obtain rfl:i=j:=by omega
  rw [hi] at hj;obtain rfl:=Option.some.inj hj;exact hy
end Pr
end Go.Proofs.YtmklifheakemeaaGreat
