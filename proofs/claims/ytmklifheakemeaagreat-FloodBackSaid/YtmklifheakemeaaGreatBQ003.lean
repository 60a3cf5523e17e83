/-
  Numbers in memory, a. Conditions as told.
-/
import Derived.Test.YtmklifheakemeaaGreatBQ000
import Derived.Orders
import Derived.Deep.RegionLaw
import Derived.ChangeSlices
import Derived.Below
import Derived.Test.YtmklifheakemeaaGreatBQ002
import Derived.Test.YtmklifheakemeaaGreatBQ001
import Derived.Lib.Bytealg
set_option maxRecDepth 100000
set_option maxHeartbeats 64000000
open _root_.Array renaming getD->Y,getElem?_eq_some_iff->Z,getElem?_eq_getElem->aG,replicate->aY
open _root_.Bool renaming true->aj,false->aS
open _root_.Go renaming Value->J,World->O,Operand->V,TypeId->aB,Act->bf,Calls->bM
open Go.Deferred renaming ofValue->aL
open Go.Instr renaming indexAt->aJ,loadAt->bF
open Go.IntKind renaming i64->aM
open Go.Lib renaming compareBytes->D
open Go.Op renaming bytesLess->X
open Go.Oper renaming wp->aP,upon_enter->aZ
open Go.Proofs.Tryz renaming prog->aC,underlying22->aI,ntmps44->bH,func44->bI
open Go.Region renaming wanted->U,ready->aT,binds->bG
open Go.Result renaming andThen->ay
open Go.Value renaming string->aA,slice->aV,int->aX,pointer->bg
open _root_.List renaming getElem?_eq_some_iff->ah,getElem?_eq_getElem->au,getElem?_append_right->aD,getD_eq_getElem?_getD->aF,getElem?_append_left->aH,getElem_mem->aK,getElem?_take->aQ,getElem?_drop->aR
open _root_.Nat renaming lt_or_ge->aN,le_refl->aW,not_lt->bJ,mod_lt->bL
open _root_.Option renaming some->ak,none->bK
open _root_.UInt8 renaming not_lt->aO,le_antisymm->aU
namespace Go.Proofs.YtmklifheakemeaaGreat
namespace Nm
open Go.RowKit Rw
def EI:Ek Int:=⟨3,22,1,8,aX aM 0,fun n=>.int aM n,fun n=>[aX aM n]⟩
theorem abQ:(Tryz.prog.info? 3).map (fun i=>(i.zero,i.size,i.bytes))=ak (ak (aX aM 0),1,8):=by kernel_rfl
theorem JR:EI.Ok where
 hu:=aI
 info:=by
  have h:=abQ;cases hi:Tryz.prog.info? 3 with
  | none=>rw [hi] at h; cases h
  | some i =>
   rw [hi] at h;simp only [Option.map_some,Option.some.injEq,Prod.mk.injEq] at h;exact⟨i,hi,h.1,h.2.1,h.2.2⟩
 zs:=rfl
 len:=fun _=>rfl
 one:=fun x u hu=>by
  simp only [EI,List.mem_cons,List.not_mem_nil,or_false] at hu;rw [hu]
  rfl
 pos:=by decide
 few:=by decide
 load:=fun w p x h=>by
  have h0:=h 0 _ rfl;rw [add_zero] at h0;show (bF 3 (bg (ak p))).run aC w=.ok (aX aM x) w;simp [go_sem,h0]
abbrev qA (W:O) (v:J) (l:List Int):Prop:=Row EI W v l
abbrev vO (W:O) (B:Nat) (v:J) (l:List Int):Prop:=Own EI W B v l
theorem elI {W:O} {v:J} {l:List Int} {ao:Option Addr} {n c k:Nat} {x:Int} (h:qA W v l) (hv:v=aV ao n c) (hn:l.length=n) (hk:l[k]?=ak x) :
  ∃ p:Addr,(∀ w,(aJ 22 (aV ao n c) (aX aM k)).run aC w=.ok (bg (ak p)) w)/\p.block<W.heap.size/\∀ w,Below W.heap.size W w->w.cell? p=ak (aX aM x):=by
 obtain⟨p,h1,h3,h2⟩:=mH JR h hv hn hk;exact⟨p,h1,h3,fun w hw=>by
  have h0:=h2 w hw 0 _ rfl
  rwa [add_zero] at h0⟩
theorem Gg:∀ l:List Int,flat EI l=l.map (fun n=>.int aM n)
 | []=>rfl
 | x::r=>by
  show EI.cells x++flat EI r=_;rw [Gg r]
  rfl
end Nm
namespace Rg
open Go.RowKit
def left (L:Array Bool):Nat:=L.toList.countP (fun b=>!b)
theorem Ri (L:Array Bool) (i:Nat) (h:L.getD i aj=aS):left (L.setIfInBounds i aj)+1=left L:=by
 obtain⟨l⟩:=L;have hi:i<l.length:=by
  rcases aN i l.length with h0|h0
  ·exact h0
  ·exact absurd h (by simp [Y,bJ.2 h0])
 have hv:l[i]=aS:=by simpa [Y,hi] using h
 unfold left;simp only [List.setIfInBounds_toArray];rw [List.countP_set hi,hv];have hp:0<l.countP (fun b=>!b):=List.countP_pos_iff.2 ⟨l[i],aK hi,by rw [hv]; rfl⟩;simp;omega
theorem Pf (L:Array Bool) (h:left L=0) (i:Nat):L.getD i aj=aj:=by
 obtain⟨l⟩:=L;unfold left at h;rw [List.countP_eq_zero] at h;rcases aN i l.length with h0|h0
 ·have:=h l[i] (aK h0);simp [Y,h0];simpa using this
 ·simp [Y,bJ.2 h0]
def Pg (ops:Array Oper):Bool:=(List.range ops.size).all fun i=>match ops[i]? with
 | some o=>o.after.all fun e=>!Region.binds .any e || decide (e.on<i)
 | none=>aj
def done (L:Array Bool) (i:Nat):Prop:=L.getD i aS=aj
theorem Gh {ops:Array Oper} (hf:Pg ops=aj) {L:Array Bool} (hs:L.size=ops.size) (h:aT .any ops L=[]):∀ n,n<=ops.size->∀ i,i<n->done L i:=by
 intro n
 induction n with
 | zero=>intro _ i hi; omega
 | succ n ih =>
  intro hn i hi;rcases aN i n with h1|h1
  ·exact ih (by omega) i h1
  ·obtain rfl:i=n:=by omega
   cases hd:L.getD i aj
   ·exfalso;have hm:i∈aT .any ops L:=by
     rw [mem_ready];refine⟨hd,ops[i],aG (by omega),fun e he hbd=>?_⟩;have h2:=List.all_eq_true.1 hf i (List.mem_range.2 (by omega));rw [aG (by omega)] at h2;have h3:=Array.all_eq_true'.1 h2 e he;rw [hbd] at h3;exact ih (by omega) e.on (by simpa using h3)
    rw [h] at hm;cases hm
   ·unfold done;have hi2:i<L.size:=by omega
    simp [Y,hi2] at hd ⊢;exact hd
section
variable {P:Program} {ops:Array Oper} {Q:Exit->bf->O->Prop}
theorem J2 (I:Array Bool->bf->O->Prop) (hf:Pg ops=aj)
  (hstep:∀ L a w i o,L.size=ops.size->I L a w->ops[i]?=ak o->¬ done L i->(∀ e∈o.after,bG .any e=aj->done L e.on)->wpOp P ops Q i (I (L.setIfInBounds i aj)) a w)
  (hend:∀ L a w,I L a w->(∀ i,i<ops.size->done L i)->Q .normal a w) :
  ∀ (fuel:Nat) (L:Array Bool) (a:bf) (w:O),L.size=ops.size->left L<=fuel->I L a w->wpAny P .any ops Q fuel L a w:=by
 intro fuel
 induction fuel with
 | zero =>
  intro L a w hs hl hI;have hr:aT .any ops L=[]:=by
   rw [List.eq_nil_iff_forall_not_mem];intro i hi;have h1:=(mem_ready.1 hi).1;rw [Pf L (by omega) i] at h1;cases h1
  exact⟨hr,hend L a w hI (Gh hf hs hr ops.size (aW _))⟩
 | succ fuel ih =>
  intro L a w hs hl hI;refine⟨fun hr=>hend L a w hI (Gh hf hs hr ops.size (aW _)),fun i hi=>?_⟩;obtain⟨h1,o,h2,h3⟩:=mem_ready.1 hi;have hlt:i<ops.size:=(Z.1 h2).1;have hnd:¬ done L i:=by
   unfold done;have:i<L.size:=by omega
   simp [Y,this] at h1 ⊢;exact h1
  have hst:=hstep L a w i o hs hI h2 hnd (fun e he hb=>h3 e he hb);have hmono:∀ a' w',I (L.setIfInBounds i aj) a' w'->wpAny P .any ops Q fuel (L.setIfInBounds i aj) a' w':=fun a' w' h =>
   ih _ a' w' (by simpa using hs) (by have:=Ri L i h1; omega) h
  unfold wpOp at hst ⊢;rw [h2] at hst ⊢;simp only at hst ⊢
  split at hst
  ·rename_i hw
   rw [if_pos hw];rcases hst with hst|hst
   ·exact Or.inl (Oper.wp_mono hmono hst)
   ·exact Or.inr hst
  ·rename_i hw
   rw [if_neg hw];exact hmono _ _ hst
theorem ru (I:Array Bool->bf->O->Prop) {id:Nat} {a:bf} {w:O} {l:List Oper} (hm:P.follows .mixedOrders=aj) (hf:Pg l.toArray=aj)
  (h0:I (aY l.length aS) a { w with drawn:=w.drawn+1 })
  (hstep:∀ L a w i o,L.size=l.length->I L a w->l[i]?=ak o->¬ done L i->(∀ e∈o.after,bG .any e=aj->done L e.on)->wpOp P l.toArray Q i (I (L.setIfInBounds i aj)) a w)
  (hend:∀ L a w,I L a w->(∀ i,i<l.length->done L i)->Q .normal a w):(Code.region id l.toArray aj).wp P Q a w:=by
 refine wp_region_any hm (J2 (ops:=l.toArray) I hf (fun L a w i o hs hI ho=>hstep L a w i o (by simpa using hs) hI (by simpa using ho)) (fun L a w hI hd=>hend L a w hI (by simpa using hd)) _ _ _ _ (by simp) ?_ (by simpa using h0));unfold left;have h2:=List.countP_le_length (p:=fun b:Bool=>!b) (l:=List.replicate l.length aS);simpa using h2
end
theorem iC {L:Array Bool} {i:Nat} (h:i<L.size) (j:Nat):done (L.setIfInBounds i aj) j↔j=i\/done L j:=by
 unfold done;by_cases e:j=i
 ·subst e; simp [Y,h]
 ·by_cases hj:j<L.size
  ·have h2:i≠j:=fun x=>e x.symm;simp [Y,hj,e,h2]
  ·simp [Y,hj,e]
theorem gN (n j:Nat):¬ done (aY n aS) j:=by
 unfold done;by_cases hj:j<n <;> simp [Y,hj]
theorem dD {P:Program} {ops:Array Oper} {Q:Exit->bf->O->Prop} {K:bf->O->Prop} {a:bf} {w w':O} {i:Nat} {o:Oper} {v:J}
  (ho:ops[i]?=ak o) (hg:o.guard=bK) (hr:(execOp a.eval o).run P w=.ok (.value v) w') (h:K (a.put o.dst v) w'):wpOp P ops Q i K a w:=by
 unfold wpOp;rw [ho];have hw:U o (yielded ops a.tmps)=aj:=by simp [U,hg]
 simp only [hw,if_true];refine Or.inl ?_;unfold aP;rw [hr];exact h
theorem Zf {P:Program} {s:Sem J} {w w':O} {v:J} (h:s.run P w=.ok v w'):(do pure (Next.value (<- s)):Sem Next).run P w=.ok (.value v) w':=by
 simp [go_sem,h]
theorem fZ {P:Program} (ρ:V->J) (o:Oper) (s x:V) (t:aB) (ho:o.op=.call { callee:=.builtin .append,args:=#[s,x],argTypes:=#[t,t] }) {v x' v':J} {w w':O}
  (hs:ρ s=v) (hx:ρ x=x') (hrun:(Builtin.append_ #[t,t] o.type #[v,x']).run P w=.ok v' w'):(execOp ρ o).run P w=.ok (.value v') w':=by
 simp [execOp,ho,resolve,invoke,builtin,hs,hx,hrun,ay]
theorem kG {P:Program} (ρ:V->J) (o:Oper) (t:aB) (x:V) (l h m:Option V) (ho:o.op=.slice t x l h m) {v:J} {w:O} (hr:(Instr.sliceAt t (ρ x) (l.map ρ) (h.map ρ) (m.map ρ)).run P w=.ok v w) :
  (execOp ρ o).run P w=.ok (.value v) w:=by
 simp [execOp,ho,hr,ay]
theorem og {P:Program} (ρ:V->J) (o:Oper) (t:aB) (x i:V) (ho:o.op=.indexAddr t x i) {v:J} {w:O} (hr:(aJ t (ρ x) (ρ i)).run P w=.ok v w) :
  (execOp ρ o).run P w=.ok (.value v) w:=by
 simp [execOp,ho,hr,ay]
theorem dW {P:Program} (ρ:V->J) (o:Oper) (t:aB) (x:V) (ho:o.op=.load t x) {v:J} {w:O} (hr:(bF t (ρ x)).run P w=.ok v w) :
  (execOp ρ o).run P w=.ok (.value v) w:=by
 simp [execOp,ho,hr,ay]
theorem jd {P:Program} (ρ:V->J) (o:Oper) (t:aB) (n:Nat) (parts:Array (Nat×V)) (ho:o.op=.buildSlice t n parts) {ps:Array (Nat×J)} (hp:parts.map (fun x=>(x.1,ρ x.2))=ps) {v:J} {w w':O} (hr:(Instr.buildSlice t n ps).run P w=.ok v w') :
  (execOp ρ o).run P w=.ok (.value v) w':=by
 subst hp;simp [execOp,ho,hr,ay]
theorem gq {P:Program} (ρ:V->J) (o:Oper) (x:V) (ho:o.op=.move x) (w:O):(execOp ρ o).run P w=.ok (.value (ρ x)) w:=by
 simp [execOp,ho]
theorem kI {P:Program} (ρ:V->J) (o:Oper) (x:V) (ho:o.op=.assign x) (w:O):(execOp ρ o).run P w=.ok (.value (ρ x)) w:=by
 simp [execOp,ho]
theorem size_put (a:bf) (d:Nat) (v:J):(a.put (ak d) v).tmps.size=a.tmps.size:=by simp [Act.put]
theorem get_put (a:bf) (d:Nat) (v:J) (j:Nat) (hd:j≠d):(a.put (ak d) v).tmps[j]?=a.tmps[j]?:=by
 have h2:d≠j:=fun x=>hd x.symm;simp [Act.put,h2]
theorem dM {a:bf} {j:Nat} {v:J} (h:a.tmps[j]?=ak v):a.eval (.tmp j)=v:=by
 have h1:=(Z.1 h).1;have h2:=(Z.1 h).2;simp [Act.eval,Y,h1,h2]
theorem XH {P:Program} {ops:Array Oper} {Q:Exit->bf->O->Prop} {K:bf->O->Prop} {a:bf} {w w':O} {i:Nat} {o:Oper}
  (ho:ops[i]?=ak o) (hg:o.guard=bK) (hr:(execOp a.eval o).run P w=.ok .skip w') (h:K (a.put o.dst undef) w'):wpOp P ops Q i K a w:=by
 unfold wpOp;rw [ho];have hw:U o (yielded ops a.tmps)=aj:=by simp [U,hg]
 simp only [hw,if_true];refine Or.inl ?_;unfold aP;rw [hr];exact h
theorem gG {a:bf} {bl:List J} (d0 m:Nat) (df:a.defers=[]) (sz:a.tmps.size=bl.length) (hle:d0+m<=bl.length) (kp:∀ j,(j<d0\/d0+m<=j)->a.tmps[j]?=bl[j]?) :
  ∃ mid:List J,mid.length=m/\a=⟨(bl.take d0++(mid++bl.drop (d0+m))).toArray,[]⟩:=by
 obtain⟨tmps,defers⟩:=a;have hd:defers=[]:=df;have hs:tmps.size=bl.length:=sz;have hk:∀ j,(j<d0\/d0+m<=j)->tmps[j]?=bl[j]?:=kp;subst hd;have hl:((tmps.toList.drop d0).take m).length=m:=by simp; omega
 refine⟨(tmps.toList.drop d0).take m,hl,congrArg (fun x=>(⟨x,[]⟩:bf)) ?_⟩;apply Array.ext_getElem?;intro j
 conv=>rhs; rw [List.getElem?_toArray]
 by_cases h1:j<d0
 ·rw [hk j (Or.inl h1),aH (by simp; omega),aQ,if_pos h1]
 ·have ht:(bl.take d0).length=d0:=by simp; omega
  rw [aD (by omega),ht];by_cases h2:j<d0+m
  ·rw [aH (by omega),aQ,if_pos (by omega),aR,Array.getElem?_toList,show d0+(j-d0)=j by omega]
  ·rw [hk j (Or.inr (by omega)),aD (by omega),hl,aR,show d0+m+(j-d0-m)=j by omega]
end Rg
namespace Rw
open Go.RowKit
theorem eY {P:Program} {ops:Array Oper} {o:Oper} {a:bf} {w w':O} {K:bf->O->Prop} {Q:Exit->bf->O->Prop} {E:Prop}
  (hg:o.guard=bK) (s x:V) (t:aB) (hop:o.op=.call { callee:=.builtin .append,args:=#[s,x],argTypes:=#[t,t] }) {v xv v':J} (hs:a.eval s=v) (hx:a.eval x=xv)
  (hr:(Builtin.append_ #[t,t] o.type #[v,xv]).run P w=.ok v' w') (hK:K (a.put o.dst v') w') :
  if U o (yielded ops a.tmps)=aj then aP P o a w K Q else E:=by
 have hw:U o (yielded ops a.tmps)=aj:=by simp [U,hg]
 rw [if_pos hw];unfold aP execOp;simp only [hop,resolve,invoke,builtin,Sem.run_bind,Sem.run_pure,Result.andThen_ok,List.map_toArray,List.map_cons,List.map_nil,hs,hx,hr];exact hK
theorem qb {P:Program} {ops:Array Oper} {o:Oper} {a:bf} {w:O} {K:bf->O->Prop} {Q:Exit->bf->O->Prop} {E:Prop} {f:FuncId} {args:Array J} {R:Ending->O->Prop}
  (hg:o.guard=bK) (hr:(execOp a.eval o).run P w=.ok (.enter f args) w) (hc:bM P f args w R) (hR:∀ e w',R e w'->∃ v,e=.returned v/\K (a.put o.dst v) w') :
  if U o (yielded ops a.tmps)=aj then aP P o a w K Q else E:=by
 have hw:U o (yielded ops a.tmps)=aj:=by simp [U,hg]
 rw [if_pos hw];unfold aP;rw [hr,aZ];refine hc.mono ?_;intro e w' h;obtain⟨v,rfl,hk⟩:=hR e w' h;exact hk
theorem gD {P : Program} {f : FuncId} {fn : Func} {c : Code} (hf : P.funcs[f]? = some fn) (hname : (fn.name == "runtime.NumGoroutine") = false) (hb : fn.body = some c) (args : Array Value) (w : World) : (callFunc f args).run P w = .ok (.enter f args) w := by
 have h1 : fn.name ≠ "runtime.NumGoroutine" := by simpa using hname
 simp [callFunc,hf,h1,hb]
theorem iD {P:Program} (ρ:V->J) (o:Oper) (x:V) (t:aB) (f:FuncId) (ho:o.op=.call { callee:=.value (.func f),args:=#[x],argTypes:=#[t] }) {v:J} (hx:ρ x=v) (hf:ρ (.func f)=.func (.func f) #[] #[]) (w:O)
  (hc:(callFunc f #[v]).run P w=.ok (.enter f #[v]) w):(execOp ρ o).run P w=.ok (.enter f #[v]) w:=by
 simp [execOp,ho,resolve,invoke,hx,hf,aL,hc]
theorem zw {P:Program} (ρ:V->J) (o:Oper) (x y:V) (t s:aB) (f:FuncId) (ho:o.op=.call { callee:=.value (.func f),args:=#[x,y],argTypes:=#[t,s] }) {v u:J} (hx:ρ x=v) (hy:ρ y=u) (hf:ρ (.func f)=.func (.func f) #[] #[]) (w:O)
  (hc:(callFunc f #[v,u]).run P w=.ok (.enter f #[v,u]) w):(execOp ρ o).run P w=.ok (.enter f #[v,u]) w:=by
 simp [execOp,ho,resolve,invoke,hx,hy,hf,aL,hc]
end Rw
namespace Rg
open Go.RowKit
theorem gT {P:Program} {ops:Array Oper} {Q:Exit->bf->O->Prop} {K:bf->O->Prop} {a:bf} {w:O} {i:Nat} {o:Oper} {f:FuncId} {args:Array J} {R:Ending->O->Prop}
  (ho:ops[i]?=ak o) (hg:o.guard=bK) (hr:(execOp a.eval o).run P w=.ok (.enter f args) w) (hc:bM P f args w R) (hR:∀ e w',R e w'->∃ v,e=.returned v/\K (a.put o.dst v) w'):wpOp P ops Q i K a w:=by
 unfold wpOp;rw [ho];have hw:U o (yielded ops a.tmps)=aj:=by simp [U,hg]
 simp only [hw,if_true];refine Or.inl ?_;unfold aP;rw [hr,aZ];refine hc.mono ?_;intro e w' h;obtain⟨v,rfl,hk⟩:=hR e w' h;exact hk
theorem zA {P:Program} (ρ:V->J) (o:Oper) (x y z:V) (t:aB) (f:FuncId) (ho:o.op=.call { callee:=.value (.func f),args:=#[x,y,z],argTypes:=#[t,t,t] }) {v u s:J} (hx:ρ x=v) (hy:ρ y=u) (hz:ρ z=s) (hf:ρ (.func f)=.func (.func f) #[] #[]) (w:O)
  (hc:(callFunc f #[v,u,s]).run P w=.ok (.enter f #[v,u,s]) w):(execOp ρ o).run P w=.ok (.enter f #[v,u,s]) w:=by
 simp [execOp,ho,resolve,invoke,hx,hy,hz,hf,aL,hc]
theorem dU {P:Program} (ρ:V->J) (o:Oper) (s:aB) (x:V) (f:Nat) (ho:o.op=.fieldAddr s x f) {v:J} {w:O} (hr:(Instr.fieldAt s (ρ x) f).run P w=.ok v w):(execOp ρ o).run P w=.ok (.value v) w:=by
 unfold execOp;rw [ho];exact Zf hr
theorem Rj {P:Program} (ρ:V->J) (o:Oper) (op:BinOp) (t:aB) (x y:V) (r:aB) (ho:o.op=.binOp op t x y r) {v:J} {w:O} (hr:(do eqGuard op t x y (ρ x) (ρ y); binOp op t (ρ x) (ρ y):Sem J).run P w=.ok v w):(execOp ρ o).run P w=.ok (.value v) w:=by
 unfold execOp;rw [ho];exact Zf hr
end Rg
namespace In
open Go.RowKit Go.ChangeShapes Go.WideShapes
structure kK (W:O) (nv:J) (zs:List Int):Prop where
 shape:∃ ao cap,nv=aV ao zs.length cap
 at_:∀ (i:Nat) (z:Int),zs[i]?=ak z->(-9223372036854775808<=z/\z<=9223372036854775807)/\∃ p:Addr,p.block<W.heap.size/\(∀ w,(aJ 22 nv (aX aM i)).run aC w=.ok (bg (ak p)) w)/\W.cell? p=ak (aX aM z)
theorem kK.on {W W':O} {nv:J} {zs:List Int} (h:kK W nv zs) (hb:Below W.heap.size W W'):kK W' nv zs :=
 ⟨h.shape,fun i z hz=>by
  obtain⟨h1,p,h2,h3,h4⟩:=h.at_ i z hz;exact⟨h1,p,Nat.lt_of_lt_of_le h2 hb.size,h3,by rw [hb.cell h2]; exact h4⟩⟩
theorem tH {n:Int} (h:(Lit.int aM n).wf=aj):-9223372036854775808<=n/\n<=9223372036854775807:=by
 have h2:(decide (IntKind.i64.min<=n) && decide (n<=IntKind.i64.max))=aj:=h;rw [Bool.and_eq_true,decide_eq_true_eq,decide_eq_true_eq,show IntKind.i64.min=-9223372036854775808 by decide,show IntKind.i64.max=9223372036854775807 by decide] at h2;exact h2
theorem J3:Tryz.prog.cellsOf 3=1:=by kernel_rfl
theorem J4 (a:Addr) (m len cap:Nat) (h:m<len) (w:O):(aJ 22 (aV (ak a) len cap) (aX aM m)).run aC w=.ok (bg (ak (a.add m))) w:=by
 have h1:(m:Int)<len:=by omega
 simp [go_sem,aI,h1]
theorem yV {H:Type} {enc:aB×J->H} {W:O} {sp:Nat->Bool} {held:Bool} {fuel:Nat} {v:J} {x:DataW H×List MemPlace}
  (hf:DataW.trod enc aC W 0 sp held fuel 22 [v]=ak x):∃ zs,zs.length<=maxLen/\kK W v zs:=by
 rcases open_ints aI Tryz.underlying3 J3 hf with⟨h1,_⟩|⟨a',len',cap',zs,h1,_,h3,h4,h5,_,h7,h8⟩
 ·have e:v=aV bK 0 0:=by simpa using h1
  rw [e];exact⟨[],Nat.zero_le _,⟨bK,0,rfl⟩,fun i z h=>by simp at h⟩
 ·have e:v=aV (ak a') len' cap':=by simpa using h1
  rw [e];have hle:len'<=zs.length:=by rw [h5]; split <;> omega
  have hl:(zs.take len').length=len':=by simp; omega
  refine⟨zs.take len',by omega,⟨ak a',cap',by rw [hl]⟩,fun i z hz=>?_⟩;obtain⟨hi,hzi⟩:=ah.1 hz;have hi2:i<len':=by omega
  have hz2:zs[i]'(by omega)=z:=by simpa using hzi
  have hc:=h7 i (by omega);have hg:zs.getD i 0=z:=by rw [<- hz2]; simp [List.getD,show i<zs.length by omega]
  rw [hg] at hc;exact⟨tH (h8 z (by rw [<- hz2]; exact aK _)),a'.add i,World.block_lt_of_cell? W _ hc,fun w=>J4 a' i len' cap' hi2 w,hc⟩
end In
namespace At
open Go.RowKit Va
abbrev A4:=ByteArray×Bool×Int×ByteArray
abbrev av (x:A4):J:=.agg #[aA x.1,.bool x.2.1,aX aM x.2.2.1,aA x.2.2.2]
def abR (x:A4):List J:=[aA x.1,.bool x.2.1,aX aM x.2.2.1,aA x.2.2.2]
end At
namespace Nm
def hor (l:List UInt8):Int:=l.foldl (fun h b=>h * 256+(b.toNat:Int)) 0
def rV (l:List UInt8):Int:=IntKind.i64.wrap (hor l)
end Nm
namespace Kp
open Go.RowKit Va In
def nm (i:Nat):ByteArray:=⟨#[UInt8.ofNat (97+i)]⟩
def vP:Array J:=#[aA ⟨#[97]⟩,aA ⟨#[98]⟩,aA ⟨#[99]⟩,aA ⟨#[100]⟩,aA ⟨#[101]⟩,aA ⟨#[102]⟩,aA ⟨#[103]⟩]
theorem ad6 (i:Nat) (h:i<7):vP[i]?=ak (aA (nm i)):=by
 match i,h with
 | 0,_=>rfl
 | 1,_=>rfl
 | 2,_=>rfl
 | 3,_=>rfl
 | 4,_=>rfl
 | 5,_=>rfl
 | 6,_=>rfl
theorem Ph (w:O):bM aC 42 #[] w fun e w'=>e=.returned (aV (ak ⟨w.heap.size,0,bK⟩) 7 7)/\w'=w.alloc (.cells vP 9):=by
 go_enter Tryz.func42,Tryz.ntmps42;go_wp2;go_ret;exact⟨rfl,rfl⟩
def sw (zs:List Int) (i:Nat):Int:=if zs=[] then 0 else zs.getD (i % zs.length) 0
theorem Rk (nv:J) (zs:List Int) (i:Nat) (w:O) (hz:kK w nv zs) (hl:zs.length<=maxLen) (hi:i<=100) :
  bM aC 44 #[nv,aX aM i] w fun e w'=>e=.returned (aX aM (sw zs i))/\w=w':=by
 obtain⟨ao,cap,rfl⟩:=hz.shape;unfold maxLen at hl;cases zs with
 | nil =>
  go_enter bI,bH;go_wp2;go_ret;exact⟨rfl,rfl⟩
 | cons z r =>
  have hm:i % (z::r).length<(z::r).length:=bL _ (by simp);obtain⟨y,hy⟩:∃ y,(z::r)[i % (z::r).length]?=ak y:=⟨_,au hm⟩;obtain⟨_,p,_,hix,hpc⟩:=hz.at_ _ y hy;have P:=Lib.hid (show sw (z::r) i=y by unfold sw; rw [if_neg (by simp),aF,hy]; rfl);have h0:((((z::r).length:Nat):Int) == 0)=aS:=by simp; omega
  have hne:(((z::r).length:Nat):Int)≠0:=by simp; omega
  have ht:(i:Int) % ((z::r).length:Nat)=((i % (z::r).length:Nat):Int):=rfl;have ht2:(i:Int).tmod ((z::r).length:Nat)=((i % (z::r).length:Nat):Int):=by
   rw [Int.tmod_eq_emod_of_nonneg (by omega)]; rfl
  have hn0:0<(((z::r).length:Nat):Int):=by simp
  generalize (z::r).length=n at *;generalize i % n=m at *;clear hz hy hm;go_enter bI,bH;go_wp2;go_ret;exact⟨Wi.Es P.out.symm,rfl⟩
def odd (z:Int):Bool:=bits BinOp.and aM z 1 == 1
theorem Rm {W:O} {nv:J} {zs:List Int} (hz:kK W nv zs) (i:Nat):-9223372036854775808<=sw zs i/\sw zs i<=9223372036854775807:=by
 unfold sw
 split
 ·omega
 ·rename_i h
  have hm:i % zs.length<zs.length:=bL _ (List.length_pos_iff.2 h);have:=(hz.at_ _ _ (au hm)).1;rw [aF,au hm];exact this
end Kp
namespace Pr
open Go.RowKit Pu
def jV:List Cn->ByteArray->Nat
 | [],_=>0
 | x::r,n=>if X x.1.toList n.toList=aj then jV r n+1 else 0
theorem vQ:∀ l n,jV l n<=l.length
 | [],n=>aW _
 | x::r,n=>by
  have:=vQ r n;simp only [jV]
  split <;> simp; omega
theorem Me:∀ (l:List Cn) (n:ByteArray) (k:Nat),k<=l.length->(∀ (j:Nat) (y:Cn),j<k->l[j]?=ak y->X y.1.toList n.toList=aj)->(∀ y:Cn,l[k]?=ak y->X y.1.toList n.toList=aS)->jV l n=k
 | [],n,k,hk,_,_=>by simp at hk; simp [jV,hk]
 | x::r,n,0,_,_,h=>by simp [jV,h x rfl]
 | x::r,n,k+1,hk,h1,h2=>by
  simp only [jV];rw [if_pos (h1 0 x (by omega) rfl),Me r n k (by simpa using hk) (fun j y hj hy=>h1 (j+1) y (by omega) (by simpa using hy)) (fun y hy=>h2 y (by simpa using hy))]
def ko (l:List Cn) (n:ByteArray):Bool:=match l[jV l n]? with
 | some x=>decide (x.1=n)
 | none=>aS
def Rn (m:List Cn) (c:Cn):Option (List Cn):=match m[jV m c.1]? with
 | some x=>if x.1=c.1 then (fE x.2 c.2).map fun k=>m.set (jV m c.1) (x.1,k) else ak (m.take (jV m c.1)++c::m.drop (jV m c.1))
 | none=>ak (m.take (jV m c.1)++c::m.drop (jV m c.1))
theorem Et:∀ (m:List Cn) (c:Cn),nZ m c=Rn m c
 | [],c=>rfl
 | x::r,c=>by
  unfold Rn;simp only [nZ,jV]
  split
  ·rw [Et r c,Rn];simp only [List.getElem?_cons_succ,List.take_succ_cons,List.drop_succ_cons,List.set_cons_succ];cases h:r[jV r c.1]? with
   | none=>simp
   | some y =>
    simp only
    split
    ·simp [Option.map_map,Function.comp_def]
    ·simp
  ·simp
theorem CK {m:List Cn} {c:Cn} (h:ko m c.1=aj):∃ x,m[jV m c.1]?=ak x/\x.1=c.1/\nZ m c=(fE x.2 c.2).map fun k=>m.set (jV m c.1) (x.1,k):=by
 rw [Et];unfold ko at h;unfold Rn;cases hx:m[jV m c.1]? with
 | none=>rw [hx] at h; cases h
 | some x =>
  rw [hx] at h;have e:x.1=c.1:=by simpa using h
  exact⟨x,rfl,e,by simp only; rw [if_pos e]⟩
theorem yX {m:List Cn} {c:Cn} (h:ko m c.1=aS):nZ m c=ak (m.take (jV m c.1)++c::m.drop (jV m c.1)):=by
 rw [Et];unfold ko at h;unfold Rn;cases hx:m[jV m c.1]? with
 | none=>rfl
 | some x =>
  rw [hx] at h;have e:¬ x.1=c.1:=by simpa using h
  simp only;rw [if_neg e]
theorem Gi:∀ a b:List UInt8,D a b<0↔X a b=aj
 | [],[]=>by simp [D,X]
 | [],_::_=>by simp [D,X]
 | _::_,[]=>by simp [D,X]
 | a::x,b::y=>by
  simp only [D,X];by_cases h1:a<b
  ·rw [if_pos h1]; simp [h1]
  ·rw [if_neg h1];by_cases h2:b<a
   ·have h3:a≠b:=by rintro rfl; exact h1 h2
    rw [if_pos h2]; simp [h1,h3]
   ·have h3:a=b:=aU (aO.1 h2) (aO.1 h1);subst h3;rw [if_neg h2,Gi x y]; simp [h1]
theorem Gj:∀ a b:List UInt8,D a b=0↔a=b
 | [],[]=>by simp [D]
 | [],_::_=>by simp [D]
 | _::_,[]=>by simp [D]
 | a::x,b::y=>by
  simp only [D];by_cases h1:a<b
  ·rw [if_pos h1];have h3:a≠b:=by rintro rfl; exact absurd h1 (UInt8.lt_irrefl _)
   simp [h3]
  ·rw [if_neg h1];by_cases h2:b<a
   ·have h3:a≠b:=by rintro rfl; exact h1 h2
    rw [if_pos h2]; simp [h3]
   ·have h3:a=b:=aU (aO.1 h2) (aO.1 h1);subst h3;rw [if_neg h2,Gj x y]; simp
def Eu (a b:ByteArray):Int:=D a.data.toList b.data.toList
theorem Pj (a b:ByteArray):decide (Eu a b<0)=X a.toList b.toList:=by
 rw [ByteArray.toList_eq,ByteArray.toList_eq,Bool.eq_iff_iff,decide_eq_true_eq];exact Gi _ _
theorem Pk (a b:ByteArray):Eu a b=0↔a=b:=by
 unfold Eu;rw [Gj];exact⟨qz,fun h=>by rw [h]⟩
theorem CQ {l:List Cn} (h:jN l) {i j:Nat} {x y:Cn} (hij:i<=j) (hi:l[i]?=ak x) (hj:l[j]?=ak y) {n:ByteArray} (hy:X y.1.toList n.toList=aj):X x.1.toList n.toList=aj:=by
 rcases aN i j with h1|h1
 ·obtain⟨a1,a2⟩:=ah.1 hi;obtain⟨b1,b2⟩:=ah.1 hj;have h2:=List.pairwise_iff_getElem.1 h i j a1 b1 h1;rw [a2,b2] at h2;exact VaP.zm _ _ _ h2 hy
 ·obtain rfl:i=j:=by omega
  rw [hi] at hj;obtain rfl:=Option.some.inj hj;exact hy
end Pr
end Go.Proofs.YtmklifheakemeaaGreat
