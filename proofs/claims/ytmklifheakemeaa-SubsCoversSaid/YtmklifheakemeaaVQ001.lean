/-
  A region that draws . Conditions as told.
-/
import Derived.Orders
import Derived.Test.YtmklifheakemeaaVQ000
import Derived.Deep.RegionLaw
import Derived.Lib.AppendZerosOnto
import Derived.Lib.Overlaps
import Derived.Laws.Externs
set_option maxRecDepth 100000
set_option maxHeartbeats 64000000
open _root_.Array renaming getD->ah,getElem?_eq_some_iff->aF,length_toList->aM,getElem?_eq_getElem->aP,replicate->bI
open _root_.Bool renaming true->aJ,false->bS
open _root_.Go renaming World->J,Value->U,Operand->Y,TypeId->aj,Act->bH
open Go.Builtin renaming copy_->aC,append_->aL,firstCells->aY,zeroCells->bA
open Go.Oper renaming wp->aR
open Go.Proofs.Try renaming prog->aB
open Go.Region renaming wanted->O,ready->bf,binds->bO
open Go.Result renaming andThen->aI,andThen_ok->aS
open Go.Value renaming slice->au,int->bD
open _root_.List renaming length_take->X,append_assoc->Z,getElem?_take->ak,length_append->ay,size_toArray->aD,length_drop->aG,getElem?_append_right->aN,getElem?_drop->aO,getElem?_append_left->aQ,map_toArray->aT,take_of_length_le->aU,drop_of_length_le->aV,take_append_drop->aW,map_cons->aX,map_nil->bg,getElem_mem->bF,take_left'->bJ,take_left->bK,take_take->bL
open _root_.Nat renaming mul_le_mul_right->D,min_eq_left->V,add_mul->aK,lt_or_ge->aZ,add_zero->bq,mul_le_mul->bM,le_total->bP,le_trans->bQ,le_refl->bU,not_lt->bV
open _root_.Option renaming some->aA,none->aH
namespace Go.Proofs.Ytmklifheakemeaa
namespace Rg
open Go.RowKit
def left (L:Array Bool):Nat:=L.toList.countP (fun b=>!b)
theorem Ez (L:Array Bool) (i:Nat) (h:L.getD i aJ=bS):left (L.setIfInBounds i aJ)+1=left L:=by
 obtain⟨l⟩:=L;have hi:i<l.length:=by
  rcases aZ i l.length with h0|h0
  ·exact h0
  ·exact absurd h (by simp [ah,bV.2 h0])
 have hv:l[i]=bS:=by simpa [ah,hi] using h
 unfold left;simp only [List.setIfInBounds_toArray];rw [List.countP_set hi,hv];have hp:0<l.countP (fun b=>!b):=List.countP_pos_iff.2 ⟨l[i],bF hi,by rw [hv]; rfl⟩;simp;omega
theorem Cy (L:Array Bool) (h:left L=0) (i:Nat):L.getD i aJ=aJ:=by
 obtain⟨l⟩:=L;unfold left at h;rw [List.countP_eq_zero] at h;rcases aZ i l.length with h0|h0
 ·have:=h l[i] (bF h0);simp [ah,h0];simpa using this
 ·simp [ah,bV.2 h0]
def xA (ops:Array Oper):Bool:=(List.range ops.size).all fun i=>match ops[i]? with
 | some o=>o.after.all fun e=>!Region.binds .any e || decide (e.on<i)
 | none=>aJ
def done (L:Array Bool) (i:Nat):Prop:=L.getD i bS=aJ
theorem xB {ops:Array Oper} (hf:xA ops=aJ) {L:Array Bool} (hs:L.size=ops.size) (h:bf .any ops L=[]):∀ n,n<=ops.size->∀ i,i<n->done L i:=by
 intro n
 induction n with
 | zero=>intro _ i hi; omega
 | succ n ih =>
  intro hn i hi;rcases aZ i n with h1|h1
  ·exact ih (by omega) i h1
  ·obtain rfl:i=n:=by omega
   cases hd:L.getD i aJ
   ·exfalso;have hm:i∈bf .any ops L:=by
     rw [mem_ready];refine⟨hd,ops[i],aP (by omega),fun e he hbd=>?_⟩;have h2:=List.all_eq_true.1 hf i (List.mem_range.2 (by omega));rw [aP (by omega)] at h2;have h3:=Array.all_eq_true'.1 h2 e he;rw [hbd] at h3;exact ih (by omega) e.on (by simpa using h3)
    rw [h] at hm;cases hm
   ·unfold done;have hi2:i<L.size:=by omega
    simp [ah,hi2] at hd ⊢;exact hd
section
variable {P:Program} {ops:Array Oper} {Q:Exit->bH->J->Prop}
theorem zW (I:Array Bool->bH->J->Prop) (hf:xA ops=aJ)
  (hstep:∀ L a w i o,L.size=ops.size->I L a w->ops[i]?=aA o->¬ done L i->(∀ e∈o.after,bO .any e=aJ->done L e.on)->wpOp P ops Q i (I (L.setIfInBounds i aJ)) a w)
  (hend:∀ L a w,I L a w->(∀ i,i<ops.size->done L i)->Q .normal a w) :
  ∀ (fuel:Nat) (L:Array Bool) (a:bH) (w:J),L.size=ops.size->left L<=fuel->I L a w->wpAny P .any ops Q fuel L a w:=by
 intro fuel
 induction fuel with
 | zero =>
  intro L a w hs hl hI;have hr:bf .any ops L=[]:=by
   rw [List.eq_nil_iff_forall_not_mem];intro i hi;have h1:=(mem_ready.1 hi).1;rw [Cy L (by omega) i] at h1;cases h1
  exact⟨hr,hend L a w hI (xB hf hs hr ops.size (bU _))⟩
 | succ fuel ih =>
  intro L a w hs hl hI;refine⟨fun hr=>hend L a w hI (xB hf hs hr ops.size (bU _)),fun i hi=>?_⟩;obtain⟨h1,o,h2,h3⟩:=mem_ready.1 hi;have hlt:i<ops.size:=(aF.1 h2).1;have hnd:¬ done L i:=by
   unfold done;have:i<L.size:=by omega
   simp [ah,this] at h1 ⊢;exact h1
  have hst:=hstep L a w i o hs hI h2 hnd (fun e he hb=>h3 e he hb);have hmono:∀ a' w',I (L.setIfInBounds i aJ) a' w'->wpAny P .any ops Q fuel (L.setIfInBounds i aJ) a' w':=fun a' w' h =>
   ih _ a' w' (by simpa using hs) (by have:=Ez L i h1; omega) h
  unfold wpOp at hst ⊢;rw [h2] at hst ⊢;simp only at hst ⊢
  split at hst
  ·rename_i hw
   rw [if_pos hw];rcases hst with hst|hst
   ·exact Or.inl (Oper.wp_mono hmono hst)
   ·exact Or.inr hst
  ·rename_i hw
   rw [if_neg hw];exact hmono _ _ hst
theorem jO (I:Array Bool->bH->J->Prop) {id:Nat} {a:bH} {w:J} {l:List Oper} (hm:P.follows .mixedOrders=aJ) (hf:xA l.toArray=aJ)
  (h0:I (bI l.length bS) a { w with drawn:=w.drawn+1 })
  (hstep:∀ L a w i o,L.size=l.length->I L a w->l[i]?=aA o->¬ done L i->(∀ e∈o.after,bO .any e=aJ->done L e.on)->wpOp P l.toArray Q i (I (L.setIfInBounds i aJ)) a w)
  (hend:∀ L a w,I L a w->(∀ i,i<l.length->done L i)->Q .normal a w):(Code.region id l.toArray aJ).wp P Q a w:=by
 refine wp_region_any hm (zW (ops:=l.toArray) I hf (fun L a w i o hs hI ho=>hstep L a w i o (by simpa using hs) hI (by simpa using ho)) (fun L a w hI hd=>hend L a w hI (by simpa using hd)) _ _ _ _ (by simp) ?_ (by simpa using h0));unfold left;have h2:=List.countP_le_length (p:=fun b:Bool=>!b) (l:=List.replicate l.length bS);simpa using h2
end
theorem eX {L:Array Bool} {i:Nat} (h:i<L.size) (j:Nat):done (L.setIfInBounds i aJ) j↔j=i\/done L j:=by
 unfold done;by_cases e:j=i
 ·subst e; simp [ah,h]
 ·by_cases hj:j<L.size
  ·have h2:i≠j:=fun x=>e x.symm;simp [ah,hj,e,h2]
  ·simp [ah,hj,e]
theorem fG (n j:Nat):¬ done (bI n bS) j:=by
 unfold done;by_cases hj:j<n <;> simp [ah,hj]
theorem dz {P:Program} {ops:Array Oper} {Q:Exit->bH->J->Prop} {K:bH->J->Prop} {a:bH} {w w':J} {i:Nat} {o:Oper} {v:U}
  (ho:ops[i]?=aA o) (hg:o.guard=aH) (hr:(execOp a.eval o).run P w=.ok (.value v) w') (h:K (a.put o.dst v) w'):wpOp P ops Q i K a w:=by
 unfold wpOp;rw [ho];have hw:O o (yielded ops a.tmps)=aJ:=by simp [O,hg]
 simp only [hw,if_true];refine Or.inl ?_;unfold aR;rw [hr];exact h
theorem Jz {P:Program} {s:Sem U} {w w':J} {v:U} (h:s.run P w=.ok v w'):(do pure (Next.value (<- s)):Sem Next).run P w=.ok (.value v) w':=by
 simp [go_sem,h]
theorem qx {P:Program} (ρ:Y->U) (o:Oper) (s x:Y) (t:aj) (ho:o.op=.call { callee:=.builtin .append,args:=#[s,x],argTypes:=#[t,t] }) {v x' v':U} {w w':J}
  (hs:ρ s=v) (hx:ρ x=x') (hrun:(aL #[t,t] o.type #[v,x']).run P w=.ok v' w'):(execOp ρ o).run P w=.ok (.value v') w':=by
 simp [execOp,ho,resolve,invoke,builtin,hs,hx,hrun,aI]
theorem xC {P:Program} (ρ:Y->U) (o:Oper) (t:aj) (x:Y) (l h m:Option Y) (ho:o.op=.slice t x l h m) {v:U} {w:J} (hr:(Instr.sliceAt t (ρ x) (l.map ρ) (h.map ρ) (m.map ρ)).run P w=.ok v w) :
  (execOp ρ o).run P w=.ok (.value v) w:=by
 simp [execOp,ho,hr,aI]
theorem iE {P:Program} (ρ:Y->U) (o:Oper) (t:aj) (x i:Y) (ho:o.op=.indexAddr t x i) {v:U} {w:J} (hr:(Instr.indexAt t (ρ x) (ρ i)).run P w=.ok v w) :
  (execOp ρ o).run P w=.ok (.value v) w:=by
 simp [execOp,ho,hr,aI]
theorem dV {P:Program} (ρ:Y->U) (o:Oper) (t:aj) (x:Y) (ho:o.op=.load t x) {v:U} {w:J} (hr:(Instr.loadAt t (ρ x)).run P w=.ok v w) :
  (execOp ρ o).run P w=.ok (.value v) w:=by
 simp [execOp,ho,hr,aI]
theorem o9 {P:Program} (ρ:Y->U) (o:Oper) (t:aj) (n:Nat) (parts:Array (Nat×Y)) (ho:o.op=.buildSlice t n parts) {ps:Array (Nat×U)} (hp:parts.map (fun x=>(x.1,ρ x.2))=ps) {v:U} {w w':J} (hr:(Instr.buildSlice t n ps).run P w=.ok v w') :
  (execOp ρ o).run P w=.ok (.value v) w':=by
 subst hp;simp [execOp,ho,hr,aI]
theorem eH {P:Program} (ρ:Y->U) (o:Oper) (x:Y) (ho:o.op=.move x) (w:J):(execOp ρ o).run P w=.ok (.value (ρ x)) w:=by
 simp [execOp,ho]
theorem ig {P:Program} (ρ:Y->U) (o:Oper) (x:Y) (ho:o.op=.assign x) (w:J):(execOp ρ o).run P w=.ok (.value (ρ x)) w:=by
 simp [execOp,ho]
theorem size_put (a:bH) (d:Nat) (v:U):(a.put (aA d) v).tmps.size=a.tmps.size:=by simp [Act.put]
theorem get_put (a:bH) (d:Nat) (v:U) (j:Nat) (hd:j≠d):(a.put (aA d) v).tmps[j]?=a.tmps[j]?:=by
 have h2:d≠j:=fun x=>hd x.symm;simp [Act.put,h2]
theorem dF {a:bH} {j:Nat} {v:U} (h:a.tmps[j]?=aA v):a.eval (.tmp j)=v:=by
 have h1:=(aF.1 h).1;have h2:=(aF.1 h).2;simp [Act.eval,ah,h1,h2]
theorem Ik {P:Program} {ops:Array Oper} {Q:Exit->bH->J->Prop} {K:bH->J->Prop} {a:bH} {w w':J} {i:Nat} {o:Oper}
  (ho:ops[i]?=aA o) (hg:o.guard=aH) (hr:(execOp a.eval o).run P w=.ok .skip w') (h:K (a.put o.dst undef) w'):wpOp P ops Q i K a w:=by
 unfold wpOp;rw [ho];have hw:O o (yielded ops a.tmps)=aJ:=by simp [O,hg]
 simp only [hw,if_true];refine Or.inl ?_;unfold aR;rw [hr];exact h
theorem gQ {a:bH} {bl:List U} (d0 m:Nat) (df:a.defers=[]) (sz:a.tmps.size=bl.length) (hle:d0+m<=bl.length) (kp:∀ j,(j<d0\/d0+m<=j)->a.tmps[j]?=bl[j]?) :
  ∃ mid:List U,mid.length=m/\a=⟨(bl.take d0++(mid++bl.drop (d0+m))).toArray,[]⟩:=by
 obtain⟨tmps,defers⟩:=a;have hd:defers=[]:=df;have hs:tmps.size=bl.length:=sz;have hk:∀ j,(j<d0\/d0+m<=j)->tmps[j]?=bl[j]?:=kp;subst hd;have hl:((tmps.toList.drop d0).take m).length=m:=by simp; omega
 refine⟨(tmps.toList.drop d0).take m,hl,congrArg (fun x=>(⟨x,[]⟩:bH)) ?_⟩;apply Array.ext_getElem?;intro j
 conv=>rhs; rw [List.getElem?_toArray]
 by_cases h1:j<d0
 ·rw [hk j (Or.inl h1),aQ (by simp; omega),ak,if_pos h1]
 ·have ht:(bl.take d0).length=d0:=by simp; omega
  rw [aN (by omega),ht];by_cases h2:j<d0+m
  ·rw [aQ (by omega),ak,if_pos (by omega),aO,Array.getElem?_toList,show d0+(j-d0)=j by omega]
  ·rw [hk j (Or.inr (by omega)),aN (by omega),hl,aO,show d0+m+(j-d0-m)=j by omega]
end Rg
namespace Rw
open Go.RowKit
theorem rz {P:Program} {ops:Array Oper} {o:Oper} {a:bH} {w w':J} {K:bH->J->Prop} {Q:Exit->bH->J->Prop} {E:Prop}
  (hg:o.guard=aH) (s x:Y) (t:aj) (hop:o.op=.call { callee:=.builtin .append,args:=#[s,x],argTypes:=#[t,t] }) {v xv v':U} (hs:a.eval s=v) (hx:a.eval x=xv)
  (hr:(aL #[t,t] o.type #[v,xv]).run P w=.ok v' w') (hK:K (a.put o.dst v') w') :
  if O o (yielded ops a.tmps)=aJ then aR P o a w K Q else E:=by
 have hw:O o (yielded ops a.tmps)=aJ:=by simp [O,hg]
 rw [if_pos hw];unfold aR execOp;simp only [hop,resolve,invoke,builtin,Sem.run_bind,Sem.run_pure,aS,aT,aX,bg,hs,hx,hr];exact hK
theorem kW {P:Program} {ops:Array Oper} {o:Oper} {a:bH} {w:J} {K:bH->J->Prop} {Q:Exit->bH->J->Prop} {E:Prop} {f:FuncId} {args:Array U} {R:Ending->J->Prop}
  (hg:o.guard=aH) (hr:(execOp a.eval o).run P w=.ok (.enter f args) w) (hc:Calls P f args w R) (hR:∀ e w',R e w'->∃ v,e=.returned v/\K (a.put o.dst v) w') :
  if O o (yielded ops a.tmps)=aJ then aR P o a w K Q else E:=by
 have hw:O o (yielded ops a.tmps)=aJ:=by simp [O,hg]
 rw [if_pos hw];unfold aR;rw [hr,Oper.upon_enter];refine hc.mono ?_;intro e w' h;obtain⟨v,rfl,hk⟩:=hR e w' h;exact hk
theorem eT {P : Program} {f : FuncId} {fn : Func} {c : Code} (hf : P.funcs[f]? = some fn) (hname : (fn.name == "runtime.NumGoroutine") = false) (hb : fn.body = some c) (args : Array Value) (w : World) : (callFunc f args).run P w = .ok (.enter f args) w := by
 have h1 : fn.name ≠ "runtime.NumGoroutine" := by simpa using hname
 simp [callFunc,hf,h1,hb]
theorem gT {P:Program} (ρ:Y->U) (o:Oper) (x:Y) (t:aj) (f:FuncId) (ho:o.op=.call { callee:=.value (.func f),args:=#[x],argTypes:=#[t] }) {v:U} (hx:ρ x=v) (hf:ρ (.func f)=.func (.func f) #[] #[]) (w:J)
  (hc:(callFunc f #[v]).run P w=.ok (.enter f #[v]) w):(execOp ρ o).run P w=.ok (.enter f #[v]) w:=by
 simp [execOp,ho,resolve,invoke,hx,hf,Deferred.ofValue,hc]
theorem jh {P:Program} (ρ:Y->U) (o:Oper) (x y:Y) (t s:aj) (f:FuncId) (ho:o.op=.call { callee:=.value (.func f),args:=#[x,y],argTypes:=#[t,s] }) {v u:U} (hx:ρ x=v) (hy:ρ y=u) (hf:ρ (.func f)=.func (.func f) #[] #[]) (w:J)
  (hc:(callFunc f #[v,u]).run P w=.ok (.enter f #[v,u]) w):(execOp ρ o).run P w=.ok (.enter f #[v,u]) w:=by
 simp [execOp,ho,resolve,invoke,hx,hy,hf,Deferred.ofValue,hc]
variable {α:Type} {E:Ek α}
theorem below_setRow {B g:Nat} {W w:J} (h:Below B W w) (hB:B<=g) (cs:Array U):Below B W (w.setRow g cs) :=
 ⟨h.os,h.tape,h.output,by simp [World.setRow]; exact h.size,fun k hk=>by
  have hne:g≠k:=by omega
  have h2:=h.block k hk;simp [World.setRow,Array.getElem?_modify,hne,h2]⟩
theorem dH.set {w:J} {g:Nat} {cur:Array U} {t:aj} (h:dH w g cur t) (cs:Array U):dH (w.setRow g cs) g cs t:=setRow_heap w g cur cs t (0,0) h
theorem dH.other {w:J} {g b:Nat} {cur:Array U} {t:aj} (h:dH w b cur t) (hne:b≠g) (cs:Array U):dH (w.setRow g cs) b cur t:=(setRow_other w g b cs hne).trans h
theorem dH.shape {w:J} {b:Nat} {cur:Array U} {t:aj} (h:dH w b cur t):w.shape? b=aA (t,cur.size):=by
 unfold dH at h;simp [World.shape?,h]
theorem fD {W:J} {B:Nat} {v:U} {l:List α} (h:Own E W B v l):(v=au aH 0 0/\l=[])\/∃ g cap cur,v=au (aA ⟨g,0,aH⟩) l.length cap/\B<=g/\dH W g cur E.t/\l.length<=cap/\cap<=maxLen/\cur.size=cap * E.n/\cur.toList.take (l.length * E.n)=flat E l:=by
 rcases h.2 with⟨h1,h2⟩|⟨g,cap,cur,h1,h2,h3,h4,h5,h6,h7⟩
 ·exact Or.inl ⟨h1,List.eq_nil_of_length_eq_zero h2⟩
 ·exact Or.inr ⟨g,cap,cur,h1,h2,h3,h4,h5,h6,h7⟩
theorem lC (K:E.Ok) {W:J} {B g cap n:Nat} {cur:Array U} {l:List α} (hn:n=l.length) (hB:B<=g) (hb:dH W g cur E.t) (h1:n<=cap) (h2:cap<=maxLen) (h3:cur.size=cap * E.n) (h4:cur.toList.take (n * E.n)=flat E l):Own E W B (au (aA ⟨g,0,aH⟩) n cap) l:=by
 subst hn;exact⟨dG K l,Or.inr ⟨g,cap,cur,rfl,hB,hb,h1,h2,h3,h4⟩⟩
theorem lD (K:E.Ok) (l:List α) (k:Nat):(flat E l).take (k * E.n)=flat E (l.take k):=by
 rcases bP k l.length with h|h
 ·conv=>lhs; rw [<- aW k l,fB]
  have e:(flat E (l.take k)).length=k * E.n:=by rw [dG K,X,V h]
  rw [<- e,bK]
 ·rw [aU h,aU];rw [dG K];exact D _ h
theorem uW (K:E.Ok) (l:List α) (k:Nat):(flat E l).drop (k * E.n)=flat E (l.drop k):=by
 rcases bP k l.length with h|h
 ·conv=>lhs; rw [<- aW k l,fB]
  have e:(flat E (l.take k)).length=k * E.n:=by rw [dG K,X,V h]
  rw [<- e,List.drop_left]
 ·rw [aV h,aV]
  ·rfl
  rw [dG K];exact D _ h
theorem rJ (K:E.Ok) {W:J} {g:Nat} {cur:Array U} {t:aj} {l:List α} (hb:dH W g cur t) (ht:cur.toList.take (l.length * E.n)=flat E l) (k:Nat):∀ j u,(flat E (l.drop k))[j]?=aA u->W.cell? ((⟨g,k * E.n,aH⟩:Addr).add j)=aA u:=by
 intro j u hj;rw [Addr.add_lit,hb.cell];rw [<- uW K,aO,<- ht,ak] at hj
 split at hj
 ·simpa using hj
 ·cases hj
theorem pq {W:J} {b:Nat} {cs:Array U} {t:aj} {x:α} (hb:dH W b cs t) (hc:cs.toList=E.cells x):∀ j u,(flat E [x])[j]?=aA u->W.cell? ((⟨b,0,aH⟩:Addr).add j)=aA u:=by
 intro j u hj;rw [lS,hb.cell];rw [Cx,<- hc] at hj;simpa using hj
theorem gI (K:E.Ok) (g k len cap:Nat) (h:k<=len) (hc:k<cap) (w:J):(Instr.sliceAt E.ts (au (aA ⟨g,0,aH⟩) len cap) (aA (bD .i64 k)) aH aH).run aB w=.ok (au (aA ⟨g,k * E.n,aH⟩) (len-k) (cap-k)) w:=by
 rw [rG K ⟨g,0,aH⟩ k len cap h w,if_neg (by omega),lS]
theorem pE (K:E.Ok) {w:J} {g o nd cd ns sc:Nat} {a:Addr} {cur:Array U} {m:List α} (hb:dH w g cur E.t) (hm:∀ j u,(flat E m)[j]?=aA u->w.cell? (a.add j)=aA u) (hk:min ns nd=m.length) (hr:(o+m.length) * E.n<=cur.size) (ty:aj) :
  (aC #[E.ts,E.ts] ty #[au (aA ⟨g,o * E.n,aH⟩) nd cd,au (aA a) ns sc]).run aB w=.ok (bD .i64 m.length) (w.setRow g (cur.toList.take (o * E.n)++flat E m++cur.toList.drop ((o+m.length) * E.n)).toArray):=by
 obtain⟨i,i1,i2,i3,i4⟩:=K.info;have hl:=run_loadCells_list (P:=aB) w a (flat E m) hm;have hst:=run_storeCells_at aB g (o * E.n) E.t (flat E m) 0 cur w hb (by rw [dG K,bq,<- aK]; exact hr) (lg K m);rw [dG K] at hl;have e:o * E.n+0+(flat E m).length=(o+m.length) * E.n:=by rw [dG K,bq,aK]
 rw [e,bq] at hst;simp [aC,run_underlying K.hu,Builtin.lenOf,aY,sizeOf,typeInfo,i1,i3,hk,hl,goInt];simpa using congrArg (fun r=>r.andThen fun _ w=>Result.ok (bD .i64 m.length) w) hst
/-! ### one element more, in the middle -/
section
variable {l:List α} {k cap:Nat} {cur cs:Array U} {c:α}
theorem qy (K:E.Ok) (hk:k<l.length) (hcap:l.length+1<=cap) (hsz:cur.size=cap * E.n) (ht:cur.toList.take (l.length * E.n)=flat E l) (g b:Nat) (_hne:b≠g) :
  ∃ R1 R2:Array U,
   (∀ (W:J) (ty:aj) (nd dc ns sc:Nat),dH W g cur E.t->min ns nd=l.length-k->(aC #[E.ts,E.ts] ty #[au (aA ⟨g,(k+1) * E.n,aH⟩) nd dc,au (aA ⟨g,k * E.n,aH⟩) ns sc]).run aB W=.ok (bD .i64 ((l.length-k:Nat):Int)) (W.setRow g R1)) /\
   (∀ (W:J) (ty:aj) (nd dc:Nat),dH W g R1 E.t->dH W b cs E.t->cs.toList=E.cells c->1<=nd->(aC #[E.ts,E.ts] ty #[au (aA ⟨g,k * E.n,aH⟩) nd dc,au (aA ⟨b,0,aH⟩) 1 1]).run aB W=.ok (bD .i64 1) (W.setRow g R2)) /\
   (∀ (W:J) (B:Nat),B<=g->cap<=maxLen->dH W g R2 E.t->Own E W B (au (aA ⟨g,0,aH⟩) (l.length+1) cap) (l.take k++c::l.drop k)):=by
 have hkl:(l.drop k).length=l.length-k:=by simp
 have hs1:(cur.toList.take ((k+1) * E.n)++flat E (l.drop k)++cur.toList.drop ((k+1+(l.drop k).length) * E.n)).length=cap * E.n:=by
  have h1:(k+1) * E.n<=cap * E.n:=D _ (by omega);have h2:(k+1+(l.drop k).length) * E.n<=cap * E.n:=D _ (by omega);simp only [ay,X,aG,aM,dG K,hsz];rw [V h1];have h3:(k+1+(l.drop k).length) * E.n=(k+1) * E.n+(l.drop k).length * E.n:=aK ..;simp only [aG] at h2 h3 ⊢;omega
 refine⟨(cur.toList.take ((k+1) * E.n)++flat E (l.drop k)++cur.toList.drop ((k+1+(l.drop k).length) * E.n)).toArray,
  ((cur.toList.take ((k+1) * E.n)++flat E (l.drop k)++cur.toList.drop ((k+1+(l.drop k).length) * E.n)).take (k * E.n)++flat E [c]++(cur.toList.take ((k+1) * E.n)++flat E (l.drop k)++cur.toList.drop ((k+1+(l.drop k).length) * E.n)).drop ((k+1) * E.n)).toArray,?_,?_,?_⟩
 ·intro W ty nd dc ns sc hb hm;have h:=pE K (o:=k+1) (m:=l.drop k) (nd:=nd) (cd:=dc) (ns:=ns) (sc:=sc) hb (rJ K hb ht k) (by rw [hkl]; exact hm) (by rw [hkl,hsz]; exact D _ (by omega)) ty;rw [hkl] at h ⊢;exact h
 ·intro W ty nd dc hb hx hc hn;have h:=pE K (o:=k) (m:=[c]) (nd:=nd) (cd:=dc) (ns:=1) (sc:=1) hb (pq hx hc) (by simp; omega) (by rw [aD,hs1]; exact D _ (by simp; omega)) ty;simpa using h
 ·intro W B hB hm hb;have p1:(cur.toList.take ((k+1) * E.n)).length=(k+1) * E.n:=by
   rw [X,aM,hsz];exact V (D _ (by omega))
  have p2:(cur.toList.take ((k+1) * E.n)++flat E (l.drop k)++cur.toList.drop ((k+1+(l.drop k).length) * E.n)).take (k * E.n)=flat E (l.take k):=by
   rw [Z,List.take_append_of_le_length (by rw [p1]; exact D _ (by omega)),bL,V (D _ (by omega)),<- lD K,<- ht,bL,V (D _ (by omega))]
  have p3:(cur.toList.take ((k+1) * E.n)++flat E (l.drop k)++cur.toList.drop ((k+1+(l.drop k).length) * E.n)).drop ((k+1) * E.n)=flat E (l.drop k)++cur.toList.drop ((k+1+(l.drop k).length) * E.n):=by
   rw [Z,List.drop_left' p1]
  have e:flat E (l.take k)++flat E [c]++flat E (l.drop k)=flat E (l.take k++c::l.drop k):=by
   rw [fB,show c::l.drop k=[c]++l.drop k from rfl,fB,Z]
  have ln:(l.take k++c::l.drop k).length=l.length+1:=by simp; omega
  have q:(flat E (l.take k)++flat E [c]++flat E (l.drop k)).length=(l.length+1) * E.n:=by rw [e,dG K,ln]
  refine lC K ln.symm hB hb hcap hm ?_ ?_
  ·rw [aD,p2,p3,<- Z,ay,q,aG,show cur.toList.length=cap * E.n from Array.length_toList.trans hsz,hkl];have h1:(l.length+1) * E.n<=cap * E.n:=D _ hcap;rw [show k+1+(l.length-k)=l.length+1 by omega];omega
  ·rw [p2,p3,<- Z];exact (bJ q).trans e
theorem rM (K:E.Ok) (tn:aj) (htn:Try.prog.underlying tn=aA (.int .i64)) (hk:k<l.length) (hl:l.length<=1000) (hcap:cap<l.length+1) (hlc:l.length<=cap) (ht:cur.toList.take (l.length * E.n)=flat E l) (W:J) (g b:Nat) (hb:dH W g cur E.t) (_hbW:b<W.heap.size) :
  ∃ (G:Nat) (R1 R2 R3:Array U),l.length+1<=G/\G<=maxLen /\
   (∀ ty,(aL #[E.ts,tn] ty #[au (aA ⟨g,0,aH⟩) k cap,bD .i64 ((l.length:Int)+1-k)]).run aB W=.ok (au (aA ⟨W.heap.size,0,aH⟩) (l.length+1) G) (W.drew.alloc (.cells R1 E.t))) /\
   (∀ (w:J) (ty:aj) (nd dc:Nat),dH w W.heap.size R1 E.t->dH w b cs E.t->cs.toList=E.cells c->1<=nd->(aC #[E.ts,E.ts] ty #[au (aA ⟨W.heap.size,k * E.n,aH⟩) nd dc,au (aA ⟨b,0,aH⟩) 1 1]).run aB w=.ok (bD .i64 1) (w.setRow W.heap.size R2)) /\
   (∀ (w:J) (ty:aj) (nd dc ns sc:Nat),dH w W.heap.size R2 E.t->dH w g cur E.t->min ns nd=l.length-k->(aC #[E.ts,E.ts] ty #[au (aA ⟨W.heap.size,(k+1) * E.n,aH⟩) nd dc,au (aA ⟨g,k * E.n,aH⟩) ns sc]).run aB w=.ok (bD .i64 ((l.length-k:Nat):Int)) (w.setRow W.heap.size R3)) /\
   (∀ (w:J) (B:Nat),B<=W.heap.size->dH w W.heap.size R3 E.t->Own E w B (au (aA ⟨W.heap.size,0,aH⟩) (l.length+1) G) (l.take k++c::l.drop k)):=by
 obtain⟨i,i1,i2,i3,i4⟩:=K.info;have hf:=K.few;have hpos:=K.pos;have hkl:(l.drop k).length=l.length-k:=by simp
 have hold:(aY i.size k (au (aA ⟨g,0,aH⟩) k cap)).run aB W.drew=.ok (flat E (l.take k)).toArray W.drew :=
  run_firstCells_some (P:=aB) (w:=W.drew) i.size k ⟨g,0,aH⟩ k cap (flat E (l.take k)) (by rw [dG K,X,V (by omega),i3]) (fun j u hj=>by
   rw [lS];show W.cell? _=_;rw [hb.cell];rw [<- lD K,<- ht,ak] at hj
   split at hj
   ·rw [ak] at hj
    split at hj
    ·simpa using hj
    ·cases hj
   ·cases hj)
 have happ:=fun ty=>Lib.run_append_grow_zeros (P:=aB) W E.ts tn ty E.t i _ .i64 .i64 K.hu htn i1 i2 (aA ⟨g,0,aH⟩) k cap (flat E (l.take k)) hold (l.length+1-k) (by omega) (by rw [i3]; exact hpos) (by omega) (by omega)
  (by rw [i4]; exact bQ (bM (show l.length+1-k<=2000 by omega) hf) (by decide))
  (growslice_fits (by omega) (by rw [i4]; exact bQ (bM (show k+(l.length+1-k)<=2000 by omega) hf) (by decide)))
 rw [show k+(l.length+1-k)=l.length+1 by omega] at happ;have hG1:=grownCap_ge W (l.length+1) cap E.t;have hG2:=grownCap_le_maxLen W (l.length+1) cap E.t (by unfold maxLen; omega);generalize grownCap W (l.length+1) cap E.t=G at happ hG1 hG2;obtain⟨R1,O9⟩:∃ R1:Array U,R1=(flat E (l.take k)).toArray++bA E.z.cells (l.length+1-k)++bA E.z.cells (G-(l.length+1)):=⟨_,rfl⟩;rw [<- O9] at happ;have hs0:R1.size=G * E.n:=by
  rw [O9];simp only [Array.size_append,aD,size_zeroCells,K.zs,dG K,X,V (Nat.le_of_lt hk),<- aK];rw [show k+(l.length+1-k)+(G-(l.length+1))=G by omega]
 have hh:R1.toList.take (k * E.n)=flat E (l.take k):=by
  rw [O9];simp only [Array.toList_append,Z];have e:(flat E (l.take k)).length=k * E.n:=by rw [dG K,X,V (by omega)]
  rw [<- e];simp
 have q1:(flat E [c]).length=1 * E.n:=by rw [dG K]; rfl
 have q0:(R1.toList.take (k * E.n)).length=k * E.n:=by
  rw [hh,dG K,X,V (by omega)]
 have hs2:(R1.toList.take (k * E.n)++flat E [c]++R1.toList.drop ((k+[c].length) * E.n)).length=G * E.n:=by
  have h1:(k+1) * E.n<=G * E.n:=D _ (by omega);have h2:(k+1) * E.n=k * E.n+1 * E.n:=aK ..;simp only [ay,q0,q1,aG,aM,hs0,List.length_singleton];omega
 refine⟨G,R1,(R1.toList.take (k * E.n)++flat E [c]++R1.toList.drop ((k+[c].length) * E.n)).toArray,
  ((R1.toList.take (k * E.n)++flat E [c]++R1.toList.drop ((k+[c].length) * E.n)).take ((k+1) * E.n)++flat E (l.drop k)++(R1.toList.take (k * E.n)++flat E [c]++R1.toList.drop ((k+[c].length) * E.n)).drop ((k+1+(l.drop k).length) * E.n)).toArray,hG1,hG2,?_,?_,?_,?_⟩
 ·intro ty;have h:=happ ty;rw [show ((l.length+1-k:Nat):Int)=(l.length:Int)+1-k by omega] at h;exact h
 ·intro w ty nd dc hb' hx hc hn;have h:=pE K (o:=k) (m:=[c]) (nd:=nd) (cd:=dc) (ns:=1) (sc:=1) hb' (pq hx hc) (by simp; omega) (by rw [hs0]; exact D _ (by simp; omega)) ty;simpa using h
 ·intro w ty nd dc ns sc hb' hx hm;have h:=pE K (o:=k+1) (m:=l.drop k) (nd:=nd) (cd:=dc) (ns:=ns) (sc:=sc) hb' (rJ K hx ht k) (by rw [hkl]; exact hm) (by rw [hkl,aD,hs2]; exact D _ (by omega)) ty;rw [hkl] at h ⊢;exact h
 ·intro w B hB hb';have p2:(R1.toList.take (k * E.n)++flat E [c]++R1.toList.drop ((k+[c].length) * E.n)).take ((k+1) * E.n)=flat E (l.take k)++flat E [c]:=by
   have e:(R1.toList.take (k * E.n)++flat E [c]).length=(k+1) * E.n:=by rw [ay,q0,q1,<- aK]
   rw [<- e,bK,hh]
  have e:flat E (l.take k)++flat E [c]++flat E (l.drop k)=flat E (l.take k++c::l.drop k):=by
   rw [fB,show c::l.drop k=[c]++l.drop k from rfl,fB,Z]
  have ln:(l.take k++c::l.drop k).length=l.length+1:=by simp; omega
  have q:(flat E (l.take k)++flat E [c]++flat E (l.drop k)).length=(l.length+1) * E.n:=by rw [e,dG K,ln]
  refine lC K ln.symm hB hb' hG1 hG2 ?_ ?_
  ·rw [aD,p2,ay,q,aG,hs2,hkl];have h1:(l.length+1) * E.n<=G * E.n:=D _ hG1;rw [show k+1+(l.length-k)=l.length+1 by omega];omega
  ·rw [p2];exact (bJ q).trans e
end
theorem iV {P:Program} {ops:Array Oper} {rest:List Oper} {o:Oper} {a:bH} {Q:Exit->bH->J->Prop} {w w':J} (hgd:o.guard=aH) (s x:Y) (t t':aj)
  (ho:o.op=.call { callee:=.builtin .append,args:=#[s,x],argTypes:=#[t,t'] }) {v xv v':U} (hs:a.eval s=v) (hx:a.eval x=xv) (hr:(aL #[t,t'] o.type #[v,xv]).run P w=.ok v' w')
  (h:wpList P ops Q rest (a.put o.dst v') w'):wpList P ops Q (o::rest) a w:=by
 refine wpList_plain hgd fun K hK=>?_;unfold aR execOp;simp only [ho,resolve,invoke,builtin,Sem.run_bind,Sem.run_pure,aS,aT,aX,bg,hs,hx,hr];exact hK _ _ h
theorem iw {P:Program} {ops:Array Oper} {o:Oper} {a:bH} {w w':J} {K:bH->J->Prop} {Q:Exit->bH->J->Prop} {E:Prop}
  (hg:o.guard=aH) (s x:Y) (t:aj) (hop:o.op=.call { callee:=.builtin .copy,args:=#[s,x],argTypes:=#[t,t] }) {v xv v':U} (hs:a.eval s=v) (hx:a.eval x=xv)
  (hr:(aC #[t,t] o.type #[v,xv]).run P w=.ok v' w') (hK:K (a.put o.dst v') w') :
  if O o (yielded ops a.tmps)=aJ then aR P o a w K Q else E:=by
 have hw:O o (yielded ops a.tmps)=aJ:=by simp [O,hg]
 rw [if_pos hw];unfold aR execOp;simp only [hop,resolve,invoke,builtin,Sem.run_bind,Sem.run_pure,aS,aT,aX,bg,hs,hx,hr];exact hK
end Rw
namespace Nm
open Go.RowKit Rw
def EI:Ek Int:=⟨3,23,1,8,bD .i64 0,fun n=>.int .i64 n,fun n=>[bD .i64 n]⟩
theorem J8:(Try.prog.info? 3).map (fun i=>(i.zero,i.size,i.bytes))=aA (aA (bD .i64 0),1,8):=by kernel_rfl
theorem Il:EI.Ok where
 hu:=Try.underlying23
 info:=by
  have h:=J8;cases hi:Try.prog.info? 3 with
  | none=>rw [hi] at h; cases h
  | some i =>
   rw [hi] at h;simp only [Option.map_some,Option.some.injEq,Prod.mk.injEq] at h;exact⟨i,hi,h.1,h.2.1,h.2.2⟩
 zs:=rfl
 len:=fun _=>rfl
 one:=fun x u hu=>by
  simp only [EI,List.mem_cons,List.not_mem_nil,or_false] at hu;rw [hu]
  rfl
 pos:=by decide
 few:=by decide
 load:=fun w p x h=>by
  have h0:=h 0 _ rfl;rw [add_zero] at h0;show (Instr.loadAt 3 (.pointer (aA p))).run aB w=.ok (bD .i64 x) w;simp [go_sem,h0]
abbrev xD (W:J) (v:U) (l:List Int):Prop:=Row EI W v l
abbrev rO (W:J) (B:Nat) (v:U) (l:List Int):Prop:=Own EI W B v l
theorem xE:∀ l:List Int,flat EI l=l.map (fun n=>.int .i64 n)
 | []=>rfl
 | x::r=>by
  show EI.cells x++flat EI r=_;rw [xE r]
  rfl
end Nm
end Go.Proofs.Ytmklifheakemeaa
