/-
  A region that draws . Conditions as told.
-/
import Derived.Test.YtmklifheakemeaaProg
import Derived.WalkKit
import Derived.Orders
import Derived.Laws.AppendOwn
import Derived.Laws.OwnMore
import Derived.Lib.Hide
import Derived.WalkLawsBesides
import Derived.IntWalk
set_option maxRecDepth 100000
set_option maxHeartbeats 64000000
open _root_.Array renaming getD->D,getElem?_eq_some_iff->O,getElem?_eq_getElem->aj,replicate->aJ
open _root_.Bool renaming true->aA,false->aM
open _root_.Go renaming Operand->J,Value->U,World->V,TypeId->aL,Act->aP
open Go.Ending renaming returned->Y
open Go.Region renaming wanted->ay,ready->aH,binds->aK
open Go.Result renaming andThen->X
open Go.Value renaming string->au,int->aQ
open _root_.Int renaming emod_lt_of_pos->ah,tmod_eq_emod->aB,emod_nonneg->aD
open _root_.List renaming getElem?_append_right->Z,getElem?_append_left->ak,getElem?_take->aF,getElem?_drop->aG,getElem_mem->aI
open _root_.Nat renaming lt_or_ge->aC,le_refl->aN,not_lt->aO
namespace Go.Proofs.Ytmklifheakemeaa
namespace Rg
open Go.RowKit
def left (L:Array Bool):Nat:=L.toList.countP (fun b=>!b)
theorem Al (L:Array Bool) (i:Nat) (h:L.getD i aA=aM):left (L.setIfInBounds i aA)+1=left L:=by
 obtain⟨l⟩:=L;have hi:i<l.length:=by
  rcases aC i l.length with h0|h0
  ·exact h0
  ·exact absurd h (by simp [D,aO.2 h0])
 have hv:l[i]=aM:=by simpa [D,hi] using h
 unfold left;simp only [List.setIfInBounds_toArray];rw [List.countP_set hi,hv];have hp:0<l.countP (fun b=>!b):=List.countP_pos_iff.2 ⟨l[i],aI hi,by rw [hv]; rfl⟩;simp;omega
theorem yG (L:Array Bool) (h:left L=0) (i:Nat):L.getD i aA=aA:=by
 obtain⟨l⟩:=L;unfold left at h;rw [List.countP_eq_zero] at h;rcases aC i l.length with h0|h0
 ·have:=h l[i] (aI h0);simp [D,h0];simpa using this
 ·simp [D,aO.2 h0]
def yH (ops:Array Oper):Bool:=(List.range ops.size).all fun i=>match ops[i]? with
 | some o=>o.after.all fun e=>!Region.binds .any e || decide (e.on<i)
 | none=>aA
def done (L:Array Bool) (i:Nat):Prop:=L.getD i aM=aA
theorem uj {ops:Array Oper} (hf:yH ops=aA) {L:Array Bool} (hs:L.size=ops.size) (h:aH .any ops L=[]):∀ n,n<=ops.size->∀ i,i<n->done L i:=by
 intro n
 induction n with
 | zero=>intro _ i hi; omega
 | succ n ih =>
  intro hn i hi;rcases aC i n with h1|h1
  ·exact ih (by omega) i h1
  ·obtain rfl:i=n:=by omega
   cases hd:L.getD i aA
   ·exfalso;have hm:i∈aH .any ops L:=by
     rw [mem_ready];refine⟨hd,ops[i],aj (by omega),fun e he hbd=>?_⟩;have h2:=List.all_eq_true.1 hf i (List.mem_range.2 (by omega));rw [aj (by omega)] at h2;have h3:=Array.all_eq_true'.1 h2 e he;rw [hbd] at h3;exact ih (by omega) e.on (by simpa using h3)
    rw [h] at hm;cases hm
   ·unfold done;have hi2:i<L.size:=by omega
    simp [D,hi2] at hd ⊢;exact hd
section
variable {P:Program} {ops:Array Oper} {Q:Exit->aP->V->Prop}
theorem vT (I:Array Bool->aP->V->Prop) (hf:yH ops=aA)
  (hstep:∀ L a w i o,L.size=ops.size->I L a w->ops[i]?=some o->¬ done L i->(∀ e∈o.after,aK .any e=aA->done L e.on)->wpOp P ops Q i (I (L.setIfInBounds i aA)) a w)
  (hend:∀ L a w,I L a w->(∀ i,i<ops.size->done L i)->Q .normal a w) :
  ∀ (fuel:Nat) (L:Array Bool) (a:aP) (w:V),L.size=ops.size->left L<=fuel->I L a w->wpAny P .any ops Q fuel L a w:=by
 intro fuel
 induction fuel with
 | zero =>
  intro L a w hs hl hI;have hr:aH .any ops L=[]:=by
   rw [List.eq_nil_iff_forall_not_mem];intro i hi;have h1:=(mem_ready.1 hi).1;rw [yG L (by omega) i] at h1;cases h1
  exact⟨hr,hend L a w hI (uj hf hs hr ops.size (aN _))⟩
 | succ fuel ih =>
  intro L a w hs hl hI;refine⟨fun hr=>hend L a w hI (uj hf hs hr ops.size (aN _)),fun i hi=>?_⟩;obtain⟨h1,o,h2,h3⟩:=mem_ready.1 hi;have hlt:i<ops.size:=(O.1 h2).1;have hnd:¬ done L i:=by
   unfold done;have:i<L.size:=by omega
   simp [D,this] at h1 ⊢;exact h1
  have hst:=hstep L a w i o hs hI h2 hnd (fun e he hb=>h3 e he hb);have hmono:∀ a' w',I (L.setIfInBounds i aA) a' w'->wpAny P .any ops Q fuel (L.setIfInBounds i aA) a' w':=fun a' w' h =>
   ih _ a' w' (by simpa using hs) (by have:=Al L i h1; omega) h
  unfold wpOp at hst ⊢;rw [h2] at hst ⊢;simp only at hst ⊢
  split at hst
  ·rename_i hw
   rw [if_pos hw];rcases hst with hst|hst
   ·exact Or.inl (Oper.wp_mono hmono hst)
   ·exact Or.inr hst
  ·rename_i hw
   rw [if_neg hw];exact hmono _ _ hst
theorem mq (I:Array Bool->aP->V->Prop) {id:Nat} {a:aP} {w:V} {l:List Oper} (hm:P.follows .mixedOrders=aA) (hf:yH l.toArray=aA)
  (h0:I (aJ l.length aM) a { w with drawn:=w.drawn+1 })
  (hstep:∀ L a w i o,L.size=l.length->I L a w->l[i]?=some o->¬ done L i->(∀ e∈o.after,aK .any e=aA->done L e.on)->wpOp P l.toArray Q i (I (L.setIfInBounds i aA)) a w)
  (hend:∀ L a w,I L a w->(∀ i,i<l.length->done L i)->Q .normal a w):(Code.region id l.toArray aA).wp P Q a w:=by
 refine wp_region_any hm (vT (ops:=l.toArray) I hf (fun L a w i o hs hI ho=>hstep L a w i o (by simpa using hs) hI (by simpa using ho)) (fun L a w hI hd=>hend L a w hI (by simpa using hd)) _ _ _ _ (by simp) ?_ (by simpa using h0));unfold left;have h2:=List.countP_le_length (p:=fun b:Bool=>!b) (l:=List.replicate l.length aM);simpa using h2
end
theorem fZ {L:Array Bool} {i:Nat} (h:i<L.size) (j:Nat):done (L.setIfInBounds i aA) j↔j=i\/done L j:=by
 unfold done;by_cases e:j=i
 ·subst e; simp [D,h]
 ·by_cases hj:j<L.size
  ·have h2:i≠j:=fun x=>e x.symm;simp [D,hj,e,h2]
  ·simp [D,hj,e]
theorem fT (n j:Nat):¬ done (aJ n aM) j:=by
 unfold done;by_cases hj:j<n <;> simp [D,hj]
theorem dw {P:Program} {ops:Array Oper} {Q:Exit->aP->V->Prop} {K:aP->V->Prop} {a:aP} {w w':V} {i:Nat} {o:Oper} {v:U}
  (ho:ops[i]?=some o) (hg:o.guard=none) (hr:(execOp a.eval o).run P w=.ok (.value v) w') (h:K (a.put o.dst v) w'):wpOp P ops Q i K a w:=by
 unfold wpOp;rw [ho];have hw:ay o (yielded ops a.tmps)=aA:=by simp [ay,hg]
 simp only [hw,if_true];refine Or.inl ?_;unfold Oper.wp;rw [hr];exact h
theorem Gu {P:Program} {s:Sem U} {w w':V} {v:U} (h:s.run P w=.ok v w'):(do pure (Next.value (<- s)):Sem Next).run P w=.ok (.value v) w':=by
 simp [go_sem,h]
theorem lg {P:Program} (ρ:J->U) (o:Oper) (s x:J) (t:aL) (ho:o.op=.call { callee:=.builtin .append,args:=#[s,x],argTypes:=#[t,t] }) {v x' v':U} {w w':V}
  (hs:ρ s=v) (hx:ρ x=x') (hrun:(Builtin.append_ #[t,t] o.type #[v,x']).run P w=.ok v' w'):(execOp ρ o).run P w=.ok (.value v') w':=by
 simp [execOp,ho,resolve,invoke,builtin,hs,hx,hrun,X]
theorem um {P:Program} (ρ:J->U) (o:Oper) (t:aL) (x:J) (l h m:Option J) (ho:o.op=.slice t x l h m) {v:U} {w:V} (hr:(Instr.sliceAt t (ρ x) (l.map ρ) (h.map ρ) (m.map ρ)).run P w=.ok v w) :
  (execOp ρ o).run P w=.ok (.value v) w:=by
 simp [execOp,ho,hr,X]
theorem iw {P:Program} (ρ:J->U) (o:Oper) (t:aL) (x i:J) (ho:o.op=.indexAddr t x i) {v:U} {w:V} (hr:(Instr.indexAt t (ρ x) (ρ i)).run P w=.ok v w) :
  (execOp ρ o).run P w=.ok (.value v) w:=by
 simp [execOp,ho,hr,X]
theorem eu {P:Program} (ρ:J->U) (o:Oper) (t:aL) (x:J) (ho:o.op=.load t x) {v:U} {w:V} (hr:(Instr.loadAt t (ρ x)).run P w=.ok v w) :
  (execOp ρ o).run P w=.ok (.value v) w:=by
 simp [execOp,ho,hr,X]
theorem jM {P:Program} (ρ:J->U) (o:Oper) (t:aL) (n:Nat) (parts:Array (Nat×J)) (ho:o.op=.buildSlice t n parts) {ps:Array (Nat×U)} (hp:parts.map (fun x=>(x.1,ρ x.2))=ps) {v:U} {w w':V} (hr:(Instr.buildSlice t n ps).run P w=.ok v w') :
  (execOp ρ o).run P w=.ok (.value v) w':=by
 subst hp;simp [execOp,ho,hr,X]
theorem eD {P:Program} (ρ:J->U) (o:Oper) (x:J) (ho:o.op=.move x) (w:V):(execOp ρ o).run P w=.ok (.value (ρ x)) w:=by
 simp [execOp,ho]
theorem iQ {P:Program} (ρ:J->U) (o:Oper) (x:J) (ho:o.op=.assign x) (w:V):(execOp ρ o).run P w=.ok (.value (ρ x)) w:=by
 simp [execOp,ho]
theorem size_put (a:aP) (d:Nat) (v:U):(a.put (some d) v).tmps.size=a.tmps.size:=by simp [Act.put]
theorem get_put (a:aP) (d:Nat) (v:U) (j:Nat) (hd:j≠d):(a.put (some d) v).tmps[j]?=a.tmps[j]?:=by
 have h2:d≠j:=fun x=>hd x.symm;simp [Act.put,h2]
theorem dD {a:aP} {j:Nat} {v:U} (h:a.tmps[j]?=some v):a.eval (.tmp j)=v:=by
 have h1:=(O.1 h).1;have h2:=(O.1 h).2;simp [Act.eval,D,h1,h2]
theorem EX {P:Program} {ops:Array Oper} {Q:Exit->aP->V->Prop} {K:aP->V->Prop} {a:aP} {w w':V} {i:Nat} {o:Oper}
  (ho:ops[i]?=some o) (hg:o.guard=none) (hr:(execOp a.eval o).run P w=.ok .skip w') (h:K (a.put o.dst undef) w'):wpOp P ops Q i K a w:=by
 unfold wpOp;rw [ho];have hw:ay o (yielded ops a.tmps)=aA:=by simp [ay,hg]
 simp only [hw,if_true];refine Or.inl ?_;unfold Oper.wp;rw [hr];exact h
theorem fO {a:aP} {bl:List U} (d0 m:Nat) (df:a.defers=[]) (sz:a.tmps.size=bl.length) (hle:d0+m<=bl.length) (kp:∀ j,(j<d0\/d0+m<=j)->a.tmps[j]?=bl[j]?) :
  ∃ mid:List U,mid.length=m/\a=⟨(bl.take d0++(mid++bl.drop (d0+m))).toArray,[]⟩:=by
 obtain⟨tmps,defers⟩:=a;have hd:defers=[]:=df;have hs:tmps.size=bl.length:=sz;have hk:∀ j,(j<d0\/d0+m<=j)->tmps[j]?=bl[j]?:=kp;subst hd;have hl:((tmps.toList.drop d0).take m).length=m:=by simp; omega
 refine⟨(tmps.toList.drop d0).take m,hl,congrArg (fun x=>(⟨x,[]⟩:aP)) ?_⟩;apply Array.ext_getElem?;intro j
 conv=>rhs; rw [List.getElem?_toArray]
 by_cases h1:j<d0
 ·rw [hk j (Or.inl h1),ak (by simp; omega),aF,if_pos h1]
 ·have ht:(bl.take d0).length=d0:=by simp; omega
  rw [Z (by omega),ht];by_cases h2:j<d0+m
  ·rw [ak (by omega),aF,if_pos (by omega),aG,Array.getElem?_toList,show d0+(j-d0)=j by omega]
  ·rw [hk j (Or.inr (by omega)),Z (by omega),hl,aG,show d0+m+(j-d0-m)=j by omega]
end Rg
namespace Wi
open Go.RowKit
def within (n lo hi:Int):Int:=lo+n % (hi-lo+1)
theorem iG (n lo hi:Int) (h:lo<=hi):lo<=within n lo hi/\within n lo hi<=hi:=by
 unfold within;have h1:=aD n (show hi-lo+1≠0 by omega);have h2:=ah n (show 0<hi-lo+1 by omega);omega
theorem vU (n lo hi:Int) (h:lo<=hi) (hn:¬ n.tmod (hi-lo+1)<0):lo+n.tmod (hi-lo+1)=within n lo hi:=by
 unfold within;rw [aB] at hn ⊢
 split at hn
 ·rename_i h0; rw [if_pos h0]; omega
 ·rename_i h0
  rw [if_neg h0] at *;have h2:=ah n (show 0<hi-lo+1 by omega);have:((hi-lo+1).natAbs:Int)=hi-lo+1:=by omega
  omega
theorem vV (n lo hi:Int) (h:lo<=hi) (hn:n.tmod (hi-lo+1)<0):lo+(n.tmod (hi-lo+1)+hi-lo+1)=within n lo hi:=by
 unfold within;rw [aB] at hn ⊢
 split at hn
 ·have h1:=aD n (show hi-lo+1≠0 by omega);omega
 ·rename_i h0
  rw [if_neg h0] at *;have:((hi-lo+1).natAbs:Int)=hi-lo+1:=by omega
  omega
theorem EY (n m:Int) (h:0<m):-m<n.tmod m/\n.tmod m<m:=by
 rw [aB];have h1:=aD n (show m≠0 by omega);have h2:=ah n h
 split <;> omega
theorem sP {k:IntKind} {a b:Int} (h:a=b):Y (aQ k a)=Y (aQ k b):=by rw [h]
theorem jl (n lo hi:Int) (w:V) (h:lo<=hi) (h1:-1000000<=lo) (h2:hi<=1000000) (_hn1:-9223372036854775808<=n) (_hn2:n<=9223372036854775807) :
  Calls Try.prog 10 #[aQ .i64 n,aQ .i64 lo,aQ .i64 hi] w fun e w'=>e=Y (aQ .i64 (within n lo hi))/\w=w':=by
 have hm:0<hi-lo+1:=by omega
 have hm2:hi-lo+1<=2000001:=by omega
 have hb:=EY n (hi-lo+1) hm;have P:=Lib.hid (vU n lo hi h);have Q:=Lib.hid (vV n lo hi h);go_enter Try.func10,Try.ntmps10;go_wp2
 ·go_ret;exact⟨sP (Q.out (by omega)),rfl⟩
 ·go_ret;exact⟨sP (P.out (by omega)),rfl⟩
end Wi
namespace Va
open Go.RowKit
abbrev vl (t:Bool) (n:Int) (s:ByteArray):U:=.agg #[.bool t,aQ .i64 n,au s]
theorem fD {a b:Bool} (h:a=b):Y (.bool a)=Y (.bool b):=by rw [h]
def KC:Array U:=#[au ⟨#[]⟩,au ⟨#[120]⟩,au ⟨#[120,121]⟩,au ⟨#[120,121,122]⟩,au ⟨#[120,122]⟩,au ⟨#[121]⟩,au ⟨#[121,121]⟩]
def lV (r:Int):ByteArray:=[⟨#[]⟩,⟨#[120]⟩,⟨#[120,121]⟩,⟨#[120,121,122]⟩,⟨#[120,122]⟩,⟨#[121]⟩,⟨#[121,121]⟩].getD r.toNat ⟨#[]⟩
theorem EZ (r:Int) (h0:0<=r) (h1:r<=6):KC[r.toNat]?=some (au (lV r)):=by
 obtain⟨n,rfl⟩:=Int.eq_ofNat_of_zero_le h0;have hn:n<=6:=by omega
 match n,hn with
 | 0,_=>rfl
 | 1,_=>rfl
 | 2,_=>rfl
 | 3,_=>rfl
 | 4,_=>rfl
 | 5,_=>rfl
 | 6,_=>rfl
theorem qM (w:V) :
  Calls Try.prog 62 #[] w fun e w'=>e=Y (.slice (some ⟨w.heap.size,0,none⟩) 7 7)/\w'=w.alloc (.cells KC 9):=by
 go_enter Try.func62,Try.ntmps62;go_wp2;go_ret;exact⟨rfl,rfl⟩
theorem uo (r:Int):(lV r).size<=3:=by
 unfold lV;rcases aC r.toNat 7 with h|h
 ·generalize r.toNat=n at h
  match n,h with
  | 0,_=>decide
  | 1,_=>decide
  | 2,_=>decide
  | 3,_=>decide
  | 4,_=>decide
  | 5,_=>decide
  | 6,_=>decide
 ·rw [List.getD_eq_getElem?_getD,List.getElem?_eq_none (by simpa using h)]
  decide
end Va
end Go.Proofs.Ytmklifheakemeaa
