/-
  A region that draws . Conditions as told.
-/
import Derived.Test.YtkcfgbddlpomgaaBQ005
import Derived.ChangeSlices
import Derived.Below
set_option maxRecDepth 100000
set_option maxHeartbeats 64000000
open _root_.Bool renaming true->Z
open _root_.Go renaming World->U,Value->X,TypeId->aA,Act->aB
open Go.Region renaming binds->J
open _root_.Nat renaming lt_or_ge->O,le_refl->aj,le_trans->au
open _root_.Option renaming some->Y,none->ay
open _root_.Or renaming inr->ah,inl->ak
namespace Go.Proofs.Ytkcfgbddlpomgaa
namespace Rg
open Go.RowKit
structure Az (i M:Nat) (dst last:Nat->Nat) (V:Nat->X->U->Prop) (base:aB) (o:Oper) (a:aB) (w:U):Prop where
 kp:∀ j u,(∀ k,k<M->dst k≠j)->base.tmps[j]?=Y u->a.eval (.tmp j)=u
 at_:∀ e∈o.after,J .any e=Z->(last e.on=i\/M<=last e.on)->V e.on (a.eval (.tmp (dst e.on))) w
 got:∀ e∈o.after,J .any e=Z->a.tmps[dst e.on]?=Y (a.eval (.tmp (dst e.on)))
structure Jg (l:List Oper) (M:Nat) (dst last:Nat->Nat) (V:Nat->X->U->Prop) (base:aB) (w:U) (L:Array Bool) (a:aB) (x:U):Prop where
 no:∀ i,M<=i->¬ done L i
 cl:∀ i o,done L i->l[i]?=Y o->∀ e∈o.after,J .any e=Z->done L e.on
 df:a.defers=base.defers
 sz:a.tmps.size=base.tmps.size
 kp:∀ j,(∀ i,i<M->dst i≠j)->a.tmps[j]?=base.tmps[j]?
 jw:Below w.heap.size w x
 val:∃ vs:Nat->X,∀ i,i<M->done L i->a.tmps[dst i]?=Y (vs i)/\(¬ done L (last i)->V i (vs i) x)
theorem eP {P:Program} {Q:Exit->aB->U->Prop} {id:Nat} {base:aB} {w:U} {l:List Oper} (N M:Nat) (dst last:Nat->Nat) (V:Nat->X->U->Prop)
  (hm:P.follows .mixedOrders=Z) (hf:wK l.toArray=Z) (hN:l.length=N) (JY:M<=N) (hinj:∀ i j,i<M->j<M->dst i=dst j->i=j) (hs:∀ i,i<M->dst i<base.tmps.size)
  (hop:∀ i o,i<M->l[i]?=Y o->∀ a w' (D:Nat->Prop),¬ D i->(∀ j oj,D j->l[j]?=Y oj->∀ e∈oj.after,J .any e=Z->D e.on)->(∀ e∈o.after,J .any e=Z->D e.on)->Below w.heap.size w w'->Az i M dst last V base o a w'->∀ K:aB->U->Prop,(∀ v w'',V i v w''->Below w.heap.size w' w''->(∀ j u,j<M->D j->¬ D (last j)->last j≠i->j≠i->V j u w'->V j u w'')->K (a.put (Y (dst i)) v) w'')->wpOp P l.toArray Q i K a w')
  (hall:M<N->∀ D:Nat->Prop,(∀ j o,D j->l[j]?=Y o->∀ e∈o.after,J .any e=Z->D e.on)->(∀ o,l[M]?=Y o->∀ e∈o.after,J .any e=Z->D e.on)->∀ i,i<M->D i)
  (hnext:∀ k o,M<k->k<N->l[k]?=Y o->∃ e∈o.after,J .any e=Z/\e.on=k-1)
  (hseq:∀ a w',a.defers=base.defers->a.tmps.size=base.tmps.size->(∀ j,(∀ i,i<M->dst i≠j)->a.tmps[j]?=base.tmps[j]?)->(∃ vs:Nat->X,∀ i,i<M->a.tmps[dst i]?=Y (vs i)/\(M<=last i->V i (vs i) w'))->Below w.heap.size w w'->dW P l.toArray Q (N-M) M a w'):(Code.region id l.toArray Z).wp P Q base w:=by
 refine lH (fun L a x=>Jg l M dst last V base w L a x\/∃ s,1<=s/\M+s<=N/\(∀ i,i<N->(done L i↔i<M+s))/\dW P l.toArray Q (N-M-s) (M+s) a x) hm hf ?_ ?_ ?_
 ·exact ak ⟨fun i _=>fZ _ _,fun i o h=>absurd h (fZ _ _),rfl,rfl,fun _ _=>rfl,(Below.refl _ _).drew,fun _=>.bool Z,fun i _ h=>absurd h (fZ _ _)⟩
 ·intro L a x i o hsz hI ho hnd kr;have hi:i<l.length:=(List.getElem?_eq_some_iff.1 ho).1;have wD:i<L.size:=by omega
  rcases hI with I|⟨s,h1,h2,h3,h4⟩
  ·rcases O i M with hiM|hiM
   ·obtain⟨vs,q1⟩:=I.val;have hon:∀ e∈o.after,J .any e=Z->e.on<M:=fun e he hb=>by
     have h7:=List.all_eq_true.1 hf i (List.mem_range.2 (by simpa using hi));have ho':(l.toArray)[i]?=Y o:=by simpa using ho
     rw [ho'] at h7;have h8:=Array.all_eq_true'.1 h7 e he;rw [hb] at h8;have:e.on<i:=by simpa using h8
     omega
    have seen:Az i M dst last V base o a x:=⟨fun j u hj hu=>cO (by rw [I.kp j hj]; exact hu),fun e he hbd hl=>by
     obtain⟨p1,p2⟩:=q1 e.on (hon e he hbd) (kr e he hbd);rw [cO p1];refine p2 ?_;rcases hl with hl|hl
     ·rw [hl]; exact hnd
     ·exact I.no _ hl,fun e he hbd=>by
     obtain⟨p1,p2⟩:=q1 e.on (hon e he hbd) (kr e he hbd);rw [cO p1];exact p1⟩
    refine hop i o hiM ho a x (done L) hnd I.cl kr I.jw seen _ fun v w'' hvw hbw hpr=>ak ?_;refine⟨fun k hk hd=>?_,fun k q hk hq e he hb=>?_,I.df,by rw [size_put]; exact I.sz,fun j hj=>?_,I.jw.trans hbw,fun k=>if k=i then v else vs k,fun k F5 hk=>?_⟩
    ·rcases (fE wD k).1 hd with h9|h9
     ·omega
     ·exact I.no k hk h9
    ·rw [fE wD] at hk ⊢;rcases hk with rfl|hk
     ·rw [hq] at ho;cases ho;exact ah (kr e he hb)
     ·exact ah (I.cl k q hk hq e he hb)
    ·rw [get_put _ _ _ _ (fun e=>hj i hiM e.symm)];exact I.kp j hj
    ·by_cases e:k=i
     ·subst e;have:dst k<a.tmps.size:=by rw [I.sz]; exact hs k F5
      simp only [if_true];exact⟨by simp [Act.put,this],fun _=>hvw⟩
     ·simp only [if_neg e];rw [get_put _ _ _ _ (fun e2=>e (hinj k i F5 hiM e2))];rcases (fE wD k).1 hk with h9|h9
      ·exact absurd h9 e
      ·obtain⟨p1,p2⟩:=q1 k F5 h9;refine⟨p1,fun hn=>?_⟩;have n1:last k≠i:=fun e3=>hn ((fE wD _).2 (ak e3));have n2:¬ done L (last k):=fun e3=>hn ((fE wD _).2 (ah e3));exact hpr k _ F5 h9 n2 n1 e (p2 n2)
   ·have Gg:i=M:=by
     rcases O M i with h9|h9
     ·obtain⟨e,he,hb,hon⟩:=hnext i o h9 (by omega) ho;have hd:=kr e he hb;rw [hon] at hd;exact absurd hd (I.no _ (by omega))
     ·omega
    subst Gg;have hD:=hall (by omega) (done L) I.cl (fun o' ho' e he hb=>by
     rw [ho] at ho';cases ho';exact kr e he hb)
    obtain⟨vs,q1⟩:=I.val;have hq:=hseq a x I.df I.sz I.kp ⟨vs,fun k hk=>⟨(q1 k hk (hD k hk)).1,fun hl=>(q1 k hk (hD k hk)).2 (I.no _ hl)⟩⟩ I.jw;rw [show N-i=(N-i-1)+1 by omega] at hq;refine wpOp_mono (fun a' x' h=>ah ⟨1,aj _,by omega,fun k hk=>?_,h⟩) hq;rw [fE wD];constructor
    ·rintro (rfl|h9)
     ·omega
     ·rcases O k i with h8|h8
      ·omega
      ·exact absurd h9 (I.no k h8)
    ·intro h9;by_cases e:k=i
     ·exact ak e
     ·exact ah (hD k (by omega))
  ·have hge:M+s<=i:=by
    rcases O i (M+s) with h9|h9
    ·exact absurd ((h3 i (by omega)).2 h9) hnd
    ·exact h9
   have hie:i=M+s:=by
    rcases O (M+s) i with h9|h9
    ·obtain⟨e,he,hb,hon⟩:=hnext i o (by omega) (by omega) ho;have hd:=kr e he hb;rw [hon] at hd;have:=(h3 (i-1) (by omega)).1 hd;omega
    ·omega
   subst hie;rw [show N-M-s=(N-M-(s+1))+1 by omega] at h4;refine wpOp_mono (fun a' x' h=>ah ⟨s+1,by omega,by omega,fun k hk=>?_,h⟩) h4;rw [fE wD];constructor
   ·rintro (rfl|h9)
    ·omega
    ·have:=(h3 k hk).1 h9;omega
   ·intro h9;by_cases e:k=M+s
    ·exact ak e
    ·exact ah ((h3 k hk).2 (by omega))
 ·intro L a x hI hd;rcases hI with I|⟨s,h1,h2,h3,h4⟩
  ·rcases O M N with h9|h9
   ·exact absurd (hd M (by omega)) (I.no M (aj _))
   ·obtain⟨vs,q1⟩:=I.val;have hq:=hseq a x I.df I.sz I.kp ⟨vs,fun k hk=>⟨(q1 k hk (hd k (by omega))).1,fun hl=>(q1 k hk (hd k (by omega))).2 (I.no _ hl)⟩⟩ I.jw;rw [show N-M=0 by omega] at hq;exact hq
  ·have:=(h3 (N-1) (by omega)).1 (hd (N-1) (by omega));rw [show N-M-s=0 by omega] at h4;exact h4
theorem eZ {P:Program} {ops:Array Oper} {Q:Exit->aB->U->Prop} {K:aB->U->Prop} {a:aB} {w w':U} {i:Nat} {o:Oper} (t:aA) (x y:Operand) {p v:X}
  (ho:ops[i]?=Y o) (hg:o.guard=ay) (hop:o.op=.store t x y) (hd:o.dst=ay) (hx:a.eval x=p) (hy:a.eval y=v) (hr:(Instr.storeAt t p v).run P w=.ok () w') (h:K a w'):wpOp P ops Q i K a w:=by
 refine zF ho hg (wL a.eval o t x y hop (by rw [hx,hy]; exact hr)) ?_;rw [hd];exact h
def oD (l:List Oper) (i:Nat):List Nat:=match l[i]? with
 | some o=>(o.after.toList.filter fun e=>J .any e).map fun e=>e.on
 | none=>[]
def qR (l:List Oper):Nat->List Nat->List Nat
 | 0,s=>s
 | n+1,s=>qR l n (s++s.flatMap (oD l))
theorem sD {l:List Oper} {D:Nat->Prop} {i:Nat} (h:∀ o,l[i]?=Y o->∀ e∈o.after,J .any e=Z->D e.on):∀ j∈oD l i,D j:=by
 intro j hj;unfold oD at hj;cases ho:l[i]? with
 | none=>rw [ho] at hj; cases hj
 | some o =>
  rw [ho] at hj;obtain⟨e,he,rfl⟩:=List.mem_map.1 hj;obtain⟨h1,h2⟩:=List.mem_filter.1 he;exact h o ho e (Array.mem_toList_iff.1 h1) h2
theorem pI {l:List Oper} {D:Nat->Prop} (hc:∀ j o,D j->l[j]?=Y o->∀ e∈o.after,J .any e=Z->D e.on):∀ n s,(∀ j∈s,D j)->∀ j∈qR l n s,D j
 | 0,_,hs=>hs
 | n+1,s,hs=>pI hc n _ fun j hj=>by
  rcases List.mem_append.1 hj with h|h
  ·exact hs j h
  ·obtain⟨i,hi,hd⟩:=List.mem_flatMap.1 h;exact sD (fun o ho=>hc i o (hs i hi) ho) j hd
theorem iw {l:List Oper} {M:Nat} (n:Nat) (h:(List.range M).all (fun i=>(qR l n (oD l M)).contains i)=Z) (D:Nat->Prop) (hc:∀ j o,D j->l[j]?=Y o->∀ e∈o.after,J .any e=Z->D e.on) (hm:∀ o,l[M]?=Y o->∀ e∈o.after,J .any e=Z->D e.on):∀ i,i<M->D i:=by
 intro i hi;have h2:=List.all_eq_true.1 h i (List.mem_range.2 hi);exact pI hc n _ (sD hm) i (List.contains_iff_mem.1 h2)
theorem wQ {P:Program} (ρ:Operand->X) (o:Oper) (t:aA) (ho:o.op=.alloc t) {v:X} {w w':U} (hr:(Instr.alloc t Z (.tuple #[])).run P w=.ok v w'):(execOp ρ o).run P w=.ok (.value v) w':=by
 simp [execOp,ho,hr,Result.andThen]
end Rg
namespace Rw
open Go.RowKit
theorem gF {α:Type} {E:Ek α} (K:E.Ok) {w:U} (B:Nat) {g:Nat} {x:X} {m:List α} (jE:dh w g #[] E.t) (hBg:B<=g) (hx:Row E w x m) (hm:m.length<=1000) (ty:aA) :
  ∃ v' w',(Builtin.append_ #[E.ts,E.ts] ty #[.slice (Y ⟨g,0,ay⟩) 0 0,x]).run Try.prog w=.ok v' w'/\Own E w' B v' m/\Below w.heap.size w w':=by
 have ho:Own E w B (.slice (Y ⟨g,0,ay⟩) 0 0) ([]:List α):=jK K rfl hBg jE (aj _) (Nat.zero_le _) (by simp) (by simp [flat]);have hl:=jE.lt;obtain⟨v',w',r,o',gr⟩:=iq K B ho hx (by simp) hm (by omega) ty;refine⟨v',w',r,by simpa using o',?_⟩;obtain⟨i,i1,i2,i3,i4⟩:=K.info;rcases hx with⟨rfl,rfl⟩|⟨ad,c,rfl,h2,h3,h4⟩
 ·have r2:=run_append_owned_none (P:=Try.prog) (w:=w) B E.ts ty E.t i E.n K.hu i1 _ _ _ ho;rw [r2] at r;injection r with _ e
  rw [<- e];exact Below.refl _ _
 ·rcases Nat.eq_zero_or_pos m.length with h0|h0
  ·have r2:=run_append_room (P:=Try.prog) (w:=w) E.ts ty E.t i K.hu i1 g 0 0 #[] jE ad m.length c (flat E m) (by rw [cB K,i3]) h4 (jg K m) (by omega) (by rw [cB K,h0]; simp);rw [r2] at r;injection r with _ e
   rw [<- e];have hf:flat E m=[]:=List.eq_nil_of_length_eq_zero (by rw [cB K,h0]; simp);have hs:=dh.set jE ((#[]:Array X).toList.take (0 * i.size)++flat E m++(#[]:Array X).toList.drop (0 * i.size+(flat E m).length)).toArray;refine⟨rfl,rfl,rfl,by simp [World.setRow],fun k hk=>?_⟩;by_cases hkg:k=g
   ·subst hkg;refine hs.trans ?_;rw [hf];simpa using jE.symm
   ·exact setRow_other w g k _ hkg
  ·have r2:=run_append_grow (P:=Try.prog) (w:=w) E.ts ty E.t i E.z K.hu i1 i2 ⟨g,0,ay⟩ 0 0 [] (by simp) (fun j v h=>by simp at h) ad m.length c (flat E m) (by rw [cB K,i3]) h4 (by omega) (by omega) (by
    rw [Nat.zero_add,nextslicecap_zero h0,i4];exact au (Nat.mul_le_mul hm K.few) (by decide))
   rw [r2] at r;injection r with _ e
   rw [<- e];exact (Below.refl _ _).drew.alloc (aj _) _
end Rw
namespace Bk
open Go.RowKit Rw
theorem cK {α:Type} {E:Ek α} {W:U} {B C:Nat} {v:X} {l:List α} (h:Own E W B v l) (hc:C<=B):Own E W C v l:=by
 refine⟨h.1,?_⟩;rcases h.2 with h2|⟨g,cap,cur,h1,h2,h3⟩
 ·exact ak h2
 ·exact ah ⟨g,cap,cur,h1,au hc h2,h3⟩
theorem dx {α:Type} {E:Ek α} {W W':U} {B:Nat} {v:X} {l:List α} (h:Own E W B v l) (hb:Below W.heap.size W W'):Own E W' B v l :=
 h.kept (w':=W') (row:=ay) ⟨hb.os,hb.tape,hb.output,hb.size,fun k hk _=>hb.block k hk⟩ (by cases v.ownBlock <;> simp)
theorem dF {α:Type} {E:Ek α} {W:U} {B:Nat} {v:X} {l:List α} (h:Own E W B v l) (b k:Nat) (x:X) (hb:b<B):Own E (W.setCell ⟨b,k,ay⟩ x) B v l :=
 h.kept (w':=W.setCell ⟨b,k,ay⟩ x) (row:=Y b) ⟨rfl,rfl,rfl,by simp [World.setCell],fun j _ hne=>RowKit.Below.heap_setCell _ _ _ _ (fun e=>hne (by rw [e]))⟩ (by
  cases hv:v.ownBlock with
  | none=>exact ak rfl
  | some j =>
   refine ah fun e=>?_;injection e with e
   have h1:=(h.lt j hv).1;omega)
theorem dG {W:U} {rb k:Nat} {cs:Array X} {t:aA} (h:dh W rb cs t) (x:X):dh (W.setCell ⟨rb,k,ay⟩ x) rb (cs.setIfInBounds k x) t:=heap_setCell_same W rb k cs t x h
end Bk
namespace Bk
open Go.RowKit Rw Ytkcfgbddlpomgaa.Nm Pr
end Bk
namespace In
open Go.RowKit Go.ChangeShapes Go.WideShapes
end In
end Go.Proofs.Ytkcfgbddlpomgaa
