/-
  Calls inside a regio. Conditions as told.
-/
import Derived.Test.YtmklifheakemeaaOQ006
import Derived.Test.YtmklifheakemeaaOQ000
import Derived.ChangeSlices
import Derived.Below
import Derived.Maps.AppendAt
import Derived.Lib.QuietBelow
import Derived.BigQuiet
import Derived.Test.YtmklifheakemeaaOQ001
import Derived.Lib.Bytealg
set_option maxRecDepth 100000
set_option maxHeartbeats 64000000
open _root_.Bool renaming true->Y,and_eq_true->Z,false->aV
open _root_.Go renaming World->O,Value->U,Operand->ay,TypeId->aF,Act->aO
open Go.Proofs.Try renaming prog->ah,underlying23->aD,ntmps34->aR,func34->aS
open Go.Region renaming binds->J,wanted->aM
open Go.Value renaming string->X,slice->aK,int->aU
open _root_.List renaming getElem?_eq_getElem->aj,getD_eq_getElem?_getD->aA,getElem?_eq_some_iff->aB,all_eq_true->aC,pairwise_cons->aI,mem_range->aL,mem_cons->aN
open _root_.Nat renaming lt_or_ge->au,le_refl->aG,zero_le->aQ,mod_lt->aT
open _root_.Option renaming some->ak,none->aP
open _root_.Or renaming inr->aH,inl->aJ
namespace Go.Proofs.Ytmklifheakemeaa
namespace Rg
open Go.RowKit
theorem eZ {P:Program} {ops:Array Oper} {Q:Exit->aO->O->Prop} {K:aO->O->Prop} {a:aO} {w:O} {i:Nat} {o:Oper} {f:FuncId} {args:Array U} {R:Ending->O->Prop}
  (ho:ops[i]?=ak o) (hg:o.guard=aP) (hr:(execOp a.eval o).run P w=.ok (.enter f args) w) (hc:Calls P f args w R) (hR:∀ e w',R e w'->∃ v,e=.returned v/\K (a.put o.dst v) w'):wpOp P ops Q i K a w:=by
 unfold wpOp;rw [ho];have hw:aM o (yielded ops a.tmps)=Y:=by simp [aM,hg]
 simp only [hw,if_true];refine aJ ?_;unfold Oper.wp;rw [hr,Oper.upon_enter];refine hc.mono ?_;intro e w' h;obtain⟨v,rfl,hk⟩:=hR e w' h;exact hk
theorem eO {P:Program} (ρ:ay->U) (o:Oper) (s:aF) (x:ay) (f:Nat) (ho:o.op=.fieldAddr s x f) {v:U} {w:O} (hr:(Instr.fieldAt s (ρ x) f).run P w=.ok v w):(execOp ρ o).run P w=.ok (.value v) w:=by
 unfold execOp;rw [ho];exact Gu hr
theorem Jg {P:Program} (ρ:ay->U) (o:Oper) (op:BinOp) (t:aF) (x y:ay) (r:aF) (ho:o.op=.binOp op t x y r) {v:U} {w:O} (hr:(do eqGuard op t x y (ρ x) (ρ y); binOp op t (ρ x) (ρ y):Sem U).run P w=.ok v w):(execOp ρ o).run P w=.ok (.value v) w:=by
 unfold execOp;rw [ho];exact Gu hr
theorem wpOp_mono {P:Program} {ops:Array Oper} {Q:Exit->aO->O->Prop} {i:Nat} {K K':aO->O->Prop} {a:aO} {w:O} (h:∀ a w,K a w->K' a w) (hw:wpOp P ops Q i K a w):wpOp P ops Q i K' a w:=by
 unfold wpOp at hw ⊢;cases ho:ops[i]? with
 | none =>
  rw [ho] at hw;exact h _ _ hw
 | some o =>
  rw [ho] at hw;simp only at hw ⊢
  split at hw
  ·rename_i h1
   rw [if_pos h1];rcases hw with hw|hw
   ·exact aJ (Oper.wp_mono h hw)
   ·exact aH hw
  ·rename_i h1
   rw [if_neg h1];exact h _ _ hw
def fJ (P:Program) (ops:Array Oper) (Q:Exit->aO->O->Prop):Nat->Nat->aO->O->Prop
 | 0,_,a,w=>Q .normal a w
 | n+1,k,a,w=>wpOp P ops Q k (fun a w=>fJ P ops Q n (k+1) a w) a w
structure Gv (i M:Nat) (dst last:Nat->Nat) (V:Nat->U->O->Prop) (base:aO) (o:Oper) (a:aO) (w:O):Prop where
 kp:∀ j u,(∀ k,k<M->dst k≠j)->base.tmps[j]?=ak u->a.eval (.tmp j)=u
 at_:∀ e∈o.after,J .any e=Y->(last e.on=i\/M<=last e.on)->V e.on (a.eval (.tmp (dst e.on))) w
 got:∀ e∈o.after,J .any e=Y->a.tmps[dst e.on]?=ak (a.eval (.tmp (dst e.on)))
structure Q8 (l:List Oper) (M:Nat) (dst last:Nat->Nat) (V:Nat->U->O->Prop) (base:aO) (w:O) (L:Array Bool) (a:aO) (x:O):Prop where
 no:∀ i,M<=i->¬ done L i
 cl:∀ i o,done L i->l[i]?=ak o->∀ e∈o.after,J .any e=Y->done L e.on
 df:a.defers=base.defers
 sz:a.tmps.size=base.tmps.size
 kp:∀ j,(∀ i,i<M->dst i≠j)->a.tmps[j]?=base.tmps[j]?
 lW:Below w.heap.size w x
 val:∃ vs:Nat->U,∀ i,i<M->done L i->a.tmps[dst i]?=ak (vs i)/\(¬ done L (last i)->V i (vs i) x)
theorem gI {P:Program} {Q:Exit->aO->O->Prop} {id:Nat} {base:aO} {w:O} {l:List Oper} (N M:Nat) (dst last:Nat->Nat) (V:Nat->U->O->Prop)
  (hm:P.follows .mixedOrders=Y) (hf:yH l.toArray=Y) (hN:l.length=N) (Ub:M<=N) (hinj:∀ i j,i<M->j<M->dst i=dst j->i=j) (hs:∀ i,i<M->dst i<base.tmps.size)
  (hop:∀ i o,i<M->l[i]?=ak o->∀ a w' (D:Nat->Prop),¬ D i->(∀ j oj,D j->l[j]?=ak oj->∀ e∈oj.after,J .any e=Y->D e.on)->(∀ e∈o.after,J .any e=Y->D e.on)->Below w.heap.size w w'->Gv i M dst last V base o a w'->∀ K:aO->O->Prop,(∀ v w'',V i v w''->Below w.heap.size w' w''->(∀ j u,j<M->D j->¬ D (last j)->last j≠i->j≠i->V j u w'->V j u w'')->K (a.put (ak (dst i)) v) w'')->wpOp P l.toArray Q i K a w')
  (hall:M<N->∀ D:Nat->Prop,(∀ j o,D j->l[j]?=ak o->∀ e∈o.after,J .any e=Y->D e.on)->(∀ o,l[M]?=ak o->∀ e∈o.after,J .any e=Y->D e.on)->∀ i,i<M->D i)
  (hnext:∀ k o,M<k->k<N->l[k]?=ak o->∃ e∈o.after,J .any e=Y/\e.on=k-1)
  (hseq:∀ a w',a.defers=base.defers->a.tmps.size=base.tmps.size->(∀ j,(∀ i,i<M->dst i≠j)->a.tmps[j]?=base.tmps[j]?)->(∃ vs:Nat->U,∀ i,i<M->a.tmps[dst i]?=ak (vs i)/\(M<=last i->V i (vs i) w'))->Below w.heap.size w w'->fJ P l.toArray Q (N-M) M a w'):(Code.region id l.toArray Y).wp P Q base w:=by
 refine mq (fun L a x=>Q8 l M dst last V base w L a x\/∃ s,1<=s/\M+s<=N/\(∀ i,i<N->(done L i↔i<M+s))/\fJ P l.toArray Q (N-M-s) (M+s) a x) hm hf ?_ ?_ ?_
 ·exact aJ ⟨fun i _=>fT _ _,fun i o h=>absurd h (fT _ _),rfl,rfl,fun _ _=>rfl,(Below.refl _ _).drew,fun _=>.bool Y,fun i _ h=>absurd h (fT _ _)⟩
 ·intro L a x i o hsz hI ho hnd kC;have hi:i<l.length:=(aB.1 ho).1;have vN:i<L.size:=by omega
  rcases hI with I|⟨s,h1,h2,h3,h4⟩
  ·rcases au i M with hiM|hiM
   ·obtain⟨vs,q1⟩:=I.val;have hon:∀ e∈o.after,J .any e=Y->e.on<M:=fun e he hb=>by
     have h7:=aC.1 hf i (aL.2 (by simpa using hi));have ho':(l.toArray)[i]?=ak o:=by simpa using ho
     rw [ho'] at h7;have h8:=Array.all_eq_true'.1 h7 e he;rw [hb] at h8;have:e.on<i:=by simpa using h8
     omega
    have seen:Gv i M dst last V base o a x:=⟨fun j u hj hu=>dD (by rw [I.kp j hj]; exact hu),fun e he hbd hl=>by
     obtain⟨p1,p2⟩:=q1 e.on (hon e he hbd) (kC e he hbd);rw [dD p1];refine p2 ?_;rcases hl with hl|hl
     ·rw [hl]; exact hnd
     ·exact I.no _ hl,fun e he hbd=>by
     obtain⟨p1,p2⟩:=q1 e.on (hon e he hbd) (kC e he hbd);rw [dD p1];exact p1⟩
    refine hop i o hiM ho a x (done L) hnd I.cl kC I.lW seen _ fun v w'' hvw hbw hpr=>aJ ?_;refine⟨fun k hk hd=>?_,fun k q hk hq e he hb=>?_,I.df,by rw [size_put]; exact I.sz,fun j hj=>?_,I.lW.trans hbw,fun k=>if k=i then v else vs k,fun k Nn hk=>?_⟩
    ·rcases (fZ vN k).1 hd with h9|h9
     ·omega
     ·exact I.no k hk h9
    ·rw [fZ vN] at hk ⊢;rcases hk with rfl|hk
     ·rw [hq] at ho;cases ho;exact aH (kC e he hb)
     ·exact aH (I.cl k q hk hq e he hb)
    ·rw [get_put _ _ _ _ (fun e=>hj i hiM e.symm)];exact I.kp j hj
    ·by_cases e:k=i
     ·subst e;have:dst k<a.tmps.size:=by rw [I.sz]; exact hs k Nn
      simp only [if_true];exact⟨by simp [Act.put,this],fun _=>hvw⟩
     ·simp only [if_neg e];rw [get_put _ _ _ _ (fun e2=>e (hinj k i Nn hiM e2))];rcases (fZ vN k).1 hk with h9|h9
      ·exact absurd h9 e
      ·obtain⟨p1,p2⟩:=q1 k Nn h9;refine⟨p1,fun hn=>?_⟩;have n1:last k≠i:=fun e3=>hn ((fZ vN _).2 (aJ e3));have n2:¬ done L (last k):=fun e3=>hn ((fZ vN _).2 (aH e3));exact hpr k _ Nn h9 n2 n1 e (p2 n2)
   ·have ND:i=M:=by
     rcases au M i with h9|h9
     ·obtain⟨e,he,hb,hon⟩:=hnext i o h9 (by omega) ho;have hd:=kC e he hb;rw [hon] at hd;exact absurd hd (I.no _ (by omega))
     ·omega
    subst ND;have hD:=hall (by omega) (done L) I.cl (fun o' ho' e he hb=>by
     rw [ho] at ho';cases ho';exact kC e he hb)
    obtain⟨vs,q1⟩:=I.val;have hq:=hseq a x I.df I.sz I.kp ⟨vs,fun k hk=>⟨(q1 k hk (hD k hk)).1,fun hl=>(q1 k hk (hD k hk)).2 (I.no _ hl)⟩⟩ I.lW;rw [show N-i=(N-i-1)+1 by omega] at hq;refine wpOp_mono (fun a' x' h=>aH ⟨1,aG _,by omega,fun k hk=>?_,h⟩) hq;rw [fZ vN];constructor
    ·rintro (rfl|h9)
     ·omega
     ·rcases au k i with h8|h8
      ·omega
      ·exact absurd h9 (I.no k h8)
    ·intro h9;by_cases e:k=i
     ·exact aJ e
     ·exact aH (hD k (by omega))
  ·have hge:M+s<=i:=by
    rcases au i (M+s) with h9|h9
    ·exact absurd ((h3 i (by omega)).2 h9) hnd
    ·exact h9
   have hie:i=M+s:=by
    rcases au (M+s) i with h9|h9
    ·obtain⟨e,he,hb,hon⟩:=hnext i o (by omega) (by omega) ho;have hd:=kC e he hb;rw [hon] at hd;have:=(h3 (i-1) (by omega)).1 hd;omega
    ·omega
   subst hie;rw [show N-M-s=(N-M-(s+1))+1 by omega] at h4;refine wpOp_mono (fun a' x' h=>aH ⟨s+1,by omega,by omega,fun k hk=>?_,h⟩) h4;rw [fZ vN];constructor
   ·rintro (rfl|h9)
    ·omega
    ·have:=(h3 k hk).1 h9;omega
   ·intro h9;by_cases e:k=M+s
    ·exact aJ e
    ·exact aH ((h3 k hk).2 (by omega))
 ·intro L a x hI hd;rcases hI with I|⟨s,h1,h2,h3,h4⟩
  ·rcases au M N with h9|h9
   ·exact absurd (hd M (by omega)) (I.no M (aG _))
   ·obtain⟨vs,q1⟩:=I.val;have hq:=hseq a x I.df I.sz I.kp ⟨vs,fun k hk=>⟨(q1 k hk (hd k (by omega))).1,fun hl=>(q1 k hk (hd k (by omega))).2 (I.no _ hl)⟩⟩ I.lW;rw [show N-M=0 by omega] at hq;exact hq
  ·have:=(h3 (N-1) (by omega)).1 (hd (N-1) (by omega));rw [show N-M-s=0 by omega] at h4;exact h4
theorem gY {P:Program} (ρ:ay->U) (o:Oper) (t:aF) (parts:Array (Nat×ay)) (ho:o.op=.build t parts) {ps:Array (Nat×U)} (hp:parts.map (fun x=>(x.1,ρ x.2))=ps) {v:U} {w:O} (hr:(Instr.build t ps).run P w=.ok v w) :
  (execOp ρ o).run P w=.ok (.value v) w:=by
 subst hp;simp [execOp,ho,hr,Result.andThen]
theorem Am {P:Program} (ρ:ay->U) (o:Oper) (t:aF) (x y:ay) (ho:o.op=.store t x y) {w w':O} (hr:(Instr.storeAt t (ρ x) (ρ y)).run P w=.ok () w') :
  (execOp ρ o).run P w=.ok .skip w':=by
 simp [execOp,ho,hr,Result.andThen]
theorem fI {P:Program} {ops:Array Oper} {Q:Exit->aO->O->Prop} {K:aO->O->Prop} {a:aO} {w w':O} {i:Nat} {o:Oper} (t:aF) (x y:ay) {p v:U}
  (ho:ops[i]?=ak o) (hg:o.guard=aP) (hop:o.op=.store t x y) (hd:o.dst=aP) (hx:a.eval x=p) (hy:a.eval y=v) (hr:(Instr.storeAt t p v).run P w=.ok () w') (h:K a w'):wpOp P ops Q i K a w:=by
 refine EX ho hg (Am a.eval o t x y hop (by rw [hx,hy]; exact hr)) ?_;rw [hd];exact h
def sQ (l:List Oper) (i:Nat):List Nat:=match l[i]? with
 | some o=>(o.after.toList.filter fun e=>J .any e).map fun e=>e.on
 | none=>[]
def vW (l:List Oper):Nat->List Nat->List Nat
 | 0,s=>s
 | n+1,s=>vW l n (s++s.flatMap (sQ l))
theorem xC {l:List Oper} {D:Nat->Prop} {i:Nat} (h:∀ o,l[i]?=ak o->∀ e∈o.after,J .any e=Y->D e.on):∀ j∈sQ l i,D j:=by
 intro j hj;unfold sQ at hj;cases ho:l[i]? with
 | none=>rw [ho] at hj; cases hj
 | some o =>
  rw [ho] at hj;obtain⟨e,he,rfl⟩:=List.mem_map.1 hj;obtain⟨h1,h2⟩:=List.mem_filter.1 he;exact h o ho e (Array.mem_toList_iff.1 h1) h2
theorem uq {l:List Oper} {D:Nat->Prop} (hc:∀ j o,D j->l[j]?=ak o->∀ e∈o.after,J .any e=Y->D e.on):∀ n s,(∀ j∈s,D j)->∀ j∈vW l n s,D j
 | 0,_,hs=>hs
 | n+1,s,hs=>uq hc n _ fun j hj=>by
  rcases List.mem_append.1 hj with h|h
  ·exact hs j h
  ·obtain⟨i,hi,hd⟩:=List.mem_flatMap.1 h;exact xC (fun o ho=>hc i o (hs i hi) ho) j hd
theorem jy {l:List Oper} {M:Nat} (n:Nat) (h:(List.range M).all (fun i=>(vW l n (sQ l M)).contains i)=Y) (D:Nat->Prop) (hc:∀ j o,D j->l[j]?=ak o->∀ e∈o.after,J .any e=Y->D e.on) (hm:∀ o,l[M]?=ak o->∀ e∈o.after,J .any e=Y->D e.on):∀ i,i<M->D i:=by
 intro i hi;have h2:=aC.1 h i (aL.2 hi);exact uq hc n _ (xC hm) i (List.contains_iff_mem.1 h2)
theorem oV {P:Program} (ρ:ay->U) (o:Oper) (t:aF) (ho:o.op=.alloc t) {v:U} {w w':O} (hr:(Instr.alloc t Y (.tuple #[])).run P w=.ok v w'):(execOp ρ o).run P w=.ok (.value v) w':=by
 simp [execOp,ho,hr,Result.andThen]
end Rg
namespace Rw
open Go.RowKit
theorem iH {α:Type} {E:Ek α} (K:E.Ok) {w:O} (B:Nat) {g:Nat} {x:U} {m:List α} (fG:dz w g #[] E.t) (hBg:B<=g) (hx:Row E w x m) (hm:m.length<=1000) (ty:aF) :
  ∃ v' w',(Builtin.append_ #[E.ts,E.ts] ty #[aK (ak ⟨g,0,aP⟩) 0 0,x]).run ah w=.ok v' w'/\Own E w' B v' m/\Below w.heap.size w w':=by
 have ho:Own E w B (aK (ak ⟨g,0,aP⟩) 0 0) ([]:List α):=jI K rfl hBg fG (aG _) (aQ _) (by simp) (by simp [flat]);have hl:=fG.lt;obtain⟨v',w',r,o',gr⟩:=jg K B ho hx (by simp) hm (by omega) ty;refine⟨v',w',r,by simpa using o',?_⟩;obtain⟨i,i1,i2,i3,i4⟩:=K.info;rcases hx with⟨rfl,rfl⟩|⟨ad,c,rfl,h2,h3,h4⟩
 ·have r2:=run_append_owned_none (P:=ah) (w:=w) B E.ts ty E.t i E.n K.hu i1 _ _ _ ho;rw [r2] at r;injection r with _ e
  rw [<- e];exact Below.refl _ _
 ·rcases Nat.eq_zero_or_pos m.length with h0|h0
  ·have r2:=run_append_room (P:=ah) (w:=w) E.ts ty E.t i K.hu i1 g 0 0 #[] fG ad m.length c (flat E m) (by rw [dx K,i3]) h4 (jH K m) (by omega) (by rw [dx K,h0]; simp);rw [r2] at r;injection r with _ e
   rw [<- e];have hf:flat E m=[]:=List.eq_nil_of_length_eq_zero (by rw [dx K,h0]; simp);have hs:=dz.set fG ((#[]:Array U).toList.take (0 * i.size)++flat E m++(#[]:Array U).toList.drop (0 * i.size+(flat E m).length)).toArray;refine⟨rfl,rfl,rfl,by simp [World.setRow],fun k hk=>?_⟩;by_cases hkg:k=g
   ·subst hkg;refine hs.trans ?_;rw [hf];simpa using fG.symm
   ·exact setRow_other w g k _ hkg
  ·have r2:=run_append_grow (P:=ah) (w:=w) E.ts ty E.t i E.z K.hu i1 i2 ⟨g,0,aP⟩ 0 0 [] (by simp) (fun j v h=>by simp at h) ad m.length c (flat E m) (by rw [dx K,i3]) h4 (by omega) (by omega) (by
    rw [Nat.zero_add,nextslicecap_zero h0,i4];exact Nat.le_trans (Nat.mul_le_mul hm K.few) (by decide))
   rw [r2] at r;injection r with _ e
   rw [<- e];exact (Below.refl _ _).drew.alloc (aG _) _
end Rw
namespace In
open Go.RowKit Go.ChangeShapes Go.WideShapes
structure gL (W:O) (nv:U) (zs:List Int):Prop where
 shape:∃ ao cap,nv=aK ao zs.length cap
 at_:∀ (i:Nat) (z:Int),zs[i]?=ak z->(-9223372036854775808<=z/\z<=9223372036854775807)/\∃ p:Addr,p.block<W.heap.size/\(∀ w,(Instr.indexAt 23 nv (aU .i64 i)).run ah w=.ok (.pointer (ak p)) w)/\W.cell? p=ak (aU .i64 z)
theorem gL.on {W W':O} {nv:U} {zs:List Int} (h:gL W nv zs) (hb:Below W.heap.size W W'):gL W' nv zs :=
 ⟨h.shape,fun i z hz=>by
  obtain⟨h1,p,h2,h3,h4⟩:=h.at_ i z hz;exact⟨h1,p,Nat.lt_of_lt_of_le h2 hb.size,h3,by rw [hb.cell h2]; exact h4⟩⟩
theorem E5 {n:Int} (h:(Lit.int .i64 n).wf=Y):-9223372036854775808<=n/\n<=9223372036854775807:=by
 have h2:(decide (IntKind.i64.min<=n) && decide (n<=IntKind.i64.max))=Y:=h;rw [Z,decide_eq_true_eq,decide_eq_true_eq,show IntKind.i64.min=-9223372036854775808 by decide,show IntKind.i64.max=9223372036854775807 by decide] at h2;exact h2
theorem Jh:Try.prog.cellsOf 3=1:=by kernel_rfl
theorem vX (a:Addr) (m len cap:Nat) (h:m<len) (w:O):(Instr.indexAt 23 (aK (ak a) len cap) (aU .i64 m)).run ah w=.ok (.pointer (ak (a.add m))) w:=by
 have h1:(m:Int)<len:=by omega
 simp [go_sem,aD,h1]
theorem sS {H:Type} {enc:aF×U->H} {W:O} {sp:Nat->Bool} {held:Bool} {fuel:Nat} {v:U} {x:DataW H×List MemPlace}
  (hf:DataW.trod enc ah W 0 sp held fuel 23 [v]=ak x):∃ zs,zs.length<=maxLen/\gL W v zs:=by
 rcases open_ints aD Try.underlying3 Jh hf with⟨h1,_⟩|⟨a',len',cap',zs,h1,_,h3,h4,h5,_,h7,h8⟩
 ·have e:v=aK aP 0 0:=by simpa using h1
  rw [e];exact⟨[],aQ _,⟨aP,0,rfl⟩,fun i z h=>by simp at h⟩
 ·have e:v=aK (ak a') len' cap':=by simpa using h1
  rw [e];have hle:len'<=zs.length:=by rw [h5]; split <;> omega
  have hl:(zs.take len').length=len':=by simp; omega
  refine⟨zs.take len',by omega,⟨ak a',cap',by rw [hl]⟩,fun i z hz=>?_⟩;obtain⟨hi,hzi⟩:=aB.1 hz;have hi2:i<len':=by omega
  have hz2:zs[i]'(by omega)=z:=by simpa using hzi
  have hc:=h7 i (by omega);have hg:zs.getD i 0=z:=by rw [<- hz2]; simp [List.getD,show i<zs.length by omega]
  rw [hg] at hc;exact⟨E5 (h8 z (by rw [<- hz2]; exact List.getElem_mem _)),a'.add i,World.block_lt_of_cell? W _ hc,fun w=>vX a' i len' cap' hi2 w,hc⟩
theorem E8 {H:Type} {enc:aF×U->H} {W:O} {r:Reach} {b0:Nat} {sp:Nat->Bool} {held:Bool} {v:U} {d:DataW H} {ps:List MemPlace}
  (hval:Value.okWide ah W r b0 23 v) (hd:DataW.Trod enc ah W 0 sp held 23 v d ps):∃ zs,zs.length<=maxLen/\gL W v zs:=by
 obtain⟨a,len,cap,rfl⟩:=okWide_slice aD hval;obtain⟨fuel,hf⟩:=hd;exact sS (fuel:=fuel) hf
end In
namespace At
open Go.RowKit Va
abbrev A4:=ByteArray×Bool×Int×ByteArray
abbrev av (x:A4):U:=.agg #[X x.1,.bool x.2.1,aU .i64 x.2.2.1,X x.2.2.2]
end At
namespace At
open Go.RowKit Va In
def nm (i:Nat):ByteArray:=⟨#[UInt8.ofNat (97+i)]⟩
def mR:Array U:=#[X ⟨#[97]⟩,X ⟨#[98]⟩,X ⟨#[99]⟩,X ⟨#[100]⟩,X ⟨#[101]⟩,X ⟨#[102]⟩,X ⟨#[103]⟩]
def kG (zs:List Int) (i:Nat):Int:=if zs=[] then 0 else zs.getD (i % zs.length) 0
def odd (z:Int):Bool:=bits BinOp.and IntKind.i64 z 1 == 1
end At
namespace At
open Go.RowKit Go.Sort Va In
def Jc (c:UInt8):Bool:=decide (97<=c.toNat) && decide (c.toNat<=122)
def tX (s:ByteArray):Bool:=s.data.toList.all Jc && (decide (1<=s.size) && decide (s.size<=12))
end At
namespace Nm
def hor (l:List UInt8):Int:=l.foldl (fun h b=>h * 256+(b.toNat:Int)) 0
def iY (l:List UInt8):Int:=IntKind.i64.wrap (hor l)
end Nm
namespace Rl
open Go.RowKit Pu Pr
def has (m:List Cn) (n:ByteArray):Bool:=m.any fun x=>decide (x.1=n)
theorem yI {c:Cn} {r:List Cn} (h:qL (c::r)):∀ y∈r,y.1≠c.1:=fun y hy e=>EK ((aI.1 h).1 y hy) e.symm
/-! ### match -/
theorem KF {l:List Cn} (h:qL l) {x y:Cn} (hx:x∈l) (hy:y∈l) (e:x.1=y.1):x=y:=by
 induction l with
 | nil=>cases hx
 | cons z r ih =>
  have h1:=yI h;have h2:=(aI.1 h).2;rcases aN.1 hx with rfl|hx2 <;> rcases aN.1 hy with rfl|hy2
  ·rfl
  ·exact absurd e.symm (h1 y hy2)
  ·exact absurd e (h1 x hx2)
  ·exact ih h2 hx2 hy2
/-! ### cover -/
def gq:Kd->Kd->Bool
 | .rg p q,.rg r s=>decide (r<=p) && decide (q<=s)
 | .tx s,.tx t=>s.data.toList == t.data.toList
 | .tx s,.pr t=>pfx t s
 | .pr s,.pr t=>pfx t s
 | _,_=>aV
theorem sU (k:Kd):gq k k=Y:=by
 cases k <;> simp [gq,jk]
theorem lX (a b:Kd) (h:gq a b=Y) (v:V3) (hv:dJ a v=Y):dJ b v=Y:=by
 obtain⟨t,n,u⟩:=v;cases a <;> cases b <;> simp only [gq,Z,decide_eq_true_eq,beq_iff_eq] at h <;> simp only [dJ,Z,decide_eq_true_eq,beq_iff_eq] at hv ⊢
 ·exact⟨hv.1,by omega,by omega⟩
 ·cases h
 ·cases h
 ·cases h
 ·exact⟨hv.1,hv.2.trans h⟩
 ·exact⟨hv.1,by rw [dZ,hv.2,<- dZ]; exact h⟩
 ·cases h
 ·cases h
 ·exact⟨hv.1,(dZ _ _).2 (((dZ _ _).1 h).trans ((dZ _ _).1 hv.2))⟩
theorem qA (a b:Kd) (ha:fU a=Y) (h:∀ v,dJ a v=Y->dJ b v=Y):gq a b=Y:=by
 cases a with
 | rg p q =>
  simp only [fU,decide_eq_true_eq] at ha;have h1:=h (aV,p,⟨#[]⟩) (by rw [oP]; simp [ha]);have h2:=h (aV,q,⟨#[]⟩) (by rw [oP]; simp [ha]);cases b with
  | rg r s =>
   rw [oP] at h1 h2;simp only [Z,decide_eq_true_eq] at h1 h2;simp [gq,h1.1,h2.2]
  | tx t=>simp [dJ] at h1
  | pr t=>simp [dJ] at h1
 | tx s =>
  have h1:=h (Y,0,s) (by rw [jh]; simp);cases b with
  | rg r t=>rw [kY] at h1; cases h1
  | tx t=>rw [jh] at h1; exact h1
  | pr t=>rw [iT] at h1; exact h1
 | pr s =>
  have h1:=h (Y,0,s) (by rw [iT]; exact jk s);cases b with
  | rg r t=>rw [kY] at h1; cases h1
  | tx t =>
   have h2:=h (Y,0,more s) (by rw [iT]; exact tY s);rw [jh,beq_iff_eq] at h1 h2;rw [<- h1] at h2;have h3:=congrArg List.length h2;simp [more] at h3
  | pr t=>rw [iT] at h1; exact h1
def jA (a b:List Cn):Bool:=a.all fun x=>b.any fun y=>decide (y.1=x.1) && gq y.2 x.2
theorem vY (a b:List Cn):jA a b=Y↔∀ x∈a,∃ y∈b,y.1=x.1/\gq y.2 x.2=Y:=by
 simp only [jA,aC,List.any_eq_true,Z,decide_eq_true_eq]
theorem uw (a:List Cn):jA a a=Y:=(vY a a).2 fun x hx=>⟨x,hx,rfl,sU _⟩
end Rl
namespace Kp
open Go.RowKit Va In
def nm (i:Nat):ByteArray:=⟨#[UInt8.ofNat (97+i)]⟩
def mR:Array U:=#[X ⟨#[97]⟩,X ⟨#[98]⟩,X ⟨#[99]⟩,X ⟨#[100]⟩,X ⟨#[101]⟩,X ⟨#[102]⟩,X ⟨#[103]⟩]
theorem KG (i:Nat) (h:i<7):mR[i]?=ak (X (nm i)):=by
 match i,h with
 | 0,_=>rfl
 | 1,_=>rfl
 | 2,_=>rfl
 | 3,_=>rfl
 | 4,_=>rfl
 | 5,_=>rfl
 | 6,_=>rfl
theorem yJ (w:O):Calls ah 32 #[] w fun e w'=>e=.returned (aK (ak ⟨w.heap.size,0,aP⟩) 7 7)/\w'=w.alloc (.cells mR 9):=by
 go_enter Try.func32,Try.ntmps32;go_wp2;go_ret;exact⟨rfl,rfl⟩
def kG (zs:List Int) (i:Nat):Int:=if zs=[] then 0 else zs.getD (i % zs.length) 0
theorem Ao (nv:U) (zs:List Int) (i:Nat) (w:O) (hz:gL w nv zs) (hl:zs.length<=maxLen) (hi:i<=100) :
  Calls ah 34 #[nv,aU .i64 i] w fun e w'=>e=.returned (aU .i64 (kG zs i))/\w=w':=by
 obtain⟨ao,cap,rfl⟩:=hz.shape;unfold maxLen at hl;cases zs with
 | nil =>
  go_enter aS,aR;go_wp2;go_ret;exact⟨rfl,rfl⟩
 | cons z r =>
  have hm:i % (z::r).length<(z::r).length:=aT _ (by simp);obtain⟨y,hy⟩:∃ y,(z::r)[i % (z::r).length]?=ak y:=⟨_,aj hm⟩;obtain⟨_,p,_,hix,hpc⟩:=hz.at_ _ y hy;have P:=Lib.hid (show kG (z::r) i=y by unfold kG; rw [if_neg (by simp),aA,hy]; rfl);have h0:((((z::r).length:Nat):Int) == 0)=aV:=by simp; omega
  have hne:(((z::r).length:Nat):Int)≠0:=by simp; omega
  have ht:(i:Int) % ((z::r).length:Nat)=((i % (z::r).length:Nat):Int):=rfl;have ht2:(i:Int).tmod ((z::r).length:Nat)=((i % (z::r).length:Nat):Int):=by
   rw [Int.tmod_eq_emod_of_nonneg (by omega)]; rfl
  have hn0:0<(((z::r).length:Nat):Int):=by simp
  generalize (z::r).length=n at *;generalize i % n=m at *;clear hz hy hm;go_enter aS,aR;go_wp2;go_ret;exact⟨Wi.sP P.out.symm,rfl⟩
def odd (z:Int):Bool:=bits BinOp.and IntKind.i64 z 1 == 1
theorem Ap {W:O} {nv:U} {zs:List Int} (hz:gL W nv zs) (i:Nat):-9223372036854775808<=kG zs i/\kG zs i<=9223372036854775807:=by
 unfold kG
 split
 ·omega
 ·rename_i h
  have hm:i % zs.length<zs.length:=aT _ (List.length_pos_iff.2 h);have:=(hz.at_ _ _ (aj hm)).1;rw [aA,aj hm];exact this
end Kp
namespace Rl
open Go.RowKit Pu Pr
end Rl
namespace Pr
open Go.RowKit Pu
end Pr
end Go.Proofs.Ytmklifheakemeaa
