/-
  Calls inside a regio. Conditions as told.
-/
import Derived.Test.YtmklifheakemeaaVQ001
import Derived.Test.YtmklifheakemeaaVQ005
import Derived.Test.YtmklifheakemeaaVQ004
import Derived.Lib.Bytealg
set_option maxRecDepth 100000
set_option maxHeartbeats 64000000
open _root_.Bool renaming true->X,and_eq_true->ay,false->aN
open _root_.Go renaming World->O,Value->U,Operand->Y,TypeId->aF,Act->aK,Calls->aP
open Go.Region renaming binds->J,wanted->ah
open Go.Value renaming string->aC,slice->aQ
open _root_.List renaming getElem?_eq_getElem->aj,all_eq_true->au,getD_eq_getElem?_getD->aA,getElem?_eq_some_iff->aB,mem_range->aG,pairwise_cons->aJ,mem_cons->aL
open _root_.Nat renaming lt_or_ge->ak,le_refl->aH,mod_lt->aM
open _root_.Option renaming some->Z,none->aO
open _root_.Or renaming inl->aD,inr->aI
namespace Go.Proofs.Ytmklifheakemeaa
namespace Rg
open Go.RowKit
theorem fH {P:Program} {ops:Array Oper} {Q:Exit->aK->O->Prop} {K:aK->O->Prop} {a:aK} {w:O} {i:Nat} {o:Oper} {f:FuncId} {args:Array U} {R:Ending->O->Prop}
  (ho:ops[i]?=Z o) (hg:o.guard=aO) (hr:(execOp a.eval o).run P w=.ok (.enter f args) w) (hc:aP P f args w R) (hR:∀ e w',R e w'->∃ v,e=.returned v/\K (a.put o.dst v) w'):wpOp P ops Q i K a w:=by
 unfold wpOp;rw [ho];have hw:ah o (yielded ops a.tmps)=X:=by simp [ah,hg]
 simp only [hw,if_true];refine aD ?_;unfold Oper.wp;rw [hr,Oper.upon_enter];refine hc.mono ?_;intro e w' h;obtain⟨v,rfl,hk⟩:=hR e w' h;exact hk
theorem fu {P:Program} (ρ:Y->U) (o:Oper) (s:aF) (x:Y) (f:Nat) (ho:o.op=.fieldAddr s x f) {v:U} {w:O} (hr:(Instr.fieldAt s (ρ x) f).run P w=.ok v w):(execOp ρ o).run P w=.ok (.value v) w:=by
 unfold execOp;rw [ho];exact Jz hr
theorem EA {P:Program} (ρ:Y->U) (o:Oper) (op:BinOp) (t:aF) (x y:Y) (r:aF) (ho:o.op=.binOp op t x y r) {v:U} {w:O} (hr:(do eqGuard op t x y (ρ x) (ρ y); binOp op t (ρ x) (ρ y):Sem U).run P w=.ok v w):(execOp ρ o).run P w=.ok (.value v) w:=by
 unfold execOp;rw [ho];exact Jz hr
structure JA (N:Nat) (dst:Nat->Nat) (V:Nat->U->O->Prop) (base:aK) (o:Oper) (a:aK) (w:O):Prop where
 kp:∀ j u,(∀ i,i<N->dst i≠j)->base.tmps[j]?=Z u->a.eval (.tmp j)=u
 at_:∀ e∈o.after,J .any e=X->V e.on (a.eval (.tmp (dst e.on))) w
 got:∀ e∈o.after,J .any e=X->a.tmps[dst e.on]?=Z (a.eval (.tmp (dst e.on)))
theorem zZ {P:Program} {Q:Exit->aK->O->Prop} {id:Nat} {base:aK} {w:O} {l:List Oper} (N:Nat) (dst:Nat->Nat) (V:Nat->U->O->Prop)
  (hm:P.follows .mixedOrders=X) (hf:xA l.toArray=X) (hN:l.length=N) (_hdst:∀ i o,l[i]?=Z o->o.dst=Z (dst i)) (hinj:∀ i j,i<N->j<N->dst i=dst j->i=j) (hs:∀ i,i<N->dst i<base.tmps.size)
  (hst:∀ i v w' w'',V i v w'->Below w'.heap.size w' w''->V i v w'')
  (hop:∀ i o,i<N->l[i]?=Z o->∀ a w',Below w.heap.size w w'->JA N dst V base o a w'->∀ K:aK->O->Prop,(∀ v w'',V i v w''->Below w'.heap.size w' w''->K (a.put (Z (dst i)) v) w'')->wpOp P l.toArray Q i K a w')
  (hend:∀ a w',a.defers=base.defers->a.tmps.size=base.tmps.size->(∀ j,(∀ i,i<N->dst i≠j)->a.tmps[j]?=base.tmps[j]?)->(∀ i,i<N->∃ v,a.tmps[dst i]?=Z v/\V i v w')->Below w.heap.size w w'->Q .normal a w'):(Code.region id l.toArray X).wp P Q base w:=by
 refine jO (fun L a x=>(a.defers=base.defers/\a.tmps.size=base.tmps.size/\∀ j,(∀ i,i<N->dst i≠j)->a.tmps[j]?=base.tmps[j]?)/\(∀ i,done L i->i<N->∃ v,a.tmps[dst i]?=Z v/\V i v x)/\Below w.heap.size w x) hm hf ?_ ?_ ?_
 ·exact⟨⟨rfl,rfl,fun _ _=>rfl⟩,fun i h=>absurd h (fG _ _),(Below.refl _ _).drew⟩
 ·intro L a x i o hsz ⟨⟨h1,h2,h3⟩,hv,hb⟩ ho hnd ji;have hi:i<l.length:=(aB.1 ho).1;have qz:i<L.size:=by omega
  have hon:∀ e∈o.after,J .any e=X->e.on<N:=fun e he hb=>by
   have h7:=au.1 hf i (aG.2 (by simpa using hi));have ho':(l.toArray)[i]?=Z o:=by simpa using ho
   rw [ho'] at h7;have h8:=Array.all_eq_true'.1 h7 e he;rw [hb] at h8;have:e.on<i:=by simpa using h8
   omega
  have seen:JA N dst V base o a x:=⟨fun j u hj hu=>dF (by rw [h3 j hj]; exact hu),fun e he hbd=>by
   obtain⟨v,q1,q2⟩:=hv e.on (ji e he hbd) (hon e he hbd);rw [dF q1];exact q2,fun e he hbd=>by
   obtain⟨v,q1,q2⟩:=hv e.on (ji e he hbd) (hon e he hbd);rw [dF q1];exact q1⟩
  refine hop i o (by omega) ho a x hb seen _ fun v w'' hvw hbw=>?_;refine⟨⟨h1,by rw [size_put]; exact h2,fun j hj=>?_⟩,fun k hk hkN=>?_,hb.trans (hbw.mono hb.size)⟩
  ·rw [get_put _ _ _ _ (fun e=>hj i (by omega) e.symm)];exact h3 j hj
  ·by_cases e:k=i
   ·subst e;have:dst k<a.tmps.size:=by rw [h2]; exact hs k hkN
    exact⟨v,by simp [Act.put,this],hvw⟩
   ·rw [get_put _ _ _ _ (fun e2=>e (hinj k i hkN (by omega) e2))];rcases (eX qz k).1 hk with h9|h9
    ·exact absurd h9 e
    ·obtain⟨u,q1,q2⟩:=hv k h9 hkN;exact⟨u,q1,hst k u _ _ q2 hbw⟩
 ·intro L a x ⟨⟨h1,h2,h3⟩,hv,hb⟩ hd;exact hend a x h1 h2 h3 (fun i hi=>hv i (hd i (by omega)) hi) hb
theorem iK {ops:Array Oper} {o og:Oper} {g:Nat} {b:Bool} {d:Nat} {tmps:Array U} (ho:o.guard=Z (g,b)) (hg:ops[g]?=Z og) (hd:og.dst=Z d) (ht:tmps[d]?=Z (.bool b)):ah o (yielded ops tmps)=X:=by
 unfold ah yielded;rw [ho];simp [hg,hd,ht]
theorem iW {P:Program} {ops:Array Oper} {Q:Exit->aK->O->Prop} {K:aK->O->Prop} {a:aK} {w w':O} {i:Nat} {o:Oper} {v:U}
  (ho:ops[i]?=Z o) (hw:ah o (yielded ops a.tmps)=X) (hr:(execOp a.eval o).run P w=.ok (.value v) w') (h:K (a.put o.dst v) w'):wpOp P ops Q i K a w:=by
 unfold wpOp;rw [ho];simp only [hw,if_true];refine aD ?_;unfold Oper.wp;rw [hr];exact h
theorem uY {P:Program} {ops:Array Oper} {Q:Exit->aK->O->Prop} {K:aK->O->Prop} {a:aK} {w:O} {i:Nat} {o:Oper} {f:FuncId} {args:Array U} {R:Ending->O->Prop}
  (ho:ops[i]?=Z o) (hw:ah o (yielded ops a.tmps)=X) (hr:(execOp a.eval o).run P w=.ok (.enter f args) w) (hc:aP P f args w R) (hR:∀ e w',R e w'->∃ v,e=.returned v/\K (a.put o.dst v) w'):wpOp P ops Q i K a w:=by
 unfold wpOp;rw [ho];simp only [hw,if_true];refine aD ?_;unfold Oper.wp;rw [hr,Oper.upon_enter];refine hc.mono ?_;intro e w' h;obtain⟨v,rfl,hk⟩:=hR e w' h;exact hk
theorem Ip {P:Program} (ρ:Y->U) (o:Oper) (c x y:Y) (ho:o.op=.pick c x y) {b:Bool} (hc:ρ c=.bool b) (w:O):(execOp ρ o).run P w=.ok (.value (if b then ρ x else ρ y)) w:=by
 unfold execOp;rw [ho];cases b <;> simp [hc,go_sem,asBool]
theorem wpOp_mono {P:Program} {ops:Array Oper} {Q:Exit->aK->O->Prop} {i:Nat} {K K':aK->O->Prop} {a:aK} {w:O} (h:∀ a w,K a w->K' a w) (hw:wpOp P ops Q i K a w):wpOp P ops Q i K' a w:=by
 unfold wpOp at hw ⊢;cases ho:ops[i]? with
 | none =>
  rw [ho] at hw;exact h _ _ hw
 | some o =>
  rw [ho] at hw;simp only at hw ⊢
  split at hw
  ·rename_i h1
   rw [if_pos h1];rcases hw with hw|hw
   ·exact aD (Oper.wp_mono h hw)
   ·exact aI hw
  ·rename_i h1
   rw [if_neg h1];exact h _ _ hw
def fQ (P:Program) (ops:Array Oper) (Q:Exit->aK->O->Prop):Nat->Nat->aK->O->Prop
 | 0,_,a,w=>Q .normal a w
 | n+1,k,a,w=>wpOp P ops Q k (fun a w=>fQ P ops Q n (k+1) a w) a w
structure JB (i M:Nat) (dst last:Nat->Nat) (V:Nat->U->O->Prop) (base:aK) (o:Oper) (a:aK) (w:O):Prop where
 kp:∀ j u,(∀ k,k<M->dst k≠j)->base.tmps[j]?=Z u->a.eval (.tmp j)=u
 at_:∀ e∈o.after,J .any e=X->(last e.on=i\/M<=last e.on)->V e.on (a.eval (.tmp (dst e.on))) w
 got:∀ e∈o.after,J .any e=X->a.tmps[dst e.on]?=Z (a.eval (.tmp (dst e.on)))
structure Sq (l:List Oper) (M:Nat) (dst last:Nat->Nat) (V:Nat->U->O->Prop) (base:aK) (w:O) (L:Array Bool) (a:aK) (x:O):Prop where
 no:∀ i,M<=i->¬ done L i
 cl:∀ i o,done L i->l[i]?=Z o->∀ e∈o.after,J .any e=X->done L e.on
 df:a.defers=base.defers
 sz:a.tmps.size=base.tmps.size
 kp:∀ j,(∀ i,i<M->dst i≠j)->a.tmps[j]?=base.tmps[j]?
 oC:Below w.heap.size w x
 val:∃ vs:Nat->U,∀ i,i<M->done L i->a.tmps[dst i]?=Z (vs i)/\(¬ done L (last i)->V i (vs i) x)
theorem iF {P:Program} {Q:Exit->aK->O->Prop} {id:Nat} {base:aK} {w:O} {l:List Oper} (N M:Nat) (dst last:Nat->Nat) (V:Nat->U->O->Prop)
  (hm:P.follows .mixedOrders=X) (hf:xA l.toArray=X) (hN:l.length=N) (Sr:M<=N) (hinj:∀ i j,i<M->j<M->dst i=dst j->i=j) (hs:∀ i,i<M->dst i<base.tmps.size)
  (hop:∀ i o,i<M->l[i]?=Z o->∀ a w' (D:Nat->Prop),¬ D i->(∀ j oj,D j->l[j]?=Z oj->∀ e∈oj.after,J .any e=X->D e.on)->(∀ e∈o.after,J .any e=X->D e.on)->Below w.heap.size w w'->JB i M dst last V base o a w'->∀ K:aK->O->Prop,(∀ v w'',V i v w''->Below w.heap.size w' w''->(∀ j u,j<M->D j->¬ D (last j)->last j≠i->j≠i->V j u w'->V j u w'')->K (a.put (Z (dst i)) v) w'')->wpOp P l.toArray Q i K a w')
  (hall:M<N->∀ D:Nat->Prop,(∀ j o,D j->l[j]?=Z o->∀ e∈o.after,J .any e=X->D e.on)->(∀ o,l[M]?=Z o->∀ e∈o.after,J .any e=X->D e.on)->∀ i,i<M->D i)
  (hnext:∀ k o,M<k->k<N->l[k]?=Z o->∃ e∈o.after,J .any e=X/\e.on=k-1)
  (hseq:∀ a w',a.defers=base.defers->a.tmps.size=base.tmps.size->(∀ j,(∀ i,i<M->dst i≠j)->a.tmps[j]?=base.tmps[j]?)->(∃ vs:Nat->U,∀ i,i<M->a.tmps[dst i]?=Z (vs i)/\(M<=last i->V i (vs i) w'))->Below w.heap.size w w'->fQ P l.toArray Q (N-M) M a w'):(Code.region id l.toArray X).wp P Q base w:=by
 refine jO (fun L a x=>Sq l M dst last V base w L a x\/∃ s,1<=s/\M+s<=N/\(∀ i,i<N->(done L i↔i<M+s))/\fQ P l.toArray Q (N-M-s) (M+s) a x) hm hf ?_ ?_ ?_
 ·exact aD ⟨fun i _=>fG _ _,fun i o h=>absurd h (fG _ _),rfl,rfl,fun _ _=>rfl,(Below.refl _ _).drew,fun _=>.bool X,fun i _ h=>absurd h (fG _ _)⟩
 ·intro L a x i o hsz hI ho hnd ji;have hi:i<l.length:=(aB.1 ho).1;have qz:i<L.size:=by omega
  rcases hI with I|⟨s,h1,h2,h3,h4⟩
  ·rcases ak i M with hiM|hiM
   ·obtain⟨vs,q1⟩:=I.val;have hon:∀ e∈o.after,J .any e=X->e.on<M:=fun e he hb=>by
     have h7:=au.1 hf i (aG.2 (by simpa using hi));have ho':(l.toArray)[i]?=Z o:=by simpa using ho
     rw [ho'] at h7;have h8:=Array.all_eq_true'.1 h7 e he;rw [hb] at h8;have:e.on<i:=by simpa using h8
     omega
    have seen:JB i M dst last V base o a x:=⟨fun j u hj hu=>dF (by rw [I.kp j hj]; exact hu),fun e he hbd hl=>by
     obtain⟨p1,p2⟩:=q1 e.on (hon e he hbd) (ji e he hbd);rw [dF p1];refine p2 ?_;rcases hl with hl|hl
     ·rw [hl]; exact hnd
     ·exact I.no _ hl,fun e he hbd=>by
     obtain⟨p1,p2⟩:=q1 e.on (hon e he hbd) (ji e he hbd);rw [dF p1];exact p1⟩
    refine hop i o hiM ho a x (done L) hnd I.cl ji I.oC seen _ fun v w'' hvw hbw hpr=>aD ?_;refine⟨fun k hk hd=>?_,fun k q hk hq e he hb=>?_,I.df,by rw [size_put]; exact I.sz,fun j hj=>?_,I.oC.trans hbw,fun k=>if k=i then v else vs k,fun k Iq hk=>?_⟩
    ·rcases (eX qz k).1 hd with h9|h9
     ·omega
     ·exact I.no k hk h9
    ·rw [eX qz] at hk ⊢;rcases hk with rfl|hk
     ·rw [hq] at ho;cases ho;exact aI (ji e he hb)
     ·exact aI (I.cl k q hk hq e he hb)
    ·rw [get_put _ _ _ _ (fun e=>hj i hiM e.symm)];exact I.kp j hj
    ·by_cases e:k=i
     ·subst e;have:dst k<a.tmps.size:=by rw [I.sz]; exact hs k Iq
      simp only [if_true];exact⟨by simp [Act.put,this],fun _=>hvw⟩
     ·simp only [if_neg e];rw [get_put _ _ _ _ (fun e2=>e (hinj k i Iq hiM e2))];rcases (eX qz k).1 hk with h9|h9
      ·exact absurd h9 e
      ·obtain⟨p1,p2⟩:=q1 k Iq h9;refine⟨p1,fun hn=>?_⟩;have n1:last k≠i:=fun e3=>hn ((eX qz _).2 (aD e3));have n2:¬ done L (last k):=fun e3=>hn ((eX qz _).2 (aI e3));exact hpr k _ Iq h9 n2 n1 e (p2 n2)
   ·have J9:i=M:=by
     rcases ak M i with h9|h9
     ·obtain⟨e,he,hb,hon⟩:=hnext i o h9 (by omega) ho;have hd:=ji e he hb;rw [hon] at hd;exact absurd hd (I.no _ (by omega))
     ·omega
    subst J9;have hD:=hall (by omega) (done L) I.cl (fun o' ho' e he hb=>by
     rw [ho] at ho';cases ho';exact ji e he hb)
    obtain⟨vs,q1⟩:=I.val;have hq:=hseq a x I.df I.sz I.kp ⟨vs,fun k hk=>⟨(q1 k hk (hD k hk)).1,fun hl=>(q1 k hk (hD k hk)).2 (I.no _ hl)⟩⟩ I.oC;rw [show N-i=(N-i-1)+1 by omega] at hq;refine wpOp_mono (fun a' x' h=>aI ⟨1,aH _,by omega,fun k hk=>?_,h⟩) hq;rw [eX qz];constructor
    ·rintro (rfl|h9)
     ·omega
     ·rcases ak k i with h8|h8
      ·omega
      ·exact absurd h9 (I.no k h8)
    ·intro h9;by_cases e:k=i
     ·exact aD e
     ·exact aI (hD k (by omega))
  ·have hge:M+s<=i:=by
    rcases ak i (M+s) with h9|h9
    ·exact absurd ((h3 i (by omega)).2 h9) hnd
    ·exact h9
   have hie:i=M+s:=by
    rcases ak (M+s) i with h9|h9
    ·obtain⟨e,he,hb,hon⟩:=hnext i o (by omega) (by omega) ho;have hd:=ji e he hb;rw [hon] at hd;have:=(h3 (i-1) (by omega)).1 hd;omega
    ·omega
   subst hie;rw [show N-M-s=(N-M-(s+1))+1 by omega] at h4;refine wpOp_mono (fun a' x' h=>aI ⟨s+1,by omega,by omega,fun k hk=>?_,h⟩) h4;rw [eX qz];constructor
   ·rintro (rfl|h9)
    ·omega
    ·have:=(h3 k hk).1 h9;omega
   ·intro h9;by_cases e:k=M+s
    ·exact aD e
    ·exact aI ((h3 k hk).2 (by omega))
 ·intro L a x hI hd;rcases hI with I|⟨s,h1,h2,h3,h4⟩
  ·rcases ak M N with h9|h9
   ·exact absurd (hd M (by omega)) (I.no M (aH _))
   ·obtain⟨vs,q1⟩:=I.val;have hq:=hseq a x I.df I.sz I.kp ⟨vs,fun k hk=>⟨(q1 k hk (hd k (by omega))).1,fun hl=>(q1 k hk (hd k (by omega))).2 (I.no _ hl)⟩⟩ I.oC;rw [show N-M=0 by omega] at hq;exact hq
  ·have:=(h3 (N-1) (by omega)).1 (hd (N-1) (by omega));rw [show N-M-s=0 by omega] at h4;exact h4
theorem jw {P:Program} (ρ:Y->U) (o:Oper) (t:aF) (parts:Array (Nat×Y)) (ho:o.op=.build t parts) {ps:Array (Nat×U)} (hp:parts.map (fun x=>(x.1,ρ x.2))=ps) {v:U} {w:O} (hr:(Instr.build t ps).run P w=.ok v w) :
  (execOp ρ o).run P w=.ok (.value v) w:=by
 subst hp;simp [execOp,ho,hr,Result.andThen]
theorem EB {P:Program} (ρ:Y->U) (o:Oper) (t:aF) (x y:Y) (ho:o.op=.store t x y) {w w':O} (hr:(Instr.storeAt t (ρ x) (ρ y)).run P w=.ok () w') :
  (execOp ρ o).run P w=.ok .skip w':=by
 simp [execOp,ho,hr,Result.andThen]
theorem Ka {P:Program} (ρ:Y->U) (o:Oper) (t:aF) (x:Y) (ho:o.op=.unOp .not t x) {b:Bool} (hx:ρ x=.bool b) (w:O):(execOp ρ o).run P w=.ok (.value (.bool (!b))) w:=by
 unfold execOp;rw [ho];simp [hx,go_sem]
theorem Cz {P:Program} (ρ:Y->U) (o:Oper) (c x y:Y) (ho:o.op=.pick c x y) (hc:ρ c=.bool aN) {v:U} (hy:ρ y=v) (w:O):(execOp ρ o).run P w=.ok (.value v) w:=by
 have h:=Ip (P:=P) ρ o c x y ho hc w;rw [hy] at h;exact h
theorem fK {P:Program} {ops:Array Oper} {Q:Exit->aK->O->Prop} {K:aK->O->Prop} {a:aK} {w w':O} {i:Nat} {o:Oper} (t:aF) (x y:Y) {p v:U}
  (ho:ops[i]?=Z o) (hg:o.guard=aO) (hop:o.op=.store t x y) (hd:o.dst=aO) (hx:a.eval x=p) (hy:a.eval y=v) (hr:(Instr.storeAt t p v).run P w=.ok () w') (h:K a w'):wpOp P ops Q i K a w:=by
 refine Ik ho hg (EB a.eval o t x y hop (by rw [hx,hy]; exact hr)) ?_;rw [hd];exact h
def wG (l:List Oper) (i:Nat):List Nat:=match l[i]? with
 | some o=>(o.after.toList.filter fun e=>J .any e).map fun e=>e.on
 | none=>[]
def Aa (l:List Oper):Nat->List Nat->List Nat
 | 0,s=>s
 | n+1,s=>Aa l n (s++s.flatMap (wG l))
theorem Bq {l:List Oper} {D:Nat->Prop} {i:Nat} (h:∀ o,l[i]?=Z o->∀ e∈o.after,J .any e=X->D e.on):∀ j∈wG l i,D j:=by
 intro j hj;unfold wG at hj;cases ho:l[i]? with
 | none=>rw [ho] at hj; cases hj
 | some o =>
  rw [ho] at hj;obtain⟨e,he,rfl⟩:=List.mem_map.1 hj;obtain⟨h1,h2⟩:=List.mem_filter.1 he;exact h o ho e (Array.mem_toList_iff.1 h1) h2
theorem xH {l:List Oper} {D:Nat->Prop} (hc:∀ j o,D j->l[j]?=Z o->∀ e∈o.after,J .any e=X->D e.on):∀ n s,(∀ j∈s,D j)->∀ j∈Aa l n s,D j
 | 0,_,hs=>hs
 | n+1,s,hs=>xH hc n _ fun j hj=>by
  rcases List.mem_append.1 hj with h|h
  ·exact hs j h
  ·obtain⟨i,hi,hd⟩:=List.mem_flatMap.1 h;exact Bq (fun o ho=>hc i o (hs i hi) ho) j hd
theorem kQ {l:List Oper} {M:Nat} (n:Nat) (h:(List.range M).all (fun i=>(Aa l n (wG l M)).contains i)=X) (D:Nat->Prop) (hc:∀ j o,D j->l[j]?=Z o->∀ e∈o.after,J .any e=X->D e.on) (hm:∀ o,l[M]?=Z o->∀ e∈o.after,J .any e=X->D e.on):∀ i,i<M->D i:=by
 intro i hi;have h2:=au.1 h i (aG.2 hi);exact xH hc n _ (Bq hm) i (List.contains_iff_mem.1 h2)
theorem mI {P:Program} (ρ:Y->U) (o:Oper) (t:aF) (ho:o.op=.alloc t) {v:U} {w w':O} (hr:(Instr.alloc t X (.tuple #[])).run P w=.ok v w'):(execOp ρ o).run P w=.ok (.value v) w':=by
 simp [execOp,ho,hr,Result.andThen]
end Rg
namespace Rw
open Go.RowKit
theorem jy {α:Type} {E:Ek α} (K:E.Ok) {w:O} (B:Nat) {g:Nat} {x:U} {m:List α} (eP:dH w g #[] E.t) (hBg:B<=g) (hx:Row E w x m) (hm:m.length<=1000) (ty:aF) :
  ∃ v' w',(Builtin.append_ #[E.ts,E.ts] ty #[aQ (Z ⟨g,0,aO⟩) 0 0,x]).run Try.prog w=.ok v' w'/\Own E w' B v' m/\Below w.heap.size w w':=by
 have ho:Own E w B (aQ (Z ⟨g,0,aO⟩) 0 0) ([]:List α):=lC K rfl hBg eP (aH _) (Nat.zero_le _) (by simp) (by simp [flat]);have hl:=eP.lt;obtain⟨v',w',r,o',gr⟩:=kP K B ho hx (by simp) hm (by omega) ty;refine⟨v',w',r,by simpa using o',?_⟩;obtain⟨i,i1,i2,i3,i4⟩:=K.info;rcases hx with⟨rfl,rfl⟩|⟨ad,c,rfl,h2,h3,h4⟩
 ·have r2:=run_append_owned_none (P:=Try.prog) (w:=w) B E.ts ty E.t i E.n K.hu i1 _ _ _ ho;rw [r2] at r;injection r with _ e
  rw [<- e];exact Below.refl _ _
 ·rcases Nat.eq_zero_or_pos m.length with h0|h0
  ·have r2:=run_append_room (P:=Try.prog) (w:=w) E.ts ty E.t i K.hu i1 g 0 0 #[] eP ad m.length c (flat E m) (by rw [dG K,i3]) h4 (lg K m) (by omega) (by rw [dG K,h0]; simp);rw [r2] at r;injection r with _ e
   rw [<- e];have hf:flat E m=[]:=List.eq_nil_of_length_eq_zero (by rw [dG K,h0]; simp);have hs:=dH.set eP ((#[]:Array U).toList.take (0 * i.size)++flat E m++(#[]:Array U).toList.drop (0 * i.size+(flat E m).length)).toArray;refine⟨rfl,rfl,rfl,by simp [World.setRow],fun k hk=>?_⟩;by_cases hkg:k=g
   ·subst hkg;refine hs.trans ?_;rw [hf];simpa using eP.symm
   ·exact setRow_other w g k _ hkg
  ·have r2:=run_append_grow (P:=Try.prog) (w:=w) E.ts ty E.t i E.z K.hu i1 i2 ⟨g,0,aO⟩ 0 0 [] (by simp) (fun j v h=>by simp at h) ad m.length c (flat E m) (by rw [dG K,i3]) h4 (by omega) (by omega) (by
    rw [Nat.zero_add,nextslicecap_zero h0,i4];exact Nat.le_trans (Nat.mul_le_mul hm K.few) (by decide))
   rw [r2] at r;injection r with _ e
   rw [<- e];exact (Below.refl _ _).drew.alloc (aH _) _
end Rw
namespace Kp
open Go.RowKit Va In
def nm (i:Nat):ByteArray:=⟨#[UInt8.ofNat (97+i)]⟩
def pF:Array U:=#[aC ⟨#[97]⟩,aC ⟨#[98]⟩,aC ⟨#[99]⟩,aC ⟨#[100]⟩,aC ⟨#[101]⟩,aC ⟨#[102]⟩,aC ⟨#[103]⟩]
theorem Mv (i:Nat) (h:i<7):pF[i]?=Z (aC (nm i)):=by
 match i,h with
 | 0,_=>rfl
 | 1,_=>rfl
 | 2,_=>rfl
 | 3,_=>rfl
 | 4,_=>rfl
 | 5,_=>rfl
 | 6,_=>rfl
theorem CZ (w:O):aP Try.prog 32 #[] w fun e w'=>e=.returned (aQ (Z ⟨w.heap.size,0,aO⟩) 7 7)/\w'=w.alloc (.cells pF 9):=by
 go_enter Try.func32,Try.ntmps32;go_wp2;go_ret;exact⟨rfl,rfl⟩
def mJ (zs:List Int) (i:Nat):Int:=if zs=[] then 0 else zs.getD (i % zs.length) 0
theorem Fh (nv:U) (zs:List Int) (i:Nat) (w:O) (hz:gJ w nv zs) (hl:zs.length<=maxLen) (hi:i<=100) :
  aP Try.prog 34 #[nv,.int .i64 i] w fun e w'=>e=.returned (.int .i64 (mJ zs i))/\w=w':=by
 obtain⟨ao,cap,rfl⟩:=hz.shape;unfold maxLen at hl;cases zs with
 | nil =>
  go_enter Try.func34,Try.ntmps34;go_wp2;go_ret;exact⟨rfl,rfl⟩
 | cons z r =>
  have hm:i % (z::r).length<(z::r).length:=aM _ (by simp);obtain⟨y,hy⟩:∃ y,(z::r)[i % (z::r).length]?=Z y:=⟨_,aj hm⟩;obtain⟨_,p,_,hix,hpc⟩:=hz.at_ _ y hy;have P:=Lib.hid (show mJ (z::r) i=y by unfold mJ; rw [if_neg (by simp),aA,hy]; rfl);have h0:((((z::r).length:Nat):Int) == 0)=aN:=by simp; omega
  have hne:(((z::r).length:Nat):Int)≠0:=by simp; omega
  have ht:(i:Int) % ((z::r).length:Nat)=((i % (z::r).length:Nat):Int):=rfl;have ht2:(i:Int).tmod ((z::r).length:Nat)=((i % (z::r).length:Nat):Int):=by
   rw [Int.tmod_eq_emod_of_nonneg (by omega)]; rfl
  have hn0:0<(((z::r).length:Nat):Int):=by simp
  generalize (z::r).length=n at *;generalize i % n=m at *;clear hz hy hm;go_enter Try.func34,Try.ntmps34;go_wp2;go_ret;exact⟨Wi.wF P.out.symm,rfl⟩
def odd (z:Int):Bool:=bits BinOp.and IntKind.i64 z 1 == 1
theorem Fj {W:O} {nv:U} {zs:List Int} (hz:gJ W nv zs) (i:Nat):-9223372036854775808<=mJ zs i/\mJ zs i<=9223372036854775807:=by
 unfold mJ
 split
 ·omega
 ·rename_i h
  have hm:i % zs.length<zs.length:=aM _ (List.length_pos_iff.2 h);have:=(hz.at_ _ _ (aj hm)).1;rw [aA,aj hm];exact this
end Kp
namespace Rl
open Go.RowKit Pu Pr
def has (m:List Cn) (n:ByteArray):Bool:=m.any fun x=>decide (x.1=n)
theorem C8 {c:Cn} {r:List Cn} (h:vB (c::r)):∀ y∈r,y.1≠c.1:=fun y hy e=>Iu ((aJ.1 h).1 y hy) e.symm
/-! ### match -/
theorem Mw {l:List Cn} (h:vB l) {x y:Cn} (hx:x∈l) (hy:y∈l) (e:x.1=y.1):x=y:=by
 induction l with
 | nil=>cases hx
 | cons z r ih =>
  have h1:=C8 h;have h2:=(aJ.1 h).2;rcases aL.1 hx with rfl|hx2 <;> rcases aL.1 hy with rfl|hy2
  ·rfl
  ·exact absurd e.symm (h1 y hy2)
  ·exact absurd e (h1 x hx2)
  ·exact ih h2 hx2 hy2
/-! ### cover -/
def gF:Kd->Kd->Bool
 | .rg p q,.rg r s=>decide (r<=p) && decide (q<=s)
 | .tx s,.tx t=>s.data.toList == t.data.toList
 | .tx s,.pr t=>pfx t s
 | .pr s,.pr t=>pfx t s
 | _,_=>aN
theorem wL (k:Kd):gF k k=X:=by
 cases k <;> simp [gF,jQ]
theorem oF (a b:Kd) (h:gF a b=X) (v:V3) (hv:dP a v=X):dP b v=X:=by
 obtain⟨t,n,u⟩:=v;cases a <;> cases b <;> simp only [gF,ay,decide_eq_true_eq,beq_iff_eq] at h <;> simp only [dP,ay,decide_eq_true_eq,beq_iff_eq] at hv ⊢
 ·exact⟨hv.1,by omega,by omega⟩
 ·cases h
 ·cases h
 ·cases h
 ·exact⟨hv.1,hv.2.trans h⟩
 ·exact⟨hv.1,by rw [eU,hv.2,<- eU]; exact h⟩
 ·cases h
 ·cases h
 ·exact⟨hv.1,(eU _ _).2 (((eU _ _).1 h).trans ((eU _ _).1 hv.2))⟩
theorem uP (a b:Kd) (ha:gB a=X) (h:∀ v,dP a v=X->dP b v=X):gF a b=X:=by
 cases a with
 | rg p q =>
  simp only [gB,decide_eq_true_eq] at ha;have h1:=h (aN,p,⟨#[]⟩) (by rw [rR]; simp [ha]);have h2:=h (aN,q,⟨#[]⟩) (by rw [rR]; simp [ha]);cases b with
  | rg r s =>
   rw [rR] at h1 h2;simp only [ay,decide_eq_true_eq] at h1 h2;simp [gF,h1.1,h2.2]
  | tx t=>simp [dP] at h1
  | pr t=>simp [dP] at h1
 | tx s =>
  have h1:=h (X,0,s) (by rw [jM]; simp);cases b with
  | rg r t=>rw [nS] at h1; cases h1
  | tx t=>rw [jM] at h1; exact h1
  | pr t=>rw [jC] at h1; exact h1
 | pr s =>
  have h1:=h (X,0,s) (by rw [jC]; exact jQ s);cases b with
  | rg r t=>rw [nS] at h1; cases h1
  | tx t =>
   have h2:=h (X,0,more s) (by rw [jC]; exact xJ s);rw [jM,beq_iff_eq] at h1 h2;rw [<- h1] at h2;have h3:=congrArg List.length h2;simp [more] at h3
  | pr t=>rw [jC] at h1; exact h1
def kR (a b:List Cn):Bool:=a.all fun x=>b.any fun y=>decide (y.1=x.1) && gF y.2 x.2
theorem Am (a b:List Cn):kR a b=X↔∀ x∈a,∃ y∈b,y.1=x.1/\gF y.2 x.2=X:=by
 simp only [kR,au,List.any_eq_true,ay,decide_eq_true_eq]
theorem xL (a:List Cn):kR a a=X:=(Am a a).2 fun x hx=>⟨x,hx,rfl,wL _⟩
end Rl
namespace Pr
open Go.RowKit Pu
end Pr
end Go.Proofs.Ytmklifheakemeaa
