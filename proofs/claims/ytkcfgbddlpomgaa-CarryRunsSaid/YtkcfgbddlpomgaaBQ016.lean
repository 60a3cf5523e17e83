/-
  Messages: which are . Conditions as told.
-/
import Derived.Test.YtkcfgbddlpomgaaBQ013
import Derived.Test.YtkcfgbddlpomgaaBQ010
import Derived.Test.YtkcfgbddlpomgaaBQ012
set_option maxRecDepth 100000
set_option maxHeartbeats 64000000
open _root_.Bool renaming true->Y
open _root_.Go renaming World->O,Value->X
open Go.Region renaming binds->J
open _root_.Option renaming some->U,none->Z
namespace Go.Proofs.Ytkcfgbddlpomgaa
namespace Wr
open Ytkcfgbddlpomgaa.Nm At Pr
def Gq (c:C5):Bool:=wM c.1 && (if c.2.1=1 then decide (c.2.2.2.2.size=0) && decide (c.2.2.1<=c.2.2.2.1) else if c.2.1=2 then decide (c.2.2.1=0) && (decide (c.2.2.2.1=0) && decide (c.2.2.2.2.size<=12)) else if c.2.1=3 then decide (c.2.2.1=0) && (decide (c.2.2.2.1=0) && decide (c.2.2.2.2.size<=11)) else false)
def D6 (p x:C5):Bool:=Op.bytesLess p.1.toList x.1.toList
def D7 (l:List C5) (k:Nat):Bool:=match l[k]? with
 | some x=>Gq x && (k == 0 || (match l[k-1]? with
  | some p=>D6 p x
  | none=>Y))
 | none=>Y
def lV (l:List C5):Bool:=(List.range l.length).all (D7 l) && decide (l.length<=5)
end Wr
namespace Pr
open Go.RowKit Go.Sort Pu Rw Va
end Pr
namespace Jk
open Go.RowKit Go.Sort Rw Ytkcfgbddlpomgaa.Nm At Pr Wr Va
end Jk
namespace Bk
open Go.RowKit Go.Sort Rw Ytkcfgbddlpomgaa.Nm Pr
abbrev xH (W:O) (b:Nat) (a0 a1 a2 a3 a4 a5 a6:X):O:=((((((W.setCell ⟨b,0,Z⟩ a0).setCell ⟨b,1,Z⟩ a1).setCell ⟨b,2,Z⟩ a2).setCell ⟨b,3,Z⟩ a3).setCell ⟨b,4,Z⟩ a4).setCell ⟨b,5,Z⟩ a5).setCell ⟨b,6,Z⟩ a6
theorem uS {W:O} {b:Nat} {t:TypeId} {z0 z1 z2 z3 z4 z5 z6:X} (h:dh W b #[z0,z1,z2,z3,z4,z5,z6] t) (a0 a1 a2 a3 a4 a5 a6:X):dh (xH W b a0 a1 a2 a3 a4 a5 a6) b #[a0,a1,a2,a3,a4,a5,a6] t:=by
 have h2:=dG (k:=6) (dG (k:=5) (dG (k:=4) (dG (k:=3) (dG (k:=2) (dG (k:=1) (dG (k:=0) h a0) a1) a2) a3) a4) a5) a6;simp only [List.setIfInBounds_toArray,List.set_cons_zero,List.set_cons_succ] at h2;exact h2
end Bk
namespace Rl
open Go.RowKit Go.Sort Pu Rw Pr Va
end Rl
namespace Rl
open Go.RowKit Go.Sort Pu Rw Pr Va
end Rl
namespace Rg
open Go.RowKit
end Rg
namespace Rg
open Go.RowKit Rw
structure AJ (i N A S:Nat) (d last:Nat->Nat) (V:Nat->X->O->Prop) (base:Act) (o:Oper) (a:Act) (x:O):Prop where
 kp:∀ j u,(∀ i,i<N->d i≠j)->base.tmps[j]?=U u->a.eval (.tmp j)=u
 at_:∀ e∈o.after,J .any e=Y->e.on≠A->e.on≠S->(last e.on=i\/N<=last e.on)->V e.on (a.eval (.tmp (d e.on))) x
structure Ih (l:List Oper) (N A S C:Nat) (d last:Nat->Nat) (V:Nat->X->O->Prop) (t:TypeId) (zero:Array X) (Dh:X->Array X) (base:Act) (W:O) (L:Array Bool) (a:Act) (x:O):Prop where
 cl:∀ i o,done L i->l[i]?=U o->∀ e∈o.after,J .any e=Y->done L e.on
 no:∀ i,N<=i->¬ done L i
 df:a.defers=base.defers
 sz:a.tmps.size=base.tmps.size
 kp:∀ j,(∀ i,i<N->d i≠j)->a.tmps[j]?=base.tmps[j]?
 jw:Below W.heap.size W x
 val:∃ vs:Nat->X,∀ i,i<N->i≠S->done L i->a.tmps[d i]?=U (vs i)/\(i≠A->¬ done L (last i)->V i (vs i) x)
 box:done L A->¬ done L S->∃ bb,a.tmps[d A]?=U (.pointer (U ⟨bb,0,Z⟩))/\W.heap.size<=bb/\dh x bb zero t
 fin:done L S->∃ bb v,a.tmps[d A]?=U (.pointer (U ⟨bb,0,Z⟩))/\a.tmps[d C]?=U v/\W.heap.size<=bb/\dh x bb (Dh v) t/\V C v x
theorem uT {P:Program} {Q:Exit->Act->O->Prop} {id:Nat} {base:Act} {W:O} {l:List Oper} (N A S C:Nat) (d last:Nat->Nat) (V:Nat->X->O->Prop) (t:TypeId) (zero:Array X) (Dh:X->Array X)
  (hm:P.follows .mixedOrders=Y) (hf:wK l.toArray=Y) (hN:l.length=N) (hA:A<N) (hS:S<N) (hC:C<N) (Ii:A≠S) (hCS:C≠S) (Ij:A≠C) (Ik:N<=last C)
  (hinj:∀ i j,i<N->j<N->i≠S->j≠S->d i=d j->i=j) (hs:∀ i,i<N->d i<base.tmps.size)
  (hV:∀ i v x x',i<N->V i v x->Below x.heap.size x x'->V i v x')
  (hw:∀ o,l[S]?=U o->(∃ e∈o.after,J .any e=Y/\e.on=A)/\∃ e∈o.after,J .any e=Y/\e.on=C)
  (hop:∀ i o,i<N->i≠A->i≠S->l[i]?=U o->∀ a x,Below W.heap.size W x->AJ i N A S d last V base o a x->∀ K:Act->O->Prop,(∀ v x',V i v x'->Below x.heap.size x x'->K (a.put (U (d i)) v) x')->wpOp P l.toArray Q i K a x)
  (Jl:∀ o,l[A]?=U o->∀ a x,∀ K:Act->O->Prop,K (a.put (U (d A)) (.pointer (U ⟨x.heap.size,0,Z⟩))) (x.alloc (.cells zero t))->wpOp P l.toArray Q A K a x)
  (Jm:∀ o,l[S]?=U o->∀ a x bb v (D:Nat->Prop),(∀ j oj,D j->l[j]?=U oj->∀ e∈oj.after,J .any e=Y->D e.on)->(∀ e∈o.after,J .any e=Y->D e.on)->Below W.heap.size W x->a.eval (.tmp (d A))=.pointer (U ⟨bb,0,Z⟩)->a.eval (.tmp (d C))=v->V C v x->W.heap.size<=bb->dh x bb zero t->∀ K:Act->O->Prop,(∀ x',Below W.heap.size W x'->dh x' bb (Dh v) t->(∀ j u,j<N->j≠A->j≠S->D j->¬ D (last j)->last j≠S->V j u x->V j u x')->K a x')->wpOp P l.toArray Q S K a x)
  (hend:∀ a x bb v,a.defers=base.defers->a.tmps.size=base.tmps.size->(∀ j,(∀ i,i<N->d i≠j)->a.tmps[j]?=base.tmps[j]?)->a.tmps[d A]?=U (.pointer (U ⟨bb,0,Z⟩))->a.tmps[d C]?=U v->W.heap.size<=bb->dh x bb (Dh v) t->V C v x->Below W.heap.size W x->(∃ vs:Nat->X,∀ i,i<N->i≠S->i≠A->a.tmps[d i]?=U (vs i)/\(N<=last i->V i (vs i) x))->Q .normal a x):(Code.region id l.toArray Y).wp P Q base W:=by
 refine lH (fun L a x=>Ih l N A S C d last V t zero Dh base W L a x) hm hf ?_ ?_ ?_
 ·exact⟨fun i o h=>absurd h (fZ _ _),fun i _=>fZ _ _,rfl,rfl,fun _ _=>rfl,(Below.refl _ _).drew,⟨fun _=>.bool Y,fun i _ _ h=>absurd h (fZ _ _)⟩,fun h=>absurd h (fZ _ _),fun h=>absurd h (fZ _ _)⟩
 ·intro L a x i o hsz I ho hnd kr;have hi:i<l.length:=(List.getElem?_eq_some_iff.1 ho).1;have F6:i<N:=by omega
  have wD:i<L.size:=by omega
  obtain⟨vs,hvs⟩:=I.val;have hon:∀ e∈o.after,J .any e=Y->e.on<i:=fun e he hb=>by
   have h7:=List.all_eq_true.1 hf i (List.mem_range.2 (by simpa using hi));have ho':(l.toArray)[i]?=U o:=by simpa using ho
   rw [ho'] at h7;have h8:=Array.all_eq_true'.1 h7 e he;rw [hb] at h8;simpa using h8
  have dd:∀ {k},k≠i->done (L.setIfInBounds i Y) k->done L k:=fun {k} h h5=>((fE wD k).1 h5).resolve_left h;have du:∀ {k},done L k->done (L.setIfInBounds i Y) k:=fun {k} h=>(fE wD k).2 (Or.inr h);have cl':∀ k q,done (L.setIfInBounds i Y) k->l[k]?=U q->∀ e∈q.after,J .any e=Y->done (L.setIfInBounds i Y) e.on:=fun k q hk hq e he hb=>by
   by_cases e2:k=i
   ·subst e2;rw [hq] at ho;cases ho;exact du (kr e he hb)
   ·exact du (I.cl k q (dd e2 hk) hq e he hb)
  have no':∀ k,N<=k->¬ done (L.setIfInBounds i Y) k:=fun k hk h=>I.no k hk (dd (by omega) h);have seen:AJ i N A S d last V base o a x:=⟨fun j u hj hu=>cO (by rw [I.kp j hj]; exact hu),fun e he hb hA' hS' hl=>by
   obtain⟨h1,h2⟩:=hvs e.on (by have:=hon e he hb; omega) hS' (kr e he hb);rw [cO h1];refine h2 hA' ?_;rcases hl with hl|hl
   ·rw [hl]; exact hnd
   ·exact I.no _ hl⟩
  have D8:i≠S->∀ v x',Below x.heap.size x x'->(i≠A->V i v x')->(i=A->∃ bb,v=.pointer (U ⟨bb,0,Z⟩)/\W.heap.size<=bb/\dh x' bb zero t)->Ih l N A S C d last V t zero Dh base W (L.setIfInBounds i Y) (a.put (U (d i)) v) x':=by
   intro zD v x' hb hpv hpa;have self:(a.put (U (d i)) v).tmps[d i]?=U v:=by
    have h5:d i<a.tmps.size:=by rw [I.sz]; exact hs i F6
    simp [Act.put,h5]
   have keep:∀ k,k<N->k≠S->k≠i->(a.put (U (d i)) v).tmps[d k]?=a.tmps[d k]?:=fun k hk zO hki=>get_put _ _ _ _ (fun e=>hki (hinj _ _ hk F6 zO zD e));refine⟨cl',no',I.df,by rw [size_put]; exact I.sz,fun j hj=>?_,I.jw.trans (hb.mono I.jw.size),⟨fun k=>if k=i then v else vs k,fun k hk zO hdn=>?_⟩,fun h1 h2=>?_,fun h1=>?_⟩
   ·rw [get_put _ _ _ _ (fun e=>hj i F6 e.symm)];exact I.kp j hj
   ·by_cases e:k=i
    ·subst e;simp only [if_true];exact⟨self,fun h3 _=>hpv h3⟩
    ·simp only [if_neg e];obtain⟨h3,h4⟩:=hvs k hk zO (dd e hdn);exact⟨by rw [keep k hk zO e]; exact h3,fun h5 h6=>hV k _ _ _ hk (h4 h5 (fun h=>h6 (du h))) hb⟩
   ·by_cases e:A=i
    ·subst e;obtain⟨bb,rfl,h4,h5⟩:=hpa rfl;exact⟨bb,self,h4,h5⟩
    ·obtain⟨bb,h3,h4,h5⟩:=I.box (dd e h1) (fun h=>h2 (du h));exact⟨bb,by rw [keep A hA Ii e]; exact h3,h4,h5.on hb⟩
   ·have h2:=dd (Ne.symm zD) h1;obtain⟨bb,u,h5,h6,h7,h8,h9⟩:=I.fin h2;obtain⟨oS,BJ⟩:∃ oS,l[S]?=U oS:=⟨_,List.getElem?_eq_getElem (by omega)⟩;obtain⟨⟨ea,k1,k2,k3⟩,ec,k4,k5,k6⟩:=hw oS BJ;have dA:=I.cl S oS h2 BJ ea k1 k2;have dC:=I.cl S oS h2 BJ ec k4 k5;rw [k3] at dA;rw [k6] at dC;have eA:A≠i:=fun e=>hnd (e ▸ dA);have eC:C≠i:=fun e=>hnd (e ▸ dC);exact⟨bb,u,by rw [keep A hA Ii eA]; exact h5,by rw [keep C hC hCS eC]; exact h6,h7,h8.on hb,hV C _ _ _ hC h9 hb⟩
  by_cases zD:i=S
  ·subst zD;obtain⟨⟨ea,h1,h2,h3⟩,ec,h4,h5,h6⟩:=hw o ho;have dA:=kr ea h1 h2;have dC:=kr ec h4 h5;rw [h3] at dA;rw [h6] at dC;obtain⟨v1,v2⟩:=hvs C hC hCS dC;obtain⟨bb,b1,b2,b3⟩:=I.box dA hnd;have vC:=v2 (Ne.symm Ij) (I.no _ Ik);refine Jm o ho a x bb (vs C) (done L) I.cl kr I.jw (cO b1) (cO v1) vC b2 b3 _ (fun x' q1 q2 q3=>⟨cl',no',I.df,I.sz,I.kp,q1,⟨vs,fun k hk zO hdn=>?_⟩,fun _ hn=>absurd ((fE wD _).2 (Or.inl rfl)) hn,fun _=>⟨bb,vs C,b1,v1,b2,q2,?_⟩⟩)
   ·obtain⟨w1,w2⟩:=hvs k hk zO (dd zO hdn);refine⟨w1,fun Il hnl=>?_⟩;have n1:last k≠i:=fun e=>hnl ((fE wD _).2 (Or.inl e));have n2:¬ done L (last k):=fun e=>hnl (du e);exact q3 k _ hk Il zO (dd zO hdn) n2 n1 (w2 Il n2)
   ·exact q3 C _ hC (Ne.symm Ij) hCS dC (I.no _ Ik) (by omega) vC
  ·by_cases Di:i=A
   ·subst Di;refine Jl o ho a x _ (D8 zD _ _ ((Below.refl _ _).alloc (Nat.le_refl _) _) (fun h=>absurd rfl h) (fun _=>⟨x.heap.size,rfl,I.jw.size,dB x zero t⟩))
   ·refine hop i o F6 Di zD ho a x I.jw seen _ (fun v x' q1 q2=>D8 zD v x' q2 (fun _=>q1) (fun e=>absurd e Di))
 ·intro L a x I hd;have dS:=hd S (by omega);obtain⟨bb,v,h1,h2,h3,h4,h5⟩:=I.fin dS;obtain⟨vs,hvs⟩:=I.val;exact hend a x bb v I.df I.sz I.kp h1 h2 h3 h4 h5 I.jw ⟨vs,fun i hi zD Di=>by
   obtain⟨k1,k2⟩:=hvs i hi zD (hd i (by omega));exact⟨k1,fun hl=>k2 Di (I.no _ hl)⟩⟩
end Rg
namespace At
open Go.RowKit Go.Sort Va In
def gZ (W:O) (b:Nat) (t:Bool) (i:Int) (s:ByteArray):Prop:=W.heap[b]?=U (.cells #[.bool t,.int .i64 i,.string s] 73)
theorem gZ.cell {W:O} {b:Nat} {t:Bool} {i:Int} {s:ByteArray} (h:gZ W b t i s) (k:Nat):W.cell? ⟨b,k,Z⟩=#[.bool t,.int .i64 i,.string s][k]?:=by
 unfold gZ at h;simp [World.cell?,h]
theorem gZ.fr {W:O} {b:Nat} {t:Bool} {i:Int} {s:ByteArray} (h:gZ W b t i s) (k:Nat):W.frozen? ⟨b,k,Z⟩=false:=by
 unfold gZ at h;simp [World.frozen?,h]
theorem gZ.lt {W:O} {b:Nat} {t:Bool} {i:Int} {s:ByteArray} (h:gZ W b t i s):b<W.heap.size:=lt_of_heap h
theorem gZ.on {W W':O} {b:Nat} {t:Bool} {i:Int} {s:ByteArray} (h:gZ W b t i s) (hb:Below W.heap.size W W'):gZ W' b t i s:=by
 have hl:=h.lt;unfold gZ at *;rw [hb.block _ hl]; exact h
theorem gZ.more {W:O} {b:Nat} {t:Bool} {i:Int} {s:ByteArray} (h:gZ W b t i s) (o:Obj):gZ (W.alloc o) b t i s:=h.on ((Below.refl _ _).alloc (Nat.le_refl _) _)
theorem dB (W:O) (t:Bool) (i:Int) (s:ByteArray):gZ (W.alloc (.cells #[.bool t,.int .i64 i,.string s] 73)) W.heap.size t i s:=by
 unfold gZ;show (W.heap.push _)[W.heap.size]?=_;simp
def xI (W:O) (b:Nat) (t:Bool) (i:Int) (s:ByteArray):O:=((W.setCell ⟨b,0,Z⟩ (.bool t)).setCell ⟨b,1,Z⟩ (.int .i64 i)).setCell ⟨b,2,Z⟩ (.string s)
theorem gZ.D9 {W:O} {b:Nat} {t:Bool} {i:Int} {s:ByteArray} (h:gZ W b t i s) (t':Bool) (i':Int) (s':ByteArray):gZ (xI W b t' i' s') b t' i' s':=by
 unfold gZ xI at *;simp [World.setCell,Array.getElem?_modify,h]
theorem jI {B b:Nat} {W W':O} (hb:Below B W W') (hB:B<=b) (t:Bool) (i:Int) (s:ByteArray):Below B W (xI W' b t i s):=((hb.setCell hB _).setCell hB _).setCell hB _
end At
end Go.Proofs.Ytkcfgbddlpomgaa
