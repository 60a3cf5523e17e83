/-
  An append and a call. Conditions as told.
-/
import Derived.Test.YtghlpefopidlaaaGreatLQ000
import Derived.Deep.RegionLaw
import Derived.ChangeSlices
import Derived.Lib.Hide
import Derived.Below
import Derived.Test.YtghlpefopidlaaaGreatLQ001
import Derived.Lib.Bytealg
set_option maxRecDepth 100000
set_option maxHeartbeats 64000000
open _root_.Bool renaming true->au
open _root_.Go renaming World->X,Value->Y,Operand->Z,TypeId->ay,Act->aC
open Go.Deferred renaming ofValue->aj
open Go.Lib renaming compareBytes->D
open Go.Op renaming bytesLess->J
open Go.Region renaming wanted->U,binds->aA
open _root_.List renaming getElem?_eq_some_iff->O
open _root_.Option renaming some->ah
open _root_.UInt8 renaming not_lt->ak,le_antisymm->aB
namespace Go.Proofs.YtghlpefopidlaaaGreat
namespace Rw
open Go.RowKit
theorem fB {P:Program} {ops:Array Oper} {o:Oper} {a:aC} {w w':X} {K:aC->X->Prop} {Q:Exit->aC->X->Prop} {E:Prop}
  (hg:o.guard=none) (s x:Z) (t:ay) (hop:o.op=.call { callee:=.builtin .append,args:=#[s,x],argTypes:=#[t,t] }) {v xv v':Y} (hs:a.eval s=v) (hx:a.eval x=xv)
  (hr:(Builtin.append_ #[t,t] o.type #[v,xv]).run P w=.ok v' w') (hK:K (a.put o.dst v') w') :
  if U o (yielded ops a.tmps)=au then Oper.wp P o a w K Q else E:=by
 have hw:U o (yielded ops a.tmps)=au:=by simp [U,hg]
 rw [if_pos hw];unfold Oper.wp execOp;simp only [hop,resolve,invoke,builtin,Sem.run_bind,Sem.run_pure,Result.andThen_ok,List.map_toArray,List.map_cons,List.map_nil,hs,hx,hr];exact hK
theorem rG {P:Program} {ops:Array Oper} {o:Oper} {a:aC} {w:X} {K:aC->X->Prop} {Q:Exit->aC->X->Prop} {E:Prop} {f:FuncId} {args:Array Y} {R:Ending->X->Prop}
  (hg:o.guard=none) (hr:(execOp a.eval o).run P w=.ok (.enter f args) w) (hc:Calls P f args w R) (hR:∀ e w',R e w'->∃ v,e=.returned v/\K (a.put o.dst v) w') :
  if U o (yielded ops a.tmps)=au then Oper.wp P o a w K Q else E:=by
 have hw:U o (yielded ops a.tmps)=au:=by simp [U,hg]
 rw [if_pos hw];unfold Oper.wp;rw [hr,Oper.upon_enter];refine hc.mono ?_;intro e w' h;obtain⟨v,rfl,hk⟩:=hR e w' h;exact hk
theorem fV {P : Program} {f : FuncId} {fn : Func} {c : Code} (hf : P.funcs[f]? = some fn) (hname : (fn.name == "runtime.NumGoroutine") = false) (hb : fn.body = some c) (args : Array Value) (w : World) : (callFunc f args).run P w = .ok (.enter f args) w := by
 have h1 : fn.name ≠ "runtime.NumGoroutine" := by simpa using hname
 simp [callFunc,hf,h1,hb]
theorem iZ {P:Program} (ρ:Z->Y) (o:Oper) (x:Z) (t:ay) (f:FuncId) (ho:o.op=.call { callee:=.value (.func f),args:=#[x],argTypes:=#[t] }) {v:Y} (hx:ρ x=v) (hf:ρ (.func f)=.func (.func f) #[] #[]) (w:X)
  (hc:(callFunc f #[v]).run P w=.ok (.enter f #[v]) w):(execOp ρ o).run P w=.ok (.enter f #[v]) w:=by
 simp [execOp,ho,resolve,invoke,hx,hf,aj,hc]
theorem qF {P:Program} (ρ:Z->Y) (o:Oper) (x y:Z) (t s:ay) (f:FuncId) (ho:o.op=.call { callee:=.value (.func f),args:=#[x,y],argTypes:=#[t,s] }) {v u:Y} (hx:ρ x=v) (hy:ρ y=u) (hf:ρ (.func f)=.func (.func f) #[] #[]) (w:X)
  (hc:(callFunc f #[v,u]).run P w=.ok (.enter f #[v,u]) w):(execOp ρ o).run P w=.ok (.enter f #[v,u]) w:=by
 simp [execOp,ho,resolve,invoke,hx,hy,hf,aj,hc]
end Rw
namespace Rg
open Go.RowKit
theorem gP {P:Program} {ops:Array Oper} {Q:Exit->aC->X->Prop} {K:aC->X->Prop} {a:aC} {w:X} {i:Nat} {o:Oper} {f:FuncId} {args:Array Y} {R:Ending->X->Prop}
  (ho:ops[i]?=ah o) (hg:o.guard=none) (hr:(execOp a.eval o).run P w=.ok (.enter f args) w) (hc:Calls P f args w R) (hR:∀ e w',R e w'->∃ v,e=.returned v/\K (a.put o.dst v) w'):wpOp P ops Q i K a w:=by
 unfold wpOp;rw [ho];have hw:U o (yielded ops a.tmps)=au:=by simp [U,hg]
 simp only [hw,if_true];refine Or.inl ?_;unfold Oper.wp;rw [hr,Oper.upon_enter];refine hc.mono ?_;intro e w' h;obtain⟨v,rfl,hk⟩:=hR e w' h;exact hk
theorem Ca {P:Program} (ρ:Z->Y) (o:Oper) (x y z:Z) (t:ay) (f:FuncId) (ho:o.op=.call { callee:=.value (.func f),args:=#[x,y,z],argTypes:=#[t,t,t] }) {v u s:Y} (hx:ρ x=v) (hy:ρ y=u) (hz:ρ z=s) (hf:ρ (.func f)=.func (.func f) #[] #[]) (w:X)
  (hc:(callFunc f #[v,u,s]).run P w=.ok (.enter f #[v,u,s]) w):(execOp ρ o).run P w=.ok (.enter f #[v,u,s]) w:=by
 simp [execOp,ho,resolve,invoke,hx,hy,hz,hf,aj,hc]
theorem dW {P:Program} (ρ:Z->Y) (o:Oper) (s:ay) (x:Z) (f:Nat) (ho:o.op=.fieldAddr s x f) {v:Y} {w:X} (hr:(Instr.fieldAt s (ρ x) f).run P w=.ok v w):(execOp ρ o).run P w=.ok (.value v) w:=by
 unfold execOp;rw [ho];exact ady hr
theorem Wn {P:Program} (ρ:Z->Y) (o:Oper) (op:BinOp) (t:ay) (x y:Z) (r:ay) (ho:o.op=.binOp op t x y r) {v:Y} {w:X} (hr:(do eqGuard op t x y (ρ x) (ρ y); binOp op t (ρ x) (ρ y):Sem Y).run P w=.ok v w):(execOp ρ o).run P w=.ok (.value v) w:=by
 unfold execOp;rw [ho];exact ady hr
structure adz (N:Nat) (dst:Nat->Nat) (V:Nat->Y->X->Prop) (base:aC) (o:Oper) (a:aC) (w:X):Prop where
 kp:∀ j u,(∀ i,i<N->dst i≠j)->base.tmps[j]?=ah u->a.eval (.tmp j)=u
 at_:∀ e∈o.after,aA .any e=au->V e.on (a.eval (.tmp (dst e.on))) w
 got:∀ e∈o.after,aA .any e=au->a.tmps[dst e.on]?=ah (a.eval (.tmp (dst e.on)))
theorem Nz {P:Program} {Q:Exit->aC->X->Prop} {id:Nat} {base:aC} {w:X} {l:List Oper} (N:Nat) (dst:Nat->Nat) (V:Nat->Y->X->Prop)
  (hm:P.follows .mixedOrders=au) (hf:JO l.toArray=au) (hN:l.length=N) (_hdst:∀ i o,l[i]?=ah o->o.dst=ah (dst i)) (hinj:∀ i j,i<N->j<N->dst i=dst j->i=j) (hs:∀ i,i<N->dst i<base.tmps.size)
  (hst:∀ i v w' w'',V i v w'->Below w'.heap.size w' w''->V i v w'')
  (hop:∀ i o,i<N->l[i]?=ah o->∀ a w',Below w.heap.size w w'->adz N dst V base o a w'->∀ K:aC->X->Prop,(∀ v w'',V i v w''->Below w'.heap.size w' w''->K (a.put (ah (dst i)) v) w'')->wpOp P l.toArray Q i K a w')
  (hend:∀ a w',a.defers=base.defers->a.tmps.size=base.tmps.size->(∀ j,(∀ i,i<N->dst i≠j)->a.tmps[j]?=base.tmps[j]?)->(∀ i,i<N->∃ v,a.tmps[dst i]?=ah v/\V i v w')->Below w.heap.size w w'->Q .normal a w'):(Code.region id l.toArray au).wp P Q base w:=by
 refine nU (fun L a x=>(a.defers=base.defers/\a.tmps.size=base.tmps.size/\∀ j,(∀ i,i<N->dst i≠j)->a.tmps[j]?=base.tmps[j]?)/\(∀ i,done L i->i<N->∃ v,a.tmps[dst i]?=ah v/\V i v x)/\Below w.heap.size w x) hm hf ?_ ?_ ?_
 ·exact⟨⟨rfl,rfl,fun _ _=>rfl⟩,fun i h=>absurd h (gF _ _),(Below.refl _ _).drew⟩
 ·intro L a x i o hsz ⟨⟨h1,h2,h3⟩,hv,hb⟩ ho hnd mP;have hi:i<l.length:=(O.1 ho).1;have yY:i<L.size:=by omega
  have hon:∀ e∈o.after,aA .any e=au->e.on<N:=fun e he hb=>by
   have h7:=List.all_eq_true.1 hf i (List.mem_range.2 (by simpa using hi));have ho':(l.toArray)[i]?=ah o:=by simpa using ho
   rw [ho'] at h7;have h8:=Array.all_eq_true'.1 h7 e he;rw [hb] at h8;have:e.on<i:=by simpa using h8
   omega
  have seen:adz N dst V base o a x:=⟨fun j u hj hu=>dP (by rw [h3 j hj]; exact hu),fun e he hbd=>by
   obtain⟨v,q1,q2⟩:=hv e.on (mP e he hbd) (hon e he hbd);rw [dP q1];exact q2,fun e he hbd=>by
   obtain⟨v,q1,q2⟩:=hv e.on (mP e he hbd) (hon e he hbd);rw [dP q1];exact q1⟩
  refine hop i o (by omega) ho a x hb seen _ fun v w'' hvw hbw=>?_;refine⟨⟨h1,by rw [size_put]; exact h2,fun j hj=>?_⟩,fun k hk hkN=>?_,hb.trans (hbw.mono hb.size)⟩
  ·rw [get_put _ _ _ _ (fun e=>hj i (by omega) e.symm)];exact h3 j hj
  ·by_cases e:k=i
   ·subst e;have:dst k<a.tmps.size:=by rw [h2]; exact hs k hkN
    exact⟨v,by simp [Act.put,this],hvw⟩
   ·rw [get_put _ _ _ _ (fun e2=>e (hinj k i hkN (by omega) e2))];rcases (iw yY k).1 hk with h9|h9
    ·exact absurd h9 e
    ·obtain⟨u,q1,q2⟩:=hv k h9 hkN;exact⟨u,q1,hst k u _ _ q2 hbw⟩
 ·intro L a x ⟨⟨h1,h2,h3⟩,hv,hb⟩ hd;exact hend a x h1 h2 h3 (fun i hi=>hv i (hd i (by omega)) hi) hb
end Rg
namespace In
open Go.RowKit Go.ChangeShapes Go.WideShapes
structure kQ (W:X) (nv:Y) (zs:List Int):Prop where
 shape:∃ ao cap,nv=.slice ao zs.length cap
 at_:∀ (i:Nat) (z:Int),zs[i]?=ah z->(-9223372036854775808<=z/\z<=9223372036854775807)/\∃ p:Addr,p.block<W.heap.size/\(∀ w,(Instr.indexAt 24 nv (.int .i64 i)).run Tryz.prog w=.ok (.pointer (ah p)) w)/\W.cell? p=ah (.int .i64 z)
theorem kQ.on {W W':X} {nv:Y} {zs:List Int} (h:kQ W nv zs) (hb:Below W.heap.size W W'):kQ W' nv zs :=
 ⟨h.shape,fun i z hz=>by
  obtain⟨h1,p,h2,h3,h4⟩:=h.at_ i z hz;exact⟨h1,p,Nat.lt_of_lt_of_le h2 hb.size,h3,by rw [hb.cell h2]; exact h4⟩⟩
theorem vT {n:Int} (h:(Lit.int .i64 n).wf=au):-9223372036854775808<=n/\n<=9223372036854775807:=by
 have h2:(decide (IntKind.i64.min<=n) && decide (n<=IntKind.i64.max))=au:=h;rw [Bool.and_eq_true,decide_eq_true_eq,decide_eq_true_eq,show IntKind.i64.min=-9223372036854775808 by decide,show IntKind.i64.max=9223372036854775807 by decide] at h2;exact h2
theorem ND:Tryz.prog.cellsOf 3=1:=by kernel_rfl
theorem NG (a:Addr) (m len cap:Nat) (h:m<len) (w:X):(Instr.indexAt 24 (.slice (ah a) len cap) (.int .i64 m)).run Tryz.prog w=.ok (.pointer (ah (a.add m))) w:=by
 have h1:(m:Int)<len:=by omega
 simp [go_sem,Tryz.underlying24,h1]
theorem Bc {H:Type} {enc:ay×Y->H} {W:X} {sp:Nat->Bool} {held:Bool} {fuel:Nat} {v:Y} {x:DataW H×List MemPlace}
  (hf:DataW.trod enc Tryz.prog W 0 sp held fuel 24 [v]=ah x):∃ zs,zs.length<=maxLen/\kQ W v zs:=by
 rcases open_ints Tryz.underlying24 Tryz.underlying3 ND hf with⟨h1,_⟩|⟨a',len',cap',zs,h1,_,h3,h4,h5,_,h7,h8⟩
 ·have e:v=.slice none 0 0:=by simpa using h1
  rw [e];exact⟨[],Nat.zero_le _,⟨none,0,rfl⟩,fun i z h=>by simp at h⟩
 ·have e:v=.slice (ah a') len' cap':=by simpa using h1
  rw [e];have hle:len'<=zs.length:=by rw [h5]; split <;> omega
  have hl:(zs.take len').length=len':=by simp; omega
  refine⟨zs.take len',by omega,⟨ah a',cap',by rw [hl]⟩,fun i z hz=>?_⟩;obtain⟨hi,hzi⟩:=O.1 hz;have hi2:i<len':=by omega
  have hz2:zs[i]'(by omega)=z:=by simpa using hzi
  have hc:=h7 i (by omega);have hg:zs.getD i 0=z:=by rw [<- hz2]; simp [List.getD,show i<zs.length by omega]
  rw [hg] at hc;exact⟨vT (h8 z (by rw [<- hz2]; exact List.getElem_mem _)),a'.add i,World.block_lt_of_cell? W _ hc,fun w=>NG a' i len' cap' hi2 w,hc⟩
end In
namespace Pr
open Go.RowKit Pu
def kZ:List Cn->ByteArray->Nat
 | [],_=>0
 | x::r,n=>if J x.1.toList n.toList=au then kZ r n+1 else 0
theorem xO:∀ l n,kZ l n<=l.length
 | [],n=>Nat.le_refl _
 | x::r,n=>by
  have:=xO r n;simp only [kZ]
  split <;> simp; omega
theorem P6:∀ (l:List Cn) (n:ByteArray) (k:Nat),k<=l.length->(∀ (j:Nat) (y:Cn),j<k->l[j]?=ah y->J y.1.toList n.toList=au)->(∀ y:Cn,l[k]?=ah y->J y.1.toList n.toList=false)->kZ l n=k
 | [],n,k,hk,_,_=>by simp at hk; simp [kZ,hk]
 | x::r,n,0,_,_,h=>by simp [kZ,h x rfl]
 | x::r,n,k+1,hk,h1,h2=>by
  simp only [kZ];rw [if_pos (h1 0 x (by omega) rfl),P6 r n k (by simpa using hk) (fun j y hj hy=>h1 (j+1) y (by omega) (by simpa using hy)) (fun y hy=>h2 y (by simpa using hy))]
def lG (l:List Cn) (n:ByteArray):Bool:=match l[kZ l n]? with
 | some x=>decide (x.1=n)
 | none=>false
def Wo (m:List Cn) (c:Cn):Option (List Cn):=match m[kZ m c.1]? with
 | some x=>if x.1=c.1 then (fH x.2 c.2).map fun k=>m.set (kZ m c.1) (x.1,k) else ah (m.take (kZ m c.1)++c::m.drop (kZ m c.1))
 | none=>ah (m.take (kZ m c.1)++c::m.drop (kZ m c.1))
theorem IY:∀ (m:List Cn) (c:Cn),ng m c=Wo m c
 | [],c=>rfl
 | x::r,c=>by
  unfold Wo;simp only [ng,kZ]
  split
  ·rw [IY r c,Wo];simp only [List.getElem?_cons_succ,List.take_succ_cons,List.drop_succ_cons,List.set_cons_succ];cases h:r[kZ r c.1]? with
   | none=>simp
   | some y =>
    simp only
    split
    ·simp [Option.map_map,Function.comp_def]
    ·simp
  ·simp
theorem vU {m:List Cn} {c:Cn} (h:lG m c.1=au):∃ x,m[kZ m c.1]?=ah x/\x.1=c.1/\ng m c=(fH x.2 c.2).map fun k=>m.set (kZ m c.1) (x.1,k):=by
 rw [IY];unfold lG at h;unfold Wo;cases hx:m[kZ m c.1]? with
 | none=>rw [hx] at h; cases h
 | some x =>
  rw [hx] at h;have e:x.1=c.1:=by simpa using h
  exact⟨x,rfl,e,by simp only; rw [if_pos e]⟩
theorem Bd {m:List Cn} {c:Cn} (h:lG m c.1=false):ng m c=ah (m.take (kZ m c.1)++c::m.drop (kZ m c.1)):=by
 rw [IY];unfold lG at h;unfold Wo;cases hx:m[kZ m c.1]? with
 | none=>rfl
 | some x =>
  rw [hx] at h;have e:¬ x.1=c.1:=by simpa using h
  simp only;rw [if_neg e]
theorem JZ:∀ a b:List UInt8,D a b<0↔J a b=au
 | [],[]=>by simp [D,J]
 | [],_::_=>by simp [D,J]
 | _::_,[]=>by simp [D,J]
 | a::x,b::y=>by
  simp only [D,J];by_cases h1:a<b
  ·rw [if_pos h1]; simp [h1]
  ·rw [if_neg h1];by_cases h2:b<a
   ·have h3:a≠b:=by rintro rfl; exact h1 h2
    rw [if_pos h2]; simp [h1,h3]
   ·have h3:a=b:=aB (ak.1 h2) (ak.1 h1);subst h3;rw [if_neg h2,JZ x y]; simp [h1]
theorem J2:∀ a b:List UInt8,D a b=0↔a=b
 | [],[]=>by simp [D]
 | [],_::_=>by simp [D]
 | _::_,[]=>by simp [D]
 | a::x,b::y=>by
  simp only [D];by_cases h1:a<b
  ·rw [if_pos h1];have h3:a≠b:=by rintro rfl; exact absurd h1 (UInt8.lt_irrefl _)
   simp [h3]
  ·rw [if_neg h1];by_cases h2:b<a
   ·have h3:a≠b:=by rintro rfl; exact h1 h2
    rw [if_pos h2]; simp [h3]
   ·have h3:a=b:=aB (ak.1 h2) (ak.1 h1);subst h3;rw [if_neg h2,J2 x y]; simp
def IZ (a b:ByteArray):Int:=D a.data.toList b.data.toList
theorem Tq (a b:ByteArray):decide (IZ a b<0)=J a.toList b.toList:=by
 rw [ByteArray.toList_eq,ByteArray.toList_eq,Bool.eq_iff_iff,decide_eq_true_eq];exact JZ _ _
theorem Tt (a b:ByteArray):IZ a b=0↔a=b:=by
 unfold IZ;rw [J2];exact⟨rV,fun h=>by rw [h]⟩
theorem F7 {l:List Cn} (h:iU l) {i j:Nat} {x y:Cn} (hij:i<=j) (hi:l[i]?=ah x) (hj:l[j]?=ah y) {n:ByteArray} (hy:J y.1.toList n.toList=au):J x.1.toList n.toList=au:=by
 rcases Nat.lt_or_ge i j with h1|h1
 ·obtain⟨a1,a2⟩:=O.1 hi;obtain⟨b1,b2⟩:=O.1 hj;have h2:=List.pairwise_iff_getElem.1 h i j a1 b1 h1;rw [a2,b2] at h2;exact VaP.Bu _ _ _ h2 hy
 ·obtain rfl:i=j:=by omega
  rw [hi] at hj;obtain rfl:=Option.some.inj hj;exact hy
end Pr
end Go.Proofs.YtghlpefopidlaaaGreat
