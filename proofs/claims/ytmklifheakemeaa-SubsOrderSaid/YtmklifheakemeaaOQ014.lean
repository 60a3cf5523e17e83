/-
  Messages: which are . Conditions as told.
-/
import Derived.Test.YtmklifheakemeaaOQ012
set_option maxRecDepth 100000
set_option maxHeartbeats 64000000
open _root_.Go renaming Value->K,World->L,TypeId->O,Addr->U
open Go.Value renaming slice->J,int->Q,pointer->V,string->X
open _root_.Option renaming some->D
namespace Go.Proofs.Ytmklifheakemeaa
namespace Wr
open Ytmklifheakemeaa.Nm At Pr
def yQ (c:C5):Bool:=tX c.1 && (if c.2.1=1 then decide (c.2.2.2.2.size=0) && decide (c.2.2.1<=c.2.2.2.1) else if c.2.1=2 then decide (c.2.2.1=0) && (decide (c.2.2.2.1=0) && decide (c.2.2.2.2.size<=12)) else if c.2.1=3 then decide (c.2.2.1=0) && (decide (c.2.2.2.1=0) && decide (c.2.2.2.2.size<=11)) else false)
def KM (p x:C5):Bool:=Op.bytesLess p.1.toList x.1.toList
def A9 (l:List C5) (k:Nat):Bool:=match l[k]? with
 | some x=>yQ x && (k == 0 || (match l[k-1]? with
  | some p=>KM p x
  | none=>true))
 | none=>true
def jd (l:List C5):Bool:=(List.range l.length).all (A9 l) && decide (l.length<=5)
theorem wD (l:List C5) (h:∀ j,j<l.length->A9 l j=true):jd l=decide (l.length<=5):=by
 unfold jd;rw [List.all_eq_true.2 fun j hj=>h j (List.mem_range.1 hj),Bool.true_and]
end Wr
namespace Pr
open Go.RowKit Go.Sort Pu Rw Va
end Pr
namespace Rb
open Go.RowKit Go.Sort Rw Ytmklifheakemeaa.Nm At Pr Wr Va
end Rb
namespace Bk
open Go.RowKit Rw Ytmklifheakemeaa.Nm Pr
theorem pq {W:L} {b:Nat} {cs:Array K} {t:O} (hb:dz W b cs t) {a:U} {v:K} (h:W.cell? a=D v) (e:a.block=b):cs[a.off]?=D v:=by
 unfold World.cell? at h;unfold dz at hb;rw [e,hb] at h;have h2:a.spot=none/\cs[a.off]?=D v:=by simpa using h
 exact h2.2
theorem yR {W W':L} {b:Nat} (hk:∀ j,j<W.heap.size->j≠b->W'.heap[j]?=W.heap[j]?) {a:U} {v:K} (h:W.cell? a=D v) (e:a.block≠b):W'.cell? a=D v:=by
 have hlt:=World.block_lt_of_cell? W _ h;unfold World.cell? at h ⊢;rw [hk _ hlt e];exact h
theorem jU (a:U) (j:Nat):(a.add j).block=a.block:=by unfold Addr.add; split <;> rfl
theorem jm {α:Type} {E:Ek α} (_K:E.Ok) {W W':L} {b:Nat} {v:K} {l:List α} (h:Row E W v l) (hk:∀ j,j<W.heap.size->j≠b->W'.heap[j]?=W.heap[j]?) (hno:∀ (a:U) (c:α),(∀ j u,(E.cells c)[j]?=D u->W.cell? (a.add j)=D u)->a.block≠b):Row E W' v l:=by
 rcases h with h|⟨a,cap,h1,h2,h3,h4⟩
 ·exact Or.inl h
 ·refine Or.inr ⟨a,cap,h1,h2,h3,fun j u hj=>?_⟩;cases l with
  | nil=>simp [flat] at hj
  | cons c r =>
   have hne:a.block≠b:=hno a c fun j u hj=>h4 j u (by
    rw [flat,List.getElem?_append_left (by exact (List.getElem?_eq_some_iff.1 hj).1)];exact hj)
   exact yR hk (h4 j u hj) (by rw [jU]; exact hne)
theorem mU {α:Type} {E:Ek α} {W:L} {b:Nat} {cs:Array K} {t:O} (hb:dz W b cs t) (hE:∀ c:α,∃ i j:Int,(E.cells c)[0]?=D (Q .i64 i)/\(E.cells c)[1]?=D (Q .i64 j)) (hcs:∀ (k:Nat) (i j:Int),cs[k]?=D (Q .i64 i)->cs[k+1]?=D (Q .i64 j)->False) (a:U) (c:α) (h:∀ j u,(E.cells c)[j]?=D u->W.cell? (a.add j)=D u):a.block≠b:=fun e=>by
 obtain⟨i,j,h0,h1⟩:=hE c;have c0:=pq hb (h 0 _ h0) (by rw [jU]; exact e);have c1:=pq hb (h 1 _ h1) (by rw [jU]; exact e);have o0:(a.add 0).off=a.off:=by rw [Addr.add_zero']
 have o1:(a.add 1).off=a.off+1:=by rw [add_pos _ _ (by decide)]
 rw [o0] at c0;rw [o1] at c1;exact hcs a.off i j c0 c1
theorem sZ {W:L} {b:Nat} {cs:Array K} {t:O} (hb:dz W b cs t) (hcs:∀ (k:Nat) (s:ByteArray),cs[k]?≠D (X s)) (a:U) (c:C5) (h:∀ j u,(EC.cells c)[j]?=D u->W.cell? (a.add j)=D u):a.block≠b:=fun e=>by
 have c0:=pq hb (h 0 _ rfl) (by rw [jU]; exact e);exact hcs _ _ c0
theorem oD (me:Int) (s1 s2 s3 s4 s5:Sl):∀ (k:Nat) (i j:Int),(mM me s1 s2 s3 s4 s5)[k]?=D (Q .i64 i)->(mM me s1 s2 s3 s4 s5)[k+1]?=D (Q .i64 j)->False:=by
 intro k i j h1 h2
 match k with
 | 0=>simp at h2
 | 1=>simp at h1
 | 2=>simp at h1
 | 3=>simp at h1
 | 4=>simp at h1
 | 5=>simp at h1
 | k+6=>simp at h1
theorem tq (me:Int) (s1 s2 s3 s4 s5:Sl):∀ (k:Nat) (s:ByteArray),(mM me s1 s2 s3 s4 s5)[k]?≠D (X s):=by
 intro k s h
 match k with
 | 0=>simp at h
 | 1=>simp at h
 | 2=>simp at h
 | 3=>simp at h
 | 4=>simp at h
 | 5=>simp at h
 | k+6=>simp at h
theorem yS {W W':L} {k:Nat} {me:Int} {s1 s2 s3 s4 s5:Sl} {b:Br} {nv av sv ev ov:Sl} (h:jK W b nv av sv ev ov) (hb:dz W k (mM me s1 s2 s3 s4 s5) 31) (hk:∀ j,j<W.heap.size->j≠k->W'.heap[j]?=W.heap[j]?) (hn:qz W' (dO nv) b.near):jK W' b nv av sv ev ov where
 near:=hn
 fB:=by
  obtain⟨l,h1,h2⟩:=h.fB;exact⟨l,jm okD h1 hk (mU hb (fun c=>⟨_,_,rfl,rfl⟩) (oD me s1 s2 s3 s4 s5)),h2.mono fun x a hx=>⟨hx.1,hx.2.1,jm Gs hx.2.2 hk (sZ hb (tq me s1 s2 s3 s4 s5))⟩⟩
 seen:=jm vM h.seen hk (mU hb (fun c=>⟨_,_,rfl,rfl⟩) (oD me s1 s2 s3 s4 s5))
 ent:=by
  obtain⟨l,h1,h2⟩:=h.ent;exact⟨l,jm iO h1 hk (mU hb (fun c=>⟨_,_,rfl,rfl⟩) (oD me s1 s2 s3 s4 s5)),h2.mono fun x a hx=>⟨hx.1,hx.2.1,hx.2.2.1,hx.2.2.2.1,jm Gs hx.2.2.2.2 hk (sZ hb (tq me s1 s2 s3 s4 s5))⟩⟩
 own:=by
  obtain⟨l,h1,h2⟩:=h.own;exact⟨l,jm okW h1 hk (mU hb (fun c=>⟨_,_,rfl,rfl⟩) (oD me s1 s2 s3 s4 s5)),h2.mono fun x a hx=>⟨hx.1,jm Gs hx.2 hk (sZ hb (tq me s1 s2 s3 s4 s5))⟩⟩
end Bk
namespace Bk
open Go.RowKit Go.Sort Rw Ytmklifheakemeaa.Nm Pr
theorem jV {W:L} {b:Nat} {z0 z1 z2 z3 z4 z5:K} (h:dz W b #[z0,z1,z2,z3,z4,z5] 31) (me:Int) (o1 o2 o3 o4 o5:Option U) (n1 c1 n2 c2 n3 c3 n4 c4 n5 c5:Nat) :
  (Instr.storeAt 31 (V (D ⟨b,0,none⟩)) (.agg #[Q .i64 me,J o1 n1 c1,J o2 n2 c2,J o3 n3 c3,J o4 n4 c4,J o5 n5 c5])).run Try.prog W=.ok () (jc W b (Q .i64 me) (J o1 n1 c1) (J o2 n2 c2) (J o3 n3 c3) (J o4 n4 c4) (J o5 n5 c5)):=by
 obtain⟨x0,x1,x2,x3,x4,x5⟩:=h.gZ;obtain⟨f0,f1,f2,f3,f4,f5⟩:=h.qy;simp [go_sem,x0,x1,x2,x3,x4,x5,f0,f1,f2,f3,f4,f5]
theorem tu {W:L} {b:Nat} {z0 z1 z2 z3 z4 z5:K} (h:dz W b #[z0,z1,z2,z3,z4,z5] 31):(Instr.loadAt 31 (V (D ⟨b,0,none⟩))).run Try.prog W=.ok (.agg #[z0,z1,z2,z3,z4,z5]) W:=by
 obtain⟨x0,x1,x2,x3,x4,x5⟩:=h.gZ;simp [go_sem,x0,x1,x2,x3,x4,x5]
theorem yT {P:Program} (ρ:Operand->K) (o:Oper) (x y z:Operand) (t s r:O) (f:FuncId) (ho:o.op=.call { callee:=.value (.func f),args:=#[x,y,z],argTypes:=#[t,s,r] }) {v u q:K} (hx:ρ x=v) (hy:ρ y=u) (hz:ρ z=q) (hf:ρ (.func f)=.func (.func f) #[] #[]) (w:L)
  (hc:(callFunc f #[v,u,q]).run P w=.ok (.enter f #[v,u,q]) w):(execOp ρ o).run P w=.ok (.enter f #[v,u,q]) w:=by
 simp [execOp,ho,resolve,invoke,hx,hy,hz,hf,Deferred.ofValue,hc]
end Bk
end Go.Proofs.Ytmklifheakemeaa
