/-
  Learn of broadsidere. Conditions as told.
-/
import Derived.Test.YtmklifheakemeaaGreatLQ005
import Derived.Test.YtmklifheakemeaaGreatLQ007
import Derived.Test.YtmklifheakemeaaGreatLQ009
set_option maxRecDepth 100000
set_option maxHeartbeats 64000000
open _root_.Go renaming World->K,Value->L
open Go.Obj renaming cells->D
open _root_.List renaming map_cons->J
namespace Go.Proofs.YtmklifheakemeaaGreat.Bk
open Go.RowKit Go.Sort Rw YtmklifheakemeaaGreat.Nm Pr
def fC {α:Type} (l:List α) (k:Nat) (x:α):List α:=l.take k++[x]++l.drop k
def eO (b:Br) (a:Ad):Br×Bool:=if a.id∈b.seen then (b,false) else ({ b with seen:=fC b.seen (fU b.seen a.id) a.id,dV:=fC b.dV (fU (b.dV.map Ad.id) a.id) a },true)
abbrev iF (W:K) (b:Nat) (a0 a1 a2 a3 a4 a5:L):K:=(((((W.setCell ⟨b,0,none⟩ a0).setCell ⟨b,1,none⟩ a1).setCell ⟨b,2,none⟩ a2).setCell ⟨b,3,none⟩ a3).setCell ⟨b,4,none⟩ a4).setCell ⟨b,5,none⟩ a5
theorem dZ {W:K} {b:Nat} {t:TypeId} {z0 z1 z2 z3 z4 z5:L} (h:dI W b #[z0,z1,z2,z3,z4,z5] t) (a0 a1 a2 a3 a4 a5:L):dI (iF W b a0 a1 a2 a3 a4 a5) b #[a0,a1,a2,a3,a4,a5] t:=by
 have h2:=eD (k:=5) (eD (k:=4) (eD (k:=3) (eD (k:=2) (eD (k:=1) (eD (k:=0) h a0) a1) a2) a3) a4) a5;simp only [List.setIfInBounds_toArray,List.set_cons_zero,List.set_cons_succ] at h2;exact h2
theorem dN {w W:K} {B b:Nat} (h:Below B w W) (hb:B<=b) (a0 a1 a2 a3 a4 a5:L):Below B w (iF W b a0 a1 a2 a3 a4 a5) :=
 (((((h.setCell hb _).setCell hb _).setCell hb _).setCell hb _).setCell hb _).setCell hb _
theorem iw (W:K) (b:Nat) (a0 a1 a2 a3 a4 a5:L) (j:Nat) (hj:j≠b):(iF W b a0 a1 a2 a3 a4 a5).heap[j]?=W.heap[j]?:=by
 have h:∀ (W:K) (k:Nat) (x:L),(W.setCell ⟨b,k,none⟩ x).heap[j]?=W.heap[j]?:=fun W k x=>RowKit.Below.heap_setCell W _ x _ hj;unfold iF;rw [h,h,h,h,h,h]
theorem iQ {α:Type} {E:Ek α} {W:K} {B:Nat} {v:L} {l:List α} (h:Own E W B v l) (b:Nat) (hb:b<B) (a0 a1 a2 a3 a4 a5:L):Own E (iF W b a0 a1 a2 a3 a4 a5) B v l :=
 eU (eU (eU (eU (eU (eU h b 0 a0 hb) b 1 a1 hb) b 2 a2 hb) b 3 a3 hb) b 4 a4 hb) b 5 a5 hb
theorem je (w:K) (c d e:Array L) (r s t:TypeId):Below w.heap.size w (((w.alloc (D c r)).alloc (D d s)).alloc (D e t))/\dI (((w.alloc (D c r)).alloc (D d s)).alloc (D e t)) w.heap.size c r/\dI (((w.alloc (D c r)).alloc (D d s)).alloc (D e t)) (w.heap.size+1) d s/\dI (((w.alloc (D c r)).alloc (D d s)).alloc (D e t)) (w.heap.size+1+1) e t:=by
 refine⟨(((Below.refl _ _).alloc (Nat.le_refl _) _).alloc (by simp) _).alloc (by simp; omega) _,((dL w c r).more _).more _,?_,?_⟩
 ·have h:=(dL (w.alloc (D c r)) d s).more (D e t);simpa using h
 ·have h:=dL ((w.alloc (D c r)).alloc (D d s)) e t;simpa using h
theorem U7 {W:K} {l:List jk} {m:List Ad} (h:eZ (xK W) l m):(l.map fun y=>(y.1,y.2.1))=m.map Ad.id:=by
 induction h with
 | nil=>rfl
 | cons x t ih=>rw [J,J,ih,x.1]
theorem lF (l:List Id) (x:Id):fU l x<=l.length:=by
 unfold fU;exact (List.takeWhile_sublist _).length_le
def cutAt {α:Type} (l:List α) (k:Nat):List α:=l.take k++l.drop (k+1)
def uM (b:Br) (x:Id) (f:Int):Br×Bool:=match b.dV[(fE (b.dV.map Ad.id) x).toNat]? with
 | none=>(b,false)
 | some a=>if fE (b.dV.map Ad.id) x=-1 then (b,false) else if a.par=f then ({ b with dV:=cutAt b.dV (fE (b.dV.map Ad.id) x).toNat,ent:=b.ent.filter fun e=>decide (e.tree≠x) },true) else (b,false)
theorem Qw (l:List jk) (x:Id):fE (l.map fun y=>(y.1,y.2.1)) x=-1\/∃ (k:Nat) (y:jk),fE (l.map fun y=>(y.1,y.2.1)) x=k/\l[k]?=some y:=by
 induction l with
 | nil=>exact Or.inl rfl
 | cons a l ih =>
  rw [J,fE];by_cases h:(a.1,a.2.1)=x
  ·rw [if_pos h];exact Or.inr ⟨0,a,rfl,rfl⟩
  ·rw [if_neg h];rcases ih with h2|⟨k,y,h2,h3⟩
   ·rw [if_pos h2];exact Or.inl rfl
   ·rw [if_neg (by omega),h2];exact Or.inr ⟨k+1,y,by omega,by simpa using h3⟩
theorem XC (a b c d:Int) (r:Bool) (h:(!(a == c && b == d))=r) (w:K):(binOp .neq 31 (.agg #[.int .i64 a,.int .i64 b]) (.agg #[.int .i64 c,.int .i64 d])).run Tryz.prog w=.ok (.bool r) w:=by
 have st:=Gd;subst h;by_cases h1:a=c <;> by_cases h2:b=d <;> simp [go_sem,Tryz.underlying31,Tryz.underlying3,st,h1,h2]
def tu (x:Id) (e:gW):Bool:=decide ((e.1,e.2.1)≠x)
structure Kn (b:Br):Prop where
 near:b.near.length<=900
 dV:b.dV.length<=900
 seen:b.seen.length<=900
 ent:b.ent.length<=900
 own:b.own.length<=900
def eqI (x y:Id):Bool:=x.1 == y.1 && x.2 == y.2
theorem uN (x y:Id):eqI x y=true↔x=y:=by
 obtain⟨a,b⟩:=x;obtain⟨c,d⟩:=y;simp [eqI]
end Go.Proofs.YtmklifheakemeaaGreat.Bk
