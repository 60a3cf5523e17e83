/-
  Learn of broadsidere. Conditions as told.
-/
import Derived.Test.YtghlpefopidlaaaGreatBQ009
import Derived.Test.YtghlpefopidlaaaGreatBQ005
set_option maxRecDepth 100000
set_option maxHeartbeats 64000000
open Go.Obj renaming cells->D
namespace Go.Proofs.YtghlpefopidlaaaGreat.Bk
open Go.RowKit Go.Sort Rw YtghlpefopidlaaaGreat.Nm Pr
def eY {α:Type} (l:List α) (k:Nat) (x:α):List α:=l.take k++[x]++l.drop k
def jX (b:Br) (a:Ad):Br×Bool:=if a.id∈b.seen then (b,false) else ({ b with seen:=eY b.seen (gQ b.seen a.id) a.id,dW:=eY b.dW (gQ (b.dW.map Ad.id) a.id) a },true)
abbrev iY (W:World) (b:Nat) (a0 a1 a2 a3 a4 a5:Value):World:=(((((W.setCell ⟨b,0,none⟩ a0).setCell ⟨b,1,none⟩ a1).setCell ⟨b,2,none⟩ a2).setCell ⟨b,3,none⟩ a3).setCell ⟨b,4,none⟩ a4).setCell ⟨b,5,none⟩ a5
theorem dX {W:World} {b:Nat} {t:TypeId} {z0 z1 z2 z3 z4 z5:Value} (h:dG W b #[z0,z1,z2,z3,z4,z5] t) (a0 a1 a2 a3 a4 a5:Value):dG (iY W b a0 a1 a2 a3 a4 a5) b #[a0,a1,a2,a3,a4,a5] t:=by
 have h2:=eu (k:=5) (eu (k:=4) (eu (k:=3) (eu (k:=2) (eu (k:=1) (eu (k:=0) h a0) a1) a2) a3) a4) a5;simp only [List.setIfInBounds_toArray,List.set_cons_zero,List.set_cons_succ] at h2;exact h2
theorem dI {w W:World} {B b:Nat} (h:Below B w W) (hb:B<=b) (a0 a1 a2 a3 a4 a5:Value):Below B w (iY W b a0 a1 a2 a3 a4 a5) :=
 (((((h.setCell hb _).setCell hb _).setCell hb _).setCell hb _).setCell hb _).setCell hb _
theorem I7 {α:Type} {E:Ek α} {W:World} {B:Nat} {v:Value} {l:List α} (h:Own E W B v l) (b:Nat) (hb:b<B) (a0 a1 a2 a3 a4 a5:Value):Own E (iY W b a0 a1 a2 a3 a4 a5) B v l :=
 eO (eO (eO (eO (eO (eO h b 0 a0 hb) b 1 a1 hb) b 2 a2 hb) b 3 a3 hb) b 4 a4 hb) b 5 a5 hb
theorem ji (w:World) (c d e:Array Value) (r s t:TypeId):Below w.heap.size w (((w.alloc (D c r)).alloc (D d s)).alloc (D e t))/\dG (((w.alloc (D c r)).alloc (D d s)).alloc (D e t)) w.heap.size c r/\dG (((w.alloc (D c r)).alloc (D d s)).alloc (D e t)) (w.heap.size+1) d s/\dG (((w.alloc (D c r)).alloc (D d s)).alloc (D e t)) (w.heap.size+1+1) e t:=by
 refine⟨(((Below.refl _ _).alloc (Nat.le_refl _) _).alloc (by simp) _).alloc (by simp; omega) _,((dO w c r).more _).more _,?_,?_⟩
 ·have h:=(dO (w.alloc (D c r)) d s).more (D e t);simpa using h
 ·have h:=dO ((w.alloc (D c r)).alloc (D d s)) e t;simpa using h
theorem nC (l:List Id) (x:Id):gQ l x<=l.length:=by
 unfold gQ;exact (List.takeWhile_sublist _).length_le
def cutAt {α:Type} (l:List α) (k:Nat):List α:=l.take k++l.drop (k+1)
def GH (b:Br) (x:Id) (f:Int):Br×Bool:=match b.dW[(fH (b.dW.map Ad.id) x).toNat]? with
 | none=>(b,false)
 | some a=>if fH (b.dW.map Ad.id) x=-1 then (b,false) else if a.par=f then ({ b with dW:=cutAt b.dW (fH (b.dW.map Ad.id) x).toNat,ent:=b.ent.filter fun e=>decide (e.tree≠x) },true) else (b,false)
theorem TY (a b c d:Int) (r:Bool) (h:(!(a == c && b == d))=r) (w:World):(binOp .neq 23 (.agg #[.int .i64 a,.int .i64 b]) (.agg #[.int .i64 c,.int .i64 d])).run Tryz.prog w=.ok (.bool r) w:=by
 have st:=Gx;subst h;by_cases h1:a=c <;> by_cases h2:b=d <;> simp [go_sem,Tryz.underlying23,Tryz.underlying3,st,h1,h2]
structure xR (b:Br):Prop where
 near:b.near.length<=900
 dW:b.dW.length<=900
 seen:b.seen.length<=900
 ent:b.ent.length<=900
 own:b.own.length<=900
def ZM (x y:Id):Bool:=x.1 == y.1 && x.2 == y.2
theorem uQ (x y:Id):ZM x y=true↔x=y:=by
 obtain⟨a,b⟩:=x;obtain⟨c,d⟩:=y;simp [ZM]
end Go.Proofs.YtghlpefopidlaaaGreat.Bk
