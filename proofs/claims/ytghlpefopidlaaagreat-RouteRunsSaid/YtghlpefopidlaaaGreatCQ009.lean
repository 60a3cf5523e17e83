/-
  The two loops of Lea. Conditions as told.
-/
import Derived.Test.YtghlpefopidlaaaGreatCQ007
import Derived.Lib.QuietBelow
import Derived.BigQuiet
set_option maxRecDepth 100000
set_option maxHeartbeats 64000000
open Go.Obj renaming cells->D
namespace Go.Proofs.YtghlpefopidlaaaGreat
namespace Bk
open Go.RowKit Go.Sort Rw YtghlpefopidlaaaGreat.Nm Pr
theorem DF (l:List Id) (x:Id) (k:Nat) (hall:∀ (j:Nat) (y:Id),j<k->l[j]?=some y->dB y x=true) (hend:k=l.length\/∃ y,l[k]?=some y/\dB y x=false):gy l x=k:=by
 unfold gy
 induction l generalizing k with
 | nil =>
  rcases hend with h|⟨y,h,_⟩
  ·rw [h]; rfl
  ·simp at h
 | cons a l ih =>
  cases k with
  | zero =>
   rcases hend with h|⟨y,h,h2⟩
   ·simp at h
   ·obtain rfl:a=y:=by simpa using h
    rw [List.takeWhile_cons,h2]
    rfl
  | succ k =>
   have h0:=hall 0 a (by omega) rfl;rw [List.takeWhile_cons,h0];simp only [if_true,List.length_cons];rw [ih k (fun j y hj hy=>hall (j+1) y (by omega) (by simpa using hy)) (by
    rcases hend with h|⟨y,h,h2⟩
    ·exact Or.inl (by simpa using h)
    ·exact Or.inr ⟨y,by simpa using h,h2⟩)]
def eX {α:Type} (l:List α) (k:Nat) (x:α):List α:=l.take k++[x]++l.drop k
def mW (b:Br) (a:Ad):Br×Bool:=if a.id∈b.seen then (b,false) else ({ b with seen:=eX b.seen (gy b.seen a.id) a.id,dP:=eX b.dP (gy (b.dP.map Ad.id) a.id) a },true)
abbrev iy (W:World) (b:Nat) (a0 a1 a2 a3 a4 a5:Value):World:=(((((W.setCell ⟨b,0,none⟩ a0).setCell ⟨b,1,none⟩ a1).setCell ⟨b,2,none⟩ a2).setCell ⟨b,3,none⟩ a3).setCell ⟨b,4,none⟩ a4).setCell ⟨b,5,none⟩ a5
theorem dK {W:World} {b:Nat} {t:TypeId} {z0 z1 z2 z3 z4 z5:Value} (h:cZ W b #[z0,z1,z2,z3,z4,z5] t) (a0 a1 a2 a3 a4 a5:Value):cZ (iy W b a0 a1 a2 a3 a4 a5) b #[a0,a1,a2,a3,a4,a5] t:=by
 have h2:=dL (k:=5) (dL (k:=4) (dL (k:=3) (dL (k:=2) (dL (k:=1) (dL (k:=0) h a0) a1) a2) a3) a4) a5;simp only [List.setIfInBounds_toArray,List.set_cons_zero,List.set_cons_succ] at h2;exact h2
theorem dz {w W:World} {B b:Nat} (h:Below B w W) (hb:B<=b) (a0 a1 a2 a3 a4 a5:Value):Below B w (iy W b a0 a1 a2 a3 a4 a5) :=
 (((((h.setCell hb _).setCell hb _).setCell hb _).setCell hb _).setCell hb _).setCell hb _
theorem AP {α:Type} {E:Ek α} {W:World} {B:Nat} {v:Value} {l:List α} (h:Own E W B v l) (b:Nat) (hb:b<B) (a0 a1 a2 a3 a4 a5:Value):Own E (iy W b a0 a1 a2 a3 a4 a5) B v l :=
 dN (dN (dN (dN (dN (dN h b 0 a0 hb) b 1 a1 hb) b 2 a2 hb) b 3 a3 hb) b 4 a4 hb) b 5 a5 hb
theorem iA (w:World) (c d e:Array Value) (r s t:TypeId):Below w.heap.size w (((w.alloc (D c r)).alloc (D d s)).alloc (D e t))/\cZ (((w.alloc (D c r)).alloc (D d s)).alloc (D e t)) w.heap.size c r/\cZ (((w.alloc (D c r)).alloc (D d s)).alloc (D e t)) (w.heap.size+1) d s/\cZ (((w.alloc (D c r)).alloc (D d s)).alloc (D e t)) (w.heap.size+1+1) e t:=by
 refine⟨(((Below.refl _ _).alloc (Nat.le_refl _) _).alloc (by simp) _).alloc (by simp; omega) _,((dG w c r).more _).more _,?_,?_⟩
 ·have h:=(dG (w.alloc (D c r)) d s).more (D e t);simpa using h
 ·have h:=dG ((w.alloc (D c r)).alloc (D d s)) e t;simpa using h
theorem kr (l:List Id) (x:Id):gy l x<=l.length:=by
 unfold gy;exact (List.takeWhile_sublist _).length_le
def cutAt {α:Type} (l:List α) (k:Nat):List α:=l.take k++l.drop (k+1)
theorem MI (a b c d:Int) (r:Bool) (h:(!(a == c && b == d))=r) (w:World):(binOp .neq 23 (.agg #[.int .i64 a,.int .i64 b]) (.agg #[.int .i64 c,.int .i64 d])).run Tryz.prog w=.ok (.bool r) w:=by
 have st:=zI;subst h;by_cases h1:a=c <;> by_cases h2:b=d <;> simp [go_sem,Tryz.underlying23,Tryz.underlying3,st,h1,h2]
structure yw (b:Br):Prop where
 near:b.near.length<=900
 dP:b.dP.length<=900
 seen:b.seen.length<=900
 ent:b.ent.length<=900
 own:b.own.length<=900
end Bk
namespace Pr
open Go.RowKit Go.Sort Pu Rw Va
end Pr
namespace Bk
open Go.RowKit Go.Sort Rw YtghlpefopidlaaaGreat.Nm Pr
def PX (x y:Id):Bool:=x.1 == y.1 && x.2 == y.2
theorem qh (x y:Id):PX x y=true↔x=y:=by
 obtain⟨a,b⟩:=x;obtain⟨c,d⟩:=y;simp [PX]
end Bk
end Go.Proofs.YtghlpefopidlaaaGreat
