/-
  Less, seen and Find . Conditions as told.
-/
import Derived.Test.YtmklifheakemeaaVQ008
import Derived.Lib.Hide
set_option maxRecDepth 100000
set_option maxHeartbeats 64000000
open Go.Obj renaming cells->D
namespace Go.Proofs.Ytmklifheakemeaa.Bk
open Go.RowKit Rw Ytmklifheakemeaa.Nm Pr
abbrev pG (x:Id):Value:=.agg #[.int .i64 x.1,.int .i64 x.2]
theorem Bt:Try.prog.stoodInHeld 25=false:=by kernel_rfl
theorem Ag (a b c d:Int) (r:Bool) (h:(a == c && b == d)=r) (w:World):(binOp .eql 25 (.agg #[.int .i64 a,.int .i64 b]) (.agg #[.int .i64 c,.int .i64 d])).run Try.prog w=.ok (.bool r) w:=by
 have st:=Bt;subst h;by_cases h1:a=c <;> by_cases h2:b=d <;> simp [go_sem,Try.underlying25,Try.underlying3,st,h1,h2]
theorem iG (w:World) (o:Obj):Below w.heap.size w (w.alloc o):=(Below.refl _ _).alloc (Nat.le_refl _) _
theorem iT (w:World) (c d:Array Value) (s t:TypeId):Below w.heap.size w ((w.alloc (D c s)).alloc (D d t))/\dH ((w.alloc (D c s)).alloc (D d t)) w.heap.size c s/\dH ((w.alloc (D c s)).alloc (D d t)) (w.heap.size+1) d t:=by
 refine⟨((Below.refl _ _).alloc (Nat.le_refl _) _).alloc (by simp) _,(dO w c s).more _,?_⟩;have h:=dO (w.alloc (D c s)) d t;simpa using h
theorem pI:∀ (l:List Id) (x:Id),-1<=fM l x
 | [],_=>by simp [fM]
 | a::l,x=>by
  unfold fM;have:=pI l x
  split
  ·omega
  ·split <;> omega
end Go.Proofs.Ytmklifheakemeaa.Bk
