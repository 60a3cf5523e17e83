/-
  Forget of broadsider. Conditions as told.
-/
import Derived.Test.YtmklifheakemeaaOQ009
import Derived.Test.YtmklifheakemeaaOQ011
set_option maxRecDepth 100000
set_option maxHeartbeats 64000000
namespace Go.Proofs.Ytmklifheakemeaa.Bk
open Go.RowKit Go.Sort Rw Ytmklifheakemeaa.Nm Pr
def cutAt {α:Type} (l:List α) (k:Nat):List α:=l.take k++l.drop (k+1)
theorem KJ (a b c d:Int) (r:Bool) (h:(!(a == c && b == d))=r) (w:World):(binOp .neq 25 (.agg #[.int .i64 a,.int .i64 b]) (.agg #[.int .i64 c,.int .i64 d])).run Try.prog w=.ok (.bool r) w:=by
 have st:=xB;subst h;by_cases h1:a=c <;> by_cases h2:b=d <;> simp [go_sem,Try.underlying25,Try.underlying3,st,h1,h2]
structure uF (b:Br):Prop where
 near:b.near.length<=900
 fB:b.fB.length<=900
 seen:b.seen.length<=900
 ent:b.ent.length<=900
 own:b.own.length<=900
end Go.Proofs.Ytmklifheakemeaa.Bk
