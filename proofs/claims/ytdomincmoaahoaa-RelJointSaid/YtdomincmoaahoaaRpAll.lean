/-
  The contracts of package rel, together. No condition.
-/
import Derived.Test.YtdomincmoaahoaaRpTog
import Derived.Test.YtdomincmoaahoaaRpMat
namespace Go.Proofs.Ytdomincmoaahoaa.Rl
open Go.RowKit Go.Proofs.Ytdomincmoaahoaa.Pr Go.Proofs.Ytdomincmoaahoaa.Rw

theorem oks : ROks (fun _ => True) where
  bel := fun _ _ h _ => h
  match_ := fun pv lv p l w _ hp hl np nl => match_any pv lv p l w hp hl np nl
  meets := fun av_ bv a b w _ ha hb na nb => rmeets_any av_ bv a b w ha hb na nb
  covers := fun av_ bv a b w _ ha hb na nb => covers_any av_ bv a b w ha hb na nb
  sample := fun av_ a w _ ha na => rsample_any av_ a w ha na
  joint := fun av_ bv a b w _ ha hb na nb => rjoint_any av_ bv a b w ha hb na nb
end Go.Proofs.Ytdomincmoaahoaa.Rl
