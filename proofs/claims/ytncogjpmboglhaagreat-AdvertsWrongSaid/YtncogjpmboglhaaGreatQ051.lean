/-
  AdvertsWrong: a broker that calls made is right; turned in one thing i. Conditions as told.
-/
import Derived.Test.YtncogjpmboglhaaGreatQ049
import Derived.Test.YtncogjpmboglhaaGreatQ050
import Derived.Test.YtncogjpmboglhaaGreatQ023
set_option maxRecDepth 100000
set_option maxHeartbeats 64000000
namespace Go.Proofs.YtncogjpmboglhaaGreat.Av
open Go.RowKit Go.Sort Rw YtncogjpmboglhaaGreat.Nm Pr Bk
abbrev litC : Array Value := #[.string ⟨#[]⟩,.int .i64 0,.int .i64 0,.int .i64 0,.string ⟨#[]⟩]
noncomputable def wrTailC : Code := afterN 5 (Tryz.f3.body.getD .skip)
end Go.Proofs.YtncogjpmboglhaaGreat.Av
