/-
  Within of the statements' own package: a number brought into bounds. Conditions as told.
-/
import Derived.Test.YtmklifheakemeaaGreatProg
import Derived.WalkKit
import Derived.Lib.Hide
import Derived.WalkLawsBesides
import Derived.IntWalk
set_option maxRecDepth 100000
set_option maxHeartbeats 64000000
namespace Go.Proofs.YtmklifheakemeaaGreat.Wi
open Go.RowKit
end Go.Proofs.YtmklifheakemeaaGreat.Wi
namespace Go.Proofs.YtmklifheakemeaaGreat.Va
open Go.RowKit
abbrev vl (t : Bool) (n : Int) (s : ByteArray) : Value := .agg #[.bool t,.int .i64 n,.string s]
theorem ret_bool {a b : Bool} (h : a = b) : Ending.returned (.bool a) = .returned (.bool b) := by rw [h]
end Go.Proofs.YtmklifheakemeaaGreat.Va
