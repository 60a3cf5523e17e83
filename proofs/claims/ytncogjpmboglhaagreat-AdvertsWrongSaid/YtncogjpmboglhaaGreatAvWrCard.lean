/-
  A broker that calls made is right, and turned in one thing it is not, nor the same: at every broker of numbers and number the law AdvertsWrong answers true, and each argument reads behind the call as it read before. Conditions: none.
-/
import Derived.Test.YtncogjpmboglhaaGreatRows
import Derived.Test.YtncogjpmboglhaaGreatQ051
import Derived.Test.YtncogjpmboglhaaGreatQ023
import Derived.Test.YtncogjpmboglhaaGreatQ012
import Derived.WalkKit
import Derived.ProofKit
import Derived.OpenShut
import Derived.Deep.DeepHandedRow
import Derived.ChangeVars
import Derived.ChangeMaps5
import Derived.JoinedOf
import Derived.RowKit
import Derived.RowKitTokens
import Derived.LaidLaws
import Derived.LaidHandle
import Derived.Lay
import Derived.Lib.LaidTab
import Derived.Stop.Joined
import Derived.SevenTiedAt
namespace Go.Proofs.YtncogjpmboglhaaGreat.advertsWrong
open Go.ChangeShapes Go.WideShapes Go.ChangeAt Go.RowKit Go.ChangeMaps

theorem wfLo {n : Int} (h : (Lit.int .i64 n).wf = true) : -9223372036854775808 ≤ n := by
 have h2 : (decide (IntKind.i64.min ≤ n) && decide (n ≤ IntKind.i64.max)) = true := h
 rw [Bool.and_eq_true,decide_eq_true_eq,decide_eq_true_eq,show IntKind.i64.min = -9223372036854775808 by decide,show IntKind.i64.max = 9223372036854775807 by decide] at h2
 exact h2.1
theorem wfHi {n : Int} (h : (Lit.int .i64 n).wf = true) : n ≤ 9223372036854775807 := by
 have h2 : (decide (IntKind.i64.min ≤ n) && decide (n ≤ IntKind.i64.max)) = true := h
 rw [Bool.and_eq_true,decide_eq_true_eq,decide_eq_true_eq,show IntKind.i64.min = -9223372036854775808 by decide,show IntKind.i64.max = 9223372036854775807 by decide] at h2
 exact h2.2
theorem own : ownKnob Tryz.prog.godebug = none := by kernel_rfl
theorem handle {W : World} (_ : laidMetH Tryz.prog Rows.advertsWrongRow.laid W) : True := trivial

noncomputable def laidWorld (os : Os) : World := World.holding Tryz.prog os ⟨#[],#[],[]⟩
theorem laid_met (os : Os) : laidMetH Tryz.prog Rows.advertsWrongRow.laid ((laidWorld os).forCall (fun _ _ => 0) ⟨#[],#[.agg #[.int .i64 0,.slice none 0 0],.int .i64 0],[]⟩).memory :=
 laidMetH_of_parts (laidMet_nil _ _) (by kernel_rfl)
theorem reads (os : Os) {H : Type} (enc : TypeId × Value → H) : ∃ places,DataW.whole enc Tryz.prog ((laidWorld os).forCall (fun _ _ => 0) ⟨#[],#[.agg #[.int .i64 0,.slice none 0 0],.int .i64 0],[]⟩).memory Tryz.f3.params.toList Rows.advertsWrongSpec.vars false (#[.agg #[.int .i64 0,.slice none 0 0],.int .i64 0] : Array Value).toList 8 = some ([.agg [.lit (.int .i64 0),.nil],.lit (.int .i64 0)],[],places) :=
 ⟨[],by kernel_rfl⟩

end Go.Proofs.YtncogjpmboglhaaGreat.advertsWrong
