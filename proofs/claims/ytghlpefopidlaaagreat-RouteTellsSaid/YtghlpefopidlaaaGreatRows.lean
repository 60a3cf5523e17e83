/-
  No cell of these rows narrows 'for every input' (looked for: loops, veiled, ifaces, maps, wideKeys, modest, calm, conditions, laid).
  DERIVED. THE GIVEN ROWS OF THIS SEAT. 5 by the template 'for every input the law returns true; each argument reads behind the call as it read before'; 0 by the template 'total and deterministic' (their statements: YtghlpefopidlaaaGreatTotals.lean).
  GIVEN WITH THE SEED: the statements are not yours to turn. If you find one false, say at which input.
  Laid BY PROGRAM, IN A SANDBOX (cutbox-rows.mjs): the forced cells as the released guide's own fill.sh prints them over the translation 81a4a65e7c80fe16… (all of the seat's roots in one cut). By AI agents, Wed Nov 11 2026. No macro, syntax, notation, axiom, sorry.
-/
import Derived.Test.YtghlpefopidlaaaGreatChecked
import GoSem.Claim
import GoSem.ClaimJoined
import GoSem.ClaimMapViews
import Derived.JoinedTies
import Derived.KernelRfl
namespace Go.Proofs.YtghlpefopidlaaaGreat
/- THE CELL 'sum', in the pinned program and in every row, IS THE sha256 OF THE DUMP (.gsa) THAT YtghlpefopidlaaaGreatProg.lean LOADS. Nothing in Lean hashes anything: it is a label: what it is worth is what the hold of that sum in a sandbox is worth. -/
noncomputable def Tryz.pinned : Pinned := { name := "ytghlpefopidlaaagreat", sum := "81a4a65e7c80fe16b164d7520d5b5e57fe93ea1c7ab1c22afe4f92de6ded917d", checked := Tryz.checked }
namespace Rows
def none {H : Type} : Left H := { results := [], args := [] }

/-- 'broadsidelaw12.RouteRuns': WHATEVER THE INPUT: true; the input reads as it did. -/
def routeRunsSpec : ChangeSpec := { name := "routeRuns", fn := fun _ => fun
  | [] => { results := [.lit (.bool true)], args := [] }
  | _ => none }
def routeRunsRow : OpenClaim := { program := "ytghlpefopidlaaagreat", sum := "81a4a65e7c80fe16b164d7520d5b5e57fe93ea1c7ab1c22afe4f92de6ded917d", func := "broadside/broadsidelaw12.RouteRuns", spec := "routeRuns", inPlace := ["slices.overlaps[broadside/api.Advert]", "slices.overlaps[broadside/api.ID]", "slices.overlaps[broadside/api.Own]", "internal/bytealg.abigen_runtime_cmpstring", "slices.overlaps[broadside/api.Constraint]", "slices.overlaps[broadside/api.Entry]"], unfollowed := true, recurses := true, plainKeys := false, apart := false }
def RouteRunsSaid : Prop := routeRunsRow.holds Tryz.pinned (OpenSpec.ofChange routeRunsSpec)

/-- ITS FALSE NEIGHBOUR: 'it returns false'. Refute it at one input. -/
def routeRunsWrong : ChangeSpec := { name := "routeRuns", fn := fun _ => fun
  | [] => { results := [.lit (.bool false)], args := [] }
  | _ => none }
def RouteRunsWrongFalsely : Prop := routeRunsRow.holds Tryz.pinned (OpenSpec.ofChange routeRunsWrong)

/-- 'broadsidelaw12.RouteTells': WHATEVER THE INPUT: true; the input reads as it did. -/
def routeTellsSpec : ChangeSpec := { name := "routeTells", fn := fun _ => fun
  | [d1, d2, d3, d4, d5, d6, d7] => { results := [.lit (.bool true)], args := [d1, d2, d3, d4, d5, d6, d7] }
  | _ => none }
def routeTellsRow : OpenClaim := { program := "ytghlpefopidlaaagreat", sum := "81a4a65e7c80fe16b164d7520d5b5e57fe93ea1c7ab1c22afe4f92de6ded917d", func := "broadside/broadsidelaw12.RouteTells", spec := "routeTells", inPlace := ["slices.overlaps[broadside/api.Own]", "internal/bytealg.abigen_runtime_cmpstring", "slices.overlaps[broadside/api.Constraint]", "slices.overlaps[broadside/api.Entry]", "slices.overlaps[broadside/api.Advert]", "slices.overlaps[broadside/api.ID]"], unfollowed := true, recurses := true, plainKeys := false, apart := false }
def RouteTellsSaid : Prop := routeTellsRow.holds Tryz.pinned (OpenSpec.ofChange routeTellsSpec)

/-- ITS FALSE NEIGHBOUR: 'it returns false'. Refute it at one input. -/
def routeTellsWrong : ChangeSpec := { name := "routeTells", fn := fun _ => fun
  | [d1, d2, d3, d4, d5, d6, d7] => { results := [.lit (.bool false)], args := [d1, d2, d3, d4, d5, d6, d7] }
  | _ => none }
def RouteTellsWrongFalsely : Prop := routeTellsRow.holds Tryz.pinned (OpenSpec.ofChange routeTellsWrong)

/-- 'broadsidelaw12.RouteAbove': WHATEVER THE INPUT: true; the input reads as it did. -/
def routeAboveSpec : ChangeSpec := { name := "routeAbove", fn := fun _ => fun
  | [d] => { results := [.lit (.bool true)], args := [d] }
  | _ => none }
def routeAboveRow : OpenClaim := { program := "ytghlpefopidlaaagreat", sum := "81a4a65e7c80fe16b164d7520d5b5e57fe93ea1c7ab1c22afe4f92de6ded917d", func := "broadside/broadsidelaw12.RouteAbove", spec := "routeAbove", inPlace := ["slices.overlaps[broadside/api.Advert]", "slices.overlaps[broadside/api.ID]", "slices.overlaps[broadside/api.Own]", "internal/bytealg.abigen_runtime_cmpstring", "slices.overlaps[broadside/api.Constraint]", "slices.overlaps[broadside/api.Entry]"], unfollowed := true, recurses := true, plainKeys := false, apart := false }
def RouteAboveSaid : Prop := routeAboveRow.holds Tryz.pinned (OpenSpec.ofChange routeAboveSpec)

/-- ITS FALSE NEIGHBOUR: 'it returns false'. Refute it at one input. -/
def routeAboveWrong : ChangeSpec := { name := "routeAbove", fn := fun _ => fun
  | [d] => { results := [.lit (.bool false)], args := [d] }
  | _ => none }
def RouteAboveWrongFalsely : Prop := routeAboveRow.holds Tryz.pinned (OpenSpec.ofChange routeAboveWrong)

/-- 'broadsidelaw12.RouteBack': WHATEVER THE INPUT: true; the input reads as it did. -/
def routeBackSpec : ChangeSpec := { name := "routeBack", fn := fun _ => fun
  | [d1, d2] => { results := [.lit (.bool true)], args := [d1, d2] }
  | _ => none }
def routeBackRow : OpenClaim := { program := "ytghlpefopidlaaagreat", sum := "81a4a65e7c80fe16b164d7520d5b5e57fe93ea1c7ab1c22afe4f92de6ded917d", func := "broadside/broadsidelaw12.RouteBack", spec := "routeBack", inPlace := ["slices.overlaps[broadside/api.Own]", "internal/bytealg.abigen_runtime_cmpstring", "slices.overlaps[broadside/api.Constraint]", "slices.overlaps[broadside/api.Entry]", "slices.overlaps[broadside/api.Advert]", "slices.overlaps[broadside/api.ID]"], unfollowed := true, recurses := true, plainKeys := false, apart := false }
def RouteBackSaid : Prop := routeBackRow.holds Tryz.pinned (OpenSpec.ofChange routeBackSpec)

/-- ITS FALSE NEIGHBOUR: 'it returns false'. Refute it at one input. -/
def routeBackWrong : ChangeSpec := { name := "routeBack", fn := fun _ => fun
  | [d1, d2] => { results := [.lit (.bool false)], args := [d1, d2] }
  | _ => none }
def RouteBackWrongFalsely : Prop := routeBackRow.holds Tryz.pinned (OpenSpec.ofChange routeBackWrong)

/-- 'broadsidelaw12.RouteWide': WHATEVER THE INPUT: true; the input reads as it did. -/
def routeWideSpec : ChangeSpec := { name := "routeWide", fn := fun _ => fun
  | [d1, d2] => { results := [.lit (.bool true)], args := [d1, d2] }
  | _ => none }
def routeWideRow : OpenClaim := { program := "ytghlpefopidlaaagreat", sum := "81a4a65e7c80fe16b164d7520d5b5e57fe93ea1c7ab1c22afe4f92de6ded917d", func := "broadside/broadsidelaw12.RouteWide", spec := "routeWide", inPlace := ["slices.overlaps[broadside/api.Advert]", "slices.overlaps[broadside/api.ID]", "slices.overlaps[broadside/api.Own]", "internal/bytealg.abigen_runtime_cmpstring", "slices.overlaps[broadside/api.Constraint]", "slices.overlaps[broadside/api.Entry]"], unfollowed := true, recurses := true, plainKeys := false, apart := false }
def RouteWideSaid : Prop := routeWideRow.holds Tryz.pinned (OpenSpec.ofChange routeWideSpec)

/-- ITS FALSE NEIGHBOUR: 'it returns false'. Refute it at one input. -/
def routeWideWrong : ChangeSpec := { name := "routeWide", fn := fun _ => fun
  | [d1, d2] => { results := [.lit (.bool false)], args := [d1, d2] }
  | _ => none }
def RouteWideWrongFalsely : Prop := routeWideRow.holds Tryz.pinned (OpenSpec.ofChange routeWideWrong)

/- THE SECOND FORM. 'bulk': how many values and letters a reading holds, each counted each time it is reached (what is shared counts as often as it is met; a slice's spare places count too). A statement '..UptoSaid' is the law's where the arguments, and the package variables that the reading takes, are together of bulk at most 1048576: NARROWER than '..Said'. Prove '..Said' where nothing that the law and all that it calls make is longer than what came in: it says more and counts as full. Else prove '..UptoSaid'. A law counts once. -/
mutual
def uptoBulk {H : Type} : DataW H → Nat
  | .lit (.string bytes) => bytes.length + 1
  | .lit _ => 1
  | .nil => 1
  | .ptr d => uptoBulk d + 1
  | .slice elems spare => uptoBulkAll elems + uptoBulkAll spare + 1
  | .agg parts => uptoBulkAll parts + 1
  | .iface _ d => uptoBulk d + 1
  | .map entries => uptoBulkEntries entries + 1
  | .held _ => 1
def uptoBulkAll {H : Type} : List (DataW H) → Nat
  | [] => 0
  | d :: r => uptoBulk d + uptoBulkAll r
def uptoBulkEntries {H : Type} : List (Lit × DataW H) → Nat
  | [] => 0
  | x :: r => uptoBulkEntry x + uptoBulkEntries r
def uptoBulkEntry {H : Type} : Lit × DataW H → Nat
  | (.string bytes, d) => bytes.length + uptoBulk d + 1
  | (_, d) => uptoBulk d + 1
 end
def uptoSmall : (H : Type) → List (DataW H) → Bool := fun _ ds => decide (uptoBulkAll ds ≤ 1048576)
def OpenSpec.upto (s : _root_.Go.ChangeSpec) : _root_.Go.OpenSpec := { _root_.Go.OpenSpec.ofChange s with cond := some uptoSmall }

/-- 'broadsidelaw12.RouteRuns', WHERE WHAT IT READS IS OF BULK AT MOST 1048576: true; the input reads as it did. -/
def routeRunsUptoRow : OpenClaim := { program := "ytghlpefopidlaaagreat", sum := "81a4a65e7c80fe16b164d7520d5b5e57fe93ea1c7ab1c22afe4f92de6ded917d", func := "broadside/broadsidelaw12.RouteRuns", spec := "routeRuns", inPlace := ["slices.overlaps[broadside/api.Advert]", "slices.overlaps[broadside/api.ID]", "slices.overlaps[broadside/api.Own]", "internal/bytealg.abigen_runtime_cmpstring", "slices.overlaps[broadside/api.Constraint]", "slices.overlaps[broadside/api.Entry]"], unfollowed := true, recurses := true, plainKeys := false, apart := false, narrowed := true }
def RouteRunsUptoSaid : Prop := routeRunsUptoRow.holds Tryz.pinned (OpenSpec.upto routeRunsSpec)

/-- 'broadsidelaw12.RouteTells', WHERE WHAT IT READS IS OF BULK AT MOST 1048576: true; the input reads as it did. -/
def routeTellsUptoRow : OpenClaim := { program := "ytghlpefopidlaaagreat", sum := "81a4a65e7c80fe16b164d7520d5b5e57fe93ea1c7ab1c22afe4f92de6ded917d", func := "broadside/broadsidelaw12.RouteTells", spec := "routeTells", inPlace := ["slices.overlaps[broadside/api.Own]", "internal/bytealg.abigen_runtime_cmpstring", "slices.overlaps[broadside/api.Constraint]", "slices.overlaps[broadside/api.Entry]", "slices.overlaps[broadside/api.Advert]", "slices.overlaps[broadside/api.ID]"], unfollowed := true, recurses := true, plainKeys := false, apart := false, narrowed := true }
def RouteTellsUptoSaid : Prop := routeTellsUptoRow.holds Tryz.pinned (OpenSpec.upto routeTellsSpec)

/-- 'broadsidelaw12.RouteAbove', WHERE WHAT IT READS IS OF BULK AT MOST 1048576: true; the input reads as it did. -/
def routeAboveUptoRow : OpenClaim := { program := "ytghlpefopidlaaagreat", sum := "81a4a65e7c80fe16b164d7520d5b5e57fe93ea1c7ab1c22afe4f92de6ded917d", func := "broadside/broadsidelaw12.RouteAbove", spec := "routeAbove", inPlace := ["slices.overlaps[broadside/api.Advert]", "slices.overlaps[broadside/api.ID]", "slices.overlaps[broadside/api.Own]", "internal/bytealg.abigen_runtime_cmpstring", "slices.overlaps[broadside/api.Constraint]", "slices.overlaps[broadside/api.Entry]"], unfollowed := true, recurses := true, plainKeys := false, apart := false, narrowed := true }
def RouteAboveUptoSaid : Prop := routeAboveUptoRow.holds Tryz.pinned (OpenSpec.upto routeAboveSpec)

/-- 'broadsidelaw12.RouteBack', WHERE WHAT IT READS IS OF BULK AT MOST 1048576: true; the input reads as it did. -/
def routeBackUptoRow : OpenClaim := { program := "ytghlpefopidlaaagreat", sum := "81a4a65e7c80fe16b164d7520d5b5e57fe93ea1c7ab1c22afe4f92de6ded917d", func := "broadside/broadsidelaw12.RouteBack", spec := "routeBack", inPlace := ["slices.overlaps[broadside/api.Own]", "internal/bytealg.abigen_runtime_cmpstring", "slices.overlaps[broadside/api.Constraint]", "slices.overlaps[broadside/api.Entry]", "slices.overlaps[broadside/api.Advert]", "slices.overlaps[broadside/api.ID]"], unfollowed := true, recurses := true, plainKeys := false, apart := false, narrowed := true }
def RouteBackUptoSaid : Prop := routeBackUptoRow.holds Tryz.pinned (OpenSpec.upto routeBackSpec)

/-- 'broadsidelaw12.RouteWide', WHERE WHAT IT READS IS OF BULK AT MOST 1048576: true; the input reads as it did. -/
def routeWideUptoRow : OpenClaim := { program := "ytghlpefopidlaaagreat", sum := "81a4a65e7c80fe16b164d7520d5b5e57fe93ea1c7ab1c22afe4f92de6ded917d", func := "broadside/broadsidelaw12.RouteWide", spec := "routeWide", inPlace := ["slices.overlaps[broadside/api.Advert]", "slices.overlaps[broadside/api.ID]", "slices.overlaps[broadside/api.Own]", "internal/bytealg.abigen_runtime_cmpstring", "slices.overlaps[broadside/api.Constraint]", "slices.overlaps[broadside/api.Entry]"], unfollowed := true, recurses := true, plainKeys := false, apart := false, narrowed := true }
def RouteWideUptoSaid : Prop := routeWideUptoRow.holds Tryz.pinned (OpenSpec.upto routeWideSpec)

end Rows
end Go.Proofs.YtghlpefopidlaaaGreat
