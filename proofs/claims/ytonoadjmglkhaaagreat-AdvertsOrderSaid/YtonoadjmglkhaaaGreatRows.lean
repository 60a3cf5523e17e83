/-
  No cell of these rows narrows 'for every input' (looked for: loops, veiled, ifaces, maps, wideKeys, modest, calm, conditions, laid).
  DERIVED. THE GIVEN ROWS OF THIS SEAT. 3 by the template 'for every input the law returns true; each argument reads behind the call as it read before'; 0 by the template 'total and deterministic' (their statements: YtonoadjmglkhaaaGreatTotals.lean).
  GIVEN WITH THE SEED: the statements are not yours to turn. If you find one false, say at which input.
  Laid BY PROGRAM, IN A SANDBOX (cutbox-rows.mjs): the forced cells as the released guide's own fill.sh prints them over the translation f7c279de25fff10b… (all of the seat's roots in one cut). By AI agents, Wed Nov 11 2026. No macro, syntax, notation, axiom, sorry.
-/
import Derived.Test.YtonoadjmglkhaaaGreatChecked
import GoSem.Claim
import GoSem.ClaimJoined
import GoSem.ClaimMapViews
import Derived.JoinedTies
import Derived.KernelRfl
namespace Go.Proofs.YtonoadjmglkhaaaGreat
/- THE CELL 'sum', in the pinned program and in every row, IS THE sha256 OF THE DUMP (.gsa) THAT YtonoadjmglkhaaaGreatProg.lean LOADS. Nothing in Lean hashes anything: it is a label: what it is worth is what the hold of that sum in a sandbox is worth. -/
noncomputable def Tryz.pinned : Pinned := { name := "ytonoadjmglkhaaagreat", sum := "f7c279de25fff10bd07a2ebbfc57644f7042b373f3f32c267e6a2a5d71a12f7a", checked := Tryz.checked }
namespace Rows
def none {H : Type} : Left H := { results := [], args := [] }

/-- 'broadsidelaw9.AdvertsPlays': WHATEVER THE INPUT: true; the input reads as it did. -/
def advertsPlaysSpec : ChangeSpec := { name := "advertsPlays", fn := fun _ => fun
  | [d] => { results := [.lit (.bool true)], args := [d] }
  | _ => none }
def advertsPlaysRow : OpenClaim := { program := "ytonoadjmglkhaaagreat", sum := "f7c279de25fff10bd07a2ebbfc57644f7042b373f3f32c267e6a2a5d71a12f7a", func := "broadside/broadsidelaw9.AdvertsPlays", spec := "advertsPlays", inPlace := ["slices.overlaps[broadside/api.Advert]", "slices.overlaps[broadside/api.ID]"], unfollowed := true, recurses := true, plainKeys := false, apart := false }
def AdvertsPlaysSaid : Prop := advertsPlaysRow.holds Tryz.pinned (OpenSpec.ofChange advertsPlaysSpec)

/-- ITS FALSE NEIGHBOUR: 'it returns false'. Refute it at one input. -/
def advertsPlaysWrong : ChangeSpec := { name := "advertsPlays", fn := fun _ => fun
  | [d] => { results := [.lit (.bool false)], args := [d] }
  | _ => none }
def AdvertsPlaysWrongFalsely : Prop := advertsPlaysRow.holds Tryz.pinned (OpenSpec.ofChange advertsPlaysWrong)

/-- 'broadsidelaw9.AdvertsWrong': WHATEVER THE INPUT: true; the input reads as it did. -/
def advertsWrongSpec : ChangeSpec := { name := "advertsWrong", fn := fun _ => fun
  | [d1, d2] => { results := [.lit (.bool true)], args := [d1, d2] }
  | _ => none }
def advertsWrongRow : OpenClaim := { program := "ytonoadjmglkhaaagreat", sum := "f7c279de25fff10bd07a2ebbfc57644f7042b373f3f32c267e6a2a5d71a12f7a", func := "broadside/broadsidelaw9.AdvertsWrong", spec := "advertsWrong", inPlace := ["slices.overlaps[broadside/api.Advert]", "slices.overlaps[broadside/api.ID]"], unfollowed := true, recurses := true, plainKeys := false, apart := false }
def AdvertsWrongSaid : Prop := advertsWrongRow.holds Tryz.pinned (OpenSpec.ofChange advertsWrongSpec)

/-- ITS FALSE NEIGHBOUR: 'it returns false'. Refute it at one input. -/
def advertsWrongWrong : ChangeSpec := { name := "advertsWrong", fn := fun _ => fun
  | [d1, d2] => { results := [.lit (.bool false)], args := [d1, d2] }
  | _ => none }
def AdvertsWrongWrongFalsely : Prop := advertsWrongRow.holds Tryz.pinned (OpenSpec.ofChange advertsWrongWrong)

/-- 'broadsidelaw9.AdvertsOrder': WHATEVER THE INPUT: true; the input reads as it did. -/
def advertsOrderSpec : ChangeSpec := { name := "advertsOrder", fn := fun _ => fun
  | [d1, d2, d3, d4] => { results := [.lit (.bool true)], args := [d1, d2, d3, d4] }
  | _ => none }
def advertsOrderRow : OpenClaim := { program := "ytonoadjmglkhaaagreat", sum := "f7c279de25fff10bd07a2ebbfc57644f7042b373f3f32c267e6a2a5d71a12f7a", func := "broadside/broadsidelaw9.AdvertsOrder", spec := "advertsOrder", inPlace := ["slices.overlaps[broadside/api.Advert]", "slices.overlaps[broadside/api.ID]"], unfollowed := true, recurses := true, plainKeys := false, apart := false }
def AdvertsOrderSaid : Prop := advertsOrderRow.holds Tryz.pinned (OpenSpec.ofChange advertsOrderSpec)

/-- ITS FALSE NEIGHBOUR: 'it returns false'. Refute it at one input. -/
def advertsOrderWrong : ChangeSpec := { name := "advertsOrder", fn := fun _ => fun
  | [d1, d2, d3, d4] => { results := [.lit (.bool false)], args := [d1, d2, d3, d4] }
  | _ => none }
def AdvertsOrderWrongFalsely : Prop := advertsOrderRow.holds Tryz.pinned (OpenSpec.ofChange advertsOrderWrong)

/- THE SECOND FORM. 'bulk': how many values and letters a reading holds, each counted each time it is reached (what is shared counts as often as it is met; a slice's spare places count too). A statement '..UptoSaid' is the law's where the arguments, and the package variables that the reading takes, are together of bulk at most 1048576: NARROWER than '..Said'. Prove '..Said' where nothing that the law and all that it calls make is longer than what came in: it says more and counts as full. Else prove '..UptoSaid'. A law counts once. -/
mutual
def uptoBulk {H : Type} : DataW H → Nat
  | .lit (.string bytes) => bytes.length + 1
  | .lit _ => 1
  | .nil => 1
  | .ptr d => uptoBulk d + 1
  | .slice elems spare => uptoBulkAll elems + uptoBulkAll spare + 1
  | .agg parts => uptoBulkAll parts + 1
  | .iface _ d => uptoBulk d + 1
  | .map entries => uptoBulkEntries entries + 1
  | .held _ => 1
def uptoBulkAll {H : Type} : List (DataW H) → Nat
  | [] => 0
  | d :: r => uptoBulk d + uptoBulkAll r
def uptoBulkEntries {H : Type} : List (Lit × DataW H) → Nat
  | [] => 0
  | x :: r => uptoBulkEntry x + uptoBulkEntries r
def uptoBulkEntry {H : Type} : Lit × DataW H → Nat
  | (.string bytes, d) => bytes.length + uptoBulk d + 1
  | (_, d) => uptoBulk d + 1
 end
def uptoSmall : (H : Type) → List (DataW H) → Bool := fun _ ds => decide (uptoBulkAll ds ≤ 1048576)
def OpenSpec.upto (s : _root_.Go.ChangeSpec) : _root_.Go.OpenSpec := { _root_.Go.OpenSpec.ofChange s with cond := some uptoSmall }

/-- 'broadsidelaw9.AdvertsPlays', WHERE WHAT IT READS IS OF BULK AT MOST 1048576: true; the input reads as it did. -/
def advertsPlaysUptoRow : OpenClaim := { program := "ytonoadjmglkhaaagreat", sum := "f7c279de25fff10bd07a2ebbfc57644f7042b373f3f32c267e6a2a5d71a12f7a", func := "broadside/broadsidelaw9.AdvertsPlays", spec := "advertsPlays", inPlace := ["slices.overlaps[broadside/api.Advert]", "slices.overlaps[broadside/api.ID]"], unfollowed := true, recurses := true, plainKeys := false, apart := false, narrowed := true }
def AdvertsPlaysUptoSaid : Prop := advertsPlaysUptoRow.holds Tryz.pinned (OpenSpec.upto advertsPlaysSpec)

/-- 'broadsidelaw9.AdvertsWrong', WHERE WHAT IT READS IS OF BULK AT MOST 1048576: true; the input reads as it did. -/
def advertsWrongUptoRow : OpenClaim := { program := "ytonoadjmglkhaaagreat", sum := "f7c279de25fff10bd07a2ebbfc57644f7042b373f3f32c267e6a2a5d71a12f7a", func := "broadside/broadsidelaw9.AdvertsWrong", spec := "advertsWrong", inPlace := ["slices.overlaps[broadside/api.Advert]", "slices.overlaps[broadside/api.ID]"], unfollowed := true, recurses := true, plainKeys := false, apart := false, narrowed := true }
def AdvertsWrongUptoSaid : Prop := advertsWrongUptoRow.holds Tryz.pinned (OpenSpec.upto advertsWrongSpec)

/-- 'broadsidelaw9.AdvertsOrder', WHERE WHAT IT READS IS OF BULK AT MOST 1048576: true; the input reads as it did. -/
def advertsOrderUptoRow : OpenClaim := { program := "ytonoadjmglkhaaagreat", sum := "f7c279de25fff10bd07a2ebbfc57644f7042b373f3f32c267e6a2a5d71a12f7a", func := "broadside/broadsidelaw9.AdvertsOrder", spec := "advertsOrder", inPlace := ["slices.overlaps[broadside/api.Advert]", "slices.overlaps[broadside/api.ID]"], unfollowed := true, recurses := true, plainKeys := false, apart := false, narrowed := true }
def AdvertsOrderUptoSaid : Prop := advertsOrderUptoRow.holds Tryz.pinned (OpenSpec.upto advertsOrderSpec)

end Rows
end Go.Proofs.YtonoadjmglkhaaaGreat
