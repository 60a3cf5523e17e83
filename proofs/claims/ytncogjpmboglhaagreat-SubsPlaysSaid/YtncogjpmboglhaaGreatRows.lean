/-
  No cell of these rows narrows 'for every input' (looked for: loops, veiled, ifaces, maps, wideKeys, modest, calm, conditions, laid).
  DERIVED. THE GIVEN ROWS OF THIS SEAT. 3 by the template 'for every input the law returns true; each argument reads behind the call as it read before'; 0 by the template 'total and deterministic' (their statements: YtncogjpmboglhaaGreatTotals.lean).
  GIVEN WITH THE SEED: the statements are not yours to turn. If you find one false, say at which input.
  Laid BY PROGRAM, IN A SANDBOX (cutbox-rows.mjs): the forced cells as the released guide's own fill.sh prints them over the translation fb00a2894e488e44… (all of the seat's roots in one cut). By AI agents, Wed Nov 11 2026. No macro, syntax, notation, axiom, sorry.
-/
import Derived.Test.YtncogjpmboglhaaGreatChecked
import GoSem.Claim
import GoSem.ClaimJoined
import GoSem.ClaimMapViews
import Derived.JoinedTies
import Derived.KernelRfl
namespace Go.Proofs.YtncogjpmboglhaaGreat
/- THE CELL 'sum', in the pinned program and in every row, IS THE sha256 OF THE DUMP (.gsa) THAT YtncogjpmboglhaaGreatProg.lean LOADS. Nothing in Lean hashes anything: it is a label: what it is worth is what the hold of that sum in a sandbox is worth. -/
noncomputable def Tryz.pinned : Pinned := { name := "ytncogjpmboglhaagreat", sum := "fb00a2894e488e4440657c9b030c9edf2db8c82b6c2e3c8258ec2ea9750b6828", checked := Tryz.checked }
namespace Rows
def none {H : Type} : Left H := { results := [], args := [] }

/-- 'broadsidelaw9.AdvertsWrong': WHATEVER THE INPUT: true; the input reads as it did. -/
def advertsWrongSpec : ChangeSpec := { name := "advertsWrong", fn := fun _ => fun
  | [d1, d2] => { results := [.lit (.bool true)], args := [d1, d2] }
  | _ => none }
def advertsWrongRow : OpenClaim := { program := "ytncogjpmboglhaagreat", sum := "fb00a2894e488e4440657c9b030c9edf2db8c82b6c2e3c8258ec2ea9750b6828", func := "broadside/broadsidelaw9.AdvertsWrong", spec := "advertsWrong", inPlace := ["slices.overlaps[broadside/api.Advert]", "slices.overlaps[broadside/api.ID]"], unfollowed := true, recurses := true, apart := false }
def AdvertsWrongSaid : Prop := advertsWrongRow.holds Tryz.pinned (OpenSpec.ofChange advertsWrongSpec)

/-- ITS FALSE NEIGHBOUR: 'it returns false'. Refute it at one input. -/
def advertsWrongWrong : ChangeSpec := { name := "advertsWrong", fn := fun _ => fun
  | [d1, d2] => { results := [.lit (.bool false)], args := [d1, d2] }
  | _ => none }
def AdvertsWrongWrongFalsely : Prop := advertsWrongRow.holds Tryz.pinned (OpenSpec.ofChange advertsWrongWrong)

/-- 'broadsidelaw10.SubsPlays': WHATEVER THE INPUT: true; the input reads as it did. -/
def subsPlaysSpec : ChangeSpec := { name := "subsPlays", fn := fun _ => fun
  | [d] => { results := [.lit (.bool true)], args := [d] }
  | _ => none }
def subsPlaysRow : OpenClaim := { program := "ytncogjpmboglhaagreat", sum := "fb00a2894e488e4440657c9b030c9edf2db8c82b6c2e3c8258ec2ea9750b6828", func := "broadside/broadsidelaw10.SubsPlays", spec := "subsPlays", inPlace := ["slices.overlaps[broadside/api.Entry]", "slices.overlaps[broadside/api.Advert]", "slices.overlaps[broadside/api.ID]"], unfollowed := true, recurses := true, apart := false }
def SubsPlaysSaid : Prop := subsPlaysRow.holds Tryz.pinned (OpenSpec.ofChange subsPlaysSpec)

/-- ITS FALSE NEIGHBOUR: 'it returns false'. Refute it at one input. -/
def subsPlaysWrong : ChangeSpec := { name := "subsPlays", fn := fun _ => fun
  | [d] => { results := [.lit (.bool false)], args := [d] }
  | _ => none }
def SubsPlaysWrongFalsely : Prop := subsPlaysRow.holds Tryz.pinned (OpenSpec.ofChange subsPlaysWrong)

/-- 'broadsidelaw10.SubsFrom': WHATEVER THE INPUT: true; the input reads as it did. -/
def subsFromSpec : ChangeSpec := { name := "subsFrom", fn := fun _ => fun
  | [d1, d2, d3, d4, d5] => { results := [.lit (.bool true)], args := [d1, d2, d3, d4, d5] }
  | _ => none }
def subsFromRow : OpenClaim := { program := "ytncogjpmboglhaagreat", sum := "fb00a2894e488e4440657c9b030c9edf2db8c82b6c2e3c8258ec2ea9750b6828", func := "broadside/broadsidelaw10.SubsFrom", spec := "subsFrom", inPlace := ["slices.overlaps[broadside/api.Entry]", "slices.overlaps[broadside/api.Advert]", "slices.overlaps[broadside/api.ID]"], unfollowed := true, recurses := true, apart := false }
def SubsFromSaid : Prop := subsFromRow.holds Tryz.pinned (OpenSpec.ofChange subsFromSpec)

/-- ITS FALSE NEIGHBOUR: 'it returns false'. Refute it at one input. -/
def subsFromWrong : ChangeSpec := { name := "subsFrom", fn := fun _ => fun
  | [d1, d2, d3, d4, d5] => { results := [.lit (.bool false)], args := [d1, d2, d3, d4, d5] }
  | _ => none }
def SubsFromWrongFalsely : Prop := subsFromRow.holds Tryz.pinned (OpenSpec.ofChange subsFromWrong)

/- THE SECOND FORM. 'bulk': how many values and letters a reading holds, each counted each time it is reached (what is shared counts as often as it is met; a slice's spare places count too). A statement '..UptoSaid' is the law's where the arguments, and the package variables that the reading takes, are together of bulk at most 1048576: NARROWER than '..Said'. Prove '..Said' where nothing that the law and all that it calls make is longer than what came in: it says more and counts as full. Else prove '..UptoSaid'. A law counts once. -/
mutual
def uptoBulk {H : Type} : DataW H → Nat
  | .lit (.string bytes) => bytes.length + 1
  | .lit _ => 1
  | .nil => 1
  | .ptr d => uptoBulk d + 1
  | .slice elems spare => uptoBulkAll elems + uptoBulkAll spare + 1
  | .agg parts => uptoBulkAll parts + 1
  | .iface _ d => uptoBulk d + 1
  | .map entries => uptoBulkEntries entries + 1
  | .held _ => 1
def uptoBulkAll {H : Type} : List (DataW H) → Nat
  | [] => 0
  | d :: r => uptoBulk d + uptoBulkAll r
def uptoBulkEntries {H : Type} : List (Lit × DataW H) → Nat
  | [] => 0
  | x :: r => uptoBulkEntry x + uptoBulkEntries r
def uptoBulkEntry {H : Type} : Lit × DataW H → Nat
  | (.string bytes, d) => bytes.length + uptoBulk d + 1
  | (_, d) => uptoBulk d + 1
 end
def uptoSmall : (H : Type) → List (DataW H) → Bool := fun _ ds => decide (uptoBulkAll ds ≤ 1048576)
def OpenSpec.upto (s : _root_.Go.ChangeSpec) : _root_.Go.OpenSpec := { _root_.Go.OpenSpec.ofChange s with cond := some uptoSmall }

/-- 'broadsidelaw9.AdvertsWrong', WHERE WHAT IT READS IS OF BULK AT MOST 1048576: true; the input reads as it did. -/
def advertsWrongUptoRow : OpenClaim := { program := "ytncogjpmboglhaagreat", sum := "fb00a2894e488e4440657c9b030c9edf2db8c82b6c2e3c8258ec2ea9750b6828", func := "broadside/broadsidelaw9.AdvertsWrong", spec := "advertsWrong", inPlace := ["slices.overlaps[broadside/api.Advert]", "slices.overlaps[broadside/api.ID]"], unfollowed := true, recurses := true, apart := false, narrowed := true }
def AdvertsWrongUptoSaid : Prop := advertsWrongUptoRow.holds Tryz.pinned (OpenSpec.upto advertsWrongSpec)

/-- 'broadsidelaw10.SubsPlays', WHERE WHAT IT READS IS OF BULK AT MOST 1048576: true; the input reads as it did. -/
def subsPlaysUptoRow : OpenClaim := { program := "ytncogjpmboglhaagreat", sum := "fb00a2894e488e4440657c9b030c9edf2db8c82b6c2e3c8258ec2ea9750b6828", func := "broadside/broadsidelaw10.SubsPlays", spec := "subsPlays", inPlace := ["slices.overlaps[broadside/api.Entry]", "slices.overlaps[broadside/api.Advert]", "slices.overlaps[broadside/api.ID]"], unfollowed := true, recurses := true, apart := false, narrowed := true }
def SubsPlaysUptoSaid : Prop := subsPlaysUptoRow.holds Tryz.pinned (OpenSpec.upto subsPlaysSpec)

/-- 'broadsidelaw10.SubsFrom', WHERE WHAT IT READS IS OF BULK AT MOST 1048576: true; the input reads as it did. -/
def subsFromUptoRow : OpenClaim := { program := "ytncogjpmboglhaagreat", sum := "fb00a2894e488e4440657c9b030c9edf2db8c82b6c2e3c8258ec2ea9750b6828", func := "broadside/broadsidelaw10.SubsFrom", spec := "subsFrom", inPlace := ["slices.overlaps[broadside/api.Entry]", "slices.overlaps[broadside/api.Advert]", "slices.overlaps[broadside/api.ID]"], unfollowed := true, recurses := true, apart := false, narrowed := true }
def SubsFromUptoSaid : Prop := subsFromUptoRow.holds Tryz.pinned (OpenSpec.upto subsFromSpec)

end Rows
end Go.Proofs.YtncogjpmboglhaaGreat
