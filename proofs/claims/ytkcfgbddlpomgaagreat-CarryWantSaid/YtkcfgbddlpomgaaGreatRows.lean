/-
  No cell of these rows narrows 'for every input' (looked for: loops, veiled, ifaces, maps, wideKeys, modest, calm, conditions, laid).
  DERIVED. THE GIVEN ROWS OF THIS SEAT. 4 by the template 'for every input the law returns true; each argument reads behind the call as it read before'; 0 by the template 'total and deterministic' (their statements: YtkcfgbddlpomgaaGreatTotals.lean).
  GIVEN WITH THE SEED: the statements are not yours to turn. If you find one false, say at which input.
  Laid BY PROGRAM, IN A SANDBOX (cutbox-rows.mjs): the forced cells as the released guide's own fill.sh prints them over the translation 196268a93f469f42… (all of the seat's roots in one cut). By AI agents, Wed Nov 11 2026. No macro, syntax, notation, axiom, sorry.
-/
import Derived.Test.YtkcfgbddlpomgaaGreatChecked
import GoSem.Claim
import GoSem.ClaimJoined
import GoSem.ClaimMapViews
import Derived.JoinedTies
import Derived.KernelRfl
namespace Go.Proofs.YtkcfgbddlpomgaaGreat
/- THE CELL 'sum', in the pinned program and in every row, IS THE sha256 OF THE DUMP (.gsa) THAT YtkcfgbddlpomgaaGreatProg.lean LOADS. Nothing in Lean hashes anything: it is a label: what it is worth is what the hold of that sum in a sandbox is worth. -/
noncomputable def Tryz.pinned : Pinned := { name := "ytkcfgbddlpomgaagreat", sum := "196268a93f469f42616b3ab15bd156c8ffdf251d53ff144236b4e2b18fa8012d", checked := Tryz.checked }
namespace Rows
def none {H : Type} : Left H := { results := [], args := [] }

/-- 'broadsidelaw13.CarryTells': WHATEVER THE INPUT: true; the input reads as it did. -/
def carryTellsSpec : ChangeSpec := { name := "carryTells", fn := fun _ => fun
  | [d1, d2, d3, d4, d5] => { results := [.lit (.bool true)], args := [d1, d2, d3, d4, d5] }
  | _ => none }
def carryTellsRow : OpenClaim := { program := "ytkcfgbddlpomgaagreat", sum := "196268a93f469f42616b3ab15bd156c8ffdf251d53ff144236b4e2b18fa8012d", func := "broadside/broadsidelaw13.CarryTells", spec := "carryTells", inPlace := ["slices.overlaps[broadside/api.Advert]", "slices.overlaps[broadside/api.ID]", "slices.overlaps[broadside/api.Entry]"], unfollowed := true, recurses := true, apart := false }
def CarryTellsSaid : Prop := carryTellsRow.holds Tryz.pinned (OpenSpec.ofChange carryTellsSpec)

/-- ITS FALSE NEIGHBOUR: 'it returns false'. Refute it at one input. -/
def carryTellsWrong : ChangeSpec := { name := "carryTells", fn := fun _ => fun
  | [d1, d2, d3, d4, d5] => { results := [.lit (.bool false)], args := [d1, d2, d3, d4, d5] }
  | _ => none }
def CarryTellsWrongFalsely : Prop := carryTellsRow.holds Tryz.pinned (OpenSpec.ofChange carryTellsWrong)

/-- 'broadsidelaw13.CarryOnce': WHATEVER THE INPUT: true; the input reads as it did. -/
def carryOnceSpec : ChangeSpec := { name := "carryOnce", fn := fun _ => fun
  | [d1, d2, d3] => { results := [.lit (.bool true)], args := [d1, d2, d3] }
  | _ => none }
def carryOnceRow : OpenClaim := { program := "ytkcfgbddlpomgaagreat", sum := "196268a93f469f42616b3ab15bd156c8ffdf251d53ff144236b4e2b18fa8012d", func := "broadside/broadsidelaw13.CarryOnce", spec := "carryOnce", inPlace := ["slices.overlaps[broadside/api.Advert]", "slices.overlaps[broadside/api.ID]", "slices.overlaps[broadside/api.Entry]"], unfollowed := true, recurses := true, apart := false }
def CarryOnceSaid : Prop := carryOnceRow.holds Tryz.pinned (OpenSpec.ofChange carryOnceSpec)

/-- ITS FALSE NEIGHBOUR: 'it returns false'. Refute it at one input. -/
def carryOnceWrong : ChangeSpec := { name := "carryOnce", fn := fun _ => fun
  | [d1, d2, d3] => { results := [.lit (.bool false)], args := [d1, d2, d3] }
  | _ => none }
def CarryOnceWrongFalsely : Prop := carryOnceRow.holds Tryz.pinned (OpenSpec.ofChange carryOnceWrong)

/-- 'broadsidelaw13.CarryTrees': WHATEVER THE INPUT: true; the input reads as it did. -/
def carryTreesSpec : ChangeSpec := { name := "carryTrees", fn := fun _ => fun
  | [d1, d2, d3, d4] => { results := [.lit (.bool true)], args := [d1, d2, d3, d4] }
  | _ => none }
def carryTreesRow : OpenClaim := { program := "ytkcfgbddlpomgaagreat", sum := "196268a93f469f42616b3ab15bd156c8ffdf251d53ff144236b4e2b18fa8012d", func := "broadside/broadsidelaw13.CarryTrees", spec := "carryTrees", inPlace := ["slices.overlaps[broadside/api.Advert]", "slices.overlaps[broadside/api.ID]", "slices.overlaps[broadside/api.Entry]"], unfollowed := true, recurses := true, apart := false }
def CarryTreesSaid : Prop := carryTreesRow.holds Tryz.pinned (OpenSpec.ofChange carryTreesSpec)

/-- ITS FALSE NEIGHBOUR: 'it returns false'. Refute it at one input. -/
def carryTreesWrong : ChangeSpec := { name := "carryTrees", fn := fun _ => fun
  | [d1, d2, d3, d4] => { results := [.lit (.bool false)], args := [d1, d2, d3, d4] }
  | _ => none }
def CarryTreesWrongFalsely : Prop := carryTreesRow.holds Tryz.pinned (OpenSpec.ofChange carryTreesWrong)

/-- 'broadsidelaw13.CarryWant': WHATEVER THE INPUT: true; the input reads as it did. -/
def carryWantSpec : ChangeSpec := { name := "carryWant", fn := fun _ => fun
  | [d1, d2, d3, d4, d5] => { results := [.lit (.bool true)], args := [d1, d2, d3, d4, d5] }
  | _ => none }
def carryWantRow : OpenClaim := { program := "ytkcfgbddlpomgaagreat", sum := "196268a93f469f42616b3ab15bd156c8ffdf251d53ff144236b4e2b18fa8012d", func := "broadside/broadsidelaw13.CarryWant", spec := "carryWant", inPlace := ["slices.overlaps[broadside/api.Entry]", "slices.overlaps[broadside/api.Advert]", "slices.overlaps[broadside/api.ID]"], unfollowed := true, recurses := true, apart := false }
def CarryWantSaid : Prop := carryWantRow.holds Tryz.pinned (OpenSpec.ofChange carryWantSpec)

/-- ITS FALSE NEIGHBOUR: 'it returns false'. Refute it at one input. -/
def carryWantWrong : ChangeSpec := { name := "carryWant", fn := fun _ => fun
  | [d1, d2, d3, d4, d5] => { results := [.lit (.bool false)], args := [d1, d2, d3, d4, d5] }
  | _ => none }
def CarryWantWrongFalsely : Prop := carryWantRow.holds Tryz.pinned (OpenSpec.ofChange carryWantWrong)

/- THE SECOND FORM. 'bulk': how many values and letters a reading holds, each counted each time it is reached (what is shared counts as often as it is met; a slice's spare places count too). A statement '..UptoSaid' is the law's where the arguments, and the package variables that the reading takes, are together of bulk at most 1048576: NARROWER than '..Said'. Prove '..Said' where nothing that the law and all that it calls make is longer than what came in: it says more and counts as full. Else prove '..UptoSaid'. A law counts once. -/
mutual
def uptoBulk {H : Type} : DataW H → Nat
  | .lit (.string bytes) => bytes.length + 1
  | .lit _ => 1
  | .nil => 1
  | .ptr d => uptoBulk d + 1
  | .slice elems spare => uptoBulkAll elems + uptoBulkAll spare + 1
  | .agg parts => uptoBulkAll parts + 1
  | .iface _ d => uptoBulk d + 1
  | .map entries => uptoBulkEntries entries + 1
  | .held _ => 1
def uptoBulkAll {H : Type} : List (DataW H) → Nat
  | [] => 0
  | d :: r => uptoBulk d + uptoBulkAll r
def uptoBulkEntries {H : Type} : List (Lit × DataW H) → Nat
  | [] => 0
  | x :: r => uptoBulkEntry x + uptoBulkEntries r
def uptoBulkEntry {H : Type} : Lit × DataW H → Nat
  | (.string bytes, d) => bytes.length + uptoBulk d + 1
  | (_, d) => uptoBulk d + 1
 end
def uptoSmall : (H : Type) → List (DataW H) → Bool := fun _ ds => decide (uptoBulkAll ds ≤ 1048576)
def OpenSpec.upto (s : _root_.Go.ChangeSpec) : _root_.Go.OpenSpec := { _root_.Go.OpenSpec.ofChange s with cond := some uptoSmall }

/-- 'broadsidelaw13.CarryTells', WHERE WHAT IT READS IS OF BULK AT MOST 1048576: true; the input reads as it did. -/
def carryTellsUptoRow : OpenClaim := { program := "ytkcfgbddlpomgaagreat", sum := "196268a93f469f42616b3ab15bd156c8ffdf251d53ff144236b4e2b18fa8012d", func := "broadside/broadsidelaw13.CarryTells", spec := "carryTells", inPlace := ["slices.overlaps[broadside/api.Advert]", "slices.overlaps[broadside/api.ID]", "slices.overlaps[broadside/api.Entry]"], unfollowed := true, recurses := true, apart := false, narrowed := true }
def CarryTellsUptoSaid : Prop := carryTellsUptoRow.holds Tryz.pinned (OpenSpec.upto carryTellsSpec)

/-- 'broadsidelaw13.CarryOnce', WHERE WHAT IT READS IS OF BULK AT MOST 1048576: true; the input reads as it did. -/
def carryOnceUptoRow : OpenClaim := { program := "ytkcfgbddlpomgaagreat", sum := "196268a93f469f42616b3ab15bd156c8ffdf251d53ff144236b4e2b18fa8012d", func := "broadside/broadsidelaw13.CarryOnce", spec := "carryOnce", inPlace := ["slices.overlaps[broadside/api.Advert]", "slices.overlaps[broadside/api.ID]", "slices.overlaps[broadside/api.Entry]"], unfollowed := true, recurses := true, apart := false, narrowed := true }
def CarryOnceUptoSaid : Prop := carryOnceUptoRow.holds Tryz.pinned (OpenSpec.upto carryOnceSpec)

/-- 'broadsidelaw13.CarryTrees', WHERE WHAT IT READS IS OF BULK AT MOST 1048576: true; the input reads as it did. -/
def carryTreesUptoRow : OpenClaim := { program := "ytkcfgbddlpomgaagreat", sum := "196268a93f469f42616b3ab15bd156c8ffdf251d53ff144236b4e2b18fa8012d", func := "broadside/broadsidelaw13.CarryTrees", spec := "carryTrees", inPlace := ["slices.overlaps[broadside/api.Advert]", "slices.overlaps[broadside/api.ID]", "slices.overlaps[broadside/api.Entry]"], unfollowed := true, recurses := true, apart := false, narrowed := true }
def CarryTreesUptoSaid : Prop := carryTreesUptoRow.holds Tryz.pinned (OpenSpec.upto carryTreesSpec)

/-- 'broadsidelaw13.CarryWant', WHERE WHAT IT READS IS OF BULK AT MOST 1048576: true; the input reads as it did. -/
def carryWantUptoRow : OpenClaim := { program := "ytkcfgbddlpomgaagreat", sum := "196268a93f469f42616b3ab15bd156c8ffdf251d53ff144236b4e2b18fa8012d", func := "broadside/broadsidelaw13.CarryWant", spec := "carryWant", inPlace := ["slices.overlaps[broadside/api.Entry]", "slices.overlaps[broadside/api.Advert]", "slices.overlaps[broadside/api.ID]"], unfollowed := true, recurses := true, apart := false, narrowed := true }
def CarryWantUptoSaid : Prop := carryWantUptoRow.holds Tryz.pinned (OpenSpec.upto carryWantSpec)

end Rows
end Go.Proofs.YtkcfgbddlpomgaaGreat
