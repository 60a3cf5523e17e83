/-
  No cell of these rows narrows 'for every input' (looked for: loops, veiled, ifaces, maps, wideKeys, modest, calm, conditions, laid).
  DERIVED. THE GIVEN ROWS OF THIS SEAT. 5 by the template 'for every input the law returns true; each argument reads behind the call as it read before'; 0 by the template 'total and deterministic' (their statements: YtmklifheakemeaaGreatTotals.lean).
  GIVEN WITH THE SEED: the statements are not yours to turn. If you find one false, say at which input.
  Laid BY PROGRAM, IN A SANDBOX (cutbox-rows.mjs): the forced cells as the released guide's own fill.sh prints them over the translation 3b1692eec85f88c3… (all of the seat's roots in one cut). By AI agents, Wed Nov 11 2026. No macro, syntax, notation, axiom, sorry.
-/
import Derived.Test.YtmklifheakemeaaGreatChecked
import GoSem.Claim
import GoSem.ClaimJoined
import GoSem.ClaimMapViews
import Derived.JoinedTies
import Derived.KernelRfl
namespace Go.Proofs.YtmklifheakemeaaGreat
/- THE CELL 'sum', in the pinned program and in every row, IS THE sha256 OF THE DUMP (.gsa) THAT YtmklifheakemeaaGreatProg.lean LOADS. Nothing in Lean hashes anything: it is a label: what it is worth is what the hold of that sum in a sandbox is worth. -/
noncomputable def Tryz.pinned : Pinned := { name := "ytmklifheakemeaagreat", sum := "3b1692eec85f88c3a9740a2d5102810d9b833739dc069980ab6abe331bb23c57", checked := Tryz.checked }
namespace Rows
def none {H : Type} : Left H := { results := [], args := [] }

/-- 'broadsidelaw11.FloodRuns': WHATEVER THE INPUT: true; the input reads as it did. -/
def floodRunsSpec : ChangeSpec := { name := "floodRuns", fn := fun _ => fun
  | [] => { results := [.lit (.bool true)], args := [] }
  | _ => none }
def floodRunsRow : OpenClaim := { program := "ytmklifheakemeaagreat", sum := "3b1692eec85f88c3a9740a2d5102810d9b833739dc069980ab6abe331bb23c57", func := "broadside/broadsidelaw11.FloodRuns", spec := "floodRuns", inPlace := ["slices.overlaps[broadside/api.Advert]", "slices.overlaps[broadside/api.ID]", "internal/bytealg.abigen_runtime_cmpstring", "slices.overlaps[broadside/api.Constraint]", "slices.overlaps[broadside/api.Entry]"], unfollowed := true, recurses := true, apart := false }
def FloodRunsSaid : Prop := floodRunsRow.holds Tryz.pinned (OpenSpec.ofChange floodRunsSpec)

/-- ITS FALSE NEIGHBOUR: 'it returns false'. Refute it at one input. -/
def floodRunsWrong : ChangeSpec := { name := "floodRuns", fn := fun _ => fun
  | [] => { results := [.lit (.bool false)], args := [] }
  | _ => none }
def FloodRunsWrongFalsely : Prop := floodRunsRow.holds Tryz.pinned (OpenSpec.ofChange floodRunsWrong)

/-- 'broadsidelaw11.FloodTells': WHATEVER THE INPUT: true; the input reads as it did. -/
def floodTellsSpec : ChangeSpec := { name := "floodTells", fn := fun _ => fun
  | [d1, d2, d3, d4, d5, d6] => { results := [.lit (.bool true)], args := [d1, d2, d3, d4, d5, d6] }
  | _ => none }
def floodTellsRow : OpenClaim := { program := "ytmklifheakemeaagreat", sum := "3b1692eec85f88c3a9740a2d5102810d9b833739dc069980ab6abe331bb23c57", func := "broadside/broadsidelaw11.FloodTells", spec := "floodTells", inPlace := ["slices.overlaps[broadside/api.Advert]", "slices.overlaps[broadside/api.ID]", "internal/bytealg.abigen_runtime_cmpstring", "slices.overlaps[broadside/api.Constraint]", "slices.overlaps[broadside/api.Entry]"], unfollowed := true, recurses := true, apart := false }
def FloodTellsSaid : Prop := floodTellsRow.holds Tryz.pinned (OpenSpec.ofChange floodTellsSpec)

/-- ITS FALSE NEIGHBOUR: 'it returns false'. Refute it at one input. -/
def floodTellsWrong : ChangeSpec := { name := "floodTells", fn := fun _ => fun
  | [d1, d2, d3, d4, d5, d6] => { results := [.lit (.bool false)], args := [d1, d2, d3, d4, d5, d6] }
  | _ => none }
def FloodTellsWrongFalsely : Prop := floodTellsRow.holds Tryz.pinned (OpenSpec.ofChange floodTellsWrong)

/-- 'broadsidelaw11.FloodBack': WHATEVER THE INPUT: true; the input reads as it did. -/
def floodBackSpec : ChangeSpec := { name := "floodBack", fn := fun _ => fun
  | [d1, d2, d3] => { results := [.lit (.bool true)], args := [d1, d2, d3] }
  | _ => none }
def floodBackRow : OpenClaim := { program := "ytmklifheakemeaagreat", sum := "3b1692eec85f88c3a9740a2d5102810d9b833739dc069980ab6abe331bb23c57", func := "broadside/broadsidelaw11.FloodBack", spec := "floodBack", inPlace := ["slices.overlaps[broadside/api.Advert]", "slices.overlaps[broadside/api.ID]", "internal/bytealg.abigen_runtime_cmpstring", "slices.overlaps[broadside/api.Constraint]", "slices.overlaps[broadside/api.Entry]"], unfollowed := true, recurses := true, apart := false }
def FloodBackSaid : Prop := floodBackRow.holds Tryz.pinned (OpenSpec.ofChange floodBackSpec)

/-- ITS FALSE NEIGHBOUR: 'it returns false'. Refute it at one input. -/
def floodBackWrong : ChangeSpec := { name := "floodBack", fn := fun _ => fun
  | [d1, d2, d3] => { results := [.lit (.bool false)], args := [d1, d2, d3] }
  | _ => none }
def FloodBackWrongFalsely : Prop := floodBackRow.holds Tryz.pinned (OpenSpec.ofChange floodBackWrong)

/-- 'broadsidelaw11.FloodLate': WHATEVER THE INPUT: true; the input reads as it did. -/
def floodLateSpec : ChangeSpec := { name := "floodLate", fn := fun _ => fun
  | [d1, d2, d3] => { results := [.lit (.bool true)], args := [d1, d2, d3] }
  | _ => none }
def floodLateRow : OpenClaim := { program := "ytmklifheakemeaagreat", sum := "3b1692eec85f88c3a9740a2d5102810d9b833739dc069980ab6abe331bb23c57", func := "broadside/broadsidelaw11.FloodLate", spec := "floodLate", inPlace := ["slices.overlaps[broadside/api.Advert]", "slices.overlaps[broadside/api.ID]", "internal/bytealg.abigen_runtime_cmpstring", "slices.overlaps[broadside/api.Constraint]", "slices.overlaps[broadside/api.Entry]"], unfollowed := true, recurses := true, apart := false }
def FloodLateSaid : Prop := floodLateRow.holds Tryz.pinned (OpenSpec.ofChange floodLateSpec)

/-- ITS FALSE NEIGHBOUR: 'it returns false'. Refute it at one input. -/
def floodLateWrong : ChangeSpec := { name := "floodLate", fn := fun _ => fun
  | [d1, d2, d3] => { results := [.lit (.bool false)], args := [d1, d2, d3] }
  | _ => none }
def FloodLateWrongFalsely : Prop := floodLateRow.holds Tryz.pinned (OpenSpec.ofChange floodLateWrong)

/-- 'broadsidelaw11.FloodEnd': WHATEVER THE INPUT: true; the input reads as it did. -/
def floodEndSpec : ChangeSpec := { name := "floodEnd", fn := fun _ => fun
  | [d1, d2, d3] => { results := [.lit (.bool true)], args := [d1, d2, d3] }
  | _ => none }
def floodEndRow : OpenClaim := { program := "ytmklifheakemeaagreat", sum := "3b1692eec85f88c3a9740a2d5102810d9b833739dc069980ab6abe331bb23c57", func := "broadside/broadsidelaw11.FloodEnd", spec := "floodEnd", inPlace := ["slices.overlaps[broadside/api.Advert]", "slices.overlaps[broadside/api.ID]", "internal/bytealg.abigen_runtime_cmpstring", "slices.overlaps[broadside/api.Constraint]", "slices.overlaps[broadside/api.Entry]"], unfollowed := true, recurses := true, apart := false }
def FloodEndSaid : Prop := floodEndRow.holds Tryz.pinned (OpenSpec.ofChange floodEndSpec)

/-- ITS FALSE NEIGHBOUR: 'it returns false'. Refute it at one input. -/
def floodEndWrong : ChangeSpec := { name := "floodEnd", fn := fun _ => fun
  | [d1, d2, d3] => { results := [.lit (.bool false)], args := [d1, d2, d3] }
  | _ => none }
def FloodEndWrongFalsely : Prop := floodEndRow.holds Tryz.pinned (OpenSpec.ofChange floodEndWrong)

/- THE SECOND FORM. 'bulk': how many values and letters a reading holds, each counted each time it is reached (what is shared counts as often as it is met; a slice's spare places count too). A statement '..UptoSaid' is the law's where the arguments, and the package variables that the reading takes, are together of bulk at most 1048576: NARROWER than '..Said'. Prove '..Said' where nothing that the law and all that it calls make is longer than what came in: it says more and counts as full. Else prove '..UptoSaid'. A law counts once. -/
mutual
def uptoBulk {H : Type} : DataW H → Nat
  | .lit (.string bytes) => bytes.length + 1
  | .lit _ => 1
  | .nil => 1
  | .ptr d => uptoBulk d + 1
  | .slice elems spare => uptoBulkAll elems + uptoBulkAll spare + 1
  | .agg parts => uptoBulkAll parts + 1
  | .iface _ d => uptoBulk d + 1
  | .map entries => uptoBulkEntries entries + 1
  | .held _ => 1
def uptoBulkAll {H : Type} : List (DataW H) → Nat
  | [] => 0
  | d :: r => uptoBulk d + uptoBulkAll r
def uptoBulkEntries {H : Type} : List (Lit × DataW H) → Nat
  | [] => 0
  | x :: r => uptoBulkEntry x + uptoBulkEntries r
def uptoBulkEntry {H : Type} : Lit × DataW H → Nat
  | (.string bytes, d) => bytes.length + uptoBulk d + 1
  | (_, d) => uptoBulk d + 1
 end
def uptoSmall : (H : Type) → List (DataW H) → Bool := fun _ ds => decide (uptoBulkAll ds ≤ 1048576)
def OpenSpec.upto (s : _root_.Go.ChangeSpec) : _root_.Go.OpenSpec := { _root_.Go.OpenSpec.ofChange s with cond := some uptoSmall }

/-- 'broadsidelaw11.FloodRuns', WHERE WHAT IT READS IS OF BULK AT MOST 1048576: true; the input reads as it did. -/
def floodRunsUptoRow : OpenClaim := { program := "ytmklifheakemeaagreat", sum := "3b1692eec85f88c3a9740a2d5102810d9b833739dc069980ab6abe331bb23c57", func := "broadside/broadsidelaw11.FloodRuns", spec := "floodRuns", inPlace := ["slices.overlaps[broadside/api.Advert]", "slices.overlaps[broadside/api.ID]", "internal/bytealg.abigen_runtime_cmpstring", "slices.overlaps[broadside/api.Constraint]", "slices.overlaps[broadside/api.Entry]"], unfollowed := true, recurses := true, apart := false, narrowed := true }
def FloodRunsUptoSaid : Prop := floodRunsUptoRow.holds Tryz.pinned (OpenSpec.upto floodRunsSpec)

/-- 'broadsidelaw11.FloodTells', WHERE WHAT IT READS IS OF BULK AT MOST 1048576: true; the input reads as it did. -/
def floodTellsUptoRow : OpenClaim := { program := "ytmklifheakemeaagreat", sum := "3b1692eec85f88c3a9740a2d5102810d9b833739dc069980ab6abe331bb23c57", func := "broadside/broadsidelaw11.FloodTells", spec := "floodTells", inPlace := ["slices.overlaps[broadside/api.Advert]", "slices.overlaps[broadside/api.ID]", "internal/bytealg.abigen_runtime_cmpstring", "slices.overlaps[broadside/api.Constraint]", "slices.overlaps[broadside/api.Entry]"], unfollowed := true, recurses := true, apart := false, narrowed := true }
def FloodTellsUptoSaid : Prop := floodTellsUptoRow.holds Tryz.pinned (OpenSpec.upto floodTellsSpec)

/-- 'broadsidelaw11.FloodBack', WHERE WHAT IT READS IS OF BULK AT MOST 1048576: true; the input reads as it did. -/
def floodBackUptoRow : OpenClaim := { program := "ytmklifheakemeaagreat", sum := "3b1692eec85f88c3a9740a2d5102810d9b833739dc069980ab6abe331bb23c57", func := "broadside/broadsidelaw11.FloodBack", spec := "floodBack", inPlace := ["slices.overlaps[broadside/api.Advert]", "slices.overlaps[broadside/api.ID]", "internal/bytealg.abigen_runtime_cmpstring", "slices.overlaps[broadside/api.Constraint]", "slices.overlaps[broadside/api.Entry]"], unfollowed := true, recurses := true, apart := false, narrowed := true }
def FloodBackUptoSaid : Prop := floodBackUptoRow.holds Tryz.pinned (OpenSpec.upto floodBackSpec)

/-- 'broadsidelaw11.FloodLate', WHERE WHAT IT READS IS OF BULK AT MOST 1048576: true; the input reads as it did. -/
def floodLateUptoRow : OpenClaim := { program := "ytmklifheakemeaagreat", sum := "3b1692eec85f88c3a9740a2d5102810d9b833739dc069980ab6abe331bb23c57", func := "broadside/broadsidelaw11.FloodLate", spec := "floodLate", inPlace := ["slices.overlaps[broadside/api.Advert]", "slices.overlaps[broadside/api.ID]", "internal/bytealg.abigen_runtime_cmpstring", "slices.overlaps[broadside/api.Constraint]", "slices.overlaps[broadside/api.Entry]"], unfollowed := true, recurses := true, apart := false, narrowed := true }
def FloodLateUptoSaid : Prop := floodLateUptoRow.holds Tryz.pinned (OpenSpec.upto floodLateSpec)

/-- 'broadsidelaw11.FloodEnd', WHERE WHAT IT READS IS OF BULK AT MOST 1048576: true; the input reads as it did. -/
def floodEndUptoRow : OpenClaim := { program := "ytmklifheakemeaagreat", sum := "3b1692eec85f88c3a9740a2d5102810d9b833739dc069980ab6abe331bb23c57", func := "broadside/broadsidelaw11.FloodEnd", spec := "floodEnd", inPlace := ["slices.overlaps[broadside/api.Advert]", "slices.overlaps[broadside/api.ID]", "internal/bytealg.abigen_runtime_cmpstring", "slices.overlaps[broadside/api.Constraint]", "slices.overlaps[broadside/api.Entry]"], unfollowed := true, recurses := true, apart := false, narrowed := true }
def FloodEndUptoSaid : Prop := floodEndUptoRow.holds Tryz.pinned (OpenSpec.upto floodEndSpec)

end Rows
end Go.Proofs.YtmklifheakemeaaGreat
