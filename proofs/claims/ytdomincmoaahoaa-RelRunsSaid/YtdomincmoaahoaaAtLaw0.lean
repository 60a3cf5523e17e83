/-
  What Get of package tuple hands back; the contracts wanted of Get and Right. No condition.
-/
import Derived.Test.YtdomincmoaahoaaAtSpec
namespace Go.Proofs.Ytdomincmoaahoaa.At
open Go.RowKit Go.Sort Go.Proofs.Ytdomincmoaahoaa.Va Go.Proofs.Ytdomincmoaahoaa.In

/-- What Get hands back. -/
def gotV : Option V3 → Value
  | some v => .tuple #[vl v.1 v.2.1 v.2.2, .bool true]
  | none => .tuple #[vl false 0 ⟨#[]⟩, .bool false]
/-- Sizes that every law keeps to. -/
def Small (l : List A4) : Prop := l.length ≤ 100 ∧ ∀ x ∈ l, x.1.size ≤ 100 ∧ x.2.2.2.size ≤ 100 ∧ -9223372036854775808 ≤ x.2.2.1 ∧ x.2.2.1 ≤ 9223372036854775807
def GetOk : Prop := ∀ (lv : Value) (l : List A4) (n : ByteArray) (w : World), RowA w lv l → l.length ≤ 100 → n.size ≤ maxLen →
  Calls Try.prog 31 #[lv, .string n] w fun e w' => e = .returned (gotV (getA l n)) ∧ Below w.heap.size w w'
def RightOk : Prop := ∀ (lv : Value) (l : List A4) (w : World), RowA w lv l → Small l →
  Calls Try.prog 20 #[lv] w fun e w' => e = .returned (.bool (rightT l)) ∧ Below w.heap.size w w'
end Go.Proofs.Ytdomincmoaahoaa.At
