/-
  What Get of package tuple hands back; the contracts wanted of Get and Right. No condition.
  Holds of package pred: does a constraint allow a value. No condition.
-/
import Derived.Test.YtfcgfnmokbbcaaaDoorQ012
import Derived.Test.YtfcgfnmokbbcaaaDoorQ008
import Derived.Test.YtfcgfnmokbbcaaaDoorQ004
import Derived.Lib.Strings
import Derived.Lib.Hide
import Derived.Lib.QuietBelow
import Derived.BigQuiet
namespace Go.Proofs.YtfcgfnmokbbcaaaDoor.At
open Go.RowKit Go.Sort Go.Proofs.YtfcgfnmokbbcaaaDoor.Va Go.Proofs.YtfcgfnmokbbcaaaDoor.In

/-- What Get hands back. -/
def gotV : Option V3 → Value
  | some v => .tuple #[vl v.1 v.2.1 v.2.2, .bool true]
  | none => .tuple #[vl false 0 ⟨#[]⟩, .bool false]
/-- Sizes that every law keeps to. -/
def Small (l : List A4) : Prop := l.length ≤ 100 ∧ ∀ x ∈ l, x.1.size ≤ 100 ∧ x.2.2.2.size ≤ 100 ∧ -9223372036854775808 ≤ x.2.2.1 ∧ x.2.2.1 ≤ 9223372036854775807
def RightOk : Prop := ∀ (lv : Value) (l : List A4) (w : World), RowA w lv l → Small l →
  Calls Tryd.prog 39 #[lv] w fun e w' => e = .returned (.bool (rightT l)) ∧ Below w.heap.size w w'
end Go.Proofs.YtfcgfnmokbbcaaaDoor.At

namespace Go.Proofs.YtfcgfnmokbbcaaaDoor.Pr
open Go.RowKit Go.Sort Go.Proofs.YtfcgfnmokbbcaaaDoor Go.Proofs.YtfcgfnmokbbcaaaDoor.Pu Go.Proofs.YtfcgfnmokbbcaaaDoor.Rw Go.Proofs.YtfcgfnmokbbcaaaDoor.Va

theorem pfx_len (s u : ByteArray) (h : s.size = u.size) : pfx u s = (s.data.toList == u.data.toList) := by
  have hl : u.data.toList.length = s.data.toList.length := by rw [Array.length_toList, Array.length_toList]; exact h.symm
  rw [Bool.eq_iff_iff, beq_iff_eq, pfx_iff]
  exact ⟨fun h1 => (h1.eq_of_length hl).symm, fun h1 => by rw [h1]; exact List.prefix_refl _⟩
theorem size_not (s u : ByteArray) (h : ¬ s.size = u.size) : (s.data.toList == u.data.toList) = false := by
  rw [beq_eq_false_iff_ne]
  intro e
  have := congrArg List.length e
  rw [Array.length_toList, Array.length_toList] at this
  exact h this
theorem hB (w : World) (nm : ByteArray) (k lo hi : Int) (u : ByteArray) (t : Bool) (n : Int) (s : ByteArray) : Below w.heap.size w ((w.alloc (.cells #[.string nm, .int .i64 k, .int .i64 lo, .int .i64 hi, .string u] 57)).alloc (.cells #[.bool t, .int .i64 n, .string s] 59)) :=
  ((Below.refl w.heap.size w).alloc (Nat.le_refl _) _).alloc (by simp) _
end Go.Proofs.YtfcgfnmokbbcaaaDoor.Pr
