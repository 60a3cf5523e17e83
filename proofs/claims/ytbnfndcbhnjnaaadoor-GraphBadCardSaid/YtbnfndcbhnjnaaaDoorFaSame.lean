/-
  Same of two lists of texts that hold the same texts: true. Condition: both have the same length, from 1 to 1048576.
-/
import Derived.Test.YtbnfndcbhnjnaaaDoorFaRead
import Derived.Deep.QuietTactic
import Derived.BigQuiet
namespace Go.Proofs.YtbnfndcbhnjnaaaDoor.Fa
open Go.RowKit Go.Extern.Stop Go.Stop Go.Extern

theorem lt_of_cell {w : World} {b i : Nat} {x : Value} (h : w.cell? ⟨b, i, none⟩ = some x) : b < w.heap.size := by
  rcases Nat.lt_or_ge b w.heap.size with h0 | h0
  · exact h0
  · simp [World.cell?, Array.getElem?_eq_none h0] at h

set_option maxRecDepth 100000 in
set_option maxHeartbeats 4000000 in
theorem Same_true (xs : List ByteArray) (ga gb ca cb : Nat) (w : World) (hlen : xs.length ≤ 1048576)
    (ha : ∀ j (h : j < xs.length), w.cell? ⟨ga, j, none⟩ = some (.string xs[j])) (hb : ∀ j (h : j < xs.length), w.cell? ⟨gb, j, none⟩ = some (.string xs[j])) :
    Calls Tryd.prog 22 #[.slice (some ⟨ga, 0, none⟩) xs.length ca, .slice (some ⟨gb, 0, none⟩) xs.length cb] w fun e w' => e = .returned (.bool true) ∧ Below w.heap.size w w' := by
  have HA := Lib.hid ha
  have HB := Lib.hid hb
  clear ha hb
  go_enter Tryd.func22, Tryd.ntmps22
  go_wp2
  go_loopg [5] xs.length (fun n i wr => ∃ k : Nat, n = xs.length - k ∧ k ≤ xs.length ∧ i = .int .i64 k ∧ Below w.heap.size w wr)
  case atStart => exact ⟨0, rfl, Nat.zero_le _, rfl, Below.refl _ _⟩
  case round =>
    obtain ⟨k, hn, hk, rfl, hbel⟩ := hrel
    have BE := Lib.hid hbel
    have HN := Lib.hid hn
    clear hbel hn
    by_cases hlt : k < xs.length
    · have ea := HA.out k hlt
      have eb := HB.out k hlt
      have ca1 : wr.cell? ⟨ga, k, none⟩ = some (.string xs[k]) := by rw [BE.out.cell (p := ⟨ga, k, none⟩) (lt_of_cell ea)]; exact ea
      have cb1 : wr.cell? ⟨gb, k, none⟩ = some (.string xs[k]) := by rw [BE.out.cell (p := ⟨gb, k, none⟩) (lt_of_cell eb)]; exact eb
      clear ea eb
      generalize xs[k] = x at ca1 cb1
      go_wp2
      go_quiet (fail)
      go_wp2
      go_roundg (xs.length - (k + 1))
      case measure => have := HN.out; omega
      case rel => exact ⟨k + 1, rfl, by omega, by go_num, by first | exact BE.out.drew | exact ⟨BE.out.os, BE.out.tape, BE.out.output, BE.out.size, BE.out.block⟩⟩
    · go_wp2
      go_ret
      exact ⟨rfl, BE.out⟩
end Go.Proofs.YtbnfndcbhnjnaaaDoor.Fa
