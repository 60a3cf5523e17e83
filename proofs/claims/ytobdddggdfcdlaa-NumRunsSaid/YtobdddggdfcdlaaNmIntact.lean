/-
  Intact of the statements' own package, where all is there still: bytes, numbers. Condition: lists of at most 10000.
-/
import Derived.Test.YtobdddggdfcdlaaNmRoomy
namespace Go.Proofs.Ytobdddggdfcdlaa.Nm
open Go.RowKit Go.Proofs.Ytobdddggdfcdlaa Go.Proofs.Ytobdddggdfcdlaa.Rw

set_option maxRecDepth 100000 in
set_option maxHeartbeats 8000000 in
theorem intactB (a : Addr) (cap : Nat) (wv : Value) (l : List UInt8) (x : UInt8) (w : World) (hf : RowB w (.slice (some a) (l.length + 80) cap) (l ++ List.replicate 80 x)) (hw : RowB w wv l) (hl : l.length ≤ 10000) :
    Calls Try.prog 23 #[.slice (some a) (l.length + 80) cap, wv, (.int .u8 x.toNat)] w fun e w' => e = .returned (.bool true) ∧ Below w.heap.size w w' := by
  have hlen : (l ++ List.replicate 80 x).length = l.length + 80 := by rw [List.length_append, List.length_replicate]
  have HF := Lib.hid hf
  have HW := Lib.hid hw
  obtain ⟨wo, wc, rfl⟩ := hw.len
  obtain ⟨v, sl, hv⟩ := row_lo okB hf l.length (by omega)
  rw [List.take_left] at hv
  have S := Lib.hid (show Calls Try.prog 10 #[v, .slice wo l.length wc] w fun e w' => e = .returned (.bool true) ∧ Below w.heap.size w w' by
    have h := sameB v _ l l w hv hw
    rwa [decide_eq_true rfl] at h)
  have LE := Lib.hid hlen
  obtain ⟨n, hn⟩ : ∃ n, n = l.length := ⟨_, rfl⟩
  have HN := Lib.hid hn
  rw [show EB.ts = 24 from rfl] at sl
  simp only [← hn] at sl S hl ⊢
  clear hf hw hv hn hlen
  go_enter Try.func23, Try.ntmps23
  go_wp2_with fail
  refine S.out.mono ?_
  rintro e2 w2 ⟨rfl, hb⟩
  have B2 := Lib.hid hb
  clear hb sl S
  go_wp2_with fail
  go_loop [7] (fun i => ∃ k : Nat, k ≤ 80 ∧ i = .int .i64 ((n : Int) + k)) (fun i => n + 80 - (intOf i).toNat)
  case atStart => exact ⟨0, by omega, by simp⟩
  case round =>
    obtain ⟨k, hk, rfl⟩ := hrel
    by_cases hlt : k < 80
    · have hx : (l ++ List.replicate 80 x)[n + k]? = some x := by
        rw [List.getElem?_append_right (by rw [← HN.out]; omega), List.getElem?_replicate, if_pos (by rw [← HN.out]; omega)]
      obtain ⟨p, ix, _, px⟩ := elB HF.out rfl LE.out hx
      have p0 := px _ B2.out
      rw [← HN.out] at ix
      rw [show ((n + k : Nat) : Int) = (n : Int) + k from rfl] at ix
      have h81 : (n : Int) + k < (n : Int) + 80 := by omega
      clear px hx
      go_wp2
      go_round
      case rel => exact ⟨k + 1, by omega, by go_num⟩
      case measure => simp [intOf]; omega
    · obtain rfl : k = 80 := by omega
      have h81 : ¬ (n : Int) + 80 < (n : Int) + 80 := by omega
      go_wp2
      go_ret
      exact ⟨rfl, B2.out⟩
set_option maxRecDepth 100000 in
set_option maxHeartbeats 8000000 in
theorem intactI (a : Addr) (cap : Nat) (wv : Value) (l : List Int) (x : Int) (w : World) (hf : RowI w (.slice (some a) (l.length + 80) cap) (l ++ List.replicate 80 x)) (hw : RowI w wv l) (hl : l.length ≤ 10000) :
    Calls Try.prog 21 #[.slice (some a) (l.length + 80) cap, wv, (.int .i64 x)] w fun e w' => e = .returned (.bool true) ∧ Below w.heap.size w w' := by
  have hlen : (l ++ List.replicate 80 x).length = l.length + 80 := by rw [List.length_append, List.length_replicate]
  have HF := Lib.hid hf
  have HW := Lib.hid hw
  obtain ⟨wo, wc, rfl⟩ := hw.len
  obtain ⟨v, sl, hv⟩ := row_lo okI hf l.length (by omega)
  rw [List.take_left] at hv
  have S := Lib.hid (show Calls Try.prog 26 #[v, .slice wo l.length wc] w fun e w' => e = .returned (.bool true) ∧ Below w.heap.size w w' by
    have h := sameI v _ l l w hv hw
    rwa [decide_eq_true rfl] at h)
  have LE := Lib.hid hlen
  obtain ⟨n, hn⟩ : ∃ n, n = l.length := ⟨_, rfl⟩
  have HN := Lib.hid hn
  rw [show EI.ts = 39 from rfl] at sl
  simp only [← hn] at sl S hl ⊢
  clear hf hw hv hn hlen
  go_enter Try.func21, Try.ntmps21
  go_wp2_with fail
  refine S.out.mono ?_
  rintro e2 w2 ⟨rfl, hb⟩
  have B2 := Lib.hid hb
  clear hb sl S
  go_wp2_with fail
  go_loop [7] (fun i => ∃ k : Nat, k ≤ 80 ∧ i = .int .i64 ((n : Int) + k)) (fun i => n + 80 - (intOf i).toNat)
  case atStart => exact ⟨0, by omega, by simp⟩
  case round =>
    obtain ⟨k, hk, rfl⟩ := hrel
    by_cases hlt : k < 80
    · have hx : (l ++ List.replicate 80 x)[n + k]? = some x := by
        rw [List.getElem?_append_right (by rw [← HN.out]; omega), List.getElem?_replicate, if_pos (by rw [← HN.out]; omega)]
      obtain ⟨p, ix, _, px⟩ := elI HF.out rfl LE.out hx
      have p0 := px _ B2.out
      rw [← HN.out] at ix
      rw [show ((n + k : Nat) : Int) = (n : Int) + k from rfl] at ix
      have h81 : (n : Int) + k < (n : Int) + 80 := by omega
      clear px hx
      go_wp2
      go_round
      case rel => exact ⟨k + 1, by omega, by go_num⟩
      case measure => simp [intOf]; omega
    · obtain rfl : k = 80 := by omega
      have h81 : ¬ (n : Int) + 80 < (n : Int) + 80 := by omega
      go_wp2
      go_ret
      exact ⟨rfl, B2.out⟩
end Go.Proofs.Ytobdddggdfcdlaa.Nm
