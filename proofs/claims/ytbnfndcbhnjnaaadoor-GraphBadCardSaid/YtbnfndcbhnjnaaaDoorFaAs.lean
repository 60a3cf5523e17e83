/-
  errors.As at a target of type **Fault: what it answers of a Fault, of an Errno, of an errors.New; each call by its contract. Condition: package errors' variable holds the handle of the type 'error'.
-/
import Derived.Test.YtbnfndcbhnjnaaaDoorFaCalls
namespace Go.Proofs.YtbnfndcbhnjnaaaDoor.Fa
open Go.RowKit Go.Extern.Stop Go.Stop Go.Extern

set_option maxHeartbeats 1000000 in
theorem as_F_hit (e a : Addr) (tb : Nat) (old : Value) (w : World) (ha : w.cell? a = some (.pointer (some ⟨tb, 0, none⟩))) (ht : w.heap[tb]? = some (.cells #[old] 71 (0, 0))) :
    Calls Tryd.prog 75 #[.iface 71 (.pointer (some e)), .iface 86 (.pointer (some ⟨tb, 0, none⟩)), tv 86 a, ty 71] w fun ev w' => ev = .returned (.bool true) ∧ Upd tb (.cells #[.pointer (some e)] 71 (0, 0)) w w' := by
  have tO := cTypeOfF
  have mA := methodAssignableTo
  have aF := cAssignFF
  have vF := cValueOfF
  have alt : a.block < w.heap.size := by
    rcases Nat.lt_or_ge a.block w.heap.size with h | h
    · exact h
    · simp [World.cell?, Array.getElem?_eq_none h] at ha
  have el := cVElemPF a ⟨tb, 0, none⟩ (w.alloc (.cells #[.pointer (some ⟨1, 86, none⟩), .pointer (some a), .int .u64 150] 109)) (by rw [World.cell?_alloc_lt _ _ a alt]; exact ha)
  have htl := lt_of_heap ht
  have ht0 : w.cell? ⟨tb, 0, none⟩ = some old := by simp [cell_of_heap ht]
  have st := cSetF ⟨tb, 0, none⟩ ⟨w.heap.size + 1, 0, none⟩ e old ((w.alloc (.cells #[.pointer (some ⟨1, 86, none⟩), .pointer (some a), .int .u64 150] 109)).alloc (.cells #[.pointer (some e)] 71))
    (by rw [World.cell?_alloc_at _ _ _ _ (by simp)]; rfl)
    (by rw [World.cell?_alloc_lt _ _ ⟨tb, 0, none⟩ (by simp; omega), World.cell?_alloc_lt _ _ ⟨tb, 0, none⟩ htl]; exact ht0)
    (by rw [World.frozen?_alloc_old _ _ ⟨tb, 0, none⟩ (by simp; omega), World.frozen?_alloc_old _ _ ⟨tb, 0, none⟩ (Nat.ne_of_lt htl)]; exact frozen_of_heap ht 0)
  have HT := Lib.hid ht
  clear ht
  go_enter Tryd.func75, Tryd.ntmps75
  go_wp2
  refine wp_loop_rounds 1 ?_
  rw [rounds_succ]
  go_wp2
  go_ret
  exact ⟨rfl, (Upd.set HT.out).then (((Below.refl _ _).alloc (Nat.le_refl _) _).alloc (by simp) _)⟩

set_option maxHeartbeats 1000000 in
theorem as_E_missF (k : Int) (a : Addr) (tb : Nat) (w : World) :
    Calls Tryd.prog 75 #[.iface 33 (.int .i64 k), .iface 86 (.pointer (some ⟨tb, 0, none⟩)), tv 86 a, ty 71] w fun ev w' => ev = .returned (.bool false) ∧ Below w.heap.size w w' := by
  have tO := cTypeOfE
  have mA := methodAssignableTo
  have aF := cAssignEF
  have n1 := noAsE
  have n2 := noUnwE
  have n3 := noUnwsE
  go_enter Tryd.func75, Tryd.ntmps75
  go_wp2
  refine wp_loop_rounds 1 ?_
  rw [rounds_succ]
  go_wp2
  go_ret
  exact ⟨rfl, (Below.refl _ _).alloc (Nat.le_refl _) _⟩

set_option maxHeartbeats 1000000 in
theorem as_E_hitE (k : Int) (a : Addr) (tb : Nat) (old : Value) (w : World) (ha : w.cell? a = some (.pointer (some ⟨tb, 0, none⟩))) (ht : w.heap[tb]? = some (.cells #[old] 33 (0, 0))) :
    Calls Tryd.prog 75 #[.iface 33 (.int .i64 k), .iface 87 (.pointer (some ⟨tb, 0, none⟩)), tv 87 a, ty 33] w fun ev w' => ev = .returned (.bool true) ∧ Upd tb (.cells #[.int .i64 k] 33 (0, 0)) w w' := by
  have tO := cTypeOfE
  have mA := methodAssignableTo
  have aF := cAssignEE
  have vF := cValueOfE
  have alt : a.block < w.heap.size := by
    rcases Nat.lt_or_ge a.block w.heap.size with h | h
    · exact h
    · simp [World.cell?, Array.getElem?_eq_none h] at ha
  have el := cVElemPE a ⟨tb, 0, none⟩ (w.alloc (.cells #[.pointer (some ⟨1, 87, none⟩), .pointer (some a), .int .u64 150] 109)) (by rw [World.cell?_alloc_lt _ _ a alt]; exact ha)
  have htl := lt_of_heap ht
  have ht0 : w.cell? ⟨tb, 0, none⟩ = some old := by simp [cell_of_heap ht]
  have st := cSetE ⟨tb, 0, none⟩ ⟨w.heap.size + 1, 0, none⟩ k old ((w.alloc (.cells #[.pointer (some ⟨1, 87, none⟩), .pointer (some a), .int .u64 150] 109)).alloc (.cells #[.int .i64 k] 33))
    (by rw [World.cell?_alloc_at _ _ _ _ (by simp)]; rfl)
    (by rw [World.cell?_alloc_lt _ _ ⟨tb, 0, none⟩ (by simp; omega), World.cell?_alloc_lt _ _ ⟨tb, 0, none⟩ htl]; exact ht0)
    (by rw [World.frozen?_alloc_old _ _ ⟨tb, 0, none⟩ (by simp; omega), World.frozen?_alloc_old _ _ ⟨tb, 0, none⟩ (Nat.ne_of_lt htl)]; exact frozen_of_heap ht 0)
  have HT := Lib.hid ht
  clear ht
  go_enter Tryd.func75, Tryd.ntmps75
  go_wp2
  refine wp_loop_rounds 1 ?_
  rw [rounds_succ]
  go_wp2
  go_ret
  exact ⟨rfl, (Upd.set HT.out).then (((Below.refl _ _).alloc (Nat.le_refl _) _).alloc (by simp) _)⟩

/-- A Fault unwrapped. -/
theorem unwrap_any (b : Nat) (op : ByteArray) (at_ : Int) (v' : Value) (w : World) (hb : w.heap[b]? = some (.cells #[.string op, .int .i64 at_, v'] 73 (0, 0))) :
    Calls Tryd.prog 108 #[.pointer (some ⟨b, 0, none⟩)] w fun e w' => e = .returned v' ∧ w = w' := by
  have h2 : w.cell? ⟨b, 2, none⟩ = some v' := by simp [cell_of_heap hb]
  have HB := Lib.hid hb
  clear hb
  go_enter Tryd.func108, Tryd.ntmps108
  go_wp2
  go_ret
  exact ⟨rfl, rfl⟩
end Go.Proofs.YtbnfndcbhnjnaaaDoor.Fa
