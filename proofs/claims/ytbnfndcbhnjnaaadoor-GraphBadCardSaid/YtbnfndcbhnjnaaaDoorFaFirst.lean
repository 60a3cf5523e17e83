/-
  first, errno, itself: the unexported parts of package fault that ask errors.As behind a deferred recover. Condition: package errors' variable holds the handle of the type 'error'.
-/
import Derived.Test.YtbnfndcbhnjnaaaDoorFaAs2
import Derived.Test.YtbnfndcbhnjnaaaDoorFaIs
import Derived.Defers
import Derived.Recover
namespace Go.Proofs.YtbnfndcbhnjnaaaDoor.Fa
open Go.RowKit Go.Extern.Stop Go.Stop Go.Extern

theorem first1_idle (p : Addr) (w : World) :
    CallsD Tryd.prog 49 #[.pointer (some p)] .returning w fun e u' w' => e = .returned (.tuple #[]) ∧ u' = .returning ∧ w = w' := by
  refine callsD_of_wpS Tryd.func49 rfl fun c₀ cs hu => ?_
  apply wpS_seq
  apply wpS_region
  simp [wpOpsS, go_sem, recoverD, hu, Tryd.ntmps49, Exit.thenS]
  refine wpS_cond (t := false) (by simp [Act.eval, Array.replicate]) ?_
  simp only [Bool.false_eq_true, if_false]
  refine wpS_of_wp (wp_skip ?_)
  cases c₀
  simp_all [bodyPostS, results, Tryd.results49]
theorem errno1_idle (p : Addr) (w : World) :
    CallsD Tryd.prog 51 #[.pointer (some p)] .returning w fun e u' w' => e = .returned (.tuple #[]) ∧ u' = .returning ∧ w = w' := by
  refine callsD_of_wpS Tryd.func51 rfl fun c₀ cs hu => ?_
  apply wpS_seq
  apply wpS_region
  simp [wpOpsS, go_sem, recoverD, hu, Tryd.ntmps51, Exit.thenS]
  refine wpS_cond (t := false) (by simp [Act.eval, Array.replicate]) ?_
  simp only [Bool.false_eq_true, if_false]
  refine wpS_of_wp (wp_skip ?_)
  cases c₀
  simp_all [bodyPostS, results, Tryd.results51]

theorem EG.alloc {w : World} (h : EG w) (o : Obj) : EG (w.alloc o) := h.bel ((Below.refl _ _).alloc (Nat.le_refl _) o)
theorem heap_alloc_last (w : World) (o : Obj) : (w.alloc o).heap[w.heap.size]? = some o := by show (w.heap.push _)[w.heap.size]? = _; simp
theorem Below.after_alloc {w w' : World} {o : Obj} (h : Below (w.alloc o).heap.size (w.alloc o) w') : Below w.heap.size w w' :=
  ((Below.refl _ _).alloc (Nat.le_refl _) o).trans (h.mono (by simp))

theorem Below.target {w w1 w' : World} {o o' : Obj} (hb1 : Below (w.alloc o).heap.size (w.alloc o) w1) (hu : Upd w.heap.size o' w1 w') : Below w.heap.size w w' :=
  (((Below.refl _ _).alloc (Nat.le_refl _) o).trans (hb1.mono (by simp))).trans (hu.below (Nat.le_refl _) (by have := hb1.size; simp at this; omega))

set_option maxHeartbeats 1000000 in
/-- first of a Fault: itself. -/
theorem first_F (e : Addr) (w : World) (hg : EG w) :
    Calls Tryd.prog 38 #[.iface 71 (.pointer (some e))] w fun ev w' => ev = .returned (.pointer (some e)) ∧ Below w.heap.size w w' := by
  have C := Lib.hid (As_PF 71 (.pointer (some e)) true (fun w1 w' => Upd w.heap.size (.cells #[.pointer (some e)] 71 (0, 0)) w1 w') w.heap.size (w.alloc (.cells #[.pointer none] 71)) (hg.alloc _)
    (fun a w1 ha hb => as_F_hit e a w.heap.size (.pointer none) w1 ha (by rw [hb.block _ (by simp)]; exact heap_alloc_last _ _)))
  have HG := Lib.hid hg
  clear hg
  have hmf : ∀ (fn : Fn) (first cap : Array Value) (w : World), (Instr.makeFunc fn first cap).run Tryd.prog w = .ok (.func fn first cap) w := fun _ _ _ _ => rfl
  go_enter_defers Tryd.func38, Tryd.ntmps38
  go_wp2_with fail
  refine C.out.mono ?_
  rintro e1 w' ⟨rfl, w1, hb1, hu⟩
  have h0 : w'.cell? ⟨w.heap.size, 0, none⟩ = some (.pointer (some e)) := by simp [cell_of_heap hu.there]
  have hf : w'.frozen? ⟨w.heap.size, 0, none⟩ = false := frozen_of_heap hu.there 0
  have HB := Lib.hid (Below.target hb1 hu)
  clear hb1 hu
  go_wp2
  refine leaves_cons (f := 49) (args := #[.pointer (some ⟨w.heap.size, 0, none⟩)]) (by simp) (by simp [go_sem]) ?_
  refine (first1_idle _ _).mono ?_
  rintro e2 u' w'' ⟨rfl, rfl, rfl⟩
  simp [Leaves, settle, results, Tryd.results38, go_sem, h0]
  exact HB.out.setCell (Nat.le_refl _) _

set_option maxHeartbeats 1000000 in
/-- first of an Errno: none. -/
theorem first_E (k : Int) (w : World) (hg : EG w) :
    Calls Tryd.prog 38 #[.iface 33 (.int .i64 k)] w fun ev w' => ev = .returned (.pointer none) ∧ Below w.heap.size w w' := by
  have C := Lib.hid (As_PF 33 (.int .i64 k) false (fun w1 w' => Below w1.heap.size w1 w') w.heap.size (w.alloc (.cells #[.pointer none] 71)) (hg.alloc _)
    (fun a w1 _ _ => as_E_missF _ a w.heap.size w1))
  have HG := Lib.hid hg
  clear hg
  have hmf : ∀ (fn : Fn) (first cap : Array Value) (w : World), (Instr.makeFunc fn first cap).run Tryd.prog w = .ok (.func fn first cap) w := fun _ _ _ _ => rfl
  go_enter_defers Tryd.func38, Tryd.ntmps38
  go_wp2_with fail
  refine C.out.mono ?_
  rintro e1 w' ⟨rfl, w1, hb1, hb2⟩
  have hT : w'.heap[w.heap.size]? = some (.cells #[.pointer none] 71 (0, 0)) := by rw [hb2.block _ (by have := hb1.size; simp at this; omega), hb1.block _ (by simp)]; exact heap_alloc_last _ _
  have h0 : w'.cell? ⟨w.heap.size, 0, none⟩ = some (.pointer none) := by simp [cell_of_heap hT]
  have hf : w'.frozen? ⟨w.heap.size, 0, none⟩ = false := frozen_of_heap hT 0
  have HB := Lib.hid (Below.after_alloc (hb1.trans (hb2.mono hb1.size)))
  clear hb1 hb2 hT
  go_wp2
  refine leaves_cons (f := 49) (args := #[.pointer (some ⟨w.heap.size, 0, none⟩)]) (by simp) (by simp [go_sem]) ?_
  refine (first1_idle _ _).mono ?_
  rintro e2 u' w'' ⟨rfl, rfl, rfl⟩
  simp [Leaves, settle, results, Tryd.results38, go_sem, h0]
  exact HB.out.setCell (Nat.le_refl _) _

set_option maxHeartbeats 1000000 in
/-- errno of a chain of faults that ends in the Errno k. -/
theorem errno_E (l : List (Nat × ByteArray × Int)) (v : Value) (k : Int) (w : World) (hg : EG w) (hc : Ch w l v (.iface 33 (.int .i64 k))) :
    Calls Tryd.prog 39 #[v] w fun ev w' => ev = .returned (.int .i64 k) ∧ Below w.heap.size w w' := by
  obtain ⟨tx, x, rfl⟩ := hc.isIface ⟨_, _, rfl⟩
  have C := Lib.hid (As_PE tx x true (fun w1 w' => Upd w.heap.size (.cells #[.int .i64 k] 33 (0, 0)) w1 w') w.heap.size (w.alloc (.cells #[.int .i64 0] 33)) (hg.alloc _)
    (fun a w1 ha hb => as_Ch_hitE l _ k a w.heap.size (.int .i64 0) w1 ((hc.bel ((Below.refl _ _).alloc (Nat.le_refl _) _)).bel hb) ha (by rw [hb.block _ (by simp)]; exact heap_alloc_last _ _)))
  have HG := Lib.hid hg
  have HC := Lib.hid hc
  clear hg hc
  have hmf : ∀ (fn : Fn) (first cap : Array Value) (w : World), (Instr.makeFunc fn first cap).run Tryd.prog w = .ok (.func fn first cap) w := fun _ _ _ _ => rfl
  go_enter_defers Tryd.func39, Tryd.ntmps39
  go_wp2_with fail
  refine C.out.mono ?_
  rintro e1 w' ⟨rfl, w1, hb1, hu⟩
  have h0 : w'.cell? ⟨w.heap.size, 0, none⟩ = some (.int .i64 k) := by simp [cell_of_heap hu.there]
  have hf : w'.frozen? ⟨w.heap.size, 0, none⟩ = false := frozen_of_heap hu.there 0
  have HB := Lib.hid (Below.target hb1 hu)
  clear hb1 hu
  go_wp2
  refine leaves_cons (f := 51) (args := #[.pointer (some ⟨w.heap.size, 0, none⟩)]) (by simp) (by simp [go_sem]) ?_
  refine (errno1_idle _ _).mono ?_
  rintro e2 u' w'' ⟨rfl, rfl, rfl⟩
  simp [Leaves, settle, results, Tryd.results39, go_sem, h0]
  exact HB.out.setCell (Nat.le_refl _) _

/-- Place of a Fault, of an Errno. -/
theorem Place_F (b : Nat) (op : ByteArray) (at_ : Int) (v' : Value) (w : World) (hg : EG w) (hb : w.heap[b]? = some (.cells #[.string op, .int .i64 at_, v'] 73 (0, 0))) :
    Calls Tryd.prog 14 #[.iface 71 (.pointer (some ⟨b, 0, none⟩))] w fun ev w' => ev = .returned (.int .i64 at_) ∧ Below w.heap.size w w' := by
  have C := Lib.hid (first_F ⟨b, 0, none⟩ w hg)
  have HB := Lib.hid hb
  clear hg hb
  go_enter Tryd.func14, Tryd.ntmps14
  go_wp2_with fail
  refine C.out.mono ?_
  rintro e1 w' ⟨rfl, hb1⟩
  have h1 : w'.cell? ⟨b, 1, none⟩ = some (.int .i64 at_) := by rw [hb1.cell (p := ⟨b, 1, none⟩) (lt_of_heap HB.out)]; simp [cell_of_heap HB.out]
  have HB1 := Lib.hid hb1
  clear hb1
  go_wp2
  go_ret
  exact ⟨rfl, HB1.out⟩
theorem Place_E (k : Int) (w : World) (hg : EG w) :
    Calls Tryd.prog 14 #[.iface 33 (.int .i64 k)] w fun ev w' => ev = .returned (.int .i64 (-1)) ∧ Below w.heap.size w w' := by
  have C := Lib.hid (first_E k w hg)
  clear hg
  go_enter Tryd.func14, Tryd.ntmps14
  go_wp2_with fail
  refine C.out.mono ?_
  rintro e1 w' ⟨rfl, hb1⟩
  have HB1 := Lib.hid hb1
  clear hb1
  go_wp2
  go_ret
  exact ⟨rfl, HB1.out⟩
end Go.Proofs.YtbnfndcbhnjnaaaDoor.Fa
