/-
  Error of a chain of faults that ends in the Errno 7: each op, a blank, its place, a colon, a blank; then what the Errno says. Condition: places from 0 to 99; the text has at most 1048576 bytes; the faults lie at falling blocks.
-/
import Derived.Test.YtiiobgbebpapnaaDoorFaRead
import Derived.Test.YtiiobgbebpapnaaDoorFaShelf
namespace Go.Proofs.YtiiobgbebpapnaaDoor.Fa
open Go.RowKit Go.Extern.Stop Go.Stop Go.Extern

/-- What the faults of a chain say. -/
def txt (l : List (Nat × ByteArray × Int)) : List UInt8 := l.flatMap fun x => x.2.1.data.toList ++ [32] ++ Lib.decDigits x.2.2.toNat ++ [58, 32]
theorem txt_snoc (l : List (Nat × ByteArray × Int)) (b : Nat) (op : ByteArray) (n : Nat) : txt (l ++ [(b, op, (n : Int))]) = txt l ++ op.data.toList ++ [32] ++ Lib.decDigits n ++ [58, 32] := by
  simp [txt]
theorem txt_len (done r : List (Nat × ByteArray × Int)) (b : Nat) (op : ByteArray) (n : Nat) : (txt (done ++ (b, op, (n : Int)) :: r)).length = (txt done).length + op.data.toList.length + 1 + (Lib.decDigits n).length + 2 + (txt r).length := by
  simp [txt]; omega

theorem text1_idle (p : Addr) (w : World) :
    CallsD Tryd.prog 59 #[.pointer (some p)] .returning w fun e u' w' => e = .returned (.tuple #[]) ∧ u' = .returning ∧ w = w' := by
  refine callsD_of_wpS Tryd.func59 rfl fun c₀ cs hu => ?_
  apply wpS_seq
  apply wpS_region
  simp [wpOpsS, go_sem, recoverD, hu, Tryd.ntmps59, Exit.thenS]
  refine wpS_cond (t := false) (by simp [Act.eval, Array.replicate]) ?_
  simp only [Bool.false_eq_true, if_false]
  refine wpS_of_wp (wp_skip ?_)
  cases c₀
  simp_all [bodyPostS, results, Tryd.results59]

/-- ErrFull says "full". -/
theorem errnoError_7 (w : World) :
    Calls Tryd.prog 14 #[.int .i64 7] w fun e w' => e = .returned (.string ⟨#[102, 117, 108, 108]⟩) ∧ Below w.heap.size w w' := by
  go_enter Tryd.func14, Tryd.ntmps14
  go_wp2
  go_ret
  exact ⟨rfl, (Below.refl _ _).alloc (Nat.le_refl _) _⟩

set_option maxHeartbeats 1000000 in
theorem text_7 (w : World) :
    Calls Tryd.prog 55 #[.iface 25 (.int .i64 7)] w fun e w' => e = .returned (.string ⟨#[102, 117, 108, 108]⟩) ∧ Below w.heap.size w w' := by
  have hmf : ∀ (fn : Fn) (first cap : Array Value) (w : World), (Instr.makeFunc fn first cap).run Tryd.prog w = .ok (.func fn first cap) w := fun _ _ _ _ => rfl
  have mE := methodErrorE
  go_enter_defers Tryd.func55, Tryd.ntmps55
  go_wp2_with fail
  refine (errnoError_7 _).mono ?_
  rintro e1 w1 ⟨rfl, hb⟩
  have hT : w1.heap[w.heap.size]? = some (.cells #[.string ⟨#[]⟩] 9 (0, 0)) := by rw [hb.block _ (by simp)]; exact heap_alloc_last _ _
  have h0 : w1.cell? ⟨w.heap.size, 0, none⟩ = some (.string ⟨#[]⟩) := by simp [cell_of_heap hT]
  have hf : w1.frozen? ⟨w.heap.size, 0, none⟩ = false := frozen_of_heap hT 0
  have HB := Lib.hid (Below.after_alloc hb)
  clear hb hT
  go_wp2
  refine leaves_cons (f := 59) (args := #[.pointer (some ⟨w.heap.size, 0, none⟩)]) (by simp) (by simp [go_sem]) ?_
  refine (text1_idle _ _).mono ?_
  rintro e2 u' w'' ⟨rfl, rfl, rfl⟩
  simp [Leaves, settle, results, Tryd.results55, go_sem, h0, hf]
  exact HB.out.setCell (Nat.le_refl _) _
end Go.Proofs.YtiiobgbebpapnaaDoor.Fa
