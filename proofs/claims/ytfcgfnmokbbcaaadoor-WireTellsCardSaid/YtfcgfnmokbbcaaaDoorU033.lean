/-
  errors.As at a target of type *Errno over a chain of faults that ends in an Errno, or in an errors.New; errors.As itself over errors.as. Condition: package errors' variable holds the handle of the type 'error'.
  first, errno, itself: the unexported parts of package fault that ask errors.As behind a deferred recover. Condition: package errors' variable holds the handle of the type 'error'.
-/
import Derived.Test.YtfcgfnmokbbcaaaDoorU029
import Derived.Deep.LoopGhost
import Derived.Test.YtfcgfnmokbbcaaaDoorU030
import Derived.Defers
import Derived.Recover
namespace Go.Proofs.YtfcgfnmokbbcaaaDoor.Fa
open Go.RowKit Go.Extern.Stop Go.Stop Go.Extern

/-- What errors.As hands on: errors.as was asked in a world that has only grown. -/
def AsEnd (w : World) (r : Bool) (Q : World → World → Prop) (e : Ending) (w' : World) : Prop := e = .returned (.bool r) ∧ ∃ w1, Below w.heap.size w w1 ∧ Q w1 w'

set_option maxHeartbeats 1000000 in
theorem As_PF (tx : Nat) (x : Value) (r : Bool) (Q : World → World → Prop) (tb : Nat) (w : World) (hg : EG w)
    (h : ∀ a w1, w1.cell? a = some (.pointer (some ⟨tb, 0, none⟩)) → Below w.heap.size w w1 → Calls Tryd.prog 75 #[.iface tx x, .iface 92 (.pointer (some ⟨tb, 0, none⟩)), tv 92 a, ty 82] w1 fun e w' => e = .returned (.bool r) ∧ Q w1 w') :
    Calls Tryd.prog 53 #[.iface tx x, .iface 92 (.pointer (some ⟨tb, 0, none⟩))] w (AsEnd w r Q) := by
  have H := Lib.hid h
  clear h
  have vO := cValueOfPF
  have vT := cVTypePF
  have mK := methodKind
  have k1 := cKindPF
  have k2 := cKindF
  have n8 := cVIsNilPF ⟨w.heap.size, 0, none⟩ ⟨tb, 0, none⟩ ((w.alloc (.cells #[.pointer (some ⟨tb, 0, none⟩)] 92)).alloc (.cells #[.pointer (some ⟨1, 92, none⟩), .pointer (some ⟨w.heap.size, 0, none⟩), .int .u64 150] 113)) (by simp)
  have mE := methodElem
  have e1 := cRElemPF
  have mI := methodImplements
  have i1 := cImplF
  have hlt := hg.pos
  have hg2 : ((w.alloc (.cells #[.pointer (some ⟨tb, 0, none⟩)] 92)).alloc (.cells #[.pointer (some ⟨1, 92, none⟩), .pointer (some ⟨w.heap.size, 0, none⟩), .int .u64 150] 113)).cell? ⟨0, 0, none⟩ = some (.iface 127 (.agg #[.pointer (some ⟨1, 24, none⟩)])) := by
    rw [World.cell?_alloc_lt _ _ ⟨_, 0, none⟩ (by rw [World.size_alloc]; exact Nat.lt_succ_of_lt hlt), World.cell?_alloc_lt _ _ ⟨_, 0, none⟩ hlt]; exact hg
  have HG := Lib.hid hg
  clear hg
  go_enter Tryd.func53, Tryd.ntmps53
  go_wp2_with fail
  refine (H.out ⟨w.heap.size, 0, none⟩ _ ?_ ?_).mono ?_
  · simp
  · exact ((Below.refl _ _).alloc (Nat.le_refl _) _).alloc (by simp) _
  rintro e w' ⟨rfl, hq⟩
  go_wp2
  go_ret
  exact ⟨rfl, _, ((Below.refl _ _).alloc (Nat.le_refl _) _).alloc (by simp) _, hq⟩

set_option maxHeartbeats 1000000 in
theorem As_PE (tx : Nat) (x : Value) (r : Bool) (Q : World → World → Prop) (tb : Nat) (w : World) (hg : EG w)
    (h : ∀ a w1, w1.cell? a = some (.pointer (some ⟨tb, 0, none⟩)) → Below w.heap.size w w1 → Calls Tryd.prog 75 #[.iface tx x, .iface 93 (.pointer (some ⟨tb, 0, none⟩)), tv 93 a, ty 34] w1 fun e w' => e = .returned (.bool r) ∧ Q w1 w') :
    Calls Tryd.prog 53 #[.iface tx x, .iface 93 (.pointer (some ⟨tb, 0, none⟩))] w (AsEnd w r Q) := by
  have H := Lib.hid h
  clear h
  have vO := cValueOfPE
  have vT := cVTypePE
  have mK := methodKind
  have k1 := cKindPE
  have k2 := cKindE
  have n8 := cVIsNilPE ⟨w.heap.size, 0, none⟩ ⟨tb, 0, none⟩ ((w.alloc (.cells #[.pointer (some ⟨tb, 0, none⟩)] 93)).alloc (.cells #[.pointer (some ⟨1, 93, none⟩), .pointer (some ⟨w.heap.size, 0, none⟩), .int .u64 150] 113)) (by simp)
  have mE := methodElem
  have e1 := cRElemPE
  have mI := methodImplements
  have i1 := cImplE
  have hlt := hg.pos
  have hg2 : ((w.alloc (.cells #[.pointer (some ⟨tb, 0, none⟩)] 93)).alloc (.cells #[.pointer (some ⟨1, 93, none⟩), .pointer (some ⟨w.heap.size, 0, none⟩), .int .u64 150] 113)).cell? ⟨0, 0, none⟩ = some (.iface 127 (.agg #[.pointer (some ⟨1, 24, none⟩)])) := by
    rw [World.cell?_alloc_lt _ _ ⟨_, 0, none⟩ (by rw [World.size_alloc]; exact Nat.lt_succ_of_lt hlt), World.cell?_alloc_lt _ _ ⟨_, 0, none⟩ hlt]; exact hg
  have HG := Lib.hid hg
  clear hg
  go_enter Tryd.func53, Tryd.ntmps53
  go_wp2_with fail
  refine (H.out ⟨w.heap.size, 0, none⟩ _ ?_ ?_).mono ?_
  · simp
  · exact ((Below.refl _ _).alloc (Nat.le_refl _) _).alloc (by simp) _
  rintro e w' ⟨rfl, hq⟩
  go_wp2
  go_ret
  exact ⟨rfl, _, ((Below.refl _ _).alloc (Nat.le_refl _) _).alloc (by simp) _, hq⟩

set_option maxHeartbeats 2000000 in
theorem as_Ch_hitE (l : List (Nat × ByteArray × Int)) (v : Value) (k : Int) (a : Addr) (tb : Nat) (old : Value) (w : World) (hc : Ch w l v (.iface 34 (.int .i64 k)))
    (ha : w.cell? a = some (.pointer (some ⟨tb, 0, none⟩))) (ht : w.heap[tb]? = some (.cells #[old] 34 (0, 0))) :
    Calls Tryd.prog 75 #[v, .iface 93 (.pointer (some ⟨tb, 0, none⟩)), tv 93 a, ty 34] w fun ev w' => ev = .returned (.bool true) ∧ Upd tb (.cells #[.int .i64 k] 34 (0, 0)) w w' := by
  have tO := cTypeOfE
  have tO2 := cTypeOfF
  have mA := methodAssignableTo
  have aF := cAssignEE
  have aF2 := cAssignFE
  have vF := cValueOfE
  have n1 := noAsF
  have n2 := hasUnwF
  have mU := methodUnwrapF
  have alt : a.block < w.heap.size := by
    rcases Nat.lt_or_ge a.block w.heap.size with h | h
    · exact h
    · simp [World.cell?, Array.getElem?_eq_none h] at ha
  have el := cVElemPE a ⟨tb, 0, none⟩ (w.alloc (.cells #[.pointer (some ⟨1, 93, none⟩), .pointer (some a), .int .u64 150] 113)) (by rw [World.cell?_alloc_lt _ _ a alt]; exact ha)
  have htl := lt_of_heap ht
  have ht0 : w.cell? ⟨tb, 0, none⟩ = some old := by simp [cell_of_heap ht]
  have st := cSetE ⟨tb, 0, none⟩ ⟨w.heap.size + 1, 0, none⟩ k old ((w.alloc (.cells #[.pointer (some ⟨1, 93, none⟩), .pointer (some a), .int .u64 150] 113)).alloc (.cells #[.int .i64 k] 34))
    (by rw [World.cell?_alloc_at _ _ _ _ (by simp)]; rfl)
    (by rw [World.cell?_alloc_lt _ _ ⟨tb, 0, none⟩ (by simp; omega), World.cell?_alloc_lt _ _ ⟨tb, 0, none⟩ htl]; exact ht0)
    (by rw [World.frozen?_alloc_old _ _ ⟨tb, 0, none⟩ (by simp; omega), World.frozen?_alloc_old _ _ ⟨tb, 0, none⟩ (Nat.ne_of_lt htl)]; exact frozen_of_heap ht 0)
  have HT := Lib.hid ht
  clear ht
  have HC := Lib.hid (hc.bel (((Below.refl _ _).alloc (Nat.le_refl _) (.cells #[.pointer (some ⟨1, 93, none⟩), .pointer (some a), .int .u64 150] 113))))
  clear hc
  go_enter Tryd.func75, Tryd.ntmps75
  go_wp2
  go_loopg [0] l.length (fun n e wr => ∃ r, n = r.length ∧ wr = w.alloc (.cells #[.pointer (some ⟨1, 93, none⟩), .pointer (some a), .int .u64 150] 113) ∧ Ch wr r e (.iface 34 (.int .i64 k)))
  case atStart => exact ⟨l, rfl, rfl, HC.out⟩
  case round =>
    obtain ⟨r, hn, rfl, hch⟩ := hrel
    cases r with
    | nil =>
      cases hch
      clear hn HC
      go_wp2
      go_ret
      exact ⟨rfl, (Upd.set HT.out).then (((Below.refl _ _).alloc (Nat.le_refl _) _).alloc (by simp) _)⟩
    | cons y r =>
      obtain ⟨b, op, at_⟩ := y
      obtain ⟨rfl, v', hb, hr⟩ := hch
      have A := Lib.hid (show gk = r.length + 1 from hn)
      have HB := Lib.hid hb
      have HR := Lib.hid hr
      clear hn HC hb hr
      have hv : ∃ tx x, v' = .iface tx x := by
        have h := HR.out
        cases r with
        | nil => exact ⟨_, _, h⟩
        | cons y r => exact ⟨_, _, h.1⟩
      obtain ⟨tx, x, rfl⟩ := hv
      go_wp2_with fail
      refine (unwrap_any b op at_ _ _ HB.out).mono ?_
      rintro e w' ⟨rfl, rfl⟩
      go_wp2
      go_roundg r.length
      case measure => have := A.out; omega
      case rel => exact ⟨r, rfl, rfl, HR.out⟩
end Go.Proofs.YtfcgfnmokbbcaaaDoor.Fa

namespace Go.Proofs.YtfcgfnmokbbcaaaDoor.Fa
open Go.RowKit Go.Extern.Stop Go.Stop Go.Extern

theorem first1_idle (p : Addr) (w : World) :
    CallsD Tryd.prog 52 #[.pointer (some p)] .returning w fun e u' w' => e = .returned (.tuple #[]) ∧ u' = .returning ∧ w = w' := by
  refine callsD_of_wpS Tryd.func52 rfl fun c₀ cs hu => ?_
  apply wpS_seq
  apply wpS_region
  simp [wpOpsS, go_sem, recoverD, hu, Tryd.ntmps52, Exit.thenS]
  refine wpS_cond (t := false) (by simp [Act.eval, Array.replicate]) ?_
  simp only [Bool.false_eq_true, if_false]
  refine wpS_of_wp (wp_skip ?_)
  cases c₀
  simp_all [bodyPostS, results, Tryd.results52]
theorem errno1_idle (p : Addr) (w : World) :
    CallsD Tryd.prog 54 #[.pointer (some p)] .returning w fun e u' w' => e = .returned (.tuple #[]) ∧ u' = .returning ∧ w = w' := by
  refine callsD_of_wpS Tryd.func54 rfl fun c₀ cs hu => ?_
  apply wpS_seq
  apply wpS_region
  simp [wpOpsS, go_sem, recoverD, hu, Tryd.ntmps54, Exit.thenS]
  refine wpS_cond (t := false) (by simp [Act.eval, Array.replicate]) ?_
  simp only [Bool.false_eq_true, if_false]
  refine wpS_of_wp (wp_skip ?_)
  cases c₀
  simp_all [bodyPostS, results, Tryd.results54]

theorem EG.alloc {w : World} (h : EG w) (o : Obj) : EG (w.alloc o) := h.bel ((Below.refl _ _).alloc (Nat.le_refl _) o)
theorem heap_alloc_last (w : World) (o : Obj) : (w.alloc o).heap[w.heap.size]? = some o := by show (w.heap.push _)[w.heap.size]? = _; simp
theorem Below.after_alloc {w w' : World} {o : Obj} (h : Below (w.alloc o).heap.size (w.alloc o) w') : Below w.heap.size w w' :=
  ((Below.refl _ _).alloc (Nat.le_refl _) o).trans (h.mono (by simp))

theorem Below.target {w w1 w' : World} {o o' : Obj} (hb1 : Below (w.alloc o).heap.size (w.alloc o) w1) (hu : Upd w.heap.size o' w1 w') : Below w.heap.size w w' :=
  (((Below.refl _ _).alloc (Nat.le_refl _) o).trans (hb1.mono (by simp))).trans (hu.below (Nat.le_refl _) (by have := hb1.size; simp at this; omega))

set_option maxHeartbeats 1000000 in
/-- first of a Fault: itself. -/
theorem first_F (e : Addr) (w : World) (hg : EG w) :
    Calls Tryd.prog 30 #[.iface 82 (.pointer (some e))] w fun ev w' => ev = .returned (.pointer (some e)) ∧ Below w.heap.size w w' := by
  have C := Lib.hid (As_PF 82 (.pointer (some e)) true (fun w1 w' => Upd w.heap.size (.cells #[.pointer (some e)] 82 (0, 0)) w1 w') w.heap.size (w.alloc (.cells #[.pointer none] 82)) (hg.alloc _)
    (fun a w1 ha hb => as_F_hit e a w.heap.size (.pointer none) w1 ha (by rw [hb.block _ (by simp)]; exact heap_alloc_last _ _)))
  have HG := Lib.hid hg
  clear hg
  have hmf : ∀ (fn : Fn) (first cap : Array Value) (w : World), (Instr.makeFunc fn first cap).run Tryd.prog w = .ok (.func fn first cap) w := fun _ _ _ _ => rfl
  go_enter_defers Tryd.func30, Tryd.ntmps30
  go_wp2_with fail
  refine C.out.mono ?_
  rintro e1 w' ⟨rfl, w1, hb1, hu⟩
  have h0 : w'.cell? ⟨w.heap.size, 0, none⟩ = some (.pointer (some e)) := by simp [cell_of_heap hu.there]
  have hf : w'.frozen? ⟨w.heap.size, 0, none⟩ = false := frozen_of_heap hu.there 0
  have HB := Lib.hid (Below.target hb1 hu)
  clear hb1 hu
  go_wp2
  refine leaves_cons (f := 52) (args := #[.pointer (some ⟨w.heap.size, 0, none⟩)]) (by simp) (by simp [go_sem]) ?_
  refine (first1_idle _ _).mono ?_
  rintro e2 u' w'' ⟨rfl, rfl, rfl⟩
  simp [Leaves, settle, results, Tryd.results30, go_sem, h0]
  exact HB.out.setCell (Nat.le_refl _) _

set_option maxHeartbeats 1000000 in
/-- first of an Errno: none. -/
theorem first_E (k : Int) (w : World) (hg : EG w) :
    Calls Tryd.prog 30 #[.iface 34 (.int .i64 k)] w fun ev w' => ev = .returned (.pointer none) ∧ Below w.heap.size w w' := by
  have C := Lib.hid (As_PF 34 (.int .i64 k) false (fun w1 w' => Below w1.heap.size w1 w') w.heap.size (w.alloc (.cells #[.pointer none] 82)) (hg.alloc _)
    (fun a w1 _ _ => as_E_missF _ a w.heap.size w1))
  have HG := Lib.hid hg
  clear hg
  have hmf : ∀ (fn : Fn) (first cap : Array Value) (w : World), (Instr.makeFunc fn first cap).run Tryd.prog w = .ok (.func fn first cap) w := fun _ _ _ _ => rfl
  go_enter_defers Tryd.func30, Tryd.ntmps30
  go_wp2_with fail
  refine C.out.mono ?_
  rintro e1 w' ⟨rfl, w1, hb1, hb2⟩
  have hT : w'.heap[w.heap.size]? = some (.cells #[.pointer none] 82 (0, 0)) := by rw [hb2.block _ (by have := hb1.size; simp at this; omega), hb1.block _ (by simp)]; exact heap_alloc_last _ _
  have h0 : w'.cell? ⟨w.heap.size, 0, none⟩ = some (.pointer none) := by simp [cell_of_heap hT]
  have hf : w'.frozen? ⟨w.heap.size, 0, none⟩ = false := frozen_of_heap hT 0
  have HB := Lib.hid (Below.after_alloc (hb1.trans (hb2.mono hb1.size)))
  clear hb1 hb2 hT
  go_wp2
  refine leaves_cons (f := 52) (args := #[.pointer (some ⟨w.heap.size, 0, none⟩)]) (by simp) (by simp [go_sem]) ?_
  refine (first1_idle _ _).mono ?_
  rintro e2 u' w'' ⟨rfl, rfl, rfl⟩
  simp [Leaves, settle, results, Tryd.results30, go_sem, h0]
  exact HB.out.setCell (Nat.le_refl _) _

set_option maxHeartbeats 1000000 in
/-- errno of a chain of faults that ends in the Errno k. -/
theorem errno_E (l : List (Nat × ByteArray × Int)) (v : Value) (k : Int) (w : World) (hg : EG w) (hc : Ch w l v (.iface 34 (.int .i64 k))) :
    Calls Tryd.prog 31 #[v] w fun ev w' => ev = .returned (.int .i64 k) ∧ Below w.heap.size w w' := by
  obtain ⟨tx, x, rfl⟩ := hc.isIface ⟨_, _, rfl⟩
  have C := Lib.hid (As_PE tx x true (fun w1 w' => Upd w.heap.size (.cells #[.int .i64 k] 34 (0, 0)) w1 w') w.heap.size (w.alloc (.cells #[.int .i64 0] 34)) (hg.alloc _)
    (fun a w1 ha hb => as_Ch_hitE l _ k a w.heap.size (.int .i64 0) w1 ((hc.bel ((Below.refl _ _).alloc (Nat.le_refl _) _)).bel hb) ha (by rw [hb.block _ (by simp)]; exact heap_alloc_last _ _)))
  have HG := Lib.hid hg
  have HC := Lib.hid hc
  clear hg hc
  have hmf : ∀ (fn : Fn) (first cap : Array Value) (w : World), (Instr.makeFunc fn first cap).run Tryd.prog w = .ok (.func fn first cap) w := fun _ _ _ _ => rfl
  go_enter_defers Tryd.func31, Tryd.ntmps31
  go_wp2_with fail
  refine C.out.mono ?_
  rintro e1 w' ⟨rfl, w1, hb1, hu⟩
  have h0 : w'.cell? ⟨w.heap.size, 0, none⟩ = some (.int .i64 k) := by simp [cell_of_heap hu.there]
  have hf : w'.frozen? ⟨w.heap.size, 0, none⟩ = false := frozen_of_heap hu.there 0
  have HB := Lib.hid (Below.target hb1 hu)
  clear hb1 hu
  go_wp2
  refine leaves_cons (f := 54) (args := #[.pointer (some ⟨w.heap.size, 0, none⟩)]) (by simp) (by simp [go_sem]) ?_
  refine (errno1_idle _ _).mono ?_
  rintro e2 u' w'' ⟨rfl, rfl, rfl⟩
  simp [Leaves, settle, results, Tryd.results31, go_sem, h0]
  exact HB.out.setCell (Nat.le_refl _) _

/-- Place of a Fault, of an Errno. -/
theorem Place_F (b : Nat) (op : ByteArray) (at_ : Int) (v' : Value) (w : World) (hg : EG w) (hb : w.heap[b]? = some (.cells #[.string op, .int .i64 at_, v'] 84 (0, 0))) :
    Calls Tryd.prog 17 #[.iface 82 (.pointer (some ⟨b, 0, none⟩))] w fun ev w' => ev = .returned (.int .i64 at_) ∧ Below w.heap.size w w' := by
  have C := Lib.hid (first_F ⟨b, 0, none⟩ w hg)
  have HB := Lib.hid hb
  clear hg hb
  go_enter Tryd.func17, Tryd.ntmps17
  go_wp2_with fail
  refine C.out.mono ?_
  rintro e1 w' ⟨rfl, hb1⟩
  have h1 : w'.cell? ⟨b, 1, none⟩ = some (.int .i64 at_) := by rw [hb1.cell (p := ⟨b, 1, none⟩) (lt_of_heap HB.out)]; simp [cell_of_heap HB.out]
  have HB1 := Lib.hid hb1
  clear hb1
  go_wp2
  go_ret
  exact ⟨rfl, HB1.out⟩
theorem Place_E (k : Int) (w : World) (hg : EG w) :
    Calls Tryd.prog 17 #[.iface 34 (.int .i64 k)] w fun ev w' => ev = .returned (.int .i64 (-1)) ∧ Below w.heap.size w w' := by
  have C := Lib.hid (first_E k w hg)
  clear hg
  go_enter Tryd.func17, Tryd.ntmps17
  go_wp2_with fail
  refine C.out.mono ?_
  rintro e1 w' ⟨rfl, hb1⟩
  have HB1 := Lib.hid hb1
  clear hb1
  go_wp2
  go_ret
  exact ⟨rfl, HB1.out⟩
end Go.Proofs.YtfcgfnmokbbcaaaDoor.Fa
