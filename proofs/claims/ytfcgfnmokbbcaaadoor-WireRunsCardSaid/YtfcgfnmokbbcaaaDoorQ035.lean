/-
  errors.As at a target of type *Errno over a chain of faults that ends in an Errno, or in an errors.New; errors.As itself over errors.as. Condition: package errors' variable holds the handle of the type 'error'.
  first, errno, itself: the unexported parts of package fault that ask errors.As behind a deferred recover. Condition: package errors' variable holds the handle of the type 'error'.
  walk: the faults of a chain, one behind the other, as 'next' finds them, with the mark that would meet a ring: of a chain whose blocks are all different every fault is listed once, and it ends. Condition: a contract for 'next' at each fault.
-/
import Derived.Test.YtfcgfnmokbbcaaaDoorQ031
import Derived.Deep.LoopGhost
import Derived.Defers
import Derived.Recover
namespace Go.Proofs.YtfcgfnmokbbcaaaDoor.Fa
open Go.RowKit Go.Extern.Stop Go.Stop Go.Extern

/-- What errors.As hands on: errors.as was asked in a world that has only grown. -/
def AsEnd (w : World) (r : Bool) (Q : World → World → Prop) (e : Ending) (w' : World) : Prop := e = .returned (.bool r) ∧ ∃ w1, Below w.heap.size w w1 ∧ Q w1 w'

set_option maxHeartbeats 1000000 in
theorem As_PF (tx : Nat) (x : Value) (r : Bool) (Q : World → World → Prop) (tb : Nat) (w : World) (hg : EG w)
    (h : ∀ a w1, w1.cell? a = some (.pointer (some ⟨tb, 0, none⟩)) → Below w.heap.size w w1 → Calls Tryd.prog 75 #[.iface tx x, .iface 92 (.pointer (some ⟨tb, 0, none⟩)), tv 92 a, ty 82] w1 fun e w' => e = .returned (.bool r) ∧ Q w1 w') :
    Calls Tryd.prog 53 #[.iface tx x, .iface 92 (.pointer (some ⟨tb, 0, none⟩))] w (AsEnd w r Q) := by
  have H := Lib.hid h
  clear h
  have vO := cValueOfPF
  have vT := cVTypePF
  have mK := methodKind
  have k1 := cKindPF
  have k2 := cKindF
  have n8 := cVIsNilPF ⟨w.heap.size, 0, none⟩ ⟨tb, 0, none⟩ ((w.alloc (.cells #[.pointer (some ⟨tb, 0, none⟩)] 92)).alloc (.cells #[.pointer (some ⟨1, 92, none⟩), .pointer (some ⟨w.heap.size, 0, none⟩), .int .u64 150] 113)) (by simp)
  have mE := methodElem
  have e1 := cRElemPF
  have mI := methodImplements
  have i1 := cImplF
  have hlt := hg.pos
  have hg2 : ((w.alloc (.cells #[.pointer (some ⟨tb, 0, none⟩)] 92)).alloc (.cells #[.pointer (some ⟨1, 92, none⟩), .pointer (some ⟨w.heap.size, 0, none⟩), .int .u64 150] 113)).cell? ⟨0, 0, none⟩ = some (.iface 127 (.agg #[.pointer (some ⟨1, 24, none⟩)])) := by
    rw [World.cell?_alloc_lt _ _ ⟨_, 0, none⟩ (by rw [World.size_alloc]; exact Nat.lt_succ_of_lt hlt), World.cell?_alloc_lt _ _ ⟨_, 0, none⟩ hlt]; exact hg
  have HG := Lib.hid hg
  clear hg
  go_enter Tryd.func53, Tryd.ntmps53
  go_wp2_with fail
  refine (H.out ⟨w.heap.size, 0, none⟩ _ ?_ ?_).mono ?_
  · simp
  · exact ((Below.refl _ _).alloc (Nat.le_refl _) _).alloc (by simp) _
  rintro e w' ⟨rfl, hq⟩
  go_wp2
  go_ret
  exact ⟨rfl, _, ((Below.refl _ _).alloc (Nat.le_refl _) _).alloc (by simp) _, hq⟩

set_option maxHeartbeats 1000000 in
theorem As_PE (tx : Nat) (x : Value) (r : Bool) (Q : World → World → Prop) (tb : Nat) (w : World) (hg : EG w)
    (h : ∀ a w1, w1.cell? a = some (.pointer (some ⟨tb, 0, none⟩)) → Below w.heap.size w w1 → Calls Tryd.prog 75 #[.iface tx x, .iface 93 (.pointer (some ⟨tb, 0, none⟩)), tv 93 a, ty 34] w1 fun e w' => e = .returned (.bool r) ∧ Q w1 w') :
    Calls Tryd.prog 53 #[.iface tx x, .iface 93 (.pointer (some ⟨tb, 0, none⟩))] w (AsEnd w r Q) := by
  have H := Lib.hid h
  clear h
  have vO := cValueOfPE
  have vT := cVTypePE
  have mK := methodKind
  have k1 := cKindPE
  have k2 := cKindE
  have n8 := cVIsNilPE ⟨w.heap.size, 0, none⟩ ⟨tb, 0, none⟩ ((w.alloc (.cells #[.pointer (some ⟨tb, 0, none⟩)] 93)).alloc (.cells #[.pointer (some ⟨1, 93, none⟩), .pointer (some ⟨w.heap.size, 0, none⟩), .int .u64 150] 113)) (by simp)
  have mE := methodElem
  have e1 := cRElemPE
  have mI := methodImplements
  have i1 := cImplE
  have hlt := hg.pos
  have hg2 : ((w.alloc (.cells #[.pointer (some ⟨tb, 0, none⟩)] 93)).alloc (.cells #[.pointer (some ⟨1, 93, none⟩), .pointer (some ⟨w.heap.size, 0, none⟩), .int .u64 150] 113)).cell? ⟨0, 0, none⟩ = some (.iface 127 (.agg #[.pointer (some ⟨1, 24, none⟩)])) := by
    rw [World.cell?_alloc_lt _ _ ⟨_, 0, none⟩ (by rw [World.size_alloc]; exact Nat.lt_succ_of_lt hlt), World.cell?_alloc_lt _ _ ⟨_, 0, none⟩ hlt]; exact hg
  have HG := Lib.hid hg
  clear hg
  go_enter Tryd.func53, Tryd.ntmps53
  go_wp2_with fail
  refine (H.out ⟨w.heap.size, 0, none⟩ _ ?_ ?_).mono ?_
  · simp
  · exact ((Below.refl _ _).alloc (Nat.le_refl _) _).alloc (by simp) _
  rintro e w' ⟨rfl, hq⟩
  go_wp2
  go_ret
  exact ⟨rfl, _, ((Below.refl _ _).alloc (Nat.le_refl _) _).alloc (by simp) _, hq⟩

set_option maxHeartbeats 2000000 in
theorem as_Ch_hitE (l : List (Nat × ByteArray × Int)) (v : Value) (k : Int) (a : Addr) (tb : Nat) (old : Value) (w : World) (hc : Ch w l v (.iface 34 (.int .i64 k)))
    (ha : w.cell? a = some (.pointer (some ⟨tb, 0, none⟩))) (ht : w.heap[tb]? = some (.cells #[old] 34 (0, 0))) :
    Calls Tryd.prog 75 #[v, .iface 93 (.pointer (some ⟨tb, 0, none⟩)), tv 93 a, ty 34] w fun ev w' => ev = .returned (.bool true) ∧ Upd tb (.cells #[.int .i64 k] 34 (0, 0)) w w' := by
  have tO := cTypeOfE
  have tO2 := cTypeOfF
  have mA := methodAssignableTo
  have aF := cAssignEE
  have aF2 := cAssignFE
  have vF := cValueOfE
  have n1 := noAsF
  have n2 := hasUnwF
  have mU := methodUnwrapF
  have alt : a.block < w.heap.size := by
    rcases Nat.lt_or_ge a.block w.heap.size with h | h
    · exact h
    · simp [World.cell?, Array.getElem?_eq_none h] at ha
  have el := cVElemPE a ⟨tb, 0, none⟩ (w.alloc (.cells #[.pointer (some ⟨1, 93, none⟩), .pointer (some a), .int .u64 150] 113)) (by rw [World.cell?_alloc_lt _ _ a alt]; exact ha)
  have htl := lt_of_heap ht
  have ht0 : w.cell? ⟨tb, 0, none⟩ = some old := by simp [cell_of_heap ht]
  have st := cSetE ⟨tb, 0, none⟩ ⟨w.heap.size + 1, 0, none⟩ k old ((w.alloc (.cells #[.pointer (some ⟨1, 93, none⟩), .pointer (some a), .int .u64 150] 113)).alloc (.cells #[.int .i64 k] 34))
    (by rw [World.cell?_alloc_at _ _ _ _ (by simp)]; rfl)
    (by rw [World.cell?_alloc_lt _ _ ⟨tb, 0, none⟩ (by simp; omega), World.cell?_alloc_lt _ _ ⟨tb, 0, none⟩ htl]; exact ht0)
    (by rw [World.frozen?_alloc_old _ _ ⟨tb, 0, none⟩ (by simp; omega), World.frozen?_alloc_old _ _ ⟨tb, 0, none⟩ (Nat.ne_of_lt htl)]; exact frozen_of_heap ht 0)
  have HT := Lib.hid ht
  clear ht
  have HC := Lib.hid (hc.bel (((Below.refl _ _).alloc (Nat.le_refl _) (.cells #[.pointer (some ⟨1, 93, none⟩), .pointer (some a), .int .u64 150] 113))))
  clear hc
  go_enter Tryd.func75, Tryd.ntmps75
  go_wp2
  go_loopg [0] l.length (fun n e wr => ∃ r, n = r.length ∧ wr = w.alloc (.cells #[.pointer (some ⟨1, 93, none⟩), .pointer (some a), .int .u64 150] 113) ∧ Ch wr r e (.iface 34 (.int .i64 k)))
  case atStart => exact ⟨l, rfl, rfl, HC.out⟩
  case round =>
    obtain ⟨r, hn, rfl, hch⟩ := hrel
    cases r with
    | nil =>
      cases hch
      clear hn HC
      go_wp2
      go_ret
      exact ⟨rfl, (Upd.set HT.out).then (((Below.refl _ _).alloc (Nat.le_refl _) _).alloc (by simp) _)⟩
    | cons y r =>
      obtain ⟨b, op, at_⟩ := y
      obtain ⟨rfl, v', hb, hr⟩ := hch
      have A := Lib.hid (show gk = r.length + 1 from hn)
      have HB := Lib.hid hb
      have HR := Lib.hid hr
      clear hn HC hb hr
      have hv : ∃ tx x, v' = .iface tx x := by
        have h := HR.out
        cases r with
        | nil => exact ⟨_, _, h⟩
        | cons y r => exact ⟨_, _, h.1⟩
      obtain ⟨tx, x, rfl⟩ := hv
      go_wp2_with fail
      refine (unwrap_any b op at_ _ _ HB.out).mono ?_
      rintro e w' ⟨rfl, rfl⟩
      go_wp2
      go_roundg r.length
      case measure => have := A.out; omega
      case rel => exact ⟨r, rfl, rfl, HR.out⟩
end Go.Proofs.YtfcgfnmokbbcaaaDoor.Fa

namespace Go.Proofs.YtfcgfnmokbbcaaaDoor.Fa
open Go.RowKit Go.Extern.Stop Go.Stop Go.Extern

theorem first1_idle (p : Addr) (w : World) :
    CallsD Tryd.prog 52 #[.pointer (some p)] .returning w fun e u' w' => e = .returned (.tuple #[]) ∧ u' = .returning ∧ w = w' := by
  refine callsD_of_wpS Tryd.func52 rfl fun c₀ cs hu => ?_
  apply wpS_seq
  apply wpS_region
  simp [wpOpsS, go_sem, recoverD, hu, Tryd.ntmps52, Exit.thenS]
  refine wpS_cond (t := false) (by simp [Act.eval, Array.replicate]) ?_
  simp only [Bool.false_eq_true, if_false]
  refine wpS_of_wp (wp_skip ?_)
  cases c₀
  simp_all [bodyPostS, results, Tryd.results52]
theorem errno1_idle (p : Addr) (w : World) :
    CallsD Tryd.prog 54 #[.pointer (some p)] .returning w fun e u' w' => e = .returned (.tuple #[]) ∧ u' = .returning ∧ w = w' := by
  refine callsD_of_wpS Tryd.func54 rfl fun c₀ cs hu => ?_
  apply wpS_seq
  apply wpS_region
  simp [wpOpsS, go_sem, recoverD, hu, Tryd.ntmps54, Exit.thenS]
  refine wpS_cond (t := false) (by simp [Act.eval, Array.replicate]) ?_
  simp only [Bool.false_eq_true, if_false]
  refine wpS_of_wp (wp_skip ?_)
  cases c₀
  simp_all [bodyPostS, results, Tryd.results54]

theorem EG.alloc {w : World} (h : EG w) (o : Obj) : EG (w.alloc o) := h.bel ((Below.refl _ _).alloc (Nat.le_refl _) o)
theorem heap_alloc_last (w : World) (o : Obj) : (w.alloc o).heap[w.heap.size]? = some o := by show (w.heap.push _)[w.heap.size]? = _; simp
theorem Below.after_alloc {w w' : World} {o : Obj} (h : Below (w.alloc o).heap.size (w.alloc o) w') : Below w.heap.size w w' :=
  ((Below.refl _ _).alloc (Nat.le_refl _) o).trans (h.mono (by simp))

theorem Below.target {w w1 w' : World} {o o' : Obj} (hb1 : Below (w.alloc o).heap.size (w.alloc o) w1) (hu : Upd w.heap.size o' w1 w') : Below w.heap.size w w' :=
  (((Below.refl _ _).alloc (Nat.le_refl _) o).trans (hb1.mono (by simp))).trans (hu.below (Nat.le_refl _) (by have := hb1.size; simp at this; omega))

set_option maxHeartbeats 1000000 in
/-- first of a Fault: itself. -/
theorem first_F (e : Addr) (w : World) (hg : EG w) :
    Calls Tryd.prog 30 #[.iface 82 (.pointer (some e))] w fun ev w' => ev = .returned (.pointer (some e)) ∧ Below w.heap.size w w' := by
  have C := Lib.hid (As_PF 82 (.pointer (some e)) true (fun w1 w' => Upd w.heap.size (.cells #[.pointer (some e)] 82 (0, 0)) w1 w') w.heap.size (w.alloc (.cells #[.pointer none] 82)) (hg.alloc _)
    (fun a w1 ha hb => as_F_hit e a w.heap.size (.pointer none) w1 ha (by rw [hb.block _ (by simp)]; exact heap_alloc_last _ _)))
  have HG := Lib.hid hg
  clear hg
  have hmf : ∀ (fn : Fn) (first cap : Array Value) (w : World), (Instr.makeFunc fn first cap).run Tryd.prog w = .ok (.func fn first cap) w := fun _ _ _ _ => rfl
  go_enter_defers Tryd.func30, Tryd.ntmps30
  go_wp2_with fail
  refine C.out.mono ?_
  rintro e1 w' ⟨rfl, w1, hb1, hu⟩
  have h0 : w'.cell? ⟨w.heap.size, 0, none⟩ = some (.pointer (some e)) := by simp [cell_of_heap hu.there]
  have hf : w'.frozen? ⟨w.heap.size, 0, none⟩ = false := frozen_of_heap hu.there 0
  have HB := Lib.hid (Below.target hb1 hu)
  clear hb1 hu
  go_wp2
  refine leaves_cons (f := 52) (args := #[.pointer (some ⟨w.heap.size, 0, none⟩)]) (by simp) (by simp [go_sem]) ?_
  refine (first1_idle _ _).mono ?_
  rintro e2 u' w'' ⟨rfl, rfl, rfl⟩
  simp [Leaves, settle, results, Tryd.results30, go_sem, h0]
  exact HB.out.setCell (Nat.le_refl _) _

set_option maxHeartbeats 1000000 in
/-- first of an Errno: none. -/
theorem first_E (k : Int) (w : World) (hg : EG w) :
    Calls Tryd.prog 30 #[.iface 34 (.int .i64 k)] w fun ev w' => ev = .returned (.pointer none) ∧ Below w.heap.size w w' := by
  have C := Lib.hid (As_PF 34 (.int .i64 k) false (fun w1 w' => Below w1.heap.size w1 w') w.heap.size (w.alloc (.cells #[.pointer none] 82)) (hg.alloc _)
    (fun a w1 _ _ => as_E_missF _ a w.heap.size w1))
  have HG := Lib.hid hg
  clear hg
  have hmf : ∀ (fn : Fn) (first cap : Array Value) (w : World), (Instr.makeFunc fn first cap).run Tryd.prog w = .ok (.func fn first cap) w := fun _ _ _ _ => rfl
  go_enter_defers Tryd.func30, Tryd.ntmps30
  go_wp2_with fail
  refine C.out.mono ?_
  rintro e1 w' ⟨rfl, w1, hb1, hb2⟩
  have hT : w'.heap[w.heap.size]? = some (.cells #[.pointer none] 82 (0, 0)) := by rw [hb2.block _ (by have := hb1.size; simp at this; omega), hb1.block _ (by simp)]; exact heap_alloc_last _ _
  have h0 : w'.cell? ⟨w.heap.size, 0, none⟩ = some (.pointer none) := by simp [cell_of_heap hT]
  have hf : w'.frozen? ⟨w.heap.size, 0, none⟩ = false := frozen_of_heap hT 0
  have HB := Lib.hid (Below.after_alloc (hb1.trans (hb2.mono hb1.size)))
  clear hb1 hb2 hT
  go_wp2
  refine leaves_cons (f := 52) (args := #[.pointer (some ⟨w.heap.size, 0, none⟩)]) (by simp) (by simp [go_sem]) ?_
  refine (first1_idle _ _).mono ?_
  rintro e2 u' w'' ⟨rfl, rfl, rfl⟩
  simp [Leaves, settle, results, Tryd.results30, go_sem, h0]
  exact HB.out.setCell (Nat.le_refl _) _

set_option maxHeartbeats 1000000 in
/-- errno of a chain of faults that ends in the Errno k. -/
theorem errno_E (l : List (Nat × ByteArray × Int)) (v : Value) (k : Int) (w : World) (hg : EG w) (hc : Ch w l v (.iface 34 (.int .i64 k))) :
    Calls Tryd.prog 31 #[v] w fun ev w' => ev = .returned (.int .i64 k) ∧ Below w.heap.size w w' := by
  obtain ⟨tx, x, rfl⟩ := hc.isIface ⟨_, _, rfl⟩
  have C := Lib.hid (As_PE tx x true (fun w1 w' => Upd w.heap.size (.cells #[.int .i64 k] 34 (0, 0)) w1 w') w.heap.size (w.alloc (.cells #[.int .i64 0] 34)) (hg.alloc _)
    (fun a w1 ha hb => as_Ch_hitE l _ k a w.heap.size (.int .i64 0) w1 ((hc.bel ((Below.refl _ _).alloc (Nat.le_refl _) _)).bel hb) ha (by rw [hb.block _ (by simp)]; exact heap_alloc_last _ _)))
  have HG := Lib.hid hg
  have HC := Lib.hid hc
  clear hg hc
  have hmf : ∀ (fn : Fn) (first cap : Array Value) (w : World), (Instr.makeFunc fn first cap).run Tryd.prog w = .ok (.func fn first cap) w := fun _ _ _ _ => rfl
  go_enter_defers Tryd.func31, Tryd.ntmps31
  go_wp2_with fail
  refine C.out.mono ?_
  rintro e1 w' ⟨rfl, w1, hb1, hu⟩
  have h0 : w'.cell? ⟨w.heap.size, 0, none⟩ = some (.int .i64 k) := by simp [cell_of_heap hu.there]
  have hf : w'.frozen? ⟨w.heap.size, 0, none⟩ = false := frozen_of_heap hu.there 0
  have HB := Lib.hid (Below.target hb1 hu)
  clear hb1 hu
  go_wp2
  refine leaves_cons (f := 54) (args := #[.pointer (some ⟨w.heap.size, 0, none⟩)]) (by simp) (by simp [go_sem]) ?_
  refine (errno1_idle _ _).mono ?_
  rintro e2 u' w'' ⟨rfl, rfl, rfl⟩
  simp [Leaves, settle, results, Tryd.results31, go_sem, h0]
  exact HB.out.setCell (Nat.le_refl _) _

/-- Place of a Fault, of an Errno. -/
theorem Place_F (b : Nat) (op : ByteArray) (at_ : Int) (v' : Value) (w : World) (hg : EG w) (hb : w.heap[b]? = some (.cells #[.string op, .int .i64 at_, v'] 84 (0, 0))) :
    Calls Tryd.prog 17 #[.iface 82 (.pointer (some ⟨b, 0, none⟩))] w fun ev w' => ev = .returned (.int .i64 at_) ∧ Below w.heap.size w w' := by
  have C := Lib.hid (first_F ⟨b, 0, none⟩ w hg)
  have HB := Lib.hid hb
  clear hg hb
  go_enter Tryd.func17, Tryd.ntmps17
  go_wp2_with fail
  refine C.out.mono ?_
  rintro e1 w' ⟨rfl, hb1⟩
  have h1 : w'.cell? ⟨b, 1, none⟩ = some (.int .i64 at_) := by rw [hb1.cell (p := ⟨b, 1, none⟩) (lt_of_heap HB.out)]; simp [cell_of_heap HB.out]
  have HB1 := Lib.hid hb1
  clear hb1
  go_wp2
  go_ret
  exact ⟨rfl, HB1.out⟩
theorem Place_E (k : Int) (w : World) (hg : EG w) :
    Calls Tryd.prog 17 #[.iface 34 (.int .i64 k)] w fun ev w' => ev = .returned (.int .i64 (-1)) ∧ Below w.heap.size w w' := by
  have C := Lib.hid (first_E k w hg)
  clear hg
  go_enter Tryd.func17, Tryd.ntmps17
  go_wp2_with fail
  refine C.out.mono ?_
  rintro e1 w' ⟨rfl, hb1⟩
  have HB1 := Lib.hid hb1
  clear hb1
  go_wp2
  go_ret
  exact ⟨rfl, HB1.out⟩
end Go.Proofs.YtfcgfnmokbbcaaaDoor.Fa

namespace Go.Proofs.YtfcgfnmokbbcaaaDoor.Fa
open Go.RowKit Go.Extern.Stop Go.Stop Go.Extern

abbrev ptr (b : Nat) : Value := .pointer (some ⟨b, 0, none⟩)
theorem infoF : (Tryd.prog.info? 82).map (fun i => (i.zero, i.size, i.bytes)) = some (some (.pointer none), 1, 8) := by kernel_rfl

/-- What F gives along a chain: the faults at the blocks bs, and then none; in whatever world has grown from w. -/
def Lst (F : Nat) (w : World) : Value → List Nat → Prop
  | v, [] => ∀ w', Below w.heap.size w w' → Calls Tryd.prog F #[v] w' fun e w'' => e = .returned (.pointer none) ∧ Below w'.heap.size w' w''
  | v, b :: r => (∀ w', Below w.heap.size w w' → Calls Tryd.prog F #[v] w' fun e w'' => e = .returned (ptr b) ∧ Below w'.heap.size w' w'') ∧
      ∃ op at_ v', w.heap[b]? = some (.cells #[.string op, .int .i64 at_, v'] 84 (0, 0)) ∧ Lst F w v' r
/-- What F answers of the value whose list is bs. -/
def hd : List Nat → Value | [] => .pointer none | b :: _ => ptr b
theorem hd_nil : hd [] = .pointer none := rfl
theorem hd_cons (b : Nat) (r : List Nat) : hd (b :: r) = ptr b := rfl
theorem Lst.call {F : Nat} {w : World} {v : Value} {bs : List Nat} (h : Lst F w v bs) : ∀ w', Below w.heap.size w w' → Calls Tryd.prog F #[v] w' fun e w'' => e = .returned (hd bs) ∧ Below w'.heap.size w' w'' := by
  cases bs with
  | nil => exact h
  | cons b r => exact h.1
/-- The faults that are still to come. -/
def Tl (F : Nat) (w : World) : List Nat → Prop
  | [] => True
  | b :: r => ∃ op at_ v', w.heap[b]? = some (.cells #[.string op, .int .i64 at_, v'] 84 (0, 0)) ∧ Lst F w v' r
theorem Lst.tl {F : Nat} {w : World} {v : Value} {bs : List Nat} (h : Lst F w v bs) : Tl F w bs := by
  cases bs with
  | nil => trivial
  | cons b r => exact h.2
/-- The blocks are faults of w. -/
def Flt (w : World) (b : Nat) : Prop := ∃ c, w.heap[b]? = some (.cells c 84 (0, 0))

theorem eqP_other {a b : Nat} (w : World) (hne : a ≠ b) (ha : Flt w a) (hb : Flt w b) :
    (binOp .eql 82 (ptr a) (ptr b)).run Tryd.prog w = .ok (.bool false) w := by
  obtain ⟨ca, ha⟩ := ha
  obtain ⟨cb, hb⟩ := hb
  obtain ⟨j, hj, hjs⟩ := Option.map_eq_some_iff.1 sizeFS
  have h : ∀ d : Nat, (Op.equalIn (d + 1) 82 (ptr a) (ptr b)).run Tryd.prog w = .ok false w := fun d => by
    simp [Op.equalIn, run_underlying Tryd.underlying82, typeInfo, sizeOf, hj, hjs, run_sameAddr_other w (a := ⟨a, 0, none⟩) (b := ⟨b, 0, none⟩) (fun h => hne (congrArg Addr.block h)) ha hb]
  simp only [binOp]
  simp [Op.equal, Op.maxDepth, h 9999]
theorem eqP_nil {a : Nat} (w : World) : (binOp .eql 82 (ptr a) (.pointer none)).run Tryd.prog w = .ok (.bool false) w := by
  have h : ∀ d : Nat, (Op.equalIn (d + 1) 82 (ptr a) (.pointer none)).run Tryd.prog w = .ok false w := fun d => by
    simp [Op.equalIn, run_underlying Tryd.underlying82]
  simp only [binOp]
  simp [Op.equal, Op.maxDepth, h 9999]
/-- The mark: none, or a fault that was there. -/
def Mk (done : List Nat) (m : Value) : Prop := m = .pointer none ∨ ∃ b ∈ done, m = ptr b
theorem Mk.eql {done : List Nat} {m : Value} {b : Nat} {w : World} (h : Mk done m) (hb : b ∉ done) (hf : ∀ x ∈ b :: done, Flt w x) : (binOp .eql 82 (ptr b) m).run Tryd.prog w = .ok (.bool false) w := by
  rcases h with rfl | ⟨c, hc, rfl⟩
  · exact eqP_nil w
  · exact eqP_other w (fun e => hb (e ▸ hc)) (hf b (List.mem_cons_self ..)) (hf c (List.mem_cons_of_mem _ hc))

/-- What walk ends in: the list of the faults, and that it ends. -/
def WalkEnd (w : World) (bs : List Nat) (e : Ending) (w' : World) : Prop :=
  ∃ s, e = .returned (.tuple #[s, .bool true]) ∧ w'.ownsRow w.heap.size 82 1 s bs.length (bs.map ptr) ∧ Below w.heap.size w w'

theorem row_form {w : World} {base : Nat} {e : TypeId} {v : Value} {n : Nat} {xs : List Value} (h : w.ownsRow base e 1 v (n + 1) xs) : ∃ g cap, v = .slice (some ⟨g, 0, none⟩) (n + 1 : Nat) cap := by
  rcases h.2 with ⟨_, h0⟩ | ⟨g, cap, cur, hv, _⟩
  · omega
  · exact ⟨g, cap, hv⟩
theorem cellOneNew (w : World) (x : Value) (t : TypeId) : ∀ j u, [x][j]? = some u → (w.alloc (.cells #[x] t)).cell? ((⟨w.heap.size, 0, none⟩ : Addr).add j) = some u := by
  intro j u hj
  match j, hj with
  | 0, hj => simp at hj; subst hj; simp [Addr.add]
theorem own_bel {w w' : World} {base : Nat} {e : TypeId} {size : Nat} {v : Value} {n : Nat} {xs : List Value} (h : w.ownsRow base e size v n xs) (hb : Below w.heap.size w w') : w'.ownsRow base e size v n xs := by
  obtain ⟨h1, h2⟩ := h
  refine ⟨h1, ?_⟩
  rcases h2 with h2 | ⟨g, cap, cur, hv, hg, hh, r⟩
  · exact Or.inl h2
  · exact Or.inr ⟨g, cap, cur, hv, hg, by rw [hb.block g (lt_of_heap hh)]; exact hh, r⟩
theorem Mk.more {done : List Nat} {m : Value} (h : Mk done m) (b : Nat) : Mk (done ++ [b]) m := by
  rcases h with h | ⟨c, hc, h⟩
  · exact Or.inl h
  · exact Or.inr ⟨c, by simp [hc], h⟩
theorem Mk.last (done : List Nat) (b : Nat) : Mk (done ++ [b]) (ptr b) := Or.inr ⟨b, by simp, rfl⟩
theorem own_more {w : World} {base : Nat} {v : Value} {done : List Nat} {b : Nat} (h : w.ownsRow base 82 1 v (done.length + 1) (done.map ptr ++ [ptr b])) : w.ownsRow base 82 1 v (done ++ [b]).length ((done ++ [b]).map ptr) := by
  simpa using h
/-- The relation at a round's head. -/
structure Rel (F : Nat) (w : World) (bs : List Nat) (n : Nat) (s m f : Value) (wr : World) (done todo : List Nat) : Prop where
  left : n = todo.length
  all : bs = done ++ todo
  own : wr.ownsRow w.heap.size 82 1 s done.length (done.map ptr)
  mark : Mk done m
  here : f = hd todo
  rest : Tl F w todo
  bel : Below w.heap.size w wr

set_option maxRecDepth 100000 in
set_option maxHeartbeats 4000000 in
theorem walk_first (v : Value) (bs : List Nat) (w : World) (hnd : bs.Nodup) (hfl : ∀ b ∈ bs, Flt w b) (hlen : bs.length ≤ 1048576) (hl : Lst 30 w v bs) :
    Calls Tryd.prog 29 #[v, .func (.func 30) #[] #[]] w (WalkEnd w bs) := by
  obtain ⟨i0, hi, hz0, hz1, hz2⟩ := info_parts infoF
  have C0 := Lib.hid (hl.call w (Below.refl _ _))
  have T0 := Lib.hid hl.tl
  have ND := Lib.hid hnd
  have FL := Lib.hid hfl
  have LE := Lib.hid hlen
  clear hl hnd hfl hlen
  go_enter Tryd.func29, Tryd.ntmps29
  go_wp2_with fail
  refine C0.out.mono ?_
  rintro e0 w0 ⟨rfl, hb0⟩
  have B0 := Lib.hid hb0
  clear hb0
  go_wp2
  go_loopg [6, 7, 8] bs.length (fun n s m f wr => ∃ done todo, Rel 30 w bs n s m f wr done todo)
  case atStart => exact ⟨[], bs, ⟨rfl, rfl, World.ownsRow_nil _ _ _ _, Or.inl rfl, rfl, T0.out, B0.out⟩⟩
  case round =>
    obtain ⟨done, todo, hR⟩ := hrel
    cases todo with
    | nil =>
      obtain ⟨h1, h2, h3, h4, rfl, h6, h7⟩ := hR
      have Z := Lib.hid (show bs = done from by simpa using h2)
      have O := Lib.hid h3
      have B := Lib.hid h7
      clear h1 h2 h3 h4 h6 h7
      simp only [hd_nil]
      go_wp2
      go_ret2
      have z := Z.out
      subst z
      exact ⟨_, rfl, O.out, B.out⟩
    | cons b r =>
      obtain ⟨h1, h2, hown, h4, rfl, ⟨op, at_, v', hb, hL⟩, h7⟩ := hR
      have hmem : ∀ x ∈ b :: done, Flt wr x := fun x hx => by
        have hx' : x ∈ bs := by rw [h2]; simp at hx ⊢; rcases hx with rfl | hx <;> simp_all
        obtain ⟨c, hc⟩ := FL.out x hx'
        exact ⟨c, by rw [h7.block x (lt_of_heap hc)]; exact hc⟩
      have hnot : b ∉ done := by
        have := ND.out
        rw [h2] at this
        intro hd'
        exact (List.nodup_append.1 this).2.2 b hd' b (List.mem_cons_self ..) rfl
      have q := Mk.eql h4 hnot hmem
      have hdl : done.length + r.length + 1 ≤ 1048576 := by have := LE.out; rw [h2] at this; simp at this; omega
      have HB := Lib.hid hb
      have HL := Lib.hid hL
      have H1 := Lib.hid (show gk = r.length + 1 from h1)
      have H2 := Lib.hid h2
      have H4 := Lib.hid h4
      have H7 := Lib.hid h7
      clear h1 h2 h4 h7 hmem hnot hb hL
      simp only [hd_cons]
      go_wp2_with (first | (at_builtin; refine wpList_append_own _ rfl _ _ 71 rfl w.heap.size 82 i0 (.pointer none) 1 8 Tryd.underlying71 hi hz0 hz1 hz2 rfl (by decide) _ _ _ rfl (hown.alloc _) ⟨wr.heap.size, 0, none⟩ 1 1 [ptr b] rfl rfl (cellOneNew _ _ _) (fun x hx => by simp at hx; subst hx; rfl) (by unfold maxLen; omega) (by omega) (by have := H7.out.size; simp; omega) ?_) | fail)
      intro v1 w1 hown1 hgrow1 _
      have hx : ∃ g cap, v1 = .slice (some ⟨g, 0, none⟩) (done.length + 1 : Nat) cap := row_form hown1
      obtain ⟨g, cap, hv⟩ := hx
      rw [hv]
      rw [hv] at hown1
      have hbel : Below w.heap.size w w1 := Below.trans H7.out (Below.grown (B := w.heap.size) ((Below.refl _ _).alloc H7.out.size _) hgrow1 (by have := H7.out.size; simp; omega) (fun k hk => (hown.lt k hk).1))
      have h2c : w1.cell? ⟨b, 2, none⟩ = some v' := by rw [hbel.cell (p := ⟨b, 2, none⟩) (lt_of_heap HB.out)]; simp [cell_of_heap HB.out]
      have CC := Lib.hid (HL.out.call w1 hbel)
      have OW := Lib.hid hown1
      have BE := Lib.hid hbel
      clear hown hown1 hgrow1 hbel hv
      go_wp2_with fail
      all_goals
        refine CC.out.mono ?_
        rintro e2 w2 ⟨rfl, hb2⟩
        have B2 := Lib.hid (BE.out.trans (hb2.mono BE.out.size))
        have O2 := Lib.hid (own_more (own_bel OW.out hb2))
        clear hb2
        go_wp2
        go_roundg r.length
        case measure => have := H1.out; omega
        case rel => exact ⟨done ++ [b], r, ⟨rfl, by rw [H2.out]; simp, O2.out, (by first | exact Mk.last done b | exact H4.out.more b), rfl, HL.out.tl, B2.out⟩⟩

end Go.Proofs.YtfcgfnmokbbcaaaDoor.Fa
