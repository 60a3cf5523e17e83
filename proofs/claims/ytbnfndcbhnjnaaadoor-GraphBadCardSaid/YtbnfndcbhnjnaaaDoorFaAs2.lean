/-
  errors.As at a target of type *Errno over a chain of faults that ends in an Errno, or in an errors.New; errors.As itself over errors.as. Condition: package errors' variable holds the handle of the type 'error'.
-/
import Derived.Test.YtbnfndcbhnjnaaaDoorFaAs
import Derived.Deep.LoopGhost
namespace Go.Proofs.YtbnfndcbhnjnaaaDoor.Fa
open Go.RowKit Go.Extern.Stop Go.Stop Go.Extern

/-- What errors.As hands on: errors.as was asked in a world that has only grown. -/
def AsEnd (w : World) (r : Bool) (Q : World → World → Prop) (e : Ending) (w' : World) : Prop := e = .returned (.bool r) ∧ ∃ w1, Below w.heap.size w w1 ∧ Q w1 w'

set_option maxHeartbeats 1000000 in
theorem As_PF (tx : Nat) (x : Value) (r : Bool) (Q : World → World → Prop) (tb : Nat) (w : World) (hg : EG w)
    (h : ∀ a w1, w1.cell? a = some (.pointer (some ⟨tb, 0, none⟩)) → Below w.heap.size w w1 → Calls Tryd.prog 75 #[.iface tx x, .iface 86 (.pointer (some ⟨tb, 0, none⟩)), tv 86 a, ty 71] w1 fun e w' => e = .returned (.bool r) ∧ Q w1 w') :
    Calls Tryd.prog 50 #[.iface tx x, .iface 86 (.pointer (some ⟨tb, 0, none⟩))] w (AsEnd w r Q) := by
  have H := Lib.hid h
  clear h
  have vO := cValueOfPF
  have vT := cVTypePF
  have mK := methodKind
  have k1 := cKindPF
  have k2 := cKindF
  have n8 := cVIsNilPF ⟨w.heap.size, 0, none⟩ ⟨tb, 0, none⟩ ((w.alloc (.cells #[.pointer (some ⟨tb, 0, none⟩)] 86)).alloc (.cells #[.pointer (some ⟨1, 86, none⟩), .pointer (some ⟨w.heap.size, 0, none⟩), .int .u64 150] 109)) (by simp)
  have mE := methodElem
  have e1 := cRElemPF
  have mI := methodImplements
  have i1 := cImplF
  have hlt := hg.pos
  have hg2 : ((w.alloc (.cells #[.pointer (some ⟨tb, 0, none⟩)] 86)).alloc (.cells #[.pointer (some ⟨1, 86, none⟩), .pointer (some ⟨w.heap.size, 0, none⟩), .int .u64 150] 109)).cell? ⟨0, 0, none⟩ = some (.iface 127 (.agg #[.pointer (some ⟨1, 27, none⟩)])) := by
    rw [World.cell?_alloc_lt _ _ ⟨_, 0, none⟩ (by rw [World.size_alloc]; exact Nat.lt_succ_of_lt hlt), World.cell?_alloc_lt _ _ ⟨_, 0, none⟩ hlt]; exact hg
  have HG := Lib.hid hg
  clear hg
  go_enter Tryd.func50, Tryd.ntmps50
  go_wp2_with fail
  refine (H.out ⟨w.heap.size, 0, none⟩ _ ?_ ?_).mono ?_
  · simp
  · exact ((Below.refl _ _).alloc (Nat.le_refl _) _).alloc (by simp) _
  rintro e w' ⟨rfl, hq⟩
  go_wp2
  go_ret
  exact ⟨rfl, _, ((Below.refl _ _).alloc (Nat.le_refl _) _).alloc (by simp) _, hq⟩

set_option maxHeartbeats 1000000 in
theorem As_PE (tx : Nat) (x : Value) (r : Bool) (Q : World → World → Prop) (tb : Nat) (w : World) (hg : EG w)
    (h : ∀ a w1, w1.cell? a = some (.pointer (some ⟨tb, 0, none⟩)) → Below w.heap.size w w1 → Calls Tryd.prog 75 #[.iface tx x, .iface 87 (.pointer (some ⟨tb, 0, none⟩)), tv 87 a, ty 33] w1 fun e w' => e = .returned (.bool r) ∧ Q w1 w') :
    Calls Tryd.prog 50 #[.iface tx x, .iface 87 (.pointer (some ⟨tb, 0, none⟩))] w (AsEnd w r Q) := by
  have H := Lib.hid h
  clear h
  have vO := cValueOfPE
  have vT := cVTypePE
  have mK := methodKind
  have k1 := cKindPE
  have k2 := cKindE
  have n8 := cVIsNilPE ⟨w.heap.size, 0, none⟩ ⟨tb, 0, none⟩ ((w.alloc (.cells #[.pointer (some ⟨tb, 0, none⟩)] 87)).alloc (.cells #[.pointer (some ⟨1, 87, none⟩), .pointer (some ⟨w.heap.size, 0, none⟩), .int .u64 150] 109)) (by simp)
  have mE := methodElem
  have e1 := cRElemPE
  have mI := methodImplements
  have i1 := cImplE
  have hlt := hg.pos
  have hg2 : ((w.alloc (.cells #[.pointer (some ⟨tb, 0, none⟩)] 87)).alloc (.cells #[.pointer (some ⟨1, 87, none⟩), .pointer (some ⟨w.heap.size, 0, none⟩), .int .u64 150] 109)).cell? ⟨0, 0, none⟩ = some (.iface 127 (.agg #[.pointer (some ⟨1, 27, none⟩)])) := by
    rw [World.cell?_alloc_lt _ _ ⟨_, 0, none⟩ (by rw [World.size_alloc]; exact Nat.lt_succ_of_lt hlt), World.cell?_alloc_lt _ _ ⟨_, 0, none⟩ hlt]; exact hg
  have HG := Lib.hid hg
  clear hg
  go_enter Tryd.func50, Tryd.ntmps50
  go_wp2_with fail
  refine (H.out ⟨w.heap.size, 0, none⟩ _ ?_ ?_).mono ?_
  · simp
  · exact ((Below.refl _ _).alloc (Nat.le_refl _) _).alloc (by simp) _
  rintro e w' ⟨rfl, hq⟩
  go_wp2
  go_ret
  exact ⟨rfl, _, ((Below.refl _ _).alloc (Nat.le_refl _) _).alloc (by simp) _, hq⟩

set_option maxHeartbeats 2000000 in
theorem as_Ch_hitE (l : List (Nat × ByteArray × Int)) (v : Value) (k : Int) (a : Addr) (tb : Nat) (old : Value) (w : World) (hc : Ch w l v (.iface 33 (.int .i64 k)))
    (ha : w.cell? a = some (.pointer (some ⟨tb, 0, none⟩))) (ht : w.heap[tb]? = some (.cells #[old] 33 (0, 0))) :
    Calls Tryd.prog 75 #[v, .iface 87 (.pointer (some ⟨tb, 0, none⟩)), tv 87 a, ty 33] w fun ev w' => ev = .returned (.bool true) ∧ Upd tb (.cells #[.int .i64 k] 33 (0, 0)) w w' := by
  have tO := cTypeOfE
  have tO2 := cTypeOfF
  have mA := methodAssignableTo
  have aF := cAssignEE
  have aF2 := cAssignFE
  have vF := cValueOfE
  have n1 := noAsF
  have n2 := hasUnwF
  have mU := methodUnwrapF
  have alt : a.block < w.heap.size := by
    rcases Nat.lt_or_ge a.block w.heap.size with h | h
    · exact h
    · simp [World.cell?, Array.getElem?_eq_none h] at ha
  have el := cVElemPE a ⟨tb, 0, none⟩ (w.alloc (.cells #[.pointer (some ⟨1, 87, none⟩), .pointer (some a), .int .u64 150] 109)) (by rw [World.cell?_alloc_lt _ _ a alt]; exact ha)
  have htl := lt_of_heap ht
  have ht0 : w.cell? ⟨tb, 0, none⟩ = some old := by simp [cell_of_heap ht]
  have st := cSetE ⟨tb, 0, none⟩ ⟨w.heap.size + 1, 0, none⟩ k old ((w.alloc (.cells #[.pointer (some ⟨1, 87, none⟩), .pointer (some a), .int .u64 150] 109)).alloc (.cells #[.int .i64 k] 33))
    (by rw [World.cell?_alloc_at _ _ _ _ (by simp)]; rfl)
    (by rw [World.cell?_alloc_lt _ _ ⟨tb, 0, none⟩ (by simp; omega), World.cell?_alloc_lt _ _ ⟨tb, 0, none⟩ htl]; exact ht0)
    (by rw [World.frozen?_alloc_old _ _ ⟨tb, 0, none⟩ (by simp; omega), World.frozen?_alloc_old _ _ ⟨tb, 0, none⟩ (Nat.ne_of_lt htl)]; exact frozen_of_heap ht 0)
  have HT := Lib.hid ht
  clear ht
  have HC := Lib.hid (hc.bel (((Below.refl _ _).alloc (Nat.le_refl _) (.cells #[.pointer (some ⟨1, 87, none⟩), .pointer (some a), .int .u64 150] 109))))
  clear hc
  go_enter Tryd.func75, Tryd.ntmps75
  go_wp2
  go_loopg [0] l.length (fun n e wr => ∃ r, n = r.length ∧ wr = w.alloc (.cells #[.pointer (some ⟨1, 87, none⟩), .pointer (some a), .int .u64 150] 109) ∧ Ch wr r e (.iface 33 (.int .i64 k)))
  case atStart => exact ⟨l, rfl, rfl, HC.out⟩
  case round =>
    obtain ⟨r, hn, rfl, hch⟩ := hrel
    cases r with
    | nil =>
      cases hch
      clear hn HC
      go_wp2
      go_ret
      exact ⟨rfl, (Upd.set HT.out).then (((Below.refl _ _).alloc (Nat.le_refl _) _).alloc (by simp) _)⟩
    | cons y r =>
      obtain ⟨b, op, at_⟩ := y
      obtain ⟨rfl, v', hb, hr⟩ := hch
      have A := Lib.hid (show gk = r.length + 1 from hn)
      have HB := Lib.hid hb
      have HR := Lib.hid hr
      clear hn HC hb hr
      have hv : ∃ tx x, v' = .iface tx x := by
        have h := HR.out
        cases r with
        | nil => exact ⟨_, _, h⟩
        | cons y r => exact ⟨_, _, h.1⟩
      obtain ⟨tx, x, rfl⟩ := hv
      go_wp2_with fail
      refine (unwrap_any b op at_ _ _ HB.out).mono ?_
      rintro e w' ⟨rfl, rfl⟩
      go_wp2
      go_roundg r.length
      case measure => have := A.out; omega
      case rel => exact ⟨r, rfl, rfl, HR.out⟩
end Go.Proofs.YtbnfndcbhnjnaaaDoor.Fa
