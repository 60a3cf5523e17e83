/-
  errors.Join of an errors.New and a Fault; what errors.As, errors.Is, first and Kind say of it. Condition: package errors' variable holds the handle of the type 'error' where errors.As is asked.
-/
import Derived.Test.YtiiobgbebpapnaaDoorFaMore
namespace Go.Proofs.YtiiobgbebpapnaaDoor.Fa
open Go.RowKit Go.Extern.Stop Go.Stop Go.Extern

/-- The world behind Join. -/
def joinW (w : World) (p q : Nat) : World :=
  (((w.alloc (.cells #[.iface 70 (ptr p), .iface 38 (ptr q)] 23)).alloc (.cells #[.slice (some ⟨w.heap.size, 0, none⟩) 2 2] 76)).alloc (.cells #[.iface 70 (ptr p)] 23)).alloc (.cells #[.iface 38 (ptr q)] 23)
/-- A join of an errors.New and a Fault, in memory. -/
def Jn (w : World) (j p q : Nat) : Prop := ∃ g, w.heap[g]? = some (.cells #[.iface 70 (ptr p), .iface 38 (ptr q)] 23 (0, 0)) ∧ w.heap[j]? = some (.cells #[.slice (some ⟨g, 0, none⟩) 2 2] 76 (0, 0))
theorem Jn.bel {w w' : World} {j p q : Nat} (h : Jn w j p q) (hb : Below w.heap.size w w') : Jn w' j p q := by
  obtain ⟨g, h1, h2⟩ := h
  exact ⟨g, by rw [hb.block g (lt_of_heap h1)]; exact h1, by rw [hb.block j (lt_of_heap h2)]; exact h2⟩
theorem joinW_below (w : World) (p q : Nat) : Below w.heap.size w (joinW w p q) :=
  ((((Below.refl _ _).alloc (Nat.le_refl _) _).alloc (by simp) _).alloc (by simp; omega) _).alloc (by simp; omega) _
theorem joinW_at (w : World) (p q : Nat) : Jn (joinW w p q) (w.heap.size + 1) p q := by
  have hb : Below ((w.alloc (.cells #[.iface 70 (ptr p), .iface 38 (ptr q)] 23)).alloc (.cells #[.slice (some ⟨w.heap.size, 0, none⟩) 2 2] 76)).heap.size ((w.alloc (.cells #[.iface 70 (ptr p), .iface 38 (ptr q)] 23)).alloc (.cells #[.slice (some ⟨w.heap.size, 0, none⟩) 2 2] 76)) (joinW w p q) :=
    ((Below.refl _ _).alloc (Nat.le_refl _) _).alloc (by simp) _
  refine ⟨w.heap.size, ?_, ?_⟩
  · rw [hb.block _ (by simp; omega), Below.heap_alloc _ _ _ (by simp)]
    exact heap_alloc_last _ _
  · rw [hb.block _ (by simp)]
    have h := heap_alloc_last (w.alloc (.cells #[.iface 70 (ptr p), .iface 38 (ptr q)] 23)) (.cells #[.slice (some ⟨w.heap.size, 0, none⟩) 2 2] 76)
    rw [World.size_alloc] at h
    exact h

set_option maxRecDepth 100000 in
set_option maxHeartbeats 4000000 in
theorem Join_any (a p q : Nat) (w : World) (h0 : w.cell? ⟨a, 0, none⟩ = some (.iface 70 (ptr p))) (h1 : w.cell? ⟨a, 1, none⟩ = some (.iface 38 (ptr q))) :
    Calls Tryd.prog 20 #[.slice (some ⟨a, 0, none⟩) 2 2] w fun e w' => e = .returned (.iface 74 (ptr (w.heap.size + 1))) ∧ w' = joinW w p q := by
  have hmk : ∀ w : World, (Instr.makeSlice 73 (.int .i64 0) (.int .i64 2)).run Tryd.prog w = .ok (.slice (some ⟨w.heap.size, 0, none⟩) 0 2) (w.alloc (.cells #[.nilIface, .nilIface] 23)) := fun _ => by kernel_rfl
  have ha : a < w.heap.size := by
    rcases Nat.lt_or_ge a w.heap.size with h | h
    · exact h
    · simp [World.cell?, Array.getElem?_eq_none h] at h0
  have g2 : ∀ o1 o2 : Obj, ((w.alloc o1).alloc o2).cell? ⟨a, 0, none⟩ = some (.iface 70 (ptr p)) := fun o1 o2 => by
    rw [World.cell?_alloc_lt _ _ ⟨a, 0, none⟩ (by rw [World.size_alloc]; exact Nat.lt_succ_of_lt ha), World.cell?_alloc_lt _ _ ⟨a, 0, none⟩ ha]; exact h0
  have g3 : ∀ o1 o2 o3 : Obj, (((w.alloc o1).alloc o2).alloc o3).cell? ⟨a, 1, none⟩ = some (.iface 38 (ptr q)) := fun o1 o2 o3 => by
    rw [World.cell?_alloc_lt _ _ ⟨a, 1, none⟩ (by rw [World.size_alloc, World.size_alloc]; exact Nat.lt_succ_of_lt (Nat.lt_succ_of_lt ha)), World.cell?_alloc_lt _ _ ⟨a, 1, none⟩ (by rw [World.size_alloc]; exact Nat.lt_succ_of_lt ha), World.cell?_alloc_lt _ _ ⟨a, 1, none⟩ ha]; exact h1
  go_enter Tryd.func20, Tryd.ntmps20
  go_wp2
  refine wp_loop_rounds 3 ?_
  rw [rounds_succ]
  go_wp2
  rw [rounds_succ]
  go_wp2
  rw [rounds_succ]
  go_wp2
  refine wp_loop_rounds 3 ?_
  rw [rounds_succ]
  go_wp2
  rw [rounds_succ]
  go_wp2
  rw [rounds_succ]
  go_wp2
  go_ret
  exact ⟨rfl, rfl⟩

theorem joinUnwrap_any (j : Nat) (s : Value) (w : World) (hb : w.heap[j]? = some (.cells #[s] 76 (0, 0))) (hs : ∃ g, s = .slice (some ⟨g, 0, none⟩) 2 2) :
    Calls Tryd.prog 78 #[ptr j] w fun e w' => e = .returned s ∧ w = w' := by
  obtain ⟨g, rfl⟩ := hs
  have h2 : w.cell? ⟨j, 0, none⟩ = some (.slice (some ⟨g, 0, none⟩) 2 2) := by simp [cell_of_heap hb]
  have HB := Lib.hid hb
  clear hb
  go_enter Tryd.func78, Tryd.ntmps78
  go_wp2
  go_ret
  exact ⟨rfl, rfl⟩

set_option maxRecDepth 100000 in
set_option maxHeartbeats 4000000 in
/-- errors.As at a Fault, of a join: the Fault in it. -/
theorem as_J_hitF (j p q : Nat) (a : Addr) (tb : Nat) (old : Value) (w : World) (hj : Jn w j p q) (ha : w.cell? a = some (.pointer (some ⟨tb, 0, none⟩))) (ht : w.heap[tb]? = some (.cells #[old] 38 (0, 0))) :
    Calls Tryd.prog 29 #[.iface 74 (ptr j), .iface 40 (.pointer (some ⟨tb, 0, none⟩)), tv 40 a, ty 38] w fun ev w' => ev = .returned (.bool true) ∧ Upd tb (.cells #[ptr q] 38 (0, 0)) w w' := by
  have tO := cTypeOfJ
  have mA := methodAssignableTo
  have aF := cAssignJF
  have n1 := noAsJ
  have n2 := noUnwJ
  have n3 := hasUnwsJ
  have mU := methodUnwrapJ
  obtain ⟨bx, hbx⟩ : ∃ o : Obj, o = .cells #[.pointer (some ⟨4, 40, none⟩), .pointer (some a), .int .u64 150] 61 := ⟨_, rfl⟩
  have hb1 : Below w.heap.size w (w.alloc bx) := (Below.refl _ _).alloc (Nat.le_refl _) _
  have alt : a.block < w.heap.size := by
    rcases Nat.lt_or_ge a.block w.heap.size with h | h
    · exact h
    · simp [World.cell?, Array.getElem?_eq_none h] at ha
  have htl := lt_of_heap ht
  have hj1 := hj.bel hb1
  obtain ⟨g, hg1, hg2⟩ := hj1
  have hlast := heap_alloc_last w bx
  have AL := Lib.hid alt
  have TL := Lib.hid htl
  have HA := Lib.hid (show (w.alloc bx).cell? a = some (.pointer (some ⟨tb, 0, none⟩)) by rw [World.cell?_alloc_lt _ _ a alt]; exact ha)
  have HT := Lib.hid (show (w.alloc bx).heap[tb]? = some (.cells #[old] 38 (0, 0)) by rw [hb1.block _ htl]; exact ht)
  have E1 := Lib.hid hbx
  have G1 := Lib.hid hg1
  have G2 := Lib.hid hg2
  have LA := Lib.hid (show (w.alloc bx).heap[w.heap.size]? = some (.cells #[.pointer (some ⟨4, 40, none⟩), .pointer (some a), .int .u64 150] 61 (0, 0)) by rw [hlast, hbx])
  have B1 := Lib.hid hb1
  have hnw : w.heap.size < (w.alloc bx).heap.size := by simp
  have NW := Lib.hid hnw
  clear ha ht hj hbx alt htl hg1 hg2 hlast hb1 hnw
  go_enter Tryd.func29, Tryd.ntmps29
  go_wp2
  rw [← E1.out]
  generalize w.alloc bx = W at HA HT G1 G2 LA B1 NW ⊢
  clear E1
  refine wp_loop_rounds 1 ?_
  rw [rounds_succ]
  go_wp2_with fail
  refine (joinUnwrap_any j _ _ G2.out ⟨g, rfl⟩).mono ?_
  rintro e1 w1 ⟨rfl, rfl⟩
  have s0 : W.cell? ⟨g, 0, none⟩ = some (.iface 70 (ptr p)) := by simp [cell_of_heap G1.out]
  have l0 : W.cell? ⟨w.heap.size, 0, none⟩ = some (.pointer (some ⟨4, 40, none⟩)) := by simp [cell_of_heap LA.out]
  have l1 : W.cell? ⟨w.heap.size, 1, none⟩ = some (.pointer (some a)) := by simp [cell_of_heap LA.out]
  have l2 : W.cell? ⟨w.heap.size, 2, none⟩ = some (.int .u64 150) := by simp [cell_of_heap LA.out]
  go_wp2
  refine wp_loop_rounds 2 ?_
  rw [rounds_succ]
  go_wp2_with fail
  refine (as_ES_missF _ _ _ _).mono ?_
  rintro e2 w2 ⟨rfl, hb2⟩
  have m1 : w2.cell? ⟨g, 1, none⟩ = some (.iface 38 (ptr q)) := by rw [hb2.cell (p := ⟨g, 1, none⟩) (lt_of_heap G1.out)]; simp [cell_of_heap G1.out]
  have k0 : w2.cell? ⟨w.heap.size, 0, none⟩ = some (.pointer (some ⟨4, 40, none⟩)) := by rw [hb2.cell (p := ⟨w.heap.size, 0, none⟩) NW.out]; exact l0
  have k1 : w2.cell? ⟨w.heap.size, 1, none⟩ = some (.pointer (some a)) := by rw [hb2.cell (p := ⟨w.heap.size, 1, none⟩) NW.out]; exact l1
  have k2 : w2.cell? ⟨w.heap.size, 2, none⟩ = some (.int .u64 150) := by rw [hb2.cell (p := ⟨w.heap.size, 2, none⟩) NW.out]; exact l2
  have HA2 := Lib.hid (show w2.cell? a = some (.pointer (some ⟨tb, 0, none⟩)) by rw [hb2.cell (Nat.lt_of_lt_of_le AL.out B1.out.size)]; exact HA.out)
  have HT2 := Lib.hid (show w2.heap[tb]? = some (.cells #[old] 38 (0, 0)) by rw [hb2.block _ (Nat.lt_of_lt_of_le TL.out B1.out.size)]; exact HT.out)
  have B2 := Lib.hid (B1.out.trans (hb2.mono B1.out.size))
  clear s0 l0 l1 l2 hb2
  go_wp2
  rw [rounds_succ]
  go_wp2_with fail
  refine (as_F_hit _ _ _ old _ HA2.out HT2.out).mono ?_
  rintro e3 w3 ⟨rfl, hu⟩
  have U3 := Lib.hid (Upd.after B2.out hu)
  clear hu
  go_wp2
  go_ret
  exact ⟨rfl, U3.out⟩
end Go.Proofs.YtiiobgbebpapnaaDoor.Fa
