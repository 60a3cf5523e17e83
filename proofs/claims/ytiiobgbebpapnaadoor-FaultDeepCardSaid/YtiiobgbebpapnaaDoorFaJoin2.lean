/-
  errors.As at an Errno, errors.Is, first, errno and Kind over chains that end in a join of an errors.New and a Fault. Condition: package errors' variable holds the handle of the type 'error' where errors.As is asked.
-/
import Derived.Test.YtiiobgbebpapnaaDoorFaJoin
namespace Go.Proofs.YtiiobgbebpapnaaDoor.Fa
open Go.RowKit Go.Extern.Stop Go.Stop Go.Extern

set_option maxRecDepth 100000 in
set_option maxHeartbeats 8000000 in
theorem as_ChJ_hitE (l lq : List (Nat × ByteArray × Int)) (v : Value) (j p q : Nat) (k : Int) (a : Addr) (tb : Nat) (old : Value) (w : World) (hc : Ch w l v (.iface 74 (ptr j))) (hj : Jn w j p q)
    (hq : Ch w lq (.iface 38 (ptr q)) (.iface 25 (.int .i64 k))) (ha : w.cell? a = some (.pointer (some ⟨tb, 0, none⟩))) (ht : w.heap[tb]? = some (.cells #[old] 25 (0, 0))) :
    Calls Tryd.prog 29 #[v, .iface 77 (.pointer (some ⟨tb, 0, none⟩)), tv 77 a, ty 25] w fun ev w' => ev = .returned (.bool true) ∧ Upd tb (.cells #[.int .i64 k] 25 (0, 0)) w w' := by
  have tO := cTypeOfJ
  have tO2 := cTypeOfF
  have mA := methodAssignableTo
  have aF := cAssignJE
  have aF2 := cAssignFE
  have n1 := noAsJ
  have n2 := noUnwJ
  have n3 := hasUnwsJ
  have mU := methodUnwrapJ
  have n4 := noAsF
  have n5 := hasUnwF
  have mU2 := methodUnwrapF
  obtain ⟨bx, hbx⟩ : ∃ o : Obj, o = .cells #[.pointer (some ⟨4, 77, none⟩), .pointer (some a), .int .u64 150] 61 := ⟨_, rfl⟩
  have hb1 : Below w.heap.size w (w.alloc bx) := (Below.refl _ _).alloc (Nat.le_refl _) _
  have alt : a.block < w.heap.size := by
    rcases Nat.lt_or_ge a.block w.heap.size with h | h
    · exact h
    · simp [World.cell?, Array.getElem?_eq_none h] at ha
  have htl := lt_of_heap ht
  obtain ⟨g, hg1, hg2⟩ := hj.bel hb1
  have hlast := heap_alloc_last w bx
  have AL := Lib.hid alt
  have TL := Lib.hid htl
  have HA := Lib.hid (show (w.alloc bx).cell? a = some (.pointer (some ⟨tb, 0, none⟩)) by rw [World.cell?_alloc_lt _ _ a alt]; exact ha)
  have HT := Lib.hid (show (w.alloc bx).heap[tb]? = some (.cells #[old] 25 (0, 0)) by rw [hb1.block _ htl]; exact ht)
  have E1 := Lib.hid hbx
  have G1 := Lib.hid hg1
  have G2 := Lib.hid hg2
  have LA := Lib.hid (show (w.alloc bx).heap[w.heap.size]? = some (.cells #[.pointer (some ⟨4, 77, none⟩), .pointer (some a), .int .u64 150] 61 (0, 0)) by rw [hlast, hbx])
  have B1 := Lib.hid hb1
  have HC := Lib.hid (hc.bel hb1)
  have HQ := Lib.hid (hq.bel hb1)
  have hnw : w.heap.size < (w.alloc bx).heap.size := by simp
  have NW := Lib.hid hnw
  clear ha ht hj hbx alt htl hg1 hg2 hlast hb1 hnw hc hq
  go_enter Tryd.func29, Tryd.ntmps29
  go_wp2
  rw [← E1.out]
  generalize w.alloc bx = W at HA HT G1 G2 LA B1 NW HC HQ ⊢
  clear E1
  go_loopg [0] l.length (fun n e wr => ∃ r, n = r.length ∧ wr = W ∧ Ch wr r e (.iface 74 (ptr j)))
  case atStart => exact ⟨l, rfl, rfl, HC.out⟩
  case round =>
    obtain ⟨r, hn, rfl, hch⟩ := hrel
    cases r with
    | nil =>
      cases hch
      clear hn HC
      go_wp2_with fail
      refine (joinUnwrap_any j _ _ G2.out ⟨g, rfl⟩).mono ?_
      rintro e1 w1 ⟨rfl, rfl⟩
      have s0 : wr.cell? ⟨g, 0, none⟩ = some (.iface 70 (ptr p)) := by simp [cell_of_heap G1.out]
      have l0 : wr.cell? ⟨w.heap.size, 0, none⟩ = some (.pointer (some ⟨4, 77, none⟩)) := by simp [cell_of_heap LA.out]
      have l1 : wr.cell? ⟨w.heap.size, 1, none⟩ = some (.pointer (some a)) := by simp [cell_of_heap LA.out]
      have l2 : wr.cell? ⟨w.heap.size, 2, none⟩ = some (.int .u64 150) := by simp [cell_of_heap LA.out]
      go_wp2
      refine wp_loop_rounds 2 ?_
      rw [rounds_succ]
      go_wp2_with fail
      refine (as_ES_missE _ _ _ _).mono ?_
      rintro e2 w2 ⟨rfl, hb2⟩
      have m1 : w2.cell? ⟨g, 1, none⟩ = some (.iface 38 (ptr q)) := by rw [hb2.cell (p := ⟨g, 1, none⟩) (lt_of_heap G1.out)]; simp [cell_of_heap G1.out]
      have k0 : w2.cell? ⟨w.heap.size, 0, none⟩ = some (.pointer (some ⟨4, 77, none⟩)) := by rw [hb2.cell (p := ⟨w.heap.size, 0, none⟩) NW.out]; exact l0
      have k1 : w2.cell? ⟨w.heap.size, 1, none⟩ = some (.pointer (some a)) := by rw [hb2.cell (p := ⟨w.heap.size, 1, none⟩) NW.out]; exact l1
      have k2 : w2.cell? ⟨w.heap.size, 2, none⟩ = some (.int .u64 150) := by rw [hb2.cell (p := ⟨w.heap.size, 2, none⟩) NW.out]; exact l2
      have HA2 := Lib.hid (show w2.cell? a = some (.pointer (some ⟨tb, 0, none⟩)) by rw [hb2.cell (Nat.lt_of_lt_of_le AL.out B1.out.size)]; exact HA.out)
      have HT2 := Lib.hid (show w2.heap[tb]? = some (.cells #[old] 25 (0, 0)) by rw [hb2.block _ (Nat.lt_of_lt_of_le TL.out B1.out.size)]; exact HT.out)
      have HQ2 := Lib.hid (HQ.out.bel hb2)
      have B2 := Lib.hid (B1.out.trans (hb2.mono B1.out.size))
      clear s0 l0 l1 l2 hb2
      go_wp2
      rw [rounds_succ]
      go_wp2_with fail
      refine (as_Ch_hitE lq _ k _ _ old _ HQ2.out HA2.out HT2.out).mono ?_
      rintro e3 w3 ⟨rfl, hu⟩
      have U3 := Lib.hid (Upd.after B2.out hu)
      clear hu
      go_wp2
      go_ret
      exact ⟨rfl, U3.out⟩
    | cons y r =>
      obtain ⟨b, op, at_⟩ := y
      obtain ⟨rfl, v', hb, hr⟩ := hch
      have A := Lib.hid (show gk = r.length + 1 from hn)
      have HB := Lib.hid hb
      have HR := Lib.hid hr
      clear hn HC hb hr
      obtain ⟨tx, x, rfl⟩ := HR.out.isIface ⟨_, _, rfl⟩
      go_wp2_with fail
      refine (unwrap_any b op at_ _ _ HB.out).mono ?_
      rintro e w' ⟨rfl, rfl⟩
      go_wp2
      go_roundg r.length
      case measure => have := A.out; omega
      case rel => exact ⟨r, rfl, rfl, HR.out⟩

/-- errors.Is at an Errno, of an errors.New: false. -/
theorem is_ES_missE (k : Addr) (j : Int) (w : World) :
    Calls Tryd.prog 25 #[.iface 70 (.pointer (some k)), .iface 25 (.int .i64 j), .bool true] w fun ev w' => ev = .returned (.bool false) ∧ w = w' := by
  have q2 := fun x => eqTypes 70 25 (.pointer (some x)) (.int .i64 j) (by decide)
  have n1 := noIsES
  have n2 := noUnwES
  have n3 := noUnwsES
  go_enter Tryd.func25, Tryd.ntmps25
  go_wp2
  refine wp_loop_rounds 1 ?_
  rw [rounds_succ]
  go_wp2
  go_ret
  exact ⟨rfl, rfl⟩
theorem is_Ch_E_same (l : List (Nat × ByteArray × Int)) (v : Value) (k : Int) (w : World) (hc : Ch w l v (.iface 25 (.int .i64 k))) :
    Calls Tryd.prog 25 #[v, .iface 25 (.int .i64 k), .bool true] w fun ev w' => ev = .returned (.bool true) ∧ w = w' := by
  have h := is_Ch_E l v k k w hc
  rw [beq_self_eq_true] at h
  exact h

set_option maxRecDepth 100000 in
set_option maxHeartbeats 8000000 in
theorem is_ChJ_E (l lq : List (Nat × ByteArray × Int)) (v : Value) (j p q : Nat) (k : Int) (w : World) (hc : Ch w l v (.iface 74 (ptr j))) (hj : Jn w j p q)
    (hq : Ch w lq (.iface 38 (ptr q)) (.iface 25 (.int .i64 k))) :
    Calls Tryd.prog 25 #[v, .iface 25 (.int .i64 k), .bool true] w fun ev w' => ev = .returned (.bool true) ∧ w = w' := by
  have q2 := fun x => eqTypes 38 25 (.pointer (some x)) (.int .i64 k) (by decide)
  have q3 := fun x => eqTypes 74 25 (.pointer (some x)) (.int .i64 k) (by decide)
  have n1 := noIsF
  have n2 := hasUnwF
  have mU := methodUnwrapF
  have n3 := noIsJ
  have n4 := noUnwJ
  have n5 := hasUnwsJ
  have mU2 := methodUnwrapJ
  obtain ⟨g, hg1, hg2⟩ := hj
  have G1 := Lib.hid hg1
  have G2 := Lib.hid hg2
  have HC := Lib.hid hc
  have HQ := Lib.hid hq
  clear hg1 hg2 hc hq
  go_enter Tryd.func25, Tryd.ntmps25
  go_wp2
  go_loopg [0] l.length (fun n e wr => ∃ r, n = r.length ∧ wr = w ∧ Ch wr r e (.iface 74 (ptr j)))
  case atStart => exact ⟨l, rfl, rfl, HC.out⟩
  case round =>
    obtain ⟨r, hn, rfl, hch⟩ := hrel
    cases r with
    | nil =>
      cases hch
      clear hn HC
      go_wp2_with fail
      refine (joinUnwrap_any j _ _ G2.out ⟨g, rfl⟩).mono ?_
      rintro e1 w1 ⟨rfl, rfl⟩
      have s0 : wr.cell? ⟨g, 0, none⟩ = some (.iface 70 (ptr p)) := by simp [cell_of_heap G1.out]
      have s1 : wr.cell? ⟨g, 1, none⟩ = some (.iface 38 (ptr q)) := by simp [cell_of_heap G1.out]
      go_wp2
      refine wp_loop_rounds 2 ?_
      rw [rounds_succ]
      go_wp2_with fail
      refine (is_ES_missE _ _ _).mono ?_
      rintro e2 w2 ⟨rfl, rfl⟩
      go_wp2
      rw [rounds_succ]
      go_wp2_with fail
      refine (is_Ch_E_same lq _ k _ HQ.out).mono ?_
      rintro e3 w3 ⟨rfl, rfl⟩
      go_wp2
      go_ret
      exact ⟨rfl, rfl⟩
    | cons y r =>
      obtain ⟨b, op, at_⟩ := y
      obtain ⟨rfl, v', hb, hr⟩ := hch
      have A := Lib.hid (show gk = r.length + 1 from hn)
      have HB := Lib.hid hb
      have HR := Lib.hid hr
      clear hn HC hb hr
      obtain ⟨tx, x, rfl⟩ := HR.out.isIface ⟨_, _, rfl⟩
      go_wp2_with fail
      refine (unwrap_any b op at_ _ _ HB.out).mono ?_
      rintro e w' ⟨rfl, rfl⟩
      go_wp2
      go_roundg r.length
      case measure => have := A.out; omega
      case rel => exact ⟨r, rfl, rfl, HR.out⟩
theorem Is_ChJ_E (l lq : List (Nat × ByteArray × Int)) (v : Value) (j p q : Nat) (k : Int) (w : World) (hc : Ch w l v (.iface 74 (ptr j))) (hj : Jn w j p q)
    (hq : Ch w lq (.iface 38 (ptr q)) (.iface 25 (.int .i64 k))) :
    Calls Tryd.prog 12 #[v, .iface 25 (.int .i64 k)] w fun ev w' => ev = .returned (.bool true) ∧ w = w' := by
  obtain ⟨tx, x, rfl⟩ := hc.isIface ⟨_, _, rfl⟩
  have C := Lib.hid (is_ChJ_E l lq _ j p q k w hc hj hq)
  clear hc hj hq
  have tO := cTypeOfE
  have mC := methodComparable
  have cC := cComparableE
  go_enter Tryd.func12, Tryd.ntmps12
  go_wp2_with fail
  refine C.out.mono ?_
  rintro e w' ⟨rfl, rfl⟩
  go_wp2
  go_ret
  exact ⟨rfl, rfl⟩

set_option maxHeartbeats 1000000 in
/-- first of a join: the Fault in it. -/
theorem first_J (j p q : Nat) (w : World) (hg : EG w) (hj : Jn w j p q) :
    Calls Tryd.prog 22 #[.iface 74 (ptr j)] w fun ev w' => ev = .returned (ptr q) ∧ Below w.heap.size w w' := by
  have C := Lib.hid (As_PF 74 (ptr j) true (fun w1 w' => Upd w.heap.size (.cells #[ptr q] 38 (0, 0)) w1 w') w.heap.size (w.alloc (.cells #[.pointer none] 38)) (hg.alloc _)
    (fun a w1 ha hb => as_J_hitF j p q a w.heap.size (.pointer none) w1 ((hj.bel ((Below.refl _ _).alloc (Nat.le_refl _) _)).bel hb) ha (by rw [hb.block _ (by simp)]; exact heap_alloc_last _ _)))
  clear hg hj
  have hmf : ∀ (fn : Fn) (first cap : Array Value) (w : World), (Instr.makeFunc fn first cap).run Tryd.prog w = .ok (.func fn first cap) w := fun _ _ _ _ => rfl
  go_enter_defers Tryd.func22, Tryd.ntmps22
  go_wp2_with fail
  refine C.out.mono ?_
  rintro e1 w' ⟨rfl, w1, hb1, hu⟩
  have h0 : w'.cell? ⟨w.heap.size, 0, none⟩ = some (ptr q) := by simp [cell_of_heap hu.there]
  have hf : w'.frozen? ⟨w.heap.size, 0, none⟩ = false := frozen_of_heap hu.there 0
  have HB := Lib.hid (Below.target hb1 hu)
  clear hb1 hu
  go_wp2
  refine leaves_cons (f := 30) (args := #[.pointer (some ⟨w.heap.size, 0, none⟩)]) (by simp) (by simp [go_sem]) ?_
  refine (first1_idle _ _).mono ?_
  rintro e2 u' w'' ⟨rfl, rfl, rfl⟩
  simp [Leaves, settle, results, Tryd.results22, go_sem, h0, hf]
  exact HB.out.setCell (Nat.le_refl _) _

set_option maxHeartbeats 1000000 in
theorem errno_J (l lq : List (Nat × ByteArray × Int)) (v : Value) (j p q : Nat) (k : Int) (w : World) (hg : EG w) (hc : Ch w l v (.iface 74 (ptr j))) (hj : Jn w j p q)
    (hq : Ch w lq (.iface 38 (ptr q)) (.iface 25 (.int .i64 k))) :
    Calls Tryd.prog 23 #[v] w fun ev w' => ev = .returned (.int .i64 k) ∧ Below w.heap.size w w' := by
  obtain ⟨tx, x, rfl⟩ := hc.isIface ⟨_, _, rfl⟩
  have hb0 : Below w.heap.size w (w.alloc (.cells #[.int .i64 0] 25)) := (Below.refl _ _).alloc (Nat.le_refl _) _
  have C := Lib.hid (As_PE tx x true (fun w1 w' => Upd w.heap.size (.cells #[.int .i64 k] 25 (0, 0)) w1 w') w.heap.size (w.alloc (.cells #[.int .i64 0] 25)) (hg.alloc _)
    (fun a w1 ha hb => as_ChJ_hitE l lq _ j p q k a w.heap.size (.int .i64 0) w1 ((hc.bel hb0).bel hb) ((hj.bel hb0).bel hb) ((hq.bel hb0).bel hb) ha (by rw [hb.block _ (by simp)]; exact heap_alloc_last _ _)))
  clear hg hc hj hq hb0
  have hmf : ∀ (fn : Fn) (first cap : Array Value) (w : World), (Instr.makeFunc fn first cap).run Tryd.prog w = .ok (.func fn first cap) w := fun _ _ _ _ => rfl
  go_enter_defers Tryd.func23, Tryd.ntmps23
  go_wp2_with fail
  refine C.out.mono ?_
  rintro e1 w' ⟨rfl, w1, hb1, hu⟩
  have h0 : w'.cell? ⟨w.heap.size, 0, none⟩ = some (.int .i64 k) := by simp [cell_of_heap hu.there]
  have hf : w'.frozen? ⟨w.heap.size, 0, none⟩ = false := frozen_of_heap hu.there 0
  have HB := Lib.hid (Below.target hb1 hu)
  clear hb1 hu
  go_wp2
  refine leaves_cons (f := 31) (args := #[.pointer (some ⟨w.heap.size, 0, none⟩)]) (by simp) (by simp [go_sem]) ?_
  refine (errno1_idle _ _).mono ?_
  rintro e2 u' w'' ⟨rfl, rfl, rfl⟩
  simp [Leaves, settle, results, Tryd.results23, go_sem, h0, hf]
  exact HB.out.setCell (Nat.le_refl _) _

theorem Lst.first_J {l rq : List (Nat × ByteArray × Int)} {j p q : Nat} {op : ByteArray} {at_ k : Int} {w : World} (hg : EG w) (hj : Jn w j p q) (hq : Ch w ((q, op, at_) :: rq) (.iface 38 (ptr q)) (.iface 25 (.int .i64 k))) :
    ∀ {v : Value}, Ch w l v (.iface 74 (ptr j)) → Lst 22 w v (blk l ++ blk ((q, op, at_) :: rq)) := by
  induction l with
  | nil =>
    intro v h
    cases h
    obtain ⟨_, v', hb, hr⟩ := hq
    exact ⟨fun w' hb => Fa.first_J j p q w' (hg.bel hb) (hj.bel hb), op, at_, v', hb, Lst.first_E hg hr⟩
  | cons y r ih =>
    intro v h
    obtain ⟨b, op, at_⟩ := y
    obtain ⟨rfl, v', hb, hr⟩ := h
    exact ⟨fun w' hb => first_F _ w' (hg.bel hb), op, at_, v', hb, ih hr⟩

set_option maxHeartbeats 1000000 in
/-- Kind of a chain that ends in a join of an errors.New and a Fault: the Fault's. -/
theorem Kind_J (l rq : List (Nat × ByteArray × Int)) (v : Value) (j p q : Nat) (op : ByteArray) (at_ k : Int) (w : World) (hg : EG w) (hc : Ch w l v (.iface 74 (ptr j))) (hj : Jn w j p q)
    (hq : Ch w ((q, op, at_) :: rq) (.iface 38 (ptr q)) (.iface 25 (.int .i64 k))) (hnd : (blk l ++ blk ((q, op, at_) :: rq)).Nodup) (hlen : l.length + rq.length + 1 ≤ 1048576) :
    Calls Tryd.prog 8 #[v] w fun e w' => e = .returned (.int .i64 k) ∧ Below w.heap.size w w' := by
  have C := Lib.hid (walk_first v (blk l ++ blk ((q, op, at_) :: rq)) w hnd (fun b hb => by
    rcases List.mem_append.1 hb with h | h
    · exact hc.flt b h
    · exact hq.flt b h) (by simp; omega) (Lst.first_J hg hj hq hc))
  have HC := Lib.hid hc
  have HJ := Lib.hid hj
  have HQ := Lib.hid hq
  have HG := Lib.hid hg
  clear hc hg hj hq hnd hlen
  go_enter Tryd.func8, Tryd.ntmps8
  go_wp2_with fail
  refine C.out.mono ?_
  rintro e w1 ⟨s, rfl, hown, hb⟩
  have C2 := Lib.hid (errno_J l _ v j p q k w1 (HG.out.bel hb) (HC.out.bel hb) (HJ.out.bel hb) (HQ.out.bel hb))
  have HB := Lib.hid hb
  clear hb hown
  go_wp2_with fail
  refine C2.out.mono ?_
  rintro e w2 ⟨rfl, hb2⟩
  have HB2 := Lib.hid (HB.out.trans (hb2.mono HB.out.size))
  clear hb2
  go_wp2
  go_ret
  exact ⟨rfl, HB2.out⟩
end Go.Proofs.YtiiobgbebpapnaaDoor.Fa
