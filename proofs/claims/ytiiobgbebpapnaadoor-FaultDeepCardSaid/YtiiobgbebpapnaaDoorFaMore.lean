/-
  Within; errors.New and errors.Unwrap; errors.As, errors.Is and Kind over chains that end in an errors.New; errors.Is at a target that is a Fault. Condition: package errors' variable holds the handle of the type 'error' where errors.As is asked.
-/
import Derived.Test.YtiiobgbebpapnaaDoorFaRead
namespace Go.Proofs.YtiiobgbebpapnaaDoor.Fa
open Go.RowKit Go.Extern.Stop Go.Stop Go.Extern

/-- n brought into lo .. hi. -/
def within (n lo hi : Int) : Int := lo + n % (hi - lo + 1)
theorem within_bd (n lo hi : Int) (h : lo ≤ hi) : lo ≤ within n lo hi ∧ within n lo hi ≤ hi := by
  unfold within
  have h1 := Int.emod_nonneg n (show hi - lo + 1 ≠ 0 by omega)
  have h2 := Int.emod_lt_of_pos n (show 0 < hi - lo + 1 by omega)
  omega
theorem within_pos (n lo hi : Int) (h : lo ≤ hi) (hn : ¬ n.tmod (hi - lo + 1) < 0) : lo + n.tmod (hi - lo + 1) = within n lo hi := by
  unfold within
  rw [Int.tmod_eq_emod] at hn ⊢
  split at hn
  · rename_i h0; rw [if_pos h0]; omega
  · rename_i h0
    rw [if_neg h0] at *
    have h2 := Int.emod_lt_of_pos n (show 0 < hi - lo + 1 by omega)
    have : ((hi - lo + 1).natAbs : Int) = hi - lo + 1 := by omega
    omega
theorem within_neg (n lo hi : Int) (h : lo ≤ hi) (hn : n.tmod (hi - lo + 1) < 0) : lo + (n.tmod (hi - lo + 1) + hi - lo + 1) = within n lo hi := by
  unfold within
  rw [Int.tmod_eq_emod] at hn ⊢
  split at hn
  · have h1 := Int.emod_nonneg n (show hi - lo + 1 ≠ 0 by omega)
    omega
  · rename_i h0
    rw [if_neg h0] at *
    have : ((hi - lo + 1).natAbs : Int) = hi - lo + 1 := by omega
    omega
theorem tmod_bd (n m : Int) (h : 0 < m) : -m < n.tmod m ∧ n.tmod m < m := by
  rw [Int.tmod_eq_emod]
  have h1 := Int.emod_nonneg n (show m ≠ 0 by omega)
  have h2 := Int.emod_lt_of_pos n h
  split <;> omega
theorem neqE (a b : Int) (w : World) : (binOp .neq 23 (.iface 25 (.int .i64 a)) (.iface 25 (.int .i64 b))).run Tryd.prog w = .ok (.bool (!(a == b))) w := by
  obtain ⟨i, hi, hcmp⟩ := Option.map_eq_some_iff.1 compE
  simp only [binOp]
  simp [Op.equal, Op.maxDepth, run_equalIn_iface_int w 9998 a b Tryd.underlying23 Tryd.underlying25 hi hcmp]
theorem ret_int {k : IntKind} {a b : Int} (h : a = b) : Ending.returned (.int k a) = .returned (.int k b) := by rw [h]

set_option maxHeartbeats 1000000 in
theorem within_any (n lo hi : Int) (w : World) (h : lo ≤ hi) (h1 : -1000000 ≤ lo) (h2 : hi ≤ 1000000) (hn1 : -9223372036854775808 ≤ n) (hn2 : n ≤ 9223372036854775807) :
    Calls Tryd.prog 13 #[.int .i64 n, .int .i64 lo, .int .i64 hi] w fun e w' => e = .returned (.int .i64 (within n lo hi)) ∧ w = w' := by
  have hm : 0 < hi - lo + 1 := by omega
  have hm2 : hi - lo + 1 ≤ 2000001 := by omega
  have hb := tmod_bd n (hi - lo + 1) hm
  have P := Lib.hid (within_pos n lo hi h)
  have Q := Lib.hid (within_neg n lo hi h)
  go_enter Tryd.func13, Tryd.ntmps13
  go_wp2
  · go_ret
    exact ⟨ret_int (Q.out (by omega)), rfl⟩
  · go_ret
    exact ⟨ret_int (P.out (by omega)), rfl⟩

/-- errors.New: a new errorString. -/
theorem ENew_any (s : ByteArray) (w : World) :
    Calls Tryd.prog 18 #[.string s] w fun e w' => e = .returned (.iface 70 (.pointer (some ⟨w.heap.size, 0, none⟩))) ∧ w' = w.alloc (.cells #[.string s] 72) := by
  go_enter Tryd.func18, Tryd.ntmps18
  go_wp2
  go_ret
  exact ⟨rfl, rfl⟩

/-- errors.Unwrap of a Fault: what it wraps. -/
theorem Unw_F (b : Nat) (op : ByteArray) (at_ : Int) (v' : Value) (w : World) (hb : w.heap[b]? = some (.cells #[.string op, .int .i64 at_, v'] 42 (0, 0))) :
    Calls Tryd.prog 17 #[.iface 38 (.pointer (some ⟨b, 0, none⟩))] w fun e w' => e = .returned v' ∧ w = w' := by
  have n2 := hasUnwF
  have mU := methodUnwrapF
  have HB := Lib.hid hb
  clear hb
  go_enter Tryd.func17, Tryd.ntmps17
  go_wp2_with fail
  refine (unwrap_any b op at_ _ _ HB.out).mono ?_
  rintro e w' ⟨rfl, rfl⟩
  go_wp2
  go_ret
  exact ⟨rfl, rfl⟩

set_option maxHeartbeats 2000000 in
theorem as_Ch_missE (l : List (Nat × ByteArray × Int)) (v : Value) (k : Addr) (a : Addr) (tb : Nat) (w : World) (hc : Ch w l v (.iface 70 (.pointer (some k)))) :
    Calls Tryd.prog 29 #[v, .iface 77 (.pointer (some ⟨tb, 0, none⟩)), tv 77 a, ty 25] w fun ev w' => ev = .returned (.bool false) ∧ Below w.heap.size w w' := by
  have tO := cTypeOfES
  have tO2 := cTypeOfF
  have mA := methodAssignableTo
  have aF := cAssignESE
  have aF2 := cAssignFE
  have n1 := noAsF
  have n2 := hasUnwF
  have n3 := noAsES
  have n4 := noUnwES
  have n5 := noUnwsES
  have mU := methodUnwrapF
  have HC := Lib.hid (hc.bel (((Below.refl _ _).alloc (Nat.le_refl _) (.cells #[.pointer (some ⟨4, 77, none⟩), .pointer (some a), .int .u64 150] 61))))
  clear hc
  go_enter Tryd.func29, Tryd.ntmps29
  go_wp2
  go_loopg [0] l.length (fun n e wr => ∃ r, n = r.length ∧ wr = w.alloc (.cells #[.pointer (some ⟨4, 77, none⟩), .pointer (some a), .int .u64 150] 61) ∧ Ch wr r e (.iface 70 (.pointer (some k))))
  case atStart => exact ⟨l, rfl, rfl, HC.out⟩
  case round =>
    obtain ⟨r, hn, rfl, hch⟩ := hrel
    cases r with
    | nil =>
      cases hch
      clear hn HC
      go_wp2
      go_ret
      exact ⟨rfl, (Below.refl _ _).alloc (Nat.le_refl _) _⟩
    | cons y r =>
      obtain ⟨b, op, at_⟩ := y
      obtain ⟨rfl, v', hb, hr⟩ := hch
      have A := Lib.hid (show gk = r.length + 1 from hn)
      have HB := Lib.hid hb
      have HR := Lib.hid hr
      clear hn HC hb hr
      obtain ⟨tx, x, rfl⟩ := HR.out.isIface ⟨_, _, rfl⟩
      go_wp2_with fail
      refine (unwrap_any b op at_ _ _ HB.out).mono ?_
      rintro e w' ⟨rfl, rfl⟩
      go_wp2
      go_roundg r.length
      case measure => have := A.out; omega
      case rel => exact ⟨r, rfl, rfl, HR.out⟩

set_option maxHeartbeats 1000000 in
/-- errno of a chain that ends in an errors.New: 0. -/
theorem errno_ES (l : List (Nat × ByteArray × Int)) (v : Value) (k : Addr) (w : World) (hg : EG w) (hc : Ch w l v (.iface 70 (.pointer (some k)))) :
    Calls Tryd.prog 23 #[v] w fun ev w' => ev = .returned (.int .i64 0) ∧ Below w.heap.size w w' := by
  obtain ⟨tx, x, rfl⟩ := hc.isIface ⟨_, _, rfl⟩
  have C := Lib.hid (As_PE tx x false (fun w1 w' => Below w1.heap.size w1 w') w.heap.size (w.alloc (.cells #[.int .i64 0] 25)) (hg.alloc _)
    (fun a w1 _ hb => as_Ch_missE l _ k a w.heap.size w1 ((hc.bel ((Below.refl _ _).alloc (Nat.le_refl _) _)).bel hb)))
  have HG := Lib.hid hg
  have HC := Lib.hid hc
  clear hg hc
  have hmf : ∀ (fn : Fn) (first cap : Array Value) (w : World), (Instr.makeFunc fn first cap).run Tryd.prog w = .ok (.func fn first cap) w := fun _ _ _ _ => rfl
  go_enter_defers Tryd.func23, Tryd.ntmps23
  go_wp2_with fail
  refine C.out.mono ?_
  rintro e1 w' ⟨rfl, w1, hb1, hb2⟩
  have hT : w'.heap[w.heap.size]? = some (.cells #[.int .i64 0] 25 (0, 0)) := by rw [hb2.block _ (by have := hb1.size; simp at this; omega), hb1.block _ (by simp)]; exact heap_alloc_last _ _
  have h0 : w'.cell? ⟨w.heap.size, 0, none⟩ = some (.int .i64 0) := by simp [cell_of_heap hT]
  have hf : w'.frozen? ⟨w.heap.size, 0, none⟩ = false := frozen_of_heap hT 0
  have HB := Lib.hid (Below.after_alloc (hb1.trans (hb2.mono hb1.size)))
  clear hb1 hb2 hT
  go_wp2
  refine leaves_cons (f := 31) (args := #[.pointer (some ⟨w.heap.size, 0, none⟩)]) (by simp) (by simp [go_sem]) ?_
  refine (errno1_idle _ _).mono ?_
  rintro e2 u' w'' ⟨rfl, rfl, rfl⟩
  simp [Leaves, settle, results, Tryd.results23, go_sem, h0, hf]
  exact HB.out.setCell (Nat.le_refl _) _

theorem Lst.first_ES {l : List (Nat × ByteArray × Int)} {k : Addr} {w : World} (hg : EG w) : ∀ {v : Value}, Ch w l v (.iface 70 (.pointer (some k))) → Lst 22 w v (blk l) := by
  induction l with
  | nil => intro v h; cases h; exact fun w' hb => Fa.first_ES k w' (hg.bel hb)
  | cons y r ih =>
    intro v h
    obtain ⟨b, op, at_⟩ := y
    obtain ⟨rfl, v', hb, hr⟩ := h
    exact ⟨fun w' hb => first_F _ w' (hg.bel hb), op, at_, v', hb, ih hr⟩

set_option maxHeartbeats 1000000 in
/-- Kind of a chain that ends in an errors.New: 0. -/
theorem Kind_ES (l : List (Nat × ByteArray × Int)) (v : Value) (k : Addr) (w : World) (hg : EG w) (hc : Ch w l v (.iface 70 (.pointer (some k)))) (hf : Falls l) (hlen : l.length ≤ 1048576) :
    Calls Tryd.prog 8 #[v] w fun e w' => e = .returned (.int .i64 0) ∧ Below w.heap.size w w' := by
  have C := Lib.hid (walk_first v (blk l) w hf.nodup hc.flt (by simpa using hlen) (Lst.first_ES hg hc))
  have HC := Lib.hid hc
  have HG := Lib.hid hg
  clear hc hg hf hlen
  go_enter Tryd.func8, Tryd.ntmps8
  go_wp2_with fail
  refine C.out.mono ?_
  rintro e w1 ⟨s, rfl, hown, hb⟩
  have C2 := Lib.hid (errno_ES l v k w1 (HG.out.bel hb) (HC.out.bel hb))
  have HB := Lib.hid hb
  clear hb hown
  go_wp2_with fail
  refine C2.out.mono ?_
  rintro e w2 ⟨rfl, hb2⟩
  have HB2 := Lib.hid (HB.out.trans (hb2.mono HB.out.size))
  clear hb2
  go_wp2
  go_ret
  exact ⟨rfl, HB2.out⟩

set_option maxHeartbeats 2000000 in
/-- errors.Is at an errors.New at the end of a chain. -/
theorem is_Ch_ES (l : List (Nat × ByteArray × Int)) (v : Value) (k : Addr) (w : World) (hc : Ch w l v (.iface 70 (.pointer (some k)))) :
    Calls Tryd.prog 25 #[v, .iface 70 (.pointer (some k)), .bool true] w fun ev w' => ev = .returned (.bool true) ∧ w = w' := by
  have q1 := eqES_same k
  have q2 := fun x => eqTypes 38 70 (.pointer (some x)) (.pointer (some k)) (by decide)
  have n1 := noIsF
  have n2 := hasUnwF
  have mU := methodUnwrapF
  have HC := Lib.hid hc
  clear hc
  go_enter Tryd.func25, Tryd.ntmps25
  go_wp2
  go_loopg [0] l.length (fun n e wr => ∃ r, n = r.length ∧ wr = w ∧ Ch wr r e (.iface 70 (.pointer (some k))))
  case atStart => exact ⟨l, rfl, rfl, HC.out⟩
  case round =>
    obtain ⟨r, hn, rfl, hch⟩ := hrel
    cases r with
    | nil =>
      cases hch
      clear hn HC
      go_wp2
      go_ret
      exact ⟨rfl, rfl⟩
    | cons y r =>
      obtain ⟨b, op, at_⟩ := y
      obtain ⟨rfl, v', hb, hr⟩ := hch
      have A := Lib.hid (show gk = r.length + 1 from hn)
      have HB := Lib.hid hb
      have HR := Lib.hid hr
      clear hn HC hb hr
      obtain ⟨tx, x, rfl⟩ := HR.out.isIface ⟨_, _, rfl⟩
      go_wp2_with fail
      refine (unwrap_any b op at_ _ _ HB.out).mono ?_
      rintro e w' ⟨rfl, rfl⟩
      go_wp2
      go_roundg r.length
      case measure => have := A.out; omega
      case rel => exact ⟨r, rfl, rfl, HR.out⟩
theorem Is_Ch_ES (l : List (Nat × ByteArray × Int)) (v : Value) (k : Addr) (w : World) (hc : Ch w l v (.iface 70 (.pointer (some k)))) :
    Calls Tryd.prog 12 #[v, .iface 70 (.pointer (some k))] w fun ev w' => ev = .returned (.bool true) ∧ w = w' := by
  obtain ⟨tx, x, rfl⟩ := hc.isIface ⟨_, _, rfl⟩
  have HC := Lib.hid hc
  clear hc
  have tO := cTypeOfES
  have mC := methodComparable
  have cC := cComparableES
  go_enter Tryd.func12, Tryd.ntmps12
  go_wp2_with fail
  refine (is_Ch_ES l _ k _ HC.out).mono ?_
  rintro e w' ⟨rfl, rfl⟩
  go_wp2
  go_ret
  exact ⟨rfl, rfl⟩

set_option maxHeartbeats 2000000 in
/-- errors.Is at a Fault of the chain itself. -/
theorem is_Ch_F (l : List (Nat × ByteArray × Int)) (v : Value) (b0 : Nat) (w : World) (hc : Ch w l v (.iface 38 (ptr b0))) (h0 : Flt w b0) (hne : ∀ x ∈ l, x.1 ≠ b0) :
    Calls Tryd.prog 25 #[v, .iface 38 (ptr b0), .bool true] w fun ev w' => ev = .returned (.bool true) ∧ w = w' := by
  have q1 := eqF_same ⟨b0, 0, none⟩
  have n1 := noIsF
  have n2 := hasUnwF
  have mU := methodUnwrapF
  have HC := Lib.hid hc
  have F0 := Lib.hid h0
  have NE := Lib.hid hne
  clear hc h0 hne
  go_enter Tryd.func25, Tryd.ntmps25
  go_wp2
  go_loopg [0] l.length (fun n e wr => ∃ r, n = r.length ∧ wr = w ∧ Ch wr r e (.iface 38 (ptr b0)) ∧ ∀ x ∈ r, x.1 ≠ b0)
  case atStart => exact ⟨l, rfl, rfl, HC.out, NE.out⟩
  case round =>
    obtain ⟨r, hn, rfl, hch, hne⟩ := hrel
    cases r with
    | nil =>
      cases hch
      clear hn HC NE hne
      go_wp2
      go_ret
      exact ⟨rfl, rfl⟩
    | cons y r =>
      obtain ⟨b, op, at_⟩ := y
      obtain ⟨rfl, v', hb, hr⟩ := hch
      obtain ⟨c0, hc0⟩ := F0.out
      have q2 := eqF_other wr (hne _ (List.mem_cons_self ..)) hb hc0
      have A := Lib.hid (show gk = r.length + 1 from hn)
      have HB := Lib.hid hb
      have HR := Lib.hid hr
      have N2 := Lib.hid (fun x hx => hne x (List.mem_cons_of_mem _ hx) : ∀ x ∈ r, x.1 ≠ b0)
      clear hn HC hb hr hne NE hc0
      obtain ⟨tx, x, rfl⟩ := HR.out.isIface ⟨_, _, rfl⟩
      go_wp2_with fail
      refine (unwrap_any b op at_ _ _ HB.out).mono ?_
      rintro e w' ⟨rfl, rfl⟩
      go_wp2
      go_roundg r.length
      case measure => have := A.out; omega
      case rel => exact ⟨r, rfl, rfl, HR.out, N2.out⟩
theorem Is_Ch_F (l : List (Nat × ByteArray × Int)) (v : Value) (b0 : Nat) (w : World) (hc : Ch w l v (.iface 38 (ptr b0))) (h0 : Flt w b0) (hne : ∀ x ∈ l, x.1 ≠ b0) :
    Calls Tryd.prog 12 #[v, .iface 38 (ptr b0)] w fun ev w' => ev = .returned (.bool true) ∧ w = w' := by
  obtain ⟨tx, x, rfl⟩ := hc.isIface ⟨_, _, rfl⟩
  have C := Lib.hid (is_Ch_F l _ b0 _ hc h0 hne)
  clear hc h0 hne
  have tO := cTypeOfF
  have mC := methodComparable
  have cC := cComparableF
  go_enter Tryd.func12, Tryd.ntmps12
  go_wp2_with fail
  refine C.out.mono ?_
  rintro e w' ⟨rfl, rfl⟩
  go_wp2
  go_ret
  exact ⟨rfl, rfl⟩
end Go.Proofs.YtiiobgbebpapnaaDoor.Fa
