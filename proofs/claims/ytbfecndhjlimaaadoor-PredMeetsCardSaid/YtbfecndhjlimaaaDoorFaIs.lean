/-
  errors.Is at a target that is an Errno, over a chain of faults that ends in an Errno or in an errors.New; New, Unwrap. No condition.
-/
import Derived.Test.YtbfecndhjlimaaaDoorFaAs
import Derived.Deep.LoopGhost
namespace Go.Proofs.YtbfecndhjlimaaaDoor.Fa
open Go.RowKit Go.Extern.Stop Go.Stop Go.Extern

theorem run_equalIn_iface_int {P : Program} (w : World) (d : Nat) {ti tn : TypeId} {ms : Array (String × TypeId)} {i : TypeInfo} {k : IntKind} (a b : Int)
    (hi : P.underlying ti = some (.interface ms)) (hn : P.underlying tn = some (.int k)) (hinfo : P.info? tn = some i) (hcomp : i.comparable = true) :
    (Op.equalIn (d + 2) ti (.iface tn (.int k a)) (.iface tn (.int k b))).run P w = .ok (a == b) w := by
  simp [Op.equalIn, run_underlying hi, run_underlying hn, typeInfo, hinfo, hcomp]
theorem run_eql_iface_int {P : Program} (w : World) {ti tn : TypeId} {ms : Array (String × TypeId)} {i : TypeInfo} {k : IntKind} (a b : Int)
    (hi : P.underlying ti = some (.interface ms)) (hn : P.underlying tn = some (.int k)) (hinfo : P.info? tn = some i) (hcomp : i.comparable = true) :
    (binOp .eql ti (.iface tn (.int k a)) (.iface tn (.int k b))).run P w = .ok (.bool (a == b)) w := by
  simp only [binOp]
  simp [Op.equal, Op.maxDepth, run_equalIn_iface_int w 9998 a b hi hn hinfo hcomp]

theorem compE : (Tryd.prog.info? 32).map (·.comparable) = some true := by kernel_rfl
theorem compF : (Tryd.prog.info? 76).map (·.comparable) = some true := by kernel_rfl
theorem sizeFS : (Tryd.prog.info? 79).map (·.size) = some 3 := by kernel_rfl
theorem eqE (a b : Int) (w : World) : (binOp .eql 27 (.iface 32 (.int .i64 a)) (.iface 32 (.int .i64 b))).run Tryd.prog w = .ok (.bool (a == b)) w := by
  obtain ⟨i, hi, hcmp⟩ := Option.map_eq_some_iff.1 compE
  exact run_eql_iface_int w a b Tryd.underlying27 Tryd.underlying32 hi hcmp
theorem eqTypes (tx ty_ : Nat) (x y : Value) (hne : tx ≠ ty_) (w : World) : (binOp .eql 27 (.iface tx x) (.iface ty_ y)).run Tryd.prog w = .ok (.bool false) w :=
  run_eql_iface_types tx ty_ x y Tryd.underlying27 hne w
theorem eqF_same (a : Addr) (w : World) : (binOp .eql 27 (.iface 76 (.pointer (some a))) (.iface 76 (.pointer (some a)))).run Tryd.prog w = .ok (.bool true) w := by
  obtain ⟨i, hi, hcmp⟩ := Option.map_eq_some_iff.1 compF
  obtain ⟨j, hj, _⟩ := Option.map_eq_some_iff.1 sizeFS
  exact run_eql_iface_ptr_same w a Tryd.underlying27 Tryd.underlying76 hi hcmp hj
theorem eqF_other {a b : Nat} {ca cb : Array Value} {ta tb : TypeId} (w : World) (hne : a ≠ b) (ha : w.heap[a]? = some (.cells ca ta (0, 0))) (hb : w.heap[b]? = some (.cells cb tb (0, 0))) :
    (binOp .eql 27 (.iface 76 (.pointer (some ⟨a, 0, none⟩))) (.iface 76 (.pointer (some ⟨b, 0, none⟩)))).run Tryd.prog w = .ok (.bool false) w := by
  obtain ⟨i, hi, hcmp⟩ := Option.map_eq_some_iff.1 compF
  obtain ⟨j, hj, hjs⟩ := Option.map_eq_some_iff.1 sizeFS
  exact run_eql_iface_ptr_other w Tryd.underlying27 Tryd.underlying76 hi hcmp hj (by rw [hjs]; decide) (fun h => hne (congrArg Addr.block h)) ha hb
set_option maxHeartbeats 2000000 in
/-- errors.Is(v, an Errno j) along a chain that ends in the Errno k. -/
theorem is_Ch_E (l : List (Nat × ByteArray × Int)) (v : Value) (k j : Int) (w : World) (hc : Ch w l v (.iface 32 (.int .i64 k))) :
    Calls Tryd.prog 35 #[v, .iface 32 (.int .i64 j), .bool true] w fun ev w' => ev = .returned (.bool (k == j)) ∧ w = w' := by
  have q1 := eqE
  have q2 := fun x => eqTypes 76 32 (.pointer (some x)) (.int .i64 j) (by decide)
  have n1 := noIsF
  have n2 := hasUnwF
  have n3 := noIsE
  have n4 := noUnwE
  have n5 := noUnwsE
  have mU := methodUnwrapF
  have HC := Lib.hid hc
  clear hc
  go_enter Tryd.func35, Tryd.ntmps35
  go_wp2
  go_loopg [0] l.length (fun n e wr => ∃ r, n = r.length ∧ wr = w ∧ Ch wr r e (.iface 32 (.int .i64 k)))
  case atStart => exact ⟨l, rfl, rfl, HC.out⟩
  case round =>
    obtain ⟨r, hn, rfl, hch⟩ := hrel
    cases r with
    | nil =>
      cases hch
      clear hn HC
      by_cases hkj : k = j
      · subst hkj
        have hb : (k == k) = true := by simp
        go_wp2
        go_ret
        exact ⟨by simp, rfl⟩
      · have hb : (k == j) = false := by simpa using hkj
        have HK := Lib.hid hkj
        clear hkj
        go_wp2
        go_ret
        exact ⟨by simpa using HK.out, rfl⟩
    | cons y r =>
      obtain ⟨b, op, at_⟩ := y
      obtain ⟨rfl, v', hb, hr⟩ := hch
      have A := Lib.hid (show gk = r.length + 1 from hn)
      have HB := Lib.hid hb
      have HR := Lib.hid hr
      clear hn HC hb hr
      have hv : ∃ tx x, v' = .iface tx x := by
        have h := HR.out
        cases r with
        | nil => exact ⟨_, _, h⟩
        | cons y r => exact ⟨_, _, h.1⟩
      obtain ⟨tx, x, rfl⟩ := hv
      go_wp2_with fail
      refine (unwrap_any b op at_ _ _ HB.out).mono ?_
      rintro e w' ⟨rfl, rfl⟩
      go_wp2
      go_roundg r.length
      case measure => have := A.out; omega
      case rel => exact ⟨r, rfl, rfl, HR.out⟩

theorem Ch.isIface {w : World} {l : List (Nat × ByteArray × Int)} {v u : Value} (h : Ch w l v u) (hu : ∃ tx x, u = .iface tx x) : ∃ tx x, v = .iface tx x := by
  cases l with
  | nil => cases h; exact hu
  | cons y r => exact ⟨_, _, h.1⟩

set_option maxHeartbeats 1000000 in
theorem Is_Ch_E (l : List (Nat × ByteArray × Int)) (v : Value) (k j : Int) (w : World) (hc : Ch w l v (.iface 32 (.int .i64 k))) :
    Calls Tryd.prog 11 #[v, .iface 32 (.int .i64 j)] w fun ev w' => ev = .returned (.bool (k == j)) ∧ w = w' := by
  obtain ⟨tx, x, rfl⟩ := hc.isIface ⟨_, _, rfl⟩
  have HC := Lib.hid hc
  clear hc
  have tO := cTypeOfE
  have mC := methodComparable
  have cC := cComparableE
  go_enter Tryd.func11, Tryd.ntmps11
  go_wp2_with fail
  refine (is_Ch_E l _ k j _ HC.out).mono ?_
  rintro e w' ⟨rfl, rfl⟩
  go_wp2
  go_ret
  exact ⟨rfl, rfl⟩

/-- New of an error that is not nil: a new fault. -/
theorem New_some (op : ByteArray) (at_ : Int) (tx : Nat) (x : Value) (w : World) :
    Calls Tryd.prog 28 #[.string op, .int .i64 at_, .iface tx x] w fun e w' => e = .returned (.iface 76 (.pointer (some ⟨w.heap.size, 0, none⟩))) ∧ w' = w.alloc (.cells #[.string op, .int .i64 at_, .iface tx x] 79) := by
  go_enter Tryd.func28, Tryd.ntmps28
  go_wp2
  go_ret
  exact ⟨rfl, rfl⟩
theorem New_nil (op : ByteArray) (at_ : Int) (w : World) :
    Calls Tryd.prog 28 #[.string op, .int .i64 at_, .nilIface] w fun e w' => e = .returned .nilIface ∧ w = w' := by
  go_enter Tryd.func28, Tryd.ntmps28
  go_wp2
  go_ret
  exact ⟨rfl, rfl⟩
/-- What New makes, as a chain. -/
theorem Ch.new {w : World} {l : List (Nat × ByteArray × Int)} {v u : Value} (h : Ch w l v u) (op : ByteArray) (at_ : Int) :
    Ch (w.alloc (.cells #[.string op, .int .i64 at_, v] 79)) ((w.heap.size, op, at_) :: l) (.iface 76 (.pointer (some ⟨w.heap.size, 0, none⟩))) u :=
  ⟨rfl, v, by show (w.heap.push _)[w.heap.size]? = _; simp, h.bel ((Below.refl _ _).alloc (Nat.le_refl _) _)⟩
end Go.Proofs.YtbfecndhjlimaaaDoor.Fa
