/-
  errors.Is at a target that is an Errno, over a chain of faults that ends in an Errno or in an errors.New; New, Unwrap. No condition.
-/
import Derived.Test.YtbnfndcbhnjnaaaDoorFaAs
import Derived.Deep.LoopGhost
namespace Go.Proofs.YtbnfndcbhnjnaaaDoor.Fa
open Go.RowKit Go.Extern.Stop Go.Stop Go.Extern

theorem run_equalIn_iface_int {P : Program} (w : World) (d : Nat) {ti tn : TypeId} {ms : Array (String × TypeId)} {i : TypeInfo} {k : IntKind} (a b : Int)
    (hi : P.underlying ti = some (.interface ms)) (hn : P.underlying tn = some (.int k)) (hinfo : P.info? tn = some i) (hcomp : i.comparable = true) :
    (Op.equalIn (d + 2) ti (.iface tn (.int k a)) (.iface tn (.int k b))).run P w = .ok (a == b) w := by
  simp [Op.equalIn, run_underlying hi, run_underlying hn, typeInfo, hinfo, hcomp]
theorem run_eql_iface_int {P : Program} (w : World) {ti tn : TypeId} {ms : Array (String × TypeId)} {i : TypeInfo} {k : IntKind} (a b : Int)
    (hi : P.underlying ti = some (.interface ms)) (hn : P.underlying tn = some (.int k)) (hinfo : P.info? tn = some i) (hcomp : i.comparable = true) :
    (binOp .eql ti (.iface tn (.int k a)) (.iface tn (.int k b))).run P w = .ok (.bool (a == b)) w := by
  simp only [binOp]
  simp [Op.equal, Op.maxDepth, run_equalIn_iface_int w 9998 a b hi hn hinfo hcomp]

theorem compE : (Tryd.prog.info? 33).map (·.comparable) = some true := by kernel_rfl
theorem compF : (Tryd.prog.info? 71).map (·.comparable) = some true := by kernel_rfl
theorem sizeFS : (Tryd.prog.info? 73).map (·.size) = some 3 := by kernel_rfl
theorem eqE (a b : Int) (w : World) : (binOp .eql 27 (.iface 33 (.int .i64 a)) (.iface 33 (.int .i64 b))).run Tryd.prog w = .ok (.bool (a == b)) w := by
  obtain ⟨i, hi, hcmp⟩ := Option.map_eq_some_iff.1 compE
  exact run_eql_iface_int w a b Tryd.underlying27 Tryd.underlying33 hi hcmp
theorem eqTypes (tx ty_ : Nat) (x y : Value) (hne : tx ≠ ty_) (w : World) : (binOp .eql 27 (.iface tx x) (.iface ty_ y)).run Tryd.prog w = .ok (.bool false) w :=
  run_eql_iface_types tx ty_ x y Tryd.underlying27 hne w
theorem eqF_same (a : Addr) (w : World) : (binOp .eql 27 (.iface 71 (.pointer (some a))) (.iface 71 (.pointer (some a)))).run Tryd.prog w = .ok (.bool true) w := by
  obtain ⟨i, hi, hcmp⟩ := Option.map_eq_some_iff.1 compF
  obtain ⟨j, hj, _⟩ := Option.map_eq_some_iff.1 sizeFS
  exact run_eql_iface_ptr_same w a Tryd.underlying27 Tryd.underlying71 hi hcmp hj
theorem eqF_other {a b : Nat} {ca cb : Array Value} {ta tb : TypeId} (w : World) (hne : a ≠ b) (ha : w.heap[a]? = some (.cells ca ta (0, 0))) (hb : w.heap[b]? = some (.cells cb tb (0, 0))) :
    (binOp .eql 27 (.iface 71 (.pointer (some ⟨a, 0, none⟩))) (.iface 71 (.pointer (some ⟨b, 0, none⟩)))).run Tryd.prog w = .ok (.bool false) w := by
  obtain ⟨i, hi, hcmp⟩ := Option.map_eq_some_iff.1 compF
  obtain ⟨j, hj, hjs⟩ := Option.map_eq_some_iff.1 sizeFS
  exact run_eql_iface_ptr_other w Tryd.underlying27 Tryd.underlying71 hi hcmp hj (by rw [hjs]; decide) (fun h => hne (congrArg Addr.block h)) ha hb
theorem Ch.isIface {w : World} {l : List (Nat × ByteArray × Int)} {v u : Value} (h : Ch w l v u) (hu : ∃ tx x, u = .iface tx x) : ∃ tx x, v = .iface tx x := by
  cases l with
  | nil => cases h; exact hu
  | cons y r => exact ⟨_, _, h.1⟩

/-- New of an error that is not nil: a new fault. -/
theorem New_some (op : ByteArray) (at_ : Int) (tx : Nat) (x : Value) (w : World) :
    Calls Tryd.prog 42 #[.string op, .int .i64 at_, .iface tx x] w fun e w' => e = .returned (.iface 71 (.pointer (some ⟨w.heap.size, 0, none⟩))) ∧ w' = w.alloc (.cells #[.string op, .int .i64 at_, .iface tx x] 73) := by
  go_enter Tryd.func42, Tryd.ntmps42
  go_wp2
  go_ret
  exact ⟨rfl, rfl⟩
theorem New_nil (op : ByteArray) (at_ : Int) (w : World) :
    Calls Tryd.prog 42 #[.string op, .int .i64 at_, .nilIface] w fun e w' => e = .returned .nilIface ∧ w = w' := by
  go_enter Tryd.func42, Tryd.ntmps42
  go_wp2
  go_ret
  exact ⟨rfl, rfl⟩
/-- What New makes, as a chain. -/
theorem Ch.new {w : World} {l : List (Nat × ByteArray × Int)} {v u : Value} (h : Ch w l v u) (op : ByteArray) (at_ : Int) :
    Ch (w.alloc (.cells #[.string op, .int .i64 at_, v] 73)) ((w.heap.size, op, at_) :: l) (.iface 71 (.pointer (some ⟨w.heap.size, 0, none⟩))) u :=
  ⟨rfl, v, by show (w.heap.push _)[w.heap.size]? = _; simp, h.bel ((Below.refl _ _).alloc (Nat.le_refl _) _)⟩
end Go.Proofs.YtbnfndcbhnjnaaaDoor.Fa
