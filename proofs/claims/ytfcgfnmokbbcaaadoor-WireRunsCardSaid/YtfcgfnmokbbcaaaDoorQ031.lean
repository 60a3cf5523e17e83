/-
  What each call into package internal/reflectlite comes to at this program's types, as one equation a call. No condition.
  errors.As at a target of type **Fault: what it answers of a Fault, of an Errno, of an errors.New; each call by its contract. Condition: package errors' variable holds the handle of the type 'error'.
  errors.Is at a target that is an Errno, over a chain of faults that ends in an Errno or in an errors.New; New, Unwrap. No condition.
-/
import Derived.Test.YtfcgfnmokbbcaaaDoorQ030
import Derived.Deep.LoopGhost
namespace Go.Proofs.YtfcgfnmokbbcaaaDoor.Fa
open Go.RowKit Go.Extern.Stop Go.Stop Go.Extern

theorem xTypeOf (args : Array Value) (w : World) : (callFunc 81 args).run Tryd.prog w = ((ReflectliteType.typeOf args).run Tryd.prog w).andThen fun v w' => .ok (.value v) w' :=
  run_callFunc_extern Tryd.func81 (by kernel_rfl) (by kernel_rfl) (by kernel_rfl) (by kernel_rfl) args w
theorem xAssignable (args : Array Value) (w : World) : (callFunc 108 args).run Tryd.prog w = (((ReflectliteType.relation "AssignableTo" ReflectliteType.assignableTo) args).run Tryd.prog w).andThen fun v w' => .ok (.value v) w' :=
  run_callFunc_extern Tryd.func108 (by kernel_rfl) (by kernel_rfl) (by kernel_rfl) (by kernel_rfl) args w
theorem xImplements (args : Array Value) (w : World) : (callFunc 111 args).run Tryd.prog w = (((ReflectliteType.relation "Implements" ReflectliteType.implements_) args).run Tryd.prog w).andThen fun v w' => .ok (.value v) w' :=
  run_callFunc_extern Tryd.func111 (by kernel_rfl) (by kernel_rfl) (by kernel_rfl) (by kernel_rfl) args w
theorem xValueOf (args : Array Value) (w : World) : (callFunc 72 args).run Tryd.prog w = ((ReflectliteValue.unpack (args.getD 0 (.tuple #[]))).run Tryd.prog w).andThen fun v w' => .ok (.value v) w' :=
  run_callFunc_extern (e := fun args => ReflectliteValue.unpack (args.getD 0 (.tuple #[]))) Tryd.func72 (by kernel_rfl) (by kernel_rfl) (by kernel_rfl) (by kernel_rfl) args w
theorem xVElem (args : Array Value) (w : World) : (callFunc 82 args).run Tryd.prog w = (((ReflectliteValue.method (ReflectliteValue.valueError "reflectlite.Value.Elem" 0) ReflectliteValue.elem) args).run Tryd.prog w).andThen fun v w' => .ok (.value v) w' :=
  run_callFunc_extern Tryd.func82 (by kernel_rfl) (by kernel_rfl) (by kernel_rfl) (by kernel_rfl) args w
theorem xVSet (args : Array Value) (w : World) : (callFunc 83 args).run Tryd.prog w = ((ReflectliteValue.set args).run Tryd.prog w).andThen fun v w' => .ok (.value v) w' :=
  run_callFunc_extern Tryd.func83 (by kernel_rfl) (by kernel_rfl) (by kernel_rfl) (by kernel_rfl) args w
theorem xVType (args : Array Value) (w : World) : (callFunc 73 args).run Tryd.prog w = (((ReflectliteValue.methodAny (ReflectliteValue.valueError "reflectlite.Value.Type" 0) (fun t _ _ _ => ReflectliteType.toType t)) args).run Tryd.prog w).andThen fun v w' => .ok (.value v) w' :=
  run_callFunc_extern Tryd.func73 (by kernel_rfl) (by kernel_rfl) (by kernel_rfl) (by kernel_rfl) args w
theorem xVIsNil (args : Array Value) (w : World) : (callFunc 74 args).run Tryd.prog w = (((ReflectliteValue.method (ReflectliteValue.valueError "reflectlite.Value.IsNil" 0) ReflectliteValue.isNil) args).run Tryd.prog w).andThen fun v w' => .ok (.value v) w' :=
  run_callFunc_extern Tryd.func74 (by kernel_rfl) (by kernel_rfl) (by kernel_rfl) (by kernel_rfl) args w
theorem xAbiKind (args : Array Value) (w : World) : (callFunc 98 args).run Tryd.prog w = (((ReflectliteType.abiMethod fun t => do pure (.int .u8 (← Rtype.kind t))) args).run Tryd.prog w).andThen fun v w' => .ok (.value v) w' :=
  run_callFunc_extern Tryd.func98 (by kernel_rfl) (by kernel_rfl) (by kernel_rfl) (by kernel_rfl) args w
theorem xRElem (args : Array Value) (w : World) : (callFunc 110 args).run Tryd.prog w = (((ReflectliteType.method ReflectliteType.elem) args).run Tryd.prog w).andThen fun v w' => .ok (.value v) w' :=
  run_callFunc_extern Tryd.func110 (by kernel_rfl) (by kernel_rfl) (by kernel_rfl) (by kernel_rfl) args w
theorem xComparable (args : Array Value) (w : World) : (callFunc 109 args).run Tryd.prog w = (((ReflectliteType.method fun t => do Rtype.noPackHeld "Comparable" t; pure (.bool (← typeInfo t).comparable)) args).run Tryd.prog w).andThen fun v w' => .ok (.value v) w' :=
  run_callFunc_extern Tryd.func109 (by kernel_rfl) (by kernel_rfl) (by kernel_rfl) (by kernel_rfl) args w

/-- The Value that errors.As makes of its target: a box that holds the target's address. -/
abbrev tv (T : Nat) (a : Addr) : Value := .agg #[.pointer (some ⟨1, T, none⟩), .pointer (some a), .int .u64 150]
/-- The handle of type T, as a reflectlite.Type. -/
abbrev ty (T : Nat) : Value := .iface 127 (.agg #[.pointer (some ⟨1, T, none⟩)])

theorem cTypeOfF (v : Value) (w : World) : (callFunc 81 #[.iface 82 v]).run Tryd.prog w = .ok (.value (ty 82)) w := by rw [xTypeOf, typeOfF]; rfl
theorem cTypeOfE (v : Value) (w : World) : (callFunc 81 #[.iface 34 v]).run Tryd.prog w = .ok (.value (ty 34)) w := by rw [xTypeOf, typeOfE]; rfl
theorem cAssignFF (w : World) : (callFunc 108 #[.agg #[.pointer (some ⟨1, 82, none⟩)], ty 82]).run Tryd.prog w = .ok (.value (.bool true)) w := by rw [xAssignable, assignFF]; rfl
theorem cAssignFE (w : World) : (callFunc 108 #[.agg #[.pointer (some ⟨1, 82, none⟩)], ty 34]).run Tryd.prog w = .ok (.value (.bool false)) w := by rw [xAssignable, assignFE]; rfl
theorem cAssignEF (w : World) : (callFunc 108 #[.agg #[.pointer (some ⟨1, 34, none⟩)], ty 82]).run Tryd.prog w = .ok (.value (.bool false)) w := by rw [xAssignable, assignEF]; rfl
theorem cAssignEE (w : World) : (callFunc 108 #[.agg #[.pointer (some ⟨1, 34, none⟩)], ty 34]).run Tryd.prog w = .ok (.value (.bool true)) w := by rw [xAssignable, assignEE]; rfl
theorem cImplF (w : World) : (callFunc 111 #[.agg #[.pointer (some ⟨1, 82, none⟩)], ty 24]).run Tryd.prog w = .ok (.value (.bool true)) w := by rw [xImplements, implementsF]; rfl
theorem cImplE (w : World) : (callFunc 111 #[.agg #[.pointer (some ⟨1, 34, none⟩)], ty 24]).run Tryd.prog w = .ok (.value (.bool true)) w := by rw [xImplements, implementsE]; rfl
theorem cValueOfPF (t : Addr) (w : World) : (callFunc 72 #[.iface 92 (.pointer (some t))]).run Tryd.prog w = .ok (.value (tv 92 ⟨w.heap.size, 0, none⟩)) (w.alloc (.cells #[.pointer (some t)] 92)) := by
  rw [xValueOf]; show ((ReflectliteValue.unpack (.iface 92 (.pointer (some t)))).run Tryd.prog w).andThen _ = _; rw [valueOfPF]; rfl
theorem cValueOfPE (t : Addr) (w : World) : (callFunc 72 #[.iface 93 (.pointer (some t))]).run Tryd.prog w = .ok (.value (tv 93 ⟨w.heap.size, 0, none⟩)) (w.alloc (.cells #[.pointer (some t)] 93)) := by
  rw [xValueOf]; show ((ReflectliteValue.unpack (.iface 93 (.pointer (some t)))).run Tryd.prog w).andThen _ = _; rw [valueOfPE]; rfl
theorem cValueOfF (t : Addr) (w : World) : (callFunc 72 #[.iface 82 (.pointer (some t))]).run Tryd.prog w = .ok (.value (tv 82 ⟨w.heap.size, 0, none⟩)) (w.alloc (.cells #[.pointer (some t)] 82)) := by
  rw [xValueOf]; show ((ReflectliteValue.unpack (.iface 82 (.pointer (some t)))).run Tryd.prog w).andThen _ = _; rw [valueOfF]; rfl
theorem cValueOfE (k : Int) (w : World) : (callFunc 72 #[.iface 34 (.int .i64 k)]).run Tryd.prog w = .ok (.value (.agg #[.pointer (some ⟨1, 34, none⟩), .pointer (some ⟨w.heap.size, 0, none⟩), .int .u64 130])) (w.alloc (.cells #[.int .i64 k] 34)) := by
  rw [xValueOf]; show ((ReflectliteValue.unpack (.iface 34 (.int .i64 k))).run Tryd.prog w).andThen _ = _; rw [valueOfE]; rfl
theorem cVTypePF (a : Addr) (w : World) : (callFunc 73 #[tv 92 a]).run Tryd.prog w = .ok (.value (ty 92)) w := by rw [xVType, vtype 92 (by simp)]; rfl
theorem cVIsNilPF (a p : Addr) (w : World) (ha : w.cell? a = some (.pointer (some p))) : (callFunc 74 #[tv 92 a]).run Tryd.prog w = .ok (.value (.bool false)) w := by rw [xVIsNil, isNilPF a p w ha]; rfl
theorem cVElemPF (a p : Addr) (w : World) (ha : w.cell? a = some (.pointer (some p))) : (callFunc 82 #[tv 92 a]).run Tryd.prog w = .ok (.value (.agg #[.pointer (some ⟨1, 82, none⟩), .pointer (some p), .int .u64 406])) w := by rw [xVElem, elemVPF a p w ha]; rfl
theorem cRElemPF (w : World) : (callFunc 110 #[.agg #[.pointer (some ⟨1, 92, none⟩)]]).run Tryd.prog w = .ok (.value (ty 82)) w := by rw [xRElem, elemPF]; rfl
theorem cVTypePE (a : Addr) (w : World) : (callFunc 73 #[tv 93 a]).run Tryd.prog w = .ok (.value (ty 93)) w := by rw [xVType, vtype 93 (by simp)]; rfl
theorem cVIsNilPE (a p : Addr) (w : World) (ha : w.cell? a = some (.pointer (some p))) : (callFunc 74 #[tv 93 a]).run Tryd.prog w = .ok (.value (.bool false)) w := by rw [xVIsNil, isNilPE a p w ha]; rfl
theorem cVElemPE (a p : Addr) (w : World) (ha : w.cell? a = some (.pointer (some p))) : (callFunc 82 #[tv 93 a]).run Tryd.prog w = .ok (.value (.agg #[.pointer (some ⟨1, 34, none⟩), .pointer (some p), .int .u64 386])) w := by rw [xVElem, elemVPE a p w ha]; rfl
theorem cRElemPE (w : World) : (callFunc 110 #[.agg #[.pointer (some ⟨1, 93, none⟩)]]).run Tryd.prog w = .ok (.value (ty 34)) w := by rw [xRElem, elemPE]; rfl
theorem cKindPF (w : World) : (callFunc 98 #[.pointer (some ⟨1, 92, none⟩)]).run Tryd.prog w = .ok (.value (.int .u8 22)) w := by
  rw [xAbiKind]; show (((ReflectliteType.abiMethod fun t => (fun a : Nat => Value.int IntKind.u8 (a : Int)) <$> Rtype.kind t) #[.pointer (some ⟨1, 92, none⟩)]).run Tryd.prog w).andThen _ = _; rw [kindPF]; rfl
theorem cKindPE (w : World) : (callFunc 98 #[.pointer (some ⟨1, 93, none⟩)]).run Tryd.prog w = .ok (.value (.int .u8 22)) w := by
  rw [xAbiKind]; show (((ReflectliteType.abiMethod fun t => (fun a : Nat => Value.int IntKind.u8 (a : Int)) <$> Rtype.kind t) #[.pointer (some ⟨1, 93, none⟩)]).run Tryd.prog w).andThen _ = _; rw [kindPE]; rfl
theorem cKindF (w : World) : (callFunc 98 #[.pointer (some ⟨1, 82, none⟩)]).run Tryd.prog w = .ok (.value (.int .u8 22)) w := by
  rw [xAbiKind]; show (((ReflectliteType.abiMethod fun t => (fun a : Nat => Value.int IntKind.u8 (a : Int)) <$> Rtype.kind t) #[.pointer (some ⟨1, 82, none⟩)]).run Tryd.prog w).andThen _ = _; rw [kindF]; rfl
theorem cKindE (w : World) : (callFunc 98 #[.pointer (some ⟨1, 34, none⟩)]).run Tryd.prog w = .ok (.value (.int .u8 2)) w := by
  rw [xAbiKind]; show (((ReflectliteType.abiMethod fun t => (fun a : Nat => Value.int IntKind.u8 (a : Int)) <$> Rtype.kind t) #[.pointer (some ⟨1, 34, none⟩)]).run Tryd.prog w).andThen _ = _; rw [kindE]; rfl
theorem cSetF (ta b : Addr) (e : Addr) (old : Value) (W : World) (hb : W.cell? b = some (.pointer (some e))) (ht : W.cell? ta = some old) (hf : W.frozen? ta = false) :
    (callFunc 83 #[.agg #[.pointer (some ⟨1, 82, none⟩), .pointer (some ta), .int .u64 406], tv 82 b]).run Tryd.prog W = .ok (.value (.tuple #[])) (W.setCell ta (.pointer (some e))) := by
  rw [xVSet, setF ta b (.pointer (some e)) old W (Or.inr ⟨e, rfl⟩) hb ht hf]; rfl
theorem cSetE (ta b : Addr) (k : Int) (old : Value) (W : World) (hb : W.cell? b = some (.int .i64 k)) (ht : W.cell? ta = some old) (hf : W.frozen? ta = false) :
    (callFunc 83 #[.agg #[.pointer (some ⟨1, 34, none⟩), .pointer (some ta), .int .u64 386], .agg #[.pointer (some ⟨1, 34, none⟩), .pointer (some b), .int .u64 130]]).run Tryd.prog W = .ok (.value (.tuple #[])) (W.setCell ta (.int .i64 k)) := by
  rw [xVSet, setE ta b k old W hb ht hf]; rfl
theorem cComparableE (w : World) : (callFunc 109 #[.agg #[.pointer (some ⟨1, 34, none⟩)]]).run Tryd.prog w = .ok (.value (.bool true)) w := by rw [xComparable]; kernel_rfl
theorem cComparableF (w : World) : (callFunc 109 #[.agg #[.pointer (some ⟨1, 82, none⟩)]]).run Tryd.prog w = .ok (.value (.bool true)) w := by rw [xComparable]; kernel_rfl

/-! ### worlds in which one block has turned -/
theorem Upd.set {w : World} {tb : Nat} {old v : Value} {T : TypeId} (ht : w.heap[tb]? = some (.cells #[old] T (0, 0))) :
    Upd tb (.cells #[v] T (0, 0)) w (w.setCell ⟨tb, 0, none⟩ v) := by
  refine ⟨rfl, rfl, rfl, by simp, fun k hk hne => Below.heap_setCell _ _ _ _ hne, ?_⟩
  simp only [World.setCell, Array.getElem?_modify, if_true, ht]
  simp
theorem Upd.then {w w1 w2 : World} {tb : Nat} {o : Obj} (h : Upd tb o w w1) (hb : Below w1.heap.size w1 w2) : Upd tb o w w2 :=
  ⟨hb.os.trans h.os, hb.tape.trans h.tape, hb.output.trans h.output, Nat.le_trans h.size hb.size,
    fun k hk hne => (hb.block k (by have := h.size; omega)).trans (h.block k hk hne), (hb.block tb (lt_of_heap h.there)).trans h.there⟩
theorem Upd.after {w w1 w2 : World} {tb : Nat} {o : Obj} (hb : Below w.heap.size w w1) (h : Upd tb o w1 w2) : Upd tb o w w2 :=
  ⟨h.os.trans hb.os, h.tape.trans hb.tape, h.output.trans hb.output, Nat.le_trans hb.size h.size,
    fun k hk hne => (h.block k (by have := hb.size; omega) hne).trans (hb.block k hk), h.there⟩
end Go.Proofs.YtfcgfnmokbbcaaaDoor.Fa

namespace Go.Proofs.YtfcgfnmokbbcaaaDoor.Fa
open Go.RowKit Go.Extern.Stop Go.Stop Go.Extern

set_option maxHeartbeats 1000000 in
theorem as_F_hit (e a : Addr) (tb : Nat) (old : Value) (w : World) (ha : w.cell? a = some (.pointer (some ⟨tb, 0, none⟩))) (ht : w.heap[tb]? = some (.cells #[old] 82 (0, 0))) :
    Calls Tryd.prog 75 #[.iface 82 (.pointer (some e)), .iface 92 (.pointer (some ⟨tb, 0, none⟩)), tv 92 a, ty 82] w fun ev w' => ev = .returned (.bool true) ∧ Upd tb (.cells #[.pointer (some e)] 82 (0, 0)) w w' := by
  have tO := cTypeOfF
  have mA := methodAssignableTo
  have aF := cAssignFF
  have vF := cValueOfF
  have alt : a.block < w.heap.size := by
    rcases Nat.lt_or_ge a.block w.heap.size with h | h
    · exact h
    · simp [World.cell?, Array.getElem?_eq_none h] at ha
  have el := cVElemPF a ⟨tb, 0, none⟩ (w.alloc (.cells #[.pointer (some ⟨1, 92, none⟩), .pointer (some a), .int .u64 150] 113)) (by rw [World.cell?_alloc_lt _ _ a alt]; exact ha)
  have htl := lt_of_heap ht
  have ht0 : w.cell? ⟨tb, 0, none⟩ = some old := by simp [cell_of_heap ht]
  have st := cSetF ⟨tb, 0, none⟩ ⟨w.heap.size + 1, 0, none⟩ e old ((w.alloc (.cells #[.pointer (some ⟨1, 92, none⟩), .pointer (some a), .int .u64 150] 113)).alloc (.cells #[.pointer (some e)] 82))
    (by rw [World.cell?_alloc_at _ _ _ _ (by simp)]; rfl)
    (by rw [World.cell?_alloc_lt _ _ ⟨tb, 0, none⟩ (by simp; omega), World.cell?_alloc_lt _ _ ⟨tb, 0, none⟩ htl]; exact ht0)
    (by rw [World.frozen?_alloc_old _ _ ⟨tb, 0, none⟩ (by simp; omega), World.frozen?_alloc_old _ _ ⟨tb, 0, none⟩ (Nat.ne_of_lt htl)]; exact frozen_of_heap ht 0)
  have HT := Lib.hid ht
  clear ht
  go_enter Tryd.func75, Tryd.ntmps75
  go_wp2
  refine wp_loop_rounds 1 ?_
  rw [rounds_succ]
  go_wp2
  go_ret
  exact ⟨rfl, (Upd.set HT.out).then (((Below.refl _ _).alloc (Nat.le_refl _) _).alloc (by simp) _)⟩

set_option maxHeartbeats 1000000 in
theorem as_E_missF (k : Int) (a : Addr) (tb : Nat) (w : World) :
    Calls Tryd.prog 75 #[.iface 34 (.int .i64 k), .iface 92 (.pointer (some ⟨tb, 0, none⟩)), tv 92 a, ty 82] w fun ev w' => ev = .returned (.bool false) ∧ Below w.heap.size w w' := by
  have tO := cTypeOfE
  have mA := methodAssignableTo
  have aF := cAssignEF
  have n1 := noAsE
  have n2 := noUnwE
  have n3 := noUnwsE
  go_enter Tryd.func75, Tryd.ntmps75
  go_wp2
  refine wp_loop_rounds 1 ?_
  rw [rounds_succ]
  go_wp2
  go_ret
  exact ⟨rfl, (Below.refl _ _).alloc (Nat.le_refl _) _⟩

set_option maxHeartbeats 1000000 in
theorem as_E_hitE (k : Int) (a : Addr) (tb : Nat) (old : Value) (w : World) (ha : w.cell? a = some (.pointer (some ⟨tb, 0, none⟩))) (ht : w.heap[tb]? = some (.cells #[old] 34 (0, 0))) :
    Calls Tryd.prog 75 #[.iface 34 (.int .i64 k), .iface 93 (.pointer (some ⟨tb, 0, none⟩)), tv 93 a, ty 34] w fun ev w' => ev = .returned (.bool true) ∧ Upd tb (.cells #[.int .i64 k] 34 (0, 0)) w w' := by
  have tO := cTypeOfE
  have mA := methodAssignableTo
  have aF := cAssignEE
  have vF := cValueOfE
  have alt : a.block < w.heap.size := by
    rcases Nat.lt_or_ge a.block w.heap.size with h | h
    · exact h
    · simp [World.cell?, Array.getElem?_eq_none h] at ha
  have el := cVElemPE a ⟨tb, 0, none⟩ (w.alloc (.cells #[.pointer (some ⟨1, 93, none⟩), .pointer (some a), .int .u64 150] 113)) (by rw [World.cell?_alloc_lt _ _ a alt]; exact ha)
  have htl := lt_of_heap ht
  have ht0 : w.cell? ⟨tb, 0, none⟩ = some old := by simp [cell_of_heap ht]
  have st := cSetE ⟨tb, 0, none⟩ ⟨w.heap.size + 1, 0, none⟩ k old ((w.alloc (.cells #[.pointer (some ⟨1, 93, none⟩), .pointer (some a), .int .u64 150] 113)).alloc (.cells #[.int .i64 k] 34))
    (by rw [World.cell?_alloc_at _ _ _ _ (by simp)]; rfl)
    (by rw [World.cell?_alloc_lt _ _ ⟨tb, 0, none⟩ (by simp; omega), World.cell?_alloc_lt _ _ ⟨tb, 0, none⟩ htl]; exact ht0)
    (by rw [World.frozen?_alloc_old _ _ ⟨tb, 0, none⟩ (by simp; omega), World.frozen?_alloc_old _ _ ⟨tb, 0, none⟩ (Nat.ne_of_lt htl)]; exact frozen_of_heap ht 0)
  have HT := Lib.hid ht
  clear ht
  go_enter Tryd.func75, Tryd.ntmps75
  go_wp2
  refine wp_loop_rounds 1 ?_
  rw [rounds_succ]
  go_wp2
  go_ret
  exact ⟨rfl, (Upd.set HT.out).then (((Below.refl _ _).alloc (Nat.le_refl _) _).alloc (by simp) _)⟩

/-- A Fault unwrapped. -/
theorem unwrap_any (b : Nat) (op : ByteArray) (at_ : Int) (v' : Value) (w : World) (hb : w.heap[b]? = some (.cells #[.string op, .int .i64 at_, v'] 84 (0, 0))) :
    Calls Tryd.prog 103 #[.pointer (some ⟨b, 0, none⟩)] w fun e w' => e = .returned v' ∧ w = w' := by
  have h2 : w.cell? ⟨b, 2, none⟩ = some v' := by simp [cell_of_heap hb]
  have HB := Lib.hid hb
  clear hb
  go_enter Tryd.func103, Tryd.ntmps103
  go_wp2
  go_ret
  exact ⟨rfl, rfl⟩
end Go.Proofs.YtfcgfnmokbbcaaaDoor.Fa

namespace Go.Proofs.YtfcgfnmokbbcaaaDoor.Fa
open Go.RowKit Go.Extern.Stop Go.Stop Go.Extern

theorem run_equalIn_iface_int {P : Program} (w : World) (d : Nat) {ti tn : TypeId} {ms : Array (String × TypeId)} {i : TypeInfo} {k : IntKind} (a b : Int)
    (hi : P.underlying ti = some (.interface ms)) (hn : P.underlying tn = some (.int k)) (hinfo : P.info? tn = some i) (hcomp : i.comparable = true) :
    (Op.equalIn (d + 2) ti (.iface tn (.int k a)) (.iface tn (.int k b))).run P w = .ok (a == b) w := by
  simp [Op.equalIn, run_underlying hi, run_underlying hn, typeInfo, hinfo, hcomp]
theorem run_eql_iface_int {P : Program} (w : World) {ti tn : TypeId} {ms : Array (String × TypeId)} {i : TypeInfo} {k : IntKind} (a b : Int)
    (hi : P.underlying ti = some (.interface ms)) (hn : P.underlying tn = some (.int k)) (hinfo : P.info? tn = some i) (hcomp : i.comparable = true) :
    (binOp .eql ti (.iface tn (.int k a)) (.iface tn (.int k b))).run P w = .ok (.bool (a == b)) w := by
  simp only [binOp]
  simp [Op.equal, Op.maxDepth, run_equalIn_iface_int w 9998 a b hi hn hinfo hcomp]

theorem compE : (Tryd.prog.info? 34).map (·.comparable) = some true := by kernel_rfl
theorem compF : (Tryd.prog.info? 82).map (·.comparable) = some true := by kernel_rfl
theorem sizeFS : (Tryd.prog.info? 84).map (·.size) = some 3 := by kernel_rfl
theorem eqE (a b : Int) (w : World) : (binOp .eql 24 (.iface 34 (.int .i64 a)) (.iface 34 (.int .i64 b))).run Tryd.prog w = .ok (.bool (a == b)) w := by
  obtain ⟨i, hi, hcmp⟩ := Option.map_eq_some_iff.1 compE
  exact run_eql_iface_int w a b Tryd.underlying24 Tryd.underlying34 hi hcmp
theorem eqTypes (tx ty_ : Nat) (x y : Value) (hne : tx ≠ ty_) (w : World) : (binOp .eql 24 (.iface tx x) (.iface ty_ y)).run Tryd.prog w = .ok (.bool false) w :=
  run_eql_iface_types tx ty_ x y Tryd.underlying24 hne w
theorem eqF_same (a : Addr) (w : World) : (binOp .eql 24 (.iface 82 (.pointer (some a))) (.iface 82 (.pointer (some a)))).run Tryd.prog w = .ok (.bool true) w := by
  obtain ⟨i, hi, hcmp⟩ := Option.map_eq_some_iff.1 compF
  obtain ⟨j, hj, _⟩ := Option.map_eq_some_iff.1 sizeFS
  exact run_eql_iface_ptr_same w a Tryd.underlying24 Tryd.underlying82 hi hcmp hj
theorem eqF_other {a b : Nat} {ca cb : Array Value} {ta tb : TypeId} (w : World) (hne : a ≠ b) (ha : w.heap[a]? = some (.cells ca ta (0, 0))) (hb : w.heap[b]? = some (.cells cb tb (0, 0))) :
    (binOp .eql 24 (.iface 82 (.pointer (some ⟨a, 0, none⟩))) (.iface 82 (.pointer (some ⟨b, 0, none⟩)))).run Tryd.prog w = .ok (.bool false) w := by
  obtain ⟨i, hi, hcmp⟩ := Option.map_eq_some_iff.1 compF
  obtain ⟨j, hj, hjs⟩ := Option.map_eq_some_iff.1 sizeFS
  exact run_eql_iface_ptr_other w Tryd.underlying24 Tryd.underlying82 hi hcmp hj (by rw [hjs]; decide) (fun h => hne (congrArg Addr.block h)) ha hb
theorem Ch.isIface {w : World} {l : List (Nat × ByteArray × Int)} {v u : Value} (h : Ch w l v u) (hu : ∃ tx x, u = .iface tx x) : ∃ tx x, v = .iface tx x := by
  cases l with
  | nil => cases h; exact hu
  | cons y r => exact ⟨_, _, h.1⟩

/-- New of an error that is not nil: a new fault. -/
theorem New_some (op : ByteArray) (at_ : Int) (tx : Nat) (x : Value) (w : World) :
    Calls Tryd.prog 25 #[.string op, .int .i64 at_, .iface tx x] w fun e w' => e = .returned (.iface 82 (.pointer (some ⟨w.heap.size, 0, none⟩))) ∧ w' = w.alloc (.cells #[.string op, .int .i64 at_, .iface tx x] 84) := by
  go_enter Tryd.func25, Tryd.ntmps25
  go_wp2
  go_ret
  exact ⟨rfl, rfl⟩
theorem New_nil (op : ByteArray) (at_ : Int) (w : World) :
    Calls Tryd.prog 25 #[.string op, .int .i64 at_, .nilIface] w fun e w' => e = .returned .nilIface ∧ w = w' := by
  go_enter Tryd.func25, Tryd.ntmps25
  go_wp2
  go_ret
  exact ⟨rfl, rfl⟩
/-- What New makes, as a chain. -/
theorem Ch.new {w : World} {l : List (Nat × ByteArray × Int)} {v u : Value} (h : Ch w l v u) (op : ByteArray) (at_ : Int) :
    Ch (w.alloc (.cells #[.string op, .int .i64 at_, v] 84)) ((w.heap.size, op, at_) :: l) (.iface 82 (.pointer (some ⟨w.heap.size, 0, none⟩))) u :=
  ⟨rfl, v, by show (w.heap.push _)[w.heap.size]? = _; simp, h.bel ((Below.refl _ _).alloc (Nat.le_refl _) _)⟩
end Go.Proofs.YtfcgfnmokbbcaaaDoor.Fa
