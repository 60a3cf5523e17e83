/-
  What each call into package internal/reflectlite comes to at this program's types, as one equation a call. No condition.
-/
import Derived.Test.YtbnfndcbhnjnaaaDoorFaBase
namespace Go.Proofs.YtbnfndcbhnjnaaaDoor.Fa
open Go.RowKit Go.Extern.Stop Go.Stop Go.Extern

theorem xTypeOf (args : Array Value) (w : World) : (callFunc 84 args).run Tryd.prog w = ((ReflectliteType.typeOf args).run Tryd.prog w).andThen fun v w' => .ok (.value v) w' :=
  run_callFunc_extern Tryd.func84 (by kernel_rfl) (by kernel_rfl) (by kernel_rfl) (by kernel_rfl) args w
theorem xAssignable (args : Array Value) (w : World) : (callFunc 113 args).run Tryd.prog w = (((ReflectliteType.relation "AssignableTo" ReflectliteType.assignableTo) args).run Tryd.prog w).andThen fun v w' => .ok (.value v) w' :=
  run_callFunc_extern Tryd.func113 (by kernel_rfl) (by kernel_rfl) (by kernel_rfl) (by kernel_rfl) args w
theorem xImplements (args : Array Value) (w : World) : (callFunc 116 args).run Tryd.prog w = (((ReflectliteType.relation "Implements" ReflectliteType.implements_) args).run Tryd.prog w).andThen fun v w' => .ok (.value v) w' :=
  run_callFunc_extern Tryd.func116 (by kernel_rfl) (by kernel_rfl) (by kernel_rfl) (by kernel_rfl) args w
theorem xValueOf (args : Array Value) (w : World) : (callFunc 72 args).run Tryd.prog w = ((ReflectliteValue.unpack (args.getD 0 (.tuple #[]))).run Tryd.prog w).andThen fun v w' => .ok (.value v) w' :=
  run_callFunc_extern (e := fun args => ReflectliteValue.unpack (args.getD 0 (.tuple #[]))) Tryd.func72 (by kernel_rfl) (by kernel_rfl) (by kernel_rfl) (by kernel_rfl) args w
theorem xVElem (args : Array Value) (w : World) : (callFunc 85 args).run Tryd.prog w = (((ReflectliteValue.method (ReflectliteValue.valueError "reflectlite.Value.Elem" 0) ReflectliteValue.elem) args).run Tryd.prog w).andThen fun v w' => .ok (.value v) w' :=
  run_callFunc_extern Tryd.func85 (by kernel_rfl) (by kernel_rfl) (by kernel_rfl) (by kernel_rfl) args w
theorem xVSet (args : Array Value) (w : World) : (callFunc 86 args).run Tryd.prog w = ((ReflectliteValue.set args).run Tryd.prog w).andThen fun v w' => .ok (.value v) w' :=
  run_callFunc_extern Tryd.func86 (by kernel_rfl) (by kernel_rfl) (by kernel_rfl) (by kernel_rfl) args w
theorem xVType (args : Array Value) (w : World) : (callFunc 73 args).run Tryd.prog w = (((ReflectliteValue.methodAny (ReflectliteValue.valueError "reflectlite.Value.Type" 0) (fun t _ _ _ => ReflectliteType.toType t)) args).run Tryd.prog w).andThen fun v w' => .ok (.value v) w' :=
  run_callFunc_extern Tryd.func73 (by kernel_rfl) (by kernel_rfl) (by kernel_rfl) (by kernel_rfl) args w
theorem xVIsNil (args : Array Value) (w : World) : (callFunc 74 args).run Tryd.prog w = (((ReflectliteValue.method (ReflectliteValue.valueError "reflectlite.Value.IsNil" 0) ReflectliteValue.isNil) args).run Tryd.prog w).andThen fun v w' => .ok (.value v) w' :=
  run_callFunc_extern Tryd.func74 (by kernel_rfl) (by kernel_rfl) (by kernel_rfl) (by kernel_rfl) args w
theorem xAbiKind (args : Array Value) (w : World) : (callFunc 103 args).run Tryd.prog w = (((ReflectliteType.abiMethod fun t => do pure (.int .u8 (← Rtype.kind t))) args).run Tryd.prog w).andThen fun v w' => .ok (.value v) w' :=
  run_callFunc_extern Tryd.func103 (by kernel_rfl) (by kernel_rfl) (by kernel_rfl) (by kernel_rfl) args w
theorem xRElem (args : Array Value) (w : World) : (callFunc 115 args).run Tryd.prog w = (((ReflectliteType.method ReflectliteType.elem) args).run Tryd.prog w).andThen fun v w' => .ok (.value v) w' :=
  run_callFunc_extern Tryd.func115 (by kernel_rfl) (by kernel_rfl) (by kernel_rfl) (by kernel_rfl) args w
theorem xComparable (args : Array Value) (w : World) : (callFunc 114 args).run Tryd.prog w = (((ReflectliteType.method fun t => do Rtype.noPackHeld "Comparable" t; pure (.bool (← typeInfo t).comparable)) args).run Tryd.prog w).andThen fun v w' => .ok (.value v) w' :=
  run_callFunc_extern Tryd.func114 (by kernel_rfl) (by kernel_rfl) (by kernel_rfl) (by kernel_rfl) args w

/-- The Value that errors.As makes of its target: a box that holds the target's address. -/
abbrev tv (T : Nat) (a : Addr) : Value := .agg #[.pointer (some ⟨1, T, none⟩), .pointer (some a), .int .u64 150]
/-- The handle of type T, as a reflectlite.Type. -/
abbrev ty (T : Nat) : Value := .iface 127 (.agg #[.pointer (some ⟨1, T, none⟩)])

theorem cTypeOfF (v : Value) (w : World) : (callFunc 84 #[.iface 71 v]).run Tryd.prog w = .ok (.value (ty 71)) w := by rw [xTypeOf, typeOfF]; rfl
theorem cTypeOfE (v : Value) (w : World) : (callFunc 84 #[.iface 33 v]).run Tryd.prog w = .ok (.value (ty 33)) w := by rw [xTypeOf, typeOfE]; rfl
theorem cAssignFF (w : World) : (callFunc 113 #[.agg #[.pointer (some ⟨1, 71, none⟩)], ty 71]).run Tryd.prog w = .ok (.value (.bool true)) w := by rw [xAssignable, assignFF]; rfl
theorem cAssignFE (w : World) : (callFunc 113 #[.agg #[.pointer (some ⟨1, 71, none⟩)], ty 33]).run Tryd.prog w = .ok (.value (.bool false)) w := by rw [xAssignable, assignFE]; rfl
theorem cAssignEF (w : World) : (callFunc 113 #[.agg #[.pointer (some ⟨1, 33, none⟩)], ty 71]).run Tryd.prog w = .ok (.value (.bool false)) w := by rw [xAssignable, assignEF]; rfl
theorem cAssignEE (w : World) : (callFunc 113 #[.agg #[.pointer (some ⟨1, 33, none⟩)], ty 33]).run Tryd.prog w = .ok (.value (.bool true)) w := by rw [xAssignable, assignEE]; rfl
theorem cImplF (w : World) : (callFunc 116 #[.agg #[.pointer (some ⟨1, 71, none⟩)], ty 27]).run Tryd.prog w = .ok (.value (.bool true)) w := by rw [xImplements, implementsF]; rfl
theorem cImplE (w : World) : (callFunc 116 #[.agg #[.pointer (some ⟨1, 33, none⟩)], ty 27]).run Tryd.prog w = .ok (.value (.bool true)) w := by rw [xImplements, implementsE]; rfl
theorem cValueOfPF (t : Addr) (w : World) : (callFunc 72 #[.iface 86 (.pointer (some t))]).run Tryd.prog w = .ok (.value (tv 86 ⟨w.heap.size, 0, none⟩)) (w.alloc (.cells #[.pointer (some t)] 86)) := by
  rw [xValueOf]; show ((ReflectliteValue.unpack (.iface 86 (.pointer (some t)))).run Tryd.prog w).andThen _ = _; rw [valueOfPF]; rfl
theorem cValueOfPE (t : Addr) (w : World) : (callFunc 72 #[.iface 87 (.pointer (some t))]).run Tryd.prog w = .ok (.value (tv 87 ⟨w.heap.size, 0, none⟩)) (w.alloc (.cells #[.pointer (some t)] 87)) := by
  rw [xValueOf]; show ((ReflectliteValue.unpack (.iface 87 (.pointer (some t)))).run Tryd.prog w).andThen _ = _; rw [valueOfPE]; rfl
theorem cValueOfF (t : Addr) (w : World) : (callFunc 72 #[.iface 71 (.pointer (some t))]).run Tryd.prog w = .ok (.value (tv 71 ⟨w.heap.size, 0, none⟩)) (w.alloc (.cells #[.pointer (some t)] 71)) := by
  rw [xValueOf]; show ((ReflectliteValue.unpack (.iface 71 (.pointer (some t)))).run Tryd.prog w).andThen _ = _; rw [valueOfF]; rfl
theorem cValueOfE (k : Int) (w : World) : (callFunc 72 #[.iface 33 (.int .i64 k)]).run Tryd.prog w = .ok (.value (.agg #[.pointer (some ⟨1, 33, none⟩), .pointer (some ⟨w.heap.size, 0, none⟩), .int .u64 130])) (w.alloc (.cells #[.int .i64 k] 33)) := by
  rw [xValueOf]; show ((ReflectliteValue.unpack (.iface 33 (.int .i64 k))).run Tryd.prog w).andThen _ = _; rw [valueOfE]; rfl
theorem cVTypePF (a : Addr) (w : World) : (callFunc 73 #[tv 86 a]).run Tryd.prog w = .ok (.value (ty 86)) w := by rw [xVType, vtype 86 (by simp)]; rfl
theorem cVIsNilPF (a p : Addr) (w : World) (ha : w.cell? a = some (.pointer (some p))) : (callFunc 74 #[tv 86 a]).run Tryd.prog w = .ok (.value (.bool false)) w := by rw [xVIsNil, isNilPF a p w ha]; rfl
theorem cVElemPF (a p : Addr) (w : World) (ha : w.cell? a = some (.pointer (some p))) : (callFunc 85 #[tv 86 a]).run Tryd.prog w = .ok (.value (.agg #[.pointer (some ⟨1, 71, none⟩), .pointer (some p), .int .u64 406])) w := by rw [xVElem, elemVPF a p w ha]; rfl
theorem cRElemPF (w : World) : (callFunc 115 #[.agg #[.pointer (some ⟨1, 86, none⟩)]]).run Tryd.prog w = .ok (.value (ty 71)) w := by rw [xRElem, elemPF]; rfl
theorem cVTypePE (a : Addr) (w : World) : (callFunc 73 #[tv 87 a]).run Tryd.prog w = .ok (.value (ty 87)) w := by rw [xVType, vtype 87 (by simp)]; rfl
theorem cVIsNilPE (a p : Addr) (w : World) (ha : w.cell? a = some (.pointer (some p))) : (callFunc 74 #[tv 87 a]).run Tryd.prog w = .ok (.value (.bool false)) w := by rw [xVIsNil, isNilPE a p w ha]; rfl
theorem cVElemPE (a p : Addr) (w : World) (ha : w.cell? a = some (.pointer (some p))) : (callFunc 85 #[tv 87 a]).run Tryd.prog w = .ok (.value (.agg #[.pointer (some ⟨1, 33, none⟩), .pointer (some p), .int .u64 386])) w := by rw [xVElem, elemVPE a p w ha]; rfl
theorem cRElemPE (w : World) : (callFunc 115 #[.agg #[.pointer (some ⟨1, 87, none⟩)]]).run Tryd.prog w = .ok (.value (ty 33)) w := by rw [xRElem, elemPE]; rfl
theorem cKindPF (w : World) : (callFunc 103 #[.pointer (some ⟨1, 86, none⟩)]).run Tryd.prog w = .ok (.value (.int .u8 22)) w := by
  rw [xAbiKind]; show (((ReflectliteType.abiMethod fun t => (fun a : Nat => Value.int IntKind.u8 (a : Int)) <$> Rtype.kind t) #[.pointer (some ⟨1, 86, none⟩)]).run Tryd.prog w).andThen _ = _; rw [kindPF]; rfl
theorem cKindPE (w : World) : (callFunc 103 #[.pointer (some ⟨1, 87, none⟩)]).run Tryd.prog w = .ok (.value (.int .u8 22)) w := by
  rw [xAbiKind]; show (((ReflectliteType.abiMethod fun t => (fun a : Nat => Value.int IntKind.u8 (a : Int)) <$> Rtype.kind t) #[.pointer (some ⟨1, 87, none⟩)]).run Tryd.prog w).andThen _ = _; rw [kindPE]; rfl
theorem cKindF (w : World) : (callFunc 103 #[.pointer (some ⟨1, 71, none⟩)]).run Tryd.prog w = .ok (.value (.int .u8 22)) w := by
  rw [xAbiKind]; show (((ReflectliteType.abiMethod fun t => (fun a : Nat => Value.int IntKind.u8 (a : Int)) <$> Rtype.kind t) #[.pointer (some ⟨1, 71, none⟩)]).run Tryd.prog w).andThen _ = _; rw [kindF]; rfl
theorem cKindE (w : World) : (callFunc 103 #[.pointer (some ⟨1, 33, none⟩)]).run Tryd.prog w = .ok (.value (.int .u8 2)) w := by
  rw [xAbiKind]; show (((ReflectliteType.abiMethod fun t => (fun a : Nat => Value.int IntKind.u8 (a : Int)) <$> Rtype.kind t) #[.pointer (some ⟨1, 33, none⟩)]).run Tryd.prog w).andThen _ = _; rw [kindE]; rfl
theorem cSetF (ta b : Addr) (e : Addr) (old : Value) (W : World) (hb : W.cell? b = some (.pointer (some e))) (ht : W.cell? ta = some old) (hf : W.frozen? ta = false) :
    (callFunc 86 #[.agg #[.pointer (some ⟨1, 71, none⟩), .pointer (some ta), .int .u64 406], tv 71 b]).run Tryd.prog W = .ok (.value (.tuple #[])) (W.setCell ta (.pointer (some e))) := by
  rw [xVSet, setF ta b (.pointer (some e)) old W (Or.inr ⟨e, rfl⟩) hb ht hf]; rfl
theorem cSetE (ta b : Addr) (k : Int) (old : Value) (W : World) (hb : W.cell? b = some (.int .i64 k)) (ht : W.cell? ta = some old) (hf : W.frozen? ta = false) :
    (callFunc 86 #[.agg #[.pointer (some ⟨1, 33, none⟩), .pointer (some ta), .int .u64 386], .agg #[.pointer (some ⟨1, 33, none⟩), .pointer (some b), .int .u64 130]]).run Tryd.prog W = .ok (.value (.tuple #[])) (W.setCell ta (.int .i64 k)) := by
  rw [xVSet, setE ta b k old W hb ht hf]; rfl
theorem cComparableE (w : World) : (callFunc 114 #[.agg #[.pointer (some ⟨1, 33, none⟩)]]).run Tryd.prog w = .ok (.value (.bool true)) w := by rw [xComparable]; kernel_rfl
theorem cComparableF (w : World) : (callFunc 114 #[.agg #[.pointer (some ⟨1, 71, none⟩)]]).run Tryd.prog w = .ok (.value (.bool true)) w := by rw [xComparable]; kernel_rfl

/-! ### worlds in which one block has turned -/
theorem Upd.set {w : World} {tb : Nat} {old v : Value} {T : TypeId} (ht : w.heap[tb]? = some (.cells #[old] T (0, 0))) :
    Upd tb (.cells #[v] T (0, 0)) w (w.setCell ⟨tb, 0, none⟩ v) := by
  refine ⟨rfl, rfl, rfl, by simp, fun k hk hne => Below.heap_setCell _ _ _ _ hne, ?_⟩
  simp only [World.setCell, Array.getElem?_modify, if_true, ht]
  simp
theorem Upd.then {w w1 w2 : World} {tb : Nat} {o : Obj} (h : Upd tb o w w1) (hb : Below w1.heap.size w1 w2) : Upd tb o w w2 :=
  ⟨hb.os.trans h.os, hb.tape.trans h.tape, hb.output.trans h.output, Nat.le_trans h.size hb.size,
    fun k hk hne => (hb.block k (by have := h.size; omega)).trans (h.block k hk hne), (hb.block tb (lt_of_heap h.there)).trans h.there⟩
theorem Upd.after {w w1 w2 : World} {tb : Nat} {o : Obj} (hb : Below w.heap.size w w1) (h : Upd tb o w1 w2) : Upd tb o w w2 :=
  ⟨h.os.trans hb.os, h.tape.trans hb.tape, h.output.trans hb.output, Nat.le_trans hb.size h.size,
    fun k hk hne => (h.block k (by have := hb.size; omega) hne).trans (hb.block k hk), h.there⟩
end Go.Proofs.YtbnfndcbhnjnaaaDoor.Fa
