/-
  The closed facts on package errors' reflection at this program, and the words for chains of faults in memory: what later texts of this family stand on. No condition.
  What each call into package internal/reflectlite comes to at this program's types, as one equation a call. No condition.
  errors.As at a target of type **Fault: what it answers of a Fault, of an Errno, of an errors.New; each call by its contract. Condition: package errors' variable holds the handle of the type 'error'.
-/
import Derived.Test.YtfcgfnmokbbcaaaDoorProg
import Derived.WalkKit
import Derived.LaidEql
import Derived.Stop.Asserts
import Derived.RowKitTokens
import Derived.Lib.Hide
namespace Go.Proofs.YtfcgfnmokbbcaaaDoor.Fa
open Go.RowKit Go.Extern.Stop Go.Stop Go.Extern

/-! ### words -/
/-- package errors' variable holds the handle of the type 'error'. -/
def EG (w : World) : Prop := w.cell? ⟨0, 0, none⟩ = some (.iface 127 (.agg #[.pointer (some ⟨1, 24, none⟩)]))

theorem EG.pos {w : World} (h : EG w) : 0 < w.heap.size := by
  unfold EG at h
  rcases Nat.lt_or_ge 0 w.heap.size with h0 | h0
  · exact h0
  · simp [World.cell?, Array.getElem?_eq_none h0] at h

theorem EG.below {w w' : World} {B : Nat} (h : EG w) (hb : Below B w w') (hB : 0 < B) : EG w' := by
  unfold EG at *
  rw [hb.cell hB]; exact h

theorem EG.bel {w w' : World} (h : EG w) (hb : Below w.heap.size w w') : EG w' := h.below hb h.pos

/-- Block tb has become o; every other old block is as it was. -/
structure Upd (tb : Nat) (o : Obj) (w w' : World) : Prop where
  os : w'.os = w.os
  tape : w'.tape = w.tape
  output : w'.output = w.output
  size : w.heap.size ≤ w'.heap.size
  block : ∀ k, k < w.heap.size → k ≠ tb → w'.heap[k]? = w.heap[k]?
  there : w'.heap[tb]? = some o

theorem Upd.cell {tb : Nat} {o : Obj} {w w' : World} (h : Upd tb o w w') {p : Addr} (hp : p.block < w.heap.size) (hne : p.block ≠ tb) : w'.cell? p = w.cell? p := World.cell?_of_block (w := w) (h.block p.block hp hne)

theorem Upd.below {tb : Nat} {o : Obj} {w w' : World} (h : Upd tb o w w') {B : Nat} (hB : B ≤ tb) (hw : tb < w.heap.size) : Below B w w' :=
  ⟨h.os, h.tape, h.output, h.size, fun k hk => h.block k (by omega) (by omega)⟩

/-- A chain of faults in memory: from the value v, through the faults at the blocks of l (each with its op and its place), to the value u. -/
def Ch (w : World) : List (Nat × ByteArray × Int) → Value → Value → Prop
  | [], v, u => v = u
  | (b, op, at_) :: r, v, u => v = .iface 82 (.pointer (some ⟨b, 0, none⟩)) ∧ ∃ v', w.heap[b]? = some (.cells #[.string op, .int .i64 at_, v'] 84 (0, 0)) ∧ Ch w r v' u

theorem Ch.lt {w : World} {l : List (Nat × ByteArray × Int)} : ∀ {v u : Value}, Ch w l v u → ∀ x ∈ l, x.1 < w.heap.size := by
  induction l with
  | nil => intro _ _ _ x hx; cases hx
  | cons y r ih =>
    intro v u h x hx
    obtain ⟨b, op, at_⟩ := y
    obtain ⟨_, v', h2, h3⟩ := h
    rcases List.mem_cons.1 hx with e | e
    · subst e
      rcases Nat.lt_or_ge b w.heap.size with h0 | h0
      · exact h0
      · simp [Array.getElem?_eq_none h0] at h2
    · exact ih h3 x e

theorem Ch.keep {w w' : World} {l : List (Nat × ByteArray × Int)} : ∀ {v u : Value}, Ch w l v u → (∀ x ∈ l, w'.heap[x.1]? = w.heap[x.1]?) → Ch w' l v u := by
  induction l with
  | nil => intro _ _ h _; exact h
  | cons y r ih =>
    intro v u h hk
    obtain ⟨b, op, at_⟩ := y
    obtain ⟨h1, v', h2, h3⟩ := h
    exact ⟨h1, v', by rw [hk _ (List.mem_cons_self ..)]; exact h2, ih h3 fun x hx => hk x (List.mem_cons_of_mem _ hx)⟩

theorem Ch.bel {w w' : World} {l : List (Nat × ByteArray × Int)} {v u : Value} (h : Ch w l v u) (hb : Below w.heap.size w w') : Ch w' l v u :=
  h.keep fun x hx => hb.block x.1 (h.lt x hx)

theorem Ch.upd {w w' : World} {l : List (Nat × ByteArray × Int)} {v u : Value} {tb : Nat} {o : Obj} (h : Ch w l v u) (hb : Upd tb o w w') (hne : ∀ x ∈ l, x.1 ≠ tb) : Ch w' l v u :=
  h.keep fun x hx => hb.block x.1 (h.lt x hx) (hne x hx)

theorem Ch.append {w : World} {l r : List (Nat × ByteArray × Int)} {t u : Value} : ∀ {v : Value}, Ch w l v t → Ch w r t u → Ch w (l ++ r) v u := by
  induction l with
  | nil => intro v h k; cases h; exact k
  | cons y l ih =>
    intro v h k
    obtain ⟨b, op, at_⟩ := y
    obtain ⟨h1, v', h2, h3⟩ := h
    exact ⟨h1, v', h2, ih h3 k⟩

/-- The blocks fall: each fault wraps what was there ahead of it. -/
def Falls (l : List (Nat × ByteArray × Int)) : Prop := l.Pairwise fun x y => y.1 < x.1

theorem cell_of_heap {w : World} {b : Nat} {c : Array Value} {t : TypeId} {fz : Nat × Nat} (h : w.heap[b]? = some (.cells c t fz)) (i : Nat) : w.cell? ⟨b, i, none⟩ = c[i]? := by
  simp [World.cell?, h]
theorem frozen_of_heap {w : World} {b : Nat} {c : Array Value} {t : TypeId} (h : w.heap[b]? = some (.cells c t (0, 0))) (i : Nat) : w.frozen? ⟨b, i, none⟩ = false := by
  simp [World.frozen?, h]
theorem lt_of_heap {w : World} {b : Nat} {o : Obj} (h : w.heap[b]? = some o) : b < w.heap.size := by
  rcases Nat.lt_or_ge b w.heap.size with h0 | h0
  · exact h0
  · simp [Array.getElem?_eq_none h0] at h

/-! ### closed facts: internal/reflectlite -/
theorem valueOfPF (t : Addr) (w : World) : (ReflectliteValue.unpack (.iface 92 (.pointer (some t)))).run Tryd.prog w
    = .ok (.agg #[.pointer (some ⟨1, 92, none⟩), .pointer (some ⟨w.heap.size, 0, none⟩), .int .u64 150]) (w.alloc (.cells #[.pointer (some t)] 92)) := by kernel_rfl
theorem valueOfPE (t : Addr) (w : World) : (ReflectliteValue.unpack (.iface 93 (.pointer (some t)))).run Tryd.prog w
    = .ok (.agg #[.pointer (some ⟨1, 93, none⟩), .pointer (some ⟨w.heap.size, 0, none⟩), .int .u64 150]) (w.alloc (.cells #[.pointer (some t)] 93)) := by kernel_rfl
theorem valueOfF (e : Addr) (w : World) : (ReflectliteValue.unpack (.iface 82 (.pointer (some e)))).run Tryd.prog w
    = .ok (.agg #[.pointer (some ⟨1, 82, none⟩), .pointer (some ⟨w.heap.size, 0, none⟩), .int .u64 150]) (w.alloc (.cells #[.pointer (some e)] 82)) := by kernel_rfl
theorem valueOfE (k : Int) (w : World) : (ReflectliteValue.unpack (.iface 34 (.int .i64 k))).run Tryd.prog w
    = .ok (.agg #[.pointer (some ⟨1, 34, none⟩), .pointer (some ⟨w.heap.size, 0, none⟩), .int .u64 130]) (w.alloc (.cells #[.int .i64 k] 34)) := by kernel_rfl
theorem vtype (t : Nat) (ht : t = 92 ∨ t = 93) (a : Addr) (w : World) : (ReflectliteValue.methodAny (ReflectliteValue.valueError "reflectlite.Value.Type" 0) (fun t _ _ _ => ReflectliteType.toType t) #[.agg #[.pointer (some ⟨1, t, none⟩), .pointer (some a), .int .u64 150]]).run Tryd.prog w
    = .ok (.iface 127 (.agg #[.pointer (some ⟨1, t, none⟩)])) w := by rcases ht with rfl | rfl <;> kernel_rfl
theorem methodKind (h : Value) (w : World) : (Go.method 268 127 (.agg #[h]) "Kind").run Tryd.prog w = .ok (98, h) w := by kernel_rfl
theorem methodElem (h : Value) (w : World) : (Go.method 268 127 (.agg #[h]) "Elem").run Tryd.prog w = .ok (110, .agg #[h]) w := by kernel_rfl
theorem methodImplements (h : Value) (w : World) : (Go.method 268 127 (.agg #[h]) "Implements").run Tryd.prog w = .ok (111, .agg #[h]) w := by kernel_rfl
theorem methodAssignableTo (h : Value) (w : World) : (Go.method 268 127 (.agg #[h]) "AssignableTo").run Tryd.prog w = .ok (108, .agg #[h]) w := by kernel_rfl
theorem methodComparable (h : Value) (w : World) : (Go.method 268 127 (.agg #[h]) "Comparable").run Tryd.prog w = .ok (109, .agg #[h]) w := by kernel_rfl
theorem methodUnwrapF (h : Value) (w : World) : (Go.method 268 82 h "Unwrap").run Tryd.prog w = .ok (103, h) w := by kernel_rfl
theorem methodErrorF (h : Value) (w : World) : (Go.method 268 82 h "Error").run Tryd.prog w = .ok (102, h) w := by kernel_rfl
theorem methodErrorE (h : Value) (w : World) : (Go.method 268 34 h "Error").run Tryd.prog w = .ok (101, h) w := by kernel_rfl
theorem kindPF (w : World) : ((ReflectliteType.abiMethod fun t => (fun a : Nat => Value.int IntKind.u8 (a : Int)) <$> Rtype.kind t) #[.pointer (some ⟨1, 92, none⟩)]).run Tryd.prog w = .ok (.int .u8 22) w := by kernel_rfl
theorem kindPE (w : World) : ((ReflectliteType.abiMethod fun t => (fun a : Nat => Value.int IntKind.u8 (a : Int)) <$> Rtype.kind t) #[.pointer (some ⟨1, 93, none⟩)]).run Tryd.prog w = .ok (.int .u8 22) w := by kernel_rfl
theorem kindF (w : World) : ((ReflectliteType.abiMethod fun t => (fun a : Nat => Value.int IntKind.u8 (a : Int)) <$> Rtype.kind t) #[.pointer (some ⟨1, 82, none⟩)]).run Tryd.prog w = .ok (.int .u8 22) w := by kernel_rfl
theorem kindE (w : World) : ((ReflectliteType.abiMethod fun t => (fun a : Nat => Value.int IntKind.u8 (a : Int)) <$> Rtype.kind t) #[.pointer (some ⟨1, 34, none⟩)]).run Tryd.prog w = .ok (.int .u8 2) w := by kernel_rfl
theorem elemPF (w : World) : (ReflectliteType.method ReflectliteType.elem #[.agg #[.pointer (some ⟨1, 92, none⟩)]]).run Tryd.prog w = .ok (.iface 127 (.agg #[.pointer (some ⟨1, 82, none⟩)])) w := by kernel_rfl
theorem elemPE (w : World) : (ReflectliteType.method ReflectliteType.elem #[.agg #[.pointer (some ⟨1, 93, none⟩)]]).run Tryd.prog w = .ok (.iface 127 (.agg #[.pointer (some ⟨1, 34, none⟩)])) w := by kernel_rfl
theorem implementsF (w : World) : (ReflectliteType.relation "Implements" ReflectliteType.implements_ #[.agg #[.pointer (some ⟨1, 82, none⟩)], .iface 127 (.agg #[.pointer (some ⟨1, 24, none⟩)])]).run Tryd.prog w = .ok (.bool true) w := by kernel_rfl
theorem implementsE (w : World) : (ReflectliteType.relation "Implements" ReflectliteType.implements_ #[.agg #[.pointer (some ⟨1, 34, none⟩)], .iface 127 (.agg #[.pointer (some ⟨1, 24, none⟩)])]).run Tryd.prog w = .ok (.bool true) w := by kernel_rfl
theorem typeOfF (v : Value) (w : World) : (ReflectliteType.typeOf #[.iface 82 v]).run Tryd.prog w = .ok (.iface 127 (.agg #[.pointer (some ⟨1, 82, none⟩)])) w := by kernel_rfl
theorem typeOfE (v : Value) (w : World) : (ReflectliteType.typeOf #[.iface 34 v]).run Tryd.prog w = .ok (.iface 127 (.agg #[.pointer (some ⟨1, 34, none⟩)])) w := by kernel_rfl
theorem assignFF (w : World) : (ReflectliteType.relation "AssignableTo" ReflectliteType.assignableTo #[.agg #[.pointer (some ⟨1, 82, none⟩)], .iface 127 (.agg #[.pointer (some ⟨1, 82, none⟩)])]).run Tryd.prog w = .ok (.bool true) w := by kernel_rfl
theorem assignEF (w : World) : (ReflectliteType.relation "AssignableTo" ReflectliteType.assignableTo #[.agg #[.pointer (some ⟨1, 34, none⟩)], .iface 127 (.agg #[.pointer (some ⟨1, 82, none⟩)])]).run Tryd.prog w = .ok (.bool false) w := by kernel_rfl
theorem assignFE (w : World) : (ReflectliteType.relation "AssignableTo" ReflectliteType.assignableTo #[.agg #[.pointer (some ⟨1, 82, none⟩)], .iface 127 (.agg #[.pointer (some ⟨1, 34, none⟩)])]).run Tryd.prog w = .ok (.bool false) w := by kernel_rfl
theorem assignEE (w : World) : (ReflectliteType.relation "AssignableTo" ReflectliteType.assignableTo #[.agg #[.pointer (some ⟨1, 34, none⟩)], .iface 127 (.agg #[.pointer (some ⟨1, 34, none⟩)])]).run Tryd.prog w = .ok (.bool true) w := by kernel_rfl
/-! ### the entries that read or write memory -/
theorem rlm (z : Sem Value) (f : TypeId → Addr → Nat → Nat → Sem Value) (v : Value) :
    ReflectliteValue.method z f #[v] = (do match ← ReflectliteValue.parts v with | none => z | some (t, a, fl) => f t a fl (fl % 32)) := rfl
theorem partsPF (a : Addr) (w : World) : (ReflectliteValue.parts (.agg #[.pointer (some ⟨1, 92, none⟩), .pointer (some a), .int .u64 150])).run Tryd.prog w = .ok (some (92, a, 150)) w := by kernel_rfl
theorem partsPE (a : Addr) (w : World) : (ReflectliteValue.parts (.agg #[.pointer (some ⟨1, 93, none⟩), .pointer (some a), .int .u64 150])).run Tryd.prog w = .ok (some (93, a, 150)) w := by kernel_rfl
theorem isNilPF (a p : Addr) (W : World) (ha : W.cell? a = some (.pointer (some p))) :
    (ReflectliteValue.method (ReflectliteValue.valueError "reflectlite.Value.IsNil" 0) ReflectliteValue.isNil #[.agg #[.pointer (some ⟨1, 92, none⟩), .pointer (some a), .int .u64 150]]).run Tryd.prog W = .ok (.bool false) W := by
  rw [rlm]
  simp only [Sem.run_bind, partsPF, Result.andThen]
  simp [ReflectliteValue.isNil, loadVar, isAgg, underlying, Tryd.underlying92, ha, Result.andThen]
theorem isNilPE (a p : Addr) (W : World) (ha : W.cell? a = some (.pointer (some p))) :
    (ReflectliteValue.method (ReflectliteValue.valueError "reflectlite.Value.IsNil" 0) ReflectliteValue.isNil #[.agg #[.pointer (some ⟨1, 93, none⟩), .pointer (some a), .int .u64 150]]).run Tryd.prog W = .ok (.bool false) W := by
  rw [rlm]
  simp only [Sem.run_bind, partsPE, Result.andThen]
  simp [ReflectliteValue.isNil, loadVar, isAgg, underlying, Tryd.underlying93, ha, Result.andThen]
theorem elemOfPF (w : World) : (Rtype.elem? 92).run Tryd.prog w = .ok (some 82) w := by kernel_rfl
theorem elemOfPE (w : World) : (Rtype.elem? 93).run Tryd.prog w = .ok (some 34) w := by kernel_rfl
theorem mkF (p : Addr) (w : World) : (ReflectliteValue.mk 82 p ReflectliteValue.flagAddr).run Tryd.prog w = .ok (.agg #[.pointer (some ⟨1, 82, none⟩), .pointer (some p), .int .u64 406]) w := by kernel_rfl
theorem mkE (p : Addr) (w : World) : (ReflectliteValue.mk 34 p ReflectliteValue.flagAddr).run Tryd.prog w = .ok (.agg #[.pointer (some ⟨1, 34, none⟩), .pointer (some p), .int .u64 386]) w := by kernel_rfl
theorem elemVPF (a p : Addr) (W : World) (ha : W.cell? a = some (.pointer (some p))) :
    (ReflectliteValue.method (ReflectliteValue.valueError "reflectlite.Value.Elem" 0) ReflectliteValue.elem #[.agg #[.pointer (some ⟨1, 92, none⟩), .pointer (some a), .int .u64 150]]).run Tryd.prog W
      = .ok (.agg #[.pointer (some ⟨1, 82, none⟩), .pointer (some p), .int .u64 406]) W := by
  rw [rlm]
  simp only [Sem.run_bind, partsPF, Result.andThen]
  simp [ReflectliteValue.elem, loadVar, isAgg, underlying, Tryd.underlying92, ha, Result.andThen, elemOfPF, mkF]
theorem elemVPE (a p : Addr) (W : World) (ha : W.cell? a = some (.pointer (some p))) :
    (ReflectliteValue.method (ReflectliteValue.valueError "reflectlite.Value.Elem" 0) ReflectliteValue.elem #[.agg #[.pointer (some ⟨1, 93, none⟩), .pointer (some a), .int .u64 150]]).run Tryd.prog W
      = .ok (.agg #[.pointer (some ⟨1, 34, none⟩), .pointer (some p), .int .u64 386]) W := by
  rw [rlm]
  simp only [Sem.run_bind, partsPE, Result.andThen]
  simp [ReflectliteValue.elem, loadVar, isAgg, underlying, Tryd.underlying93, ha, Result.andThen, elemOfPE, mkE]
theorem rls (v x : Value) : ReflectliteValue.set #[v, x] = (do
    let (some (dst, a, fl), some (src, b, _)) := (← ReflectliteValue.parts v, ← ReflectliteValue.parts x)
      | unsupported (.noEntry "extern/(internal/reflectlite.Value).Set.zeroValue")
    if fl / ReflectliteValue.flagAddr % 2 == 0 then unsupported (.noEntry "extern/(internal/reflectlite.Value).Set.unaddressable")
    let val ← loadVar src b
    if ← Rtype.directlyAssignable dst src then storeVar dst a val
    else if ← Rtype.implements dst src then
      if (← Rtype.kind src) == 20 then
        match val with
        | .nilIface => unsupported (.noEntry "extern/reflectlite: a nil value of one interface type handed on as a value of another")
        | _ => storeVar dst a val
      else storeVar dst a (.iface src val)
    else panicString ("reflectlite.Set: value of type " ++ (← Rtype.spelt src) ++ " is not assignable to type " ++ (← Rtype.spelt dst))
    pure (.tuple #[])) := rfl
theorem partsFa (a : Addr) (w : World) : (ReflectliteValue.parts (.agg #[.pointer (some ⟨1, 82, none⟩), .pointer (some a), .int .u64 406])).run Tryd.prog w = .ok (some (82, a, 406)) w := by kernel_rfl
theorem partsF (a : Addr) (w : World) : (ReflectliteValue.parts (.agg #[.pointer (some ⟨1, 82, none⟩), .pointer (some a), .int .u64 150])).run Tryd.prog w = .ok (some (82, a, 150)) w := by kernel_rfl
theorem partsEa (a : Addr) (w : World) : (ReflectliteValue.parts (.agg #[.pointer (some ⟨1, 34, none⟩), .pointer (some a), .int .u64 386])).run Tryd.prog w = .ok (some (34, a, 386)) w := by kernel_rfl
theorem partsE (a : Addr) (w : World) : (ReflectliteValue.parts (.agg #[.pointer (some ⟨1, 34, none⟩), .pointer (some a), .int .u64 130])).run Tryd.prog w = .ok (some (34, a, 130)) w := by kernel_rfl
theorem directF (w : World) : (Rtype.directlyAssignable 82 82).run Tryd.prog w = .ok true w := by kernel_rfl
theorem directE (w : World) : (Rtype.directlyAssignable 34 34).run Tryd.prog w = .ok true w := by kernel_rfl
theorem setF (ta b : Addr) (x : Value) (old : Value) (W : World) (hx : x = .pointer none ∨ ∃ e, x = .pointer (some e)) (hb : W.cell? b = some x) (ht : W.cell? ta = some old) (hf : W.frozen? ta = false) :
    (ReflectliteValue.set #[.agg #[.pointer (some ⟨1, 82, none⟩), .pointer (some ta), .int .u64 406], .agg #[.pointer (some ⟨1, 82, none⟩), .pointer (some b), .int .u64 150]]).run Tryd.prog W
      = .ok (.tuple #[]) (W.setCell ta x) := by
  rw [rls]
  simp only [Sem.run_bind, partsFa, partsF, Result.andThen]
  rcases hx with rfl | ⟨e, rfl⟩
  · simp [ReflectliteValue.flagAddr, loadVar, isAgg, underlying, Tryd.underlying82, hb, Result.andThen, directF, storeVar, Value.cells, storeCells, Addr.add]
    rw [run_store Tryd.prog W ta _ _ (by rfl)]
    simp [ht, hf]
  · simp [ReflectliteValue.flagAddr, loadVar, isAgg, underlying, Tryd.underlying82, hb, Result.andThen, directF, storeVar, Value.cells, storeCells, Addr.add]
    rw [run_store Tryd.prog W ta _ _ (by rfl)]
    simp [ht, hf]
theorem setE (ta b : Addr) (k : Int) (old : Value) (W : World) (hb : W.cell? b = some (.int .i64 k)) (ht : W.cell? ta = some old) (hf : W.frozen? ta = false) :
    (ReflectliteValue.set #[.agg #[.pointer (some ⟨1, 34, none⟩), .pointer (some ta), .int .u64 386], .agg #[.pointer (some ⟨1, 34, none⟩), .pointer (some b), .int .u64 130]]).run Tryd.prog W
      = .ok (.tuple #[]) (W.setCell ta (.int .i64 k)) := by
  rw [rls]
  simp only [Sem.run_bind, partsEa, partsE, Result.andThen]
  simp [ReflectliteValue.flagAddr, loadVar, isAgg, underlying, Tryd.underlying34, hb, Result.andThen, directE, storeVar, Value.cells, storeCells, Addr.add]
  rw [run_store Tryd.prog W ta _ _ (by rfl)]
  simp [ht, hf]

/-! ### assertions -/
theorem noAsF (v : Value) (w : World) : (Instr.typeAssert (.iface 82 v) 24 132 true).run Tryd.prog w = .ok (.tuple #[.nilIface, .bool false]) w := run_typeAssert_lacksB Tryd.underlying132 (by kernel_rfl) (by kernel_rfl) v 24 w
theorem noAsE (v : Value) (w : World) : (Instr.typeAssert (.iface 34 v) 24 132 true).run Tryd.prog w = .ok (.tuple #[.nilIface, .bool false]) w := run_typeAssert_lacksB Tryd.underlying132 (by kernel_rfl) (by kernel_rfl) v 24 w
theorem hasUnwF (v : Value) (w : World) : (Instr.typeAssert (.iface 82 v) 24 135 true).run Tryd.prog w = .ok (.tuple #[.iface 82 v, .bool true]) w := run_typeAssert_hasB Tryd.underlying135 (by kernel_rfl) v 24 w
theorem noUnwE (v : Value) (w : World) : (Instr.typeAssert (.iface 34 v) 24 135 true).run Tryd.prog w = .ok (.tuple #[.nilIface, .bool false]) w := run_typeAssert_lacksB Tryd.underlying135 (by kernel_rfl) (by kernel_rfl) v 24 w
theorem noUnwsE (v : Value) (w : World) : (Instr.typeAssert (.iface 34 v) 24 137 true).run Tryd.prog w = .ok (.tuple #[.nilIface, .bool false]) w := run_typeAssert_lacksB Tryd.underlying137 (by kernel_rfl) (by kernel_rfl) v 24 w
end Go.Proofs.YtfcgfnmokbbcaaaDoor.Fa

namespace Go.Proofs.YtfcgfnmokbbcaaaDoor.Fa
open Go.RowKit Go.Extern.Stop Go.Stop Go.Extern

theorem xTypeOf (args : Array Value) (w : World) : (callFunc 81 args).run Tryd.prog w = ((ReflectliteType.typeOf args).run Tryd.prog w).andThen fun v w' => .ok (.value v) w' :=
  run_callFunc_extern Tryd.func81 (by kernel_rfl) (by kernel_rfl) (by kernel_rfl) (by kernel_rfl) args w
theorem xAssignable (args : Array Value) (w : World) : (callFunc 108 args).run Tryd.prog w = (((ReflectliteType.relation "AssignableTo" ReflectliteType.assignableTo) args).run Tryd.prog w).andThen fun v w' => .ok (.value v) w' :=
  run_callFunc_extern Tryd.func108 (by kernel_rfl) (by kernel_rfl) (by kernel_rfl) (by kernel_rfl) args w
theorem xImplements (args : Array Value) (w : World) : (callFunc 111 args).run Tryd.prog w = (((ReflectliteType.relation "Implements" ReflectliteType.implements_) args).run Tryd.prog w).andThen fun v w' => .ok (.value v) w' :=
  run_callFunc_extern Tryd.func111 (by kernel_rfl) (by kernel_rfl) (by kernel_rfl) (by kernel_rfl) args w
theorem xValueOf (args : Array Value) (w : World) : (callFunc 72 args).run Tryd.prog w = ((ReflectliteValue.unpack (args.getD 0 (.tuple #[]))).run Tryd.prog w).andThen fun v w' => .ok (.value v) w' :=
  run_callFunc_extern (e := fun args => ReflectliteValue.unpack (args.getD 0 (.tuple #[]))) Tryd.func72 (by kernel_rfl) (by kernel_rfl) (by kernel_rfl) (by kernel_rfl) args w
theorem xVElem (args : Array Value) (w : World) : (callFunc 82 args).run Tryd.prog w = (((ReflectliteValue.method (ReflectliteValue.valueError "reflectlite.Value.Elem" 0) ReflectliteValue.elem) args).run Tryd.prog w).andThen fun v w' => .ok (.value v) w' :=
  run_callFunc_extern Tryd.func82 (by kernel_rfl) (by kernel_rfl) (by kernel_rfl) (by kernel_rfl) args w
theorem xVSet (args : Array Value) (w : World) : (callFunc 83 args).run Tryd.prog w = ((ReflectliteValue.set args).run Tryd.prog w).andThen fun v w' => .ok (.value v) w' :=
  run_callFunc_extern Tryd.func83 (by kernel_rfl) (by kernel_rfl) (by kernel_rfl) (by kernel_rfl) args w
theorem xVType (args : Array Value) (w : World) : (callFunc 73 args).run Tryd.prog w = (((ReflectliteValue.methodAny (ReflectliteValue.valueError "reflectlite.Value.Type" 0) (fun t _ _ _ => ReflectliteType.toType t)) args).run Tryd.prog w).andThen fun v w' => .ok (.value v) w' :=
  run_callFunc_extern Tryd.func73 (by kernel_rfl) (by kernel_rfl) (by kernel_rfl) (by kernel_rfl) args w
theorem xVIsNil (args : Array Value) (w : World) : (callFunc 74 args).run Tryd.prog w = (((ReflectliteValue.method (ReflectliteValue.valueError "reflectlite.Value.IsNil" 0) ReflectliteValue.isNil) args).run Tryd.prog w).andThen fun v w' => .ok (.value v) w' :=
  run_callFunc_extern Tryd.func74 (by kernel_rfl) (by kernel_rfl) (by kernel_rfl) (by kernel_rfl) args w
theorem xAbiKind (args : Array Value) (w : World) : (callFunc 98 args).run Tryd.prog w = (((ReflectliteType.abiMethod fun t => do pure (.int .u8 (← Rtype.kind t))) args).run Tryd.prog w).andThen fun v w' => .ok (.value v) w' :=
  run_callFunc_extern Tryd.func98 (by kernel_rfl) (by kernel_rfl) (by kernel_rfl) (by kernel_rfl) args w
theorem xRElem (args : Array Value) (w : World) : (callFunc 110 args).run Tryd.prog w = (((ReflectliteType.method ReflectliteType.elem) args).run Tryd.prog w).andThen fun v w' => .ok (.value v) w' :=
  run_callFunc_extern Tryd.func110 (by kernel_rfl) (by kernel_rfl) (by kernel_rfl) (by kernel_rfl) args w
theorem xComparable (args : Array Value) (w : World) : (callFunc 109 args).run Tryd.prog w = (((ReflectliteType.method fun t => do Rtype.noPackHeld "Comparable" t; pure (.bool (← typeInfo t).comparable)) args).run Tryd.prog w).andThen fun v w' => .ok (.value v) w' :=
  run_callFunc_extern Tryd.func109 (by kernel_rfl) (by kernel_rfl) (by kernel_rfl) (by kernel_rfl) args w

/-- The Value that errors.As makes of its target: a box that holds the target's address. -/
abbrev tv (T : Nat) (a : Addr) : Value := .agg #[.pointer (some ⟨1, T, none⟩), .pointer (some a), .int .u64 150]
/-- The handle of type T, as a reflectlite.Type. -/
abbrev ty (T : Nat) : Value := .iface 127 (.agg #[.pointer (some ⟨1, T, none⟩)])

theorem cTypeOfF (v : Value) (w : World) : (callFunc 81 #[.iface 82 v]).run Tryd.prog w = .ok (.value (ty 82)) w := by rw [xTypeOf, typeOfF]; rfl
theorem cTypeOfE (v : Value) (w : World) : (callFunc 81 #[.iface 34 v]).run Tryd.prog w = .ok (.value (ty 34)) w := by rw [xTypeOf, typeOfE]; rfl
theorem cAssignFF (w : World) : (callFunc 108 #[.agg #[.pointer (some ⟨1, 82, none⟩)], ty 82]).run Tryd.prog w = .ok (.value (.bool true)) w := by rw [xAssignable, assignFF]; rfl
theorem cAssignFE (w : World) : (callFunc 108 #[.agg #[.pointer (some ⟨1, 82, none⟩)], ty 34]).run Tryd.prog w = .ok (.value (.bool false)) w := by rw [xAssignable, assignFE]; rfl
theorem cAssignEF (w : World) : (callFunc 108 #[.agg #[.pointer (some ⟨1, 34, none⟩)], ty 82]).run Tryd.prog w = .ok (.value (.bool false)) w := by rw [xAssignable, assignEF]; rfl
theorem cAssignEE (w : World) : (callFunc 108 #[.agg #[.pointer (some ⟨1, 34, none⟩)], ty 34]).run Tryd.prog w = .ok (.value (.bool true)) w := by rw [xAssignable, assignEE]; rfl
theorem cImplF (w : World) : (callFunc 111 #[.agg #[.pointer (some ⟨1, 82, none⟩)], ty 24]).run Tryd.prog w = .ok (.value (.bool true)) w := by rw [xImplements, implementsF]; rfl
theorem cImplE (w : World) : (callFunc 111 #[.agg #[.pointer (some ⟨1, 34, none⟩)], ty 24]).run Tryd.prog w = .ok (.value (.bool true)) w := by rw [xImplements, implementsE]; rfl
theorem cValueOfPF (t : Addr) (w : World) : (callFunc 72 #[.iface 92 (.pointer (some t))]).run Tryd.prog w = .ok (.value (tv 92 ⟨w.heap.size, 0, none⟩)) (w.alloc (.cells #[.pointer (some t)] 92)) := by
  rw [xValueOf]; show ((ReflectliteValue.unpack (.iface 92 (.pointer (some t)))).run Tryd.prog w).andThen _ = _; rw [valueOfPF]; rfl
theorem cValueOfPE (t : Addr) (w : World) : (callFunc 72 #[.iface 93 (.pointer (some t))]).run Tryd.prog w = .ok (.value (tv 93 ⟨w.heap.size, 0, none⟩)) (w.alloc (.cells #[.pointer (some t)] 93)) := by
  rw [xValueOf]; show ((ReflectliteValue.unpack (.iface 93 (.pointer (some t)))).run Tryd.prog w).andThen _ = _; rw [valueOfPE]; rfl
theorem cValueOfF (t : Addr) (w : World) : (callFunc 72 #[.iface 82 (.pointer (some t))]).run Tryd.prog w = .ok (.value (tv 82 ⟨w.heap.size, 0, none⟩)) (w.alloc (.cells #[.pointer (some t)] 82)) := by
  rw [xValueOf]; show ((ReflectliteValue.unpack (.iface 82 (.pointer (some t)))).run Tryd.prog w).andThen _ = _; rw [valueOfF]; rfl
theorem cValueOfE (k : Int) (w : World) : (callFunc 72 #[.iface 34 (.int .i64 k)]).run Tryd.prog w = .ok (.value (.agg #[.pointer (some ⟨1, 34, none⟩), .pointer (some ⟨w.heap.size, 0, none⟩), .int .u64 130])) (w.alloc (.cells #[.int .i64 k] 34)) := by
  rw [xValueOf]; show ((ReflectliteValue.unpack (.iface 34 (.int .i64 k))).run Tryd.prog w).andThen _ = _; rw [valueOfE]; rfl
theorem cVTypePF (a : Addr) (w : World) : (callFunc 73 #[tv 92 a]).run Tryd.prog w = .ok (.value (ty 92)) w := by rw [xVType, vtype 92 (by simp)]; rfl
theorem cVIsNilPF (a p : Addr) (w : World) (ha : w.cell? a = some (.pointer (some p))) : (callFunc 74 #[tv 92 a]).run Tryd.prog w = .ok (.value (.bool false)) w := by rw [xVIsNil, isNilPF a p w ha]; rfl
theorem cVElemPF (a p : Addr) (w : World) (ha : w.cell? a = some (.pointer (some p))) : (callFunc 82 #[tv 92 a]).run Tryd.prog w = .ok (.value (.agg #[.pointer (some ⟨1, 82, none⟩), .pointer (some p), .int .u64 406])) w := by rw [xVElem, elemVPF a p w ha]; rfl
theorem cRElemPF (w : World) : (callFunc 110 #[.agg #[.pointer (some ⟨1, 92, none⟩)]]).run Tryd.prog w = .ok (.value (ty 82)) w := by rw [xRElem, elemPF]; rfl
theorem cVTypePE (a : Addr) (w : World) : (callFunc 73 #[tv 93 a]).run Tryd.prog w = .ok (.value (ty 93)) w := by rw [xVType, vtype 93 (by simp)]; rfl
theorem cVIsNilPE (a p : Addr) (w : World) (ha : w.cell? a = some (.pointer (some p))) : (callFunc 74 #[tv 93 a]).run Tryd.prog w = .ok (.value (.bool false)) w := by rw [xVIsNil, isNilPE a p w ha]; rfl
theorem cVElemPE (a p : Addr) (w : World) (ha : w.cell? a = some (.pointer (some p))) : (callFunc 82 #[tv 93 a]).run Tryd.prog w = .ok (.value (.agg #[.pointer (some ⟨1, 34, none⟩), .pointer (some p), .int .u64 386])) w := by rw [xVElem, elemVPE a p w ha]; rfl
theorem cRElemPE (w : World) : (callFunc 110 #[.agg #[.pointer (some ⟨1, 93, none⟩)]]).run Tryd.prog w = .ok (.value (ty 34)) w := by rw [xRElem, elemPE]; rfl
theorem cKindPF (w : World) : (callFunc 98 #[.pointer (some ⟨1, 92, none⟩)]).run Tryd.prog w = .ok (.value (.int .u8 22)) w := by
  rw [xAbiKind]; show (((ReflectliteType.abiMethod fun t => (fun a : Nat => Value.int IntKind.u8 (a : Int)) <$> Rtype.kind t) #[.pointer (some ⟨1, 92, none⟩)]).run Tryd.prog w).andThen _ = _; rw [kindPF]; rfl
theorem cKindPE (w : World) : (callFunc 98 #[.pointer (some ⟨1, 93, none⟩)]).run Tryd.prog w = .ok (.value (.int .u8 22)) w := by
  rw [xAbiKind]; show (((ReflectliteType.abiMethod fun t => (fun a : Nat => Value.int IntKind.u8 (a : Int)) <$> Rtype.kind t) #[.pointer (some ⟨1, 93, none⟩)]).run Tryd.prog w).andThen _ = _; rw [kindPE]; rfl
theorem cKindF (w : World) : (callFunc 98 #[.pointer (some ⟨1, 82, none⟩)]).run Tryd.prog w = .ok (.value (.int .u8 22)) w := by
  rw [xAbiKind]; show (((ReflectliteType.abiMethod fun t => (fun a : Nat => Value.int IntKind.u8 (a : Int)) <$> Rtype.kind t) #[.pointer (some ⟨1, 82, none⟩)]).run Tryd.prog w).andThen _ = _; rw [kindF]; rfl
theorem cKindE (w : World) : (callFunc 98 #[.pointer (some ⟨1, 34, none⟩)]).run Tryd.prog w = .ok (.value (.int .u8 2)) w := by
  rw [xAbiKind]; show (((ReflectliteType.abiMethod fun t => (fun a : Nat => Value.int IntKind.u8 (a : Int)) <$> Rtype.kind t) #[.pointer (some ⟨1, 34, none⟩)]).run Tryd.prog w).andThen _ = _; rw [kindE]; rfl
theorem cSetF (ta b : Addr) (e : Addr) (old : Value) (W : World) (hb : W.cell? b = some (.pointer (some e))) (ht : W.cell? ta = some old) (hf : W.frozen? ta = false) :
    (callFunc 83 #[.agg #[.pointer (some ⟨1, 82, none⟩), .pointer (some ta), .int .u64 406], tv 82 b]).run Tryd.prog W = .ok (.value (.tuple #[])) (W.setCell ta (.pointer (some e))) := by
  rw [xVSet, setF ta b (.pointer (some e)) old W (Or.inr ⟨e, rfl⟩) hb ht hf]; rfl
theorem cSetE (ta b : Addr) (k : Int) (old : Value) (W : World) (hb : W.cell? b = some (.int .i64 k)) (ht : W.cell? ta = some old) (hf : W.frozen? ta = false) :
    (callFunc 83 #[.agg #[.pointer (some ⟨1, 34, none⟩), .pointer (some ta), .int .u64 386], .agg #[.pointer (some ⟨1, 34, none⟩), .pointer (some b), .int .u64 130]]).run Tryd.prog W = .ok (.value (.tuple #[])) (W.setCell ta (.int .i64 k)) := by
  rw [xVSet, setE ta b k old W hb ht hf]; rfl
theorem cComparableE (w : World) : (callFunc 109 #[.agg #[.pointer (some ⟨1, 34, none⟩)]]).run Tryd.prog w = .ok (.value (.bool true)) w := by rw [xComparable]; kernel_rfl
theorem cComparableF (w : World) : (callFunc 109 #[.agg #[.pointer (some ⟨1, 82, none⟩)]]).run Tryd.prog w = .ok (.value (.bool true)) w := by rw [xComparable]; kernel_rfl

/-! ### worlds in which one block has turned -/
theorem Upd.set {w : World} {tb : Nat} {old v : Value} {T : TypeId} (ht : w.heap[tb]? = some (.cells #[old] T (0, 0))) :
    Upd tb (.cells #[v] T (0, 0)) w (w.setCell ⟨tb, 0, none⟩ v) := by
  refine ⟨rfl, rfl, rfl, by simp, fun k hk hne => Below.heap_setCell _ _ _ _ hne, ?_⟩
  simp only [World.setCell, Array.getElem?_modify, if_true, ht]
  simp
theorem Upd.then {w w1 w2 : World} {tb : Nat} {o : Obj} (h : Upd tb o w w1) (hb : Below w1.heap.size w1 w2) : Upd tb o w w2 :=
  ⟨hb.os.trans h.os, hb.tape.trans h.tape, hb.output.trans h.output, Nat.le_trans h.size hb.size,
    fun k hk hne => (hb.block k (by have := h.size; omega)).trans (h.block k hk hne), (hb.block tb (lt_of_heap h.there)).trans h.there⟩
theorem Upd.after {w w1 w2 : World} {tb : Nat} {o : Obj} (hb : Below w.heap.size w w1) (h : Upd tb o w1 w2) : Upd tb o w w2 :=
  ⟨h.os.trans hb.os, h.tape.trans hb.tape, h.output.trans hb.output, Nat.le_trans hb.size h.size,
    fun k hk hne => (h.block k (by have := hb.size; omega) hne).trans (hb.block k hk), h.there⟩
end Go.Proofs.YtfcgfnmokbbcaaaDoor.Fa

namespace Go.Proofs.YtfcgfnmokbbcaaaDoor.Fa
open Go.RowKit Go.Extern.Stop Go.Stop Go.Extern

set_option maxHeartbeats 1000000 in
theorem as_F_hit (e a : Addr) (tb : Nat) (old : Value) (w : World) (ha : w.cell? a = some (.pointer (some ⟨tb, 0, none⟩))) (ht : w.heap[tb]? = some (.cells #[old] 82 (0, 0))) :
    Calls Tryd.prog 75 #[.iface 82 (.pointer (some e)), .iface 92 (.pointer (some ⟨tb, 0, none⟩)), tv 92 a, ty 82] w fun ev w' => ev = .returned (.bool true) ∧ Upd tb (.cells #[.pointer (some e)] 82 (0, 0)) w w' := by
  have tO := cTypeOfF
  have mA := methodAssignableTo
  have aF := cAssignFF
  have vF := cValueOfF
  have alt : a.block < w.heap.size := by
    rcases Nat.lt_or_ge a.block w.heap.size with h | h
    · exact h
    · simp [World.cell?, Array.getElem?_eq_none h] at ha
  have el := cVElemPF a ⟨tb, 0, none⟩ (w.alloc (.cells #[.pointer (some ⟨1, 92, none⟩), .pointer (some a), .int .u64 150] 113)) (by rw [World.cell?_alloc_lt _ _ a alt]; exact ha)
  have htl := lt_of_heap ht
  have ht0 : w.cell? ⟨tb, 0, none⟩ = some old := by simp [cell_of_heap ht]
  have st := cSetF ⟨tb, 0, none⟩ ⟨w.heap.size + 1, 0, none⟩ e old ((w.alloc (.cells #[.pointer (some ⟨1, 92, none⟩), .pointer (some a), .int .u64 150] 113)).alloc (.cells #[.pointer (some e)] 82))
    (by rw [World.cell?_alloc_at _ _ _ _ (by simp)]; rfl)
    (by rw [World.cell?_alloc_lt _ _ ⟨tb, 0, none⟩ (by simp; omega), World.cell?_alloc_lt _ _ ⟨tb, 0, none⟩ htl]; exact ht0)
    (by rw [World.frozen?_alloc_old _ _ ⟨tb, 0, none⟩ (by simp; omega), World.frozen?_alloc_old _ _ ⟨tb, 0, none⟩ (Nat.ne_of_lt htl)]; exact frozen_of_heap ht 0)
  have HT := Lib.hid ht
  clear ht
  go_enter Tryd.func75, Tryd.ntmps75
  go_wp2
  refine wp_loop_rounds 1 ?_
  rw [rounds_succ]
  go_wp2
  go_ret
  exact ⟨rfl, (Upd.set HT.out).then (((Below.refl _ _).alloc (Nat.le_refl _) _).alloc (by simp) _)⟩

set_option maxHeartbeats 1000000 in
theorem as_E_missF (k : Int) (a : Addr) (tb : Nat) (w : World) :
    Calls Tryd.prog 75 #[.iface 34 (.int .i64 k), .iface 92 (.pointer (some ⟨tb, 0, none⟩)), tv 92 a, ty 82] w fun ev w' => ev = .returned (.bool false) ∧ Below w.heap.size w w' := by
  have tO := cTypeOfE
  have mA := methodAssignableTo
  have aF := cAssignEF
  have n1 := noAsE
  have n2 := noUnwE
  have n3 := noUnwsE
  go_enter Tryd.func75, Tryd.ntmps75
  go_wp2
  refine wp_loop_rounds 1 ?_
  rw [rounds_succ]
  go_wp2
  go_ret
  exact ⟨rfl, (Below.refl _ _).alloc (Nat.le_refl _) _⟩

set_option maxHeartbeats 1000000 in
theorem as_E_hitE (k : Int) (a : Addr) (tb : Nat) (old : Value) (w : World) (ha : w.cell? a = some (.pointer (some ⟨tb, 0, none⟩))) (ht : w.heap[tb]? = some (.cells #[old] 34 (0, 0))) :
    Calls Tryd.prog 75 #[.iface 34 (.int .i64 k), .iface 93 (.pointer (some ⟨tb, 0, none⟩)), tv 93 a, ty 34] w fun ev w' => ev = .returned (.bool true) ∧ Upd tb (.cells #[.int .i64 k] 34 (0, 0)) w w' := by
  have tO := cTypeOfE
  have mA := methodAssignableTo
  have aF := cAssignEE
  have vF := cValueOfE
  have alt : a.block < w.heap.size := by
    rcases Nat.lt_or_ge a.block w.heap.size with h | h
    · exact h
    · simp [World.cell?, Array.getElem?_eq_none h] at ha
  have el := cVElemPE a ⟨tb, 0, none⟩ (w.alloc (.cells #[.pointer (some ⟨1, 93, none⟩), .pointer (some a), .int .u64 150] 113)) (by rw [World.cell?_alloc_lt _ _ a alt]; exact ha)
  have htl := lt_of_heap ht
  have ht0 : w.cell? ⟨tb, 0, none⟩ = some old := by simp [cell_of_heap ht]
  have st := cSetE ⟨tb, 0, none⟩ ⟨w.heap.size + 1, 0, none⟩ k old ((w.alloc (.cells #[.pointer (some ⟨1, 93, none⟩), .pointer (some a), .int .u64 150] 113)).alloc (.cells #[.int .i64 k] 34))
    (by rw [World.cell?_alloc_at _ _ _ _ (by simp)]; rfl)
    (by rw [World.cell?_alloc_lt _ _ ⟨tb, 0, none⟩ (by simp; omega), World.cell?_alloc_lt _ _ ⟨tb, 0, none⟩ htl]; exact ht0)
    (by rw [World.frozen?_alloc_old _ _ ⟨tb, 0, none⟩ (by simp; omega), World.frozen?_alloc_old _ _ ⟨tb, 0, none⟩ (Nat.ne_of_lt htl)]; exact frozen_of_heap ht 0)
  have HT := Lib.hid ht
  clear ht
  go_enter Tryd.func75, Tryd.ntmps75
  go_wp2
  refine wp_loop_rounds 1 ?_
  rw [rounds_succ]
  go_wp2
  go_ret
  exact ⟨rfl, (Upd.set HT.out).then (((Below.refl _ _).alloc (Nat.le_refl _) _).alloc (by simp) _)⟩

/-- A Fault unwrapped. -/
theorem unwrap_any (b : Nat) (op : ByteArray) (at_ : Int) (v' : Value) (w : World) (hb : w.heap[b]? = some (.cells #[.string op, .int .i64 at_, v'] 84 (0, 0))) :
    Calls Tryd.prog 103 #[.pointer (some ⟨b, 0, none⟩)] w fun e w' => e = .returned v' ∧ w = w' := by
  have h2 : w.cell? ⟨b, 2, none⟩ = some v' := by simp [cell_of_heap hb]
  have HB := Lib.hid hb
  clear hb
  go_enter Tryd.func103, Tryd.ntmps103
  go_wp2
  go_ret
  exact ⟨rfl, rfl⟩
end Go.Proofs.YtfcgfnmokbbcaaaDoor.Fa
