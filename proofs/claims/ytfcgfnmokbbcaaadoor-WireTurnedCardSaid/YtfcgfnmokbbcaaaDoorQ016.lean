/-
  How package wire reads messages: plain mathematics. No condition beyond what each theorem states.
  A region that draws its order, by a relation that every operation keeps, whichever is taken next. No condition beyond what each theorem states.
-/
import Derived.Test.YtfcgfnmokbbcaaaDoorQ009
import Derived.Test.YtfcgfnmokbbcaaaDoorProg
import Derived.WalkKit
import Derived.Orders
import Derived.Laws.AppendOwn
import Derived.Laws.OwnMore
namespace Go.Proofs.YtfcgfnmokbbcaaaDoor.Ws
open Go.Proofs.YtfcgfnmokbbcaaaDoor Go.Proofs.YtfcgfnmokbbcaaaDoor.Nm Go.Proofs.YtfcgfnmokbbcaaaDoor.At Go.Proofs.YtfcgfnmokbbcaaaDoor.Pr Go.Proofs.YtfcgfnmokbbcaaaDoor.Wr

/-- A constraint, as it is read. -/
def gC (s : St) : C5 × St :=
  if (byteS (textS s).2).1.toNat = 1 then (((textS s).1, 1, (numS (byteS (textS s).2).2).1, (numS (numS (byteS (textS s).2).2).2).1, ⟨#[]⟩), (numS (numS (byteS (textS s).2).2).2).2)
  else if (byteS (textS s).2).1.toNat = 2 ∨ (byteS (textS s).2).1.toNat = 3 then (((textS s).1, (byteS (textS s).2).1.toNat, 0, 0, (textS (byteS (textS s).2).2).1), (textS (byteS (textS s).2).2).2)
  else (((textS s).1, (byteS (textS s).2).1.toNat, 0, 0, ⟨#[]⟩), (byteS (textS s).2).2)
/-- An attribute, as it is read. -/
def gA (s : St) : A4 × St :=
  if (byteS (textS s).2).1.toNat = 1 then (((textS s).1, true, 0, (textS (byteS (textS s).2).2).1), (textS (byteS (textS s).2).2).2)
  else if (byteS (textS s).2).1.toNat = 0 then (((textS s).1, false, (numS (byteS (textS s).2).2).1, ⟨#[]⟩), (numS (byteS (textS s).2).2).2)
  else (((textS s).1, false, 0, ⟨#[]⟩), (byteS (textS s).2).2)
theorem readL_snoc {α : Type} (f : St → α × St) : ∀ (n : Nat) (s : St), readL f (n + 1) s = ((readL f n s).1 ++ [(f (readL f n s).2).1], (f (readL f n s).2).2)
  | 0, s => rfl
  | n + 1, s => by
    have h := readL_snoc f n (f s).2
    rw [readL, h]
    rfl
theorem readL_len {α : Type} (f : St → α × St) : ∀ (n : Nat) (s : St), (readL f n s).1.length = n
  | 0, _ => rfl
  | n + 1, s => by
    show (readL f n (f s).2).1.length + 1 = n + 1
    rw [readL_len f n]
/-- A list, as it is read: how many, and these. -/
def gL {α : Type} (f : St → α × St) (s : St) : List α × St := readL f (byteS s).1.toNat (byteS s).2
/-- A message, as it is read. -/
def gM (s : St) : Mg :=
  let k := (byteS s).1.toNat
  let t := idS (byteS s).2
  let i := if 3 ≤ k ∧ k ≤ 5 then idS t.2 else ((0, 0), t.2)
  ⟨k, t.1.1, t.1.2, i.1.1, i.1.2, if k = 1 ∨ k = 3 then (gL gC i.2).1 else [], if k = 5 then (gL gA i.2).1 else []⟩
theorem gM_is (s : St) : gM s = ⟨((byteS s).1.toNat : Int), (idS (byteS s).2).1.1, (idS (byteS s).2).1.2, if 3 ≤ (byteS s).1.toNat ∧ (byteS s).1.toNat ≤ 5 then (idS (idS (byteS s).2).2).1.1 else 0, if 3 ≤ (byteS s).1.toNat ∧ (byteS s).1.toNat ≤ 5 then (idS (idS (byteS s).2).2).1.2 else 0,
    if (byteS s).1.toNat = 1 ∨ (byteS s).1.toNat = 3 then (gL gC (if 3 ≤ (byteS s).1.toNat ∧ (byteS s).1.toNat ≤ 5 then (idS (idS (byteS s).2).2).2 else (idS (byteS s).2).2)).1 else [],
    if (byteS s).1.toNat = 5 then (gL gA (if 3 ≤ (byteS s).1.toNat ∧ (byteS s).1.toNat ≤ 5 then (idS (idS (byteS s).2).2).2 else (idS (byteS s).2).2)).1 else []⟩ := by
  unfold gM
  by_cases h : 3 ≤ (byteS s).1.toNat ∧ (byteS s).1.toNat ≤ 5
  · simp only [if_pos h]
  · simp only [if_neg h]
theorem byteN_eq {b : UInt8} {n : Nat} (hn : n < 256) : b.toNat = n ↔ b = UInt8.ofNat n := by
  constructor
  · intro h
    subst h
    simp
  · intro h
    subst h
    rw [UInt8.toNat_ofNat']
    omega
theorem gC_read (c : C5) (hc : oneB c = true) (hl : I64 c.2.2.1) (hh : I64 c.2.2.2.1) (r : List UInt8) : gC (conB c ++ r, false) = (c, (r, false)) := by
  have h := readC_ok c hc hl hh r
  obtain ⟨nm, k, lo, hi, t⟩ := c
  have hk : k = 1 ∨ k = 2 ∨ k = 3 := by
    unfold oneB at hc
    rw [Bool.and_eq_true] at hc
    have h2 := hc.2
    split at h2
    · exact Or.inl ‹_›
    split at h2
    · exact Or.inr (Or.inl ‹_›)
    split at h2
    · exact Or.inr (Or.inr ‹_›)
    · cases h2
  have hs : nm.size ≤ 12 := by
    unfold oneB at hc
    rw [Bool.and_eq_true] at hc
    exact (nameB_size hc.1).2
  unfold readC at h
  unfold gC
  have e1 : textS (conB (nm, k, lo, hi, t) ++ r, false) = (nm, ((UInt8.ofNat k.toNat :: (if k = 1 then numB lo ++ numB hi else textB t)) ++ r, false)) := by
    unfold conB
    rw [List.append_assoc]
    exact textS_text (show nm.size ≤ 255 by omega) _
  rw [e1] at h ⊢
  rw [List.cons_append] at h ⊢
  simp only [byteS_cons] at h ⊢
  rcases hk with rfl | rfl | rfl
  · simpa using h
  · simpa using h
  · simpa using h
theorem gA_read (a : A4) (hn : nameB a.1 = true) (hv : Va.rightV a.2.1 a.2.2.1 a.2.2.2 = true) (h64 : I64 a.2.2.1) (r : List UInt8) : gA (attB a ++ r, false) = (a, (r, false)) := by
  have h := readA_ok a hn hv h64 r
  obtain ⟨nm, b, n, t⟩ := a
  have hs := nameB_size hn
  unfold readA at h
  unfold gA
  have e1 : textS (attB (nm, b, n, t) ++ r, false) = (nm, ((if b then 1 :: textB t else 0 :: numB n) ++ r, false)) := by
    unfold attB
    rw [List.append_assoc]
    exact textS_text (show nm.size ≤ 255 by have := hs.2; simp only at this; omega) _
  rw [e1] at h ⊢
  cases b
  · simp only [Bool.false_eq_true, if_false, List.cons_append, byteS_cons] at h ⊢
    simpa using h
  · simp only [if_true, List.cons_append, byteS_cons] at h ⊢
    simpa using h
theorem gL_read {α : Type} (f : St → α × St) (g : α → List UInt8) (l : List α) (h5 : l.length ≤ 255) (h : ∀ x ∈ l, ∀ r, f (g x ++ r, false) = (x, (r, false))) (r : List UInt8) : gL f (UInt8.ofNat l.length :: l.flatMap g ++ r, false) = (l, (r, false)) := by
  unfold gL
  rw [List.cons_append, byteS_cons]
  have e : (UInt8.ofNat l.length).toNat = l.length := by rw [UInt8.toNat_ofNat']; omega
  simp only [e]
  exact readL_ok f g l r h
theorem gM_read (m : Mg) (hr : rightM m = true) (h : M64 m) : gM (bytesM m, false) = m := by
  have R := rightM_is hr
  obtain ⟨k, tc, ts, ic, is, p, l⟩ := m
  have hk := R.kind
  have h1 := R.id
  have h2 := R.noid
  have h3 := R.pred
  have h4 := R.nopred
  have h5 := R.attrs
  have h6 := R.noattrs
  obtain ⟨_, t1, t2, i1, i2, hp, hl⟩ := h
  simp only at hk h1 h2 h3 h4 h5 h6 t1 t2 i1 i2 hp hl
  have PR : (k = 1 ∨ k = 3) → ∀ r, gL gC (UInt8.ofNat p.length :: p.flatMap conB ++ r, false) = (p, (r, false)) := fun e r =>
    gL_read gC conB p (by have := rightP_len (h3 e); omega) (fun c hc r => gC_read c (rightP_one (h3 e) c hc) (hp c hc).2.1 (hp c hc).2.2 r) r
  have AR : k = 5 → ∀ r, gL gA (UInt8.ofNat l.length :: l.flatMap attB ++ r, false) = (l, (r, false)) := fun e r =>
    gL_read gA attB l (by have := rightT_len (h5 e); omega) (fun c hc r => gA_read c (rightT_one (h5 e) c hc).1 (rightT_one (h5 e) c hc).2 (hl c hc) r) r
  have TR : ∀ r, idS ((numB tc ++ numB ts) ++ r, false) = ((tc, ts), (r, false)) := fun r => by
    rw [List.append_assoc]
    exact idS_id t1.1 t1.2 t2.1 t2.2 r
  have IR : ∀ r, idS ((numB ic ++ numB is) ++ r, false) = ((ic, is), (r, false)) := fun r => by
    rw [List.append_assoc]
    exact idS_id i1.1 i1.2 i2.1 i2.2 r
  have nil : ∀ a : List UInt8, a = a ++ [] := fun a => (List.append_nil a).symm
  unfold gM bytesM
  simp only [byteS_cons, TR]
  rcases hk with rfl | rfl | rfl | rfl | rfl
  · obtain ⟨rfl, rfl⟩ := h2 (by omega)
    obtain rfl := h6 (by omega)
    have e := PR (Or.inl rfl) []
    simp [idB, predsB, attrsB] at e ⊢
    rw [e]
  · obtain ⟨rfl, rfl⟩ := h2 (by omega)
    obtain rfl := h4 (by omega)
    obtain rfl := h6 (by omega)
    simp
  · obtain rfl := h6 (by omega)
    have e := PR (Or.inr rfl) []
    have e2 := IR (UInt8.ofNat p.length :: p.flatMap conB)
    simp [idB, predsB, attrsB] at e e2 ⊢
    rw [e2]
    simp [e]
  · obtain rfl := h4 (by omega)
    obtain rfl := h6 (by omega)
    have e2 := IR []
    simp [idB, predsB, attrsB] at e2 ⊢
    rw [e2]
    simp
  · obtain rfl := h4 (by omega)
    have e := AR rfl []
    have e2 := IR (UInt8.ofNat l.length :: l.flatMap attB)
    simp [idB, predsB, attrsB] at e e2 ⊢
    rw [e2]
    simp [e]
end Go.Proofs.YtfcgfnmokbbcaaaDoor.Ws

namespace Go.Proofs.YtfcgfnmokbbcaaaDoor.Rg
open Go.RowKit

def left (L : Array Bool) : Nat := L.toList.countP (fun b => !b)
theorem left_set (L : Array Bool) (i : Nat) (h : L.getD i true = false) : left (L.setIfInBounds i true) + 1 = left L := by
  obtain ⟨l⟩ := L
  have hi : i < l.length := by
    rcases Nat.lt_or_ge i l.length with h0 | h0
    · exact h0
    · exact absurd h (by simp [Array.getD, Nat.not_lt.2 h0])
  have hv : l[i] = false := by simpa [Array.getD, hi] using h
  unfold left
  simp only [List.setIfInBounds_toArray]
  rw [List.countP_set hi, hv]
  have hp : 0 < l.countP (fun b => !b) := List.countP_pos_iff.2 ⟨l[i], List.getElem_mem hi, by rw [hv]; rfl⟩
  simp
  omega
theorem left_zero (L : Array Bool) (h : left L = 0) (i : Nat) : L.getD i true = true := by
  obtain ⟨l⟩ := L
  unfold left at h
  rw [List.countP_eq_zero] at h
  rcases Nat.lt_or_ge i l.length with h0 | h0
  · have := h l[i] (List.getElem_mem h0)
    simp [Array.getD, h0]
    simpa using this
  · simp [Array.getD, Nat.not_lt.2 h0]

/-- Is each operation's wait for one that stands ahead of it? -/
def fore (ops : Array Oper) : Bool := (List.range ops.size).all fun i => match ops[i]? with
  | some o => o.after.all fun e => !Region.binds .any e || decide (e.on < i)
  | none => true
/-- Is the operation done? -/
def done (L : Array Bool) (i : Nat) : Prop := L.getD i false = true

theorem all_done {ops : Array Oper} (hf : fore ops = true) {L : Array Bool} (hs : L.size = ops.size) (h : Region.ready .any ops L = []) : ∀ n, n ≤ ops.size → ∀ i, i < n → done L i := by
  intro n
  induction n with
  | zero => intro _ i hi; omega
  | succ n ih =>
    intro hn i hi
    rcases Nat.lt_or_ge i n with h1 | h1
    · exact ih (by omega) i h1
    · obtain rfl : i = n := by omega
      cases hd : L.getD i true
      · exfalso
        have hm : i ∈ Region.ready .any ops L := by
          rw [mem_ready]
          refine ⟨hd, ops[i], Array.getElem?_eq_getElem (by omega), fun e he hbd => ?_⟩
          have h2 := List.all_eq_true.1 hf i (List.mem_range.2 (by omega))
          rw [Array.getElem?_eq_getElem (by omega)] at h2
          have h3 := Array.all_eq_true'.1 h2 e he
          rw [hbd] at h3
          exact ih (by omega) e.on (by simpa using h3)
        rw [h] at hm
        cases hm
      · unfold done
        have hi2 : i < L.size := by omega
        simp [Array.getD, hi2] at hd ⊢
        exact hd

section
variable {P : Program} {ops : Array Oper} {Q : Exit → Act → World → Prop}
theorem any_of_inv (I : Array Bool → Act → World → Prop) (hf : fore ops = true)
    (hstep : ∀ L a w i o, L.size = ops.size → I L a w → ops[i]? = some o → ¬ done L i → (∀ e ∈ o.after, Region.binds .any e = true → done L e.on) → wpOp P ops Q i (I (L.setIfInBounds i true)) a w)
    (hend : ∀ L a w, I L a w → (∀ i, i < ops.size → done L i) → Q .normal a w) :
    ∀ (fuel : Nat) (L : Array Bool) (a : Act) (w : World), L.size = ops.size → left L ≤ fuel → I L a w → wpAny P .any ops Q fuel L a w := by
  intro fuel
  induction fuel with
  | zero =>
    intro L a w hs hl hI
    have hr : Region.ready .any ops L = [] := by
      rw [List.eq_nil_iff_forall_not_mem]
      intro i hi
      have h1 := (mem_ready.1 hi).1
      rw [left_zero L (by omega) i] at h1
      cases h1
    exact ⟨hr, hend L a w hI (all_done hf hs hr ops.size (Nat.le_refl _))⟩
  | succ fuel ih =>
    intro L a w hs hl hI
    refine ⟨fun hr => hend L a w hI (all_done hf hs hr ops.size (Nat.le_refl _)), fun i hi => ?_⟩
    obtain ⟨h1, o, h2, h3⟩ := mem_ready.1 hi
    have hlt : i < ops.size := (Array.getElem?_eq_some_iff.1 h2).1
    have hnd : ¬ done L i := by
      unfold done
      have : i < L.size := by omega
      simp [Array.getD, this] at h1 ⊢
      exact h1
    have hst := hstep L a w i o hs hI h2 hnd (fun e he hb => h3 e he hb)
    have hmono : ∀ a' w', I (L.setIfInBounds i true) a' w' → wpAny P .any ops Q fuel (L.setIfInBounds i true) a' w' := fun a' w' h =>
      ih _ a' w' (by simpa using hs) (by have := left_set L i h1; omega) h
    unfold wpOp at hst ⊢
    rw [h2] at hst ⊢
    simp only at hst ⊢
    split at hst
    · rename_i hw
      rw [if_pos hw]
      rcases hst with hst | hst
      · exact Or.inl (Oper.wp_mono hmono hst)
      · exact Or.inr hst
    · rename_i hw
      rw [if_neg hw]
      exact hmono _ _ hst

theorem region_inv (I : Array Bool → Act → World → Prop) {id : Nat} {a : Act} {w : World} {l : List Oper} (hm : P.follows .mixedOrders = true) (hf : fore l.toArray = true)
    (h0 : I (Array.replicate l.length false) a { w with drawn := w.drawn + 1 })
    (hstep : ∀ L a w i o, L.size = l.length → I L a w → l[i]? = some o → ¬ done L i → (∀ e ∈ o.after, Region.binds .any e = true → done L e.on) → wpOp P l.toArray Q i (I (L.setIfInBounds i true)) a w)
    (hend : ∀ L a w, I L a w → (∀ i, i < l.length → done L i) → Q .normal a w) : (Code.region id l.toArray true).wp P Q a w := by
  refine wp_region_any hm (any_of_inv (ops := l.toArray) I hf (fun L a w i o hs hI ho => hstep L a w i o (by simpa using hs) hI (by simpa using ho)) (fun L a w hI hd => hend L a w hI (by simpa using hd)) _ _ _ _ (by simp) ?_ (by simpa using h0))
  unfold left
  have h2 := List.countP_le_length (p := fun b : Bool => !b) (l := List.replicate l.length false)
  simpa using h2
end

theorem done_set {L : Array Bool} {i : Nat} (h : i < L.size) (j : Nat) : done (L.setIfInBounds i true) j ↔ j = i ∨ done L j := by
  unfold done
  by_cases e : j = i
  · subst e; simp [Array.getD, h]
  · by_cases hj : j < L.size
    · have h2 : i ≠ j := fun x => e x.symm
      simp [Array.getD, hj, e, h2]
    · simp [Array.getD, hj, e]
theorem none_done (n j : Nat) : ¬ done (Array.replicate n false) j := by
  unfold done
  by_cases hj : j < n <;> simp [Array.getD, hj]

/-- One plain operation: it hands back a value. -/
theorem op_value {P : Program} {ops : Array Oper} {Q : Exit → Act → World → Prop} {K : Act → World → Prop} {a : Act} {w w' : World} {i : Nat} {o : Oper} {v : Value}
    (ho : ops[i]? = some o) (hg : o.guard = none) (hr : (execOp a.eval o).run P w = .ok (.value v) w') (h : K (a.put o.dst v) w') : wpOp P ops Q i K a w := by
  unfold wpOp
  rw [ho]
  have hw : Region.wanted o (yielded ops a.tmps) = true := by simp [Region.wanted, hg]
  simp only [hw, if_true]
  refine Or.inl ?_
  unfold Oper.wp
  rw [hr]
  exact h
/-- What a plain operation runs, by its make. -/
theorem v_run {P : Program} {s : Sem Value} {w w' : World} {v : Value} (h : s.run P w = .ok v w') : (do pure (Next.value (← s)) : Sem Next).run P w = .ok (.value v) w' := by
  simp [go_sem, h]
theorem ex_append {P : Program} (ρ : Operand → Value) (o : Oper) (s x : Operand) (t : TypeId) (ho : o.op = .call { callee := .builtin .append, args := #[s, x], argTypes := #[t, t] }) {v x' v' : Value} {w w' : World}
    (hs : ρ s = v) (hx : ρ x = x') (hrun : (Builtin.append_ #[t, t] o.type #[v, x']).run P w = .ok v' w') : (execOp ρ o).run P w = .ok (.value v') w' := by
  simp [execOp, ho, resolve, invoke, builtin, hs, hx, hrun, Result.andThen]
theorem ex_slice {P : Program} (ρ : Operand → Value) (o : Oper) (t : TypeId) (x : Operand) (l h m : Option Operand) (ho : o.op = .slice t x l h m) {v : Value} {w : World} (hr : (Instr.sliceAt t (ρ x) (l.map ρ) (h.map ρ) (m.map ρ)).run P w = .ok v w) :
    (execOp ρ o).run P w = .ok (.value v) w := by
  simp [execOp, ho, hr, Result.andThen]
theorem ex_index {P : Program} (ρ : Operand → Value) (o : Oper) (t : TypeId) (x i : Operand) (ho : o.op = .indexAddr t x i) {v : Value} {w : World} (hr : (Instr.indexAt t (ρ x) (ρ i)).run P w = .ok v w) :
    (execOp ρ o).run P w = .ok (.value v) w := by
  simp [execOp, ho, hr, Result.andThen]
theorem ex_load {P : Program} (ρ : Operand → Value) (o : Oper) (t : TypeId) (x : Operand) (ho : o.op = .load t x) {v : Value} {w : World} (hr : (Instr.loadAt t (ρ x)).run P w = .ok v w) :
    (execOp ρ o).run P w = .ok (.value v) w := by
  simp [execOp, ho, hr, Result.andThen]
theorem ex_build {P : Program} (ρ : Operand → Value) (o : Oper) (t : TypeId) (n : Nat) (parts : Array (Nat × Operand)) (ho : o.op = .buildSlice t n parts) {ps : Array (Nat × Value)} (hp : parts.map (fun x => (x.1, ρ x.2)) = ps) {v : Value} {w w' : World} (hr : (Instr.buildSlice t n ps).run P w = .ok v w') :
    (execOp ρ o).run P w = .ok (.value v) w' := by
  subst hp
  simp [execOp, ho, hr, Result.andThen]
theorem ex_move {P : Program} (ρ : Operand → Value) (o : Oper) (x : Operand) (ho : o.op = .move x) (w : World) : (execOp ρ o).run P w = .ok (.value (ρ x)) w := by
  simp [execOp, ho]
theorem ex_assign {P : Program} (ρ : Operand → Value) (o : Oper) (x : Operand) (ho : o.op = .assign x) (w : World) : (execOp ρ o).run P w = .ok (.value (ρ x)) w := by
  simp [execOp, ho]
theorem eval_put (a : Act) (d : Nat) (v : Value) (j : Nat) (hd : d < a.tmps.size) : (a.put (some d) v).eval (.tmp j) = if j = d then v else a.eval (.tmp j) := by
  by_cases e : j = d
  · subst e; simp [Act.put, Act.eval, Array.getD, hd]
  · have h2 : d ≠ j := fun x => e x.symm
    by_cases hj : j < a.tmps.size
    · simp [Act.put, Act.eval, Array.getD, hj, e, h2]
    · simp [Act.put, Act.eval, Array.getD, hj, e]
theorem size_put (a : Act) (d : Nat) (v : Value) : (a.put (some d) v).tmps.size = a.tmps.size := by simp [Act.put]
theorem get_put (a : Act) (d : Nat) (v : Value) (j : Nat) (hd : j ≠ d) : (a.put (some d) v).tmps[j]? = a.tmps[j]? := by
  have h2 : d ≠ j := fun x => hd x.symm
  simp [Act.put, h2]
theorem lt_of_heap {w : World} {b : Nat} {o : Obj} (h : w.heap[b]? = some o) : b < w.heap.size := by
  rcases Nat.lt_or_ge b w.heap.size with h0 | h0
  · exact h0
  · simp [Array.getElem?_eq_none h0] at h
theorem heapLast (w : World) (o : Obj) : (w.alloc o).heap[w.heap.size]? = some o := by show (w.heap.push _)[w.heap.size]? = _; simp
theorem eval_get {a : Act} {base : Array Value} {j : Nat} {x : Value} (hk : a.tmps[j]? = base[j]?) (h : base[j]? = some x) : a.eval (.tmp j) = x := by
  rw [h] at hk
  unfold Act.eval
  have hlt : j < a.tmps.size := (Array.getElem?_eq_some_iff.1 hk).1
  simp only [Array.getD, hlt, dif_pos]
  have h2 := (Array.getElem?_eq_some_iff.1 hk).2
  simpa using h2
theorem grown_refl (w : World) (row : Option Nat) : w.grownBy w row := ⟨rfl, rfl, rfl, Nat.le_refl _, fun _ _ _ => rfl⟩
end Go.Proofs.YtfcgfnmokbbcaaaDoor.Rg
