/-
  A region that draws its order, some of whose operations, each waiting for the one before it, turn the world, beside one more that may come at any time ahead of the one that waits for it; what each of them hands back is not known ahead. No condition beyond what the theorem states.
  Bytes beside variables: a row of bytes of one's own and a variable of another type; a row of one byte that waits to be appended. No program's function in it.
-/
import Derived.Test.YtfcgfnmokbbcaaaDoorU002
import Derived.Test.YtfcgfnmokbbcaaaDoorU014
import Derived.Test.YtfcgfnmokbbcaaaDoorU006
import Derived.Test.YtfcgfnmokbbcaaaDoorU003
import Derived.Test.YtfcgfnmokbbcaaaDoorU001
namespace Go.Proofs.YtfcgfnmokbbcaaaDoor.Rg
open Go.RowKit

/-- What an operation may rely on. -/
structure SeenK (l : List Oper) (N : Nat) (dst : Nat → Nat) (pv : Nat → Option Value) (val : Nat → Value) (base : Act) (cur : Nat) (o : Oper) (a : Act) : Prop where
  kq : ∀ i oi u, i < N → l[i]? = some oi → (∃ e ∈ oi.after, Region.binds .any e = true ∧ e.on = cur) → base.tmps[dst i]? = some u → a.eval (.tmp (dst i)) = u
  kp : ∀ j u, (∀ i, i < N → dst i ≠ j) → base.tmps[j]? = some u → a.eval (.tmp j) = u
  at_ : ∀ e ∈ o.after, Region.binds .any e = true → a.eval (.tmp (dst e.on)) = val e.on
  pl : ∀ e ∈ o.after, Region.binds .any e = true → ∀ v, pv e.on = some v → a.eval (.tmp (dst e.on)) = v
def upd (val : Nat → Value) (i : Nat) (v : Value) : Nat → Value := fun j => if j = i then v else val j
theorem upd_same (val : Nat → Value) (i : Nat) (v : Value) : upd val i v i = v := if_pos rfl
theorem upd_other (val : Nat → Value) {i j : Nat} (v : Value) (h : j ≠ i) : upd val i v j = val j := if_neg h
theorem region_chain {P : Program} {Q : Exit → Act → World → Prop} {id : Nat} {base : Act} {w : World} {l : List Oper} (N : Nat) (dst : Nat → Nat) (pv : Nat → Option Value) (mk : Nat → Nat) (R q c0 : Nat) (C : Nat → Bool → (Nat → Value) → World → Prop)
    (hm : P.follows .mixedOrders = true) (hf : fore l.toArray = true) (hN : l.length = N) (hinj : ∀ i j, i < N → j < N → dst i = dst j → i = j) (hs : ∀ i, i < N → dst i < base.tmps.size)
    (hmi : ∀ i j, i < R → j < R → mk i = mk j → i = j) (hml : ∀ j, j < R → mk j < N) (hq : q < N) (hqm : ∀ j, j < R → mk j ≠ q) (hpm : ∀ j, j < R → pv (mk j) = none) (hpq : pv q = none)
    (hch : ∀ j o, j + 1 < R → l[mk (j + 1)]? = some o → ∃ e ∈ o.after, Region.binds .any e = true ∧ e.on = mk j)
    (hqc : ∀ o, c0 < R → l[mk c0]? = some o → ∃ e ∈ o.after, Region.binds .any e = true ∧ e.on = q)
    (h0 : ∀ val, C 0 false val w.drew)
    (hC : ∀ s b val val' x, (∀ j, j < s → val' (mk j) = val (mk j)) → (b = true → val' q = val q) → C s b val x → C s b val' x)
    (hplain : ∀ i o, i < N → l[i]? = some o → (∀ j, j < R → i ≠ mk j) → i ≠ q → ∃ v, pv i = some v ∧ ∀ s b val x a, C s b val x → SeenK l N dst pv val base i o a → ∀ K : Act → World → Prop, K (a.put (some (dst i)) v) x → wpOp P l.toArray Q i K a x)
    (hmark : ∀ j o b val x a, j < R → l[mk j]? = some o → C j b val x → (c0 ≤ j → b = true) → SeenK l N dst pv val base (mk j) o a → ∀ K : Act → World → Prop, (∀ v x', C (j + 1) b (upd val (mk j) v) x' → K (a.put (some (dst (mk j))) v) x') → wpOp P l.toArray Q (mk j) K a x)
    (hlit : ∀ o s val x a, s ≤ c0 → l[q]? = some o → C s false val x → SeenK l N dst pv val base q o a → ∀ K : Act → World → Prop, (∀ v x', C s true (upd val q v) x' → K (a.put (some (dst q)) v) x') → wpOp P l.toArray Q q K a x)
    (hend : ∀ a b val x, C R b val x → a.defers = base.defers → a.tmps.size = base.tmps.size → (∀ j, (∀ i, i < N → dst i ≠ j) → a.tmps[j]? = base.tmps[j]?) → (∀ i, i < N → a.tmps[dst i]? = some (val i)) → Q .normal a x) : (Code.region id l.toArray true).wp P Q base w := by
  refine region_inv (fun L a x => (a.defers = base.defers ∧ a.tmps.size = base.tmps.size ∧ ∀ j, (∀ i, i < N → dst i ≠ j) → a.tmps[j]? = base.tmps[j]?) ∧ ∃ s b val, s ≤ R ∧ (∀ j, j < s → done L (mk j)) ∧ (∀ j, s ≤ j → j < R → ¬ done L (mk j)) ∧ (b = true ↔ done L q) ∧ (c0 < s → b = true) ∧ (∀ i, done L i → i < N → a.tmps[dst i]? = some (val i)) ∧ (∀ i v, done L i → pv i = some v → val i = v) ∧ (∀ i o, done L i → l[i]? = some o → ∀ e ∈ o.after, Region.binds .any e = true → done L e.on) ∧ (∀ i, i < N → ¬ done L i → a.tmps[dst i]? = base.tmps[dst i]?) ∧ C s b val x) hm hf ?_ ?_ ?_
  · exact ⟨⟨rfl, rfl, fun _ _ => rfl⟩, 0, false, fun _ => undef, Nat.zero_le _, fun j h => by omega, fun j _ _ => none_done _ _, ⟨(by simp), fun h => absurd h (none_done _ _)⟩, fun h => by omega, fun i h => absurd h (none_done _ _), fun i v h => absurd h (none_done _ _), fun i o h => absurd h (none_done _ _), fun _ _ _ => rfl, h0 _⟩
  · intro L a x i o hsz ⟨⟨h1, h2, h3⟩, s, b, val, hsR, hd1, hd2, hbq, hcb, hv, hpl, hcl, h4, hCs⟩ ho hnd hdep
    have hi : i < l.length := (List.getElem?_eq_some_iff.1 ho).1
    have hiN : i < N := by omega
    have hiL : i < L.size := by omega
    have hon : ∀ e ∈ o.after, Region.binds .any e = true → e.on < N := fun e he hb => by
      have h7 := List.all_eq_true.1 hf i (List.mem_range.2 (by simpa using hi))
      have ho' : (l.toArray)[i]? = some o := by simpa using ho
      rw [ho'] at h7
      have h8 := Array.all_eq_true'.1 h7 e he
      rw [hb] at h8
      have : e.on < i := by simpa using h8
      omega
    have blk : ∀ k ok, l[k]? = some ok → (∃ e ∈ ok.after, Region.binds .any e = true ∧ e.on = i) → ¬ done L k := fun k ok hok hw hdk => by
      obtain ⟨e, he, hbd, he2⟩ := hw
      have h5 := hcl k ok hdk hok e he hbd
      rw [he2] at h5
      exact hnd h5
    have seen : SeenK l N dst pv val base i o a := ⟨fun k ok u hk hok hw hu => eval_some ((h4 k hk (blk k ok hok hw)).trans hu), fun j u hj hu => eval_some (by rw [h3 j hj]; exact hu), fun e he hbd => eval_some (hv e.on (hdep e he hbd) (hon e he hbd)), fun e he hbd v hv' => by
      rw [eval_some (hv e.on (hdep e he hbd) (hon e he hbd))]
      exact hpl e.on v (hdep e he hbd) hv'⟩
    have frame : ∀ v, (a.put (some (dst i)) v).defers = base.defers ∧ (a.put (some (dst i)) v).tmps.size = base.tmps.size ∧ ∀ j, (∀ k, k < N → dst k ≠ j) → (a.put (some (dst i)) v).tmps[j]? = base.tmps[j]? := fun v =>
      ⟨h1, by rw [size_put]; exact h2, fun j hj => by rw [get_put _ _ _ _ (fun e => hj i hiN e.symm)]; exact h3 j hj⟩
    have vals : ∀ v, ∀ k, done (L.setIfInBounds i true) k → k < N → (a.put (some (dst i)) v).tmps[dst k]? = some (upd val i v k) := fun v k hk hkN => by
      by_cases e : k = i
      · subst e
        have : dst k < a.tmps.size := by rw [h2]; exact hs k hkN
        rw [upd_same]
        simp [Act.put, this]
      · rw [get_put _ _ _ _ (fun e2 => e (hinj k i hkN hiN e2)), upd_other _ _ e]
        rcases (done_set hiL k).1 hk with h9 | h9
        · exact absurd h9 e
        · exact hv k h9 hkN
    have dq : ∀ {k}, k ≠ i → (done (L.setIfInBounds i true) k ↔ done L k) := fun {k} h => by
      rw [done_set hiL]
      exact ⟨fun h5 => h5.resolve_left h, Or.inr⟩
    have hcl2 : ∀ k q, done (L.setIfInBounds i true) k → l[k]? = some q → ∀ e ∈ q.after, Region.binds .any e = true → done (L.setIfInBounds i true) e.on := by
      intro k q hk hq e he hb
      rw [done_set hiL] at hk ⊢
      rcases hk with rfl | hk
      · rw [hq] at ho
        cases ho
        exact Or.inr (hdep e he hb)
      · exact Or.inr (hcl k q hk hq e he hb)
    have h42 : ∀ v, ∀ k, k < N → ¬ done (L.setIfInBounds i true) k → (a.put (some (dst i)) v).tmps[dst k]? = base.tmps[dst k]? := fun v k hk hkd => by
      have hne : k ≠ i := fun e => hkd ((done_set hiL k).2 (Or.inl e))
      rw [get_put _ _ _ _ (fun e2 => hne (hinj k i hk hiN e2))]
      exact h4 k hk (fun h => hkd ((done_set hiL k).2 (Or.inr h)))
    by_cases hmark' : ∃ j, j < R ∧ i = mk j
    · obtain ⟨j, hj, rfl⟩ := hmark'
      have hsj : s = j := by
        rcases Nat.lt_trichotomy s j with h | h | h
        · exfalso
          obtain ⟨k, rfl⟩ : ∃ k, j = k + 1 := ⟨j - 1, by omega⟩
          obtain ⟨e, he, hb, hon2⟩ := hch k o hj ho
          have := hdep e he hb
          rw [hon2] at this
          exact hd2 k (by omega) (by omega) this
        · exact h
        · exact absurd (hd1 j h) hnd
      subst hsj
      have hcs : c0 ≤ s → b = true := fun h => by
        rcases Nat.lt_or_ge c0 s with h5 | h5
        · exact hcb h5
        · obtain rfl : s = c0 := by omega
          obtain ⟨e, he, hb, hon2⟩ := hqc o hj ho
          have := hdep e he hb
          rw [hon2] at this
          exact hbq.2 this
      refine hmark s o b val x a hj ho hCs hcs seen _ fun v x' hC' => ⟨frame v, s + 1, b, upd val (mk s) v, hj, fun j hj2 => (done_set hiL _).2 ?_, fun j h5 h6 h7 => ?_, ?_, fun h => hcs (by omega), vals v, fun k u hk hku => ?_, hcl2, h42 v, hC'⟩
      · by_cases e : j = s
        · exact Or.inl (by rw [e])
        · exact Or.inr (hd1 j (by omega))
      · rcases (done_set hiL _).1 h7 with h8 | h8
        · have := hmi _ _ h6 hj h8
          omega
        · exact hd2 j (by omega) h6 h8
      · rw [dq (fun e => hqm s hj e.symm)]
        exact hbq
      · by_cases e : k = mk s
        · rw [e, hpm s hj] at hku
          cases hku
        · rw [upd_other _ _ e]
          exact hpl k u ((dq e).1 hk) hku
    · by_cases hiq : i = q
      · subst hiq
        obtain rfl : b = false := by
          cases b
          · rfl
          · exact absurd (hbq.1 rfl) hnd
        have hs0 : s ≤ c0 := by
          rcases Nat.lt_or_ge c0 s with h5 | h5
          · cases hcb h5
          · exact h5
        refine hlit o s val x a hs0 ho hCs seen _ fun v x' hC' => ⟨frame v, s, true, upd val i v, hsR, fun j hj => (done_set hiL _).2 (Or.inr (hd1 j hj)), fun j h5 h6 h7 => ?_, ⟨fun _ => (done_set hiL _).2 (Or.inl rfl), fun _ => rfl⟩, fun _ => rfl, vals v, fun k u hk hku => ?_, hcl2, h42 v, hC'⟩
        · rcases (done_set hiL _).1 h7 with h8 | h8
          · exact hqm j h6 h8
          · exact hd2 j h5 h6 h8
        · by_cases e : k = i
          · rw [e, hpq] at hku
            cases hku
          · rw [upd_other _ _ e]
            exact hpl k u ((dq e).1 hk) hku
      · obtain ⟨v, hpv, hex⟩ := hplain i o hiN ho (fun j hj e => hmark' ⟨j, hj, e⟩) hiq
        refine hex s b val x a hCs seen _ ⟨frame v, s, b, upd val i v, hsR, fun j hj => (done_set hiL _).2 (Or.inr (hd1 j hj)), fun j h5 h6 h7 => ?_, ?_, hcb, vals v, fun k u hk hku => ?_, hcl2, h42 v, hC s b val _ x (fun j hj => upd_other _ _ (fun e => hmark' ⟨j, by omega, e.symm⟩)) (fun _ => upd_other _ _ (fun e => hiq e.symm)) hCs⟩
        · rcases (done_set hiL _).1 h7 with h8 | h8
          · exact hmark' ⟨j, h6, h8.symm⟩
          · exact hd2 j h5 h6 h8
        · rw [dq (fun e => hiq e.symm)]
          exact hbq
        · by_cases e : k = i
          · subst e
            rw [hpv] at hku
            cases hku
            exact upd_same _ _ _
          · rw [upd_other _ _ e]
            exact hpl k u ((dq e).1 hk) hku
  · intro L a x ⟨⟨h1, h2, h3⟩, s, b, val, hsR, hd1, hd2, hbq, hcb, hv, hpl, _, _, hCs⟩ hd
    have hsR' : s = R := by
      rcases Nat.lt_or_ge s R with h | h
      · exact absurd (hd (mk s) (by have := hml s h; omega)) (hd2 s (Nat.le_refl _) h)
      · omega
    subst hsR'
    exact hend a b val x hCs h1 h2 h3 fun i hi => hv i (hd i (by omega)) hi
end Go.Proofs.YtfcgfnmokbbcaaaDoor.Rg

namespace Go.Proofs.YtfcgfnmokbbcaaaDoor.Wr
open Go.RowKit Go.Proofs.YtfcgfnmokbbcaaaDoor Go.Proofs.YtfcgfnmokbbcaaaDoor.Rw Go.Proofs.YtfcgfnmokbbcaaaDoor.Nm

theorem box_grown {W W' : World} {b : Nat} {cs : Array Value} {t : TypeId} {row : Option Nat} (h : Box W b cs t) (hg : W.grownBy W' row) (hne : row ≠ some b) : Box W' b cs t := (hg.block b h.lt (fun e => hne e.symm)).trans h
theorem own_neB {W : World} {B b : Nat} {v : Value} {s : List UInt8} {cs : Array Value} {t : TypeId} (h : OwnB W B v s) (hb : Box W b cs t) (ht : t ≠ 5) : v.ownBlock ≠ some b := by
  intro e
  rcases own_open h with ⟨rfl, _⟩ | ⟨g, cap, cur, rfl, _, hg, _⟩
  · cases e
  · obtain rfl : g = b := by simpa [Value.ownBlock] using e
    unfold Box at hb hg
    rw [hb] at hg
    simp only [Option.some.injEq, Obj.cells.injEq] at hg
    exact ht hg.2.1
/-- A row of one byte, new. -/
def LitB (B : Nat) (v : Value) (c : UInt8) (w : World) : Prop := ∃ g, B ≤ g ∧ v = .slice (some ⟨g, 0, none⟩) 1 1 ∧ Box w g #[.int .u8 c.toNat] 5
theorem LitB.on {B : Nat} {v : Value} {c : UInt8} {w w' : World} (h : LitB B v c w) (hb : Below w.heap.size w w') : LitB B v c w' := by
  obtain ⟨g, h0, h1, h2⟩ := h
  exact ⟨g, h0, h1, h2.on hb⟩
theorem LitB.own {B : Nat} {v : Value} {c : UInt8} {w : World} (h : LitB B v c w) : OwnB w B v [c] := by
  obtain ⟨g, h0, rfl, h2⟩ := h
  exact own_shut okB rfl h0 h2 (Nat.le_refl _) (by decide) rfl rfl
theorem LitB.row {B : Nat} {v : Value} {c : UInt8} {w : World} (h : LitB B v c w) : RowB w v [c] := Row.of_own h.own
theorem LitB.app {B B' : Nat} {v r : Value} {c : UInt8} {w w' : World} {l : List UInt8} (h : LitB B v c w) (ho : OwnB w B' r l) (hl : 2 ≤ l.length) (hg : w.grownBy w' r.ownBlock) : LitB B v c w' := by
  obtain ⟨g, h0, h1, h2⟩ := h
  refine ⟨g, h0, h1, (hg.block g h2.lt fun e => ?_).trans h2⟩
  rcases own_open ho with ⟨e1, e2⟩ | ⟨g', cap, cur, e1, _, hb, hlc, _, hsz, _⟩
  · rw [e1] at e
    cases e
  · rw [e1] at e
    obtain rfl : g = g' := by simpa [Value.ownBlock] using e
    unfold Box at h2 hb
    rw [h2] at hb
    have e2 : #[.int .u8 c.toNat] = cur := by injection hb with hb; injection hb
    rw [← e2] at hsz
    have e3 : EB.n = 1 := rfl
    rw [e3] at hsz
    simp at hsz
    omega
theorem LitB.made (B : Nat) (w : World) (c : UInt8) (hB : B ≤ w.heap.size) : LitB B (.slice (some ⟨w.heap.size, 0, none⟩) 1 1) c (w.alloc (.cells #[.int .u8 c.toNat] 5)) := ⟨w.heap.size, hB, rfl, box_new w _ _⟩
theorem lit_byteB (w : World) (c : UInt8) : (Instr.buildSlice 22 1 #[(0, .int .u8 c.toNat)]).run Tryd.prog w = .ok (.slice (some ⟨w.heap.size, 0, none⟩) 1 1) (w.alloc (.cells #[.int .u8 c.toNat] 5)) := by simp [go_sem]
/-- An append to what is there, as a region has it. -/
theorem app_nextB {B : Nat} {W w : World} {v x : Value} {l m : List UInt8} (hB : B ≤ W.heap.size) (hb : Below B W w) (ho : OwnB w B v l) (hx : RowB w x m) (hl : l.length + m.length ≤ 1000000) :
    ∃ v' w', (Builtin.append_ #[22, 22] 22 #[v, x]).run Tryd.prog w = .ok v' w' ∧ OwnB w' B v' (l ++ m) ∧ w.grownBy w' v.ownBlock ∧ Below B W w' := by
  obtain ⟨v', w', r, o', gr⟩ := appB B ho hx (by omega) (Nat.le_trans hB hb.size) 22
  exact ⟨v', w', r, o', gr, hb.trans (below_own ho (Nat.le_trans hB hb.size) gr)⟩
theorem textB_lenW (s : ByteArray) (h : s.size ≤ 255) : (textB s).length = s.size + 1 := by
  rw [textB_ok h, List.length_cons]
  rfl
end Go.Proofs.YtfcgfnmokbbcaaaDoor.Wr
