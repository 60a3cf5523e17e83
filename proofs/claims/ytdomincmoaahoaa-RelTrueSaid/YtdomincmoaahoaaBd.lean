/-
  Constraints in memory: as values, as cells, as lists. No program's call in it.
  Constraint of the statements' own package: a constraint of a number. Condition: numbers of 64 bits.
  Pred of the statements' own package: a right predicate of numbers. Condition: numbers of 64 bits; lists no longer than a machine holds.
  What a predicate of numbers is; what lists of constraints are small. No program's function in it.
  Same of two lists of constraints, of the statements' own package. Condition: lists far below a machine's length.
-/
import Derived.Test.YtdomincmoaahoaaBa
import Derived.Test.YtdomincmoaahoaaBb
import Derived.Test.YtdomincmoaahoaaBc
import Derived.Deep.RegionWith
import Derived.IntWalk
import Derived.Lib.Hide
import Derived.Lib.QuietBelow
import Derived.BigQuiet
namespace Go.Proofs.Ytdomincmoaahoaa.Pr
open Go.RowKit Go.Proofs.Ytdomincmoaahoaa Go.Proofs.Ytdomincmoaahoaa.Pu Go.Proofs.Ytdomincmoaahoaa.Rw

/-- A constraint as it lies: its name, kind, bounds, text. -/
abbrev C5 := ByteArray × Int × Int × Int × ByteArray
abbrev cv (c : C5) : Value := .agg #[.string c.1, .int .i64 c.2.1, .int .i64 c.2.2.1, .int .i64 c.2.2.2.1, .string c.2.2.2.2]
def cells5 (c : C5) : List Value := [.string c.1, .int .i64 c.2.1, .int .i64 c.2.2.1, .int .i64 c.2.2.2.1, .string c.2.2.2.2]
def r5 (c : Cn) : C5 := (c.1, kN c.2, kLo c.2, kHi c.2, kT c.2)
def EC : Ek C5 := ⟨23, 25, 5, 56, .agg #[.string ⟨#[]⟩, .int .i64 0, .int .i64 0, .int .i64 0, .string ⟨#[]⟩], cv, cells5⟩
theorem infoC0 : (Try.prog.info? 23).map (fun i => (i.zero, i.size, i.bytes)) = some (some (.agg #[.string ⟨#[]⟩, .int .i64 0, .int .i64 0, .int .i64 0, .string ⟨#[]⟩]), 5, 56) := by kernel_rfl
theorem load_runC (w : World) (p : Addr) (c : C5) (h : ∀ j u, (cells5 c)[j]? = some u → w.cell? (p.add j) = some u) : (Instr.loadAt 23 (.pointer (some p))).run Try.prog w = .ok (cv c) w := by
  have h0 := h 0 _ rfl
  have h1 := h 1 _ rfl
  have h2 := h 2 _ rfl
  have h3 := h 3 _ rfl
  have h4 := h 4 _ rfl
  simp [Addr.add] at h0 h1 h2 h3 h4
  simp [go_sem, h0, h1, h2, h3, h4]
theorem okC : EC.Ok where
  hu := Try.underlying25
  info := by
    have h := infoC0
    cases hi : Try.prog.info? 23 with
    | none => rw [hi] at h; cases h
    | some i =>
      rw [hi] at h
      simp only [Option.map_some, Option.some.injEq, Prod.mk.injEq] at h
      exact ⟨i, hi, h.1, h.2.1, h.2.2⟩
  zs := rfl
  len := fun _ => rfl
  one := fun x u hu => by
    simp only [EC, cells5, List.mem_cons, List.not_mem_nil, or_false] at hu
    rcases hu with rfl | rfl | rfl | rfl | rfl <;> rfl
  pos := by decide
  few := by decide
  load := fun w p x h => load_runC w p x h
abbrev RowC (W : World) (v : Value) (l : List C5) : Prop := Row EC W v l
abbrev OwnC (W : World) (B : Nat) (v : Value) (l : List C5) : Prop := Own EC W B v l
/-- The cells of an element, one by one. -/
theorem five {w : World} {p : Addr} {c : C5} (h : ∀ j u, (EC.cells c)[j]? = some u → w.cell? (p.add j) = some u) :
    w.cell? p = some (.string c.1) ∧ w.cell? ⟨p.block, p.off + 1, none⟩ = some (.int .i64 c.2.1) ∧ w.cell? ⟨p.block, p.off + 2, none⟩ = some (.int .i64 c.2.2.1) ∧ w.cell? ⟨p.block, p.off + 3, none⟩ = some (.int .i64 c.2.2.2.1) ∧ w.cell? ⟨p.block, p.off + 4, none⟩ = some (.string c.2.2.2.2) := by
  have h0 := h 0 _ rfl
  rw [add_zero] at h0
  have g : ∀ j u, j ≠ 0 → (EC.cells c)[j]? = some u → w.cell? ⟨p.block, p.off + j, none⟩ = some u := fun j u hj hu => by
    rw [← add_pos p j hj]; exact h j u hu
  exact ⟨h0, g 1 _ (by decide) rfl, g 2 _ (by decide) rfl, g 3 _ (by decide) rfl, g 4 _ (by decide) rfl⟩
/-- Where an element lies, and its cells. -/
theorem elC {W : World} {v : Value} {l : List C5} {ao : Option Addr} {n c k : Nat} {x : C5} (h : RowC W v l) (hv : v = .slice ao n c) (hn : l.length = n) (hk : l[k]? = some x) :
    ∃ p : Addr, (∀ w, (Instr.indexAt 25 (.slice ao n c) (.int .i64 k)).run Try.prog w = .ok (.pointer (some p)) w) ∧ ∀ w, Below W.heap.size W w →
      w.cell? p = some (.string x.1) ∧ w.cell? ⟨p.block, p.off + 1, none⟩ = some (.int .i64 x.2.1) ∧ w.cell? ⟨p.block, p.off + 2, none⟩ = some (.int .i64 x.2.2.1) ∧ w.cell? ⟨p.block, p.off + 3, none⟩ = some (.int .i64 x.2.2.2.1) ∧ w.cell? ⟨p.block, p.off + 4, none⟩ = some (.string x.2.2.2.2) := by
  obtain ⟨p, h1, _, h2⟩ := row_el okC h hv hn hk
  exact ⟨p, h1, fun w hw => five (h2 w hw)⟩
theorem loC {W : World} {v : Value} {l : List C5} (h : RowC W v l) (k : Nat) (hk : k ≤ l.length) : ∃ lo, (∀ w, (Instr.sliceAt 25 v none (some (.int .i64 k)) none).run Try.prog w = .ok lo w) ∧ RowC W lo (l.take k) := row_lo okC h k hk
theorem hiC {W : World} {v : Value} {l : List C5} (h : RowC W v l) (k : Nat) (hk : k ≤ l.length) : ∃ hi, (∀ w, (Instr.sliceAt 25 v (some (.int .i64 k)) none none).run Try.prog w = .ok hi w) ∧ RowC W hi (l.drop k) := row_hi okC h k hk
theorem appC {w : World} (B : Nat) {v x : Value} {l m : List C5} (hown : OwnC w B v l) (hx : RowC w x m) (hn : l.length ≤ 1000) (hm : m.length ≤ 1000) (hB : B ≤ w.heap.size) :
    ∃ v' w', (Builtin.append_ #[25, 25] 25 #[v, x]).run Try.prog w = .ok v' w' ∧ OwnC w' B v' (l ++ m) ∧ w.grownBy w' v.ownBlock := app_row okC B hown hx hn hm hB 25
theorem ownC_nil (w : World) : OwnC (w.alloc (.cells #[] 23)) w.heap.size (.slice (some ⟨w.heap.size, 0, none⟩) 0 0) [] := own_made w
theorem stoodC : Try.prog.stoodInHeld 23 = false := by kernel_rfl
/-- Are two constraints the same? -/
def eqlC (x y : C5) : Bool := x.1.toList == y.1.toList && (x.2.1 == y.2.1 && (x.2.2.1 == y.2.2.1 && (x.2.2.2.1 == y.2.2.2.1 && x.2.2.2.2.toList == y.2.2.2.2.toList)))
set_option maxRecDepth 100000 in
set_option maxHeartbeats 1000000 in
theorem neqC (x y : C5) (r : Bool) (hr : eqlC x y = r) (w : World) : (binOp .neq 23 (cv x) (cv y)).run Try.prog w = .ok (.bool (!r)) w := by
  have st := stoodC
  subst hr
  obtain ⟨a, b, c, d, e⟩ := x
  obtain ⟨a', b', c', d', e'⟩ := y
  unfold eqlC
  by_cases h1 : a.toList = a'.toList <;> by_cases h2 : b = b' <;> by_cases h3 : c = c' <;> by_cases h4 : d = d' <;> by_cases h5 : e.toList = e'.toList <;> simp [go_sem, Try.underlying23, Try.underlying3, Try.underlying9, st, h1, h2, h3, h4, h5]
set_option maxRecDepth 100000 in
set_option maxHeartbeats 1000000 in
theorem eqC (x y : C5) (r : Bool) (hr : eqlC x y = r) (w : World) : (binOp .eql 23 (cv x) (cv y)).run Try.prog w = .ok (.bool r) w := by
  have st := stoodC
  subst hr
  obtain ⟨a, b, c, d, e⟩ := x
  obtain ⟨a', b', c', d', e'⟩ := y
  unfold eqlC
  by_cases h1 : a.toList = a'.toList <;> by_cases h2 : b = b' <;> by_cases h3 : c = c' <;> by_cases h4 : d = d' <;> by_cases h5 : e.toList = e'.toList <;> simp [go_sem, Try.underlying23, Try.underlying3, Try.underlying9, st, h1, h2, h3, h4, h5]
theorem eqlC_iff (x y : C5) : eqlC x y = true ↔ x = y := by
  obtain ⟨a, b, c, d, e⟩ := x
  obtain ⟨a', b', c', d', e'⟩ := y
  simp only [eqlC, Bool.and_eq_true, beq_iff_eq, Prod.mk.injEq]
  constructor
  · rintro ⟨h1, h2, h3, h4, h5⟩
    exact ⟨name_inj h1, h2, h3, h4, name_inj h5⟩
  · rintro ⟨rfl, rfl, rfl, rfl, rfl⟩
    exact ⟨rfl, rfl, rfl, rfl, rfl⟩
end Go.Proofs.Ytdomincmoaahoaa.Pr

namespace Go.Proofs.Ytdomincmoaahoaa.Pr
open Go.RowKit Go.Proofs.Ytdomincmoaahoaa Go.Proofs.Ytdomincmoaahoaa.Pu Go.Proofs.Ytdomincmoaahoaa.Rw Go.Proofs.Ytdomincmoaahoaa.Va Go.Proofs.Ytdomincmoaahoaa.Kp

def lo9 (n : Int) : Int := Wi.within (n.tdiv 4) 0 9
def tx6 (n : Int) : ByteArray := txtAt (Wi.within (n.tdiv 4) 0 6)
/-- What a number's constraint asks. -/
def kdOf (n : Int) : Kd := if Wi.within n 0 3 = 0 ∨ Wi.within n 0 3 = 1 then .rg (lo9 n) (lo9 n + Wi.within (n.tdiv 40) 0 9) else if Wi.within n 0 3 = 2 then .tx (tx6 n) else .pr (tx6 n)
theorem kdOf_good (n : Int) : goodK (kdOf n) = true := by
  unfold kdOf
  have hw := Wi.within_bd (n.tdiv 40) 0 9 (by omega)
  have ht : (tx6 n).size ≤ 3 := txt_size _
  split
  · simp only [goodK, decide_eq_true_eq]; omega
  · split
    · simp only [goodK, decide_eq_true_eq]; omega
    · simp only [goodK, decide_eq_true_eq]; omega
theorem tdiv_bd (n k : Int) (hk : 1 ≤ k) (h1 : -9223372036854775808 ≤ n) (h2 : n ≤ 9223372036854775807) : -9223372036854775808 ≤ n.tdiv k ∧ n.tdiv k ≤ 9223372036854775807 := by
  rcases Int.le_total 0 n with h | h
  · rw [Int.tdiv_eq_ediv_of_nonneg h]
    have a := Int.ediv_nonneg h (show 0 ≤ k by omega)
    have b := Int.ediv_le_self k h
    omega
  · have e : n.tdiv k = -((-n) / k) := by rw [← Int.tdiv_eq_ediv_of_nonneg (by omega), Int.neg_tdiv, Int.neg_neg]
    have a := Int.ediv_nonneg (show 0 ≤ -n by omega) (show 0 ≤ k by omega)
    have b := Int.ediv_le_self k (show 0 ≤ -n by omega)
    omega

set_option maxRecDepth 100000 in
set_option maxHeartbeats 8000000 in
theorem constraint_any (nm_ : ByteArray) (n : Int) (w : World) (h1 : -9223372036854775808 ≤ n) (h2 : n ≤ 9223372036854775807) :
    Calls Try.prog 22 #[.string nm_, .int .i64 n] w fun e w' => e = .returned (cv (r5 (nm_, kdOf n))) ∧ Below w.heap.size w w' := by
  have b4 := tdiv_bd n 4 (by decide) h1 h2
  have b40 := tdiv_bd n 40 (by decide) h1 h2
  have q4 : IntKind.i64.wrap (n.tdiv 4) = n.tdiv 4 := IntWalk.i64_in _ b4
  have q40 : IntKind.i64.wrap (n.tdiv 40) = n.tdiv 40 := IntWalk.i64_in _ b40
  have W3 := Lib.hid (fun wx => Wi.within_any n 0 3 wx (by omega) (by omega) (by omega) h1 h2)
  have W9 := Lib.hid (fun wx => Wi.within_any (n.tdiv 4) 0 9 wx (by omega) (by omega) (by omega) b4.1 b4.2)
  have W6 := Lib.hid (fun wx => Wi.within_any (n.tdiv 4) 0 6 wx (by omega) (by omega) (by omega) b4.1 b4.2)
  have V9 := Lib.hid (fun wx => Wi.within_any (n.tdiv 40) 0 9 wx (by omega) (by omega) (by omega) b40.1 b40.2)
  have d3 := Wi.within_bd n 0 3 (by omega)
  have d9 := Wi.within_bd (n.tdiv 4) 0 9 (by omega)
  have d6 := Wi.within_bd (n.tdiv 4) 0 6 (by omega)
  have e9 := Wi.within_bd (n.tdiv 40) 0 9 (by omega)
  have KD : kdOf n = if Wi.within n 0 3 = 0 ∨ Wi.within n 0 3 = 1 then .rg (Wi.within (n.tdiv 4) 0 9) (Wi.within (n.tdiv 4) 0 9 + Wi.within (n.tdiv 40) 0 9) else if Wi.within n 0 3 = 2 then .tx (txtAt (Wi.within (n.tdiv 4) 0 6)) else .pr (txtAt (Wi.within (n.tdiv 4) 0 6)) := rfl
  have TX := Lib.hid (txts_at (Wi.within (n.tdiv 4) 0 6) d6.1 d6.2)
  generalize Wi.within n 0 3 = r at *
  generalize Wi.within (n.tdiv 4) 0 9 = p at *
  generalize Wi.within (n.tdiv 4) 0 6 = q at *
  generalize Wi.within (n.tdiv 40) 0 9 = s at *
  have hs : IntKind.i64.wrap (p + s) = p + s := IntWalk.i64_in _ (by omega)
  have hr : r = 0 ∨ r = 1 ∨ r = 2 ∨ r = 3 := by omega
  have D6 := Lib.hid d6
  clear b4 b40 h1 h2 d3 d9 e9 d6
  rcases hr with rfl | rfl | rfl | rfl
  · have K := Lib.hid (show kdOf n = .rg p (p + s) by rw [KD]; rfl)
    clear KD
    go_enter Try.func22, Try.ntmps22
    go_wp2_with fail
    refine (W3.out _).mono ?_
    rintro e1 w1 ⟨rfl, rfl⟩
    go_wp2_with fail
    refine (W9.out _).mono ?_
    rintro e2 w2 ⟨rfl, rfl⟩
    go_wp2_with fail
    go_region_with (go_at_call 37; refine (V9.out _).mono ?_; rintro e w' ⟨rfl, rfl⟩)
    all_goals go_wp2_with fail
    all_goals exact bodyPost_ret (v := cv (r5 (nm_, .rg p (p + s)))) (by simp [results, Try.results22, go_sem, r5, kN, kLo, kHi, kT]) rfl ⟨by rw [K.out], (((Below.refl _ _).alloc (Nat.le_refl _) _).alloc (by simp) _).drew⟩
  · have K := Lib.hid (show kdOf n = .rg p (p + s) by rw [KD]; rfl)
    clear KD
    go_enter Try.func22, Try.ntmps22
    go_wp2_with fail
    refine (W3.out _).mono ?_
    rintro e1 w1 ⟨rfl, rfl⟩
    go_wp2_with fail
    refine (W9.out _).mono ?_
    rintro e2 w2 ⟨rfl, rfl⟩
    go_wp2_with fail
    go_region_with (go_at_call 37; refine (V9.out _).mono ?_; rintro e w' ⟨rfl, rfl⟩)
    all_goals go_wp2_with fail
    all_goals exact bodyPost_ret (v := cv (r5 (nm_, .rg p (p + s)))) (by simp [results, Try.results22, go_sem, r5, kN, kLo, kHi, kT]) rfl ⟨by rw [K.out], (((Below.refl _ _).alloc (Nat.le_refl _) _).alloc (by simp) _).drew⟩
  · have K := Lib.hid (show kdOf n = .tx (txtAt q) by rw [KD]; rfl)
    have tx := TX.out
    have d6 := D6.out
    have d61 := d6.1
    have d62 : q < 7 := by omega
    clear KD d6
    go_enter Try.func22, Try.ntmps22
    go_wp2_with fail
    refine (W3.out _).mono ?_
    rintro e1 w1 ⟨rfl, rfl⟩
    go_wp2_with fail
    go_region_with (first | (go_at_call 37; refine (W6.out _).mono ?_; rintro e w' ⟨rfl, rfl⟩) | (go_at_call 38; refine (texts_any _).mono ?_; rintro e w' ⟨rfl, rfl⟩))
    all_goals go_wp2_with fail
    all_goals exact bodyPost_ret (v := cv (r5 (nm_, .tx (txtAt q)))) (by simp [results, Try.results22, go_sem, r5, kN, kLo, kHi, kT]) rfl ⟨by rw [K.out], ((((Below.refl _ _).alloc (Nat.le_refl _) _).alloc (by simp) _).alloc (by simp; omega) _).drew⟩
  · have K := Lib.hid (show kdOf n = .pr (txtAt q) by rw [KD]; rfl)
    have tx := TX.out
    have d6 := D6.out
    have d61 := d6.1
    have d62 : q < 7 := by omega
    clear KD d6
    go_enter Try.func22, Try.ntmps22
    go_wp2_with fail
    refine (W3.out _).mono ?_
    rintro e1 w1 ⟨rfl, rfl⟩
    go_wp2_with fail
    go_region_with (first | (go_at_call 37; refine (W6.out _).mono ?_; rintro e w' ⟨rfl, rfl⟩) | (go_at_call 38; refine (texts_any _).mono ?_; rintro e w' ⟨rfl, rfl⟩))
    all_goals go_wp2_with fail
    all_goals exact bodyPost_ret (v := cv (r5 (nm_, .pr (txtAt q)))) (by simp [results, Try.results22, go_sem, r5, kN, kLo, kHi, kT]) rfl ⟨by rw [K.out], ((((Below.refl _ _).alloc (Nat.le_refl _) _).alloc (by simp) _).alloc (by simp; omega) _).drew⟩
end Go.Proofs.Ytdomincmoaahoaa.Pr

namespace Go.Proofs.Ytdomincmoaahoaa.Pr
open Go.RowKit Go.Proofs.Ytdomincmoaahoaa Go.Proofs.Ytdomincmoaahoaa.Pu Go.Proofs.Ytdomincmoaahoaa.Rw Go.Proofs.Ytdomincmoaahoaa.Va Go.Proofs.Ytdomincmoaahoaa.Kp Go.Proofs.Ytdomincmoaahoaa.In

/-- The predicate that numbers make, up to place i. -/
def prd (has vals : List Int) : Nat → List Cn
  | 0 => []
  | i + 1 => if i < has.length ∧ odd (has.getD i 0) = true ∧ (prd has vals i).length < 5 then prd has vals i ++ [(nm i, kdOf (pickZ vals i))] else prd has vals i
theorem prd_len (has vals : List Int) : ∀ k, (prd has vals k).length ≤ k
  | 0 => Nat.le_refl _
  | k + 1 => by
    have h := prd_len has vals k
    simp only [prd]
    split
    · simp; omega
    · omega
theorem prd_five (has vals : List Int) : ∀ k, (prd has vals k).length ≤ 5
  | 0 => by simp [prd]
  | k + 1 => by
    have h := prd_five has vals k
    simp only [prd]
    split
    · rename_i hc; simp; omega
    · exact h
theorem prd_names (has vals : List Int) : ∀ k, ∀ x ∈ prd has vals k, ∃ i, i < k ∧ x.1 = nm i
  | 0, x, h => by simp [prd] at h
  | k + 1, x, h => by
    simp only [prd] at h
    split at h
    · rcases List.mem_append.1 h with h | h
      · obtain ⟨i, h1, h2⟩ := prd_names has vals k x h
        exact ⟨i, by omega, h2⟩
      · simp at h
        exact ⟨k, by omega, by rw [h]⟩
    · obtain ⟨i, h1, h2⟩ := prd_names has vals k x h
      exact ⟨i, by omega, h2⟩
theorem prd_good (has vals : List Int) : ∀ k, ∀ x ∈ prd has vals k, goodK x.2 = true
  | 0, x, h => by simp [prd] at h
  | k + 1, x, h => by
    simp only [prd] at h
    split at h
    · rcases List.mem_append.1 h with h | h
      · exact prd_good has vals k x h
      · simp at h
        rw [h]; exact kdOf_good _
    · exact prd_good has vals k x h
theorem nm_less (i j : Nat) (h : i < j) (hj : j < 7) : Op.bytesLess (nm i).toList (nm j).toList = true := by
  rw [ByteArray.toList_eq, ByteArray.toList_eq]
  have : ∀ j : Fin 7, ∀ i : Fin 7, i.val < j.val → Op.bytesLess (nm i.val).data.toList (nm j.val).data.toList = true := by decide
  exact this ⟨j, hj⟩ ⟨i, by omega⟩ h
theorem prd_rise (has vals : List Int) : ∀ k, k ≤ 7 → RiseC (prd has vals k)
  | 0, _ => by simp [prd, RiseC]
  | k + 1, hk => by
    have h := prd_rise has vals k (by omega)
    simp only [prd]
    split
    · refine List.pairwise_append.2 ⟨h, List.pairwise_singleton _ _, fun x hx y hy => ?_⟩
      obtain ⟨i, h1, h2⟩ := prd_names has vals k x hx
      simp at hy
      rw [hy, h2]
      exact nm_less i k h1 (by omega)
    · exact h
theorem row_oneC (w : World) (c : C5) : RowC (w.alloc (.cells #[.string c.1, .int .i64 c.2.1, .int .i64 c.2.2.1, .int .i64 c.2.2.2.1, .string c.2.2.2.2] 23)) (.slice (some ⟨w.heap.size, 0, none⟩) 1 1) [c] :=
  Row.of_own (row_lit okC w [c] 1 rfl (by simp) _ rfl)

set_option maxRecDepth 100000 in
set_option maxHeartbeats 4000000 in
theorem pred_any (hv vv : Value) (has vals : List Int) (w : World) (hh : InInts w hv has) (hw : InInts w vv vals) (lh : has.length ≤ maxLen) (lv : vals.length ≤ maxLen) :
    Calls Try.prog 12 #[.agg #[hv, vv]] w fun e w' => ∃ v, e = .returned v ∧ OwnC w' w.heap.size v ((prd has vals 7).map r5) ∧ Below w.heap.size w w' := by
  have HH := Lib.hid hh
  have HW := Lib.hid hw
  have LH := Lib.hid lh
  have LV := Lib.hid lv
  clear hh hw lh lv
  go_enter Try.func12, Try.ntmps12
  go_wp2_with fail
  refine (names_any _).mono ?_
  rintro e1 w1 ⟨rfl, rfl⟩
  go_wp2
  go_loopw [3, 8] (fun lv i wr => ∃ k : Nat, k ≤ 7 ∧ i = .int .i64 k ∧ OwnC wr (w.heap.size + 2) lv ((prd has vals k).map r5) ∧
    Below (w.heap.size + 2) ((w.alloc (.cells #[hv, vv] 29)).alloc (.cells nmCells 9)) wr) (fun _ i _ => 7 - (intOf i).toNat)
  case atStart => exact ⟨0, by omega, rfl, own_nil _ _, Below.refl _ _⟩
  case round =>
    obtain ⟨k, hk, rfl, hown, hb⟩ := hrel
    have HO := Lib.hid hown
    have HB := Lib.hid hb
    have T0 : Below w.heap.size w ((w.alloc (.cells #[hv, vv] 29)).alloc (.cells nmCells 9)) := ((Below.refl _ _).alloc (Nat.le_refl _) _).alloc (by simp) _
    have BW := Lib.hid (T0.trans (hb.mono (by omega)))
    have hsz : w.heap.size + 2 ≤ wr.heap.size := by have := hb.size; simp at this; omega
    clear T0
    obtain ⟨ro, rcap, hrl⟩ := (Row.of_own hown).len
    rw [List.length_map] at hrl
    have hl5 := prd_len has vals k
    by_cases h7 : k < 7
    · have n0 : wr.cell? ⟨w.heap.size + 1, k, none⟩ = some (.string (nm k)) := by
        rw [hb.cell (p := ⟨w.heap.size + 1, k, none⟩) (by simp), World.cell?_alloc_at _ _ _ _ (by simp)]; exact nm_at k h7
      have b0 : wr.cell? ⟨w.heap.size, 0, none⟩ = some hv := by
        rw [hb.cell (p := ⟨w.heap.size, 0, none⟩) (by simp), World.cell?_alloc_lt _ _ _ (by simp), World.cell?_alloc_at _ _ _ _ rfl]; rfl
      have b1 : wr.cell? ⟨w.heap.size, 1, none⟩ = some vv := by
        rw [hb.cell (p := ⟨w.heap.size, 1, none⟩) (by simp), World.cell?_alloc_lt _ _ _ (by simp), World.cell?_alloc_at _ _ _ _ rfl]; rfl
      have IH := Lib.hid (HH.out.on BW.out)
      obtain ⟨ao, acap, hsh⟩ := HH.out.shape
      clear hb hown
      subst hsh
      subst hrl
      have hkk : (k : Int) < 7 := by omega
      by_cases h1 : k < has.length
      · obtain ⟨y, hy⟩ : ∃ y, has[k]? = some y := ⟨_, List.getElem?_eq_getElem h1⟩
        have hg : has.getD k 0 = y := by rw [List.getD_eq_getElem?_getD, hy]; rfl
        obtain ⟨_, p, _, hix, hpc⟩ := IH.out.at_ k y hy
        cases ho : odd y
        · have T := Lib.hid (show prd has vals (k + 1) = prd has vals k by simp only [prd]; rw [if_neg]; rintro ⟨_, h2, _⟩; rw [hg, ho] at h2; cases h2)
          have hodd : (bits BinOp.and IntKind.i64 y 1 == 1) = false := ho
          clear ho hy hg
          go_wp2
          go_roundw
          case rel => exact ⟨k + 1, by omega, by go_num, by rw [T.out]; exact HO.out, HB.out⟩
          case measure => simp [intOf]; omega
        · have hodd : (bits BinOp.and IntKind.i64 y 1 == 1) = true := ho
          by_cases h5 : (prd has vals k).length < 5
          · have T := Lib.hid (show (prd has vals (k + 1)).map r5 = (prd has vals k).map r5 ++ [r5 (nm k, kdOf (pickZ vals k))] by simp only [prd]; rw [if_pos ⟨h1, by rw [hg, ho], h5⟩, List.map_append]; rfl)
            have PK := Lib.hid (fun (W : World) (hW : Below w.heap.size w W) => pick_any vv vals k W (HW.out.on hW) LV.out (by omega))
            have bd := pickZ_bd HW.out k
            have KV := Lib.hid (fun W => constraint_any (nm k) (pickZ vals k) W bd.1 bd.2)
            clear ho hy hg bd
            go_wp2_with fail
            refine (PK.out _ BW.out).mono ?_
            rintro e1 w1 ⟨rfl, rfl⟩
            go_wp2_with fail
            refine (KV.out _).mono ?_
            rintro e2 w2 ⟨rfl, hb2⟩
            have B2 := Lib.hid hb2
            have O2 := Lib.hid (own_on HO.out hb2)
            have hs2 := hb2.size
            clear hb2
            generalize r5 (nm k, kdOf (pickZ vals k)) = c at T ⊢
            have O3a := Lib.hid (O2.out.alloc (.cells #[.string c.1, .int .i64 c.2.1, .int .i64 c.2.2.1, .int .i64 c.2.2.2.1, .string c.2.2.2.2] 23))
            obtain ⟨v3, w3, r3, o3, g3⟩ := app_row okC (w.heap.size + 2) O3a.out (row_oneC w2 c) (by simp; omega) (by simp) (by simp; omega) 25
            have O3 := Lib.hid o3
            have hbel : Below (w.heap.size + 2) wr w3 := ((B2.out.mono hsz).alloc (by omega) _).grown g3 (by simp; omega) (fun j hj => (O3a.out.lt j hj).1)
            have B3 := Lib.hid (HB.out.trans hbel)
            clear o3 g3 hbel
            go_wp2_with (first | (at_builtin; refine wpList_append_run rfl _ _ 25 rfl rfl rfl r3 ?_) | fail)
            clear r3
            go_wp2
            go_roundw
            case rel => exact ⟨k + 1, by omega, by go_num, by rw [T.out]; exact O3.out, B3.out⟩
            case measure => simp [intOf]; omega
          · have T := Lib.hid (show prd has vals (k + 1) = prd has vals k by simp only [prd]; rw [if_neg]; rintro ⟨_, _, h2⟩; exact h5 h2)
            clear ho hy hg
            go_wp2
            go_roundw
            case rel => exact ⟨k + 1, by omega, by go_num, by rw [T.out]; exact HO.out, HB.out⟩
            case measure => simp [intOf]; omega
      · have T := Lib.hid (show prd has vals (k + 1) = prd has vals k by simp only [prd]; rw [if_neg]; rintro ⟨h2, _⟩; exact h1 h2)
        go_wp2
        go_roundw
        case rel => exact ⟨k + 1, by omega, by go_num, by rw [T.out]; exact HO.out, HB.out⟩
        case measure => simp [intOf]; omega
    · obtain rfl : k = 7 := by omega
      clear hb hown
      go_wp2
      go_ret
      exact ⟨_, rfl, own_less (by omega) HO.out, BW.out⟩
end Go.Proofs.Ytdomincmoaahoaa.Pr

namespace Go.Proofs.Ytdomincmoaahoaa.Pr
open Go.RowKit Go.Proofs.Ytdomincmoaahoaa Go.Proofs.Ytdomincmoaahoaa.Pu Go.Proofs.Ytdomincmoaahoaa.Rw Go.Proofs.Ytdomincmoaahoaa.Va Go.Proofs.Ytdomincmoaahoaa.Kp

/-- Sizes that every law keeps to. -/
def smallC (c : Cn) : Prop := c.1.size ≤ 100 ∧ (kT c.2).size ≤ 100 ∧ (-9223372036854775808 ≤ kLo c.2 ∧ kLo c.2 ≤ 9223372036854775807) ∧ (-9223372036854775808 ≤ kHi c.2 ∧ kHi c.2 ≤ 9223372036854775807)
def SmallP (l : List Cn) : Prop := l.length ≤ 100 ∧ ∀ c ∈ l, smallC c
/-- What a right predicate of numbers is. -/
structure NF (l : List Cn) : Prop where
  rise : RiseC l
  five : l.length ≤ 5
  good : ∀ c ∈ l, goodC c = true
  small : ∀ c ∈ l, smallC c
theorem NF.goodK {l : List Cn} (h : NF l) : ∀ c ∈ l, Pr.goodK c.2 = true := fun c hc => by
  have := h.good c hc
  simp only [goodC, Bool.and_eq_true] at this
  exact this.2
theorem NF.names {l : List Cn} (h : NF l) : ∀ c ∈ l, c.1.data.toList.all letB = true := fun c hc => by
  have := h.good c hc
  simp only [goodC, nameB, Bool.and_eq_true] at this
  exact this.1.1
theorem NF.smallP {l : List Cn} (h : NF l) : SmallP l := ⟨by have := h.five; omega, h.small⟩
theorem nameB_nm (i : Nat) (h : i < 7) : nameB (nm i) = true := by
  match i, h with
  | 0, _ => decide
  | 1, _ => decide
  | 2, _ => decide
  | 3, _ => decide
  | 4, _ => decide
  | 5, _ => decide
  | 6, _ => decide
theorem nm_size (i : Nat) : (nm i).size = 1 := rfl
theorem kd_small (n : Int) : (kT (kdOf n)).size ≤ 100 ∧ (-9223372036854775808 ≤ kLo (kdOf n) ∧ kLo (kdOf n) ≤ 9223372036854775807) ∧ (-9223372036854775808 ≤ kHi (kdOf n) ∧ kHi (kdOf n) ≤ 9223372036854775807) := by
  have h1 := Wi.within_bd (n.tdiv 4) 0 9 (by omega)
  have h2 := Wi.within_bd (n.tdiv 40) 0 9 (by omega)
  have ht : (tx6 n).size ≤ 3 := txt_size _
  unfold kdOf lo9
  split
  · refine ⟨by show (0 : Nat) ≤ 100; omega, ?_, ?_⟩ <;> simp only [kLo, kHi] <;> omega
  · split
    · refine ⟨by show (tx6 n).size ≤ 100; omega, ?_, ?_⟩ <;> simp only [kLo, kHi] <;> omega
    · refine ⟨by show (tx6 n).size ≤ 100; omega, ?_, ?_⟩ <;> simp only [kLo, kHi] <;> omega
theorem prd_small (has vals : List Int) : ∀ k, ∀ x ∈ prd has vals k, smallC x
  | 0, x, h => by simp [prd] at h
  | k + 1, x, h => by
    simp only [prd] at h
    split at h
    · rcases List.mem_append.1 h with h | h
      · exact prd_small has vals k x h
      · simp at h
        rw [h]
        exact ⟨by show (nm k).size ≤ 100; rw [nm_size]; omega, kd_small _⟩
    · exact prd_small has vals k x h
theorem prd_nf (has vals : List Int) : NF (prd has vals 7) :=
  ⟨prd_rise has vals 7 (Nat.le_refl _), prd_five has vals 7, fun c hc => by
    obtain ⟨i, h1, h2⟩ := prd_names has vals 7 c hc
    simp only [goodC, Bool.and_eq_true]
    exact ⟨by rw [h2]; exact nameB_nm i h1, prd_good has vals 7 c hc⟩, prd_small has vals 7⟩
theorem r5_inj {a b : Cn} (h : r5 a = r5 b) : a = b := by
  obtain ⟨n, a⟩ := a
  obtain ⟨m, b⟩ := b
  simp only [r5, Prod.mk.injEq] at h
  obtain ⟨rfl, h1, h2, h3, h4⟩ := h
  cases a <;> cases b <;> simp [kN, kLo, kHi, kT] at h1 h2 h3 h4 <;> simp [*]
theorem map_r5_inj : ∀ {l m : List Cn}, l.map r5 = m.map r5 → l = m
  | [], [], _ => rfl
  | [], y :: m, h => by simp at h
  | x :: l, [], h => by simp at h
  | x :: l, y :: m, h => by
    simp only [List.map_cons, List.cons.injEq] at h
    rw [r5_inj h.1, map_r5_inj h.2]
end Go.Proofs.Ytdomincmoaahoaa.Pr

namespace Go.Proofs.Ytdomincmoaahoaa.Pr
open Go.RowKit Go.Sort Go.Proofs.Ytdomincmoaahoaa Go.Proofs.Ytdomincmoaahoaa.Pu Go.Proofs.Ytdomincmoaahoaa.Rw Go.Proofs.Ytdomincmoaahoaa.Va

/-- Are the lists the same? -/
def sameC : List C5 → List C5 → Bool
  | [], [] => true
  | x :: l, y :: m => eqlC x y && sameC l m
  | _, _ => false
theorem sameC_len : ∀ l m, sameC l m = true → l.length = m.length
  | [], [], _ => rfl
  | x :: l, y :: m, h => by
    simp only [sameC, Bool.and_eq_true] at h
    simp [sameC_len l m h.2]
  | [], y :: m, h => by simp [sameC] at h
  | x :: l, [], h => by simp [sameC] at h
theorem sameC_all : ∀ l m, l.length = m.length → (∀ (k : Nat) (x y : C5), l[k]? = some x → m[k]? = some y → eqlC x y = true) → sameC l m = true
  | [], [], _, _ => rfl
  | x :: l, y :: m, hl, h => by
    simp only [sameC, Bool.and_eq_true]
    exact ⟨h 0 x y rfl rfl, sameC_all l m (by simpa using hl) (fun k a b ha hb => h (k + 1) a b (by simpa using ha) (by simpa using hb))⟩
  | [], y :: m, hl, _ => by simp at hl
  | x :: l, [], hl, _ => by simp at hl
theorem sameC_not : ∀ (l m : List C5) (k : Nat) (x y : C5), l[k]? = some x → m[k]? = some y → eqlC x y = false → sameC l m = false
  | [], _, k, x, y, h, _, _ => by simp at h
  | _ :: _, [], k, x, y, _, h, _ => by simp at h
  | a :: l, b :: m, 0, x, y, h1, h2, h3 => by
    simp at h1 h2
    subst h1 h2
    simp [sameC, h3]
  | a :: l, b :: m, k + 1, x, y, h1, h2, h3 => by
    simp only [sameC, sameC_not l m k x y (by simpa using h1) (by simpa using h2) h3, Bool.and_false]
theorem sameC_iff : ∀ l m : List C5, sameC l m = true ↔ l = m
  | [], [] => by simp [sameC]
  | x :: l, y :: m => by
    simp only [sameC, Bool.and_eq_true, eqlC_iff, sameC_iff l m, List.cons.injEq]
  | [], y :: m => by simp [sameC]
  | x :: l, [] => by simp [sameC]
theorem sameC_refl (l : List C5) : sameC l l = true := (sameC_iff l l).2 rfl

set_option maxRecDepth 100000 in
set_option maxHeartbeats 4000000 in
theorem sameC_any (av_ bv : Value) (l m : List C5) (w : World) (ha : RowC w av_ l) (hb : RowC w bv m) (hl : l.length ≤ 1000000) (_hm : m.length ≤ 1000000) :
    Calls Try.prog 21 #[av_, bv] w fun e w' => e = .returned (.bool (sameC l m)) ∧ Below w.heap.size w w' := by
  have HA := Lib.hid ha
  have HB := Lib.hid hb
  obtain ⟨ao, ac, rfl⟩ := ha.len
  obtain ⟨bo, bc, rfl⟩ := hb.len
  clear ha hb
  by_cases hlen : l.length = m.length
  · have HL := Lib.hid hlen
    rw [← hlen] at HB ⊢
    generalize hn : l.length = n at *
    have HN := Lib.hid hn
    clear hlen hn
    go_enter Try.func21, Try.ntmps21
    go_wp2
    go_loopw [5] (fun i wr => ∃ k : Nat, k ≤ n ∧ i = .int .i64 k ∧ Below w.heap.size w wr ∧ ∀ (j : Nat) (x y : C5), j < k → l[j]? = some x → m[j]? = some y → eqlC x y = true) (fun i _ => n - (intOf i).toNat)
    case atStart => exact ⟨0, Nat.zero_le _, rfl, Below.refl _ _, fun j x y h => by omega⟩
    case round =>
      obtain ⟨k, hk, rfl, hbe, hall⟩ := hrel
      have BE := Lib.hid hbe
      have AL := Lib.hid hall
      clear hbe hall
      by_cases hlt : k < n
      · obtain ⟨x, hx⟩ : ∃ x, l[k]? = some x := ⟨_, List.getElem?_eq_getElem (by rw [HN.out]; exact hlt)⟩
        obtain ⟨y, hy⟩ : ∃ y, m[k]? = some y := ⟨_, List.getElem?_eq_getElem (by rw [← HL.out]; exact hlt)⟩
        obtain ⟨p, ix, px⟩ := elC HA.out rfl HN.out hx
        obtain ⟨q, iy, py⟩ := elC HB.out rfl HL.out.symm hy
        have p0 := cell_regrown (px _ BE.out).1
        have p1 := cell_regrown (px _ BE.out).2.1
        have p2 := cell_regrown (px _ BE.out).2.2.1
        have p3 := cell_regrown (px _ BE.out).2.2.2.1
        have p4 := cell_regrown (px _ BE.out).2.2.2.2
        have q0 := cell_regrown (py _ BE.out).1
        have q1 := cell_regrown (py _ BE.out).2.1
        have q2 := cell_regrown (py _ BE.out).2.2.1
        have q3 := cell_regrown (py _ BE.out).2.2.2.1
        have q4 := cell_regrown (py _ BE.out).2.2.2.2
        clear px py
        obtain ⟨r, hr⟩ : ∃ r, eqlC x y = r := ⟨_, rfl⟩
        have hne := neqC x y r hr
        have HX := Lib.hid hx
        have HY := Lib.hid hy
        have HR := Lib.hid hr
        clear hx hy hr
        cases r
        · have R := Lib.hid (show sameC l m = false from sameC_not l m k x y HX.out HY.out HR.out)
          go_wp2
          refine wp_region_quiet_below (by kernel_rfl) (by kernel_rfl) ?_
          repeat (go_big_quiet_step (fail))
          refine wpQuiet_nil ?_
          intro _ hw'
          obtain ⟨⟨dq, osq⟩, hw''⟩ := hw'
          subst hw''
          go_wp2
          go_ret
          exact ⟨ret_bool R.out.symm, BE.out.trans ((below_regrown wr dq osq).mono BE.out.size)⟩
        · go_wp2
          refine wp_region_quiet_below (by kernel_rfl) (by kernel_rfl) ?_
          repeat (go_big_quiet_step (fail))
          refine wpQuiet_nil ?_
          intro _ hw'
          obtain ⟨⟨dq, osq⟩, hw''⟩ := hw'
          subst hw''
          clear ix iy p0 p1 p2 p3 p4 q0 q1 q2 q3 q4 hne
          go_wp2
          go_roundw
          case rel => exact ⟨k + 1, by omega, by go_num, BE.out.trans ((below_regrown wr dq osq).mono BE.out.size), fun j x' y' hj h1 h2 => by
            rcases Nat.lt_or_ge j k with h3 | h3
            · exact AL.out j x' y' h3 h1 h2
            · obtain rfl : j = k := by omega
              have e1 := HX.out
              have e2 := HY.out
              rw [h1] at e1
              rw [h2] at e2
              rw [Option.some.inj e1, Option.some.inj e2]
              exact HR.out⟩
          case measure => simp [intOf]; omega
      · obtain rfl : k = n := by omega
        have R := Lib.hid (show sameC l m = true from sameC_all l m (by rw [HN.out]; exact HL.out) (fun j a b h1 h2 => AL.out j a b (by have := (List.getElem?_eq_some_iff.1 h1).1; have := HN.out; omega) h1 h2))
        go_wp2
        go_ret
        exact ⟨ret_bool R.out.symm, BE.out⟩
  · have R := Lib.hid (show sameC l m = false by
      cases h : sameC l m
      · rfl
      · exact absurd (sameC_len _ _ h) hlen)
    have hne : (((l.length : Nat) : Int) != ((m.length : Nat) : Int)) = true := by simp; omega
    have hne2 : (((l.length : Nat) : Int) == ((m.length : Nat) : Int)) = false := by simp; omega
    clear hlen
    go_enter Try.func21, Try.ntmps21
    go_wp2
    go_ret
    exact ⟨ret_bool R.out.symm, Below.refl _ _⟩

end Go.Proofs.Ytdomincmoaahoaa.Pr
