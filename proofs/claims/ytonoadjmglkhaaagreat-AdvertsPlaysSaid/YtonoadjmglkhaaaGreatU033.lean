/-
  Pred of the statements' own package: a right predicate of numbers. Condition: numbers of 64 bits; lists no longer than a machine holds.
  Plain facts on how predicates are to each other: match, meet, cover. No program in it.
-/
import Derived.Test.YtonoadjmglkhaaaGreatU032
import Derived.Test.YtonoadjmglkhaaaGreatU001
namespace Go.Proofs.YtonoadjmglkhaaaGreat.Pr
open Go.RowKit Go.Proofs.YtonoadjmglkhaaaGreat Go.Proofs.YtonoadjmglkhaaaGreat.Pu Go.Proofs.YtonoadjmglkhaaaGreat.Rw Go.Proofs.YtonoadjmglkhaaaGreat.Va Go.Proofs.YtonoadjmglkhaaaGreat.Kp Go.Proofs.YtonoadjmglkhaaaGreat.In

/-- The predicate that numbers make, up to place i. -/
def prd (has vals : List Int) : Nat → List Cn
  | 0 => []
  | i + 1 => if i < has.length ∧ odd (has.getD i 0) = true ∧ (prd has vals i).length < 5 then prd has vals i ++ [(nm i, kdOf (pickZ vals i))] else prd has vals i
theorem prd_len (has vals : List Int) : ∀ k, (prd has vals k).length ≤ k
  | 0 => Nat.le_refl _
  | k + 1 => by
    have h := prd_len has vals k
    simp only [prd]
    split
    · simp; omega
    · omega
theorem prd_five (has vals : List Int) : ∀ k, (prd has vals k).length ≤ 5
  | 0 => by simp [prd]
  | k + 1 => by
    have h := prd_five has vals k
    simp only [prd]
    split
    · rename_i hc; simp; omega
    · exact h
theorem prd_names (has vals : List Int) : ∀ k, ∀ x ∈ prd has vals k, ∃ i, i < k ∧ x.1 = nm i
  | 0, x, h => by simp [prd] at h
  | k + 1, x, h => by
    simp only [prd] at h
    split at h
    · rcases List.mem_append.1 h with h | h
      · obtain ⟨i, h1, h2⟩ := prd_names has vals k x h
        exact ⟨i, by omega, h2⟩
      · simp at h
        exact ⟨k, by omega, by rw [h]⟩
    · obtain ⟨i, h1, h2⟩ := prd_names has vals k x h
      exact ⟨i, by omega, h2⟩
theorem prd_good (has vals : List Int) : ∀ k, ∀ x ∈ prd has vals k, goodK x.2 = true
  | 0, x, h => by simp [prd] at h
  | k + 1, x, h => by
    simp only [prd] at h
    split at h
    · rcases List.mem_append.1 h with h | h
      · exact prd_good has vals k x h
      · simp at h
        rw [h]; exact kdOf_good _
    · exact prd_good has vals k x h
theorem nm_less (i j : Nat) (h : i < j) (hj : j < 7) : Op.bytesLess (nm i).toList (nm j).toList = true := by
  rw [ByteArray.toList_eq, ByteArray.toList_eq]
  have : ∀ j : Fin 7, ∀ i : Fin 7, i.val < j.val → Op.bytesLess (nm i.val).data.toList (nm j.val).data.toList = true := by decide
  exact this ⟨j, hj⟩ ⟨i, by omega⟩ h
theorem prd_rise (has vals : List Int) : ∀ k, k ≤ 7 → RiseC (prd has vals k)
  | 0, _ => by simp [prd, RiseC]
  | k + 1, hk => by
    have h := prd_rise has vals k (by omega)
    simp only [prd]
    split
    · refine List.pairwise_append.2 ⟨h, List.pairwise_singleton _ _, fun x hx y hy => ?_⟩
      obtain ⟨i, h1, h2⟩ := prd_names has vals k x hx
      simp at hy
      rw [hy, h2]
      exact nm_less i k h1 (by omega)
    · exact h
theorem row_oneC (w : World) (c : C5) : RowC (w.alloc (.cells #[.string c.1, .int .i64 c.2.1, .int .i64 c.2.2.1, .int .i64 c.2.2.2.1, .string c.2.2.2.2] 62)) (.slice (some ⟨w.heap.size, 0, none⟩) 1 1) [c] :=
  Row.of_own (row_lit okC w [c] 1 rfl (by simp) _ rfl)

set_option maxRecDepth 100000 in
set_option maxHeartbeats 4000000 in
theorem pred_any (hv vv : Value) (has vals : List Int) (w : World) (hh : InInts w hv has) (hw : InInts w vv vals) (lh : has.length ≤ maxLen) (lv : vals.length ≤ maxLen) :
    Calls Tryz.prog 9 #[.agg #[hv, vv]] w fun e w' => ∃ v, e = .returned v ∧ OwnC w' w.heap.size v ((prd has vals 7).map r5) ∧ Below w.heap.size w w' := by
  have HH := Lib.hid hh
  have HW := Lib.hid hw
  have LH := Lib.hid lh
  have LV := Lib.hid lv
  clear hh hw lh lv
  go_enter Tryz.func9, Tryz.ntmps9
  go_wp2_with fail
  refine (names_any _).mono ?_
  rintro e1 w1 ⟨rfl, rfl⟩
  go_wp2
  go_loopw [3, 8] (fun lv i wr => ∃ k : Nat, k ≤ 7 ∧ i = .int .i64 k ∧ OwnC wr (w.heap.size + 2) lv ((prd has vals k).map r5) ∧
    Below (w.heap.size + 2) ((w.alloc (.cells #[hv, vv] 32)).alloc (.cells nmCells 9)) wr) (fun _ i _ => 7 - (intOf i).toNat)
  case atStart => exact ⟨0, by omega, rfl, own_nil _ _, Below.refl _ _⟩
  case round =>
    obtain ⟨k, hk, rfl, hown, hb⟩ := hrel
    have HO := Lib.hid hown
    have HB := Lib.hid hb
    have T0 : Below w.heap.size w ((w.alloc (.cells #[hv, vv] 32)).alloc (.cells nmCells 9)) := ((Below.refl _ _).alloc (Nat.le_refl _) _).alloc (by simp) _
    have BW := Lib.hid (T0.trans (hb.mono (by omega)))
    have hsz : w.heap.size + 2 ≤ wr.heap.size := by have := hb.size; simp at this; omega
    clear T0
    obtain ⟨ro, rcap, hrl⟩ := (Row.of_own hown).len
    rw [List.length_map] at hrl
    have hl5 := prd_len has vals k
    by_cases h7 : k < 7
    · have n0 : wr.cell? ⟨w.heap.size + 1, k, none⟩ = some (.string (nm k)) := by
        rw [hb.cell (p := ⟨w.heap.size + 1, k, none⟩) (by simp), World.cell?_alloc_at _ _ _ _ (by simp)]; exact nm_at k h7
      have b0 : wr.cell? ⟨w.heap.size, 0, none⟩ = some hv := by
        rw [hb.cell (p := ⟨w.heap.size, 0, none⟩) (by simp), World.cell?_alloc_lt _ _ _ (by simp), World.cell?_alloc_at _ _ _ _ rfl]; rfl
      have b1 : wr.cell? ⟨w.heap.size, 1, none⟩ = some vv := by
        rw [hb.cell (p := ⟨w.heap.size, 1, none⟩) (by simp), World.cell?_alloc_lt _ _ _ (by simp), World.cell?_alloc_at _ _ _ _ rfl]; rfl
      have IH := Lib.hid (HH.out.on BW.out)
      obtain ⟨ao, acap, hsh⟩ := HH.out.shape
      clear hb hown
      subst hsh
      subst hrl
      have hkk : (k : Int) < 7 := by omega
      by_cases h1 : k < has.length
      · obtain ⟨y, hy⟩ : ∃ y, has[k]? = some y := ⟨_, List.getElem?_eq_getElem h1⟩
        have hg : has.getD k 0 = y := by rw [List.getD_eq_getElem?_getD, hy]; rfl
        obtain ⟨_, p, _, hix, hpc⟩ := IH.out.at_ k y hy
        cases ho : odd y
        · have T := Lib.hid (show prd has vals (k + 1) = prd has vals k by simp only [prd]; rw [if_neg]; rintro ⟨_, h2, _⟩; rw [hg, ho] at h2; cases h2)
          have hodd : (bits BinOp.and IntKind.i64 y 1 == 1) = false := ho
          clear ho hy hg
          go_wp2
          go_roundw
          case rel => exact ⟨k + 1, by omega, by go_num, by rw [T.out]; exact HO.out, HB.out⟩
          case measure => simp [intOf]; omega
        · have hodd : (bits BinOp.and IntKind.i64 y 1 == 1) = true := ho
          by_cases h5 : (prd has vals k).length < 5
          · have T := Lib.hid (show (prd has vals (k + 1)).map r5 = (prd has vals k).map r5 ++ [r5 (nm k, kdOf (pickZ vals k))] by simp only [prd]; rw [if_pos ⟨h1, by rw [hg, ho], h5⟩, List.map_append]; rfl)
            have PK := Lib.hid (fun (W : World) (hW : Below w.heap.size w W) => pick_any vv vals k W (HW.out.on hW) LV.out (by omega))
            have bd := pickZ_bd HW.out k
            have KV := Lib.hid (fun W => constraint_any (nm k) (pickZ vals k) W bd.1 bd.2)
            clear ho hy hg bd
            go_wp2_with fail
            refine (PK.out _ BW.out).mono ?_
            rintro e1 w1 ⟨rfl, rfl⟩
            go_wp2_with fail
            refine (KV.out _).mono ?_
            rintro e2 w2 ⟨rfl, hb2⟩
            have B2 := Lib.hid hb2
            have O2 := Lib.hid (own_on HO.out hb2)
            have hs2 := hb2.size
            clear hb2
            generalize r5 (nm k, kdOf (pickZ vals k)) = c at T ⊢
            have O3a := Lib.hid (O2.out.alloc (.cells #[.string c.1, .int .i64 c.2.1, .int .i64 c.2.2.1, .int .i64 c.2.2.2.1, .string c.2.2.2.2] 62))
            obtain ⟨v3, w3, r3, o3, g3⟩ := app_row okC (w.heap.size + 2) O3a.out (row_oneC w2 c) (by simp; omega) (by simp) (by simp; omega) 39
            have O3 := Lib.hid o3
            have hbel : Below (w.heap.size + 2) wr w3 := ((B2.out.mono hsz).alloc (by omega) _).grown g3 (by simp; omega) (fun j hj => (O3a.out.lt j hj).1)
            have B3 := Lib.hid (HB.out.trans hbel)
            clear o3 g3 hbel
            go_wp2_with (first | (at_builtin; refine wpList_append_run rfl _ _ 39 rfl rfl rfl r3 ?_) | fail)
            clear r3
            go_wp2
            go_roundw
            case rel => exact ⟨k + 1, by omega, by go_num, by rw [T.out]; exact O3.out, B3.out⟩
            case measure => simp [intOf]; omega
          · have T := Lib.hid (show prd has vals (k + 1) = prd has vals k by simp only [prd]; rw [if_neg]; rintro ⟨_, _, h2⟩; exact h5 h2)
            clear ho hy hg
            go_wp2
            go_roundw
            case rel => exact ⟨k + 1, by omega, by go_num, by rw [T.out]; exact HO.out, HB.out⟩
            case measure => simp [intOf]; omega
      · have T := Lib.hid (show prd has vals (k + 1) = prd has vals k by simp only [prd]; rw [if_neg]; rintro ⟨h2, _⟩; exact h1 h2)
        go_wp2
        go_roundw
        case rel => exact ⟨k + 1, by omega, by go_num, by rw [T.out]; exact HO.out, HB.out⟩
        case measure => simp [intOf]; omega
    · obtain rfl : k = 7 := by omega
      clear hb hown
      go_wp2
      go_ret
      exact ⟨_, rfl, own_less (by omega) HO.out, BW.out⟩
end Go.Proofs.YtonoadjmglkhaaaGreat.Pr

namespace Go.Proofs.YtonoadjmglkhaaaGreat.Rl
open Go.RowKit Go.Proofs.YtonoadjmglkhaaaGreat Go.Proofs.YtonoadjmglkhaaaGreat.Pu Go.Proofs.YtonoadjmglkhaaaGreat.Pr

/-- A publication: names and values. -/
abbrev An := ByteArray × V3
def names (m : List Cn) : List ByteArray := m.map (·.1)
def has (m : List Cn) (n : ByteArray) : Bool := m.any fun x => decide (x.1 = n)
theorem has_iff (m : List Cn) (n : ByteArray) : has m n = true ↔ n ∈ names m := by
  simp only [has, names, List.any_eq_true, decide_eq_true_eq, List.mem_map]
/-- How many of the one's names are new to the other. -/
def fresh (m r : List Cn) : Nat := r.countP fun y => !has m y.1
/-- No name at which nothing is left. -/
def Clear (m r : List Cn) : Prop := ∀ x ∈ m, ∀ y ∈ r, x.1 = y.1 → bothK x.2 y.2 ≠ none
def Meets (m r : List Cn) : Prop := Clear m r ∧ m.length + fresh m r ≤ 5
def meetsB (a b : List Cn) : Bool := match foldC a.length a b with
  | .ok _ => true
  | .error _ => false

theorem rise_head {c : Cn} {r : List Cn} (h : RiseC (c :: r)) : ∀ y ∈ r, y.1 ≠ c.1 := fun y hy e => less_ne ((List.pairwise_cons.1 h).1 y hy) e.symm
theorem ins_length : ∀ (m : List Cn) (c : Cn) (m' : List Cn), RiseC m → insC m c = some m' → m'.length = m.length + (if has m c.1 then 0 else 1)
  | [], c, m', _, h => by
    obtain rfl := Option.some.inj h
    rfl
  | x :: r, c, m', hr, h => by
    obtain ⟨h1, h2⟩ := List.pairwise_cons.1 hr
    simp only [insC] at h
    split at h
    · rename_i hl
      cases hi : insC r c with
      | none => rw [hi] at h; cases h
      | some n =>
        rw [hi] at h
        obtain rfl := Option.some.inj h
        have e := ins_length r c n h2 hi
        have hx : has (x :: r) c.1 = has r c.1 := by simp [has, less_ne hl]
        rw [hx]
        simp only [List.length_cons]
        omega
    · rename_i hl
      split at h
      · rename_i he
        cases hb : bothK x.2 c.2 with
        | none => rw [hb] at h; cases h
        | some k =>
          rw [hb] at h
          obtain rfl := Option.some.inj h
          have hx : has (x :: r) c.1 = true := by simp [has, he]
          rw [hx]
          rfl
      · rename_i he
        obtain rfl := Option.some.inj h
        have hx : has (x :: r) c.1 = false := by
          simp only [has, List.any_cons, Bool.or_eq_false_iff, decide_eq_false_iff_not, List.any_eq_false, decide_eq_true_eq]
          refine ⟨he, fun y hy e => ?_⟩
          have h3 := h1 y hy
          rw [e] at h3
          exact hl h3
        rw [hx]
        rfl
/-- What stands there behind an insertion: what stood there, but at the inserted name. -/
theorem ins_mem : ∀ (m : List Cn) (c : Cn) (m' : List Cn), RiseC m → insC m c = some m' → (∀ x, x.1 ≠ c.1 → (x ∈ m' ↔ x ∈ m)) ∧ (∀ n, n ∈ names m' ↔ n = c.1 ∨ n ∈ names m)
  | [], c, m', _, h => by
    obtain rfl := Option.some.inj h
    exact ⟨fun x hx => by simp; intro e; exact hx (by rw [e]), fun n => by simp [names]⟩
  | x :: r, c, m', hr, h => by
    obtain ⟨h1, h2⟩ := List.pairwise_cons.1 hr
    simp only [insC] at h
    split at h
    · cases hi : insC r c with
      | none => rw [hi] at h; cases h
      | some n =>
        rw [hi] at h
        obtain rfl := Option.some.inj h
        obtain ⟨e1, e2⟩ := ins_mem r c n h2 hi
        refine ⟨fun y hy => by rw [List.mem_cons, List.mem_cons, e1 y hy], fun k => ?_⟩
        have := e2 k
        simp only [names, List.map_cons, List.mem_cons] at this ⊢
        rw [this]
        constructor
        · rintro (h | h | h)
          · exact Or.inr (Or.inl h)
          · exact Or.inl h
          · exact Or.inr (Or.inr h)
        · rintro (h | h | h)
          · exact Or.inr (Or.inl h)
          · exact Or.inl h
          · exact Or.inr (Or.inr h)
    · split at h
      · rename_i he
        cases hb : bothK x.2 c.2 with
        | none => rw [hb] at h; cases h
        | some k =>
          rw [hb] at h
          obtain rfl := Option.some.inj h
          refine ⟨fun y hy => ?_, fun n => ?_⟩
          · simp only [List.mem_cons]
            constructor
            · rintro (h | h)
              · exact absurd (by rw [h]; exact he) hy
              · exact Or.inr h
            · rintro (h | h)
              · exact absurd (by rw [h]; exact he) hy
              · exact Or.inr h
          · simp only [names, List.map_cons, List.mem_cons, he]
            constructor
            · rintro (h | h)
              · exact Or.inl h
              · exact Or.inr (Or.inr h)
            · rintro (h | h | h)
              · exact Or.inl h
              · exact Or.inl h
              · exact Or.inr h
      · obtain rfl := Option.some.inj h
        refine ⟨fun y hy => ?_, fun n => ?_⟩
        · simp only [List.mem_cons]
          constructor
          · rintro (h | h)
            · exact absurd (by rw [h]) hy
            · exact h
          · exact Or.inr
        · simp only [names, List.map_cons, List.mem_cons]
theorem ins_none : ∀ (m : List Cn) (c : Cn), RiseC m → (insC m c = none ↔ ∃ x ∈ m, x.1 = c.1 ∧ bothK x.2 c.2 = none)
  | [], c, _ => by simp [insC]
  | x :: r, c, hr => by
    obtain ⟨h1, h2⟩ := List.pairwise_cons.1 hr
    have e := ins_none r c h2
    simp only [insC]
    split
    · rename_i hl
      rw [Option.map_eq_none_iff, e]
      constructor
      · rintro ⟨y, hy, h3⟩
        exact ⟨y, List.mem_cons_of_mem _ hy, h3⟩
      · rintro ⟨y, hy, h3⟩
        rcases List.mem_cons.1 hy with rfl | hy
        · exact absurd h3.1 (less_ne hl)
        · exact ⟨y, hy, h3⟩
    · rename_i hl
      split
      · rename_i he
        rw [Option.map_eq_none_iff]
        constructor
        · intro h
          exact ⟨x, List.mem_cons_self .., he, h⟩
        · rintro ⟨y, hy, h3, h4⟩
          rcases List.mem_cons.1 hy with rfl | hy
          · exact h4
          · have h5 := h1 y hy
            rw [he, h3, VaP.bl_irrefl] at h5
            cases h5
      · rename_i he
        constructor
        · intro h; cases h
        · rintro ⟨y, hy, h3, h4⟩
          rcases List.mem_cons.1 hy with rfl | hy
          · exact absurd h3 he
          · have h5 := h1 y hy
            rw [h3] at h5
            exact absurd h5 hl
theorem fresh_ins {m m' r : List Cn} {c : Cn} (hm : ∀ n, n ∈ names m' ↔ n = c.1 ∨ n ∈ names m) (hr : ∀ y ∈ r, y.1 ≠ c.1) : fresh m' r = fresh m r := by
  unfold fresh
  refine List.countP_congr fun y hy => ?_
  have h1 : has m' y.1 = has m y.1 := by
    rw [Bool.eq_iff_iff, has_iff, has_iff, hm]
    constructor
    · rintro (h | h)
      · exact absurd h (hr y hy)
      · exact h
    · exact Or.inr
  rw [h1]
theorem clear_ins {m m' r : List Cn} {c : Cn} (hm : ∀ x, x.1 ≠ c.1 → (x ∈ m' ↔ x ∈ m)) (hr : ∀ y ∈ r, y.1 ≠ c.1) : Clear m' r ↔ Clear m r := by
  constructor
  · intro h x hx y hy e
    exact h x ((hm x (by rw [e]; exact hr y hy)).2 hx) y hy e
  · intro h x hx y hy e
    exact h x ((hm x (by rw [e]; exact hr y hy)).1 hx) y hy e
/-- The normal form of both can be made just where they meet. -/
theorem fold_meets : ∀ (r m : List Cn) (at_ : Nat), RiseC m → RiseC r → m.length ≤ 5 → ((∃ p, foldC at_ m r = .ok p) ↔ Meets m r)
  | [], m, at_, _, _, h5 => by
    simp only [foldC]
    exact ⟨fun _ => ⟨fun x _ y hy => by simp at hy, by simpa [fresh] using h5⟩, fun _ => ⟨m, rfl⟩⟩
  | c :: r, m, at_, hm, hr, h5 => by
    have hh := rise_head hr
    have hr2 := (List.pairwise_cons.1 hr).2
    simp only [foldC]
    cases hi : insC m c with
    | none =>
      obtain ⟨x, hx, e1, e2⟩ := (ins_none m c hm).1 hi
      constructor
      · rintro ⟨p, hp⟩; cases hp
      · intro h
        exact absurd e2 (h.1 x hx c (List.mem_cons_self ..) e1)
    | some m' =>
      have e1 := ins_length m c m' hm hi
      obtain ⟨e2, e3⟩ := ins_mem m c m' hm hi
      have e4 := (ins_rise m c m' hm hi).1
      have e5 : fresh m (c :: r) = fresh m r + (if has m c.1 then 0 else 1) := by
        unfold fresh
        rw [List.countP_cons]
        cases has m c.1 <;> rfl
      have e6 : Clear m (c :: r) ↔ Clear m r := by
        constructor
        · exact fun h x hx y hy => h x hx y (List.mem_cons_of_mem _ hy)
        · intro h x hx y hy e
          rcases List.mem_cons.1 hy with rfl | hy
          · intro hn
            have := (ins_none m y hm).2 ⟨x, hx, e, hn⟩
            rw [hi] at this
            cases this
          · exact h x hx y hy e
      simp only
      by_cases h6 : 5 < m'.length
      · rw [if_pos h6]
        constructor
        · rintro ⟨p, hp⟩; cases hp
        · intro h
          have h7 := h.2
          rw [e5] at h7
          omega
      · rw [if_neg h6, fold_meets r m' (at_ + 1) e4 hr2 (by omega)]
        unfold Meets
        rw [clear_ins e2 hh, fresh_ins e3 hh, e6, e5, e1]
        constructor
        · rintro ⟨h7, h8⟩; exact ⟨h7, by omega⟩
        · rintro ⟨h7, h8⟩; exact ⟨h7, by omega⟩
theorem meetsB_iff {a b : List Cn} (ha : RiseC a) (hb : RiseC b) (h5 : a.length ≤ 5) : meetsB a b = true ↔ Meets a b := by
  rw [← fold_meets b a a.length ha hb h5]
  unfold meetsB
  cases h : foldC a.length a b with
  | ok p => exact ⟨fun _ => ⟨p, rfl⟩, fun _ => rfl⟩
  | error e =>
    refine ⟨fun h => ?_, ?_⟩
    · cases h
    · rintro ⟨p, hp⟩
      cases hp
/-- Where nothing is left, nothing is left the other way round. -/
theorem both_sym (a b : Kd) (ha : goodK a = true) (hb : goodK b = true) : bothK a b = none → bothK b a = none := by
  intro h
  cases h2 : bothK b a with
  | none => rfl
  | some c =>
    obtain ⟨c1, c2⟩ := both_some b a c hb ha h2
    obtain ⟨v, hv⟩ := some_holds c c1
    rw [c2, Bool.and_comm, both_none a b h v] at hv
    cases hv
theorem clear_sym {m r : List Cn} (gm : ∀ c ∈ m, goodK c.2 = true) (gr : ∀ c ∈ r, goodK c.2 = true) (h : Clear m r) : Clear r m :=
  fun x hx y hy e hn => h y hy x hx e.symm (both_sym _ _ (gr x hx) (gm y hy) hn)
/-- A list of unlike things, all of them in another list, is no longer. -/
theorem nodup_len {α : Type} [DecidableEq α] : ∀ (l m : List α), l.Nodup → (∀ x ∈ l, x ∈ m) → l.length ≤ m.length
  | [], m, _, _ => Nat.zero_le _
  | x :: r, m, hn, hs => by
    obtain ⟨h1, h2⟩ := List.nodup_cons.1 hn
    have hx := hs x (List.mem_cons_self ..)
    have h3 := nodup_len r (m.erase x) h2 fun y hy => (List.mem_erase_of_ne (by rintro rfl; exact h1 hy)).2 (hs y (List.mem_cons_of_mem _ hy))
    rw [List.length_erase_of_mem hx] at h3
    have := List.length_pos_of_mem hx
    simp only [List.length_cons]
    omega
/-- The names of both. -/
def union (m r : List Cn) : List ByteArray := names m ++ (names r).filter fun n => !has m n
theorem union_len (m r : List Cn) : (union m r).length = m.length + fresh m r := by
  unfold union fresh names
  rw [List.length_append, List.length_map, List.countP_eq_length_filter, List.filter_map, List.length_map]
  rfl
theorem union_mem (m r : List Cn) (n : ByteArray) : n ∈ union m r ↔ n ∈ names m ∨ n ∈ names r := by
  unfold union
  rw [List.mem_append, List.mem_filter]
  by_cases h : n ∈ names m
  · exact ⟨fun _ => Or.inl h, fun _ => Or.inl h⟩
  · have h2 : has m n = false := by
      cases h3 : has m n
      · rfl
      · exact absurd ((has_iff m n).1 h3) h
    rw [h2]
    simp
theorem union_nodup {m r : List Cn} (hm : RiseC m) (hr : RiseC r) : (union m r).Nodup := by
  unfold union
  rw [List.nodup_append]
  refine ⟨riseC_nodup hm, (riseC_nodup hr).filter _, fun a ha b hb e => ?_⟩
  have h2 := (List.mem_filter.1 hb).2
  rw [← e, (has_iff m a).2 ha] at h2
  cases h2
theorem Meets.symm {m r : List Cn} (hm : RiseC m) (hr : RiseC r) (gm : ∀ c ∈ m, goodK c.2 = true) (gr : ∀ c ∈ r, goodK c.2 = true) (h : Meets m r) : Meets r m := by
  refine ⟨clear_sym gm gr h.1, ?_⟩
  have h2 := h.2
  rw [← union_len] at h2 ⊢
  exact Nat.le_trans (nodup_len _ _ (union_nodup hr hm) fun n hn => (union_mem m r n).2 ((union_mem r m n).1 hn).symm) h2

/-! ### match -/
def matchL (p : List Cn) (l : List An) : Bool := p.all fun c => l.any fun a => decide (a.1 = c.1) && holdsK c.2 a.2
theorem match_iff (p : List Cn) (l : List An) : matchL p l = true ↔ ∀ c ∈ p, ∃ a ∈ l, a.1 = c.1 ∧ holdsK c.2 a.2 = true := by
  simp only [matchL, List.all_eq_true, List.any_eq_true, Bool.and_eq_true, decide_eq_true_eq]
theorem uniq {l : List An} (h : (l.map (·.1)).Nodup) {x y : An} (hx : x ∈ l) (hy : y ∈ l) (e : x.1 = y.1) : x = y := by
  induction l with
  | nil => cases hx
  | cons z r ih =>
    simp only [List.map_cons, List.nodup_cons] at h
    rcases List.mem_cons.1 hx with rfl | hx2 <;> rcases List.mem_cons.1 hy with rfl | hy2
    · rfl
    · exact absurd (by rw [e]; exact List.mem_map_of_mem hy2) h.1
    · exact absurd (by rw [← e]; exact List.mem_map_of_mem hx2) h.1
    · exact ih h.2 hx2 hy2
theorem uniqC {l : List Cn} (h : RiseC l) {x y : Cn} (hx : x ∈ l) (hy : y ∈ l) (e : x.1 = y.1) : x = y := by
  induction l with
  | nil => cases hx
  | cons z r ih =>
    have h1 := rise_head h
    have h2 := (List.pairwise_cons.1 h).2
    rcases List.mem_cons.1 hx with rfl | hx2 <;> rcases List.mem_cons.1 hy with rfl | hy2
    · rfl
    · exact absurd e.symm (h1 y hy2)
    · exact absurd e (h1 x hx2)
    · exact ih h2 hx2 hy2
/-- What matches both shows that they meet. -/
theorem match_meets {a b : List Cn} {l : List An} (ha : RiseC a) (hb : RiseC b) (hl : (l.map (·.1)).Nodup) (h5 : l.length ≤ 5) (h1 : matchL a l = true) (h2 : matchL b l = true) : Meets a b := by
  rw [match_iff] at h1 h2
  refine ⟨fun x hx y hy e hn => ?_, ?_⟩
  · obtain ⟨u, hu, u1, u2⟩ := h1 x hx
    obtain ⟨v, hv, v1, v2⟩ := h2 y hy
    obtain rfl := uniq hl hu hv (by rw [u1, v1, e])
    have := both_none _ _ hn u.2
    rw [u2, v2] at this
    cases this
  · rw [← union_len]
    have h3 := nodup_len (union a b) (l.map (·.1)) (union_nodup ha hb) fun n hn => by
      rcases (union_mem a b n).1 hn with h | h
      · obtain ⟨c, hc, rfl⟩ := List.mem_map.1 h
        obtain ⟨u, hu, u1, _⟩ := h1 c hc
        rw [← u1]
        exact List.mem_map_of_mem hu
      · obtain ⟨c, hc, rfl⟩ := List.mem_map.1 h
        obtain ⟨u, hu, u1, _⟩ := h2 c hc
        rw [← u1]
        exact List.mem_map_of_mem hu
    rw [List.length_map] at h3
    omega

/-! ### cover -/
/-- Does the one hold only where the other does? -/
def impliesK : Kd → Kd → Bool
  | .rg p q, .rg r s => decide (r ≤ p) && decide (q ≤ s)
  | .tx s, .tx t => s.data.toList == t.data.toList
  | .tx s, .pr t => pfx t s
  | .pr s, .pr t => pfx t s
  | _, _ => false
theorem implies_self (k : Kd) : impliesK k k = true := by
  cases k <;> simp [impliesK, pfx_self]
theorem implies_holds (a b : Kd) (h : impliesK a b = true) (v : V3) (hv : holdsK a v = true) : holdsK b v = true := by
  obtain ⟨t, n, u⟩ := v
  cases a <;> cases b <;> simp only [impliesK, Bool.and_eq_true, decide_eq_true_eq, beq_iff_eq] at h <;> simp only [holdsK, Bool.and_eq_true, decide_eq_true_eq, beq_iff_eq] at hv ⊢
  · exact ⟨hv.1, by omega, by omega⟩
  · cases h
  · cases h
  · cases h
  · exact ⟨hv.1, hv.2.trans h⟩
  · exact ⟨hv.1, by rw [pfx_iff, hv.2, ← pfx_iff]; exact h⟩
  · cases h
  · cases h
  · exact ⟨hv.1, (pfx_iff _ _).2 (((pfx_iff _ _).1 h).trans ((pfx_iff _ _).1 hv.2))⟩
/-- .. and the other way round: what holds only where another one does implies it. -/
theorem holds_implies (a b : Kd) (ha : goodK a = true) (h : ∀ v, holdsK a v = true → holdsK b v = true) : impliesK a b = true := by
  cases a with
  | rg p q =>
    simp only [goodK, decide_eq_true_eq] at ha
    have h1 := h (false, p, ⟨#[]⟩) (by rw [hold_n]; simp [ha])
    have h2 := h (false, q, ⟨#[]⟩) (by rw [hold_n]; simp [ha])
    cases b with
    | rg r s =>
      rw [hold_n] at h1 h2
      simp only [Bool.and_eq_true, decide_eq_true_eq] at h1 h2
      simp [impliesK, h1.1, h2.2]
    | tx t => simp [holdsK] at h1
    | pr t => simp [holdsK] at h1
  | tx s =>
    have h1 := h (true, 0, s) (by rw [hold_tx]; simp)
    cases b with
    | rg r t => rw [hold_rg] at h1; cases h1
    | tx t => rw [hold_tx] at h1; exact h1
    | pr t => rw [hold_pr] at h1; exact h1
  | pr s =>
    have h1 := h (true, 0, s) (by rw [hold_pr]; exact pfx_self s)
    cases b with
    | rg r t => rw [hold_rg] at h1; cases h1
    | tx t =>
      have h2 := h (true, 0, more s) (by rw [hold_pr]; exact pfx_more s)
      rw [hold_tx, beq_iff_eq] at h1 h2
      rw [← h1] at h2
      have h3 := congrArg List.length h2
      simp [more] at h3
    | pr t => rw [hold_pr] at h1; exact h1
theorem implies_trans {a b c : Kd} (ha : goodK a = true) (h1 : impliesK a b = true) (h2 : impliesK b c = true) : impliesK a c = true :=
  holds_implies a c ha fun v hv => implies_holds b c h2 v (implies_holds a b h1 v hv)
theorem implies_anti {a b : Kd} (ha : goodK a = true) (hb : goodK b = true) (h1 : impliesK a b = true) (h2 : impliesK b a = true) : a = b :=
  same_holds a b ha hb fun v => by
    rw [Bool.eq_iff_iff]
    exact ⟨implies_holds a b h1 v, implies_holds b a h2 v⟩
def coversL (a b : List Cn) : Bool := a.all fun x => b.any fun y => decide (y.1 = x.1) && impliesK y.2 x.2
theorem covers_iff (a b : List Cn) : coversL a b = true ↔ ∀ x ∈ a, ∃ y ∈ b, y.1 = x.1 ∧ impliesK y.2 x.2 = true := by
  simp only [coversL, List.all_eq_true, List.any_eq_true, Bool.and_eq_true, decide_eq_true_eq]
theorem covers_self (a : List Cn) : coversL a a = true := (covers_iff a a).2 fun x hx => ⟨x, hx, rfl, implies_self _⟩
theorem covers_nil (a : List Cn) : coversL [] a = true := rfl
theorem covers_trans {a b c : List Cn} (gc : ∀ x ∈ c, goodK x.2 = true) (h1 : coversL a b = true) (h2 : coversL b c = true) : coversL a c = true := by
  rw [covers_iff] at *
  intro x hx
  obtain ⟨y, hy, y1, y2⟩ := h1 x hx
  obtain ⟨z, hz, z1, z2⟩ := h2 y hy
  exact ⟨z, hz, z1.trans y1, implies_trans (gc z hz) z2 y2⟩
theorem covers_match {a b : List Cn} {l : List An} (h : coversL a b = true) (hm : matchL b l = true) : matchL a l = true := by
  rw [covers_iff] at h
  rw [match_iff] at *
  intro x hx
  obtain ⟨y, hy, y1, y2⟩ := h x hx
  obtain ⟨u, hu, u1, u2⟩ := hm y hy
  exact ⟨u, hu, u1.trans y1, implies_holds _ _ y2 _ u2⟩
/-- What covers what meets meets. -/
theorem covers_meets {a b c : List Cn} (ha : RiseC a) (hc : RiseC c) (gb : ∀ x ∈ b, goodK x.2 = true) (gc : ∀ x ∈ c, goodK x.2 = true) (h : coversL a b = true) (hm : Meets b c) : Meets a c := by
  rw [covers_iff] at h
  refine ⟨fun x hx z hz e hn => ?_, ?_⟩
  · obtain ⟨y, hy, y1, y2⟩ := h x hx
    cases hk : bothK y.2 z.2 with
    | none => exact hm.1 y hy z hz (y1.trans e) hk
    | some k =>
      obtain ⟨k1, k2⟩ := both_some _ _ k (gb y hy) (gc z hz) hk
      obtain ⟨v, hv⟩ := some_holds k k1
      rw [k2, Bool.and_eq_true] at hv
      have := both_none _ _ hn v
      rw [implies_holds _ _ y2 v hv.1, hv.2] at this
      cases this
  · have h2 := hm.2
    rw [← union_len] at h2 ⊢
    refine Nat.le_trans (nodup_len _ _ (union_nodup ha hc) fun n hn => (union_mem b c n).2 ?_) h2
    rcases (union_mem a c n).1 hn with h3 | h3
    · obtain ⟨x, hx, rfl⟩ := List.mem_map.1 h3
      obtain ⟨y, hy, y1, _⟩ := h x hx
      exact Or.inl (by rw [← y1]; exact List.mem_map_of_mem hy)
    · exact Or.inr h3
theorem meets_self {a : List Cn} (ha : RiseC a) (ga : ∀ x ∈ a, goodK x.2 = true) (h5 : a.length ≤ 5) : Meets a a := by
  refine ⟨fun x hx y hy e hn => ?_, ?_⟩
  · obtain rfl := uniqC ha hx hy e
    rw [both_self _ (ga x hx)] at hn
    cases hn
  · have : fresh a a = 0 := by
      unfold fresh
      rw [List.countP_eq_zero]
      intro y hy
      rw [(has_iff a y.1).2 (List.mem_map_of_mem hy)]
      decide
    omega
theorem meets_nil (a : List Cn) (h5 : a.length ≤ 5) : Meets [] a := by
  refine ⟨fun x hx => by simp at hx, ?_⟩
  have : fresh [] a ≤ a.length := List.countP_le_length
  simp only [List.length_nil]
  omega
/-- What covers each other is the same. -/
theorem covers_anti {a b : List Cn} (ha : RiseC a) (hb : RiseC b) (ga : ∀ x ∈ a, goodK x.2 = true) (gb : ∀ x ∈ b, goodK x.2 = true) (h1 : coversL a b = true) (h2 : coversL b a = true) : a = b := by
  rw [covers_iff] at h1 h2
  have sub : ∀ {p q : List Cn}, RiseC p → (∀ x ∈ p, goodK x.2 = true) → (∀ x ∈ q, goodK x.2 = true) → (∀ x ∈ p, ∃ y ∈ q, y.1 = x.1 ∧ impliesK y.2 x.2 = true) → (∀ x ∈ q, ∃ y ∈ p, y.1 = x.1 ∧ impliesK y.2 x.2 = true) → ∀ x ∈ p, x ∈ q := by
    intro p q hp gp gq h1 h2 x hx
    obtain ⟨y, hy, y1, y2⟩ := h1 x hx
    obtain ⟨z, hz, z1, z2⟩ := h2 y hy
    obtain rfl := uniqC hp hz hx (z1.trans y1)
    have e := implies_anti (gq y hy) (gp z hz) y2 z2
    have e2 : y = z := Prod.ext y1 e
    rw [← e2]
    exact hy
  have na : a.Nodup := List.Pairwise.imp (R := fun x y : Cn => Op.bytesLess x.1.toList y.1.toList = true) (S := fun x y => x ≠ y) (fun h e => less_ne h (by rw [e])) ha
  have nb : b.Nodup := List.Pairwise.imp (R := fun x y : Cn => Op.bytesLess x.1.toList y.1.toList = true) (S := fun x y => x ≠ y) (fun h e => less_ne h (by rw [e])) hb
  exact riseC_eq ha hb ((List.perm_ext_iff_of_nodup na nb).2 fun x => ⟨sub ha ga gb h1 h2 x, sub hb gb ga h2 h1 x⟩)
end Go.Proofs.YtonoadjmglkhaaaGreat.Rl
