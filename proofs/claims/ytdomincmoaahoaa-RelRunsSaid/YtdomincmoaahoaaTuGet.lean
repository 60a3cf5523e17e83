/-
  Get of package tuple: the first value of that name. Condition: at most 100 attributes.
-/
import Derived.Test.YtdomincmoaahoaaAtLaw0
import Derived.Test.YtdomincmoaahoaaAtBox
namespace Go.Proofs.Ytdomincmoaahoaa.At
open Go.RowKit Go.Sort Go.Proofs.Ytdomincmoaahoaa.Va Go.Proofs.Ytdomincmoaahoaa.In

theorem getA_skip : ∀ (l : List A4) (n : ByteArray) (k : Nat) (x : A4), l[k]? = some x → x.1 = n → (∀ (j : Nat) (y : A4), j < k → l[j]? = some y → y.1 ≠ n) → getA l n = some x.2
  | [], n, k, x, h, _, _ => by simp at h
  | y :: r, n, 0, x, h, e, _ => by simp at h; subst h; simp [getA, e]
  | y :: r, n, k + 1, x, h, e, hn => by
    simp only [getA]
    rw [if_neg (hn 0 y (by omega) rfl), getA_skip r n k x (by simpa using h) e (fun j z hj hz => hn (j + 1) z (by omega) (by simpa using hz))]
theorem getA_none (l : List A4) (n : ByteArray) (h : ∀ (j : Nat) (y : A4), j < l.length → l[j]? = some y → y.1 ≠ n) : getA l n = none :=
  get_none l n fun x hx => by
    obtain ⟨j, hj, e⟩ := List.getElem_of_mem hx
    exact h j x hj (by rw [List.getElem?_eq_getElem hj, e])

set_option maxRecDepth 100000 in
set_option maxHeartbeats 4000000 in
theorem getOk : GetOk := by
  intro lv l n w hl h5 hn
  have HL := Lib.hid hl
  obtain ⟨lo, lc, rfl⟩ := hl.len
  have B0 := Lib.hid (show Below w.heap.size w (w.alloc (.cells #[.bool false, .int .i64 0, .string ⟨#[]⟩] 45)) from (Below.refl _ _).alloc (Nat.le_refl _) _)
  have HT0 := Lib.hid (box_new w false 0 ⟨#[]⟩)
  clear hl
  go_enter Try.func31, Try.ntmps31
  go_wp2
  generalize w.alloc (.cells #[.bool false, .int .i64 0, .string ⟨#[]⟩] 45) = w1 at B0 HT0 ⊢
  go_loopw [10] (fun i wr => ∃ k : Nat, k ≤ l.length ∧ i = .int .i64 k ∧ Below w.heap.size w wr ∧ BoxV wr w.heap.size false 0 ⟨#[]⟩ ∧ ∀ (j : Nat) (y : A4), j < k → l[j]? = some y → y.1 ≠ n) (fun i _ => l.length - (intOf i).toNat)
  case atStart => exact ⟨0, Nat.zero_le _, rfl, B0.out, HT0.out, fun j y h => by omega⟩
  case round =>
    obtain ⟨k, hk, rfl, hb, ht, hall⟩ := hrel
    have HB := Lib.hid hb
    have HT := Lib.hid ht
    have AL := Lib.hid hall
    clear hb hall ht
    by_cases hlt : k < l.length
    · obtain ⟨⟨xn, xt, xi, xs⟩, hx⟩ : ∃ x, l[k]? = some x := ⟨_, List.getElem?_eq_getElem hlt⟩
      obtain ⟨p, ix, px⟩ := row_cells HL.out rfl rfl hx
      obtain ⟨p0, p1, p2, p3⟩ := px _ HB.out
      have HX := Lib.hid hx
      have B4 := Lib.hid (HB.out.alloc HB.out.size (.cells #[.string xn, .bool xt, .int .i64 xi, .string xs] 47))
      have T4 := Lib.hid (HT.out.more (.cells #[.string xn, .bool xt, .int .i64 xi, .string xs] 47))
      clear hx px
      simp only at p0 p1 p2 p3
      by_cases he : xn = n
      · have hn : (xn.toList == n.toList) = true := by rw [he]; exact beq_self_eq_true _
        have R := Lib.hid (getA_skip l n k _ HX.out he AL.out)
        have HE := Lib.hid he
        clear he
        have c0 := HT.out.cell 0
        have c1 := HT.out.cell 1
        have c2 := HT.out.cell 2
        have f0 := HT.out.fr 0
        have f1 := HT.out.fr 1
        have f2 := HT.out.fr 2
        have hlt4 := HT.out.lt
        simp at c0 c1 c2
        go_wp2
        have T5 := (HT.out.set3 xt xi xs).more (.cells #[.string xn, .bool xt, .int .i64 xi, .string xs] 47)
        have B5 := (below_setV HB.out (Nat.le_refl _) xt xi xs).alloc (below_setV HB.out (Nat.le_refl _) xt xi xs).size (.cells #[.string xn, .bool xt, .int .i64 xi, .string xs] 47)
        unfold setV at T5 B5
        generalize World.alloc _ (.cells #[.string xn, .bool xt, .int .i64 xi, .string xs] 47) = w6 at T5 B5 ⊢
        have d0 := T5.cell 0
        have d1 := T5.cell 1
        have d2 := T5.cell 2
        simp at d0 d1 d2
        refine bodyPost_ret (v := gotV (some (xt, xi, xs))) (by simp [results, Try.results31, go_sem, d0, d1, d2, gotV]) rfl ⟨by rw [R.out], B5⟩
      · have hn : (xn.toList == n.toList) = false := by rw [beq_eq_false_iff_ne]; exact fun h => he (name_inj h)
        have HE := Lib.hid he
        clear he
        go_wp2
        go_roundw
        case rel => exact ⟨k + 1, by omega, by go_num, B4.out, T4.out, fun j y hj hy => by
          rcases Nat.lt_or_ge j k with h3 | h3
          · exact AL.out j y h3 hy
          · obtain rfl : j = k := by omega
            have e := HX.out
            rw [hy] at e
            rw [Option.some.inj e]
            exact HE.out⟩
        case measure => simp [intOf]; omega
    · obtain rfl : k = l.length := by omega
      have R := Lib.hid (getA_none l n (fun j y hj hy => AL.out j y hj hy))
      have c0 := HT.out.cell 0
      have c1 := HT.out.cell 1
      have c2 := HT.out.cell 2
      have f0 := HT.out.fr 0
      have f1 := HT.out.fr 1
      have f2 := HT.out.fr 2
      have hlt4 := HT.out.lt
      simp at c0 c1 c2
      go_wp2
      have T5 := HT.out.set3 false 0 ⟨#[]⟩
      have B5 := below_setV HB.out (Nat.le_refl _) false 0 ⟨#[]⟩
      unfold setV at T5 B5
      generalize World.setCell _ _ (.string ⟨#[]⟩) = w6 at T5 B5 ⊢
      have d0 := T5.cell 0
      have d1 := T5.cell 1
      have d2 := T5.cell 2
      simp at d0 d1 d2
      refine bodyPost_ret (v := gotV none) (by simp [results, Try.results31, go_sem, d0, d1, d2, gotV]) rfl ⟨by rw [R.out], B5⟩
end Go.Proofs.Ytdomincmoaahoaa.At
