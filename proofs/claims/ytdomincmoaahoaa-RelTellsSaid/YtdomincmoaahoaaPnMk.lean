/-
  Make of package pred: the normal form of right constraints, or the first place at which there is none. Condition: at most 100 constraints, each one right.
-/
import Derived.Test.YtdomincmoaahoaaPnJoin
import Derived.Test.YtdomincmoaahoaaBf
import Derived.Test.YtdomincmoaahoaaBd
namespace Go.Proofs.Ytdomincmoaahoaa.Pr
open Go.RowKit Go.Sort Go.Proofs.Ytdomincmoaahoaa Go.Proofs.Ytdomincmoaahoaa.Pu Go.Proofs.Ytdomincmoaahoaa.Rw Go.Proofs.Ytdomincmoaahoaa.Va

def predTxt : ByteArray := ⟨#[112, 114, 101, 100]⟩
/-- What Make answers. -/
def MakeQ (w : World) (l : List Cn) (e : Ending) (w' : World) : Prop := Below w.heap.size w w' ∧ (match makeC l with
  | .ok m => ∃ pv, e = .returned (.tuple #[pv, .nilIface]) ∧ RowC w' pv (m.map r5)
  | .error _ => ∃ b, e = .returned (.tuple #[.slice none 0 0, .iface 81 (.pointer (some ⟨b, 0, none⟩))]))
/-- New of an error that is not nil: a new fault. -/
theorem New_one (op : ByteArray) (at_ : Int) (tx : Nat) (x : Value) (w : World) :
    Calls Try.prog 46 #[.string op, .int .i64 at_, .iface tx x] w fun e w' => e = .returned (.iface 81 (.pointer (some ⟨w.heap.size, 0, none⟩))) ∧ w' = w.alloc (.cells #[.string op, .int .i64 at_, .iface tx x] 83) := by
  go_enter Try.func46, Try.ntmps46
  go_wp2
  go_ret
  exact ⟨rfl, rfl⟩
theorem fold_stepC (at_ : Nat) (m r : List Cn) (c : Cn) : foldC at_ m (c :: r) = match stepC m c with
    | .ok m' => foldC (at_ + 1) m' r
    | .error k => .error (k, at_) := by
  simp only [foldC, stepC]
  cases insC m c with
  | none => rfl
  | some m' => simp only; split <;> rfl
theorem step_rise {m : List Cn} {c : Cn} {m' : List Cn} (h : RiseC m) (hs : stepC m c = .ok m') : RiseC m' ∧ m'.length ≤ 5 := by
  unfold stepC at hs
  cases hi : insC m c with
  | none => rw [hi] at hs; cases hs
  | some n =>
    rw [hi] at hs
    simp only at hs
    split at hs
    · cases hs
    · rename_i h5
      injection hs with hs
      subst hs
      exact ⟨(ins_rise m c n h hi).1, by omega⟩
set_option maxRecDepth 100000 in
set_option maxHeartbeats 8000000 in
theorem make_any (lv : Value) (l : List Cn) (w : World) (hl : RowC w lv (l.map r5)) (hs : SmallP l) (hgd : ∀ c ∈ l, goodC c = true) : Calls Try.prog 41 #[lv] w (MakeQ w l) := by
  have HL := Lib.hid hl
  have LN := Lib.hid (show (l.map r5).length = l.length from List.length_map ..)
  have h100 := hs.1
  have SM := Lib.hid hs.2
  have GD := Lib.hid hgd
  obtain ⟨ao, ac, rfl⟩ := hl.len
  rw [List.length_map] at HL ⊢
  obtain ⟨n, hn⟩ : ∃ n, n = l.length := ⟨_, rfl⟩
  rw [← hn] at HL h100 ⊢
  have HN := Lib.hid hn
  obtain ⟨res, hres⟩ : ∃ r, r = makeC l := ⟨_, rfl⟩
  have MQ := Lib.hid (show ∀ e w', (Below w.heap.size w w' ∧ (match res with
  | .ok m => ∃ pv, e = .returned (.tuple #[pv, .nilIface]) ∧ RowC w' pv (m.map r5)
  | .error _ => ∃ b, e = .returned (.tuple #[.slice none 0 0, .iface 81 (.pointer (some ⟨b, 0, none⟩))]))) → MakeQ w l e w' from fun e w' h => by unfold MakeQ; rw [← hres]; exact h)
  have HR := Lib.hid hres
  clear hl hs hgd hn hres
  generalize hq : MakeQ w l = q at *
  clear hq
  go_enter Try.func41, Try.ntmps41
  go_wp2
  go_loopw [13] (fun i wr => ∃ k : Nat, k ≤ n ∧ i = .int .i64 k ∧ Below w.heap.size w wr) (fun i _ => n - (intOf i).toNat)
  case atStart => exact ⟨0, Nat.zero_le _, rfl, Below.refl _ _⟩
  case round =>
    obtain ⟨k, hk, rfl, hb⟩ := hrel
    have HB := Lib.hid hb
    clear hb
    by_cases hlt : k < n
    · obtain ⟨⟨xn, xk⟩, hx⟩ : ∃ x, l[k]? = some x := ⟨_, List.getElem?_eq_getElem (by have := HN.out; omega)⟩
      obtain ⟨p, ix, px⟩ := elC (x := r5 (xn, xk)) HL.out rfl (LN.out.trans HN.out.symm) (by rw [List.getElem?_map, hx]; rfl)
      obtain ⟨p0, p1, p2, p3, p4⟩ := px _ HB.out
      have C := Lib.hid (one_any (xn, xk) (wr.alloc (.cells (cells5 (r5 (xn, xk))).toArray 23)) (by have := (SM.out _ (List.mem_of_getElem? hx)).1; unfold maxLen; omega))
      rw [GD.out _ (List.mem_of_getElem? hx)] at C
      have B4 := Lib.hid (HB.out.alloc HB.out.size (.cells (cells5 (r5 (xn, xk))).toArray 23))
      simp only [r5] at p0 p1 p2 p3 p4 C
      clear hx px
      go_wp2_with fail
      refine C.out.mono ?_
      rintro e5 w5 ⟨rfl, hb5⟩
      have B5 := Lib.hid (B4.out.trans (hb5.mono B4.out.size))
      clear hb5 C B4 ix p0 p1 p2 p3 p4
      go_wp2
      go_roundw
      case rel => exact ⟨k + 1, by omega, by go_num, B5.out⟩
      case measure => simp [intOf]; omega
    · obtain rfl : k = n := by omega
      go_wp2
      go_loopw [6, 27] (fun mv i wr => ∃ (j : Nat) (m : List Cn), j ≤ k ∧ i = .int .i64 j ∧ OwnC wr w.heap.size mv (m.map r5) ∧ RiseC m ∧ m.length ≤ 5 ∧ res = foldC j m (l.drop j) ∧ Below w.heap.size w wr) (fun _ i _ => k - (intOf i).toNat)
      case atStart => exact ⟨0, [], Nat.zero_le _, rfl, own_nil _ _, List.Pairwise.nil, by simp, by rw [HR.out]; rfl, HB.out⟩
      case round =>
        obtain ⟨j, m, hj, rfl, hown, hrise, hm5, hfold, hb⟩ := hrel
        have BW := Lib.hid hb
        have OW := Lib.hid hown
        have RM := Lib.hid hrise
        have FO := Lib.hid hfold
        clear hb hown hrise hfold
        by_cases hjl : j < k
        · obtain ⟨⟨xn, xk⟩, hx⟩ : ∃ x, l[j]? = some x := ⟨_, List.getElem?_eq_getElem (by have := HN.out; omega)⟩
          obtain ⟨p, ix, px⟩ := elC (x := r5 (xn, xk)) HL.out rfl (LN.out.trans HN.out.symm) (by rw [List.getElem?_map, hx]; rfl)
          obtain ⟨p0, p1, p2, p3, p4⟩ := px _ BW.out
          have B4 := Lib.hid (BW.out.alloc BW.out.size (.cells (cells5 (r5 (xn, xk))).toArray 23))
          have C := Lib.hid (join_any w.heap.size _ m (xn, xk) (wr.alloc (.cells (cells5 (r5 (xn, xk))).toArray 23)) (own_on OW.out ((Below.refl _ _).alloc (Nat.le_refl _) _)) RM.out hm5 B4.out.size)
          have DR : l.drop j = (xn, xk) :: l.drop (j + 1) := by
            have h := List.drop_eq_getElem_cons (l := l) (i := j) (by have := HN.out; omega)
            rw [h]
            congr 1
            exact (List.getElem?_eq_some_iff.1 hx).2
          have F2 := FO.out
          rw [DR, fold_stepC] at F2
          have F3 := Lib.hid F2
          simp only [r5] at p0 p1 p2 p3 p4 C
          clear hx px F2 DR FO
          cases hst : stepC m (xn, xk) with
          | ok m' =>
            have RR := Lib.hid (step_rise RM.out hst)
            have F4 := Lib.hid (show res = foldC (j + 1) m' (l.drop (j + 1)) by rw [F3.out, hst])
            rw [hst] at C
            clear hst F3
            go_wp2_with fail
            refine C.out.mono ?_
            rintro e5 w5 ⟨hb5, v', rfl, ho5⟩
            have B5 := Lib.hid (B4.out.trans hb5)
            have O5 := Lib.hid ho5
            clear hb5 ho5 C B4 ix p0 p1 p2 p3 p4 OW BW RM
            go_wp2
            go_roundw
            case rel => exact ⟨j + 1, m', by omega, by go_num, O5.out, RR.out.1, RR.out.2, F4.out, B5.out⟩
            case measure => simp [intOf]; omega
          | error er =>
            have F4 := Lib.hid (show res = .error (er, j) by rw [F3.out, hst])
            rw [hst] at C
            clear hst F3
            go_wp2_with fail
            refine C.out.mono ?_
            rintro e5 w5 ⟨hb5, rfl⟩
            have B5 := Lib.hid (B4.out.trans hb5)
            clear hb5 C B4 ix p0 p1 p2 p3 p4 OW BW RM
            go_wp2_with fail
            refine (New_one predTxt j 77 (.int .i64 er) w5).mono ?_
            rintro e6 w6 ⟨rfl, rfl⟩
            go_wp2
            refine MQ.out _ _ ⟨B5.out.alloc B5.out.size _, ?_⟩
            rw [F4.out]
            exact ⟨w5.heap.size, rfl⟩
        · obtain rfl : j = k := by omega
          have F2 := Lib.hid (show res = .ok m by rw [FO.out, List.drop_of_length_le (by have := HN.out; omega)]; rfl)
          go_wp2
          refine MQ.out _ _ ⟨BW.out, ?_⟩
          rw [F2.out]
          exact ⟨_, rfl, Row.of_own OW.out⟩
end Go.Proofs.Ytdomincmoaahoaa.Pr
