/-
  covered and tight of package subs: is a predicate covered by an entry that was passed on, is each that was not. Condition: predicates in normal form.
-/
import Derived.Test.YtncogjpmboglhaaQ038
import Derived.Test.YtncogjpmboglhaaQ039
namespace Go.Proofs.Ytncogjpmboglhaa.Sb
open Go.RowKit Go.Sort Go.Proofs.Ytncogjpmboglhaa Go.Proofs.Ytncogjpmboglhaa.Rw Go.Proofs.Ytncogjpmboglhaa.Nm Go.Proofs.Ytncogjpmboglhaa.Pr Go.Proofs.Ytncogjpmboglhaa.Bk Go.Proofs.Ytncogjpmboglhaa.Av Go.Proofs.Ytncogjpmboglhaa.Rl

theorem covers_d (av_ bv : Value) (p q : List C5) (w : World) (ha : RowC w av_ p) (hb : RowC w bv q) (hp : PredOk p) (hq : PredOk q) :
    Calls Try.prog 17 #[av_, bv] w fun e w' => e = .returned (.bool (coversC p q)) ∧ Below w.heap.size w w' := by
  obtain ⟨a, na, rfl⟩ := hp
  obtain ⟨b, nb, rfl⟩ := hq
  unfold coversC
  rw [unR_map, unR_map]
  exact covers_any av_ bv a b w ha hb na nb
theorem any_at {α : Type} (f : α → Bool) {l : List α} (h : ∀ (j : Nat) (y : α), j < l.length → l[j]? = some y → f y = false) : l.any f = false := by
  rw [List.any_eq_false]
  intro e he
  obtain ⟨j, hj, hje⟩ := List.getElem_of_mem he
  simpa using h j e hj (by rw [List.getElem?_eq_getElem hj, hje])
theorem any_of {α : Type} (f : α → Bool) {l : List α} {k : Nat} {y : α} (h : l[k]? = some y) (hf : f y = true) : l.any f = true := by
  rw [List.any_eq_true]
  exact ⟨y, List.mem_of_getElem? h, hf⟩
abbrev cE (p : List C5) (e : En) : Bool := e.up && coversC e.p p
set_option maxRecDepth 100000 in
set_option maxHeartbeats 8000000 in
theorem covered_any (v : Sl) (pv : Value) (l : List XEn) (m : List En) (p' : List C5) (w : World) (hs : RowN w (slv v) l) (hu : All2 (EnIn w) l m) (hp : RowC w pv p') (hok : ∀ e ∈ m, PredOk e.p) (hop : PredOk p') :
    Calls Try.prog 40 #[slv v, pv] w fun e w' => e = .returned (.bool (covB m p')) ∧ Below w.heap.size w w' := by
  have HU := Lib.hid hu
  have HP := Lib.hid hp
  have OK := Lib.hid hok
  have OP := Lib.hid hop
  obtain ⟨pa, pc, rfl⟩ := hp.len
  generalize p'.length = pn at *
  obtain ⟨so, n, sc⟩ := v
  have hn := sl_len hs
  have HS := Lib.hid hs
  have lm := hs.most
  unfold maxLen at lm
  rw [hn] at lm
  have HN := Lib.hid hn
  clear hu hp hok hop hs hn
  go_enter Try.func40, Try.ntmps40
  go_wp2
  go_loopw [9] (fun i wr => ∃ k : Nat, k ≤ n ∧ i = .int .i64 k ∧ Below w.heap.size w wr ∧ ∀ (j : Nat) (y : En), j < k → m[j]? = some y → cE p' y = false) (fun i _ => n - (intOf i).toNat)
  case atStart => exact ⟨0, Nat.zero_le _, rfl, Below.refl _ _, fun j y h => by omega⟩
  case round =>
    obtain ⟨k, hk, rfl, hbe, hall⟩ := hrel
    have BE := Lib.hid hbe
    have AL := Lib.hid hall
    clear hbe hall
    by_cases hlt : k < n
    · obtain ⟨y, hy⟩ : ∃ y, l[k]? = some y := ⟨_, List.getElem?_eq_getElem (by rw [HN.out]; exact hlt)⟩
      obtain ⟨q, ix, px⟩ := elN HS.out rfl HN.out hy
      obtain ⟨p0, p1, p2, p3, p4, p5, p6⟩ := px wr BE.out
      obtain ⟨e, he, _, hin⟩ := all2_key HU.out hy
      obtain ⟨y1, y2, y3, y4, ⟨yo, yn, yc⟩, y6, y7⟩ := y
      simp only at p0 p1 p2 p3 p4 p5 p6
      have NB := Lib.hid (newB wr (.cells #[.int .i64 y1, .int .i64 y2, .int .i64 y3, .int .i64 y4, .slice yo yn yc, .int .i64 y6, .bool y7] 42))
      have hw3 : IntKind.i64.wrap ((k : Int) + 1) = (k : Int) + 1 := IntWalk.i64_in _ (by omega)
      obtain ⟨t, ht⟩ : ∃ r, coversC e.p p' = r := ⟨_, rfl⟩
      have HV := Lib.hid (show cE p' e = (y7 && t) by unfold cE; rw [← hin.2.2.2.1, ht])
      have HE := Lib.hid he
      have BF := Lib.hid (BE.out.trans (NB.out.mono BE.out.size))
      have CV := Lib.hid (covers_d (.slice yo yn yc) (.slice pa pn pc) e.p p' _ (hin.2.2.2.2.on BF.out) (HP.out.on BF.out) (OK.out _ (List.mem_of_getElem? he)) OP.out)
      rw [ht] at CV
      clear px hy ht he hin
      cases y7
      · clear CV
        go_wp2
        go_roundw
        case rel => exact ⟨k + 1, by omega, by go_num, BF.out, fun j y' hj h1 => by
          rcases Nat.lt_or_ge j k with h3 | h3
          · exact AL.out j y' h3 h1
          · obtain rfl : j = k := by omega
            have e1 := HE.out
            rw [h1] at e1
            rw [Option.some.inj e1]
            exact HV.out.trans (by simp)⟩
        case measure => simp [intOf]; omega
      · go_wp2_with fail
        refine CV.out.mono ?_
        rintro e3 w3 ⟨rfl, hb⟩
        have BG := Lib.hid (BF.out.trans (hb.mono BF.out.size))
        clear CV hb p0 p1 p2 p3 p4 p5 p6 ix
        cases t
        · go_wp2
          go_roundw
          case rel => exact ⟨k + 1, by omega, by go_num, BG.out, fun j y' hj h1 => by
            rcases Nat.lt_or_ge j k with h3 | h3
            · exact AL.out j y' h3 h1
            · obtain rfl : j = k := by omega
              have e1 := HE.out
              rw [h1] at e1
              rw [Option.some.inj e1]
              exact HV.out.trans (by simp)⟩
          case measure => simp [intOf]; omega
        · have hd : covB m p' = true := any_of (cE p') HE.out (HV.out.trans (by simp))
          go_wp2
          go_ret
          exact ⟨by rw [hd]; rfl, BG.out⟩
    · obtain rfl : k = n := by omega
      have hd : covB m p' = false := any_at (cE p') fun j y hj h => AL.out j y (by rw [← HN.out, HU.out.len]; exact hj) h
      go_wp2
      go_ret
      exact ⟨by rw [hd]; rfl, BE.out⟩
theorem all_at {α : Type} (f : α → Bool) {l : List α} (h : ∀ (j : Nat) (y : α), j < l.length → l[j]? = some y → f y = true) : l.all f = true := by
  rw [List.all_eq_true]
  intro e he
  obtain ⟨j, hj, hje⟩ := List.getElem_of_mem he
  exact h j e hj (by rw [List.getElem?_eq_getElem hj, hje])
theorem all_of {α : Type} (f : α → Bool) {l : List α} {k : Nat} {y : α} (h : l[k]? = some y) (hf : f y = false) : l.all f = false := by
  rw [List.all_eq_false]
  exact ⟨y, List.mem_of_getElem? h, by rw [hf]; simp⟩
abbrev tE (r : List En) (e : En) : Bool := e.up || covB r e.p
set_option maxRecDepth 100000 in
set_option maxHeartbeats 8000000 in
theorem tight_any (v : Sl) (l : List XEn) (m : List En) (w : World) (hs : RowN w (slv v) l) (hu : All2 (EnIn w) l m) (hok : ∀ e ∈ m, PredOk e.p) :
    Calls Try.prog 36 #[slv v] w fun e w' => e = .returned (.bool (tightR m)) ∧ Below w.heap.size w w' := by
  have HU := Lib.hid hu
  have OK := Lib.hid hok
  have HS := Lib.hid hs
  obtain ⟨so, n, sc⟩ := v
  have hn := sl_len hs
  have lm := hs.most
  unfold maxLen at lm
  rw [hn] at lm
  have HN := Lib.hid hn
  clear hu hok hs hn
  go_enter Try.func36, Try.ntmps36
  go_wp2
  go_loopw [7] (fun i wr => ∃ k : Nat, k ≤ n ∧ i = .int .i64 k ∧ Below w.heap.size w wr ∧ ∀ (j : Nat) (y : En), j < k → m[j]? = some y → tE m y = true) (fun i _ => n - (intOf i).toNat)
  case atStart => exact ⟨0, Nat.zero_le _, rfl, Below.refl _ _, fun j y h => by omega⟩
  case round =>
    obtain ⟨k, hk, rfl, hbe, hall⟩ := hrel
    have BE := Lib.hid hbe
    have AL := Lib.hid hall
    clear hbe hall
    by_cases hlt : k < n
    · obtain ⟨y, hy⟩ : ∃ y, l[k]? = some y := ⟨_, List.getElem?_eq_getElem (by rw [HN.out]; exact hlt)⟩
      obtain ⟨q, ix, px⟩ := elN HS.out rfl HN.out hy
      obtain ⟨p0, p1, p2, p3, p4, p5, p6⟩ := px wr BE.out
      obtain ⟨e, he, _, hin⟩ := all2_key HU.out hy
      obtain ⟨y1, y2, y3, y4, ⟨yo, yn, yc⟩, y6, y7⟩ := y
      simp only at p0 p1 p2 p3 p4 p5 p6
      have NB := Lib.hid (newB wr (.cells #[.int .i64 y1, .int .i64 y2, .int .i64 y3, .int .i64 y4, .slice yo yn yc, .int .i64 y6, .bool y7] 42))
      have hw3 : IntKind.i64.wrap ((k : Int) + 1) = (k : Int) + 1 := IntWalk.i64_in _ (by omega)
      obtain ⟨t, ht⟩ : ∃ r, covB m e.p = r := ⟨_, rfl⟩
      have HV := Lib.hid (show tE m e = (y7 || t) by unfold tE; rw [← hin.2.2.2.1, ht])
      have HE := Lib.hid he
      have BF := Lib.hid (BE.out.trans (NB.out.mono BE.out.size))
      have CV := Lib.hid (covered_any (so, n, sc) (.slice yo yn yc) l m e.p _ (HS.out.on BF.out) (HU.out.mono fun _ _ q => q.on BF.out) (hin.2.2.2.2.on BF.out) OK.out (OK.out _ (List.mem_of_getElem? he)))
      rw [ht] at CV
      clear px hy ht he hin
      cases y7
      · go_wp2_with fail
        refine CV.out.mono ?_
        rintro e3 w3 ⟨rfl, hb⟩
        have BG := Lib.hid (BF.out.trans (hb.mono BF.out.size))
        clear CV hb p0 p1 p2 p3 p4 p5 p6 ix
        cases t
        · have hd : tightR m = false := all_of (tE m) HE.out (HV.out.trans (by simp))
          go_wp2
          go_ret
          exact ⟨by rw [hd]; rfl, BG.out⟩
        · go_wp2
          go_roundw
          case rel => exact ⟨k + 1, by omega, by go_num, BG.out, fun j y' hj h1 => by
            rcases Nat.lt_or_ge j k with h3 | h3
            · exact AL.out j y' h3 h1
            · obtain rfl : j = k := by omega
              have e1 := HE.out
              rw [h1] at e1
              rw [Option.some.inj e1]
              exact HV.out.trans (by simp)⟩
          case measure => simp [intOf]; omega
      · clear CV
        go_wp2
        go_roundw
        case rel => exact ⟨k + 1, by omega, by go_num, BF.out, fun j y' hj h1 => by
          rcases Nat.lt_or_ge j k with h3 | h3
          · exact AL.out j y' h3 h1
          · obtain rfl : j = k := by omega
            have e1 := HE.out
            rw [h1] at e1
            rw [Option.some.inj e1]
            exact HV.out.trans (by simp)⟩
        case measure => simp [intOf]; omega
    · obtain rfl : k = n := by omega
      have hd : tightR m = true := all_at (tE m) fun j y hj h => AL.out j y (by rw [← HN.out, HU.out.len]; exact hj) h
      go_wp2
      go_ret
      exact ⟨by rw [hd]; rfl, BE.out⟩
end Go.Proofs.Ytncogjpmboglhaa.Sb
