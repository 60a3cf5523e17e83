/-
  together, Meets, Sample, Joint of package rel. Condition: right predicates.
-/
import Derived.Test.YtdomincmoaahoaaRpOf
import Derived.Test.YtdomincmoaahoaaBg
import Derived.Test.YtdomincmoaahoaaPnMk
import Derived.Test.YtdomincmoaahoaaBb
import Derived.Test.YtdomincmoaahoaaBi
namespace Go.Proofs.Ytdomincmoaahoaa.Rl
open Go.RowKit Go.Sort Go.Proofs.Ytdomincmoaahoaa Go.Proofs.Ytdomincmoaahoaa.Pu Go.Proofs.Ytdomincmoaahoaa.Rw Go.Proofs.Ytdomincmoaahoaa.Pr Go.Proofs.Ytdomincmoaahoaa.Va

def TogQ (a b : List Cn) (w : World) (e : Ending) (w' : World) : Prop := Below w.heap.size w w' ∧ (match foldC a.length a b with
  | .ok p => ∃ pv, e = .returned (.tuple #[pv, .bool true]) ∧ RowC w' pv (p.map r5)
  | .error _ => ∃ pv, e = .returned (.tuple #[pv, .bool false]))
theorem smallP_both {a b : List Cn} (na : NF a) (nb : NF b) : SmallP (a ++ b) := ⟨by have := na.five; have := nb.five; simp; omega, fun c hc => by
  rcases List.mem_append.1 hc with h | h
  · exact na.small c h
  · exact nb.small c h⟩
set_option maxRecDepth 100000 in
set_option maxHeartbeats 4000000 in
theorem tog_any (av_ bv : Value) (a b : List Cn) (w : World) (ha : RowC w av_ (a.map r5)) (hb : RowC w bv (b.map r5)) (na : NF a) (nb : NF b) : Calls Try.prog 26 #[av_, bv] w (TogQ a b w) := by
  have B0 := Lib.hid (show Below w.heap.size w (w.alloc (.cells #[av_, bv] 25)) from (Below.refl _ _).alloc (Nat.le_refl _) _)
  have CT := Lib.hid (concat_any w.heap.size av_ bv (a.map r5) (b.map r5) (w.alloc (.cells #[av_, bv] 25)) (by simp [go_sem]) (by simp [go_sem]) (ha.on B0.out) (hb.on B0.out) (by rw [List.length_map]; have := na.five; omega) (by rw [List.length_map]; have := nb.five; omega))
  have SP := Lib.hid (smallP_both na nb)
  have GD := Lib.hid (show ∀ c ∈ a ++ b, goodC c = true from fun c hc => by
    rcases List.mem_append.1 hc with h | h
    · exact na.good c h
    · exact nb.good c h)
  have MB := Lib.hid (make_both (b := b) na.rise na.five)
  obtain ⟨ao, ac, rfl⟩ := ha.len
  obtain ⟨bo, bc, rfl⟩ := hb.len
  clear ha hb na nb
  simp only [List.length_map] at CT B0 ⊢
  obtain ⟨res, hres⟩ : ∃ r, r = foldC a.length a b := ⟨_, rfl⟩
  have MQ := Lib.hid (show ∀ e w', (Below w.heap.size w w' ∧ (match res with
    | .ok p => ∃ pv, e = .returned (.tuple #[pv, .bool true]) ∧ RowC w' pv (p.map r5)
    | .error _ => ∃ pv, e = .returned (.tuple #[pv, .bool false]))) → TogQ a b w e w' from fun e w' h => by unfold TogQ; rw [← hres]; exact h)
  rw [← hres] at MB
  generalize hq : TogQ a b w = q at *
  clear hq hres
  go_enter Try.func26, Try.ntmps26
  go_wp2_with fail
  refine CT.out.mono ?_
  rintro e1 w1 ⟨v1, rfl, ho, hb1⟩
  have B1 := Lib.hid (B0.out.trans (hb1.mono B0.out.size))
  have MK := Lib.hid (make_any v1 (a ++ b) w1 (by rw [List.map_append]; exact Row.of_own ho) SP.out GD.out)
  clear ho hb1 CT SP GD B0
  go_wp2_with fail
  refine MK.out.mono ?_
  rintro e2 w2 ⟨hb2, h2⟩
  have B2 := Lib.hid (B1.out.trans (hb2.mono B1.out.size))
  rw [MB.out] at h2
  clear hb2 MK B1 MB
  rcases res with _ | p
  · obtain ⟨bb, rfl⟩ := h2
    go_wp2
    go_region
    all_goals simp only [Exit.then]
    all_goals apply_assumption
    all_goals go_wp2
    all_goals exact MQ.out _ _ ⟨B2.out.drew, _, rfl⟩
  · obtain ⟨pv, rfl, hp⟩ := h2
    have HP := Lib.hid hp
    clear hp
    go_wp2
    go_region
    all_goals simp only [Exit.then]
    all_goals apply_assumption
    all_goals go_wp2
    all_goals exact MQ.out _ _ ⟨B2.out.drew, _, rfl, HP.out.on (Below.refl _ _).drew⟩
set_option maxRecDepth 100000 in
set_option maxHeartbeats 4000000 in
theorem rmeets_any (av_ bv : Value) (a b : List Cn) (w : World) (ha : RowC w av_ (a.map r5)) (hb : RowC w bv (b.map r5)) (na : NF a) (nb : NF b) : Calls Try.prog 10 #[av_, bv] w fun e w' => e = .returned (.bool (meetsB a b)) ∧ Below w.heap.size w w' := by
  have T := Lib.hid (tog_any av_ bv a b w ha hb na nb)
  have MM := Lib.hid (show meetsB a b = match foldC a.length a b with
    | .ok _ => true
    | .error _ => false from rfl)
  unfold TogQ at T
  generalize meetsB a b = r at *
  generalize foldC a.length a b = res at *
  clear ha hb na nb
  go_enter Try.func10, Try.ntmps10
  go_wp2_with fail
  refine T.out.mono ?_
  rintro e1 w1 ⟨hb1, h1⟩
  have B1 := Lib.hid hb1
  clear hb1 T
  rcases res with _ | p
  · obtain ⟨pv, rfl⟩ := h1
    have M := Lib.hid (show r = false from MM.out)
    clear MM
    go_wp2
    go_ret
    exact ⟨ret_bool M.out.symm, B1.out⟩
  · obtain ⟨pv, rfl, hp⟩ := h1
    have M := Lib.hid (show r = true from MM.out)
    clear MM hp
    go_wp2
    go_ret
    exact ⟨ret_bool M.out.symm, B1.out⟩
theorem call_one (v : Value) (w : World) : (callFunc 34 #[v]).run Try.prog w = .ok (.enter 34 #[v]) w := call_fn Try.func34 (by kernel_rfl) rfl _ _
def SamQ (p : List Cn) (w : World) (e : Ending) (w' : World) : Prop := ∃ lv, e = .returned lv ∧ OwnL w' w.heap.size lv (p.map oneA) ∧ Below w.heap.size w w'
set_option maxRecDepth 100000 in
set_option maxHeartbeats 8000000 in
theorem sample_own (pv : Value) (p : List Cn) (w : World) (hp : RowC w pv (p.map r5)) (h100 : p.length ≤ 100) : Calls Try.prog 18 #[pv] w (SamQ p w) := by
  have HP := Lib.hid hp
  obtain ⟨ao, ac, rfl⟩ := hp.len
  rw [List.length_map] at HP ⊢
  generalize hm : p.length = m at *
  have HM := Lib.hid hm
  clear hp hm
  go_enter Try.func18, Try.ntmps18
  go_wp2
  go_loopw [3, 8] (fun v i wr => ∃ k : Nat, k ≤ m ∧ i = .int .i64 k ∧ OwnL wr w.heap.size v ((p.take k).map oneA) ∧ Below w.heap.size w wr) (fun _ i _ => m - (intOf i).toNat)
  case atStart => exact ⟨0, Nat.zero_le _, rfl, own_nil _ _, Below.refl _ _⟩
  case round =>
    obtain ⟨k, hk, rfl, ho, hb⟩ := hrel
    have HB := Lib.hid hb
    have OW := Lib.hid ho
    clear hb ho
    by_cases hlt : k < m
    · obtain ⟨⟨xn, xk⟩, hx⟩ : ∃ x, p[k]? = some x := ⟨_, List.getElem?_eq_getElem (by rw [HM.out]; exact hlt)⟩
      obtain ⟨q, ix, px⟩ := elC (x := r5 (xn, xk)) HP.out rfl (by rw [List.length_map]; exact HM.out) (by rw [List.getElem?_map, hx]; rfl)
      obtain ⟨p0, p1, p2, p3, p4⟩ := px _ HB.out
      have TK := Lib.hid (show (p.take (k + 1)).map oneA = (p.take k).map oneA ++ [oneA (xn, xk)] by rw [List.take_add_one, hx, List.map_append]; rfl)
      have LK := Lib.hid (show ((p.take k).map oneA).length ≤ 100 by rw [List.length_map, List.length_take, HM.out]; omega)
      obtain ⟨⟨ot, oi, os⟩, hone⟩ : ∃ v, oneK xk = v := ⟨_, rfl⟩
      have C := Lib.hid (fun W => one_val (xn, xk) W)
      have OA := Lib.hid (show oneA (xn, xk) = (xn, ot, oi, os) by unfold oneA; rw [hone])
      simp only [hone, r5] at C
      simp only [r5] at p0 p1 p2 p3 p4
      have BX := Lib.hid (show Box (wr.alloc (.cells #[.string xn, .int .i64 (kN xk), .int .i64 (kLo xk), .int .i64 (kHi xk), .string (kT xk)] 23)) wr.heap.size (cells5 (xn, kN xk, kLo xk, kHi xk, kT xk)).toArray 23 from box_new wr _ _)
      have B1 := Lib.hid ((Below.refl wr.heap.size wr).alloc (Nat.le_refl _) (.cells #[.string xn, .int .i64 (kN xk), .int .i64 (kLo xk), .int .i64 (kHi xk), .string (kT xk)] 23))
      clear hx px hone
      go_wp2_with fail
      clear ix p0 p1 p2 p3 p4
      have hlt1 : wr.heap.size < (wr.alloc (.cells #[.string xn, .int .i64 (kN xk), .int .i64 (kLo xk), .int .i64 (kHi xk), .string (kT xk)] 23)).heap.size := by simp
      generalize wr.alloc (.cells #[.string xn, .int .i64 (kN xk), .int .i64 (kLo xk), .int .i64 (kHi xk), .string (kT xk)] 23) = W1 at *
      obtain ⟨x0, x1, x2, x3, x4⟩ := box_five BX.out.drew
      simp only at x0 x1 x2 x3 x4
      go_region_law (first
        | (refine step_call_run rfl (ex_call1 _ _ (.tmp 15) 23 34 rfl rfl rfl _ (call_one _ _)) (C.out _) ?_; rintro e3 w3 ⟨rfl, hb3⟩; have B3 := Lib.hid (B1.out.drew.trans (hb3.mono B1.out.drew.size)); have y0 := (hb3.cell (p := ⟨wr.heap.size, 0, none⟩) hlt1).trans x0; obtain ⟨v4, w4, r4, o4, g4⟩ := app_row okA w.heap.size (own_on OW.out (B3.out.alloc B3.out.size (.cells #[.string xn, .bool ot, .int .i64 oi, .string os] 47))) (Row.of_own (row_lit okA w3 [(xn, ot, oi, os)] 1 rfl (by simp) #[.string xn, .bool ot, .int .i64 oi, .string os] rfl)) (by have := LK.out; omega) (by simp) (by have := HB.out.size; have := B3.out.size; simp; omega) 32; have r4 : (Builtin.append_ #[32, 32] 32 _).run Try.prog (w3.alloc (.cells #[.string xn, .bool ot, .int .i64 oi, .string os] 47)) = _ := r4; have O4 := Lib.hid o4; have G4 := Lib.hid g4; clear o4 g4; refine ⟨_, rfl, ?_⟩)
        | (refine step_append_run rfl (.tmp 12) (.tmp 18) 32 rfl rfl rfl r4 ?_))
      all_goals simp only [Exit.inBlock, Exit.then]
      all_goals apply_assumption
      all_goals
        have BN := Lib.hid (((HB.out.trans (B3.out.mono HB.out.size)).alloc (by have := HB.out.size; have := B3.out.size; omega) (.cells #[.string xn, .bool ot, .int .i64 oi, .string os] 47)).grown G4.out (by have := HB.out.size; have := B3.out.size; simp; omega) (fun j hj => (OW.out.lt j hj).1))
        have ON := Lib.hid (show OwnL w4 w.heap.size v4 ((p.take (k + 1)).map oneA) by rw [TK.out, OA.out]; exact O4.out)
        clear r4 x0 x1 x2 x3 x4 y0 hb3 hlt1
        go_wp2
        go_roundw
        case rel => exact ⟨k + 1, by omega, by go_num, ON.out, BN.out⟩
        case measure => simp [intOf]; omega
    · obtain rfl : k = m := by omega
      have Q := Lib.hid (show OwnL wr w.heap.size u3 (p.map oneA) by have h := OW.out; rw [← HM.out, List.take_length] at h; exact h)
      go_wp2
      go_ret
      exact ⟨_, rfl, Q.out, HB.out⟩
theorem rsample_any (av_ : Value) (a : List Cn) (w : World) (ha : RowC w av_ (a.map r5)) (na : NF a) : Calls Try.prog 18 #[av_] w (SampleQ a w) := by
  refine (sample_own av_ a w ha (by have := na.five; omega)).mono ?_
  rintro e w' ⟨lv, rfl, ho, hb⟩
  exact ⟨lv, a.map oneA, rfl, Row.of_own ho, sample_nl na, sample_right na, sample_match na.goodK, List.length_map .., hb⟩
set_option maxRecDepth 100000 in
set_option maxHeartbeats 4000000 in
theorem rjoint_any (av_ bv : Value) (a b : List Cn) (w : World) (ha : RowC w av_ (a.map r5)) (hb : RowC w bv (b.map r5)) (na : NF a) (nb : NF b) : Calls Try.prog 19 #[av_, bv] w (JointQ a b w) := by
  have T := Lib.hid (tog_any av_ bv a b w ha hb na nb)
  have NJ := Lib.hid (fun p (h : foldC a.length a b = .ok p) => nf_joint na nb h)
  have JM := Lib.hid (fun p l (h : foldC a.length a b = .ok p) (h2 : (l.map (·.1)).Nodup) (h3 : matchL p l = true) => joint_match na nb h h2 h3)
  have MM := Lib.hid (show meetsB a b = match foldC a.length a b with
    | .ok _ => true
    | .error _ => false from rfl)
  obtain ⟨res, hres⟩ : ∃ r, foldC a.length a b = r := ⟨_, rfl⟩
  unfold TogQ at T
  rw [hres] at T MM
  simp only [hres] at NJ JM
  have JN := Lib.hid (fun e w' (h : ∃ lv j, e = Ending.returned (.tuple #[lv, .bool (meetsB a b)]) ∧ RowL w' lv j ∧ (meetsB a b = false → j = []) ∧ (meetsB a b = true → NL j ∧ At.rightT j = true ∧ matchL a j = true ∧ matchL b j = true) ∧ Below w.heap.size w w') => (show JointQ a b w e w' from h))
  generalize JointQ a b w = q at *
  generalize meetsB a b = r at *
  clear ha hb na nb hres
  go_enter Try.func19, Try.ntmps19
  go_wp2_with fail
  refine T.out.mono ?_
  rintro e1 w1 ⟨hb1, h1⟩
  have B1 := Lib.hid hb1
  clear hb1 T
  rcases res with _ | p
  · obtain ⟨pv, rfl⟩ := h1
    have M := Lib.hid (show r = false from MM.out)
    clear MM NJ JM
    go_wp2
    rw [M.out] at JN
    exact JN.out _ _ ⟨_, [], rfl, row_nil _, fun _ => rfl, (fun h => by cases h), B1.out⟩
  · obtain ⟨pv, rfl, hp⟩ := h1
    have M := Lib.hid (show r = true from MM.out)
    have SM := Lib.hid (rsample_any pv p w1 hp (NJ.out p rfl))
    clear MM hp NJ
    go_wp2_with fail
    refine SM.out.mono ?_
    rintro e2 w2 ⟨lv, s, rfl, hr, hn, hrt, hm, hl, hb2⟩
    have B2 := Lib.hid (B1.out.trans (hb2.mono B1.out.size))
    have FN := Lib.hid (show RowL w2 lv s ∧ NL s ∧ At.rightT s = true ∧ matchL p s = true from ⟨hr, hn, hrt, hm⟩)
    clear hb2 B1 SM hr hn hrt hm hl
    go_wp2
    rw [M.out] at JN
    obtain ⟨f1, f2, f3, f4⟩ := FN.out
    obtain ⟨m1, m2⟩ := JM.out p s rfl f2.nodup f4
    exact JN.out _ _ ⟨_, s, rfl, f1, (fun h => by cases h), fun _ => ⟨f2, f3, m1, m2⟩, B2.out⟩
end Go.Proofs.Ytdomincmoaahoaa.Rl
