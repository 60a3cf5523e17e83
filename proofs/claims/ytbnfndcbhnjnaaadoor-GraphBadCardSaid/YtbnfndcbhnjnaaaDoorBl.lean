/-
  Package graph: is one a broker, does a link join brokers, a link turned round. No condition.
  Is a link one of these links, either way round. Condition: lists no longer than a machine holds.
  slices.Compact where no two neighbours are the same: nothing is done. Condition: lists no longer than a machine holds.
  What Check of package graph tells, purely: the first link that may not be. No program's function in it.
  Linked of package graph: does a link join these. Condition: all links are between brokers.
-/
import Derived.Test.YtbnfndcbhnjnaaaDoorBk
import Derived.Test.YtbnfndcbhnjnaaaDoorBb
import Derived.Lib.Hide
import Derived.Lib.QuietBelow
import Derived.BigQuiet
import Derived.ChangeKeysEq
namespace Go.Proofs.YtbnfndcbhnjnaaaDoor.Gr
open Go.RowKit Go.Sort Go.Proofs.YtbnfndcbhnjnaaaDoor Go.Proofs.YtbnfndcbhnjnaaaDoor.Rw

/-- A graph, as a value. -/
abbrev gv (n : Int) (lv : Value) : Value := .agg #[.int .i64 n, lv]
def inR (n b : Int) : Bool := decide (0 ≤ b) && decide (b < n)
def inL (n : Int) (l : Lk) : Bool := inR n l.1 && inR n l.2
theorem inR_iff {n b : Int} : inR n b = true ↔ 0 ≤ b ∧ b < n := by unfold inR; simp
theorem inL_iff {n : Int} {l : Lk} : inL n l = true ↔ (0 ≤ l.1 ∧ l.1 < n) ∧ (0 ≤ l.2 ∧ l.2 < n) := by unfold inL; simp [inR_iff]
theorem ret_b {b c : Bool} (h : b = c) : Ending.returned (.bool b) = .returned (.bool c) := by rw [h]
set_option maxRecDepth 100000 in
theorem there_any (n b : Int) (lv : Value) (w : World) : Calls Tryd.prog 43 #[gv n lv, .int .i64 b] w fun e w' => e = .returned (.bool (inR n b)) ∧ Below w.heap.size w w' := by
  have B := Lib.hid (show Below w.heap.size w (w.alloc (.cells #[.int .i64 n, lv] 25)) from (Below.refl _ _).alloc (Nat.le_refl _) _)
  have R := Lib.hid (show inR n b = (decide (0 ≤ b) && decide (b < n)) from rfl)
  generalize inR n b = r at *
  by_cases h : 0 ≤ b
  all_goals
    have H := Lib.hid h
    go_enter Tryd.func43, Tryd.ntmps43
    go_wp2
    go_ret
    exact ⟨ret_b (by rw [R.out]; have := H.out; simp [*] <;> omega), B.out⟩
theorem there_re (n b : Int) (lv : Value) (w : World) (r : Bool) (hr : inR n b = r) (d : Nat) (os : Array Obj) : Calls Tryd.prog 43 #[gv n lv, .int .i64 b] (grow (redrawn w d) os) fun e w' => e = .returned (.bool r) ∧ ∃ p : Regrown, w' = grow (redrawn w p.d) p.os := by
  subst hr
  exact Calls.regrown_of (there_any n b lv _)
set_option maxRecDepth 100000 in
set_option maxHeartbeats 4000000 in
theorem joins_any (n : Int) (lv : Value) (l : Lk) (w : World) : Calls Tryd.prog 26 #[gv n lv, kv l] w fun e w' => e = .returned (.bool (inL n l)) ∧ Below w.heap.size w w' := by
  obtain ⟨x, y⟩ := l
  have B := Lib.hid (show Below w.heap.size w ((w.alloc (.cells #[.int .i64 n, lv] 25)).alloc (.cells #[.int .i64 x, .int .i64 y] 22)) from ((Below.refl _ _).alloc (Nat.le_refl _) _).alloc (by simp) _)
  have X := Lib.hid ((box_new w #[.int .i64 n, lv] 25).more (.cells #[.int .i64 x, .int .i64 y] 22))
  have Y := Lib.hid (show Box ((w.alloc (.cells #[.int .i64 n, lv] 25)).alloc (.cells #[.int .i64 x, .int .i64 y] 22)) (w.heap.size + 1) #[.int .i64 x, .int .i64 y] 22 by
    have h := box_new (w.alloc (.cells #[.int .i64 n, lv] 25)) #[.int .i64 x, .int .i64 y] 22
    simpa using h)
  have R := Lib.hid (show inL n (x, y) = (inR n x && inR n y) from rfl)
  generalize inL n (x, y) = r at *
  obtain ⟨b1, h1⟩ : ∃ b, inR n x = b := ⟨_, rfl⟩
  obtain ⟨b2, h2⟩ : ∃ b, inR n y = b := ⟨_, rfl⟩
  rw [h1, h2] at R
  go_enter Tryd.func26, Tryd.ntmps26
  go_wp2_with fail
  generalize (w.alloc (.cells #[.int .i64 n, lv] 25)).alloc (.cells #[.int .i64 x, .int .i64 y] 22) = W at *
  refine (there_any n x lv W).mono ?_
  rintro e w2 ⟨rfl, hb⟩
  rw [h1]
  have a0 := (X.out.on hb).cell 0
  have a1 := (X.out.on hb).cell 1
  have a2 := (Y.out.on hb).cell 0
  have a3 := (Y.out.on hb).cell 1
  simp at a0 a1 a2 a3
  have B2 := Lib.hid (B.out.trans (hb.mono B.out.size))
  clear X Y B hb h1
  cases b1
  · go_wp2
    go_ret
    exact ⟨ret_b (by rw [R.out]; simp), B2.out⟩
  · go_wp2_with fail
    refine (there_any n y lv w2).mono ?_
    rintro e w3 ⟨rfl, hb3⟩
    rw [h2]
    have B3 := Lib.hid (B2.out.trans (hb3.mono B2.out.size))
    clear hb3
    go_wp2
    go_ret
    exact ⟨ret_b (by rw [R.out]; simp), B3.out⟩
theorem joins_re (n : Int) (lv : Value) (l : Lk) (w : World) (r : Bool) (hr : inL n l = r) (d : Nat) (os : Array Obj) : Calls Tryd.prog 26 #[gv n lv, kv l] (grow (redrawn w d) os) fun e w' => e = .returned (.bool r) ∧ ∃ p : Regrown, w' = grow (redrawn w p.d) p.os := by
  subst hr
  exact Calls.regrown_of (joins_any n lv l _)
set_option maxRecDepth 100000 in
theorem turned_any (l : Lk) (w : World) : Calls Tryd.prog 31 #[kv l] w fun e w' => e = .returned (kv (l.2, l.1)) ∧ Below w.heap.size w w' := by
  obtain ⟨x, y⟩ := l
  go_enter Tryd.func31, Tryd.ntmps31
  go_wp2
  exact bodyPost_ret (v := kv (y, x)) (by simp [results, Tryd.results31, go_sem]) rfl ⟨rfl, by first | exact ((Below.refl _ _).alloc (Nat.le_refl _) _).alloc (by simp) _ | exact ((((Below.refl _ _).alloc (Nat.le_refl _) _).alloc (by simp) _).setCell (by simp) _).setCell (by simp) _⟩
end Go.Proofs.YtbnfndcbhnjnaaaDoor.Gr

namespace Go.Proofs.YtbnfndcbhnjnaaaDoor.Gr
open Go.RowKit Go.Sort Go.Proofs.YtbnfndcbhnjnaaaDoor Go.Proofs.YtbnfndcbhnjnaaaDoor.Rw

theorem stoodK : Tryd.prog.stoodInHeld 22 = false := by kernel_rfl
set_option maxRecDepth 100000 in
theorem equalK (x y : Lk) (w : World) : (Op.equalIn 10000 22 (kv x) (kv y)).run Tryd.prog w = .ok (decide (x = y)) w := by
  have c1 : Tryd.prog.cellsOf 3 = 1 := by kernel_rfl
  obtain ⟨i, hi⟩ : ∃ i, Tryd.prog.info? 3 = some i := by
    cases h : Tryd.prog.info? 3 with
    | none => exact absurd (show (Tryd.prog.info? 3).isSome = true by kernel_rfl) (by rw [h]; simp)
    | some i => exact ⟨i, rfl⟩
  have h := run_equalIn_array (P := Tryd.prog) w 9999 #[.int .i64 x.1, .int .i64 x.2] #[.int .i64 y.1, .int .i64 y.2] Tryd.underlying22 hi
  refine h.trans ?_
  rw [c1]
  obtain ⟨a, b⟩ := x
  obtain ⟨c, d⟩ := y
  by_cases h1 : a = c <;> by_cases h2 : b = d <;> simp [Op.eqItems, go_sem, Tryd.underlying3, h1, h2, List.range, List.range.loop]
theorem eqlK (x y : Lk) (r : Bool) (hr : decide (x = y) = r) (w : World) : (binOp .eql 22 (kv x) (kv y)).run Tryd.prog w = .ok (.bool r) w := by
  subst hr
  have h := equalK x y w
  have st := stoodK
  simp [go_sem, h]
set_option maxRecDepth 100000 in
set_option maxHeartbeats 4000000 in
theorem index_any (lv : Value) (l : List Lk) (x : Lk) (w : World) (hl : RowK w lv l) : Calls Tryd.prog 52 #[lv, kv x] w fun e w' => (∃ r : Int, e = .returned (.int .i64 r) ∧ (0 ≤ r ↔ x ∈ l)) ∧ Below w.heap.size w w' := by
  have HL := Lib.hid hl
  have HM := Lib.hid hl.most
  obtain ⟨ao, ac, rfl⟩ := hl.len
  obtain ⟨n, hn⟩ : ∃ n, n = l.length := ⟨_, rfl⟩
  have HN := Lib.hid hn
  rw [← hn] at HL HM ⊢
  clear hl hn
  have B := Lib.hid (show Below w.heap.size w (w.alloc (.cells #[.int .i64 x.1, .int .i64 x.2] 22)) from (Below.refl _ _).alloc (Nat.le_refl _) _)
  have X := Lib.hid (box_new w #[.int .i64 x.1, .int .i64 x.2] 22)
  go_enter Tryd.func52, Tryd.ntmps52
  go_wp2
  generalize w.alloc (.cells #[.int .i64 x.1, .int .i64 x.2] 22) = W at *
  go_loopw [8] (fun i wr => ∃ k : Nat, k ≤ n ∧ i = .int .i64 k ∧ Below W.heap.size W wr ∧ ∀ (j : Nat) (y : Lk), j < k → l[j]? = some y → x ≠ y) (fun i _ => n - (intOf i).toNat)
  case atStart => exact ⟨0, Nat.zero_le _, rfl, Below.refl _ _, fun j y h => by omega⟩
  case round =>
    obtain ⟨k, hk, rfl, hb, hall⟩ := hrel
    have HB := Lib.hid hb
    have AL := Lib.hid hall
    have a0 := (X.out.on hb).cell 0
    have a1 := (X.out.on hb).cell 1
    simp at a0 a1
    clear hb hall
    have hm : n ≤ maxLen := HM.out
    unfold maxLen at hm
    by_cases hlt : k < n
    · obtain ⟨y, hy⟩ : ∃ y, l[k]? = some y := ⟨_, List.getElem?_eq_getElem (by rw [← HN.out]; exact hlt)⟩
      obtain ⟨p, ix, px⟩ := elK HL.out rfl HN.out.symm hy
      obtain ⟨p0, p1⟩ := px _ (B.out.trans (HB.out.mono B.out.size))
      have HY := Lib.hid hy
      obtain ⟨r, hr⟩ : ∃ r, decide (x = y) = r := ⟨_, rfl⟩
      have EQ := eqlK x y r hr
      have HR := Lib.hid hr
      clear hy px hr
      cases r
      · go_wp2
        go_quiet (fail)
        go_wp2
        go_roundw
        case rel => exact ⟨k + 1, by omega, by go_num, ⟨HB.out.os, HB.out.tape, HB.out.output, HB.out.size, HB.out.block⟩, fun j z hj hz => by
          rcases Nat.lt_or_ge j k with h3 | h3
          · exact AL.out j z h3 hz
          · obtain rfl : j = k := by omega
            have e := HY.out
            rw [hz] at e
            rw [Option.some.inj e]
            exact of_decide_eq_false HR.out⟩
        case measure => simp [intOf]; omega
      · have B2 := Lib.hid (B.out.trans (HB.out.mono B.out.size))
        go_wp2
        go_quiet (fail)
        go_wp2
        go_ret
        exact ⟨⟨k, rfl, ⟨fun _ => by rw [of_decide_eq_true HR.out]; exact List.mem_of_getElem? HY.out, fun _ => by omega⟩⟩, ⟨B2.out.os, B2.out.tape, B2.out.output, B2.out.size, B2.out.block⟩⟩
    · obtain rfl : k = n := by omega
      have B2 := Lib.hid (B.out.trans (HB.out.mono B.out.size))
      go_wp2
      go_ret
      refine ⟨⟨-1, rfl, ⟨fun h => absurd h (by omega), fun h => ?_⟩⟩, B2.out⟩
      obtain ⟨j, hj, e⟩ := List.getElem_of_mem h
      exact absurd e.symm (AL.out j _ (by rw [HN.out]; exact hj) (List.getElem?_eq_getElem hj))
set_option maxRecDepth 100000 in
set_option maxHeartbeats 4000000 in
theorem contains_any (lv : Value) (l : List Lk) (x : Lk) (w : World) (hl : RowK w lv l) : Calls Tryd.prog 44 #[lv, kv x] w fun e w' => e = .returned (.bool (decide (x ∈ l))) ∧ Below w.heap.size w w' := by
  have B := Lib.hid (show Below w.heap.size w (w.alloc (.cells #[.int .i64 x.1, .int .i64 x.2] 22)) from (Below.refl _ _).alloc (Nat.le_refl _) _)
  have I := Lib.hid (index_any lv l x _ (hl.on B.out))
  obtain ⟨ao, ac, rfl⟩ := hl.len
  clear hl
  go_enter Tryd.func44, Tryd.ntmps44
  go_wp2_with fail
  refine I.out.mono ?_
  rintro e w2 ⟨⟨r, rfl, hr⟩, hb⟩
  have B2 := Lib.hid (B.out.trans (hb.mono B.out.size))
  have HR := Lib.hid hr
  clear hb hr
  go_wp2
  go_ret
  exact ⟨ret_b (by have := HR.out; by_cases h : x ∈ l <;> simp [h] <;> simp [h] at this <;> omega), B2.out⟩
def twiceB (ls : List Lk) (l : Lk) : Bool := decide (l ∈ ls) || decide ((l.2, l.1) ∈ ls)
set_option maxRecDepth 100000 in
set_option maxHeartbeats 4000000 in
theorem twice_any (lv : Value) (l : List Lk) (x : Lk) (w : World) (hl : RowK w lv l) : Calls Tryd.prog 27 #[lv, kv x] w fun e w' => e = .returned (.bool (twiceB l x)) ∧ Below w.heap.size w w' := by
  have HL := Lib.hid hl
  have B := Lib.hid (show Below w.heap.size w (w.alloc (.cells #[.int .i64 x.1, .int .i64 x.2] 22)) from (Below.refl _ _).alloc (Nat.le_refl _) _)
  have X := Lib.hid (box_new w #[.int .i64 x.1, .int .i64 x.2] 22)
  have C := Lib.hid (contains_any lv l x _ (hl.on B.out))
  have R := Lib.hid (show twiceB l x = (decide (x ∈ l) || decide ((x.2, x.1) ∈ l)) from rfl)
  generalize twiceB l x = r at *
  obtain ⟨ao, ac, rfl⟩ := hl.len
  obtain ⟨b1, h1⟩ : ∃ b, decide (x ∈ l) = b := ⟨_, rfl⟩
  rw [h1] at R C
  clear hl h1
  go_enter Tryd.func27, Tryd.ntmps27
  go_wp2_with fail
  generalize w.alloc (.cells #[.int .i64 x.1, .int .i64 x.2] 22) = W at *
  refine C.out.mono ?_
  rintro e w2 ⟨rfl, hb⟩
  have B2 := Lib.hid (B.out.trans (hb.mono B.out.size))
  have a0 := (X.out.on hb).cell 0
  have a1 := (X.out.on hb).cell 1
  simp at a0 a1
  clear hb C X B
  cases b1
  · go_wp2_with fail
    refine (turned_any x w2).mono ?_
    rintro e w3 ⟨rfl, hb3⟩
    have B3 := Lib.hid (B2.out.trans (hb3.mono B2.out.size))
    clear hb3
    go_wp2_with fail
    refine (contains_any _ l (x.2, x.1) w3 (HL.out.on B3.out)).mono ?_
    rintro e w4 ⟨rfl, hb4⟩
    have B4 := Lib.hid (B3.out.trans (hb4.mono B3.out.size))
    clear hb4
    go_wp2
    go_ret
    exact ⟨ret_b (by rw [R.out]; simp), B4.out⟩
  · go_wp2
    go_ret
    exact ⟨ret_b (by rw [R.out]; simp), B2.out⟩
end Go.Proofs.YtbnfndcbhnjnaaaDoor.Gr

namespace Go.Proofs.YtbnfndcbhnjnaaaDoor.Gr
open Go.RowKit Go.Sort Go.Proofs.YtbnfndcbhnjnaaaDoor Go.Proofs.YtbnfndcbhnjnaaaDoor.Rw

set_option maxRecDepth 100000 in
set_option maxHeartbeats 4000000 in
theorem compactK_any (lv : Value) (l : List Lk) (w : World) (hl : RowK w lv l) (hne : ∀ (k : Nat) (x y : Lk), l[k]? = some x → l[k + 1]? = some y → y ≠ x) : Calls Tryd.prog 36 #[lv] w fun e w' => e = .returned lv ∧ Below w.heap.size w w' := by
  have HL := Lib.hid hl
  have HM := Lib.hid hl.most
  have NE := Lib.hid hne
  obtain ⟨ao, ac, rfl⟩ := hl.len
  obtain ⟨m, hn⟩ : ∃ m, m = l.length := ⟨_, rfl⟩
  have HN := Lib.hid hn
  rw [← hn] at HL HM ⊢
  clear hl hn hne
  have hm : m ≤ maxLen := HM.out
  unfold maxLen at hm
  by_cases h2 : m < 2
  · go_enter Tryd.func36, Tryd.ntmps36
    go_wp2
    go_ret
    exact ⟨rfl, Below.refl _ _⟩
  · go_enter Tryd.func36, Tryd.ntmps36
    go_wp2
    go_loopw [3] (fun i wr => ∃ k : Nat, k + 1 ≤ m ∧ i = .int .i64 ((k + 1 : Nat) : Int) ∧ Below w.heap.size w wr) (fun i _ => m - (intOf i).toNat)
    case atStart => exact ⟨0, by omega, rfl, Below.refl _ _⟩
    case round =>
      obtain ⟨k, hk, rfl, hb⟩ := hrel
      have HB := Lib.hid hb
      clear hb
      by_cases hlt : k + 1 < m
      · obtain ⟨x, hx⟩ : ∃ x, l[k]? = some x := ⟨_, List.getElem?_eq_getElem (by rw [← HN.out]; omega)⟩
        obtain ⟨y, hy⟩ : ∃ y, l[k + 1]? = some y := ⟨_, List.getElem?_eq_getElem (by rw [← HN.out]; omega)⟩
        have hyx := NE.out k x y hx hy
        obtain ⟨p, ix, px⟩ := elK HL.out rfl HN.out.symm hx
        obtain ⟨q, iy, py⟩ := elK HL.out rfl HN.out.symm hy
        rw [show ((k + 1 : Nat) : Int) = (k : Int) + 1 by omega] at iy
        obtain ⟨p0, p1⟩ := px _ HB.out
        obtain ⟨q0, q1⟩ := py _ HB.out
        have EQ := eqlK y x false (by simpa using hyx)
        clear hx hy px py hyx
        have w1 : IntKind.i64.wrap ((k : Int) + 1 - 1) = k := by rw [show (k : Int) + 1 - 1 = k by omega]; exact IntWalk.i64_in _ (by omega)
        go_wp2
        go_quiet (fail)
        go_wp2
        go_roundw
        case rel => exact ⟨k + 1, by omega, by go_num, ⟨HB.out.os, HB.out.tape, HB.out.output, HB.out.size, HB.out.block⟩⟩
        case measure => simp [intOf]; omega
      · have e : k + 1 = m := by omega
        go_wp2
        go_ret
        exact ⟨rfl, HB.out⟩
set_option maxRecDepth 100000 in
set_option maxHeartbeats 4000000 in
theorem compactI_any (lv : Value) (l : List Int) (w : World) (hl : RowI w lv l) (hne : ∀ (k : Nat) (x y : Int), l[k]? = some x → l[k + 1]? = some y → y ≠ x) : Calls Tryd.prog 30 #[lv] w fun e w' => e = .returned lv ∧ Below w.heap.size w w' := by
  have HL := Lib.hid hl
  have HM := Lib.hid hl.most
  have NE := Lib.hid hne
  obtain ⟨ao, ac, rfl⟩ := hl.len
  obtain ⟨m, hn⟩ : ∃ m, m = l.length := ⟨_, rfl⟩
  have HN := Lib.hid hn
  rw [← hn] at HL HM ⊢
  clear hl hn hne
  have hm : m ≤ maxLen := HM.out
  unfold maxLen at hm
  by_cases h2 : m < 2
  · go_enter Tryd.func30, Tryd.ntmps30
    go_wp2
    go_ret
    exact ⟨rfl, Below.refl _ _⟩
  · go_enter Tryd.func30, Tryd.ntmps30
    go_wp2
    go_loopw [3] (fun i wr => ∃ k : Nat, k + 1 ≤ m ∧ i = .int .i64 ((k + 1 : Nat) : Int) ∧ Below w.heap.size w wr) (fun i _ => m - (intOf i).toNat)
    case atStart => exact ⟨0, by omega, rfl, Below.refl _ _⟩
    case round =>
      obtain ⟨k, hk, rfl, hb⟩ := hrel
      have HB := Lib.hid hb
      clear hb
      by_cases hlt : k + 1 < m
      · obtain ⟨x, hx⟩ : ∃ x, l[k]? = some x := ⟨_, List.getElem?_eq_getElem (by rw [← HN.out]; omega)⟩
        obtain ⟨y, hy⟩ : ∃ y, l[k + 1]? = some y := ⟨_, List.getElem?_eq_getElem (by rw [← HN.out]; omega)⟩
        have hyx := NE.out k x y hx hy
        obtain ⟨p, ix, _, px⟩ := elI HL.out rfl HN.out.symm hx
        obtain ⟨q, iy, _, py⟩ := elI HL.out rfl HN.out.symm hy
        rw [show ((k + 1 : Nat) : Int) = (k : Int) + 1 by omega] at iy
        have p0 := px _ HB.out
        have q0 := py _ HB.out
        have EQ : ((y : Int) == x) = false := by simpa using hyx
        clear hx hy px py hyx
        have w1 : IntKind.i64.wrap ((k : Int) + 1 - 1) = k := by rw [show (k : Int) + 1 - 1 = k by omega]; exact IntWalk.i64_in _ (by omega)
        go_wp2
        go_quiet (fail)
        go_wp2
        go_roundw
        case rel => exact ⟨k + 1, by omega, by go_num, ⟨HB.out.os, HB.out.tape, HB.out.output, HB.out.size, HB.out.block⟩⟩
        case measure => simp [intOf]; omega
      · have e : k + 1 = m := by omega
        go_wp2
        go_ret
        exact ⟨rfl, HB.out⟩
theorem rise_ne {α : Type} {r : α → α → Prop} (irr : ∀ x, ¬ r x x) {l : List α} (h : l.Pairwise r) (k : Nat) (x y : α) (hx : l[k]? = some x) (hy : l[k + 1]? = some y) : y ≠ x := by
  rintro rfl
  obtain ⟨h1, e1⟩ := List.getElem?_eq_some_iff.1 hx
  obtain ⟨h2, e2⟩ := List.getElem?_eq_some_iff.1 hy
  have := List.pairwise_iff_getElem.1 h k (k + 1) h1 h2 (by omega)
  rw [e1, e2] at this
  exact irr _ this
end Go.Proofs.YtbnfndcbhnjnaaaDoor.Gr

namespace Go.Proofs.YtbnfndcbhnjnaaaDoor.Gr
open Go.RowKit Go.Sort Go.Proofs.YtbnfndcbhnjnaaaDoor Go.Proofs.YtbnfndcbhnjnaaaDoor.Rw

/-- All links may be, as far as one link says it. -/
def Good (n : Int) (ls : List Lk) : Prop := Lok n ls ∧ Simp ls
/-- This link may not be behind those. -/
def badB (n : Int) (pre : List Lk) (x : Lk) : Bool := !inL n x || (decide (x.1 = x.2) || twiceB pre x)
theorem badB_iff {n : Int} {pre : List Lk} {x : Lk} : badB n pre x = true ↔ ¬ ((0 ≤ x.1 ∧ x.1 < n) ∧ (0 ≤ x.2 ∧ x.2 < n)) ∨ x.1 = x.2 ∨ x ∈ pre ∨ (x.2, x.1) ∈ pre := by
  unfold badB twiceB
  simp only [Bool.or_eq_true, Bool.not_eq_true', decide_eq_true_eq, ← Bool.not_eq_true, inL_iff]
theorem good_nil (n : Int) : Good n [] := ⟨fun l h => by simp at h, ⟨List.Pairwise.nil, fun l h => by simp at h⟩⟩
theorem good_snoc {n : Int} {pre : List Lk} {x : Lk} : Good n (pre ++ [x]) ↔ Good n pre ∧ badB n pre x = false := by
  rw [← Bool.not_eq_true, badB_iff]
  unfold Good Lok Simp
  simp only [List.pairwise_append, List.mem_append, List.mem_singleton]
  constructor
  · rintro ⟨h1, ⟨h2, h3, h4⟩, h5⟩
    refine ⟨⟨fun l hl => h1 l (Or.inl hl), h2, fun l hl => h5 l (Or.inl hl)⟩, ?_⟩
    rintro (h | h | h | h)
    · exact h (h1 x (Or.inr rfl))
    · exact h5 x (Or.inr rfl) h
    · exact (h4 _ h x rfl).1 rfl
    · exact (h4 _ h x rfl).2 rfl
  · rintro ⟨⟨h1, h2, h3⟩, h⟩
    have hx1 : (0 ≤ x.1 ∧ x.1 < n) ∧ (0 ≤ x.2 ∧ x.2 < n) := Decidable.byContradiction fun h4 => h (Or.inl h4)
    have hx2 : x.1 ≠ x.2 := fun h4 => h (Or.inr (Or.inl h4))
    refine ⟨?_, ⟨h2, List.pairwise_singleton _ _, ?_⟩, ?_⟩
    · rintro l (hl | rfl)
      · exact h1 l hl
      · exact hx1
    · rintro a ha b rfl
      refine ⟨fun e => h (Or.inr (Or.inr (Or.inl (by rw [e]; exact ha)))), fun e => h (Or.inr (Or.inr (Or.inr ?_)))⟩
      rw [e]
      exact ha
    · rintro l (hl | rfl)
      · exact h3 l hl
      · exact hx2
theorem good_take {n : Int} {ls : List Lk} (h : Good n ls) (k : Nat) : Good n (ls.take k) :=
  ⟨fun l hl => h.1 l (List.mem_of_mem_take hl), h.2.1.sublist (List.take_sublist _ _), fun l hl => h.2.2 l (List.mem_of_mem_take hl)⟩
theorem good_at {n : Int} {ls : List Lk} {k i : Nat} {x : Lk} (h : Good n (ls.take i)) (hk : k < i) (hx : ls[k]? = some x) : badB n (ls.take k) x = false := by
  have h1 := good_take h (k + 1)
  rw [List.take_take, Nat.min_eq_left (by omega), List.take_add_one, hx] at h1
  exact (good_snoc.1 h1).2
theorem take_succ_of {ls : List Lk} {k : Nat} {x : Lk} (hx : ls[k]? = some x) : ls.take (k + 1) = ls.take k ++ [x] := by
  rw [List.take_add_one, hx]
  rfl
/-- Counts that may be. -/
def Few (n : Int) (ls : List Lk) : Prop := 1 ≤ n ∧ n ≤ 64 ∧ ls.length ≤ 200
/-- The first link that may not be. -/
def FirstBad (n : Int) (ls : List Lk) (k : Nat) : Prop := ∃ x, ls[k]? = some x ∧ Good n (ls.take k) ∧ badB n (ls.take k) x = true
/-- All brokers can be reached. -/
def Reached (n : Int) (ls : List Lk) : Prop := ∀ v : Int, 0 ≤ v → v < n → ∃ k, Wk ls k 0 v
/-- What is wrong, and where it is told. -/
def BadAt (n : Int) (ls : List Lk) (r : Int) : Prop := (¬ Few n ls ∧ r = -1) ∨ (Few n ls ∧ ∃ k : Nat, r = k ∧ FirstBad n ls k) ∨ (Few n ls ∧ Good n ls ∧ r = -1 ∧ ¬ Reached n ls)
theorem first_uniq {n : Int} {ls : List Lk} {i j : Nat} (h : FirstBad n ls i) (h' : FirstBad n ls j) : i = j := by
  obtain ⟨x, hx, h1, h2⟩ := h
  obtain ⟨y, hy, h3, h4⟩ := h'
  rcases Nat.lt_trichotomy i j with h5 | h5 | h5
  · rw [good_at h3 h5 hx] at h2
    cases h2
  · exact h5
  · rw [good_at h1 h5 hy] at h4
    cases h4
theorem first_not {n : Int} {ls : List Lk} {i : Nat} (h : FirstBad n ls i) (hg : Good n ls) : False := by
  obtain ⟨x, hx, h1, h2⟩ := h
  have hi := (List.getElem?_eq_some_iff.1 hx).1
  have h3 : Good n (ls.take ls.length) := by rw [List.take_length]; exact hg
  rw [good_at h3 hi hx] at h2
  cases h2
theorem BadAt.first {n : Int} {ls : List Lk} {r : Int} {k : Nat} (h : BadAt n ls r) (hf : Few n ls) (hk : FirstBad n ls k) : r = k := by
  rcases h with ⟨h1, _⟩ | ⟨_, j, rfl, h2⟩ | ⟨_, h2, _, _⟩
  · exact absurd hf h1
  · rw [first_uniq h2 hk]
  · exact (first_not hk h2).elim
theorem BadAt.far {n : Int} {ls : List Lk} {r : Int} (h : BadAt n ls r) (hg : Good n ls) : r = -1 := by
  rcases h with ⟨_, h1⟩ | ⟨_, j, rfl, h2⟩ | ⟨_, _, h1, _⟩
  · exact h1
  · exact (first_not h2 hg).elim
  · exact h1
theorem right_iff {n : Int} {ls : List Lk} : RightG n ls ↔ Few n ls ∧ Good n ls ∧ Reached n ls :=
  ⟨fun h => ⟨⟨h.lo, h.hi, h.few⟩, ⟨h.ok, h.simp⟩, h.all⟩, fun ⟨⟨h1, h2, h3⟩, ⟨h4, h5⟩, h6⟩ => ⟨h1, h2, h3, h4, h5, h6⟩⟩
theorem BadAt.not {n : Int} {ls : List Lk} {r : Int} (h : BadAt n ls r) : ¬ RightG n ls := by
  intro hr
  obtain ⟨h1, h2, h3⟩ := right_iff.1 hr
  rcases h with ⟨h4, _⟩ | ⟨_, j, _, h4⟩ | ⟨_, _, _, h4⟩
  · exact h4 h1
  · exact first_not h4 h2
  · exact h4 h3
theorem reached_left {n : Int} {ls : List Lk} {D : Int → Option Nat} (f : Found ls 0 D) (hn : 0 ≤ n) : Reached n ls ↔ left D n.toNat = 0 := by
  rw [left_zero]
  constructor
  · intro h v h1 h2
    obtain ⟨k, hk⟩ := h v h1 (by omega)
    obtain ⟨e, he, _⟩ := f.reach hk
    exact ⟨e, he⟩
  · intro h v h1 h2
    obtain ⟨d, hd⟩ := h v h1 (by omega)
    exact ⟨d, f.walk v d hd⟩
end Go.Proofs.YtbnfndcbhnjnaaaDoor.Gr

namespace Go.Proofs.YtbnfndcbhnjnaaaDoor.Gr
open Go.RowKit Go.Sort Go.Proofs.YtbnfndcbhnjnaaaDoor Go.Proofs.YtbnfndcbhnjnaaaDoor.Rw

def adjB (ls : List Lk) (a b : Int) : Bool := decide ((a, b) ∈ ls) || decide ((b, a) ∈ ls)
theorem adjB_iff {ls : List Lk} {a b : Int} : adjB ls a b = true ↔ Adj ls a b := by unfold adjB Adj; simp
set_option maxRecDepth 100000 in
set_option maxHeartbeats 4000000 in
theorem linked_any (n : Int) (lv : Value) (l : List Lk) (a b : Int) (w : World) (hl : RowK w lv l) (hok : Lok n l) : Calls Tryd.prog 19 #[gv n lv, .int .i64 a, .int .i64 b] w fun e w' => e = .returned (.bool (adjB l a b)) ∧ Below w.heap.size w w' := by
  have HL := Lib.hid hl
  have HM := Lib.hid hl.most
  have OK := Lib.hid hok
  obtain ⟨ao, ac, rfl⟩ := hl.len
  obtain ⟨m, hn⟩ : ∃ m, m = l.length := ⟨_, rfl⟩
  have HN := Lib.hid hn
  rw [← hn] at HL HM ⊢
  have RT := Lib.hid (show Adj l a b → adjB l a b = true from adjB_iff.2)
  have RF := Lib.hid (show (∀ (j : Nat) (y : Lk), j < m → l[j]? = some y → y ≠ (a, b) ∧ y ≠ (b, a)) → adjB l a b = false from fun h => by
    rw [← Bool.not_eq_true, adjB_iff]
    rintro (h1 | h1)
    · obtain ⟨j, hj, e⟩ := List.getElem_of_mem h1
      exact (h j _ (by rw [hn]; exact hj) (List.getElem?_eq_getElem hj)).1 e
    · obtain ⟨j, hj, e⟩ := List.getElem_of_mem h1
      exact (h j _ (by rw [hn]; exact hj) (List.getElem?_eq_getElem hj)).2 e)
  generalize adjB l a b = res at *
  clear hl hn hok
  have B := Lib.hid (show Below w.heap.size w (w.alloc (.cells #[.int .i64 n, .slice ao m ac] 25)) from (Below.refl _ _).alloc (Nat.le_refl _) _)
  have X := Lib.hid (box_new w #[.int .i64 n, .slice ao m ac] 25)
  go_enter Tryd.func19, Tryd.ntmps19
  go_wp2
  generalize w.alloc (.cells #[.int .i64 n, .slice ao m ac] 25) = W at *
  go_loopw [12] (fun i wr => ∃ k : Nat, k ≤ m ∧ i = .int .i64 k ∧ Below W.heap.size W wr ∧ ∀ (j : Nat) (y : Lk), j < k → l[j]? = some y → y ≠ (a, b) ∧ y ≠ (b, a)) (fun i _ => m - (intOf i).toNat)
  case atStart => exact ⟨0, Nat.zero_le _, rfl, Below.refl _ _, fun j y h => by omega⟩
  case round =>
    obtain ⟨k, hk, rfl, hb, hall⟩ := hrel
    have HB := Lib.hid hb
    have AL := Lib.hid hall
    have a0 := (X.out.on hb).cell 0
    have a1 := (X.out.on hb).cell 1
    simp at a0 a1
    clear hb hall
    have hm : m ≤ maxLen := HM.out
    unfold maxLen at hm
    by_cases hlt : k < m
    · obtain ⟨y, hy⟩ : ∃ y, l[k]? = some y := ⟨_, List.getElem?_eq_getElem (by rw [← HN.out]; exact hlt)⟩
      obtain ⟨p, ix, px⟩ := elK HL.out rfl HN.out.symm hy
      obtain ⟨p0, p1⟩ := px _ (B.out.trans (HB.out.mono B.out.size))
      have HY := Lib.hid hy
      obtain ⟨r1, hr1⟩ : ∃ r, decide (y = (a, b)) = r := ⟨_, rfl⟩
      obtain ⟨r2, hr2⟩ : ∃ r, decide (y = (b, a)) = r := ⟨_, rfl⟩
      have E1 := Lib.hid (eqlK y (a, b) r1 hr1)
      have E2 := Lib.hid (eqlK y (b, a) r2 hr2)
      have H1 := Lib.hid hr1
      have H2 := Lib.hid hr2
      have JN := Lib.hid (fun w' => show Calls Tryd.prog 26 #[gv n (.slice ao m ac), kv y] w' fun e w'' => e = .returned (.bool true) ∧ Below w'.heap.size w' w'' by
        have h := joins_any n (.slice ao m ac) y w'
        rwa [inL_iff.2 (OK.out y (List.mem_of_getElem? hy))] at h)
      have hlw := (X.out.on HB.out).lt
      clear hy px hr1 hr2
      go_wp2_with fail
      have NB := box_new wr #[.int .i64 y.1, .int .i64 y.2] 22
      have BB := HB.out.alloc HB.out.size (.cells #[.int .i64 y.1, .int .i64 y.2] 22)
      generalize wr.alloc (.cells #[.int .i64 y.1, .int .i64 y.2] 22) = W3 at *
      refine (JN.out W3).mono ?_
      rintro e w4 ⟨rfl, hb4⟩
      have c0 := (NB.on hb4).cell 0
      have c1 := (NB.on hb4).cell 1
      simp at c0 c1
      have B4 := Lib.hid (BB.trans (hb4.mono BB.size))
      have B5 := Lib.hid (B.out.trans (B4.out.mono B.out.size))
      clear hb4 NB BB JN a0 a1 hlw
      have e1 := E1.out
      have e2 := E2.out
      cases r1
      · cases r2
        · go_wp2
          go_roundw
          case rel => exact ⟨k + 1, by omega, by go_num, B4.out, fun j z hj hz => by
            rcases Nat.lt_or_ge j k with h3 | h3
            · exact AL.out j z h3 hz
            · obtain rfl : j = k := by omega
              have e := HY.out
              rw [hz] at e
              rw [Option.some.inj e]
              exact ⟨of_decide_eq_false H1.out, of_decide_eq_false H2.out⟩⟩
          case measure => simp [intOf]; omega
        · have R := Lib.hid (RT.out (Or.inr (by rw [← of_decide_eq_true H2.out]; exact List.mem_of_getElem? HY.out)))
          clear RT RF
          go_wp2
          go_ret
          exact ⟨ret_b R.out.symm, B5.out⟩
      · have R := Lib.hid (RT.out (Or.inl (by rw [← of_decide_eq_true H1.out]; exact List.mem_of_getElem? HY.out)))
        clear RT RF
        go_wp2
        go_ret
        exact ⟨ret_b R.out.symm, B5.out⟩
    · obtain rfl : k = m := by omega
      have B2 := Lib.hid (B.out.trans (HB.out.mono B.out.size))
      have R := Lib.hid (RF.out AL.out)
      clear RT RF
      go_wp2
      go_ret
      exact ⟨ret_b R.out.symm, B2.out⟩
end Go.Proofs.YtbnfndcbhnjnaaaDoor.Gr
