/-
  What the library's sorts leave of a row of one's own. No program's function in it.
  The order of Ways: its closure compares by the first broker, then by the second. No condition.
  The order of Ways: its closure compares by the first broker, then by the second. No condition.
-/
import Derived.Test.YtbnfndcbhnjnaaaDoorBk
import Derived.Test.YtbnfndcbhnjnaaaDoorBb
import Derived.Shelf.SlSortCmp.WholeK
import Derived.Test.YtbnfndcbhnjnaaaDoorGdWays
namespace Go.Proofs.YtbnfndcbhnjnaaaDoor.Gr
open Go.RowKit Go.Proofs.YtbnfndcbhnjnaaaDoor Go.Proofs.YtbnfndcbhnjnaaaDoor.Rw Go.Sort

theorem put_take {α : Type} [Inhabited α] (enc : α → Value) (d : Array α) (cur : Array Value) (h : d.size ≤ cur.size) : (putCells enc 0 d cur).toList.take d.size = d.toList.map enc := by
  apply List.ext_getElem?
  intro j
  rw [List.getElem?_take]
  by_cases hj : j < d.size
  · have hc : j < cur.size := by omega
    simp [putCells, hj, hc]
  · simp [hj]
/-- A row of one's own, behind a sort. -/
theorem own_sorted {α β : Type} [Inhabited β] {E : Ek α} (K : E.Ok) {w : World} {B g cap : Nat} {l l' : List α} (h : Own E w B (.slice (some ⟨g, 0, none⟩) l.length cap) l) (enc : β → Value) (d : Array β) (hd : d.toList.map enc = flat E l') (hl : l'.length = l.length) (n : Nat) (os : Array Obj) :
    Own E (grow (putRow enc (Sort.ahead w n) g 0 d) os) B (.slice (some ⟨g, 0, none⟩) l.length cap) l' ∧ w.grownBy (grow (putRow enc (Sort.ahead w n) g 0 d) os) (some g) := by
  have hds : d.size = l.length * E.n := by
    rw [← hl, ← flat_length K l', ← hd]
    simp
  rcases own_open h with ⟨e, _⟩ | ⟨g', cap', cur, e, h1, h2, h3, h4, h5, h6⟩
  · cases e
  obtain ⟨rfl, rfl⟩ : g = g' ∧ cap = cap' := by simpa using e
  have hlt := lt_of_heap h2
  have hb : (grow (putRow enc (Sort.ahead w n) g 0 d) os).heap[g]? = some (.cells (putCells enc 0 d cur) E.t (0, 0)) := by
    rw [heap_grow_old _ _ (by simp [putRow, mapBlock, Sort.ahead]; exact hlt)]
    unfold Box at h2
    simp only [putRow, mapBlock, Sort.ahead, Array.getElem?_modify, if_true, h2]
    rfl
  have hfit : d.size ≤ cur.size := by
    rw [hds, h5]
    exact Nat.mul_le_mul_right _ h3
  refine ⟨⟨by rw [flat_length K], Or.inr ⟨g, cap, _, by rw [hl], h1, hb, by rw [hl]; exact h3, h4, by simp [putCells]; exact h5, ?_⟩⟩, ⟨rfl, rfl, rfl, by simp [putRow, mapBlock, Sort.ahead], fun k hk hne => ?_⟩⟩
  · rw [hl, ← hds, put_take enc d cur hfit, hd]
  · rw [heap_grow_old _ _ (by simp [putRow, mapBlock, Sort.ahead]; exact hk)]
    have hkg : g ≠ k := fun e => hne (by rw [e])
    simp [putRow, mapBlock, Sort.ahead, Array.getElem?_modify, hkg]
end Go.Proofs.YtbnfndcbhnjnaaaDoor.Gr

namespace Go.Proofs.YtbnfndcbhnjnaaaDoor.Gr
open Go.RowKit Go.Sort Go.Proofs.YtbnfndcbhnjnaaaDoor Go.Proofs.YtbnfndcbhnjnaaaDoor.Rw

def cmpI (a b : Int) : Int := if a < b then -1 else if b < a then 1 else 0
def orI (a b : Int) : Int := if a = 0 then b else a
def cmpL (p q : Lk) : Int := orI (cmpI p.1 q.1) (cmpI p.2 q.2)
set_option maxRecDepth 100000 in
theorem isNaN_any (a : Int) (w : World) : Calls Tryd.prog 48 #[.int .i64 a] w fun e w' => e = .returned (.bool false) ∧ w' = w := by
  go_enter Tryd.func48, Tryd.ntmps48
  go_wp2
  go_ret
  exact ⟨ret_b (by simp), rfl⟩
set_option maxRecDepth 100000 in
theorem compare_any (a b : Int) (w : World) : Calls Tryd.prog 35 #[.int .i64 a, .int .i64 b] w fun e w' => e = .returned (.int .i64 (cmpI a b)) ∧ w' = w := by
  have R1 := Lib.hid (show a < b → cmpI a b = -1 from fun h => by unfold cmpI; rw [if_pos h])
  have R2 := Lib.hid (show ¬ a < b → b < a → cmpI a b = 1 from fun h h2 => by unfold cmpI; rw [if_neg h, if_pos h2])
  have R3 := Lib.hid (show ¬ a < b → ¬ b < a → cmpI a b = 0 from fun h h2 => by unfold cmpI; rw [if_neg h, if_neg h2])
  generalize cmpI a b = r at *
  go_enter Tryd.func35, Tryd.ntmps35
  by_cases h1 : a < b
  · have E := R1.out h1
    clear R1 R2 R3
    subst E
    go_wp2_with (go_at_call 48; refine (isNaN_any _ _).mono ?_; rintro e w' ⟨rfl, rfl⟩)
    go_ret
    exact ⟨rfl, rfl⟩
  · by_cases h2 : b < a
    · have E := R2.out h1 h2
      clear R1 R2 R3
      subst E
      go_wp2_with (go_at_call 48; refine (isNaN_any _ _).mono ?_; rintro e w' ⟨rfl, rfl⟩)
      go_ret
      exact ⟨rfl, rfl⟩
    · have E := R3.out h1 h2
      clear R1 R2 R3
      subst E
      go_wp2_with (go_at_call 48; refine (isNaN_any _ _).mono ?_; rintro e w' ⟨rfl, rfl⟩)
      go_ret
      exact ⟨rfl, rfl⟩
set_option maxRecDepth 100000 in
theorem or_any (g : Nat) (cap : Nat) (a b : Int) (w : World) (p0 : w.cell? ⟨g, 0, none⟩ = some (.int .i64 a)) (q0 : w.cell? ⟨g, 1, none⟩ = some (.int .i64 b)) : Calls Tryd.prog 34 #[.slice (some ⟨g, 0, none⟩) 2 cap] w fun e w' => e = .returned (.int .i64 (orI a b)) ∧ w' = w := by
  have R1 := Lib.hid (show a ≠ 0 → orI a b = a from fun h => by unfold orI; rw [if_neg h])
  have R2 := Lib.hid (show a = 0 → orI a b = b from fun h => by unfold orI; rw [if_pos h])
  generalize orI a b = r at *
  go_enter Tryd.func34, Tryd.ntmps34
  go_wp2
  go_loopw [8] (fun i wr => ∃ k : Nat, k ≤ 2 ∧ i = .int .i64 k ∧ RowKit.Hid (wr = w) ∧ (0 < k → a = 0) ∧ (1 < k → b = 0)) (fun i _ => 2 - (intOf i).toNat)
  case atStart => exact ⟨0, by omega, rfl, by first | exact Lib.hid rfl | exact Lib.hid trivial, fun h => by omega, fun h => by omega⟩
  case round =>
    obtain ⟨k, hk, rfl, hw, ha, hb⟩ := hrel
    obtain rfl := hw.out
    clear hw
    by_cases hlt : k < 2
    · obtain ⟨x, hx, hx0, hx1⟩ : ∃ x : Int, wr.cell? ⟨g, k, none⟩ = some (.int .i64 x) ∧ (k = 0 → x = a) ∧ (k = 1 → x = b) := by
        by_cases h : k = 0
        · exact ⟨a, by rw [h]; exact p0, fun _ => rfl, fun h1 => by omega⟩
        · obtain rfl : k = 1 := by omega
          exact ⟨b, q0, fun h1 => by omega, fun _ => rfl⟩
      have HX := Lib.hid (And.intro hx0 hx1)
      have HA := Lib.hid ha
      have HB := Lib.hid hb
      clear ha hb hx0 hx1 p0 q0
      by_cases h0 : x = 0
      · have c0 : ((x : Int) != 0) = false := by simp [h0]
        have H0 := Lib.hid h0
        clear h0 R1 R2
        go_wp2
        go_roundw
        case rel => exact ⟨k + 1, by omega, by go_num, by first | exact Lib.hid rfl | exact Lib.hid trivial, fun _ => by
          by_cases h : k = 0
          · rw [← HX.out.1 h]; exact H0.out
          · exact HA.out (by omega), fun h => by
          rw [← HX.out.2 (by omega)]; exact H0.out⟩
        case measure => simp [intOf]; omega
      · have c0 : ((x : Int) != 0) = true := by simp [h0]
        have E := Lib.hid (show r = x by
          by_cases h : k = 0
          · rw [R1.out (by rw [← HX.out.1 h]; exact h0)]; exact (HX.out.1 h).symm
          · rw [R2.out (HA.out (by omega))]; exact (HX.out.2 (by omega)).symm)
        clear h0 R1 R2
        go_wp2
        go_ret
        exact ⟨by have h := E.out; subst h; rfl, rfl⟩
    · have E := Lib.hid ((R2.out (ha (by omega))).trans (hb (by omega)))
      obtain rfl : k = 2 := by omega
      clear R1 R2 ha hb
      go_wp2
      go_ret
      exact ⟨by have h := E.out; subst h; rfl, rfl⟩
end Go.Proofs.YtbnfndcbhnjnaaaDoor.Gr

namespace Go.Proofs.YtbnfndcbhnjnaaaDoor.Gr
open Go.RowKit Go.Sort Go.Proofs.YtbnfndcbhnjnaaaDoor Go.Proofs.YtbnfndcbhnjnaaaDoor.Rw

theorem call_cmp (args : Array Value) (w : World) : (callFunc 35 args).run Tryd.prog w = .ok (.enter 35 args) w := call_fn Tryd.func35 rfl rfl args w
theorem call_or (args : Array Value) (w : World) : (callFunc 34 args).run Tryd.prog w = .ok (.enter 34 args) w := call_fn Tryd.func34 rfl rfl args w
set_option maxRecDepth 100000 in
set_option maxHeartbeats 8000000 in
theorem order_any (x y : Lk) (w : World) : Calls Tryd.prog 33 #[kv x, kv y] w fun e w' => e = .returned (.int .i64 (cmpL x y)) ∧ ∃ q os', w' = grow (w.drewN q) os' := by
  obtain ⟨a, b⟩ := x
  obtain ⟨c, d⟩ := y
  have X := (box_new w #[.int .i64 a, .int .i64 b] 22).more (.cells #[.int .i64 c, .int .i64 d] 22)
  have Y : Box ((w.alloc (.cells #[.int .i64 a, .int .i64 b] 22)).alloc (.cells #[.int .i64 c, .int .i64 d] 22)) (w.heap.size + 1) #[.int .i64 c, .int .i64 d] 22 := by
    have h := box_new (w.alloc (.cells #[.int .i64 a, .int .i64 b] 22)) #[.int .i64 c, .int .i64 d] 22
    simpa using h
  have x0 := (X.on (Below.refl _ _).drew).cell 0
  have x1 := (X.on (Below.refl _ _).drew).cell 1
  have y0 := (Y.on (Below.refl _ _).drew).cell 0
  have y1 := (Y.on (Below.refl _ _).drew).cell 1
  simp only [List.getElem?_toArray, List.getElem?_cons_zero, List.getElem?_cons_succ] at x0 x1 y0 y1
  have C1 := Lib.hid (fun w' => compare_any a c w')
  have C2 := Lib.hid (fun w' => compare_any b d w')
  have RW := Lib.hid (fun (w' : World) (u v : Int) => (⟨(box_new w' #[.int .i64 u, .int .i64 v] 3).cell 0, (box_new w' #[.int .i64 u, .int .i64 v] 3).cell 1⟩ : (w'.alloc (.cells #[.int .i64 u, .int .i64 v] 3)).cell? ⟨w'.heap.size, 0, none⟩ = some (.int .i64 u) ∧ (w'.alloc (.cells #[.int .i64 u, .int .i64 v] 3)).cell? ⟨w'.heap.size, 1, none⟩ = some (.int .i64 v)))
  have FIN := Lib.hid (fun cs : Array Value => show ∃ q os', (((w.alloc (.cells #[.int .i64 a, .int .i64 b] 22)).alloc (.cells #[.int .i64 c, .int .i64 d] 22)).drew.alloc (.cells cs 3)) = grow (w.drewN q) os' from ⟨1, _, by
    rw [alloc_eq_grow, alloc_eq_grow, alloc_eq_grow, grow_grow, drew_grow, grow_grow]; rfl⟩)
  have RES := Lib.hid (show cmpL (a, b) (c, d) = orI (cmpI a c) (cmpI b d) from rfl)
  generalize cmpL (a, b) (c, d) = res at *
  generalize cmpI a c = u at *
  generalize cmpI b d = v at *
  clear X Y
  go_enter Tryd.func33, Tryd.ntmps33
  go_wp2_with fail
  generalize (w.alloc (.cells #[.int .i64 a, .int .i64 b] 22)).alloc (.cells #[.int .i64 c, .int .i64 d] 22) = W at *
  go_region_law (first
    | (refine step_call_run rfl (ex_call2 _ _ (.tmp 6) (.tmp 8) 3 3 35 rfl rfl rfl rfl _ (call_cmp _ _)) (C1.out _) ?_; rintro e3 w3 ⟨rfl, rfl⟩; refine ⟨_, rfl, ?_⟩)
    | (refine step_call_run rfl (ex_call2 _ _ (.tmp 11) (.tmp 13) 3 3 35 rfl rfl rfl rfl _ (call_cmp _ _)) (C2.out _) ?_; rintro e3 w3 ⟨rfl, rfl⟩; refine ⟨_, rfl, ?_⟩)
    | (refine step_call_run rfl (ex_call1 _ _ (.tmp 15) 30 34 rfl rfl rfl _ (call_or _ _)) (or_any _ _ u v _ (RW.out _ u v).1 (RW.out _ u v).2) ?_; rintro e3 w3 ⟨rfl, rfl⟩; refine ⟨_, rfl, ?_⟩))
  all_goals simp only [Exit.then]
  all_goals apply_assumption
  all_goals
    go_wp2
    go_ret
    exact ⟨by have h := RES.out; subst h; rfl, FIN.out _⟩
end Go.Proofs.YtbnfndcbhnjnaaaDoor.Gr
