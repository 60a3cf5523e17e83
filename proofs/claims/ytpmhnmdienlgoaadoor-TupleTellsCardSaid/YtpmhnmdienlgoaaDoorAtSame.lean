/-
  Same of two lists of attributes, of the statements' own package. Condition: lists far below a machine's length.
-/
import Derived.Test.YtpmhnmdienlgoaaDoorAtKeep
import Derived.Lib.QuietBelow
import Derived.BigQuiet
namespace Go.Proofs.YtpmhnmdienlgoaaDoor.At
open Go.RowKit Go.Sort Go.Proofs.YtpmhnmdienlgoaaDoor.Va Go.Proofs.YtpmhnmdienlgoaaDoor.In

/-- Are the lists the same? -/
def sameL : List A4 → List A4 → Bool
  | [], [] => true
  | x :: l, y :: m => eqlA x y && sameL l m
  | _, _ => false
theorem sameL_len : ∀ l m, sameL l m = true → l.length = m.length
  | [], [], _ => rfl
  | x :: l, y :: m, h => by
    simp only [sameL, Bool.and_eq_true] at h
    simp [sameL_len l m h.2]
  | [], y :: m, h => by simp [sameL] at h
  | x :: l, [], h => by simp [sameL] at h
theorem sameL_all : ∀ l m, l.length = m.length → (∀ (k : Nat) (x y : A4), l[k]? = some x → m[k]? = some y → eqlA x y = true) → sameL l m = true
  | [], [], _, _ => rfl
  | x :: l, y :: m, hl, h => by
    simp only [sameL, Bool.and_eq_true]
    exact ⟨h 0 x y rfl rfl, sameL_all l m (by simpa using hl) (fun k a b ha hb => h (k + 1) a b (by simpa using ha) (by simpa using hb))⟩
  | [], y :: m, hl, _ => by simp at hl
  | x :: l, [], hl, _ => by simp at hl
theorem sameL_not : ∀ (l m : List A4) (k : Nat) (x y : A4), l[k]? = some x → m[k]? = some y → eqlA x y = false → sameL l m = false
  | [], _, k, x, y, h, _, _ => by simp at h
  | _ :: _, [], k, x, y, _, h, _ => by simp at h
  | a :: l, b :: m, 0, x, y, h1, h2, h3 => by
    simp at h1 h2
    subst h1 h2
    simp [sameL, h3]
  | a :: l, b :: m, k + 1, x, y, h1, h2, h3 => by
    simp only [sameL, sameL_not l m k x y (by simpa using h1) (by simpa using h2) h3, Bool.and_false]
/-- Where an element lies, and its cells, in this world and every later one. -/
theorem row_cells {W : World} {lv : Value} {l : List A4} {ao : Option Addr} {n c k : Nat} {x : A4} (h : RowA W lv l) (hv : lv = .slice ao n c) (hn : l.length = n) (hk : l[k]? = some x) :
    ∃ p : Addr, (∀ w, (Instr.indexAt 26 (.slice ao n c) (.int .i64 k)).run Tryd.prog w = .ok (.pointer (some p)) w) ∧ ∀ w, Below W.heap.size W w →
      w.cell? p = some (.string x.1) ∧ w.cell? ⟨p.block, p.off + 1, none⟩ = some (.bool x.2.1) ∧ w.cell? ⟨p.block, p.off + 2, none⟩ = some (.int .i64 x.2.2.1) ∧ w.cell? ⟨p.block, p.off + 3, none⟩ = some (.string x.2.2.2) := by
  have hlt := (List.getElem?_eq_some_iff.1 hk).1
  rcases h with ⟨rfl, _⟩ | ⟨a, cap, h1, h2, h3, h4⟩
  · simp at hk
  · rw [hv] at h1
    obtain ⟨rfl, rfl, rfl⟩ : ao = some a ∧ n = l.length ∧ c = cap := by simpa using h1
    refine ⟨a.add (k * 4), fun w => index_runA a k _ _ hlt w, fun w hb => ?_⟩
    have hf := flatA_at l k x hk
    have e1 : ∀ j, j ≠ 0 → (⟨(a.add (k * 4)).block, (a.add (k * 4)).off + j, none⟩ : Addr) = a.add (k * 4 + j) := fun j hj => by
      have h5 : ∀ b : Addr, b.add j = ⟨b.block, b.off + j, none⟩ := fun b => by unfold Addr.add; rw [if_neg hj]
      rw [← add_add, h5]
    have g : ∀ j u, (flatA l)[j]? = some u → w.cell? (a.add j) = some u := fun j u hj => by
      have hc := h4 j u hj
      rw [hb.cell (World.block_lt_of_cell? W _ hc)]; exact hc
    rw [e1 1 (by decide), e1 2 (by decide), e1 3 (by decide)]
    exact ⟨g _ _ hf.1, g _ _ hf.2.1, g _ _ hf.2.2.1, g _ _ hf.2.2.2⟩
theorem row_addr {W : World} {ao : Option Addr} {n c k : Nat} {l : List A4} {x : A4} (h : RowA W (.slice ao n c) l) (hk : l[k]? = some x) : ∃ a, ao = some a := by
  rcases h with ⟨rfl, _⟩ | ⟨a, cap, h1, _⟩
  · simp at hk
  · exact ⟨a, by simp at h1; exact h1.1⟩
set_option maxRecDepth 100000 in
set_option maxHeartbeats 4000000 in
theorem sameA_any (av_ bv : Value) (l m : List A4) (w : World) (ha : RowA w av_ l) (hb : RowA w bv m) (hl : l.length ≤ 1000000) (_hm : m.length ≤ 1000000) :
    Calls Tryd.prog 20 #[av_, bv] w fun e w' => e = .returned (.bool (sameL l m)) ∧ Below w.heap.size w w' := by
  have HA := Lib.hid ha
  have HB := Lib.hid hb
  obtain ⟨ao, ac, rfl⟩ := ha.len
  obtain ⟨bo, bc, rfl⟩ := hb.len
  clear ha hb
  by_cases hlen : l.length = m.length
  · have HL := Lib.hid hlen
    rw [← hlen] at HB ⊢
    generalize hn : l.length = n at *
    have HN := Lib.hid hn
    clear hlen hn
    go_enter Tryd.func20, Tryd.ntmps20
    go_wp2
    go_loopw [5] (fun i wr => ∃ k : Nat, k ≤ n ∧ i = .int .i64 k ∧ Below w.heap.size w wr ∧ ∀ (j : Nat) (x y : A4), j < k → l[j]? = some x → m[j]? = some y → eqlA x y = true) (fun i _ => n - (intOf i).toNat)
    case atStart => exact ⟨0, Nat.zero_le _, rfl, Below.refl _ _, fun j x y h => by omega⟩
    case round =>
      obtain ⟨k, hk, rfl, hbe, hall⟩ := hrel
      have BE := Lib.hid hbe
      have AL := Lib.hid hall
      clear hbe hall
      by_cases hlt : k < n
      · obtain ⟨x, hx⟩ : ∃ x, l[k]? = some x := ⟨_, List.getElem?_eq_getElem (by rw [HN.out]; exact hlt)⟩
        obtain ⟨y, hy⟩ : ∃ y, m[k]? = some y := ⟨_, List.getElem?_eq_getElem (by rw [← HL.out]; exact hlt)⟩
        obtain ⟨p, ix, px⟩ := row_cells HA.out rfl HN.out hx
        obtain ⟨q, iy, py⟩ := row_cells HB.out rfl HL.out.symm hy
        have p0 := cell_regrown (px _ BE.out).1
        have p1 := cell_regrown (px _ BE.out).2.1
        have p2 := cell_regrown (px _ BE.out).2.2.1
        have p3 := cell_regrown (px _ BE.out).2.2.2
        have q0 := cell_regrown (py _ BE.out).1
        have q1 := cell_regrown (py _ BE.out).2.1
        have q2 := cell_regrown (py _ BE.out).2.2.1
        have q3 := cell_regrown (py _ BE.out).2.2.2
        clear px py
        obtain ⟨r, hr⟩ : ∃ r, eqlA x y = r := ⟨_, rfl⟩
        have hne := neqA x y r hr
        have HX := Lib.hid hx
        have HY := Lib.hid hy
        have HR := Lib.hid hr
        clear hx hy hr
        cases r
        · have R := Lib.hid (show sameL l m = false from sameL_not l m k x y HX.out HY.out HR.out)
          go_wp2
          refine wp_region_quiet_below (by kernel_rfl) (by kernel_rfl) ?_
          repeat (go_big_quiet_step (fail))
          refine wpQuiet_nil ?_
          intro _ hw'
          obtain ⟨⟨dq, osq⟩, hw''⟩ := hw'
          subst hw''
          go_wp2
          go_ret
          exact ⟨ret_bool R.out.symm, BE.out.trans ((below_regrown wr dq osq).mono BE.out.size)⟩
        · go_wp2
          refine wp_region_quiet_below (by kernel_rfl) (by kernel_rfl) ?_
          repeat (go_big_quiet_step (fail))
          refine wpQuiet_nil ?_
          intro _ hw'
          obtain ⟨⟨dq, osq⟩, hw''⟩ := hw'
          subst hw''
          clear ix iy p0 p1 p2 p3 q0 q1 q2 q3 hne
          go_wp2
          go_roundw
          case rel => exact ⟨k + 1, by omega, by go_num, BE.out.trans ((below_regrown wr dq osq).mono BE.out.size), fun j x' y' hj h1 h2 => by
            rcases Nat.lt_or_ge j k with h3 | h3
            · exact AL.out j x' y' h3 h1 h2
            · obtain rfl : j = k := by omega
              have e1 := HX.out
              have e2 := HY.out
              rw [h1] at e1
              rw [h2] at e2
              rw [Option.some.inj e1, Option.some.inj e2]
              exact HR.out⟩
          case measure => simp [intOf]; omega
      · obtain rfl : k = n := by omega
        have R := Lib.hid (show sameL l m = true from sameL_all l m (by rw [HN.out]; exact HL.out) (fun j a b h1 h2 => AL.out j a b (by have := (List.getElem?_eq_some_iff.1 h1).1; have := HN.out; omega) h1 h2))
        go_wp2
        go_ret
        exact ⟨ret_bool R.out.symm, BE.out⟩
  · have R := Lib.hid (show sameL l m = false by
      cases h : sameL l m
      · rfl
      · exact absurd (sameL_len _ _ h) hlen)
    have hne : (((l.length : Nat) : Int) != ((m.length : Nat) : Int)) = true := by simp; omega
    have hne2 : (((l.length : Nat) : Int) == ((m.length : Nat) : Int)) = false := by simp; omega
    clear hlen
    go_enter Tryd.func20, Tryd.ntmps20
    go_wp2
    go_ret
    exact ⟨ret_bool R.out.symm, Below.refl _ _⟩
end Go.Proofs.YtpmhnmdienlgoaaDoor.At
