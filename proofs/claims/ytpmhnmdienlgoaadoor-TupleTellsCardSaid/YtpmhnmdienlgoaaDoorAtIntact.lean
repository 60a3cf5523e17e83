/-
  Intact of two lists of attributes, of the statements' own package, where the room is as it was. Condition: short lists.
-/
import Derived.Test.YtpmhnmdienlgoaaDoorAtSpec
namespace Go.Proofs.YtpmhnmdienlgoaaDoor.At
open Go.RowKit Go.Sort Go.Proofs.YtpmhnmdienlgoaaDoor.Va Go.Proofs.YtpmhnmdienlgoaaDoor.In

theorem slice_loA (a : Addr) (k len cap : Nat) (h : k ≤ len) (hc : len ≤ cap) (w : World) : (Instr.sliceAt 26 (.slice (some a) len cap) none (some (.int .i64 k)) none).run Tryd.prog w = .ok (.slice (some a) k cap) w := by
  have h1 : (k : Int) ≤ cap := by omega
  simp [go_sem, Tryd.underlying26, h1]
theorem row_take {W : World} {a : Addr} {n cap k : Nat} {l : List A4} (h : RowA W (.slice (some a) n cap) l) (hk : k ≤ l.length) : RowA W (.slice (some a) k cap) (l.take k) := by
  rcases h with ⟨_, h⟩ | ⟨a', cap', h1, h2, h3, h4⟩
  · cases h
  · obtain ⟨rfl, rfl, rfl⟩ : a = a' ∧ n = l.length ∧ cap = cap' := by simpa using h1
    refine Or.inr ⟨a, cap, by simp; omega, by simp; omega, h3, fun j u hj => h4 j u ?_⟩
    conv => lhs; rw [← List.take_append_drop k l, flatA_append]
    rw [List.getElem?_append_left (List.getElem?_eq_some_iff.1 hj).1]
    exact hj
set_option maxRecDepth 100000 in
set_option maxHeartbeats 4000000 in
theorem intact_any (a : Addr) (cap : Nat) (wv : Value) (l : List A4) (x : A4) (w : World) (hf : RowA w (.slice (some a) (l.length + 80) cap) (l ++ List.replicate 80 x)) (hw : RowA w wv l) (hl : l.length ≤ 100) :
    Calls Tryd.prog 18 #[.slice (some a) (l.length + 80) cap, wv, av x] w fun e w' => e = .returned (.bool true) ∧ Below w.heap.size w w' := by
  obtain ⟨xn, xt, xi, xs⟩ := x
  have hcap : l.length + 80 ≤ cap := by
    rcases hf with ⟨h, _⟩ | ⟨a', cap', h1, h2, _⟩
    · simp at h
    · have : cap = cap' := by simp at h1; exact h1.2
      simp at h2; omega
  have B1 := Lib.hid (show Below w.heap.size w (w.alloc (.cells #[.string xn, .bool xt, .int .i64 xi, .string xs] 25)) from (Below.refl _ _).alloc (Nat.le_refl _) _)
  have HF := Lib.hid hf
  have HW := Lib.hid hw
  obtain ⟨wo, wc, rfl⟩ := hw.len
  have SL := slice_loA a l.length (l.length + 80) cap (by omega) hcap
  have T := Lib.hid (show RowA w (.slice (some a) l.length cap) l by have h := row_take hf (k := l.length) (by simp); simpa using h)
  clear hf hw
  go_enter Tryd.func18, Tryd.ntmps18
  go_wp2_with fail
  refine (sameA_any _ _ l l _ (T.out.on B1.out) (HW.out.on B1.out) (by omega) (by omega)).mono ?_
  rintro e2 w2 ⟨rfl, hb⟩
  have B2 := Lib.hid (B1.out.trans (hb.mono B1.out.size))
  have c2 : ∀ i, w2.cell? ⟨w.heap.size, i, none⟩ = #[.string xn, .bool xt, .int .i64 xi, .string xs][i]? := fun i => by
    rw [hb.cell (p := ⟨w.heap.size, i, none⟩) (by simp), World.cell?_alloc_at _ _ _ _ rfl]
  have hs2 : w.heap.size < w2.heap.size := by have := hb.size; simp at this; omega
  have C2 := Lib.hid c2
  clear hb SL c2
  rw [sameL_refl]
  go_wp2
  go_loopw [7] (fun i wr => ∃ k : Nat, l.length ≤ k ∧ k ≤ l.length + 80 ∧ i = .int .i64 k ∧ Below w2.heap.size w2 wr) (fun i _ => l.length + 80 - (intOf i).toNat)
  case atStart => exact ⟨l.length, Nat.le_refl _, by omega, rfl, Below.refl _ _⟩
  case round =>
    obtain ⟨k, hk1, hk2, rfl, hb⟩ := hrel
    have HB := Lib.hid hb
    have BW := Lib.hid (B2.out.trans (hb.mono B2.out.size))
    clear hb
    by_cases hlt : k < l.length + 80
    · have hx : (l ++ List.replicate 80 (xn, xt, xi, xs))[k]? = some (xn, xt, xi, xs) := by
        rw [List.getElem?_append_right hk1, List.getElem?_replicate, if_pos (by omega)]
      obtain ⟨p, ix, px⟩ := row_cells HF.out rfl (by simp) hx
      have p0 := cell_regrown (px _ BW.out).1
      have p1 := cell_regrown (px _ BW.out).2.1
      have p2 := cell_regrown (px _ BW.out).2.2.1
      have p3 := cell_regrown (px _ BW.out).2.2.2
      have g : ∀ i, wr.cell? ⟨w.heap.size, i, none⟩ = #[.string xn, .bool xt, .int .i64 xi, .string xs][i]? := fun i => by
        rw [HB.out.cell (p := ⟨w.heap.size, i, none⟩) hs2]; exact C2.out i
      have g0 := cell_regrown (g 0)
      have g1 := cell_regrown (g 1)
      have g2 := cell_regrown (g 2)
      have g3 := cell_regrown (g 3)
      have ne := neqA (xn, xt, xi, xs) (xn, xt, xi, xs) true (eqlA_refl _)
      simp only [Bool.not_true] at ne p0 p1 p2 p3
      have hk3 : (k : Int) < (l.length : Int) + 80 := by omega
      clear px hx g
      go_wp2
      refine wp_region_quiet_below (by kernel_rfl) (by kernel_rfl) ?_
      repeat (go_big_quiet_step (fail))
      refine wpQuiet_nil ?_
      intro _ hw'
      obtain ⟨⟨dq, osq⟩, hw''⟩ := hw'
      subst hw''
      clear ix p0 p1 p2 p3 g0 g1 g2 g3 ne
      go_wp2
      go_roundw
      case rel => exact ⟨k + 1, by omega, by omega, by go_num, HB.out.trans ((below_regrown wr dq osq).mono HB.out.size)⟩
      case measure => simp [intOf]; omega
    · have hk3 : ¬ (k : Int) < (l.length : Int) + 80 := by omega
      go_wp2
      go_ret
      exact ⟨rfl, BW.out⟩
end Go.Proofs.YtpmhnmdienlgoaaDoor.At
