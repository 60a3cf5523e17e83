/-
  Chapter 5's runs out of the contracts wanted of package rel.
-/
import Derived.Test.YtdomincmoaahoaaBi
import Derived.Test.YtdomincmoaahoaaBd
namespace Go.Proofs.Ytdomincmoaahoaa.Rl
open Go.RowKit Go.Sort Go.Proofs.Ytdomincmoaahoaa Go.Proofs.Ytdomincmoaahoaa.Pu Go.Proofs.Ytdomincmoaahoaa.Rw Go.Proofs.Ytdomincmoaahoaa.Pr

def nA : ByteArray := ⟨#[97]⟩
def nB : ByteArray := ⟨#[98]⟩
def tX : ByteArray := ⟨#[120]⟩
def pA : List Cn := [(nA, .rg 1 5)]
def pIn : List Cn := [(nA, .rg 2 3)]
def pFar : List Cn := [(nA, .rg 7 9)]
def pB : List Cn := [(nB, .tx tX)]
def pInB : List Cn := [(nA, .rg 2 3), (nB, .tx tX)]
/-- A literal of one. -/
theorem row_one (w : World) (c : C5) : RowC (w.alloc (.cells #[.string c.1, .int .i64 c.2.1, .int .i64 c.2.2.1, .int .i64 c.2.2.2.1, .string c.2.2.2.2] 23)) (.slice (some ⟨w.heap.size, 0, none⟩) 1 1) [c] :=
  Row.of_own (row_lit okC w [c] 1 rfl (by simp) _ rfl)
/-- A literal of two. -/
theorem row_two (w : World) (c d : C5) : RowC (w.alloc (.cells #[.string c.1, .int .i64 c.2.1, .int .i64 c.2.2.1, .int .i64 c.2.2.2.1, .string c.2.2.2.2, .string d.1, .int .i64 d.2.1, .int .i64 d.2.2.1, .int .i64 d.2.2.2.1, .string d.2.2.2.2] 23)) (.slice (some ⟨w.heap.size, 0, none⟩) 2 2) [c, d] :=
  Row.of_own (row_lit okC w [c, d] 2 rfl (by simp) _ rfl)
theorem nf_one (n : ByteArray) (k : Kd) (h1 : goodC (n, k) = true) (h2 : smallC (n, k)) : NF [(n, k)] :=
  ⟨List.pairwise_singleton _ _, by simp, by simpa using h1, by simpa using h2⟩
theorem nfA : NF pA := nf_one _ _ (by decide) ⟨by decide, by decide, by decide, by decide⟩
theorem nfIn : NF pIn := nf_one _ _ (by decide) ⟨by decide, by decide, by decide, by decide⟩
theorem nfFar : NF pFar := nf_one _ _ (by decide) ⟨by decide, by decide, by decide, by decide⟩
theorem nfB : NF pB := nf_one _ _ (by decide) ⟨by decide, by decide, by decide, by decide⟩
theorem nfInB : NF pInB := ⟨by
  show List.Pairwise _ [(nA, Kd.rg 2 3), (nB, .tx tX)]
  rw [List.pairwise_cons]
  refine ⟨fun y hy => ?_, List.pairwise_singleton _ _⟩
  rw [List.mem_singleton] at hy
  subst hy
  simp [nA, nB, Op.bytesLess], by decide, by
  intro x hx
  simp only [pInB, List.mem_cons, List.not_mem_nil, or_false] at hx
  rcases hx with rfl | rfl <;> decide, by
  intro x hx
  simp only [pInB, List.mem_cons, List.not_mem_nil, or_false] at hx
  rcases hx with rfl | rfl <;> exact ⟨by decide, by decide, by decide, by decide⟩⟩
theorem ans1 : meetsB pA pB = true := by
  rw [meetsB_iff nfA.rise nfB.rise nfA.five]
  refine ⟨fun x hx y hy e => ?_, by decide⟩
  simp only [pA, pB, List.mem_singleton] at hx hy
  subst hx hy
  exact absurd e (by decide)
theorem ans2 : coversL pA pInB = true := by decide
theorem ans3 : meetsB pA pFar = false := by
  rw [Bool.eq_false_iff]
  intro h
  rw [meetsB_iff nfA.rise nfFar.rise nfA.five] at h
  exact h.1 _ (List.mem_singleton.2 rfl) _ (List.mem_singleton.2 rfl) rfl rfl
theorem ans4 : coversL pIn pA = false := by decide

theorem one_at (w : World) (n : Nat) (h : w.heap.size = n) (c : C5) : RowC (w.alloc (.cells #[.string c.1, .int .i64 c.2.1, .int .i64 c.2.2.1, .int .i64 c.2.2.2.1, .string c.2.2.2.2] 23)) (.slice (some ⟨n, 0, none⟩) 1 1) [c] := h ▸ row_one w c
theorem two_at (w : World) (n : Nat) (h : w.heap.size = n) (c d : C5) : RowC (w.alloc (.cells #[.string c.1, .int .i64 c.2.1, .int .i64 c.2.2.1, .int .i64 c.2.2.2.1, .string c.2.2.2.2, .string d.1, .int .i64 d.2.1, .int .i64 d.2.2.1, .int .i64 d.2.2.2.1, .string d.2.2.2.2] 23)) (.slice (some ⟨n, 0, none⟩) 2 2) [c, d] := h ▸ row_two w c d
abbrev oA : Obj := .cells #[.string ⟨#[97]⟩, .int .i64 1, .int .i64 1, .int .i64 5, .string ⟨#[]⟩] 23
abbrev oIn : Obj := .cells #[.string ⟨#[97]⟩, .int .i64 1, .int .i64 2, .int .i64 3, .string ⟨#[]⟩] 23
abbrev oFar : Obj := .cells #[.string ⟨#[97]⟩, .int .i64 1, .int .i64 7, .int .i64 9, .string ⟨#[]⟩] 23
abbrev oB : Obj := .cells #[.string ⟨#[98]⟩, .int .i64 2, .int .i64 0, .int .i64 0, .string ⟨#[120]⟩] 23
abbrev oInB : Obj := .cells #[.string ⟨#[97]⟩, .int .i64 1, .int .i64 2, .int .i64 3, .string ⟨#[]⟩, .string ⟨#[98]⟩, .int .i64 2, .int .i64 0, .int .i64 0, .string ⟨#[120]⟩] 23
abbrev lay4 (w : World) : World := (((w.alloc oA).alloc oIn).alloc oFar).alloc oB
/-- The four variables of the law, in memory. -/
structure Loc (b : Nat) (w : World) : Prop where
  a0 : w.cell? ⟨b, 0, none⟩ = some (.string ⟨#[97]⟩)
  a1 : w.cell? ⟨b, 1, none⟩ = some (.int .i64 1)
  a2 : w.cell? ⟨b, 2, none⟩ = some (.int .i64 1)
  a3 : w.cell? ⟨b, 3, none⟩ = some (.int .i64 5)
  a4 : w.cell? ⟨b, 4, none⟩ = some (.string ⟨#[]⟩)
  i0 : w.cell? ⟨b + 1, 0, none⟩ = some (.string ⟨#[97]⟩)
  i1 : w.cell? ⟨b + 1, 1, none⟩ = some (.int .i64 1)
  i2 : w.cell? ⟨b + 1, 2, none⟩ = some (.int .i64 2)
  i3 : w.cell? ⟨b + 1, 3, none⟩ = some (.int .i64 3)
  i4 : w.cell? ⟨b + 1, 4, none⟩ = some (.string ⟨#[]⟩)
  f0 : w.cell? ⟨b + 1 + 1, 0, none⟩ = some (.string ⟨#[97]⟩)
  f1 : w.cell? ⟨b + 1 + 1, 1, none⟩ = some (.int .i64 1)
  f2 : w.cell? ⟨b + 1 + 1, 2, none⟩ = some (.int .i64 7)
  f3 : w.cell? ⟨b + 1 + 1, 3, none⟩ = some (.int .i64 9)
  f4 : w.cell? ⟨b + 1 + 1, 4, none⟩ = some (.string ⟨#[]⟩)
  b0 : w.cell? ⟨b + 1 + 1 + 1, 0, none⟩ = some (.string ⟨#[98]⟩)
  b1 : w.cell? ⟨b + 1 + 1 + 1, 1, none⟩ = some (.int .i64 2)
  b2 : w.cell? ⟨b + 1 + 1 + 1, 2, none⟩ = some (.int .i64 0)
  b3 : w.cell? ⟨b + 1 + 1 + 1, 3, none⟩ = some (.int .i64 0)
  b4 : w.cell? ⟨b + 1 + 1 + 1, 4, none⟩ = some (.string ⟨#[120]⟩)
theorem loc_lay (w : World) : Loc w.heap.size (lay4 w) := by constructor <;> simp [go_sem, lay4, oA, oIn, oFar, oB]
theorem Loc.on {b B : Nat} {w w' : World} (h : Loc b w) (hb : Below B w w') (hB : b + 1 + 1 + 1 + 1 ≤ B) : Loc b w' := by
  have k : ∀ i p : Nat, i < B → w'.cell? ⟨i, p, none⟩ = w.cell? ⟨i, p, none⟩ := fun i p hi => hb.cell (p := ⟨i, p, none⟩) hi
  exact ⟨(k _ _ (by omega)).trans h.a0, (k _ _ (by omega)).trans h.a1, (k _ _ (by omega)).trans h.a2, (k _ _ (by omega)).trans h.a3, (k _ _ (by omega)).trans h.a4, (k _ _ (by omega)).trans h.i0, (k _ _ (by omega)).trans h.i1, (k _ _ (by omega)).trans h.i2, (k _ _ (by omega)).trans h.i3, (k _ _ (by omega)).trans h.i4, (k _ _ (by omega)).trans h.f0, (k _ _ (by omega)).trans h.f1, (k _ _ (by omega)).trans h.f2, (k _ _ (by omega)).trans h.f3, (k _ _ (by omega)).trans h.f4, (k _ _ (by omega)).trans h.b0, (k _ _ (by omega)).trans h.b1, (k _ _ (by omega)).trans h.b2, (k _ _ (by omega)).trans h.b3, (k _ _ (by omega)).trans h.b4⟩
theorem two_below (w : World) (x y : Obj) : Below w.heap.size w ((w.alloc x).alloc y) := ((Below.refl _ _).alloc (Nat.le_refl _) x).alloc (by simp) y

set_option maxRecDepth 100000 in
set_option maxHeartbeats 4000000 in
theorem runs_any {G : World → Prop} (K : ROks G) (w : World) (hg : G w) : Calls Try.prog 3 #[] w fun e w' => e = .returned (.bool true) ∧ Below w.heap.size w w' := by
  have KK := Lib.hid K
  have HG := Lib.hid hg
  have B0 := Lib.hid (show Below w.heap.size w (lay4 w) from ((two_below w oA oIn).alloc (by simp; omega) oFar).alloc (by simp; omega) oB)
  have L0 := Lib.hid (loc_lay w)
  have z0 : (lay4 w).heap.size = w.heap.size + 1 + 1 + 1 + 1 := by simp
  have Z0 := Lib.hid z0
  have U0 := Lib.hid (two_below (lay4 w) oA oB)
  have R0 := Lib.hid ((one_at (lay4 w) _ z0 (r5 (nA, .rg 1 5))).on ((Below.refl _ _).alloc (Nat.le_refl _) oB))
  have S0 := Lib.hid (one_at ((lay4 w).alloc oA) (w.heap.size + 1 + 1 + 1 + 1 + 1) (by simp) (r5 (nB, .tx tX)))
  clear K hg z0
  go_enter Try.func3, Try.ntmps3
  go_wp2_with fail
  refine (KK.out.meets _ _ pA pB _ (KK.out.bel _ _ HG.out (B0.out.trans (U0.out.mono B0.out.size))) R0.out S0.out nfA nfB).mono ?_
  rintro e1 w1 ⟨rfl, hb⟩
  rw [ans1]
  have V1 := Lib.hid (U0.out.trans (hb.mono U0.out.size))
  have B1 := Lib.hid (B0.out.trans (V1.out.mono B0.out.size))
  have L1 := Lib.hid (L0.out.on V1.out (Nat.le_of_eq Z0.out.symm))
  have Z1 := Lib.hid (Nat.le_trans (Nat.le_of_eq Z0.out.symm) V1.out.size)
  clear hb V1 L0 Z0 U0 R0 S0 B0
  have U1 := Lib.hid (two_below w1 oA oInB)
  have M1 := Lib.hid (L1.out.on ((Below.refl _ _).alloc (Nat.le_refl _) oA) Z1.out)
  have R1 := Lib.hid ((one_at w1 _ rfl (r5 (nA, .rg 1 5))).on ((Below.refl _ _).alloc (Nat.le_refl _) oInB))
  have S1 := Lib.hid (two_at (w1.alloc oA) (w1.heap.size + 1) (by simp) (r5 (nA, .rg 2 3)) (r5 (nB, .tx tX)))
  have a0 := L1.out.a0
  have a1 := L1.out.a1
  have a2 := L1.out.a2
  have a3 := L1.out.a3
  have a4 := L1.out.a4
  have i0 := M1.out.i0
  have i1 := M1.out.i1
  have i2 := M1.out.i2
  have i3 := M1.out.i3
  have i4 := M1.out.i4
  have b0 := M1.out.b0
  have b1 := M1.out.b1
  have b2 := M1.out.b2
  have b3 := M1.out.b3
  have b4 := M1.out.b4
  go_wp2_with fail
  refine (KK.out.covers _ _ pA pInB _ (KK.out.bel _ _ HG.out (B1.out.trans (U1.out.mono B1.out.size))) R1.out S1.out nfA nfInB).mono ?_
  rintro e2 w2 ⟨rfl, hb⟩
  rw [ans2]
  have V2 := Lib.hid (U1.out.trans (hb.mono U1.out.size))
  have B2 := Lib.hid (B1.out.trans (V2.out.mono B1.out.size))
  have L2 := Lib.hid (L1.out.on V2.out Z1.out)
  have Z2 := Lib.hid (Nat.le_trans Z1.out V2.out.size)
  clear hb V2 L1 Z1 U1 R1 S1 M1 B1
  clear a0 a1 a2 a3 a4 i0 i1 i2 i3 i4 b0 b1 b2 b3 b4
  have U2 := Lib.hid (two_below w2 oA oFar)
  have M2 := Lib.hid (L2.out.on ((Below.refl _ _).alloc (Nat.le_refl _) oA) Z2.out)
  have R2 := Lib.hid ((one_at w2 _ rfl (r5 (nA, .rg 1 5))).on ((Below.refl _ _).alloc (Nat.le_refl _) oFar))
  have S2 := Lib.hid (one_at (w2.alloc oA) (w2.heap.size + 1) (by simp) (r5 (nA, .rg 7 9)))
  have a0 := L2.out.a0
  have a1 := L2.out.a1
  have a2 := L2.out.a2
  have a3 := L2.out.a3
  have a4 := L2.out.a4
  have f0 := M2.out.f0
  have f1 := M2.out.f1
  have f2 := M2.out.f2
  have f3 := M2.out.f3
  have f4 := M2.out.f4
  go_wp2_with fail
  refine (KK.out.meets _ _ pA pFar _ (KK.out.bel _ _ HG.out (B2.out.trans (U2.out.mono B2.out.size))) R2.out S2.out nfA nfFar).mono ?_
  rintro e3 w3 ⟨rfl, hb⟩
  rw [ans3]
  have V3 := Lib.hid (U2.out.trans (hb.mono U2.out.size))
  have B3 := Lib.hid (B2.out.trans (V3.out.mono B2.out.size))
  have L3 := Lib.hid (L2.out.on V3.out Z2.out)
  have Z3 := Lib.hid (Nat.le_trans Z2.out V3.out.size)
  clear hb V3 L2 Z2 U2 R2 S2 M2 B2
  clear a0 a1 a2 a3 a4 f0 f1 f2 f3 f4
  have U3 := Lib.hid (two_below w3 oIn oA)
  have M3 := Lib.hid (L3.out.on ((Below.refl _ _).alloc (Nat.le_refl _) oIn) Z3.out)
  have R3 := Lib.hid ((one_at w3 _ rfl (r5 (nA, .rg 2 3))).on ((Below.refl _ _).alloc (Nat.le_refl _) oA))
  have S3 := Lib.hid (one_at (w3.alloc oIn) (w3.heap.size + 1) (by simp) (r5 (nA, .rg 1 5)))
  have i0 := L3.out.i0
  have i1 := L3.out.i1
  have i2 := L3.out.i2
  have i3 := L3.out.i3
  have i4 := L3.out.i4
  have a0 := M3.out.a0
  have a1 := M3.out.a1
  have a2 := M3.out.a2
  have a3 := M3.out.a3
  have a4 := M3.out.a4
  go_wp2_with fail
  refine (KK.out.covers _ _ pIn pA _ (KK.out.bel _ _ HG.out (B3.out.trans (U3.out.mono B3.out.size))) R3.out S3.out nfIn nfA).mono ?_
  rintro e4 w4 ⟨rfl, hb⟩
  rw [ans4]
  have V4 := Lib.hid (U3.out.trans (hb.mono U3.out.size))
  have B4 := Lib.hid (B3.out.trans (V4.out.mono B3.out.size))
  have L4 := Lib.hid (L3.out.on V4.out Z3.out)
  have Z4 := Lib.hid (Nat.le_trans Z3.out V4.out.size)
  clear hb V4 L3 Z3 U3 R3 S3 M3 B3
  clear i0 i1 i2 i3 i4 a0 a1 a2 a3 a4
  go_wp2
  go_ret
  exact ⟨rfl, B4.out⟩
end Go.Proofs.Ytdomincmoaahoaa.Rl
