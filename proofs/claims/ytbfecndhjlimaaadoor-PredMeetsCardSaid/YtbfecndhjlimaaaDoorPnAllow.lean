/-
  What a constraint allows, told. Conditions: texts of at most 100 bytes; numbers of 64 bits; strconv's table of powers of ten is as its text lays it.
-/
import Derived.Test.YtbfecndhjlimaaaDoorVaVal
import Derived.Test.YtbfecndhjlimaaaDoorPnBoth
import Derived.Test.YtbfecndhjlimaaaDoorPrLaw
import Derived.Lib.ItoaLen
namespace Go.Proofs.YtbfecndhjlimaaaDoor.Pr
open Go.RowKit Go.Sort Go.Proofs.YtbfecndhjlimaaaDoor Go.Proofs.YtbfecndhjlimaaaDoor.Pu Go.Proofs.YtbfecndhjlimaaaDoor.Rw Go.Proofs.YtbfecndhjlimaaaDoor.Va

def allowedK : Kd → List UInt8
  | .rg lo hi => 58 :: (Lib.itoa lo ++ (46 :: 46 :: Lib.itoa hi))
  | .tx t => 61 :: VaP.say true 0 t.data.toList
  | .pr t => 94 :: VaP.say true 0 t.data.toList
theorem sayK_is (c : Cn) : sayK c = c.1.data.toList ++ allowedK c.2 := by
  obtain ⟨n, k⟩ := c
  cases k <;> rfl
theorem itoa_re (n : Int) (w : World) (hg : VG w) (h0 : -9223372036854775808 ≤ n) (h1 : n ≤ 9223372036854775807) (s : ByteArray) (hs : (⟨(Lib.itoa n).toArray⟩ : ByteArray) = s) (d : Nat) (os : Array Obj) :
    Calls Tryd.prog 50 #[.int .i64 n] (grow (redrawn w d) os) fun e w'' => e = .returned (.string s) ∧ ∃ p : Regrown, w'' = grow (redrawn w p.d) p.os := by
  subst hs
  refine Calls.regrown_of ((Tryd.strconv_Itoa n h0 h1 _ (hg.bel (below_regrown w d os))).mono ?_)
  rintro e w' ⟨rfl, k, os2, rfl⟩
  exact ⟨rfl, below_more _ _ (Nat.le_refl _) k os2⟩
theorem bytes_add (a b : List UInt8) : (⟨a.toArray⟩ : ByteArray) ++ ⟨b.toArray⟩ = ⟨(a ++ b).toArray⟩ := by
  apply bytes_eq
  simp
theorem add_run (a b : List UInt8) (h : a.length + b.length ≤ 1000000) (w : World) : (Op.stringOp .add ⟨a.toArray⟩ ⟨b.toArray⟩).run Tryd.prog w = .ok (.string ⟨(a ++ b).toArray⟩) w := by
  have h1 : (⟨a.toArray⟩ : ByteArray).size = a.length := by show a.toArray.size = _; simp
  have h2 : (⟨b.toArray⟩ : ByteArray).size = b.length := by show b.toArray.size = _; simp
  have h3 : ¬ ((((⟨a.toArray⟩ : ByteArray).size + (⟨b.toArray⟩ : ByteArray).size : Nat) : Int) > IntKind.i64.max) := by rw [h1, h2, show IntKind.i64.max = 9223372036854775807 by decide]; omega
  simp only [Op.stringOp, if_neg h3, Sem.run_pure, bytes_add]
set_option maxRecDepth 100000 in
set_option maxHeartbeats 4000000 in
theorem allowed_rg (n : ByteArray) (lo hi : Int) (w : World) (hg : VG w) (h0 : -9223372036854775808 ≤ lo ∧ lo ≤ 9223372036854775807) (h1 : -9223372036854775808 ≤ hi ∧ hi ≤ 9223372036854775807) :
    Calls Tryd.prog 32 #[cv (r5 (n, .rg lo hi))] w fun e w' => e = .returned (.string ⟨(allowedK (.rg lo hi)).toArray⟩) ∧ Below w.heap.size w w' := by
  have B := Lib.hid ((Below.refl w.heap.size w).alloc (Nat.le_refl _) (.cells (cells5 (r5 (n, .rg lo hi))).toArray 23))
  have X := Lib.hid (box_new w (cells5 (r5 (n, .rg lo hi))).toArray 23)
  have G := Lib.hid (hg.bel B.out)
  have R := Lib.hid (show (⟨(allowedK (.rg lo hi)).toArray⟩ : ByteArray) = ⟨((58 :: Lib.itoa lo) ++ [46, 46] ++ Lib.itoa hi).toArray⟩ by simp [allowedK])
  generalize (⟨(allowedK (.rg lo hi)).toArray⟩ : ByteArray) = res at *
  have L0 := Lib.itoa_length_le lo h0.1 h0.2
  have L1 := Lib.itoa_length_le hi h1.1 h1.2
  have E1 := fun w => add_run [58] (Lib.itoa lo) (by simp; omega) w
  have E2 := fun w => add_run (58 :: Lib.itoa lo) [46, 46] (by simp; omega) w
  have E3 := fun w => add_run (58 :: Lib.itoa lo ++ [46, 46]) (Lib.itoa hi) (by simp; omega) w
  change ∀ w, (Op.stringOp .add ⟨#[58]⟩ ⟨(Lib.itoa lo).toArray⟩).run Tryd.prog w = .ok (.string ⟨(58 :: Lib.itoa lo).toArray⟩) w at E1
  change ∀ w, (Op.stringOp .add ⟨(58 :: Lib.itoa lo).toArray⟩ ⟨#[46, 46]⟩).run Tryd.prog w = .ok (.string ⟨(58 :: Lib.itoa lo ++ [46, 46]).toArray⟩) w at E2
  change ∀ w, (Op.stringOp .add ⟨(58 :: Lib.itoa lo ++ [46, 46]).toArray⟩ ⟨(Lib.itoa hi).toArray⟩).run Tryd.prog w = .ok (.string ⟨((58 :: Lib.itoa lo) ++ [46, 46] ++ Lib.itoa hi).toArray⟩) w at E3
  have S1 := fun W hW => itoa_re lo W hW h0.1 h0.2 _ rfl
  have S2 := fun W hW => itoa_re hi W hW h1.1 h1.2 _ rfl
  generalize (⟨(Lib.itoa lo).toArray⟩ : ByteArray) = s1 at *
  generalize (⟨(Lib.itoa hi).toArray⟩ : ByteArray) = s2 at *
  generalize (⟨((58 :: Lib.itoa lo) ++ [46, 46] ++ Lib.itoa hi).toArray⟩ : ByteArray) = s5 at *
  generalize (⟨(58 :: Lib.itoa lo ++ [46, 46]).toArray⟩ : ByteArray) = s4 at *
  generalize (⟨(58 :: Lib.itoa lo).toArray⟩ : ByteArray) = s3 at *
  have T1 := Lib.hid S1
  have T2 := Lib.hid S2
  clear L0 L1 S1 S2
  simp only [r5, kN, kLo, kHi, kT] at *
  clear h0 h1
  go_enter Tryd.func32, Tryd.ntmps32
  go_wp2_with fail
  change Code.wp _ _ _ _ (w.alloc (.cells (cells5 (n, 1, lo, hi, ⟨#[]⟩)).toArray 23))
  generalize w.alloc (.cells (cells5 (n, 1, lo, hi, ⟨#[]⟩)).toArray 23) = W at *
  have C1 := Lib.hid (T1.out W G.out)
  have C2 := Lib.hid (T2.out W G.out)
  clear T1 T2
  have a2 := cell_regrown (show W.cell? ⟨w.heap.size, 2, none⟩ = some (.int .i64 lo) from X.out.cell 2)
  have a3 := cell_regrown (show W.cell? ⟨w.heap.size, 3, none⟩ = some (.int .i64 hi) from X.out.cell 3)
  clear G X
  refine wp_region_quiet_below (by kernel_rfl) (by kernel_rfl) ?_
  repeat (go_big_quiet_step (first | (with_reducible exact C1.out _ _) | (with_reducible exact C2.out _ _)))
  refine wpQuiet_nil ?_
  intro _ hw'
  obtain ⟨⟨dq, osq⟩, hw''⟩ := hw'
  subst hw''
  have BZ := Lib.hid (B.out.trans ((below_regrown W dq osq).mono B.out.size))
  clear a2 a3 E1 E2 E3
  go_wp2
  go_ret
  exact ⟨by rw [R.out]; rfl, BZ.out⟩

set_option maxRecDepth 100000 in
set_option maxHeartbeats 4000000 in
theorem allowed_tx (n u : ByteArray) (w : World) (hg : VG w) (hs : u.size ≤ 100) :
    Calls Tryd.prog 32 #[cv (r5 (n, .tx u))] w fun e w' => e = .returned (.string ⟨(allowedK (.tx u)).toArray⟩) ∧ Below w.heap.size w w' := by
  have B := Lib.hid ((Below.refl w.heap.size w).alloc (Nat.le_refl _) (.cells (cells5 (r5 (n, .tx u))).toArray 23))
  have G := Lib.hid (hg.bel B.out)
  have LE := esc_len u.data.toList
  have hu : u.data.toList.length = u.size := by rw [Array.length_toList]; rfl
  have E1 := fun w => add_run [61] (VaP.say true 0 u.data.toList) (by simp [VaP.say]; omega) w
  change ∀ w, (Op.stringOp .add ⟨#[61]⟩ ⟨(VaP.say true 0 u.data.toList).toArray⟩).run Tryd.prog w = .ok (.string ⟨(allowedK (.tx u)).toArray⟩) w at E1
  have T1 := Lib.hid (fun W (hW : VG W) => say_any true 0 u W hW (by omega) (by omega) (by omega))
  generalize (⟨(allowedK (.tx u)).toArray⟩ : ByteArray) = res at *
  generalize (⟨(VaP.say true 0 u.data.toList).toArray⟩ : ByteArray) = s1 at *
  clear LE hu hs hg
  simp only [r5, kN, kLo, kHi, kT] at *
  go_enter Tryd.func32, Tryd.ntmps32
  go_wp2_with fail
  refine (vtext_any u _).mono ?_
  rintro e2 w2 ⟨rfl, hb2⟩
  have B2 := Lib.hid (B.out.trans (hb2.mono B.out.size))
  have G2 := Lib.hid (G.out.bel hb2)
  clear hb2 B G
  go_wp2_with fail
  refine (T1.out w2 G2.out).mono ?_
  rintro e3 w3 ⟨rfl, hb3⟩
  have B3 := Lib.hid (B2.out.trans (hb3.mono B2.out.size))
  clear hb3 B2 G2 T1
  go_wp2
  go_ret
  exact ⟨rfl, B3.out⟩

set_option maxRecDepth 100000 in
set_option maxHeartbeats 4000000 in
theorem allowed_pr (n u : ByteArray) (w : World) (hg : VG w) (hs : u.size ≤ 100) :
    Calls Tryd.prog 32 #[cv (r5 (n, .pr u))] w fun e w' => e = .returned (.string ⟨(allowedK (.pr u)).toArray⟩) ∧ Below w.heap.size w w' := by
  have B := Lib.hid ((Below.refl w.heap.size w).alloc (Nat.le_refl _) (.cells (cells5 (r5 (n, .pr u))).toArray 23))
  have G := Lib.hid (hg.bel B.out)
  have LE := esc_len u.data.toList
  have hu : u.data.toList.length = u.size := by rw [Array.length_toList]; rfl
  have E1 := fun w => add_run [94] (VaP.say true 0 u.data.toList) (by simp [VaP.say]; omega) w
  change ∀ w, (Op.stringOp .add ⟨#[94]⟩ ⟨(VaP.say true 0 u.data.toList).toArray⟩).run Tryd.prog w = .ok (.string ⟨(allowedK (.pr u)).toArray⟩) w at E1
  have T1 := Lib.hid (fun W (hW : VG W) => say_any true 0 u W hW (by omega) (by omega) (by omega))
  generalize (⟨(allowedK (.pr u)).toArray⟩ : ByteArray) = res at *
  generalize (⟨(VaP.say true 0 u.data.toList).toArray⟩ : ByteArray) = s1 at *
  clear LE hu hs hg
  simp only [r5, kN, kLo, kHi, kT] at *
  go_enter Tryd.func32, Tryd.ntmps32
  go_wp2_with fail
  refine (vtext_any u _).mono ?_
  rintro e2 w2 ⟨rfl, hb2⟩
  have B2 := Lib.hid (B.out.trans (hb2.mono B.out.size))
  have G2 := Lib.hid (G.out.bel hb2)
  clear hb2 B G
  go_wp2_with fail
  refine (T1.out w2 G2.out).mono ?_
  rintro e3 w3 ⟨rfl, hb3⟩
  have B3 := Lib.hid (B2.out.trans (hb3.mono B2.out.size))
  clear hb3 B2 G2 T1
  go_wp2
  go_ret
  exact ⟨rfl, B3.out⟩

theorem allowed_any (c : Cn) (w : World) (hg : VG w) (hs : smallC c) :
    Calls Tryd.prog 32 #[cv (r5 c)] w fun e w' => e = .returned (.string ⟨(allowedK c.2).toArray⟩) ∧ Below w.heap.size w w' := by
  obtain ⟨n, k⟩ := c
  obtain ⟨_, h2, h3, h4⟩ := hs
  cases k with
  | rg lo hi => exact allowed_rg n lo hi w hg h3 h4
  | tx u => exact allowed_tx n u w hg h2
  | pr u => exact allowed_pr n u w hg h2
end Go.Proofs.YtbfecndhjlimaaaDoor.Pr
