/-
  The law ValueOrder: it answers true at any three numbers. Conditions: numbers of 64 bits; strconv's table of powers of ten is as its text lays it.
-/
import Derived.Test.YtdcddhckhbjkeaaDoorVaRuns
import Derived.Lib.QuietBelow
import Derived.BigQuiet
namespace Go.Proofs.YtdcddhckhbjkeaaDoor.Va
open Go.RowKit Go.Sort

theorem txt_size (r : Int) : (txtAt r).size ≤ 3 := by
  unfold txtAt
  rcases Nat.lt_or_ge r.toNat 7 with h | h
  · generalize r.toNat = n at h
    match n, h with
    | 0, _ => decide
    | 1, _ => decide
    | 2, _ => decide
    | 3, _ => decide
    | 4, _ => decide
    | 5, _ => decide
    | 6, _ => decide
  · rw [List.getD_eq_getElem?_getD, List.getElem?_eq_none (by simpa using h)]
    decide
theorem kvS_size (n : Int) : (kvS n).size ≤ 3 := by
  unfold kvS; split
  · decide
  · exact txt_size _
theorem kv_right (n : Int) : rightV (!(evn n)) (kvN n) (kvS n) = true := by
  have hs := kvS_size n
  cases h : evn n
  · have h0 : kvN n = 0 := by simp [kvN, h]
    simp [rightV, h0]; omega
  · have h0 : kvS n = ⟨#[]⟩ := by simp [kvS, h]
    rw [h0]; simp [rightV]
theorem right_iff {t : Bool} {n : Int} {s : ByteArray} (h : rightV t n s = true) : if t then n = 0 else s.toList = [] := by
  cases t
  · simpa [rightV] using h
  · simp [rightV] at h; simp [h.1]

theorem stoodV : Tryd.prog.stoodInHeld 24 = false := by kernel_rfl
/-- Are two values the same? -/
def eqlV (t1 : Bool) (n1 : Int) (s1 : ByteArray) (t2 : Bool) (n2 : Int) (s2 : ByteArray) : Bool := t1 == t2 && n1 == n2 && s1.toList == s2.toList
theorem eqlV_iff (t1 : Bool) (n1 : Int) (s1 : ByteArray) (t2 : Bool) (n2 : Int) (s2 : ByteArray) : eqlV t1 n1 s1 t2 n2 s2 = true ↔ t1 = t2 ∧ n1 = n2 ∧ s1.toList = s2.toList := by
  simp [eqlV, and_assoc]
set_option maxRecDepth 100000 in
theorem neqV (t1 : Bool) (n1 : Int) (s1 : ByteArray) (t2 : Bool) (n2 : Int) (s2 : ByteArray) (r : Bool) (hr : eqlV t1 n1 s1 t2 n2 s2 = r) (w : World) :
    (binOp .neq 24 (vl t1 n1 s1) (vl t2 n2 s2)).run Tryd.prog w = .ok (.bool (!r)) w := by
  have st := stoodV
  subst hr
  unfold eqlV
  by_cases h1 : t1 = t2 <;> by_cases h2 : n1 = n2 <;> by_cases h3 : s1.toList = s2.toList <;> simp [go_sem, Tryd.underlying24, Tryd.underlying4, Tryd.underlying3, Tryd.underlying9, st, h1, h2, h3]
set_option maxRecDepth 100000 in
theorem eqV (t1 : Bool) (n1 : Int) (s1 : ByteArray) (t2 : Bool) (n2 : Int) (s2 : ByteArray) (r : Bool) (hr : eqlV t1 n1 s1 t2 n2 s2 = r) (w : World) :
    (binOp .eql 24 (vl t1 n1 s1) (vl t2 n2 s2)).run Tryd.prog w = .ok (.bool r) w := by
  have st := stoodV
  subst hr
  unfold eqlV
  by_cases h1 : t1 = t2 <;> by_cases h2 : n1 = n2 <;> by_cases h3 : s1.toList = s2.toList <;> simp [go_sem, Tryd.underlying24, Tryd.underlying4, Tryd.underlying3, Tryd.underlying9, st, h1, h2, h3]

/-- The contracts, met in a world that has drawn and laid blocks. -/
theorem less_re (t1 : Bool) (n1 : Int) (s1 : ByteArray) (t2 : Bool) (n2 : Int) (s2 : ByteArray) (r : Bool) (hr : VaP.lessV t1 n1 s1.toList t2 n2 s2.toList = r) (w : World) (d : Nat) (os : Array Obj) :
    Calls Tryd.prog 8 #[vl t1 n1 s1, vl t2 n2 s2] (grow (redrawn w d) os) fun e w'' => e = .returned (.bool r) ∧ ∃ p : Regrown, w'' = grow (redrawn w p.d) p.os := by
  subst hr
  exact Calls.regrown_of (less_any _ _ _ _ _ _ _)
theorem right_re (t : Bool) (n : Int) (s : ByteArray) (hs : s.size ≤ 9223372036854775807) (r : Bool) (hr : rightV t n s = r) (w : World) (d : Nat) (os : Array Obj) :
    Calls Tryd.prog 12 #[vl t n s] (grow (redrawn w d) os) fun e w'' => e = .returned (.bool r) ∧ ∃ p : Regrown, w'' = grow (redrawn w p.d) p.os := by
  subst hr
  exact Calls.regrown_of (right_any _ _ _ _ hs)
theorem runs_re (w : World) (hg : VG w) (d : Nat) (os : Array Obj) :
    Calls Tryd.prog 3 #[] (grow (redrawn w d) os) fun e w'' => e = .returned (.bool true) ∧ ∃ p : Regrown, w'' = grow (redrawn w p.d) p.os :=
  Calls.regrown_of (runs_any _ (hg.bel (below_regrown w d os)))

/-- How three values stand to one another. -/
theorem order_key (t1 : Bool) (n1 : Int) (s1 : ByteArray) (t2 : Bool) (n2 : Int) (s2 : ByteArray) (t3 : Bool) (n3 : Int) (s3 : ByteArray) (r12 r21 r23 r13 r : Bool)
    (h12 : VaP.lessV t1 n1 s1.toList t2 n2 s2.toList = r12) (h21 : VaP.lessV t2 n2 s2.toList t1 n1 s1.toList = r21) (h23 : VaP.lessV t2 n2 s2.toList t3 n3 s3.toList = r23) (h13 : VaP.lessV t1 n1 s1.toList t3 n3 s3.toList = r13)
    (he : eqlV t1 n1 s1 t2 n2 s2 = r) (k1 : rightV t1 n1 s1 = true) (k2 : rightV t2 n2 s2 = true) :
    (r12 = true ∧ r21 = false ∧ r = false ∧ r23 = false) ∨ (r12 = true ∧ r21 = false ∧ r = false ∧ r23 = true ∧ r13 = true) ∨ (r12 = false ∧ r21 = true ∧ r = false) ∨ (r12 = false ∧ r21 = false ∧ r = true) := by
  cases r12
  · cases r21
    · refine Or.inr (Or.inr (Or.inr ⟨rfl, rfl, ?_⟩))
      rcases VaP.lessV_total t1 t2 n1 n2 s1.toList s2.toList (right_iff k1) (right_iff k2) with h | h | h
      · rw [h12] at h; cases h
      · rw [← he]; exact (eqlV_iff _ _ _ _ _ _).2 h
      · rw [h21] at h; cases h
    · refine Or.inr (Or.inr (Or.inl ⟨rfl, rfl, ?_⟩))
      cases r
      · rfl
      · obtain ⟨rfl, rfl, h⟩ := (eqlV_iff _ _ _ _ _ _).1 he
        rw [h, VaP.lessV_irrefl] at h21; cases h21
  · have a21 : r21 = false := by rw [← h21]; exact VaP.lessV_asymm _ _ _ _ _ _ h12
    have ar : r = false := by
      cases r
      · rfl
      · obtain ⟨rfl, rfl, h⟩ := (eqlV_iff _ _ _ _ _ _).1 he
        rw [h, VaP.lessV_irrefl] at h12; cases h12
    cases r23
    · exact Or.inl ⟨rfl, a21, ar, rfl⟩
    · exact Or.inr (Or.inl ⟨rfl, a21, ar, rfl, by rw [← h13]; exact VaP.lessV_trans _ _ _ _ _ _ _ _ _ h12 h23⟩)

set_option maxRecDepth 100000 in
set_option maxHeartbeats 4000000 in
theorem order_any (i j k : Int) (w : World) (hg : VG w)
    (i1 : -9223372036854775808 ≤ i) (i2 : i ≤ 9223372036854775807) (j1 : -9223372036854775808 ≤ j) (j2 : j ≤ 9223372036854775807) (k1 : -9223372036854775808 ≤ k) (k2 : k ≤ 9223372036854775807) :
    Calls Tryd.prog 5 #[.int .i64 i, .int .i64 j, .int .i64 k] w fun e w' => e = .returned (.bool true) ∧ Below w.heap.size w w' := by
  have C1 := Lib.hid (fun wx => kvalue_any i wx i1 i2)
  have C2 := Lib.hid (fun wx => kvalue_any j wx j1 j2)
  have C3 := Lib.hid (fun wx => kvalue_any k wx k1 k2)
  have R1 := Lib.hid (kv_right i)
  have R2 := Lib.hid (kv_right j)
  have Z1 := Lib.hid (kvS_size i)
  have HG := Lib.hid hg
  clear i1 i2 j1 j2 k1 k2 hg
  go_enter Tryd.func5, Tryd.ntmps5
  go_wp2_with fail
  refine (C1.out _).mono ?_
  rintro e1 w1 ⟨rfl, hb1⟩
  have B1 := Lib.hid hb1
  clear hb1
  go_wp2_with fail
  refine (C2.out _).mono ?_
  rintro e2 w2 ⟨rfl, hb2⟩
  have B2 := Lib.hid (B1.out.trans (hb2.mono B1.out.size))
  clear hb2
  go_wp2_with fail
  refine (C3.out _).mono ?_
  rintro e3 w3 ⟨rfl, hb3⟩
  have B3 := Lib.hid (B2.out.trans (hb3.mono B2.out.size))
  clear hb3 C1 C2 C3
  generalize (!(evn i)) = t1 at *
  generalize (!(evn j)) = t2 at *
  generalize (!(evn k)) = t3 at *
  generalize kvN i = n1 at *
  generalize kvN j = n2 at *
  generalize kvN k = n3 at *
  generalize kvS i = s1 at *
  generalize kvS j = s2 at *
  generalize kvS k = s3 at *
  have hb4 : Below w3.heap.size w3 (((w3.alloc (.cells #[.bool t1, .int .i64 n1, .string s1] 24)).alloc (.cells #[.bool t2, .int .i64 n2, .string s2] 24)).alloc (.cells #[.bool t3, .int .i64 n3, .string s3] 24)) := (((Below.refl _ _).alloc (Nat.le_refl _) _).alloc (by simp) _).alloc (by simp; omega) _
  have B4 := Lib.hid (B3.out.trans (hb4.mono B3.out.size))
  clear hb4
  go_wp2
  have c1 : ∀ i, (((w3.alloc (.cells #[.bool t1, .int .i64 n1, .string s1] 24)).alloc (.cells #[.bool t2, .int .i64 n2, .string s2] 24)).alloc (.cells #[.bool t3, .int .i64 n3, .string s3] 24)).cell? ⟨w3.heap.size, i, none⟩ = #[.bool t1, .int .i64 n1, .string s1][i]? := fun i => by
    rw [World.cell?_alloc_lt _ _ _ (by simp; omega), World.cell?_alloc_lt _ _ _ (by simp), World.cell?_alloc_at _ _ _ _ rfl]
  have c2 : ∀ i, (((w3.alloc (.cells #[.bool t1, .int .i64 n1, .string s1] 24)).alloc (.cells #[.bool t2, .int .i64 n2, .string s2] 24)).alloc (.cells #[.bool t3, .int .i64 n3, .string s3] 24)).cell? ⟨w3.heap.size + 1, i, none⟩ = #[.bool t2, .int .i64 n2, .string s2][i]? := fun i => by
    rw [World.cell?_alloc_lt _ _ _ (by simp), World.cell?_alloc_at _ _ _ _ (by simp)]
  have c3 : ∀ i, (((w3.alloc (.cells #[.bool t1, .int .i64 n1, .string s1] 24)).alloc (.cells #[.bool t2, .int .i64 n2, .string s2] 24)).alloc (.cells #[.bool t3, .int .i64 n3, .string s3] 24)).cell? ⟨w3.heap.size + 1 + 1, i, none⟩ = #[.bool t3, .int .i64 n3, .string s3][i]? := fun i => by
    rw [World.cell?_alloc_at _ _ _ _ (by simp)]
  generalize (((w3.alloc (.cells #[.bool t1, .int .i64 n1, .string s1] 24)).alloc (.cells #[.bool t2, .int .i64 n2, .string s2] 24)).alloc (.cells #[.bool t3, .int .i64 n3, .string s3] 24)) = W4 at *
  generalize w3.heap.size = b at *
  have a0 := cell_regrown (c1 0)
  have a1 := cell_regrown (c1 1)
  have a2 := cell_regrown (c1 2)
  have b0 := cell_regrown (c2 0)
  have b1 := cell_regrown (c2 1)
  have b2 := cell_regrown (c2 2)
  have d0 := cell_regrown (c3 0)
  have d1 := cell_regrown (c3 1)
  have d2 := cell_regrown (c3 2)
  obtain ⟨r12, h12⟩ : ∃ r, VaP.lessV t1 n1 s1.toList t2 n2 s2.toList = r := ⟨_, rfl⟩
  obtain ⟨r21, h21⟩ : ∃ r, VaP.lessV t2 n2 s2.toList t1 n1 s1.toList = r := ⟨_, rfl⟩
  obtain ⟨r23, h23⟩ : ∃ r, VaP.lessV t2 n2 s2.toList t3 n3 s3.toList = r := ⟨_, rfl⟩
  obtain ⟨r13, h13⟩ : ∃ r, VaP.lessV t1 n1 s1.toList t3 n3 s3.toList = r := ⟨_, rfl⟩
  obtain ⟨r, hr⟩ : ∃ r, eqlV t1 n1 s1 t2 n2 s2 = r := ⟨_, rfl⟩
  have key := order_key t1 n1 s1 t2 n2 s2 t3 n3 s3 r12 r21 r23 r13 r h12 h21 h23 h13 hr R1.out R2.out
  have L11 := Lib.hid (less_re t1 n1 s1 t1 n1 s1 false (VaP.lessV_irrefl _ _ _) W4)
  have L12 := Lib.hid (less_re t1 n1 s1 t2 n2 s2 r12 h12 W4)
  have L21 := Lib.hid (less_re t2 n2 s2 t1 n1 s1 r21 h21 W4)
  have L23 := Lib.hid (less_re t2 n2 s2 t3 n3 s3 r23 h23 W4)
  have L13 := Lib.hid (less_re t1 n1 s1 t3 n3 s3 r13 h13 W4)
  have R := Lib.hid (right_re t1 n1 s1 (by have := Z1.out; omega) true R1.out W4)
  have U := Lib.hid (runs_re W4 (HG.out.bel B4.out))
  have hne := neqV t1 n1 s1 t2 n2 s2 r hr
  clear h12 h21 h23 h13 hr c1 c2 c3 R1 R2 Z1 B1 B2 B3
  rcases key with ⟨rfl, rfl, rfl, rfl⟩ | ⟨rfl, rfl, rfl, rfl, rfl⟩ | ⟨rfl, rfl, rfl⟩ | ⟨rfl, rfl, rfl⟩
  all_goals
    refine wp_region_quiet_below (by kernel_rfl) (by kernel_rfl) ?_
    repeat (go_big_quiet_step (first | (with_reducible exact L12.out _ _) | (with_reducible exact L21.out _ _) | (with_reducible exact L11.out _ _) | (with_reducible exact L23.out _ _) | (with_reducible exact L13.out _ _) | (with_reducible exact R.out _ _) | (with_reducible exact U.out _ _)))
    refine wpQuiet_nil ?_
    intro _ hw'
    obtain ⟨⟨dq, osq⟩, hw''⟩ := hw'
    subst hw''
    go_wp2
    go_ret
    exact ⟨rfl, B4.out.trans ((below_regrown W4 dq osq).mono B4.out.size)⟩
end Go.Proofs.YtdcddhckhbjkeaaDoor.Va
