/-
  The contracts wanted of package pred, and chapter 4's runs out of them. Condition: those contracts; package errors' variable holds the handle of the type 'error'.
-/
import Derived.Test.YtbfecndhjlimaaaDoorPrSame
import Derived.Test.YtbfecndhjlimaaaDoorFaRead
import Derived.Test.YtbfecndhjlimaaaDoorFaSame
namespace Go.Proofs.YtbfecndhjlimaaaDoor.Pr
open Go.RowKit Go.Sort Go.Proofs.YtbfecndhjlimaaaDoor Go.Proofs.YtbfecndhjlimaaaDoor.Pu Go.Proofs.YtbfecndhjlimaaaDoor.Rw Go.Proofs.YtbfecndhjlimaaaDoor.Va

/-- Sizes that every law keeps to. -/
def smallC (c : Cn) : Prop := c.1.size ≤ 100 ∧ (kT c.2).size ≤ 100 ∧ (-9223372036854775808 ≤ kLo c.2 ∧ kLo c.2 ≤ 9223372036854775807) ∧ (-9223372036854775808 ≤ kHi c.2 ∧ kHi c.2 ≤ 9223372036854775807)
def SmallP (l : List Cn) : Prop := l.length ≤ 100 ∧ ∀ c ∈ l, smallC c
def predTxt : ByteArray := ⟨#[112, 114, 101, 100]⟩
/-- What Make answers. -/
def MakeQ (w : World) (l : List Cn) (e : Ending) (w' : World) : Prop := Below w.heap.size w w' ∧ (match makeC l with
  | .ok m => ∃ pv, e = .returned (.tuple #[pv, .nilIface]) ∧ RowC w' pv (m.map r5)
  | .error (k, at_) => ∃ b v, e = .returned (.tuple #[.slice none 0 0, v]) ∧ Fa.Ch w' [(b, predTxt, (at_ : Int))] v (.iface 32 (.int .i64 k)))
def MakeOk (G : World → Prop) : Prop := ∀ (lv : Value) (l : List Cn) (w : World), G w → RowC w lv (l.map r5) → SmallP l → (∀ c ∈ l, goodC c = true) → Calls Tryd.prog 9 #[lv] w (MakeQ w l)
def PSayOk (G : World → Prop) : Prop := ∀ (lv : Value) (l : List Cn) (w : World), G w → RowC w lv (l.map r5) → SmallP l → Calls Tryd.prog 10 #[lv] w fun e w' => e = .returned (.string ⟨(sayC l).toArray⟩) ∧ Below w.heap.size w w'
def PRightOk : Prop := ∀ (lv : Value) (l : List Cn) (w : World), RowC w lv (l.map r5) → SmallP l → RiseC l → l.length ≤ 5 → (∀ c ∈ l, goodC c = true) → Calls Tryd.prog 16 #[lv] w fun e w' => e = .returned (.bool true) ∧ Below w.heap.size w w'
def PSameOk : Prop := ∀ (av_ bv : Value) (l m : List C5) (w : World), RowC w av_ l → RowC w bv m → l.length ≤ 100 → m.length ≤ 100 → Calls Tryd.prog 17 #[av_, bv] w fun e w' => e = .returned (.bool (sameC l m)) ∧ Below w.heap.size w w'
def HoldsOk : Prop := ∀ (c : Cn) (t : Bool) (n : Int) (s : ByteArray) (w : World), smallC c → s.size ≤ 100 → Calls Tryd.prog 20 #[cv (r5 c), vl t n s] w fun e w' => e = .returned (.bool (holdsK c.2 (t, n, s))) ∧ Below w.heap.size w w'
def BothOk : Prop := ∀ (a b : Cn) (w : World), smallC a → smallC b → goodC a = true → goodC b = true → a.1 = b.1 → Calls Tryd.prog 25 #[cv (r5 a), cv (r5 b)] w fun e w' =>
  (∃ c, e = .returned (.tuple #[cv c, .bool (bothK a.2 b.2).isSome]) ∧ ∀ k, bothK a.2 b.2 = some k → c = r5 (a.1, k)) ∧ Below w.heap.size w w'
def OneOk : Prop := ∀ (c : Cn) (w : World), smallC c → Calls Tryd.prog 21 #[cv (r5 c)] w fun e w' => e = .returned (.bool (goodC c)) ∧ Below w.heap.size w w'
structure POks (G : World → Prop) : Prop where
  bel : ∀ w w', G w → Below w.heap.size w w' → G w'
  eg : ∀ w, G w → Fa.EG w
  make : MakeOk G
  say : PSayOk G
  right : PRightOk
  same : PSameOk
  holds : HoldsOk
  both : BothOk
  one : OneOk

def nA : ByteArray := ⟨#[97]⟩
def nB : ByteArray := ⟨#[98]⟩
def tX : ByteArray := ⟨#[120]⟩
def tXY : ByteArray := ⟨#[120, 121]⟩
theorem good_A : nameB nA = true := by decide
theorem good_B : nameB nB = true := by decide
theorem runs1 : makeC [(nA, .rg 1 5), (nA, .rg 3 9)] = .ok [(nA, .rg 3 5)] := (make_one nA (.rg 1 5) [.rg 3 9]).1 _ rfl
theorem runs2 : makeC [(nB, .pr tX), (nB, .tx tXY)] = .ok [(nB, .tx tXY)] := (make_one nB (.pr tX) [.tx tXY]).1 _ (by simp [allK, bothK, show pfx tX tXY = true by decide])
theorem runs3 : makeC [(nA, .rg 1 2), (nA, .rg 5 6)] = .error (5, 1) := by
  simp [makeC, foldC, insC, VaP.bl_irrefl, show bothK (.rg 1 2) (.rg 5 6) = none from rfl]
theorem says1 : sayC [(nA, .rg 3 5)] = [97, 58, 51, 46, 46, 53] := by
  have h1 : Lib.decDigits 3 = [51] := Lib.decDigits_one (by decide)
  have h2 : Lib.decDigits 5 = [53] := Lib.decDigits_one (by decide)
  simp [sayC, sayK, nA, Lib.itoa, h1, h2]
theorem says2 : sayC [(nB, .tx tXY)] = [98, 61, 34, 120, 121, 34] := by
  simp [sayC, sayK, nB, tXY, VaP.say, VaP.esc]
theorem small1 : SmallP [(nA, .rg 1 5), (nA, .rg 3 9)] ∧ SmallP [(nA, .rg 3 5)] ∧ SmallP [(nB, .pr tX), (nB, .tx tXY)] ∧ SmallP [(nB, .tx tXY)] ∧ SmallP [(nA, .rg 1 2), (nA, .rg 5 6)] := by
  refine ⟨?_, ?_, ?_, ?_, ?_⟩ <;> (refine ⟨by decide, fun x hx => ?_⟩; simp at hx) <;> first | (rcases hx with rfl | rfl <;> exact ⟨by decide, by decide, by decide, by decide⟩) | (subst hx; exact ⟨by decide, by decide, by decide, by decide⟩)
theorem goods1 : (∀ c ∈ [(nA, Kd.rg 1 5), (nA, Kd.rg 3 9)], goodC c = true) ∧ (∀ c ∈ [(nB, Kd.pr tX), (nB, Kd.tx tXY)], goodC c = true) ∧ (∀ c ∈ [(nA, Kd.rg 1 2), (nA, Kd.rg 5 6)], goodC c = true) := by
  refine ⟨?_, ?_, ?_⟩ <;> (intro x hx; simp at hx; rcases hx with rfl | rfl <;> decide)
/-- A literal of two. -/
theorem row_two (w : World) (c d : C5) : RowC (w.alloc (.cells #[.string c.1, .int .i64 c.2.1, .int .i64 c.2.2.1, .int .i64 c.2.2.2.1, .string c.2.2.2.2, .string d.1, .int .i64 d.2.1, .int .i64 d.2.2.1, .int .i64 d.2.2.2.1, .string d.2.2.2.2] 23)) (.slice (some ⟨w.heap.size, 0, none⟩) 2 2) [c, d] :=
  Row.of_own (row_lit okC w [c, d] 2 rfl (by simp) _ rfl)
theorem r_any (lo hi : Int) (w : World) : Calls Tryd.prog 8 #[.int .i64 lo, .int .i64 hi] w fun e w' => e = .returned (cv (nA, 1, lo, hi, ⟨#[]⟩)) ∧ Below w.heap.size w w' := by
  go_enter Tryd.func8, Tryd.ntmps8
  go_wp2
  exact bodyPost_ret (v := cv (nA, 1, lo, hi, ⟨#[]⟩)) (by simp [results, Tryd.results8, go_sem, nA]) rfl ⟨rfl, (Below.refl _ _).alloc (Nat.le_refl _) _⟩

set_option maxRecDepth 100000 in
set_option maxHeartbeats 4000000 in
theorem pruns_any {G : World → Prop} (K : POks G) (w : World) (hg : G w) : Calls Tryd.prog 3 #[] w fun e w' => e = .returned (.bool true) ∧ Below w.heap.size w w' := by
  have KK := Lib.hid K
  have HG := Lib.hid hg
  clear K hg
  go_enter Tryd.func3, Tryd.ntmps3
  go_wp2_with fail
  refine (r_any 1 5 _).mono ?_
  rintro e1 w1 ⟨rfl, hb⟩
  have B1 := Lib.hid hb
  clear hb
  go_wp2_with fail
  refine (r_any 3 9 _).mono ?_
  rintro e2 w2 ⟨rfl, hb⟩
  have B2 := Lib.hid (B1.out.trans (hb.mono B1.out.size))
  clear hb B1
  have R2 := Lib.hid (row_two w2 (r5 (nA, .rg 1 5)) (r5 (nA, .rg 3 9)))
  have B3 := Lib.hid (B2.out.alloc B2.out.size (.cells #[.string nA, .int .i64 1, .int .i64 1, .int .i64 5, .string ⟨#[]⟩, .string nA, .int .i64 1, .int .i64 3, .int .i64 9, .string ⟨#[]⟩] 23))
  go_wp2_with fail
  refine (KK.out.make _ [(nA, .rg 1 5), (nA, .rg 3 9)] _ (KK.out.bel _ _ HG.out B3.out) R2.out small1.1 goods1.1).mono ?_
  rintro e4 w4 ⟨hb, h4⟩
  rw [runs1] at h4
  obtain ⟨pv, rfl, hr⟩ := h4
  have B4 := Lib.hid (B3.out.trans (hb.mono B3.out.size))
  have P4 := Lib.hid hr
  clear hb hr B2 B3 R2
  have R4 := Lib.hid (row_two w4 (r5 (nB, .pr tX)) (r5 (nB, .tx tXY)))
  have B5 := Lib.hid (B4.out.alloc B4.out.size (.cells #[.string nB, .int .i64 3, .int .i64 0, .int .i64 0, .string tX, .string nB, .int .i64 2, .int .i64 0, .int .i64 0, .string tXY] 23))
  have P5 := Lib.hid (P4.out.on ((Below.refl _ _).alloc (Nat.le_refl _) (.cells #[.string nB, .int .i64 3, .int .i64 0, .int .i64 0, .string tX, .string nB, .int .i64 2, .int .i64 0, .int .i64 0, .string tXY] 23)))
  go_wp2_with fail
  refine (KK.out.make _ [(nB, .pr tX), (nB, .tx tXY)] _ (KK.out.bel _ _ HG.out B5.out) R4.out small1.2.2.1 goods1.2.1).mono ?_
  rintro e6 w6 ⟨hb, h6⟩
  rw [runs2] at h6
  obtain ⟨qv, rfl, hr⟩ := h6
  have B6 := Lib.hid (B5.out.trans (hb.mono B5.out.size))
  have P6 := Lib.hid (P5.out.on hb)
  have Q6 := Lib.hid hr
  clear hb hr B4 B5 P4 P5 R4
  go_wp2_with fail
  refine (r_any 1 2 _).mono ?_
  rintro e7 w7 ⟨rfl, hb⟩
  have B7 := Lib.hid (B6.out.trans (hb.mono B6.out.size))
  have P7 := Lib.hid (P6.out.on hb)
  have Q7 := Lib.hid (Q6.out.on hb)
  clear hb B6 P6 Q6
  go_wp2_with fail
  refine (r_any 5 6 _).mono ?_
  rintro e8 w8 ⟨rfl, hb⟩
  have B8 := Lib.hid (B7.out.trans (hb.mono B7.out.size))
  have P8 := Lib.hid (P7.out.on hb)
  have Q8 := Lib.hid (Q7.out.on hb)
  clear hb B7 P7 Q7
  have R8 := Lib.hid (row_two w8 (r5 (nA, .rg 1 2)) (r5 (nA, .rg 5 6)))
  have B9 := Lib.hid (B8.out.alloc B8.out.size (.cells #[.string nA, .int .i64 1, .int .i64 1, .int .i64 2, .string ⟨#[]⟩, .string nA, .int .i64 1, .int .i64 5, .int .i64 6, .string ⟨#[]⟩] 23))
  have U9 := Lib.hid ((Below.refl w8.heap.size w8).alloc (Nat.le_refl _) (.cells #[.string nA, .int .i64 1, .int .i64 1, .int .i64 2, .string ⟨#[]⟩, .string nA, .int .i64 1, .int .i64 5, .int .i64 6, .string ⟨#[]⟩] 23))
  have P9 := Lib.hid (P8.out.on U9.out)
  have Q9 := Lib.hid (Q8.out.on U9.out)
  go_wp2_with fail
  refine (KK.out.make _ [(nA, .rg 1 2), (nA, .rg 5 6)] _ (KK.out.bel _ _ HG.out B9.out) R8.out small1.2.2.2.2 goods1.2.2).mono ?_
  rintro e10 w10 ⟨hb, h10⟩
  rw [runs3] at h10
  obtain ⟨b, ev, rfl, hc⟩ := h10
  have B10 := Lib.hid (B9.out.trans (hb.mono B9.out.size))
  have P10 := Lib.hid (P9.out.on hb)
  have Q10 := Lib.hid (Q9.out.on hb)
  have C10 := Lib.hid hc
  obtain ⟨rfl, v', hv', hv2⟩ := hc
  have CV := Lib.hid hv'
  clear hb B8 B9 P8 P9 Q8 Q9 R8 U9 hv' hv2
  go_wp2_with fail
  refine (KK.out.say _ [(nA, .rg 3 5)] _ (KK.out.bel _ _ HG.out B10.out) P10.out small1.2.1).mono ?_
  rintro e11 w11 ⟨rfl, hb⟩
  have B11 := Lib.hid (B10.out.trans (hb.mono B10.out.size))
  have Q11 := Lib.hid (Q10.out.on hb)
  have C11 := Lib.hid (C10.out.bel hb)
  clear hb B10 P10 Q10 C10 CV
  rw [says1]
  go_wp2_with fail
  refine (KK.out.say _ [(nB, .tx tXY)] _ (KK.out.bel _ _ HG.out B11.out) Q11.out small1.2.2.2.1).mono ?_
  rintro e12 w12 ⟨rfl, hb⟩
  have B12 := Lib.hid (B11.out.trans (hb.mono B11.out.size))
  have C12 := Lib.hid (C11.out.bel hb)
  clear hb B11 Q11 C11
  rw [says2]
  go_wp2_with fail
  refine (Fa.Is_Ch_E _ _ 5 5 _ C12.out).mono ?_
  rintro e13 w13 ⟨rfl, rfl⟩
  go_wp2_with fail
  obtain ⟨_, v'', hv'', _⟩ := C12.out
  refine (Fa.Place_F b predTxt _ v'' w12 (KK.out.eg _ (KK.out.bel _ _ HG.out B12.out)) hv'').mono ?_
  rintro e14 w14 ⟨rfl, hb⟩
  have B14 := Lib.hid (B12.out.trans (hb.mono B12.out.size))
  clear hb
  go_wp2
  go_ret
  exact ⟨rfl, B14.out⟩
end Go.Proofs.YtbfecndhjlimaaaDoor.Pr
