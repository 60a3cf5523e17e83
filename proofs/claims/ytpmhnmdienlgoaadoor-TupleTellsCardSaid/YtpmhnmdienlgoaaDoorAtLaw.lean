/-
  Chapter 3's runs, out of the contracts of package tuple. Condition: those contracts.
-/
import Derived.Test.YtpmhnmdienlgoaaDoorAtSpec
namespace Go.Proofs.YtpmhnmdienlgoaaDoor.At
open Go.RowKit Go.Sort Go.Proofs.YtpmhnmdienlgoaaDoor.Va Go.Proofs.YtpmhnmdienlgoaaDoor.In

def sayOne (x : A4) : List UInt8 := x.1.data.toList ++ [61] ++ VaP.say x.2.1 x.2.2.1 x.2.2.2.data.toList
/-- What a publication says. -/
def sayA : List A4 → List UInt8
  | [] => []
  | [x] => sayOne x
  | x :: y :: r => sayOne x ++ [44] ++ sayA (y :: r)
/-- What Get hands back. -/
def gotV : Option V3 → Value
  | some v => .tuple #[vl v.1 v.2.1 v.2.2, .bool true]
  | none => .tuple #[vl false 0 ⟨#[]⟩, .bool false]
/-- Sizes that every law keeps to. -/
def Small (l : List A4) : Prop := l.length ≤ 100 ∧ ∀ x ∈ l, x.1.size ≤ 100 ∧ x.2.2.2.size ≤ 100 ∧ -9223372036854775808 ≤ x.2.2.1 ∧ x.2.2.1 ≤ 9223372036854775807

def GetOk : Prop := ∀ (lv : Value) (l : List A4) (n : ByteArray) (w : World), RowA w lv l → l.length ≤ 100 → n.size ≤ maxLen →
  Calls Tryd.prog 8 #[lv, .string n] w fun e w' => e = .returned (gotV (getA l n)) ∧ Below w.heap.size w w'
def PutOk : Prop := ∀ (lv : Value) (l : List A4) (n : ByteArray) (t : Bool) (k : Int) (s : ByteArray) (w : World), RowA w lv l → l.length ≤ 100 → Rise l → n.size ≤ maxLen →
  Calls Tryd.prog 10 #[lv, .string n, vl t k s] w fun e w' => ∃ pv, e = .returned pv ∧ RowA w' pv (putA l n (t, k, s)) ∧ Below w.heap.size w w'
def SameOk : Prop := ∀ (av_ bv : Value) (l m : List A4) (w : World), RowA w av_ l → RowA w bv m → l.length ≤ 100 → m.length ≤ 100 →
  Calls Tryd.prog 17 #[av_, bv] w fun e w' => e = .returned (.bool (sameL l m)) ∧ Below w.heap.size w w'
def SayOk (G : World → Prop) : Prop := ∀ (lv : Value) (l : List A4) (w : World), G w → RowA w lv l → Small l →
  Calls Tryd.prog 9 #[lv] w fun e w' => e = .returned (.string ⟨(sayA l).toArray⟩) ∧ Below w.heap.size w w'
def RightOk : Prop := ∀ (lv : Value) (l : List A4) (w : World), RowA w lv l → Small l →
  Calls Tryd.prog 11 #[lv] w fun e w' => e = .returned (.bool (rightT l)) ∧ Below w.heap.size w w'
structure Oks (G : World → Prop) : Prop where
  bel : ∀ w w', G w → Below w.heap.size w w' → G w'
  get : GetOk
  put : PutOk
  same : SameOk
  say : SayOk G
  right : RightOk

def l0 : List A4 := [(⟨#[97]⟩, false, 1, ⟨#[]⟩), (⟨#[98]⟩, true, 0, ⟨#[120]⟩)]
theorem tl (l : List UInt8) : (⟨l.toArray⟩ : ByteArray).toList = l := by rw [ByteArray.toList_eq]
theorem l0_get : getA l0 ⟨#[98]⟩ = some (true, 0, ⟨#[120]⟩) := by decide
theorem l0_rise : Rise l0 := by
  unfold Rise l0
  refine List.pairwise_cons.2 ⟨fun y hy => ?_, by simp⟩
  simp at hy
  rw [hy, ByteArray.toList_eq, ByteArray.toList_eq]
  decide
theorem l0_put : putA l0 ⟨#[97]⟩ (false, 2, ⟨#[]⟩) = [(⟨#[97]⟩, false, 2, ⟨#[]⟩), (⟨#[98]⟩, true, 0, ⟨#[120]⟩)] := by
  simp [putA, l0, VaP.bl_irrefl]
theorem l0_say : sayA l0 = [97, 61, 49, 44, 98, 61, 34, 120, 34] := by
  have h1 : Lib.decDigits 1 = [49] := Lib.decDigits_one (by decide)
  simp [sayA, sayOne, l0, VaP.say, Lib.itoa, h1, VaP.esc]
theorem l0_say2 : sayA [(⟨#[97]⟩, false, 2, ⟨#[]⟩), (⟨#[98]⟩, true, 0, ⟨#[120]⟩)] = [97, 61, 50, 44, 98, 61, 34, 120, 34] := by
  have h1 : Lib.decDigits 2 = [50] := Lib.decDigits_one (by decide)
  simp [sayA, sayOne, VaP.say, Lib.itoa, h1, VaP.esc]
theorem l0_right : rightT l0 = true := by
  have e : Op.bytesLess (ByteArray.toList ⟨#[97]⟩) (ByteArray.toList ⟨#[98]⟩) = true := by rw [ByteArray.toList_eq, ByteArray.toList_eq]; decide
  have n1 : nameB ⟨#[97]⟩ = true := by decide
  have n2 : nameB ⟨#[98]⟩ = true := by decide
  have e0 : (ByteArray.toList ⟨#[]⟩) = [] := by rw [ByteArray.toList_eq]
  simp [rightT, l0, List.range_succ, goodB, n1, n2, rightV, pairB, e0]
  decide
theorem l0_small : Small l0 ∧ Small [((⟨#[97]⟩ : ByteArray), false, (2 : Int), (⟨#[]⟩ : ByteArray)), (⟨#[98]⟩, true, 0, ⟨#[120]⟩)] := by
  constructor <;> (refine ⟨by decide, fun x hx => ?_⟩; simp [l0] at hx; rcases hx with rfl | rfl <;> decide)
theorem row_new (w : World) : RowA (w.alloc (.cells #[.string ⟨#[97]⟩, .bool false, .int .i64 1, .string ⟨#[]⟩, .string ⟨#[98]⟩, .bool true, .int .i64 0, .string ⟨#[120]⟩] 25)) (.slice (some ⟨w.heap.size, 0, none⟩) 2 2) l0 := by
  refine Or.inr ⟨⟨w.heap.size, 0, none⟩, 2, rfl, by decide, by decide, fun j u hj => ?_⟩
  have e : (⟨w.heap.size, 0, none⟩ : Addr).add j = ⟨w.heap.size, j, none⟩ := by unfold Addr.add; split <;> simp_all
  rw [e, World.cell?_alloc_at _ _ _ _ rfl]
  simpa [flatA, l0] using hj

set_option maxRecDepth 100000 in
set_option maxHeartbeats 4000000 in
theorem truns_any {G : World → Prop} (K : Oks G) (w : World) (hg : G w) : Calls Tryd.prog 3 #[] w fun e w' => e = .returned (.bool true) ∧ Below w.heap.size w w' := by
  have KK := Lib.hid K
  have HG := Lib.hid hg
  clear K hg
  have R1 := Lib.hid (row_new w)
  have B1 := Lib.hid (show Below w.heap.size w (w.alloc (.cells #[.string ⟨#[97]⟩, .bool false, .int .i64 1, .string ⟨#[]⟩, .string ⟨#[98]⟩, .bool true, .int .i64 0, .string ⟨#[120]⟩] 25)) from (Below.refl _ _).alloc (Nat.le_refl _) _)
  go_enter Tryd.func3, Tryd.ntmps3
  go_wp2_with fail
  generalize w.alloc (.cells #[.string ⟨#[97]⟩, .bool false, .int .i64 1, .string ⟨#[]⟩, .string ⟨#[98]⟩, .bool true, .int .i64 0, .string ⟨#[120]⟩] 25) = w1 at R1 B1 ⊢
  refine (KK.out.get _ _ ⟨#[98]⟩ _ R1.out (by decide) (by decide)).mono ?_
  rintro e2 w2 ⟨rfl, hb⟩
  have B2 := Lib.hid (B1.out.trans (hb.mono B1.out.size))
  have R2 := Lib.hid (R1.out.on hb)
  clear hb
  rw [l0_get, gotV]
  have B3 := Lib.hid (B2.out.alloc B2.out.size (.cells #[.bool true, .int .i64 0, .string ⟨#[120]⟩] 23))
  have R3 := Lib.hid (R2.out.on ((Below.refl _ _).alloc (Nat.le_refl _) (.cells #[.bool true, .int .i64 0, .string ⟨#[120]⟩] 23)))
  go_wp2_with fail
  refine (KK.out.say _ _ _ (KK.out.bel _ _ HG.out B3.out) R3.out l0_small.1).mono ?_
  rintro e4 w4 ⟨rfl, hb⟩
  have B4 := Lib.hid (B3.out.trans (hb.mono B3.out.size))
  have R4 := Lib.hid (R3.out.on hb)
  have c2 : w4.cell? ⟨w2.heap.size, 2, none⟩ = some (.string ⟨#[120]⟩) := by
    rw [hb.cell (p := ⟨w2.heap.size, 2, none⟩) (by simp), World.cell?_alloc_at _ _ _ _ rfl]; rfl
  clear hb
  rw [l0_say]
  go_wp2_with fail
  refine (KK.out.put _ _ ⟨#[97]⟩ false 2 ⟨#[]⟩ _ R4.out (by decide) l0_rise (by decide)).mono ?_
  rintro e5 w5 ⟨pv, rfl, hr, hb⟩
  have B5 := Lib.hid (B4.out.trans (hb.mono B4.out.size))
  have R5 := Lib.hid (R4.out.on hb)
  rw [l0_put] at hr
  have P5 := Lib.hid hr
  clear hb hr c2
  go_wp2_with fail
  refine (KK.out.say _ _ _ (KK.out.bel _ _ HG.out B5.out) P5.out l0_small.2).mono ?_
  rintro e6 w6 ⟨rfl, hb⟩
  have B6 := Lib.hid (B5.out.trans (hb.mono B5.out.size))
  have R6 := Lib.hid (R5.out.on hb)
  clear hb
  rw [l0_say2]
  go_wp2_with fail
  refine (KK.out.right _ _ _ R6.out l0_small.1).mono ?_
  rintro e7 w7 ⟨rfl, hb⟩
  have B7 := Lib.hid (B6.out.trans (hb.mono B6.out.size))
  clear hb
  rw [l0_right]
  go_wp2
  go_ret
  exact ⟨rfl, B7.out⟩
end Go.Proofs.YtpmhnmdienlgoaaDoor.At
