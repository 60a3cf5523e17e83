/-
  Chapter 2's runs: the law answers true. Condition: strconv's table of powers of ten is as its text lays it.
-/
import Derived.Test.YtdcddhckhbjkeaaDoorVaVal
namespace Go.Proofs.YtdcddhckhbjkeaaDoor.Va
open Go.RowKit

theorem say_neg5 : VaP.say false (-5) [] = [45, 53] := by
  have h5 : Lib.decDigits 5 = [53] := Lib.decDigits_one (by decide)
  simp [VaP.say, Lib.itoa, h5]
set_option maxRecDepth 100000 in
set_option maxHeartbeats 1000000 in
theorem runs_any (w : World) (hg : VG w) :
    Calls Tryd.prog 3 #[] w fun e w' => e = .returned (.bool true) ∧ Below w.heap.size w w' := by
  have HG := Lib.hid hg
  clear hg
  go_enter Tryd.func3, Tryd.ntmps3
  go_wp2_with fail
  refine (number_any 9 _).mono ?_
  rintro e1 w1 ⟨rfl, hb⟩
  have B1 := Lib.hid hb
  clear hb
  go_wp2_with fail
  refine (text_any ⟨#[97]⟩ _).mono ?_
  rintro e2 w2 ⟨rfl, hb⟩
  have B2 := Lib.hid (B1.out.trans (hb.mono B1.out.size))
  clear hb
  go_wp2_with fail
  refine (less_any _ _ _ _ _ _ _).mono ?_
  rintro e3 w3 ⟨rfl, hb⟩
  have B3 := Lib.hid (B2.out.trans (hb.mono B2.out.size))
  clear hb
  rw [show VaP.lessV false 9 (ByteArray.toList ⟨#[]⟩) true 0 (ByteArray.toList ⟨#[97]⟩) = true from rfl]
  go_wp2_with fail
  refine (text_any ⟨#[97, 34, 98]⟩ _).mono ?_
  rintro e4 w4 ⟨rfl, hb⟩
  have B4 := Lib.hid (B3.out.trans (hb.mono B3.out.size))
  have C4 := Lib.hid (say_any true 0 ⟨#[97, 34, 98]⟩ w4 (HG.out.bel B4.out) (by decide) (by decide) (by decide))
  clear hb
  go_wp2_with fail
  refine C4.out.mono ?_
  rintro e5 w5 ⟨rfl, hb⟩
  have B5 := Lib.hid (B4.out.trans (hb.mono B4.out.size))
  clear hb C4
  rw [show (VaP.say true 0 (ByteArray.data ⟨#[97, 34, 98]⟩).toList).toArray = #[34, 97, 92, 34, 98, 34] from rfl]
  go_wp2_with fail
  refine (number_any (-5) _).mono ?_
  rintro e6 w6 ⟨rfl, hb⟩
  have B6 := Lib.hid (B5.out.trans (hb.mono B5.out.size))
  have C6 := Lib.hid (say_any false (-5) ⟨#[]⟩ w6 (HG.out.bel B6.out) (by decide) (by decide) (by decide))
  clear hb
  go_wp2_with fail
  refine C6.out.mono ?_
  rintro e7 w7 ⟨rfl, hb⟩
  have B7 := Lib.hid (B6.out.trans (hb.mono B6.out.size))
  clear hb C6
  rw [show (VaP.say false (-5) (ByteArray.data ⟨#[]⟩).toList).toArray = #[45, 53] by rw [show (ByteArray.data ⟨#[]⟩).toList = [] from rfl, say_neg5]]
  go_wp2_with fail
  refine (text_any ⟨#[]⟩ _).mono ?_
  rintro e8 w8 ⟨rfl, hb⟩
  have B8 := Lib.hid (B7.out.trans (hb.mono B7.out.size))
  clear hb
  go_wp2_with fail
  refine (right_any _ _ _ _ (by decide)).mono ?_
  rintro e9 w9 ⟨rfl, hb⟩
  have B9 := Lib.hid (B8.out.trans (hb.mono B8.out.size))
  clear hb
  rw [show rightV true 0 ⟨#[]⟩ = true from rfl]
  go_wp2
  go_ret
  exact ⟨rfl, B9.out⟩
end Go.Proofs.YtdcddhckhbjkeaaDoor.Va
