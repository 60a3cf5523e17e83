/-
  The law PredPrefixes, whole: it answers true at any two texts and number. Condition: the contracts of package pred; numbers of 64 bits; texts no longer than a machine holds.
-/
import Derived.Test.YtbfecndhjlimaaaDoorPrPref
import Derived.RegionTactic
namespace Go.Proofs.YtbfecndhjlimaaaDoor.Pr
open Go.RowKit Go.Sort Go.Proofs.YtbfecndhjlimaaaDoor Go.Proofs.YtbfecndhjlimaaaDoor.Pu Go.Proofs.YtbfecndhjlimaaaDoor.Rw Go.Proofs.YtbfecndhjlimaaaDoor.Va

set_option maxRecDepth 100000 in
set_option maxHeartbeats 8000000 in
theorem prefixes_any {G : World → Prop} (K : POks G) (s t : ByteArray) (n : Int) (w : World) (hg : G w) (hs : s.size ≤ maxLen) (ht : t.size ≤ maxLen) (n0 : -9223372036854775808 ≤ n) (n1 : n ≤ 9223372036854775807) :
    Calls Tryd.prog 6 #[.string s, .string t, .int .i64 n] w (PredQ w) := by
  have HG := Lib.hid hg
  unfold maxLen at hs ht
  have z1 : (s.extract 0 (if 6 < (s.size : Int) then 6 else (s.size : Int)).toNat).size ≤ 6 := by rw [ByteArray.size_extract]; split <;> omega
  have z2 : (t.extract 0 (if 5 < (t.size : Int) then 5 else (t.size : Int)).toNat).size ≤ 5 := by rw [ByteArray.size_extract]; split <;> omega
  have S := Lib.hid (szs _ _ n z1 z2 n0 n1)
  clear hg z1 z2 n0 n1
  go_enter Tryd.func6, Tryd.ntmps6
  go_wp2_with fail
  go_region
  generalize s.extract 0 (if 6 < (s.size : Int) then 6 else (s.size : Int)).toNat = a at *
  generalize t.extract 0 (if 5 < (t.size : Int) then 5 else (t.size : Int)).toNat = b at *
  simp only [Exit.then]
  apply_assumption
  exact pref_2 K w _ a b n S.out HG.out (Below.refl _ _).drew _ _ _ _ _ _ _ _ _ _ _ _ _ _ _ _ _ _ _ _ _ _ _ _ _ _ _ _ _ _ _ _ _ _ _ _ _ _ _ _ _ _ _ _ _ _ _ _ _ _ _ _ _ _ _ _ _ _ _ _ _ _ _ _ _ _ _ _ _ _ _ _ _ _ _ _ _ _ _ _ _ _ _ _ _ _ _ _ _ _ _ _ _ _ _ _ _ _ _ _ _ _ _ _ _ _ _ _ _ _ _ _ _ _ _ _ _ _ _ _ _ _ _ _ _ _ _ _ _ _ _ _ _ _ _ _ _ _ _ _ _ _ _ _ _ _ _ _ _ _ _ _ _ _ _ _ _ _ _ _ _ _ _ _ _ _ _ _ _ _ _ _ _ _ _ _ _ 
end Go.Proofs.YtbfecndhjlimaaaDoor.Pr
