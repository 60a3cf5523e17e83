/-
  The law ValueSorts: whole: it answers true at every list of numbers. Condition: numbers of 64 bits; strconv's table of powers of ten is as its text lays it.
-/
import Derived.Test.YtdcddhckhbjkeaaDoorVaSortD
import Derived.Deep.CutBlock
namespace Go.Proofs.YtdcddhckhbjkeaaDoor.Va
open Go.RowKit Go.Sort Go.Proofs.YtdcddhckhbjkeaaDoor.Rg

set_option maxRecDepth 100000 in
set_option maxHeartbeats 8000000 in
theorem sorts_any (nv : Value) (zs : List Int) (w : World) (hz : InInts w nv zs) (hg : VG w) :
    Calls Tryd.prog 6 #[nv] w fun e w' => e = .returned (.bool true) ∧ Below w.heap.size w w' := by
  have HG := Lib.hid hg
  have HZ := Lib.hid hz
  clear hg hz
  go_enter Tryd.func6, Tryd.ntmps6
  go_upto_block 0 with (fail)
  refine sortsB0 _ _ _ zs HZ.out _ _ _ _ _ _ _ _ _ _ _ _ _ _ _ _ _ _ _ _ _ _ _ _ _ _ _ _ _ _ _ _ _ _ _ _ _ _ _ _ _ _ _ _ _ _ _ _ _ _ _ _ _ _ _ _ _ _ _ _ _ _ _ _ _ _ _ _ _ _ _ _ _ _ _ _ _ _ _ _ _ _ _ _ _ _ _ _ _ _ _ _ _ _ _ _ _ _ _ _ _ _ _ _ _ _ _ _ _ _ _ _ _ _ _ _ _ _ _ _ _ _ _ _ _ _ _ _ _ _ _ _ ?_
  rintro l w1 x3 x4 x5 x6 x12 x13 x14 x15 x16 x17 x18 x19 x20 x21 x22 x23 x24 x25 x26 x27 x28 x29 x30 x31 x32 x33 x34 x35 x36 x37 x38 x39 x40 x41 x42 x43 x44 x45 x46 x47 x48 x49 x50 x51 x52 x53 hb hrow hlen hord hok
  have B1 := Lib.hid hb
  have HR := Lib.hid hrow
  have HO := Lib.hid hord
  obtain ⟨ao, cap, hl⟩ := lenL hrow
  subst hl
  clear hb hrow hord hok
  go_upto_block 4 with (fail)
  refine sortsB4 _ _ _ l HR.out hlen HO.out _ _ _ _ _ _ _ _ _ _ _ _ _ _ _ _ _ _ _ _ _ _ _ _ _ _ _ _ _ _ _ _ _ _ _ _ _ _ _ _ _ _ _ _ _ _ _ _ _ _ _ _ _ _ _ _ _ _ _ _ _ _ _ _ _ _ _ _ _ _ _ _ _ _ _ _ _ _ _ _ _ _ _ _ _ _ _ _ _ _ _ _ _ _ _ _ _ _ _ _ _ _ _ _ _ _ _ _ _ _ _ _ _ _ _ _ _ _ _ _ _ _ _ _ _ _ _ _ _ _ _ ?_
  rintro w2 y2 y7 y8 y9 y11 y56 y57 y58 y59 y60 y61 y62 y63 y64 y65 y66 y67 y68 y69 y70 y71 y72 y73 y74 y75 y76 y77 y78 y79 y80 y81 y82 y83 y84 y85 y86 y87 y88 y89 y90 y91 y92 y93 y94 y95 y96 y97 y98 y99 y100 y101 y102 y103 y104 y105 y106 y107 y108 y109 y110 y111 y112 y113 y114 y115 y116 y117 y118 y119 y120 y121 y122 y123 y124 y125 y126 y127 y128 hb
  have B2 := Lib.hid (B1.out.trans (hb.mono B1.out.size))
  clear hb B1
  go_wp2_with fail
  refine (number_any 9223372036854775807 _).mono ?_
  rintro e3 w3 ⟨rfl, hb⟩
  have B3 := Lib.hid (B2.out.trans (hb.mono B2.out.size))
  clear hb
  go_wp2_with fail
  refine (text_any ⟨#[]⟩ _).mono ?_
  rintro e4 w4 ⟨rfl, hb⟩
  have B4 := Lib.hid (B3.out.trans (hb.mono B3.out.size))
  clear hb
  go_wp2_with fail
  refine (less_any _ _ _ _ _ _ _).mono ?_
  rintro e5 w5 ⟨rfl, hb⟩
  have B5 := Lib.hid (B4.out.trans (hb.mono B4.out.size))
  clear hb
  rw [show VaP.lessV false 9223372036854775807 (ByteArray.toList ⟨#[]⟩) true 0 (ByteArray.toList ⟨#[]⟩) = true from rfl]
  go_wp2_with fail
  refine (runs_any _ (HG.out.bel B5.out)).mono ?_
  rintro e6 w6 ⟨rfl, hb⟩
  have B6 := Lib.hid (B5.out.trans (hb.mono B5.out.size))
  clear hb
  go_wp2
  go_ret
  exact ⟨rfl, B6.out⟩
end Go.Proofs.YtdcddhckhbjkeaaDoor.Va
