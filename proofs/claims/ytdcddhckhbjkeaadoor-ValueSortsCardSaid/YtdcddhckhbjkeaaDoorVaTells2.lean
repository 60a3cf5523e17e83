/-
  The law ValueTells, its middle and its beginning: it answers true at any two values, any number and text. Conditions: numbers of 64 bits; texts no longer than a machine holds; strconv's table of powers of ten is as its text lays it.
-/
import Derived.Test.YtdcddhckhbjkeaaDoorVaTells12
namespace Go.Proofs.YtdcddhckhbjkeaaDoor.Va
open Go.RowKit Go.Sort

set_option maxRecDepth 100000 in
set_option maxHeartbeats 8000000 in
theorem tells_2 (w W : World) (b : Nat) (t1 : Bool) (n1 : Int) (s1 : ByteArray) (t2 : Bool) (n2 : Int) (s2 : ByteArray) (n : Int) (s : ByteArray)
    (hg : VG w) (h10 : -9223372036854775808 ≤ n1) (h11 : n1 ≤ 9223372036854775807) (h20 : -9223372036854775808 ≤ n2) (h21 : n2 ≤ 9223372036854775807) (z1 : s1.size ≤ 15) (z2 : s2.size ≤ 15)
    (hA : At w W b t1 n1 s1 t2 n2 s2)
    (u0 u1 u6 u7 u9 u10 u11 u12 u13 u14 u15 u16 u17 u18 u19 u20 u21 u22 u23 u24 u25 u26 u27 u28 u29 u30 u31 u32 u33 u34 u35 u36 u37 u38 u39 u40 u41 u42 u43 u44 u45 u46 u47 u48 u49 u50 u51 u52 u53 u54 u55 u56 u57 u58 u59 u60 u61 u62 u63 u64 u65 u66 u67 u68 u69 u70 u71 u72 u73 u74 u75 u76 u77 u78 u79 u80 u81 u82 u83 u84 u85 u86 u87 u88 u89 u90 u91 u92 u93 u94 u95 u96 u97 u98 u99 u100 u101 u102 u103 u104 : Value) :
    Code.wp Tryd.prog tells2 (bodyPost Tryd.prog Tryd.f4 (TellsQ w)) ⟨#[u0, u1, .int .i64 n, .string s, .pointer (some ⟨b, 0, none⟩), .pointer (some ⟨b + 1, 0, none⟩), u6, u7, .bool false, u9, u10, u11, u12, u13, u14, u15, u16, u17, u18, u19, u20, u21, u22, u23, u24, u25, u26, u27, u28, u29, u30, u31, u32, u33, u34, u35, u36, u37, u38, u39, u40, u41, u42, u43, u44, u45, u46, u47, u48, u49, u50, u51, u52, u53, u54, u55, u56, u57, u58, u59, u60, u61, u62, u63, u64, u65, u66, u67, u68, u69, u70, u71, u72, u73, u74, u75, u76, u77, u78, u79, u80, u81, u82, u83, u84, u85, u86, u87, u88, u89, u90, u91, u92, u93, u94, u95, u96, u97, u98, u99, u100, u101, u102, u103, u104], []⟩ W := by
  obtain ⟨r1, hr1⟩ : ∃ r, rightV t1 n1 s1 = r := ⟨_, rfl⟩
  obtain ⟨r2, hr2⟩ : ∃ r, rightV t2 n2 s2 = r := ⟨_, rfl⟩
  have X1 := Lib.hid (right_re t1 n1 s1 (by omega) r1 hr1 W)
  have X2 := Lib.hid (right_re t2 n2 s2 (by omega) r2 hr2 W)
  have RR := Lib.hid (fun W => refRight_any t1 n1 s1 W (by omega))
  rw [hr1] at RR
  have K1 := Lib.hid hr1
  have K2 := Lib.hid hr2
  have A0 := Lib.hid hA
  have HG := Lib.hid hg
  have a0 := cell_regrown (hA.h1 0)
  have a1 := cell_regrown (hA.h1 1)
  have a2 := cell_regrown (hA.h1 2)
  have b0 := cell_regrown (hA.h2 0)
  have b1 := cell_regrown (hA.h2 1)
  have b2 := cell_regrown (hA.h2 2)
  clear hr1 hr2 hA hg
  unfold tells2
  conv => enter [2, 1]; whnf
  conv => enter [2, 2, 1]; whnf
  go_wp2
  refine wp_region_quiet_below (by kernel_rfl) (by kernel_rfl) ?_
  repeat (go_big_quiet_step (first | (with_reducible exact X1.out _ _) | (with_reducible exact X2.out _ _)))
  refine wpQuiet_nil ?_
  intro W5 hw'
  have A5 := Lib.hid (A0.out.on (show Below W.heap.size W W5 by obtain ⟨⟨dq, osq⟩, hw''⟩ := hw'; subst hw''; exact below_regrown W dq osq))
  clear hw' a0 a1 a2 b0 b1 b2 X1 X2 A0
  have ne1 := neqV false n ⟨#[]⟩ false n ⟨#[]⟩ true (by simp [eqlV])
  have ne2 := neqV true 0 s true 0 s true (by simp [eqlV])
  simp only [Bool.not_true] at ne1 ne2
  have a0 := A5.out.h1 0
  have a1 := A5.out.h1 1
  have a2 := A5.out.h1 2
  simp only [List.getElem?_toArray, List.getElem?_cons_zero, List.getElem?_cons_succ] at a0 a1 a2
  go_wp2_with fail
  refine (RR.out _).mono ?_
  rintro e6 w6 ⟨rfl, hb⟩
  have A6 := Lib.hid (A5.out.on hb)
  clear hb RR a0 a1 a2
  have hrr : (r1 != r1) = false := by simp
  go_wp2_with fail
  refine (number_any n _).mono ?_
  rintro e7 w7 ⟨rfl, hb⟩
  have A7 := Lib.hid (A6.out.on hb)
  clear hb
  go_wp2_with fail
  refine (text_any s _).mono ?_
  rintro e8 w8 ⟨rfl, hb⟩
  have A8 := Lib.hid (A7.out.on hb)
  clear hb
  go_wp2
  exact tells_5 w w8 b t1 n1 s1 t2 n2 s2 r1 r2 HG.out h10 h11 h20 h21 z1 z2 A8.out K1.out K2.out _ _ _ _ _ _ _ _ _ _ _ _ _ _ _ _ _ _ _ _ _ _ _ _ _ _ _ _ _ _ _ _ _ _ _ _ _ _ _ _ _ _ _ _ _ _ _ _ _ _ _ _ _ _ _ _ _ _ _ _ _ _ _ _ _ _ _ _ _ _ _ _ _ _ _ _ _ _ _ _ _ _ _ _ _ _ _ _ _ _ _ _ _ _ _ _ _ _ _ _
end Go.Proofs.YtdcddhckhbjkeaaDoor.Va
