/-
  The law ValueTells: it answers true at any two values, any number and text. Conditions: numbers of 64 bits; texts no longer than a machine holds; strconv's table of powers of ten is as its text lays it.
-/
import Derived.Test.YtdcddhckhbjkeaaDoorVaSays
import Derived.BigRegion
import Derived.Deep.Cut
namespace Go.Proofs.YtdcddhckhbjkeaaDoor.Va
open Go.RowKit Go.Sort

theorem say_re (t : Bool) (n : Int) (s : ByteArray) (hs : s.size ≤ 1048576) (h0 : -9223372036854775808 ≤ n) (h1 : n ≤ 9223372036854775807) (w : World) (hg : VG w) (d : Nat) (os : Array Obj) :
    Calls Tryd.prog 11 #[vl t n s] (grow (redrawn w d) os) fun e w'' => e = .returned (.string ⟨(VaP.say t n s.data.toList).toArray⟩) ∧ ∃ p : Regrown, w'' = grow (redrawn w p.d) p.os :=
  Calls.regrown_of (say_any t n s _ (hg.bel (below_regrown w d os)) hs h0 h1)
/-- Two right values say the same just if they are the same. -/
theorem say_same (t1 : Bool) (n1 : Int) (s1 : ByteArray) (t2 : Bool) (n2 : Int) (s2 : ByteArray) (k1 : rightV t1 n1 s1 = true) (k2 : rightV t2 n2 s2 = true) :
    (VaP.say t1 n1 s1.data.toList == VaP.say t2 n2 s2.data.toList) = eqlV t1 n1 s1 t2 n2 s2 := by
  rw [Bool.eq_iff_iff, beq_iff_eq, eqlV_iff]
  constructor
  · intro h
    have a1 := right_iff k1
    have a2 := right_iff k2
    rw [ByteArray.toList_eq] at a1 a2
    rw [ByteArray.toList_eq, ByteArray.toList_eq]
    exact VaP.say_inj t1 t2 n1 n2 _ _ a1 a2 h
  · rintro ⟨rfl, rfl, h⟩
    rw [ByteArray.toList_eq, ByteArray.toList_eq] at h
    rw [h]

/-- The code behind its first k pieces. -/
def afterN : Nat → Code → Code
  | 0, c => c
  | k + 1, .seq _ b => afterN k b
  | _, c => c
def headN (k : Nat) (c : Code) : Code := match afterN k c with
  | .seq a _ => a
  | c => c
noncomputable def tp (k : Nat) : Code := headN k (Tryd.f4.body.getD .skip)
noncomputable def tells12 : Code := afterN 7 (Tryd.f4.body.getD .skip)
noncomputable def tells5 : Code := .seq (tp 4) (.seq (tp 5) (.seq (tp 6) tells12))
noncomputable def tells2 : Code := .seq (tp 2) (.seq (tp 3) tells5)
/-- What the call ends in. -/
def TellsQ (w : World) (e : Ending) (w' : World) : Prop := e = .returned (.bool true) ∧ Below w.heap.size w w'
/-- Two values in two blocks, in a world behind w. -/
structure At (w W : World) (b : Nat) (t1 : Bool) (n1 : Int) (s1 : ByteArray) (t2 : Bool) (n2 : Int) (s2 : ByteArray) : Prop where
  bel : Below w.heap.size w W
  sz : b + 1 < W.heap.size
  h1 : ∀ i, W.cell? ⟨b, i, none⟩ = #[.bool t1, .int .i64 n1, .string s1][i]?
  h2 : ∀ i, W.cell? ⟨b + 1, i, none⟩ = #[.bool t2, .int .i64 n2, .string s2][i]?
theorem At.on {w W W' : World} {b : Nat} {t1 : Bool} {n1 : Int} {s1 : ByteArray} {t2 : Bool} {n2 : Int} {s2 : ByteArray} (h : At w W b t1 n1 s1 t2 n2 s2) (hb : Below W.heap.size W W') : At w W' b t1 n1 s1 t2 n2 s2 :=
  ⟨h.bel.trans (hb.mono h.bel.size), Nat.lt_of_lt_of_le h.sz hb.size, fun i => (hb.cell (p := ⟨b, i, none⟩) (by have := h.sz; simp; omega)).trans (h.h1 i), fun i => (hb.cell (p := ⟨b + 1, i, none⟩) (by have := h.sz; simp; omega)).trans (h.h2 i)⟩

set_option maxRecDepth 100000 in
set_option maxHeartbeats 8000000 in
theorem tells_12 (w W : World) (b : Nat) (t1 : Bool) (n1 : Int) (s1 : ByteArray) (t2 : Bool) (n2 : Int) (s2 : ByteArray) (r : Bool)
    (hg : VG w) (h10 : -9223372036854775808 ≤ n1) (h11 : n1 ≤ 9223372036854775807) (h20 : -9223372036854775808 ≤ n2) (h21 : n2 ≤ 9223372036854775807) (z1 : s1.size ≤ 15) (z2 : s2.size ≤ 15)
    (hA : At w W b t1 n1 s1 t2 n2 s2) (hl : VaP.lessV t1 n1 s1.toList t2 n2 s2.toList = r) (k1 : rightV t1 n1 s1 = true) (k2 : rightV t2 n2 s2 = true)
    (u0 u1 u2 u3 u6 u7 u8 u9 u10 u12 u13 u14 u15 u16 u17 u18 u19 u20 u21 u22 u23 u24 u25 u26 u27 u28 u29 u30 u31 u32 u33 u34 u35 u36 u37 u38 u39 u40 u41 u42 u43 u44 u45 u46 u47 u48 u49 u50 u51 u52 u53 u54 u55 u56 u57 u58 u59 u60 u61 u62 u63 u64 u65 u66 u67 u68 u69 u70 u71 u72 u73 u74 u75 u76 u77 u78 u79 u80 u81 u82 u83 u84 u85 u86 u87 u88 u89 u90 u91 u92 u93 u94 u95 u96 u97 u98 u99 u100 u101 u102 u103 u104 : Value) :
    Code.wp Tryd.prog tells12 (bodyPost Tryd.prog Tryd.f4 (TellsQ w)) ⟨#[u0, u1, u2, u3, .pointer (some ⟨b, 0, none⟩), .pointer (some ⟨b + 1, 0, none⟩), u6, u7, u8, u9, u10, .bool r, u12, u13, u14, u15, u16, u17, u18, u19, u20, u21, u22, u23, u24, u25, u26, u27, u28, u29, u30, u31, u32, u33, u34, u35, u36, u37, u38, u39, u40, u41, u42, u43, u44, u45, u46, u47, u48, u49, u50, u51, u52, u53, u54, u55, u56, u57, u58, u59, u60, u61, u62, u63, u64, u65, u66, u67, u68, u69, u70, u71, u72, u73, u74, u75, u76, u77, u78, u79, u80, u81, u82, u83, u84, u85, u86, u87, u88, u89, u90, u91, u92, u93, u94, u95, u96, u97, u98, u99, u100, u101, u102, u103, u104], []⟩ W := by
  have D := Lib.hid hA
  have B := Lib.hid hA.bel
  obtain ⟨q, hq⟩ : ∃ q, eqlV t1 n1 s1 t2 n2 s2 = q := ⟨_, rfl⟩
  have QE := eqV t1 n1 s1 t2 n2 s2 q hq
  have Y0 := Lib.hid (less_re t1 n1 s1 t2 n2 s2 r hl W)
  have Y1 := say_re t1 n1 s1 (by omega) h10 h11 W (hg.bel hA.bel)
  have Y2 := say_re t2 n2 s2 (by omega) h20 h21 W (hg.bel hA.bel)
  have Y3 := Lib.hid (runs_re W (hg.bel hA.bel))
  have SS := say_same t1 n1 s1 t2 n2 s2 k1 k2
  rw [hq] at SS
  have SN := VaP.say_ne t1 n1 s1.data.toList
  generalize VaP.say t1 n1 s1.data.toList = l1 at Y1 SS SN
  generalize VaP.say t2 n2 s2.data.toList = l2 at Y2 SS
  have E1 : (l1 == l2) = q := SS
  have E2 : l1.isEmpty = false := by simpa using SN
  have E3 : (l1 == []) = false := by simpa using SN
  have E4 : (l1 = []) = False := by simpa using SN
  have Z1 := Lib.hid Y1
  have Z2 := Lib.hid Y2
  have a0 := cell_regrown (hA.h1 0)
  have a1 := cell_regrown (hA.h1 1)
  have a2 := cell_regrown (hA.h1 2)
  have b0 := cell_regrown (hA.h2 0)
  have b1 := cell_regrown (hA.h2 1)
  have b2 := cell_regrown (hA.h2 2)
  clear Y1 Y2 SS SN hq hA hl k1 k2 hg
  conv => arg 2; whnf
  go_wp2
  cases r <;> cases q
  all_goals
   refine wp_region_quiet_below (by kernel_rfl) (by kernel_rfl) ?_
   repeat (go_big_quiet_step (first | (with_reducible exact Y0.out _ _) | (with_reducible exact Z1.out _ _) | (with_reducible exact Z2.out _ _) | (with_reducible exact Y3.out _ _)))
   refine wpQuiet_nil ?_
   intro _ hw'
   obtain ⟨⟨dq, osq⟩, hw''⟩ := hw'
   subst hw''
   go_wp2
   go_ret
   exact ⟨rfl, B.out.trans ((below_regrown W dq osq).mono B.out.size)⟩

set_option maxRecDepth 100000 in
set_option maxHeartbeats 8000000 in
theorem tells_5 (w W : World) (b : Nat) (t1 : Bool) (n1 : Int) (s1 : ByteArray) (t2 : Bool) (n2 : Int) (s2 : ByteArray) (r1 r2 : Bool)
    (hg : VG w) (h10 : -9223372036854775808 ≤ n1) (h11 : n1 ≤ 9223372036854775807) (h20 : -9223372036854775808 ≤ n2) (h21 : n2 ≤ 9223372036854775807) (z1 : s1.size ≤ 15) (z2 : s2.size ≤ 15)
    (hA : At w W b t1 n1 s1 t2 n2 s2) (k1 : rightV t1 n1 s1 = r1) (k2 : rightV t2 n2 s2 = r2)
    (u0 u1 u2 u3 u6 u7 u11 u12 u13 u14 u15 u16 u17 u18 u19 u20 u21 u22 u23 u24 u25 u26 u27 u28 u29 u30 u31 u32 u33 u34 u35 u36 u37 u38 u39 u40 u41 u42 u43 u44 u45 u46 u47 u48 u49 u50 u51 u52 u53 u54 u55 u56 u57 u58 u59 u60 u61 u62 u63 u64 u65 u66 u67 u68 u69 u70 u71 u72 u73 u74 u75 u76 u77 u78 u79 u80 u81 u82 u83 u84 u85 u86 u87 u88 u89 u90 u91 u92 u93 u94 u95 u96 u97 u98 u99 u100 u101 u102 u103 u104 : Value) :
    Code.wp Tryd.prog tells5 (bodyPost Tryd.prog Tryd.f4 (TellsQ w)) ⟨#[u0, u1, u2, u3, .pointer (some ⟨b, 0, none⟩), .pointer (some ⟨b + 1, 0, none⟩), u6, u7, .bool false, .bool r1, .bool r2, u11, u12, u13, u14, u15, u16, u17, u18, u19, u20, u21, u22, u23, u24, u25, u26, u27, u28, u29, u30, u31, u32, u33, u34, u35, u36, u37, u38, u39, u40, u41, u42, u43, u44, u45, u46, u47, u48, u49, u50, u51, u52, u53, u54, u55, u56, u57, u58, u59, u60, u61, u62, u63, u64, u65, u66, u67, u68, u69, u70, u71, u72, u73, u74, u75, u76, u77, u78, u79, u80, u81, u82, u83, u84, u85, u86, u87, u88, u89, u90, u91, u92, u93, u94, u95, u96, u97, u98, u99, u100, u101, u102, u103, u104], []⟩ W := by
  obtain ⟨r, hl⟩ : ∃ r, VaP.lessV t1 n1 s1.toList t2 n2 s2.toList = r := ⟨_, rfl⟩
  have B := Lib.hid hA.bel
  have a0 := hA.h1 0
  have a1 := hA.h1 1
  have a2 := hA.h1 2
  have b0 := hA.h2 0
  have b1 := hA.h2 1
  have b2 := hA.h2 2
  simp only [List.getElem?_toArray, List.getElem?_cons_zero, List.getElem?_cons_succ] at a0 a1 a2 b0 b1 b2
  have U := Lib.hid (runs_any W (hg.bel hA.bel))
  have HL := Lib.hid hl
  have HA := Lib.hid hA
  have HG := Lib.hid hg
  have K1 := Lib.hid k1
  have K2 := Lib.hid k2
  clear hl hA hg k1 k2
  unfold tells5
  conv => enter [2, 1]; whnf
  conv => enter [2, 2, 1]; whnf
  conv => enter [2, 2, 2, 1]; whnf
  cases r1
  · clear HL HA HG K1 K2
    cases t1 <;> cases t2
    all_goals
      go_wp2_with fail
      refine U.out.mono ?_
      rintro e w' ⟨rfl, hb⟩
      have HB := Lib.hid hb
      clear hb
      go_wp2
      go_ret
      exact ⟨rfl, B.out.trans (HB.out.mono B.out.size)⟩
  · cases r2
    · clear HL HA HG K1 K2
      cases t1 <;> cases t2
      all_goals
        go_wp2_with fail
        refine U.out.mono ?_
        rintro e w' ⟨rfl, hb⟩
        have HB := Lib.hid hb
        clear hb
        go_wp2
        go_ret
        exact ⟨rfl, B.out.trans (HB.out.mono B.out.size)⟩
    · clear U
      cases t1 <;> cases t2
      · have hw : decide (n1 < n2) = r := by simpa [VaP.lessV] using HL.out
        go_wp2
        exact tells_12 w W b false n1 s1 false n2 s2 r HG.out h10 h11 h20 h21 z1 z2 HA.out HL.out K1.out K2.out _ _ _ _ _ _ _ _ _ _ _ _ _ _ _ _ _ _ _ _ _ _ _ _ _ _ _ _ _ _ _ _ _ _ _ _ _ _ _ _ _ _ _ _ _ _ _ _ _ _ _ _ _ _ _ _ _ _ _ _ _ _ _ _ _ _ _ _ _ _ _ _ _ _ _ _ _ _ _ _ _ _ _ _ _ _ _ _ _ _ _ _ _ _ _ _ _ _ _ _ _ _
      · obtain rfl : r = true := by have h := HL.out; simpa [VaP.lessV] using h.symm
        go_wp2
        exact tells_12 w W b false n1 s1 true n2 s2 true HG.out h10 h11 h20 h21 z1 z2 HA.out HL.out K1.out K2.out _ _ _ _ _ _ _ _ _ _ _ _ _ _ _ _ _ _ _ _ _ _ _ _ _ _ _ _ _ _ _ _ _ _ _ _ _ _ _ _ _ _ _ _ _ _ _ _ _ _ _ _ _ _ _ _ _ _ _ _ _ _ _ _ _ _ _ _ _ _ _ _ _ _ _ _ _ _ _ _ _ _ _ _ _ _ _ _ _ _ _ _ _ _ _ _ _ _ _ _ _ _
      · obtain rfl : r = false := by have h := HL.out; simpa [VaP.lessV] using h.symm
        go_wp2
        exact tells_12 w W b true n1 s1 false n2 s2 false HG.out h10 h11 h20 h21 z1 z2 HA.out HL.out K1.out K2.out _ _ _ _ _ _ _ _ _ _ _ _ _ _ _ _ _ _ _ _ _ _ _ _ _ _ _ _ _ _ _ _ _ _ _ _ _ _ _ _ _ _ _ _ _ _ _ _ _ _ _ _ _ _ _ _ _ _ _ _ _ _ _ _ _ _ _ _ _ _ _ _ _ _ _ _ _ _ _ _ _ _ _ _ _ _ _ _ _ _ _ _ _ _ _ _ _ _ _ _ _ _
      · have hw : Op.bytesLess s1.toList s2.toList = r := by simpa [VaP.lessV] using HL.out
        go_wp2
        exact tells_12 w W b true n1 s1 true n2 s2 r HG.out h10 h11 h20 h21 z1 z2 HA.out HL.out K1.out K2.out _ _ _ _ _ _ _ _ _ _ _ _ _ _ _ _ _ _ _ _ _ _ _ _ _ _ _ _ _ _ _ _ _ _ _ _ _ _ _ _ _ _ _ _ _ _ _ _ _ _ _ _ _ _ _ _ _ _ _ _ _ _ _ _ _ _ _ _ _ _ _ _ _ _ _ _ _ _ _ _ _ _ _ _ _ _ _ _ _ _ _ _ _ _ _ _ _ _ _ _ _ _
end Go.Proofs.YtdcddhckhbjkeaaDoor.Va
