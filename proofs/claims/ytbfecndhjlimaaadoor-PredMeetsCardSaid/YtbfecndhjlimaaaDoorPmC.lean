/-
  The law PredMeets: its innermost loop, which asks each constraint. Condition: the contracts of package pred; at most four constraints.
-/
import Derived.Test.YtbfecndhjlimaaaDoorPmB
import Derived.Test.YtbfecndhjlimaaaDoorPnHolds
namespace Go.Proofs.YtbfecndhjlimaaaDoor.Pr
open Go.RowKit Go.Sort Go.Proofs.YtbfecndhjlimaaaDoor Go.Proofs.YtbfecndhjlimaaaDoor.Pu Go.Proofs.YtbfecndhjlimaaaDoor.Rw Go.Proofs.YtbfecndhjlimaaaDoor.Va Go.Proofs.YtbfecndhjlimaaaDoor.Kp Go.Proofs.YtbfecndhjlimaaaDoor.In

def cellsV (t : Bool) (m : Int) (s : ByteArray) : Array Value := #[.bool t, .int .i64 m, .string s]
theorem all_succ (l : List Cn) (j : Nat) (x : Cn) (h : l[j]? = some x) (b0 : Bool) (f : Cn → Bool) : (b0 && (l.take (j + 1)).all f) = ((b0 && (l.take j).all f) && f x) := by
  obtain ⟨hj, e⟩ := List.getElem?_eq_some_iff.1 h
  rw [List.take_succ_eq_append_getElem hj, List.all_append, e]
  simp [Bool.and_assoc]

set_option maxRecDepth 100000 in
set_option maxHeartbeats 4000000 in
theorem meet_loop4 (Q : Exit → Act → World → Prop) (W : World) (lo : Option Addr) (lc n : Nat) (l : List Cn) (hn : n = l.length) (h4 : n ≤ 4) (hl : RowC W (.slice lo n lc) (l.map r5)) (xb : Nat) (t : Bool) (m : Int) (s : ByteArray) (hx : Box W xb (cellsV t m s) 48) (b0 : Bool) (u0 u1 u2 u3 u4 u5 u6 u7 u8 u9 u10 u11 u12 u13 u14 u15 u16 u19 u20 u21 u22 u23 u24 u25 u26 u27 u28 u29 u30 u31 u32 u33 u34 u35 u36 u37 u38 u39 u40 u41 u42 u43 u44 u45 u46 u47 u48 u49 u50 u51 u52 u53 u54 u55 u56 u57 u58 u59 u60 u61 u62 u63 u64 u65 u66 u67 u68 u69 u70 u71 u72 u73 u74 u75 u76 u77 u78 u79 u80 u81 u82 u83 u84 u85 u86 u87 u88 u89 u90 u91 u92 u93 u94 u95 u96 u97 u98 u99 u100 u101 u102 u103 u104 u105 u106 u107 u108 u109 u110 u111 u112 u113 u114 u115 u116 u117 u118 u119 u120 u121 u122 u126 u127 u128 u129 u130 u131 u132 u133 u134 u135 u136 u137 u138 u139 u140 u141 u142 u143 u144 u145 u146 u147 u148 u149 u150 u151 u152 u153 u154 : Value)
    (hQ : ∀ (w' : World) (u20 u125 u126 u127 u128 u129 u130 u131 u132 u133 u134 u135 : Value), Below W.heap.size W w' → Q .normal ⟨(u0 :: u1 :: u2 :: u3 :: u4 :: u5 :: u6 :: u7 :: u8 :: u9 :: u10 :: u11 :: u12 :: u13 :: u14 :: u15 :: u16 :: .pointer (some ⟨xb, 0, none⟩) :: .bool (b0 && l.all fun c => holdsK c.2 (t, m, s)) :: u19 :: u20 :: u21 :: u22 :: u23 :: u24 :: u25 :: u26 :: u27 :: u28 :: u29 :: u30 :: u31 :: u32 :: u33 :: u34 :: u35 :: u36 :: u37 :: u38 :: u39 :: u40 :: u41 :: u42 :: u43 :: u44 :: u45 :: u46 :: u47 :: u48 :: u49 :: u50 :: u51 :: u52 :: u53 :: u54 :: u55 :: u56 :: u57 :: u58 :: u59 :: u60 :: u61 :: u62 :: u63 :: u64 :: u65 :: u66 :: u67 :: u68 :: u69 :: u70 :: u71 :: u72 :: u73 :: u74 :: u75 :: u76 :: u77 :: u78 :: u79 :: u80 :: u81 :: u82 :: u83 :: u84 :: u85 :: u86 :: u87 :: u88 :: u89 :: u90 :: u91 :: u92 :: u93 :: u94 :: u95 :: u96 :: u97 :: u98 :: u99 :: u100 :: u101 :: u102 :: u103 :: u104 :: u105 :: u106 :: u107 :: u108 :: u109 :: u110 :: u111 :: u112 :: u113 :: u114 :: u115 :: u116 :: u117 :: u118 :: u119 :: u120 :: u121 :: u122 :: .slice lo n lc :: .int .i64 (n : Nat) :: u125 :: u126 :: u127 :: u128 :: u129 :: u130 :: u131 :: u132 :: u133 :: u134 :: u135 :: u136 :: u137 :: u138 :: u139 :: u140 :: u141 :: u142 :: u143 :: u144 :: u145 :: u146 :: u147 :: u148 :: u149 :: u150 :: u151 :: u152 :: u153 :: u154 :: []).toArray, []⟩ w') :
    Code.wp Tryd.prog meetB6 Q ⟨(u0 :: u1 :: u2 :: u3 :: u4 :: u5 :: u6 :: u7 :: u8 :: u9 :: u10 :: u11 :: u12 :: u13 :: u14 :: u15 :: u16 :: .pointer (some ⟨xb, 0, none⟩) :: .bool b0 :: u19 :: u20 :: u21 :: u22 :: u23 :: u24 :: u25 :: u26 :: u27 :: u28 :: u29 :: u30 :: u31 :: u32 :: u33 :: u34 :: u35 :: u36 :: u37 :: u38 :: u39 :: u40 :: u41 :: u42 :: u43 :: u44 :: u45 :: u46 :: u47 :: u48 :: u49 :: u50 :: u51 :: u52 :: u53 :: u54 :: u55 :: u56 :: u57 :: u58 :: u59 :: u60 :: u61 :: u62 :: u63 :: u64 :: u65 :: u66 :: u67 :: u68 :: u69 :: u70 :: u71 :: u72 :: u73 :: u74 :: u75 :: u76 :: u77 :: u78 :: u79 :: u80 :: u81 :: u82 :: u83 :: u84 :: u85 :: u86 :: u87 :: u88 :: u89 :: u90 :: u91 :: u92 :: u93 :: u94 :: u95 :: u96 :: u97 :: u98 :: u99 :: u100 :: u101 :: u102 :: u103 :: u104 :: u105 :: u106 :: u107 :: u108 :: u109 :: u110 :: u111 :: u112 :: u113 :: u114 :: u115 :: u116 :: u117 :: u118 :: u119 :: u120 :: u121 :: u122 :: .slice lo n lc :: .int .i64 (n : Nat) :: .int .i64 0 :: u126 :: u127 :: u128 :: u129 :: u130 :: u131 :: u132 :: u133 :: u134 :: u135 :: u136 :: u137 :: u138 :: u139 :: u140 :: u141 :: u142 :: u143 :: u144 :: u145 :: u146 :: u147 :: u148 :: u149 :: u150 :: u151 :: u152 :: u153 :: u154 :: []).toArray, []⟩ W := by
  have HQ := Lib.hid hQ
  have HL := Lib.hid hl
  have HX := Lib.hid hx
  have HN := Lib.hid hn
  have LM := Lib.hid (show (l.map r5).length = n from (List.length_map ..).trans hn.symm)
  have HO := Lib.hid (fun (c : Cn) (w : World) => holds_any c t m s w)
  obtain ⟨f, hf⟩ : ∃ f : Cn → Bool, f = fun c => holdsK c.2 (t, m, s) := ⟨_, rfl⟩
  have HF := Lib.hid hf
  rw [← hf] at HQ
  clear hQ hl hx hn hf
  conv => arg 2; whnf
  go_wp2
  go_loopw [18, 125] (fun a i wr => ∃ j : Nat, j ≤ n ∧ i = .int .i64 j ∧ a = .bool (b0 && (l.take j).all f) ∧ Below W.heap.size W wr) (fun _ i _ => n - (intOf i).toNat)
  case atStart => exact ⟨0, Nat.zero_le _, rfl, by simp, Below.refl _ _⟩
  case round =>
    obtain ⟨j, hj, rfl, rfl, hb⟩ := hrel
    have HB := Lib.hid hb
    clear hb
    by_cases hlt : j < n
    · obtain ⟨x, hx⟩ : ∃ x, l[j]? = some x := ⟨_, List.getElem?_eq_getElem (by have := HN.out; omega)⟩
      have AS := Lib.hid (all_succ l j x hx b0 f)
      obtain ⟨p, ix, px⟩ := elC (x := r5 x) HL.out rfl LM.out (by rw [List.getElem?_map, hx]; rfl)
      obtain ⟨p0, p1, p2, p3, p4⟩ := px _ HB.out
      have HC := Lib.hid (HO.out x)
      have B4 := Lib.hid (HB.out.alloc HB.out.size (.cells (cells5 (r5 x)).toArray 23))
      have X4 := Lib.hid ((HX.out.on HB.out).more (.cells (cells5 (r5 x)).toArray 23))
      have c0 : (wr.alloc (.cells #[.string x.1, .int .i64 (kN x.2), .int .i64 (kLo x.2), .int .i64 (kHi x.2), .string (kT x.2)] 23)).cell? ⟨xb, 0, none⟩ = some (.bool t) := X4.out.cell 0
      have c1 : (wr.alloc (.cells #[.string x.1, .int .i64 (kN x.2), .int .i64 (kLo x.2), .int .i64 (kHi x.2), .string (kT x.2)] 23)).cell? ⟨xb, 1, none⟩ = some (.int .i64 m) := X4.out.cell 1
      have c2 : (wr.alloc (.cells #[.string x.1, .int .i64 (kN x.2), .int .i64 (kLo x.2), .int .i64 (kHi x.2), .string (kT x.2)] 23)).cell? ⟨xb, 2, none⟩ = some (.string s) := X4.out.cell 2
      have FX := Lib.hid (show f x = holdsK x.2 (t, m, s) by rw [HF.out])
      clear hx px
      generalize (b0 && (l.take j).all f) = r at *
      simp only [r5] at p0 p1 p2 p3 p4 HC c0 c1 c2
      have D0 := Lib.hid c0
      have D1 := Lib.hid c1
      have D2 := Lib.hid c2
      clear c0 c1 c2
      rcases Bool.eq_false_or_eq_true r with rfl | rfl
      · have c0 := D0.out
        have c1 := D1.out
        have c2 := D2.out
        go_wp2_with fail
        refine (HC.out _).mono ?_
        rintro e5 w5 ⟨rfl, hb5⟩
        have B5 := Lib.hid (B4.out.trans (hb5.mono B4.out.size))
        clear hb5 B4 X4 ix p0 p1 p2 p3 p4 c0 c1 c2 D0 D1 D2
        go_wp2
        go_roundw
        case rel => exact ⟨j + 1, by omega, by go_num, by rw [AS.out, FX.out]; simp, B5.out⟩
        case measure => simp [intOf]; omega
      · go_wp2
        go_roundw
        case rel => exact ⟨j + 1, by omega, by go_num, by rw [AS.out]; simp, B4.out⟩
        case measure => simp [intOf]; omega
    · obtain rfl : j = n := by omega
      have E := Lib.hid (List.take_of_length_le (show l.length ≤ j by rw [← HN.out]; exact Nat.le_refl _))
      rw [E.out]
      go_wp2
      exact HQ.out _ _ _ _ _ _ _ _ _ _ _ _ _ HB.out
end Go.Proofs.YtbfecndhjlimaaaDoor.Pr
