/-
  GraphBad's end: a graph that may not be is told, and where; the one that it was made of may be. Conditions: as the theorem states them.
-/
import Derived.Test.YtbnfndcbhnjnaaaDoorGsBase
import Derived.Test.YtbnfndcbhnjnaaaDoorFaSame
namespace Go.Proofs.YtbnfndcbhnjnaaaDoor.Gr
open Go.RowKit Go.Sort Go.Proofs.YtbnfndcbhnjnaaaDoor Go.Proofs.YtbnfndcbhnjnaaaDoor.Rw

/-- A graph that may not be, and the place that is told. -/
structure IsBad (n : Int) (l : List Lk) (pl : Int) : Prop where
  i64 : I64 n
  not : ¬ RightG n l
  at_ : ∀ r, BadAt n l r → r = pl
theorem few_small {n : Int} {l : List Lk} (h : l.length ≤ 20) (h1 : 1 ≤ n) (h2 : n ≤ 64) : Few n l := ⟨h1, h2, by omega⟩
theorem isBad_first {n : Int} {l : List Lk} {k : Nat} (h20 : l.length ≤ 20) (h1 : 1 ≤ n) (h2 : n ≤ 64) (hf : FirstBad n l k) : IsBad n l k :=
  ⟨⟨by omega, by omega⟩, fun hr => first_not hf ⟨hr.ok, hr.simp⟩, fun _ h => h.first (few_small h20 h1 h2) hf⟩
theorem isBad_put {n : Int} {l : List Lk} {i : Nat} {x : Lk} (hl : l.length ≤ 14) (h1 : 1 ≤ n) (h2 : n ≤ 64) (hg : Good n l) (hi : i ≤ l.length) (hx : x.1 = x.2 ∨ ¬ (x.2 < n)) : IsBad n (l.take i ++ x :: l.drop i) i := by
  refine isBad_first (by simp; omega) h1 h2 ⟨x, ?_, ?_, ?_⟩
  · rw [List.getElem?_append_right (by simp; omega)]
    simp [Nat.min_eq_left hi]
  · rw [List.take_append_of_le_length (by simp; omega), List.take_take, Nat.min_self]
    exact good_take hg i
  · rw [badB_iff]
    rcases hx with h | h
    · exact Or.inr (Or.inl h)
    · exact Or.inl (fun h3 => h h3.2.2)
theorem isBad_twice {n : Int} {l : List Lk} {x : Lk} (hl : l.length ≤ 14) (h1 : 1 ≤ n) (h2 : n ≤ 64) (hg : Good n l) (hx : (x.2, x.1) ∈ l) : IsBad n (l ++ [x]) l.length := by
  refine isBad_first (by simp; omega) h1 h2 ⟨x, ?_, ?_, ?_⟩
  · simp
  · rw [List.take_left']
    · exact hg
    · rfl
  · rw [badB_iff, List.take_left' rfl]
    exact Or.inr (Or.inr (Or.inr hx))
theorem isBad_far {n : Int} {l : List Lk} (h1 : 1 ≤ n) (h2 : n ≤ 60) (hg : Good n l) : IsBad (n + 1) l (-1) := by
  have hg' : Good (n + 1) l := ⟨fun x hx => by have := hg.1 x hx; exact ⟨⟨by omega, by omega⟩, by omega, by omega⟩, hg.2⟩
  refine ⟨⟨by omega, by omega⟩, fun hr => ?_, fun _ h => h.far hg'⟩
  obtain ⟨d, hd⟩ := hr.join (a := 0) (b := n) ⟨by omega, by omega⟩ ⟨by omega, by omega⟩
  have := hd.1.range hg.1 (by omega : (0 : Int) ≤ 0 ∧ 0 < n)
  omega
noncomputable def badR19 : Code := afterN 8 (Tryd.f6.body.getD .skip)
set_option maxRecDepth 100000 in
set_option maxHeartbeats 8000000 in
theorem bad_19 (w W : World) (gb bb : Nat) (n n' pl : Int) (l l' : List Lk) (lv lv' : Value) (u0 u1 u2 u3 u4 u5 u6 u7 u8 u10 u11 u12 u13 u16 u17 u18 u19 u20 u21 u22 u23 u24 u25 u26 u27 u28 u29 u30 u31 u32 u33 u34 u35 u36 u37 u38 u39 u40 u41 u42 u43 u44 u45 u46 u47 u48 u49 u50 u51 u52 u53 u54 u55 u56 u57 u58 u59 u60 u61 u62 u63 u64 u65 u66 u67 u68 u69 u70 u71 u72 u73 u74 u75 u76 u77 u78 u79 u80 u81 u82 u83 u84 u85 u86 u87 u88 u89 u90 u91 u92 u93 u94 u95 u96 u97 u98 u99 u100 u101 u102 u103 u104 u105 u106 : Value)
    (hb : Below w.heap.size w W) (hg : GE W) (hx : Box W gb #[.int .i64 n, lv] 25) (hr : RowK W lv l) (hri : RightG n l) (hx' : Box W bb #[.int .i64 n', lv'] 25) (hr' : RowK W lv' l') (hbad : IsBad n' l' pl) :
    Code.wp Tryd.prog badR19 (bodyPost Tryd.prog Tryd.f6 fun e w' => e = .returned (.bool true) ∧ Below w.heap.size w w') ⟨(u0 :: u1 :: u2 :: u3 :: u4 :: u5 :: u6 :: u7 :: u8 :: .pointer (some ⟨gb, 0, none⟩) :: u10 :: u11 :: u12 :: u13 :: .pointer (some ⟨bb, 0, none⟩) :: .int .i64 pl :: u16 :: u17 :: u18 :: u19 :: u20 :: u21 :: u22 :: u23 :: u24 :: u25 :: u26 :: u27 :: u28 :: u29 :: u30 :: u31 :: u32 :: u33 :: u34 :: u35 :: u36 :: u37 :: u38 :: u39 :: u40 :: u41 :: u42 :: u43 :: u44 :: u45 :: u46 :: u47 :: u48 :: u49 :: u50 :: u51 :: u52 :: u53 :: u54 :: u55 :: u56 :: u57 :: u58 :: u59 :: u60 :: u61 :: u62 :: u63 :: u64 :: u65 :: u66 :: u67 :: u68 :: u69 :: u70 :: u71 :: u72 :: u73 :: u74 :: u75 :: u76 :: u77 :: u78 :: u79 :: u80 :: u81 :: u82 :: u83 :: u84 :: u85 :: u86 :: u87 :: u88 :: u89 :: u90 :: u91 :: u92 :: u93 :: u94 :: u95 :: u96 :: u97 :: u98 :: u99 :: u100 :: u101 :: u102 :: u103 :: u104 :: u105 :: u106 :: []).toArray, []⟩ W := by
  obtain ⟨lo, lc, rfl⟩ := hr.len
  obtain ⟨lo', lc', rfl⟩ := hr'.len
  obtain ⟨m, hm⟩ : ∃ m, m = l.length := ⟨_, rfl⟩
  obtain ⟨m', hm'⟩ : ∃ m', m' = l'.length := ⟨_, rfl⟩
  rw [← hm] at hr hx
  rw [← hm'] at hr' hx'
  have B0 := Lib.hid hb
  have E0 := Lib.hid hg
  have X0 := Lib.hid hx
  have R0 := Lib.hid hr
  have RI := Lib.hid hri
  have BD := Lib.hid hbad
  have CK := Lib.hid (check_bad hr' hbad.i64 hbad.not)
  have a0 := hx'.cell 0
  have a1 := hx'.cell 1
  simp only [List.getElem?_toArray, List.getElem?_cons_zero, List.getElem?_cons_succ] at a0 a1
  have hn := @run_eql_nil_nil
  have q2 := eqE2 2 2
  clear hb hg hx hr hri hx' hr' hbad hm hm'
  conv => arg 2; whnf
  go_wp2_with fail
  refine CK.out.mono ?_
  rintro e1 w1 ⟨⟨v, r, rfl, hba, hf⟩, hb⟩
  obtain rfl : r = pl := BD.out.at_ r hba
  have B1 := Lib.hid (B0.out.trans (hb.mono B0.out.size))
  have E1 := Lib.hid (E0.out.on hb)
  have X1 := Lib.hid (X0.out.on hb)
  have R1 := Lib.hid (R0.out.on hb)
  have F1 := Lib.hid hf
  clear hb hba hf B0 E0 X0 R0 CK a0 a1
  have a0 := X1.out.cell 0
  have a1 := X1.out.cell 1
  simp only [List.getElem?_toArray, List.getElem?_cons_zero, List.getElem?_cons_succ] at a0 a1
  go_wp2_with fail
  refine (check_nil R1.out RI.out).mono ?_
  rintro e2 w2 ⟨rfl, hb⟩
  have B2 := Lib.hid (B1.out.trans (hb.mono B1.out.size))
  have E2 := Lib.hid (E1.out.on hb)
  have F2 := Lib.hid (F1.out.on hb)
  clear hb B1 E1 X1 R1 F1 a0 a1
  go_wp2_with fail
  refine (kind_ok F2.out E2.out).mono ?_
  rintro e3 w3 ⟨rfl, hb⟩
  have B3 := Lib.hid (B2.out.trans (hb.mono B2.out.size))
  have E3 := Lib.hid (E2.out.on hb)
  have F3 := Lib.hid (F2.out.on hb)
  clear hb B2 E2 F2
  go_wp2_with fail
  refine (place_ok F3.out E3.out).mono ?_
  rintro e4 w4 ⟨rfl, hb⟩
  have B4 := Lib.hid (B3.out.trans (hb.mono B3.out.size))
  have E4 := Lib.hid (E3.out.on hb)
  have F4 := Lib.hid (F3.out.on hb)
  clear hb B3 E3 F3
  have CT := Lib.hid (show Calls Tryd.prog 23 #[v] w4 (fun e w' => (∃ g cap, e = .returned (.slice (some ⟨g, 0, none⟩) 1 cap) ∧ w'.cell? ⟨g, 0, none⟩ = some (.string graphTxt)) ∧ Below w4.heap.size w4 w') from by
    obtain ⟨b, hc⟩ := F4.out.ch
    refine (Fa.Trace_E _ v 2 w4 E4.out.eg hc (by unfold Fa.Falls; exact List.pairwise_singleton _ _) (by simp)).mono ?_
    rintro e w' ⟨s, rfl, hown, hb⟩
    refine ⟨?_, hb⟩
    obtain ⟨g, cap, hs⟩ : ∃ g cap, s = .slice (some ⟨g, 0, none⟩) 1 cap := by
      rcases hown.2 with ⟨_, h0⟩ | ⟨g, cap, cur, hv, _⟩
      · simp at h0
      · exact ⟨g, cap, by simpa using hv⟩
    subst hs
    have h := hown.cells (g := g) rfl 0 (.string graphTxt) rfl
    exact ⟨g, cap, rfl, by rwa [add_zero] at h⟩)
  go_wp2_with fail
  refine CT.out.mono ?_
  rintro e5 w5 ⟨⟨g, cap, rfl, k0⟩, hb⟩
  have B5 := Lib.hid (B4.out.trans (hb.mono B4.out.size))
  have E5 := Lib.hid (E4.out.on hb)
  clear hb B4 E4 F4 CT
  have S5 := Lib.hid (Fa.Same_true [graphTxt] g w5.heap.size cap 1 (w5.alloc (.cells #[.string graphTxt] 9)) (by decide)
    (fun j hj => by
      obtain rfl : j = 0 := by simpa using hj
      rw [World.cell?_alloc_lt _ _ _ (Fa.lt_of_cell k0)]; exact k0)
    (fun j hj => by
      obtain rfl : j = 0 := by simpa using hj
      rw [World.cell?_alloc_at _ _ _ _ rfl]; rfl))
  have HA := (Below.refl w5.heap.size w5).alloc (Nat.le_refl _) (.cells #[.string graphTxt] 9)
  have B6 := Lib.hid (B5.out.trans (HA.mono B5.out.size))
  have E6 := Lib.hid (E5.out.on HA)
  clear k0 HA B5 E5
  go_wp2_with fail
  refine S5.out.mono ?_
  rintro e7 w7 ⟨rfl, hb⟩
  have B7 := Lib.hid (B6.out.trans (hb.mono B6.out.size))
  have E7 := Lib.hid (E6.out.on hb)
  clear hb S5 B6 E6
  go_wp2_with fail
  refine (runs_any w7 E7.out.eg).mono ?_
  rintro e8 w8 ⟨rfl, hb⟩
  have B8 := Lib.hid (B7.out.trans (hb.mono B7.out.size))
  clear hb
  go_wp2
  go_ret
  exact ⟨rfl, B8.out⟩
end Go.Proofs.YtbnfndcbhnjnaaaDoor.Gr
