/-
  Chapter 6's runs: the law answers true. Condition: package errors' variable holds the handle of the type 'error'.
-/
import Derived.Test.YtbnfndcbhnjnaaaDoorGdAll
import Derived.Test.YtbnfndcbhnjnaaaDoorGsSame
import Derived.Test.YtbnfndcbhnjnaaaDoorFaSame
namespace Go.Proofs.YtbnfndcbhnjnaaaDoor.Gr
open Go.RowKit Go.Sort Go.Proofs.YtbnfndcbhnjnaaaDoor Go.Proofs.YtbnfndcbhnjnaaaDoor.Rw

theorem Fa.EG.on {w w' : World} (h : Fa.EG w) (hb : Below w.heap.size w w') : Fa.EG w' := Fa.EG.bel h hb
theorem Fa.Ch.on {w w' : World} {l : List (Nat × ByteArray × Int)} {v u : Value} (h : Fa.Ch w l v u) (hb : Below w.heap.size w w') : Fa.Ch w' l v u := Fa.Ch.bel h hb
/-- A fault of package graph alone. -/
structure GFault (w : World) (v : Value) (r : Int) : Prop where
  ch : ∃ b, Fa.Ch w [(b, graphTxt, r)] v (.iface 33 (.int .i64 2))
theorem GFault.on {w w' : World} {v : Value} {r : Int} (h : GFault w v r) (hb : Below w.heap.size w w') : GFault w' v r := ⟨by obtain ⟨b, hc⟩ := h.ch; exact ⟨b, hc.bel hb⟩⟩
theorem EG_on {w w' : World} (h : Fa.EG w) (hb : Below w.heap.size w w') : Fa.EG w' := h.bel hb
/-- The errors' variable. -/
structure GE (w : World) : Prop where
  eg : Fa.EG w
theorem GE.on {w w' : World} (h : GE w) (hb : Below w.heap.size w w') : GE w' := ⟨h.eg.bel hb⟩
theorem kind_ok {w : World} {v : Value} {r : Int} (h : GFault w v r) (hg : GE w) : Calls Tryd.prog 13 #[v] w fun e w' => e = .returned (.int .i64 2) ∧ Below w.heap.size w w' := by
  obtain ⟨b, hc⟩ := h.ch
  exact Fa.Kind_E _ v 2 w hg.eg hc (by unfold Fa.Falls; exact List.pairwise_singleton _ _) (by simp)
theorem place_ok {w : World} {v : Value} {r : Int} (h : GFault w v r) (hg : GE w) : Calls Tryd.prog 14 #[v] w fun e w' => e = .returned (.int .i64 r) ∧ Below w.heap.size w w' := by
  obtain ⟨b, rfl, v', hb, _⟩ := h.ch
  exact Fa.Place_F b graphTxt r v' w hg.eg hb
def ringL : List Lk := [(0, 1), (1, 2), (2, 0)]
theorem ring3 : Good 3 ringL := by
  have h : Good 3 (([] ++ [((0 : Int), (1 : Int))]) ++ [((1 : Int), (2 : Int))] ++ [((2 : Int), (0 : Int))]) := good_snoc.2 ⟨good_snoc.2 ⟨good_snoc.2 ⟨good_nil 3, by decide⟩, by decide⟩, by decide⟩
  exact h
theorem ring4 : Good 4 ringL := by
  have h : Good 4 (([] ++ [((0 : Int), (1 : Int))]) ++ [((1 : Int), (2 : Int))] ++ [((2 : Int), (0 : Int))]) := good_snoc.2 ⟨good_snoc.2 ⟨good_snoc.2 ⟨good_nil 4, by decide⟩, by decide⟩, by decide⟩
  exact h
theorem ring_right : RightG 3 ringL := right_iff.2 ⟨⟨by decide, by decide, by decide⟩, ring3, fun v h1 h2 => by
  rcases (by omega : v = 0 ∨ v = 1 ∨ v = 2) with rfl | rfl | rfl
  · exact ⟨0, rfl⟩
  · exact ⟨1, Wk.one (Or.inl (by simp [ringL]))⟩
  · exact ⟨1, Wk.one (Or.inr (by simp [ringL]))⟩⟩
theorem ring_not : ¬ RightG 4 ringL := fun h => by
  obtain ⟨k, hk⟩ := h.all 3 (by omega) (by omega)
  match k, hk with
  | 0, hk => exact absurd (show (0 : Int) = 3 from hk) (by decide)
  | k + 1, ⟨c, _, hc⟩ => exact absurd hc (by unfold Adj; simp [ringL])
theorem ring_near {r : List Int} (h : NearIs ringL 1 r) : r = [0, 2] := h.uniq ⟨by simp, fun x => by unfold Adj; simp [ringL]; omega⟩
theorem ring_far {r : Int} (h : FarIs 3 ringL 0 2 r) : r = 1 := by
  have hd : DistIs ringL 0 2 1 := ⟨Wk.one (Or.inr (by simp [ringL])), fun k hk => by
    match k, hk with
    | 0, hk => exact absurd (show (0 : Int) = 2 from hk) (by decide)
    | k + 1, _ => omega⟩
  exact h.of_dist ⟨by omega, by omega⟩ hd
theorem CheckQ.bad {w w' : World} {n : Int} {l : List Lk} {e : Ending} (h : CheckQ w n l e w') (hn : ¬ RightG n l) : (∃ v r, e = .returned v ∧ BadAt n l r ∧ GFault w' v r) ∧ Below w.heap.size w w' := by
  obtain ⟨hb, h1 | ⟨r, b, v, h1, h2, h3⟩⟩ := h
  · exact absurd h1.1 hn
  · exact ⟨⟨v, r, h2, h1, ⟨⟨b, h3⟩⟩⟩, hb⟩
theorem CheckQ.nil {w w' : World} {n : Int} {l : List Lk} {e : Ending} (h : CheckQ w n l e w') (hn : RightG n l) : e = .returned .nilIface ∧ Below w.heap.size w w' := by
  obtain ⟨hb, h1 | ⟨r, b, v, h1, h2, h3⟩⟩ := h
  · exact ⟨h1.2, hb⟩
  · exact absurd hn h1.not
theorem check_nil {n : Int} {lv : Value} {l : List Lk} {w : World} (hl : RowK w lv l) (hr : RightG n l) : Calls Tryd.prog 9 #[gv n lv] w fun e w' => e = .returned .nilIface ∧ Below w.heap.size w w' :=
  (check_ok n lv l w hl ⟨by have := hr.lo; omega, by have := hr.hi; omega⟩).mono fun _ _ h => h.nil hr
theorem check_bad {n : Int} {lv : Value} {l : List Lk} {w : World} (hl : RowK w lv l) (hn : I64 n) (hr : ¬ RightG n l) : Calls Tryd.prog 9 #[gv n lv] w fun e w' => (∃ v r, e = .returned v ∧ BadAt n l r ∧ GFault w' v r) ∧ Below w.heap.size w w' :=
  (check_ok n lv l w hl hn).mono fun _ _ h => h.bad hr
theorem eqE2 (a b : Int) (w : World) (r : Bool) (h : (a == b) = r) : (binOp .eql 33 (.int .i64 a) (.int .i64 b)).run Tryd.prog w = .ok (.bool r) w := by
  subst h
  simp [go_sem]
set_option maxRecDepth 100000 in
set_option maxHeartbeats 4000000 in
theorem runs_any (w : World) (hg : Fa.EG w) :
    Calls Tryd.prog 3 #[] w fun e w' => e = .returned (.bool true) ∧ Below w.heap.size w w' := by
  obtain ⟨w0, hw0⟩ : ∃ w0, w0 = ((w.alloc (.cells #[.int .i64 0, .int .i64 1, .int .i64 1, .int .i64 2, .int .i64 2, .int .i64 0] 22)).alloc (.cells #[.int .i64 3, .slice (some ⟨w.heap.size, 0, none⟩) 3 3] 25)).alloc (.cells #[.int .i64 4, .slice (some ⟨w.heap.size, 0, none⟩) 3 3] 25) := ⟨_, rfl⟩
  have b1 : Below w.heap.size w (w.alloc (.cells #[.int .i64 0, .int .i64 1, .int .i64 1, .int .i64 2, .int .i64 2, .int .i64 0] 22)) := (Below.refl _ _).alloc (Nat.le_refl _) _
  have R0 := Lib.hid (show RowK w0 (.slice (some ⟨w.heap.size, 0, none⟩) 3 3) ringL by
    rw [hw0]
    exact ((Row.of_own (row_lit okK w ringL 3 rfl (by decide) #[.int .i64 0, .int .i64 1, .int .i64 1, .int .i64 2, .int .i64 2, .int .i64 0] rfl)).on ((Below.refl _ _).alloc (Nat.le_refl _) _)).on ((Below.refl _ _).alloc (Nat.le_refl _) _))
  have X0 := Lib.hid (show Box w0 (w.heap.size + 1) #[.int .i64 3, .slice (some ⟨w.heap.size, 0, none⟩) 3 3] 25 by
    rw [hw0]
    have h := (box_new (w.alloc (.cells #[.int .i64 0, .int .i64 1, .int .i64 1, .int .i64 2, .int .i64 2, .int .i64 0] 22)) #[.int .i64 3, .slice (some ⟨w.heap.size, 0, none⟩) 3 3] 25).more (.cells #[.int .i64 4, .slice (some ⟨w.heap.size, 0, none⟩) 3 3] 25)
    simpa using h)
  have B0 := Lib.hid (show Below w.heap.size w w0 by rw [hw0]; exact (b1.alloc (by simp) _).alloc (by simp; omega) _)
  have E0 := Lib.hid (GE.mk (hg.bel B0.out))
  have HW0 := Lib.hid hw0
  have hn := @run_eql_nil_nil
  have q2 := eqE2 2 2
  clear hg b1 hw0
  go_enter Tryd.func3, Tryd.ntmps3
  go_wp2_with fail
  rw [← HW0.out]
  clear HW0
  go_wp2_with fail
  refine (check_bad R0.out ⟨by omega, by omega⟩ ring_not).mono ?_
  rintro e1 w1 ⟨⟨v, r, rfl, hbad, hf⟩, hb⟩
  obtain rfl : r = -1 := hbad.far ring4
  clear hbad
  have B1 := Lib.hid (B0.out.trans (hb.mono B0.out.size))
  have R1 := Lib.hid (R0.out.on hb)
  have X1 := Lib.hid (X0.out.on hb)
  have E1 := Lib.hid (E0.out.on hb)
  have F1 := Lib.hid (hf)
  clear hb B0 R0 X0 E0
  clear hf
  have xc0 := X1.out.cell 0
  have xc1 := X1.out.cell 1
  simp only [List.getElem?_toArray, List.getElem?_cons_zero, List.getElem?_cons_succ] at xc0 xc1
  go_wp2_with fail
  refine (check_nil R1.out ring_right).mono ?_
  rintro e2 w2 ⟨rfl, hb⟩
  clear xc0 xc1
  have B2 := Lib.hid (B1.out.trans (hb.mono B1.out.size))
  have R2 := Lib.hid (R1.out.on hb)
  have X2 := Lib.hid (X1.out.on hb)
  have E2 := Lib.hid (E1.out.on hb)
  have F2 := Lib.hid (F1.out.on hb)
  clear hb B1 R1 X1 E1 F1
  have xc0 := X2.out.cell 0
  have xc1 := X2.out.cell 1
  simp only [List.getElem?_toArray, List.getElem?_cons_zero, List.getElem?_cons_succ] at xc0 xc1
  go_wp2_with fail
  refine (near_ok 3 _ ringL 1 w2 R2.out ring3 (by decide)).mono ?_
  rintro e3 w3 ⟨⟨nv, r, rfl, ho, hr⟩, hb⟩
  obtain rfl := ring_near hr
  clear hr
  have ho := Row.of_own ho
  clear xc0 xc1
  have B3 := Lib.hid (B2.out.trans (hb.mono B2.out.size))
  have R3 := Lib.hid (R2.out.on hb)
  have X3 := Lib.hid (X2.out.on hb)
  have E3 := Lib.hid (E2.out.on hb)
  have F3 := Lib.hid (F2.out.on hb)
  have N3 := Lib.hid (ho)
  clear hb B2 R2 X2 E2 F2
  clear ho
  have HZ := Lib.hid ((Below.refl w3.heap.size w3).alloc (Nat.le_refl _) (.cells #[.int .i64 0, .int .i64 2] 3))
  have B4 := Lib.hid (B3.out.trans (HZ.out.mono B3.out.size))
  have R4 := Lib.hid (R3.out.on HZ.out)
  have X4 := Lib.hid (X3.out.on HZ.out)
  have E4 := Lib.hid (E3.out.on HZ.out)
  have F4 := Lib.hid (F3.out.on HZ.out)
  have N4 := Lib.hid (N3.out.on HZ.out)
  have L4 := Lib.hid (show RowI (w3.alloc (.cells #[.int .i64 0, .int .i64 2] 3)) (.slice (some ⟨w3.heap.size, 0, none⟩) 2 2) [0, 2] from Row.of_own (row_lit okI w3 [0, 2] 2 rfl (by decide) #[.int .i64 0, .int .i64 2] rfl))
  go_wp2_with fail
  clear HZ B3 R3 X3 E3 F3 N3
  generalize w3.alloc (.cells #[.int .i64 0, .int .i64 2] 3) = w4 at *
  refine (sameI_any nv _ [0, 2] w4 N4.out L4.out (by decide)).mono ?_
  rintro e5 w5 ⟨rfl, hb⟩
  have B5 := Lib.hid (B4.out.trans (hb.mono B4.out.size))
  have R5 := Lib.hid (R4.out.on hb)
  have X5 := Lib.hid (X4.out.on hb)
  have E5 := Lib.hid (E4.out.on hb)
  have F5 := Lib.hid (F4.out.on hb)
  clear hb B4 R4 X4 E4 F4 N4 L4
  have xc0 := X5.out.cell 0
  have xc1 := X5.out.cell 1
  simp only [List.getElem?_toArray, List.getElem?_cons_zero, List.getElem?_cons_succ] at xc0 xc1
  go_wp2_with fail
  refine (ways_ok 3 _ ringL w5 R5.out ring3 (by decide)).mono ?_
  rintro e6 w6 ⟨⟨wv, r, rfl, ho, hr⟩, hb⟩
  obtain ⟨wo, wc, rfl⟩ := (Row.of_own ho).len
  rw [show r.length = 6 from hr.len ring3.2]
  clear hr ho
  clear xc0 xc1
  have B6 := Lib.hid (B5.out.trans (hb.mono B5.out.size))
  have R6 := Lib.hid (R5.out.on hb)
  have X6 := Lib.hid (X5.out.on hb)
  have E6 := Lib.hid (E5.out.on hb)
  have F6 := Lib.hid (F5.out.on hb)
  clear hb B5 R5 X5 E5 F5
  go_wp2_with fail
  refine (kind_ok F6.out E6.out).mono ?_
  rintro e7 w7 ⟨rfl, hb⟩
  have B7 := Lib.hid (B6.out.trans (hb.mono B6.out.size))
  have R7 := Lib.hid (R6.out.on hb)
  have X7 := Lib.hid (X6.out.on hb)
  have E7 := Lib.hid (E6.out.on hb)
  have F7 := Lib.hid (F6.out.on hb)
  clear hb B6 R6 X6 E6 F6
  go_wp2_with fail
  refine (place_ok F7.out E7.out).mono ?_
  rintro e8 w8 ⟨rfl, hb⟩
  have B8 := Lib.hid (B7.out.trans (hb.mono B7.out.size))
  have R8 := Lib.hid (R7.out.on hb)
  have X8 := Lib.hid (X7.out.on hb)
  have E8 := Lib.hid (E7.out.on hb)
  have F8 := Lib.hid (F7.out.on hb)
  clear hb B7 R7 X7 E7 F7
  have xc0 := X8.out.cell 0
  have xc1 := X8.out.cell 1
  simp only [List.getElem?_toArray, List.getElem?_cons_zero, List.getElem?_cons_succ] at xc0 xc1
  go_wp2_with fail
  refine (far_ok 3 _ ringL 0 2 w8 R8.out ring3 (by decide) (by decide) ⟨by decide, by decide⟩).mono ?_
  rintro e9 w9 ⟨⟨r, rfl, hr⟩, hb⟩
  obtain rfl := ring_far hr
  clear hr
  clear xc0 xc1
  have B9 := Lib.hid (B8.out.trans (hb.mono B8.out.size))
  have R9 := Lib.hid (R8.out.on hb)
  have X9 := Lib.hid (X8.out.on hb)
  have E9 := Lib.hid (E8.out.on hb)
  have F9 := Lib.hid (F8.out.on hb)
  clear hb B8 R8 X8 E8 F8
  go_wp2
  go_ret
  exact ⟨rfl, B9.out⟩
end Go.Proofs.YtbnfndcbhnjnaaaDoor.Gr
