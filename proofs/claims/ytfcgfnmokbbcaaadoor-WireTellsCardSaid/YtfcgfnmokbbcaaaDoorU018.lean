/-
  given of package wire; RightOne of package pred, on any constraint. Condition: texts below a machine's length.
  A Reader of package num whose bytes lie ahead of it in memory: what it takes, reads. Condition: bytes no longer than a thousand million.
  How package wire reads messages: plain mathematics. No condition beyond what each theorem states.
-/
import Derived.Test.YtfcgfnmokbbcaaaDoorU015
import Derived.Test.YtfcgfnmokbbcaaaDoorU017
import Derived.Test.YtfcgfnmokbbcaaaDoorU007
import Derived.Test.YtfcgfnmokbbcaaaDoorU012
namespace Go.Proofs.YtfcgfnmokbbcaaaDoor.Ws
open Go.RowKit Go.Proofs.YtfcgfnmokbbcaaaDoor Go.Proofs.YtfcgfnmokbbcaaaDoor.Rw Go.Proofs.YtfcgfnmokbbcaaaDoor.Nm Go.Proofs.YtfcgfnmokbbcaaaDoor.At Go.Proofs.YtfcgfnmokbbcaaaDoor.Pr Go.Proofs.YtfcgfnmokbbcaaaDoor.Wr

set_option maxHeartbeats 2000000 in
theorem given_any (c s : Int) (w : World) :
    Calls Tryd.prog 37 #[.agg #[.int .i64 c, .int .i64 s]] w fun e w' => e = .returned (.bool (rightI c s)) ∧ Below w.heap.size w w' := by
  have B := Lib.hid (new_below w (.cells #[.int .i64 c, .int .i64 s] 28))
  have R := Lib.hid (show rightI c s = (decide (0 ≤ c) && (decide (c < 32) && decide (0 ≤ s))) from rfl)
  obtain ⟨b1, hb1⟩ : ∃ b, decide (0 ≤ c) = b := ⟨_, rfl⟩
  obtain ⟨b2, hb2⟩ : ∃ b, decide (c < 32) = b := ⟨_, rfl⟩
  obtain ⟨b3, hb3⟩ : ∃ b, decide (0 ≤ s) = b := ⟨_, rfl⟩
  rw [hb1, hb2, hb3] at R
  cases b1
  · go_enter Tryd.func37, Tryd.ntmps37
    go_wp2
    go_ret
    exact ⟨by rw [R.out]; rfl, B.out⟩
  cases b2
  · go_enter Tryd.func37, Tryd.ntmps37
    go_wp2
    go_ret
    exact ⟨by rw [R.out]; rfl, B.out⟩
  cases b3
  · go_enter Tryd.func37, Tryd.ntmps37
    go_wp2
    go_ret
    exact ⟨by rw [R.out]; rfl, B.out⟩
  · go_enter Tryd.func37, Tryd.ntmps37
    go_wp2
    go_ret
    exact ⟨by rw [R.out]; rfl, B.out⟩

set_option maxRecDepth 100000 in
set_option maxHeartbeats 4000000 in
theorem pone_range (s t : ByteArray) (lo hi : Int) (w : World) (hs : s.size ≤ maxLen) :
    Calls Tryd.prog 62 #[cv (s, 1, lo, hi, t)] w fun e w' => e = .returned (.bool (oneB (s, 1, lo, hi, t))) ∧ Below w.heap.size w w' := by
  have B := Lib.hid (new_below w (.cells #[.string s, .int .i64 1, .int .i64 lo, .int .i64 hi, .string t] 57))
  have NM := Lib.hid (fun w => At.name_at s w hs)
  have R := Lib.hid (show oneB (s, 1, lo, hi, t) = (At.nameB s && (decide (lo ≤ hi) && t.toList.isEmpty)) by simp [oneB, noText_is, Bool.and_comm])
  generalize At.nameB s = b at *
  cases b
  · go_enter Tryd.func62, Tryd.ntmps62
    go_wp2_with fail
    refine (NM.out _).mono ?_
    rintro e w' ⟨rfl, rfl⟩
    go_wp2
    go_ret
    exact ⟨by rw [R.out]; rfl, B.out⟩
  obtain ⟨b1, h1⟩ : ∃ b, decide (lo ≤ hi) = b := ⟨_, rfl⟩
  rw [h1] at R
  cases b1
  · go_enter Tryd.func62, Tryd.ntmps62
    go_wp2_with fail
    refine (NM.out _).mono ?_
    rintro e w' ⟨rfl, rfl⟩
    go_wp2
    go_ret
    exact ⟨by rw [R.out]; rfl, B.out⟩
  by_cases he : t.toList = []
  · have R2 := Lib.hid (show oneB (s, 1, lo, hi, t) = true by rw [R.out, he]; rfl)
    go_enter Tryd.func62, Tryd.ntmps62
    go_wp2_with fail
    refine (NM.out _).mono ?_
    rintro e w' ⟨rfl, rfl⟩
    go_wp2
    go_ret
    exact ⟨by rw [R2.out]; rfl, B.out⟩
  · have he2 : t.toList.isEmpty = false := by simpa using he
    have R2 := Lib.hid (show oneB (s, 1, lo, hi, t) = false by rw [R.out, he2]; rfl)
    go_enter Tryd.func62, Tryd.ntmps62
    go_wp2_with fail
    refine (NM.out _).mono ?_
    rintro e w' ⟨rfl, rfl⟩
    go_wp2
    go_ret
    exact ⟨by rw [R2.out]; rfl, B.out⟩
theorem oneB_text2 (s t : ByteArray) (lo hi : Int) : oneB (s, 2, lo, hi, t) = (At.nameB s && ((lo == 0) && ((hi == 0) && decide ((t.size : Int) ≤ 12)))) := by
  have e : ∀ x : Int, decide (x = 0) = (x == 0) := fun x => by rw [Bool.eq_iff_iff]; simp
  have e3 : decide ((t.size : Int) ≤ 12) = decide (t.size ≤ 12) := by rw [Bool.eq_iff_iff]; simp; omega
  unfold oneB
  simp [e, e3]
theorem oneB_text3 (s t : ByteArray) (lo hi : Int) : oneB (s, 3, lo, hi, t) = (At.nameB s && (!decide ((12 : Int) ≤ (t.size : Int)) && ((lo == 0) && (hi == 0)))) := by
  have e : ∀ x : Int, decide (x = 0) = (x == 0) := fun x => by rw [Bool.eq_iff_iff]; simp
  unfold oneB
  simp only [e]
  rw [Bool.eq_iff_iff]
  simp
  omega
set_option maxRecDepth 100000 in
set_option maxHeartbeats 8000000 in
theorem pone_text (s t : ByteArray) (lo hi : Int) (w : World) (hs : s.size ≤ maxLen) (_ht : t.size ≤ maxLen) :
    Calls Tryd.prog 62 #[cv (s, 2, lo, hi, t)] w fun e w' => e = .returned (.bool (oneB (s, 2, lo, hi, t))) ∧ Below w.heap.size w w' := by
  have B := Lib.hid (new_below w (.cells #[.string s, .int .i64 2, .int .i64 lo, .int .i64 hi, .string t] 57))
  have NM := Lib.hid (fun w => At.name_at s w hs)
  have R := Lib.hid (oneB_text2 s t lo hi)
  generalize At.nameB s = b at *
  obtain ⟨b1, h1⟩ : ∃ x, (lo == 0) = x := ⟨_, rfl⟩
  obtain ⟨b2, h2⟩ : ∃ x, (hi == 0) = x := ⟨_, rfl⟩
  obtain ⟨b3, h3⟩ : ∃ x, decide ((t.size : Int) ≤ 12) = x := ⟨_, rfl⟩
  rw [h1, h2, h3] at R
  cases b <;> cases b1 <;> cases b2 <;> cases b3 <;> (
    go_enter Tryd.func62, Tryd.ntmps62
    go_wp2_with fail
    refine (NM.out _).mono ?_
    rintro e w' ⟨rfl, rfl⟩
    go_wp2
    go_ret
    exact ⟨by rw [R.out]; rfl, B.out⟩)
set_option maxRecDepth 100000 in
set_option maxHeartbeats 8000000 in
theorem pone_prefix (s t : ByteArray) (lo hi : Int) (w : World) (hs : s.size ≤ maxLen) (_ht : t.size ≤ maxLen) :
    Calls Tryd.prog 62 #[cv (s, 3, lo, hi, t)] w fun e w' => e = .returned (.bool (oneB (s, 3, lo, hi, t))) ∧ Below w.heap.size w w' := by
  have B := Lib.hid (new_below w (.cells #[.string s, .int .i64 3, .int .i64 lo, .int .i64 hi, .string t] 57))
  have NM := Lib.hid (fun w => At.name_at s w hs)
  have R := Lib.hid (oneB_text3 s t lo hi)
  have h4 : decide ((12 : Int) ≤ (t.size : Int)) = false → decide ((t.size : Int) ≤ 12) = true := by
    intro h
    simp at h ⊢
    omega
  generalize At.nameB s = b at *
  obtain ⟨b1, h1⟩ : ∃ x, (lo == 0) = x := ⟨_, rfl⟩
  obtain ⟨b2, h2⟩ : ∃ x, (hi == 0) = x := ⟨_, rfl⟩
  obtain ⟨b3, h3⟩ : ∃ x, decide ((12 : Int) ≤ (t.size : Int)) = x := ⟨_, rfl⟩
  rw [h1, h2, h3] at R
  cases b3
  · have h5 := h4 h3
    clear h4
    cases b <;> cases b1 <;> cases b2 <;> (
      go_enter Tryd.func62, Tryd.ntmps62
      go_wp2_with fail
      refine (NM.out _).mono ?_
      rintro e w' ⟨rfl, rfl⟩
      go_wp2
      go_ret
      exact ⟨by rw [R.out]; rfl, B.out⟩)
  · clear h4
    cases b <;> (
      go_enter Tryd.func62, Tryd.ntmps62
      go_wp2_with fail
      refine (NM.out _).mono ?_
      rintro e w' ⟨rfl, rfl⟩
      go_wp2
      go_ret
      exact ⟨by rw [R.out]; rfl, B.out⟩)
set_option maxRecDepth 100000 in
set_option maxHeartbeats 8000000 in
theorem pone_other (s t : ByteArray) (k lo hi : Int) (w : World) (hs : s.size ≤ maxLen) (h1 : k ≠ 1) (h2 : k ≠ 2) (h3 : k ≠ 3) :
    Calls Tryd.prog 62 #[cv (s, k, lo, hi, t)] w fun e w' => e = .returned (.bool (oneB (s, k, lo, hi, t))) ∧ Below w.heap.size w w' := by
  have B := Lib.hid (new_below w (.cells #[.string s, .int .i64 k, .int .i64 lo, .int .i64 hi, .string t] 57))
  have NM := Lib.hid (fun w => At.name_at s w hs)
  have R := Lib.hid (show oneB (s, k, lo, hi, t) = false by simp [oneB, h1, h2, h3])
  have e1 : (k == 1) = false := by simpa using h1
  have e2 : (k == 2) = false := by simpa using h2
  have e3 : (k == 3) = false := by simpa using h3
  clear h1 h2 h3
  generalize At.nameB s = b at *
  cases b <;> (
    go_enter Tryd.func62, Tryd.ntmps62
    go_wp2_with fail
    refine (NM.out _).mono ?_
    rintro e w' ⟨rfl, rfl⟩
    go_wp2
    go_ret
    exact ⟨by rw [R.out]; rfl, B.out⟩)
theorem pone_any (c : C5) (w : World) (hs : c.1.size ≤ maxLen) (ht : c.2.2.2.2.size ≤ maxLen) :
    Calls Tryd.prog 62 #[cv c] w fun e w' => e = .returned (.bool (oneB c)) ∧ Below w.heap.size w w' := by
  obtain ⟨s, k, lo, hi, t⟩ := c
  by_cases h1 : k = 1
  · subst h1; exact pone_range s t lo hi w hs
  by_cases h2 : k = 2
  · subst h2; exact pone_text s t lo hi w hs ht
  by_cases h3 : k = 3
  · subst h3; exact pone_prefix s t lo hi w hs ht
  exact pone_other s t k lo hi w hs h1 h2 h3
end Go.Proofs.YtfcgfnmokbbcaaaDoor.Ws

namespace Go.Proofs.YtfcgfnmokbbcaaaDoor.Wq
open Go.RowKit Go.Proofs.YtfcgfnmokbbcaaaDoor Go.Proofs.YtfcgfnmokbbcaaaDoor.Rw Go.Proofs.YtfcgfnmokbbcaaaDoor.Nm

/-- A row of bytes lies in blocks below one. -/
def Lo (rb : Nat) (v : Value) : Prop := ∀ a n c, v = .slice (some a) n c → a.block < rb
theorem lo_nil (rb : Nat) : Lo rb (.slice none 0 0) := fun _ _ _ h => by cases h
/-- A Reader in memory, its bytes ahead of it. -/
def Rd (W : World) (rb : Nat) (s : St) : Prop := ∃ lv, Box W rb #[lv, .bool s.2] 107 ∧ RowB W lv s.1 ∧ s.1.length ≤ 1000000000 ∧ Lo rb lv
theorem Rd.on {W W' : World} {rb : Nat} {s : St} (h : Rd W rb s) (hb : Below W.heap.size W W') : Rd W' rb s := by
  obtain ⟨lv, h1, h2, h3, h4⟩ := h
  exact ⟨lv, h1.on hb, h2.on hb, h3, h4⟩
theorem Rd.lt {W : World} {rb : Nat} {s : St} (h : Rd W rb s) : rb < W.heap.size := by
  obtain ⟨lv, h1, _⟩ := h
  exact h1.lt
/-- Whatever is done behind it. -/
theorem Rd.keep {W W' : World} {rb : Nat} {s : St} (h : Rd W rb s) (hk : ∀ k, k ≤ rb → W'.heap[k]? = W.heap[k]?) : Rd W' rb s := by
  obtain ⟨lv, h1, h2, h3, h4⟩ := h
  refine ⟨lv, (hk rb (Nat.le_refl _)).trans h1, ?_, h3, h4⟩
  rcases h2 with h2 | ⟨a, cap, e, h5, h6, h7⟩
  · exact Or.inl h2
  · refine Or.inr ⟨a, cap, e, h5, h6, fun j u hj => ?_⟩
    have hlt := h4 a _ _ e
    rw [World.cell?_of_block (hk (a.add j).block (by rw [add_block]; omega))]
    exact h7 j u hj
theorem row_hi8b {W : World} {v : Value} {l : List UInt8} (rb : Nat) (h : RowB W v l) (hv : Lo rb v) (k : Nat) (hk : k ≤ l.length) : ∃ hi, (∀ w, (Instr.sliceAt 22 v (some (.int .i64 k)) none none).run Tryd.prog w = .ok hi w) ∧ RowB W hi (l.drop k) ∧ Lo rb hi := by
  obtain ⟨hi, r1, r2⟩ := row_hi8 h k hk
  refine ⟨hi, r1, r2, ?_⟩
  rcases h with ⟨rfl, rfl⟩ | ⟨a, cap, rfl, h2, h3, h4⟩
  · intro a n c e
    have hr := r2
    subst e
    have hs := (r1 W)
    obtain ⟨i, i1, i2, i3, i4⟩ := okB.info
    obtain rfl : k = 0 := by simpa using hk
    have h0 : (Instr.sliceAt 22 (.slice none 0 0) (some (.int .i64 ((0 : Nat) : Int))) none none).run Tryd.prog W = .ok (.slice none 0 0) W := by
      have hu := okB.hu
      have hu2 : Tryd.prog.underlying 22 = _ := hu
      have i1' : Tryd.prog.info? 5 = some i := i1
      simp [go_sem, hu2, sizeOf, typeInfo, EB, i1']
    rw [h0] at hs
    injection hs with hs _
    cases hs
  · intro a' n c e
    have hs := r1 W
    have h0 : (Instr.sliceAt 22 (.slice (some a) l.length cap) (some (.int .i64 k)) none none).run Tryd.prog W = _ := slice_hi okB a k l.length cap hk W
    rw [h0] at hs
    injection hs with hs _
    rw [← hs] at e
    injection e with e _ _
    injection e with e
    have hb := hv a _ _ rfl
    rw [← e]
    split
    · exact hb
    · rw [add_block]; exact hb
theorem Rd.apart {W W' : World} {rb : Nat} {s : St} (h : Rd W rb s) {v : Value} {l : List UInt8} (hr : RowB W v l) (hg : W.grownBy W' (some rb)) : RowB W' v l := by
  obtain ⟨lv, h1, h2, _⟩ := h
  obtain ⟨a, c, e⟩ := h2.len
  exact row_apart h1 (rd_cells lv s.2 ⟨a, _, c, e⟩) hr (fun k hk hne => hg.block k hk (fun e => hne (Option.some.inj e)))
theorem Rd.below {W W' : World} {rb B : Nat} {s : St} (h : Rd W rb s) (hB : B ≤ rb) (hg : W.grownBy W' (some rb)) : Below B W W' :=
  (Below.refl B W).grown hg (by have := h.lt; omega) (fun k hk => by cases hk; exact hB)
/-- Where the Reader's own block alone was turned. -/
theorem set_keep (W : World) (h k : Nat) (x : Value) (rb : Nat) (hh : rb < h) : ∀ j, j ≤ rb → (W.setCell ⟨h, k, none⟩ x).heap[j]? = W.heap[j]? := fun j hj => RowKit.Below.heap_setCell _ _ _ _ (by show j ≠ h; omega)

set_option maxRecDepth 100000 in
set_option maxHeartbeats 8000000 in
theorem take_no (rb n : Nat) (s : St) (w : World) (h : Rd w rb s) (hg : gone n s = true) :
    Calls Tryd.prog 77 #[.pointer (some ⟨rb, 0, none⟩), .int .i64 n] w fun e w' => e = .returned (.tuple #[.slice none 0 0, .bool false]) ∧ Rd w' rb ([], true) ∧ w.grownBy w' (some rb) := by
  obtain ⟨l, b⟩ := s
  obtain ⟨lv, hb, hr, hl, _⟩ := h
  obtain ⟨ao, ac, rfl⟩ := hr.len
  have HB := Lib.hid hb
  have c0 := hb.cell 0
  have c1 := hb.cell 1
  have f0 := hb.fr 0
  have f1 := hb.fr 1
  have hlt := hb.lt
  simp at c0 c1
  obtain ⟨m, hm⟩ : ∃ m, m = l.length := ⟨_, rfl⟩
  rw [← hm] at c0 HB
  have HG := Lib.hid (show b = true ∨ m < n by unfold gone at hg; rw [hm]; simpa using hg)
  clear hb hr hl hg hm
  have fin : Rd ((w.setCell ⟨rb, 0, none⟩ (.slice none 0 0)).setCell ⟨rb, 1, none⟩ (.bool true)) rb ([], true) := by
    have h2 := box_set (k := 1) (box_set (k := 0) HB.out (.slice none 0 0)) (.bool true)
    exact ⟨.slice none 0 0, h2, row_nil _, by simp, lo_nil _⟩
  have gr := grown_more (grown_set w rb 0 (.slice none 0 0)) (grown_set (w.setCell ⟨rb, 0, none⟩ (.slice none 0 0)) rb 1 (.bool true))
  have FIN := Lib.hid fin
  have GR := Lib.hid gr
  clear fin gr
  cases b
  · have hd : (m : Int) < (n : Int) := by
      rcases HG.out with h | h
      · cases h
      · omega
    go_enter Tryd.func77, Tryd.ntmps77
    go_wp2
    go_ret2
    exact ⟨rfl, FIN.out, GR.out⟩
  · go_enter Tryd.func77, Tryd.ntmps77
    go_wp2
    go_ret2
    exact ⟨rfl, FIN.out, GR.out⟩
set_option maxRecDepth 100000 in
set_option maxHeartbeats 8000000 in
theorem take_ok (rb n : Nat) (l : List UInt8) (w : World) (h : Rd w rb (l, false)) (hg : n ≤ l.length) :
    Calls Tryd.prog 77 #[.pointer (some ⟨rb, 0, none⟩), .int .i64 n] w fun e w' => (∃ v, e = .returned (.tuple #[v, .bool true]) ∧ RowB w' v (l.take n)) ∧ Rd w' rb (l.drop n, false) ∧ w.grownBy w' (some rb) := by
  have H := Lib.hid h
  obtain ⟨lv, hb, hr, hl, hlo⟩ := h
  obtain ⟨lo, slo, rlo⟩ := row_lo8 hr n hg
  obtain ⟨hi, shi, rhi, lhi⟩ := row_hi8b rb hr hlo n hg
  obtain ⟨ho, hc, rfl⟩ := rhi.len
  obtain ⟨hn, ehn⟩ : ∃ hn, hn = (l.drop n).length := ⟨_, rfl⟩
  rw [← ehn] at shi rhi lhi
  obtain ⟨ao, ac, rfl⟩ := hr.len
  have HB := Lib.hid hb
  have c0 := hb.cell 0
  have c1 := hb.cell 1
  have f0 := hb.fr 0
  have hlt := hb.lt
  simp at c0 c1
  have gr := grown_set w rb 0 (.slice ho hn hc)
  have R1 := Lib.hid (H.out.apart rlo gr)
  have fin : Rd (w.setCell ⟨rb, 0, none⟩ (.slice ho hn hc)) rb (l.drop n, false) := ⟨_, box_set (k := 0) hb (.slice ho hn hc), H.out.apart rhi gr, by simp at hl ⊢; omega, lhi⟩
  have FIN := Lib.hid fin
  have GR := Lib.hid gr
  obtain ⟨m, hm⟩ : ∃ m, m = l.length := ⟨_, rfl⟩
  have hd : (n : Int) ≤ (m : Int) := by omega
  have HM := Lib.hid hm
  simp only [← hm] at c0 slo shi
  clear fin gr hb hr hl hm rlo rhi hg ehn hlo lhi
  go_enter Tryd.func77, Tryd.ntmps77
  go_wp2
  go_ret2
  exact ⟨⟨_, rfl, R1.out⟩, FIN.out, GR.out⟩
theorem take_any (rb n : Nat) (s : St) (w : World) (h : Rd w rb s) :
    Calls Tryd.prog 77 #[.pointer (some ⟨rb, 0, none⟩), .int .i64 n] w fun e w' => (∃ v, e = .returned (.tuple #[v, .bool (!gone n s)]) ∧ RowB w' v (takeS n s).1) ∧ Rd w' rb (takeS n s).2 ∧ w.grownBy w' (some rb) := by
  cases hg : gone n s
  · obtain ⟨l, b⟩ := s
    obtain ⟨rfl, h2⟩ : b = false ∧ n ≤ l.length := by unfold gone at hg; simpa using hg
    rw [takeS_ok h2]
    exact take_ok rb n l w h h2
  · have e : takeS n s = ([], ([], true)) := by unfold takeS; rw [hg]; rfl
    rw [e]
    exact (take_no rb n s w h hg).mono fun e w' ⟨h1, h2, h3⟩ => ⟨⟨_, h1, row_nil _⟩, h2, h3⟩
set_option maxRecDepth 100000 in
set_option maxHeartbeats 8000000 in
theorem read_any (v : Value) (l : List UInt8) (w : World) (h : RowB w v l) (hl : l.length ≤ 500000000) :
    Calls Tryd.prog 45 #[v] w fun e w' => (∃ rb, e = .returned (.pointer (some ⟨rb, 0, none⟩)) ∧ w.heap.size ≤ rb ∧ Rd w' rb (l, false)) ∧ Below w.heap.size w w' := by
  have C := Lib.hid (clone_any v l w h hl)
  clear h
  go_enter Tryd.func45, Tryd.ntmps45
  go_wp2_with fail
  refine C.out.mono ?_
  rintro e w' ⟨⟨v', rfl, ho⟩, hb⟩
  have hr := Row.of_own ho
  have LOW := Lib.hid (show Lo w'.heap.size v' from fun a n c e => by
    rcases own_open ho with ⟨e1, _⟩ | ⟨g, cap, cur, e1, _, hbx, _⟩
    · rw [e1] at e; cases e
    · rw [e1] at e; injection e with e _ _; injection e with e; rw [← e]; exact hbx.lt)
  obtain ⟨ao, ac, rfl⟩ := hr.len
  obtain ⟨m, hm⟩ : ∃ m, m = l.length := ⟨_, rfl⟩
  rw [← hm] at hr LOW
  have hs := hb.size
  have FIN := Lib.hid (show Rd (w'.alloc (.cells #[.slice ao m ac, .bool false] 107)) w'.heap.size (l, false) from ⟨_, box_new w' _ _, hr.on ((Below.refl _ _).alloc (Nat.le_refl _) _), by simp; omega, LOW.out⟩)
  have BF := Lib.hid (hb.alloc hs (.cells #[.slice ao m ac, .bool false] 107))
  simp only [← hm]
  clear hr hb ho hm
  go_wp2_with fail
  go_ret
  exact ⟨⟨_, rfl, hs, FIN.out⟩, BF.out⟩
set_option maxRecDepth 100000 in
set_option maxHeartbeats 8000000 in
theorem byte_any (rb : Nat) (s : St) (w : World) (h : Rd w rb s) :
    Calls Tryd.prog 67 #[.pointer (some ⟨rb, 0, none⟩)] w fun e w' => e = .returned (.int .u8 (byteS s).1.toNat) ∧ Rd w' rb (byteS s).2 ∧ w.grownBy w' (some rb) := by
  have T := Lib.hid (take_any rb 1 s w h)
  clear h
  go_enter Tryd.func67, Tryd.ntmps67
  go_wp2_with fail
  refine T.out.mono ?_
  rintro e w' ⟨⟨v, rfl, hr⟩, hd, hg⟩
  have HD := Lib.hid hd
  have HG := Lib.hid hg
  cases hq : gone 1 s
  · have e1 : (takeS 1 s).1 = s.1.take 1 := by unfold takeS; rw [hq]; rfl
    have hlen : 1 ≤ s.1.length := by unfold gone at hq; simp at hq; have := List.length_pos_iff.2 hq.2; omega
    obtain ⟨c, r, hc⟩ : ∃ c r, s.1 = c :: r := by
      cases hs : s.1 with
      | nil => rw [hs] at hlen; simp at hlen
      | cons c r => exact ⟨c, r, rfl⟩
    have e2 : (takeS 1 s).1 = [c] := by rw [e1, hc]; rfl
    rw [e2] at hr
    obtain ⟨ao, ac, rfl⟩ := hr.len
    obtain ⟨p, ix, _, px⟩ := elB (k := 0) hr rfl rfl rfl
    have p0 := px _ (Below.refl _ _)
    have ix0 : ∀ w, (Instr.indexAt 22 (.slice ao [c].length ac) (.int .i64 0)).run Tryd.prog w = .ok (.pointer (some p)) w := ix
    simp only [List.length_singleton] at ix0
    have F := Lib.hid (show (byteS s).1 = c by unfold byteS; rw [e2]; rfl)
    clear T hd hg e1 hlen hc e2 hr px hq ix
    go_wp2_with fail
    go_ret
    exact ⟨by rw [F.out]; rfl, HD.out, HG.out⟩
  · have F := Lib.hid (show (byteS s).1 = 0 by unfold byteS takeS; rw [hq]; rfl)
    clear T hd hg hr hq
    go_wp2_with fail
    go_ret
    exact ⟨by rw [F.out]; rfl, HD.out, HG.out⟩
theorem good_any (rb : Nat) (s : St) (w : World) (h : Rd w rb s) :
    Calls Tryd.prog 79 #[.pointer (some ⟨rb, 0, none⟩)] w fun e w' => e = .returned (.bool (!s.2)) ∧ w = w' := by
  obtain ⟨l, b⟩ := s
  obtain ⟨lv, hb, hr, _, _⟩ := h
  have c1 := hb.cell 1
  simp at c1
  clear hb hr
  go_enter Tryd.func79, Tryd.ntmps79
  go_wp2
  go_ret
  exact ⟨rfl, rfl⟩
set_option maxRecDepth 100000 in
set_option maxHeartbeats 8000000 in
theorem num_any (rb : Nat) (s : St) (w : World) (h : Rd w rb s) :
    Calls Tryd.prog 78 #[.pointer (some ⟨rb, 0, none⟩)] w fun e w' => e = .returned (.int .i64 (numS s).1) ∧ Rd w' rb (numS s).2 ∧ w.grownBy w' (some rb) := by
  have T := Lib.hid (take_any rb 8 s w h)
  clear h
  go_enter Tryd.func78, Tryd.ntmps78
  go_wp2_with fail
  refine T.out.mono ?_
  rintro e w' ⟨⟨v, rfl, hr⟩, hd, hg⟩
  have HD := Lib.hid hd
  have HG := Lib.hid hg
  have F := Lib.hid (show (numS s).1 = valN (takeS 8 s).1 from rfl)
  have hle : (takeS 8 s).1.length ≤ 8 := by
    unfold takeS
    split
    · simp
    · simp; omega
  obtain ⟨ao, ac, rfl⟩ := hr.len
  obtain ⟨b, hb⟩ : ∃ b, (!gone 8 s) = b := ⟨_, rfl⟩
  generalize (takeS 8 s).1 = l at *
  obtain ⟨m, hm⟩ : ∃ m, m = l.length := ⟨_, rfl⟩
  have HM := Lib.hid hm
  rw [← hm] at hr hle ⊢
  rw [hb]
  have HR := Lib.hid hr
  clear T hd hg hr hm hb
  go_wp2_with fail
  go_loop [5, 15] (fun n i => ∃ k : Nat, k ≤ m ∧ i = .int .i64 k ∧ n = .int .i64 (valN (l.take k))) (fun _ i => m - (intOf i).toNat)
  case atStart => exact ⟨0, Nat.zero_le _, rfl, by rw [List.take_zero, valN_nil]⟩
  case round =>
    obtain ⟨k, hk, rfl, rfl⟩ := hrel
    by_cases hlt : k < m
    · obtain ⟨x, hx⟩ : ∃ x, l[k]? = some x := ⟨_, List.getElem?_eq_getElem (by rw [← HM.out]; exact hlt)⟩
      obtain ⟨p, ix, _, px⟩ := elB HR.out rfl HM.out.symm hx
      have p0 := px _ (Below.refl _ _)
      have TK := Lib.hid (show bits .or .i64 (wrap64 (valN (l.take k) * 256)) (wrap64 (x.toNat : Int)) = valN (l.take (k + 1)) by rw [bits_step, List.take_add_one, hx]; rfl)
      have hb := valN_bd (l.take k)
      generalize valN (l.take k) = y at *
      clear px hx
      go_wp2
      go_round
      case rel => exact ⟨k + 1, by omega, by go_num, by rw [TK.out]⟩
      case measure => simp [intOf]; omega
    · obtain rfl : k = m := by omega
      rw [List.take_of_length_le (by rw [HM.out]; exact Nat.le_refl _)]
      go_wp2
      go_ret
      exact ⟨by rw [F.out]; rfl, HD.out, HG.out⟩
set_option maxRecDepth 100000 in
set_option maxHeartbeats 8000000 in
theorem rtext_any (rb : Nat) (s : St) (w : World) (h : Rd w rb s) :
    Calls Tryd.prog 80 #[.pointer (some ⟨rb, 0, none⟩)] w fun e w' => e = .returned (.string (textS s).1) ∧ Rd w' rb (textS s).2 ∧ w.grownBy w' (some rb) := by
  have T := Lib.hid (byte_any rb s w h)
  clear h
  go_enter Tryd.func80, Tryd.ntmps80
  go_wp2_with fail
  refine T.out.mono ?_
  rintro e w1 ⟨rfl, hd, hg⟩
  have HG := Lib.hid hg
  have U := Lib.hid (take_any rb (byteS s).1.toNat (byteS s).2 w1 hd)
  have F := Lib.hid (show textS s = (⟨(takeS (byteS s).1.toNat (byteS s).2).1.toArray⟩, (takeS (byteS s).1.toNat (byteS s).2).2) from rfl)
  clear T hd hg
  have hlt := (byteS s).1.toNat_lt
  generalize (byteS s).1.toNat = n at *
  generalize (byteS s).2 = s1 at *
  have hwr : IntKind.i64.wrap (n : Int) = n := IntWalk.i64_in _ (by omega)
  go_wp2_with fail
  refine U.out.mono ?_
  rintro e w2 ⟨⟨v, rfl, hr⟩, hd, hg⟩
  have HD := Lib.hid hd
  have HG2 := Lib.hid (grown_more HG.out hg)
  obtain ⟨b, hb⟩ : ∃ b, (!gone n s1) = b := ⟨_, rfl⟩
  rw [hb]
  have cv := conv_row hr
  generalize (takeS n s1).1 = l at *
  generalize (takeS n s1).2 = s2 at *
  clear hd hg hr hb U hwr
  go_wp2_with fail
  go_ret
  exact ⟨by rw [F.out]; rfl, by rw [F.out]; exact HD.out, HG2.out⟩
theorem Rd.other {W : World} {rb h k : Nat} {s : St} (hr : Rd W rb s) {cs : Array Value} {t : TypeId} (hb : Box W h cs t) (hcs : ∀ (j : Nat) (n : Int), cs[j]? ≠ some (.int .u8 n)) (hne : h ≠ rb) (x : Value) : Rd (W.setCell ⟨h, k, none⟩ x) rb s := by
  obtain ⟨lv, h1, h2, h3, h4⟩ := hr
  refine ⟨lv, ?_, row_apart hb hcs h2 fun j _ hj => RowKit.Below.heap_setCell _ _ _ _ hj, h3, h4⟩
  exact (RowKit.Below.heap_setCell _ _ _ _ (fun e => hne e.symm)).trans h1
set_option maxRecDepth 100000 in
set_option maxHeartbeats 8000000 in
theorem rid_any (rb : Nat) (s : St) (w : World) (h : Rd w rb s) :
    Calls Tryd.prog 68 #[.pointer (some ⟨rb, 0, none⟩)] w fun e w' => e = .returned (.agg #[.int .i64 (idS s).1.1, .int .i64 (idS s).1.2]) ∧ Rd w' rb (idS s).2 ∧ w.grownBy w' (some rb) := by
  have h1 := h.on ((Below.refl w.heap.size w).alloc (Nat.le_refl _) (.cells #[.int .i64 0, .int .i64 0] 28))
  have G1 := Lib.hid (World.grownBy_alloc w (.cells #[.int .i64 0, .int .i64 0] 28) (some rb))
  have T := Lib.hid (num_any rb s _ h1)
  have X := Lib.hid (box_new w #[.int .i64 0, .int .i64 0] 28)
  have hne : w.heap.size ≠ rb := by have := h.lt; omega
  have NE := Lib.hid hne
  clear h h1 hne
  go_enter Tryd.func68, Tryd.ntmps68
  go_wp2_with fail
  refine T.out.mono ?_
  rintro e w1 ⟨rfl, hd, hg⟩
  have X1 := Lib.hid (show Box w1 w.heap.size #[.int .i64 0, .int .i64 0] 28 from (hg.block _ X.out.lt (fun e => NE.out (Option.some.inj e))).trans X.out)
  have HG1 := Lib.hid (grown_more G1.out hg)
  have U := Lib.hid (num_any rb (numS s).2 w1 hd)
  have F := Lib.hid (show idS s = (if (numS (numS s).2).2.2 then (0, 0) else ((numS s).1, (numS (numS s).2).1), (numS (numS s).2).2) from rfl)
  clear T hd hg G1 X
  generalize (numS s).1 = c at *
  generalize (numS s).2 = s1 at *
  go_wp2_with fail
  refine U.out.mono ?_
  rintro e w2 ⟨rfl, hd, hg⟩
  have X2 := Lib.hid (show Box w2 w.heap.size #[.int .i64 0, .int .i64 0] 28 from (hg.block _ X1.out.lt (fun e => NE.out (Option.some.inj e))).trans X1.out)
  have HG2 := Lib.hid (grown_more HG1.out hg)
  have V := Lib.hid (good_any rb (numS s1).2 w2 hd)
  have HD := Lib.hid hd
  clear U hd hg X1 HG1
  generalize (numS s1).1 = q at *
  generalize (numS s1).2 = s2 at *
  go_wp2_with fail
  refine V.out.mono ?_
  rintro e w3 ⟨rfl, rfl⟩
  obtain ⟨l2, b2⟩ := s2
  have x0 := X2.out.cell 0
  have x1 := X2.out.cell 1
  have y0 := X2.out.fr 0
  have y1 := X2.out.fr 1
  have z := X2.out.lt
  simp at x0 x1
  have FIN := Lib.hid (fun a b : Int => show Rd ((w2.setCell ⟨w.heap.size, 0, none⟩ (.int .i64 a)).setCell ⟨w.heap.size, 1, none⟩ (.int .i64 b)) rb (l2, b2) from
    (HD.out.other (k := 0) X2.out (two_ints 0 0) NE.out (.int .i64 a)).other (k := 1) (box_set (k := 0) X2.out (.int .i64 a)) (two_ints a 0) NE.out (.int .i64 b))
  have GR := Lib.hid (fun a b : Int => grown_new (grown_new HG2.out 0 (.int .i64 a) w.heap.size (Nat.le_refl _)) 1 (.int .i64 b) w.heap.size (Nat.le_refl _))
  have x2 := Lib.hid (fun a b : Int => box_set (k := 1) (box_set (k := 0) X2.out (.int .i64 a)) (.int .i64 b))
  clear V
  cases b2
  · go_wp2_with fail
    have B := x2.out c q
    have z0 := B.cell 0
    have z1 := B.cell 1
    simp at z0 z1
    refine bodyPost_ret (v := .agg #[.int .i64 c, .int .i64 q]) (by simp [results, Tryd.results68, go_sem, z0, z1]) rfl ⟨?_, ?_, GR.out c q⟩
    · rw [F.out]; rfl
    · rw [F.out]; exact FIN.out c q
  · go_wp2_with fail
    have B := x2.out 0 0
    have z0 := B.cell 0
    have z1 := B.cell 1
    simp at z0 z1
    refine bodyPost_ret (v := .agg #[.int .i64 0, .int .i64 0]) (by simp [results, Tryd.results68, go_sem, z0, z1]) rfl ⟨?_, ?_, GR.out 0 0⟩
    · rw [F.out]; rfl
    · rw [F.out]; exact FIN.out 0 0
end Go.Proofs.YtfcgfnmokbbcaaaDoor.Wq

namespace Go.Proofs.YtfcgfnmokbbcaaaDoor.Ws
open Go.Proofs.YtfcgfnmokbbcaaaDoor Go.Proofs.YtfcgfnmokbbcaaaDoor.Nm Go.Proofs.YtfcgfnmokbbcaaaDoor.At Go.Proofs.YtfcgfnmokbbcaaaDoor.Pr Go.Proofs.YtfcgfnmokbbcaaaDoor.Wr

/-- A constraint, as it is read. -/
def gC (s : St) : C5 × St :=
  if (byteS (textS s).2).1.toNat = 1 then (((textS s).1, 1, (numS (byteS (textS s).2).2).1, (numS (numS (byteS (textS s).2).2).2).1, ⟨#[]⟩), (numS (numS (byteS (textS s).2).2).2).2)
  else if (byteS (textS s).2).1.toNat = 2 ∨ (byteS (textS s).2).1.toNat = 3 then (((textS s).1, (byteS (textS s).2).1.toNat, 0, 0, (textS (byteS (textS s).2).2).1), (textS (byteS (textS s).2).2).2)
  else (((textS s).1, (byteS (textS s).2).1.toNat, 0, 0, ⟨#[]⟩), (byteS (textS s).2).2)
/-- An attribute, as it is read. -/
def gA (s : St) : A4 × St :=
  if (byteS (textS s).2).1.toNat = 1 then (((textS s).1, true, 0, (textS (byteS (textS s).2).2).1), (textS (byteS (textS s).2).2).2)
  else if (byteS (textS s).2).1.toNat = 0 then (((textS s).1, false, (numS (byteS (textS s).2).2).1, ⟨#[]⟩), (numS (byteS (textS s).2).2).2)
  else (((textS s).1, false, 0, ⟨#[]⟩), (byteS (textS s).2).2)
theorem readL_snoc {α : Type} (f : St → α × St) : ∀ (n : Nat) (s : St), readL f (n + 1) s = ((readL f n s).1 ++ [(f (readL f n s).2).1], (f (readL f n s).2).2)
  | 0, s => rfl
  | n + 1, s => by
    have h := readL_snoc f n (f s).2
    rw [readL, h]
    rfl
theorem readL_len {α : Type} (f : St → α × St) : ∀ (n : Nat) (s : St), (readL f n s).1.length = n
  | 0, _ => rfl
  | n + 1, s => by
    show (readL f n (f s).2).1.length + 1 = n + 1
    rw [readL_len f n]
/-- A list, as it is read: how many, and these. -/
def gL {α : Type} (f : St → α × St) (s : St) : List α × St := readL f (byteS s).1.toNat (byteS s).2
/-- A message, as it is read. -/
def gM (s : St) : Mg :=
  let k := (byteS s).1.toNat
  let t := idS (byteS s).2
  let i := if 3 ≤ k ∧ k ≤ 5 then idS t.2 else ((0, 0), t.2)
  ⟨k, t.1.1, t.1.2, i.1.1, i.1.2, if k = 1 ∨ k = 3 then (gL gC i.2).1 else [], if k = 5 then (gL gA i.2).1 else []⟩
theorem gM_is (s : St) : gM s = ⟨((byteS s).1.toNat : Int), (idS (byteS s).2).1.1, (idS (byteS s).2).1.2, if 3 ≤ (byteS s).1.toNat ∧ (byteS s).1.toNat ≤ 5 then (idS (idS (byteS s).2).2).1.1 else 0, if 3 ≤ (byteS s).1.toNat ∧ (byteS s).1.toNat ≤ 5 then (idS (idS (byteS s).2).2).1.2 else 0,
    if (byteS s).1.toNat = 1 ∨ (byteS s).1.toNat = 3 then (gL gC (if 3 ≤ (byteS s).1.toNat ∧ (byteS s).1.toNat ≤ 5 then (idS (idS (byteS s).2).2).2 else (idS (byteS s).2).2)).1 else [],
    if (byteS s).1.toNat = 5 then (gL gA (if 3 ≤ (byteS s).1.toNat ∧ (byteS s).1.toNat ≤ 5 then (idS (idS (byteS s).2).2).2 else (idS (byteS s).2).2)).1 else []⟩ := by
  unfold gM
  by_cases h : 3 ≤ (byteS s).1.toNat ∧ (byteS s).1.toNat ≤ 5
  · simp only [if_pos h]
  · simp only [if_neg h]
theorem byteN_eq {b : UInt8} {n : Nat} (hn : n < 256) : b.toNat = n ↔ b = UInt8.ofNat n := by
  constructor
  · intro h
    subst h
    simp
  · intro h
    subst h
    rw [UInt8.toNat_ofNat']
    omega
theorem gC_read (c : C5) (hc : oneB c = true) (hl : I64 c.2.2.1) (hh : I64 c.2.2.2.1) (r : List UInt8) : gC (conB c ++ r, false) = (c, (r, false)) := by
  have h := readC_ok c hc hl hh r
  obtain ⟨nm, k, lo, hi, t⟩ := c
  have hk : k = 1 ∨ k = 2 ∨ k = 3 := by
    unfold oneB at hc
    rw [Bool.and_eq_true] at hc
    have h2 := hc.2
    split at h2
    · exact Or.inl ‹_›
    split at h2
    · exact Or.inr (Or.inl ‹_›)
    split at h2
    · exact Or.inr (Or.inr ‹_›)
    · cases h2
  have hs : nm.size ≤ 12 := by
    unfold oneB at hc
    rw [Bool.and_eq_true] at hc
    exact (nameB_size hc.1).2
  unfold readC at h
  unfold gC
  have e1 : textS (conB (nm, k, lo, hi, t) ++ r, false) = (nm, ((UInt8.ofNat k.toNat :: (if k = 1 then numB lo ++ numB hi else textB t)) ++ r, false)) := by
    unfold conB
    rw [List.append_assoc]
    exact textS_text (show nm.size ≤ 255 by omega) _
  rw [e1] at h ⊢
  rw [List.cons_append] at h ⊢
  simp only [byteS_cons] at h ⊢
  rcases hk with rfl | rfl | rfl
  · simpa using h
  · simpa using h
  · simpa using h
theorem gA_read (a : A4) (hn : nameB a.1 = true) (hv : Va.rightV a.2.1 a.2.2.1 a.2.2.2 = true) (h64 : I64 a.2.2.1) (r : List UInt8) : gA (attB a ++ r, false) = (a, (r, false)) := by
  have h := readA_ok a hn hv h64 r
  obtain ⟨nm, b, n, t⟩ := a
  have hs := nameB_size hn
  unfold readA at h
  unfold gA
  have e1 : textS (attB (nm, b, n, t) ++ r, false) = (nm, ((if b then 1 :: textB t else 0 :: numB n) ++ r, false)) := by
    unfold attB
    rw [List.append_assoc]
    exact textS_text (show nm.size ≤ 255 by have := hs.2; simp only at this; omega) _
  rw [e1] at h ⊢
  cases b
  · simp only [Bool.false_eq_true, if_false, List.cons_append, byteS_cons] at h ⊢
    simpa using h
  · simp only [if_true, List.cons_append, byteS_cons] at h ⊢
    simpa using h
theorem gL_read {α : Type} (f : St → α × St) (g : α → List UInt8) (l : List α) (h5 : l.length ≤ 255) (h : ∀ x ∈ l, ∀ r, f (g x ++ r, false) = (x, (r, false))) (r : List UInt8) : gL f (UInt8.ofNat l.length :: l.flatMap g ++ r, false) = (l, (r, false)) := by
  unfold gL
  rw [List.cons_append, byteS_cons]
  have e : (UInt8.ofNat l.length).toNat = l.length := by rw [UInt8.toNat_ofNat']; omega
  simp only [e]
  exact readL_ok f g l r h
theorem gM_read (m : Mg) (hr : rightM m = true) (h : M64 m) : gM (bytesM m, false) = m := by
  have R := rightM_is hr
  obtain ⟨k, tc, ts, ic, is, p, l⟩ := m
  have hk := R.kind
  have h1 := R.id
  have h2 := R.noid
  have h3 := R.pred
  have h4 := R.nopred
  have h5 := R.attrs
  have h6 := R.noattrs
  obtain ⟨_, t1, t2, i1, i2, hp, hl⟩ := h
  simp only at hk h1 h2 h3 h4 h5 h6 t1 t2 i1 i2 hp hl
  have PR : (k = 1 ∨ k = 3) → ∀ r, gL gC (UInt8.ofNat p.length :: p.flatMap conB ++ r, false) = (p, (r, false)) := fun e r =>
    gL_read gC conB p (by have := rightP_len (h3 e); omega) (fun c hc r => gC_read c (rightP_one (h3 e) c hc) (hp c hc).2.1 (hp c hc).2.2 r) r
  have AR : k = 5 → ∀ r, gL gA (UInt8.ofNat l.length :: l.flatMap attB ++ r, false) = (l, (r, false)) := fun e r =>
    gL_read gA attB l (by have := rightT_len (h5 e); omega) (fun c hc r => gA_read c (rightT_one (h5 e) c hc).1 (rightT_one (h5 e) c hc).2 (hl c hc) r) r
  have TR : ∀ r, idS ((numB tc ++ numB ts) ++ r, false) = ((tc, ts), (r, false)) := fun r => by
    rw [List.append_assoc]
    exact idS_id t1.1 t1.2 t2.1 t2.2 r
  have IR : ∀ r, idS ((numB ic ++ numB is) ++ r, false) = ((ic, is), (r, false)) := fun r => by
    rw [List.append_assoc]
    exact idS_id i1.1 i1.2 i2.1 i2.2 r
  have nil : ∀ a : List UInt8, a = a ++ [] := fun a => (List.append_nil a).symm
  unfold gM bytesM
  simp only [byteS_cons, TR]
  rcases hk with rfl | rfl | rfl | rfl | rfl
  · obtain ⟨rfl, rfl⟩ := h2 (by omega)
    obtain rfl := h6 (by omega)
    have e := PR (Or.inl rfl) []
    simp [idB, predsB, attrsB] at e ⊢
    rw [e]
  · obtain ⟨rfl, rfl⟩ := h2 (by omega)
    obtain rfl := h4 (by omega)
    obtain rfl := h6 (by omega)
    simp
  · obtain rfl := h6 (by omega)
    have e := PR (Or.inr rfl) []
    have e2 := IR (UInt8.ofNat p.length :: p.flatMap conB)
    simp [idB, predsB, attrsB] at e e2 ⊢
    rw [e2]
    simp [e]
  · obtain rfl := h4 (by omega)
    obtain rfl := h6 (by omega)
    have e2 := IR []
    simp [idB, predsB, attrsB] at e2 ⊢
    rw [e2]
    simp
  · obtain rfl := h4 (by omega)
    have e := AR rfl []
    have e2 := IR (UInt8.ofNat l.length :: l.flatMap attB)
    simp [idB, predsB, attrsB] at e e2 ⊢
    rw [e2]
    simp [e]
end Go.Proofs.YtfcgfnmokbbcaaaDoor.Ws
