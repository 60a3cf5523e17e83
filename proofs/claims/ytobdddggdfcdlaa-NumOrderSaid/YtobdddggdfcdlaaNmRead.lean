/-
  Package num's Reader: how it lies in memory, what it takes. Condition: bytes no longer than a thousand million.
-/
import Derived.Test.YtobdddggdfcdlaaNmText
namespace Go.Proofs.Ytobdddggdfcdlaa.Nm
open Go.RowKit Go.Proofs.Ytobdddggdfcdlaa Go.Proofs.Ytobdddggdfcdlaa.Rw

/-- A Reader in memory. -/
def Rd (W : World) (rb : Nat) (s : St) : Prop := ∃ lv, Box W rb #[lv, .bool s.2] 48 ∧ RowB W lv s.1 ∧ s.1.length ≤ 1000000000
theorem Rd.on {W W' : World} {rb : Nat} {s : St} (h : Rd W rb s) (hb : Below W.heap.size W W') : Rd W' rb s := by
  obtain ⟨lv, h1, h2, h3⟩ := h
  exact ⟨lv, h1.on hb, h2.on hb, h3⟩
theorem Rd.lt {W : World} {rb : Nat} {s : St} (h : Rd W rb s) : rb < W.heap.size := by
  obtain ⟨lv, h1, _⟩ := h
  exact h1.lt
/-- A row of bytes lies in no block that holds other things. -/
theorem row_apart {W : World} {rb : Nat} {cs : Array Value} {t : TypeId} {v : Value} {l : List UInt8} (hb : Box W rb cs t) (hcs : ∀ (j : Nat) (n : Int), cs[j]? ≠ some (.int .u8 n)) (h : RowB W v l) {W' : World} (hg : ∀ k, k < W.heap.size → k ≠ rb → W'.heap[k]? = W.heap[k]?) : RowB W' v l := by
  rcases h with h | ⟨a, cap, h1, h2, h3, h4⟩
  · exact Or.inl h
  · refine Or.inr ⟨a, cap, h1, h2, h3, fun j u hj => ?_⟩
    have hc := h4 j u hj
    have hlt := World.block_lt_of_cell? W _ hc
    have hne : (a.add j).block ≠ rb := fun e => by
      rw [flatB, List.getElem?_map] at hj
      cases hx : l[j]? with
      | none => rw [hx] at hj; cases hj
      | some x =>
        rw [hx] at hj
        obtain rfl : Value.int .u8 x.toNat = u := by simpa using hj
        unfold World.cell? at hc
        unfold Box at hb
        rw [e, hb] at hc
        simp only at hc
        split at hc
        · cases hc
        · exact hcs _ _ hc
    rw [World.cell?_of_block (hg _ hlt hne)]
    exact hc
theorem rd_cells (lv : Value) (b : Bool) (hl : ∃ a n c, lv = .slice a n c) : ∀ (j : Nat) (n : Int), (#[lv, .bool b] : Array Value)[j]? ≠ some (.int .u8 n) := by
  obtain ⟨a, n, c, rfl⟩ := hl
  intro j n h
  match j with
  | 0 => simp at h
  | 1 => simp at h
  | j + 2 => simp at h
theorem Rd.apart {W W' : World} {rb : Nat} {s : St} (h : Rd W rb s) {v : Value} {l : List UInt8} (hr : RowB W v l) (hg : W.grownBy W' (some rb)) : RowB W' v l := by
  obtain ⟨lv, h1, h2, _⟩ := h
  obtain ⟨a, c, e⟩ := h2.len
  exact row_apart h1 (rd_cells lv s.2 ⟨a, _, c, e⟩) hr (fun k hk hne => hg.block k hk (fun e => hne (Option.some.inj e)))
theorem Rd.below {W W' : World} {rb B : Nat} {s : St} (h : Rd W rb s) (hB : B ≤ rb) (hg : W.grownBy W' (some rb)) : Below B W W' :=
  (Below.refl B W).grown hg (by have := h.lt; omega) (fun k hk => by cases hk; exact hB)
theorem grown_set (W : World) (rb k : Nat) (x : Value) : W.grownBy (W.setCell ⟨rb, k, none⟩ x) (some rb) :=
  ⟨rfl, rfl, rfl, by simp [World.setCell], fun j _ hne => RowKit.Below.heap_setCell _ _ _ _ (fun e => hne (by rw [e]))⟩
theorem grown_more {W W1 W2 : World} {r : Option Nat} (h1 : W.grownBy W1 r) (h2 : W1.grownBy W2 r) : W.grownBy W2 r :=
  ⟨h2.os.trans h1.os, h2.tape.trans h1.tape, h2.output.trans h1.output, Nat.le_trans h1.size h2.size, fun k hk hne => (h2.block k (Nat.lt_of_lt_of_le hk h1.size) hne).trans (h1.block k hk hne)⟩
theorem box_set {W : World} {rb k : Nat} {cs : Array Value} {t : TypeId} (h : Box W rb cs t) (x : Value) : Box (W.setCell ⟨rb, k, none⟩ x) rb (cs.setIfInBounds k x) t := heap_setCell_same W rb k cs t x h

set_option maxRecDepth 100000 in
set_option maxHeartbeats 8000000 in
theorem take_no (rb n : Nat) (s : St) (w : World) (h : Rd w rb s) (hg : gone n s = true) :
    Calls Try.prog 25 #[.pointer (some ⟨rb, 0, none⟩), .int .i64 n] w fun e w' => e = .returned (.tuple #[.slice none 0 0, .bool false]) ∧ Rd w' rb ([], true) ∧ w.grownBy w' (some rb) := by
  obtain ⟨l, b⟩ := s
  obtain ⟨lv, hb, hr, hl⟩ := h
  obtain ⟨ao, ac, rfl⟩ := hr.len
  have HB := Lib.hid hb
  have c0 := hb.cell 0
  have c1 := hb.cell 1
  have f0 := hb.fr 0
  have f1 := hb.fr 1
  have hlt := hb.lt
  simp at c0 c1
  obtain ⟨m, hm⟩ : ∃ m, m = l.length := ⟨_, rfl⟩
  rw [← hm] at c0 HB
  have HG := Lib.hid (show b = true ∨ m < n by unfold gone at hg; rw [hm]; simpa using hg)
  clear hb hr hl hg hm
  have fin : Rd ((w.setCell ⟨rb, 0, none⟩ (.slice none 0 0)).setCell ⟨rb, 1, none⟩ (.bool true)) rb ([], true) := by
    have h2 := box_set (k := 1) (box_set (k := 0) HB.out (.slice none 0 0)) (.bool true)
    exact ⟨.slice none 0 0, h2, row_nil _, by simp⟩
  have gr := grown_more (grown_set w rb 0 (.slice none 0 0)) (grown_set (w.setCell ⟨rb, 0, none⟩ (.slice none 0 0)) rb 1 (.bool true))
  have FIN := Lib.hid fin
  have GR := Lib.hid gr
  clear fin gr
  cases b
  · have hd : (m : Int) < (n : Int) := by
      rcases HG.out with h | h
      · cases h
      · omega
    go_enter Try.func25, Try.ntmps25
    go_wp2
    go_ret2
    exact ⟨rfl, FIN.out, GR.out⟩
  · go_enter Try.func25, Try.ntmps25
    go_wp2
    go_ret2
    exact ⟨rfl, FIN.out, GR.out⟩
set_option maxRecDepth 100000 in
set_option maxHeartbeats 8000000 in
theorem take_ok (rb n : Nat) (l : List UInt8) (w : World) (h : Rd w rb (l, false)) (hg : n ≤ l.length) :
    Calls Try.prog 25 #[.pointer (some ⟨rb, 0, none⟩), .int .i64 n] w fun e w' => (∃ v, e = .returned (.tuple #[v, .bool true]) ∧ RowB w' v (l.take n)) ∧ Rd w' rb (l.drop n, false) ∧ w.grownBy w' (some rb) := by
  have H := Lib.hid h
  obtain ⟨lv, hb, hr, hl⟩ := h
  obtain ⟨lo, slo, rlo⟩ := row_lo8 hr n hg
  obtain ⟨hi, shi, rhi⟩ := row_hi8 hr n hg
  obtain ⟨ho, hc, rfl⟩ := rhi.len
  obtain ⟨hn, ehn⟩ : ∃ hn, hn = (l.drop n).length := ⟨_, rfl⟩
  rw [← ehn] at shi rhi
  obtain ⟨ao, ac, rfl⟩ := hr.len
  have HB := Lib.hid hb
  have c0 := hb.cell 0
  have c1 := hb.cell 1
  have f0 := hb.fr 0
  have hlt := hb.lt
  simp at c0 c1
  have gr := grown_set w rb 0 (.slice ho hn hc)
  have R1 := Lib.hid (H.out.apart rlo gr)
  have fin : Rd (w.setCell ⟨rb, 0, none⟩ (.slice ho hn hc)) rb (l.drop n, false) := ⟨_, box_set (k := 0) hb (.slice ho hn hc), H.out.apart rhi gr, by simp at hl ⊢; omega⟩
  have FIN := Lib.hid fin
  have GR := Lib.hid gr
  obtain ⟨m, hm⟩ : ∃ m, m = l.length := ⟨_, rfl⟩
  have hd : (n : Int) ≤ (m : Int) := by omega
  have HM := Lib.hid hm
  simp only [← hm] at c0 slo shi
  clear fin gr hb hr hl hm rlo rhi hg ehn
  go_enter Try.func25, Try.ntmps25
  go_wp2
  go_ret2
  exact ⟨⟨_, rfl, R1.out⟩, FIN.out, GR.out⟩
theorem take_any (rb n : Nat) (s : St) (w : World) (h : Rd w rb s) :
    Calls Try.prog 25 #[.pointer (some ⟨rb, 0, none⟩), .int .i64 n] w fun e w' => (∃ v, e = .returned (.tuple #[v, .bool (!gone n s)]) ∧ RowB w' v (takeS n s).1) ∧ Rd w' rb (takeS n s).2 ∧ w.grownBy w' (some rb) := by
  cases hg : gone n s
  · obtain ⟨l, b⟩ := s
    obtain ⟨rfl, h2⟩ : b = false ∧ n ≤ l.length := by unfold gone at hg; simpa using hg
    rw [takeS_ok h2]
    exact take_ok rb n l w h h2
  · have e : takeS n s = ([], ([], true)) := by unfold takeS; rw [hg]; rfl
    rw [e]
    exact (take_no rb n s w h hg).mono fun e w' ⟨h1, h2, h3⟩ => ⟨⟨_, h1, row_nil _⟩, h2, h3⟩
end Go.Proofs.Ytobdddggdfcdlaa.Nm
