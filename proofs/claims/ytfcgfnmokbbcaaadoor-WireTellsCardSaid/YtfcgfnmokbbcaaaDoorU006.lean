/-
  Text and ID of package num: a text's length and its bytes; an ID's two numbers. Conditions: texts no longer than a machine holds; numbers of 64 bits.
  Package num's Reader: how it lies in memory, what it takes. Condition: bytes no longer than a thousand million.
  Read of package num and its Reader's Byte, Number, Text, ID, Good, Done. Condition: bytes no longer than five hundred million.
-/
import Derived.Test.YtfcgfnmokbbcaaaDoorU005
import Derived.Laws.Cover3
namespace Go.Proofs.YtfcgfnmokbbcaaaDoor.Nm
open Go.RowKit Go.Proofs.YtfcgfnmokbbcaaaDoor Go.Proofs.YtfcgfnmokbbcaaaDoor.Rw

set_option maxRecDepth 100000 in
set_option maxHeartbeats 8000000 in
theorem text_any (s : ByteArray) (w : World) :
    Calls Tryd.prog 51 #[.string s] w fun e w' => (∃ v, e = .returned v ∧ OwnB w' w.heap.size v (textB s)) ∧ Below w.heap.size w w' := by
  by_cases h255 : 255 < s.size
  · have T := Lib.hid (textB_no h255)
    have hd : (255 : Int) < (s.size : Int) := by omega
    go_enter Tryd.func51, Tryd.ntmps51
    go_wp2
    go_ret
    exact ⟨⟨_, rfl, by rw [T.out]; exact own_nil w w.heap.size⟩, Below.refl _ _⟩
  · have T := Lib.hid (textB_ok (s := s) (by omega))
    have hd : (s.size : Int) ≤ 255 := by omega
    have hwr : IntKind.u8.wrap (s.size : Int) = s.size := IntWalk.u8_in _ (by omega)
    have hlit := own_lit1 w (UInt8.ofNat s.size)
    rw [show ((UInt8.ofNat s.size).toNat : Int) = s.size by rw [UInt8.toNat_ofNat']; omega] at hlit
    obtain ⟨v', w', r, o', gr⟩ := appS w.heap.size s hlit (by simp; omega) (by simp) 22
    have B4 := Lib.hid (((Below.refl w.heap.size w).alloc (Nat.le_refl _) (.cells #[.int .u8 s.size] 5)).trans (below_own hlit (by simp) gr))
    have O4 := Lib.hid o'
    clear hlit o' gr
    go_enter Tryd.func51, Tryd.ntmps51
    go_wp2_with (first | (at_builtin; refine wpList_append_run2 rfl _ _ 22 9 rfl rfl rfl r ?_) | fail)
    go_ret
    exact ⟨⟨_, rfl, by rw [T.out]; exact O4.out⟩, B4.out⟩
set_option maxRecDepth 100000 in
set_option maxHeartbeats 8000000 in
theorem id_any (c q : Int) (w : World) :
    Calls Tryd.prog 26 #[.agg #[.int .i64 c, .int .i64 q]] w fun e w' => (∃ v, e = .returned v ∧ OwnB w' w.heap.size v (numB c ++ numB q)) ∧ Below w.heap.size w w' := by
  have B1 := Lib.hid (show Below w.heap.size w (w.alloc (.cells #[.int .i64 c, .int .i64 q] 28)) from (Below.refl _ _).alloc (Nat.le_refl _) _)
  have hs : (w.alloc (.cells #[.int .i64 c, .int .i64 q] 28)).heap.size = w.heap.size + 1 := by simp
  have N := number_any _ [c, q] _ (Row.of_own (row_lit okI (w.alloc (.cells #[.int .i64 c, .int .i64 q] 28)) [c, q] 2 rfl (by simp) #[.int .i64 c, .int .i64 q] rfl)) (by simp)
  have B2 := Lib.hid (B1.out.trans ((((Below.refl _ (w.alloc (.cells #[.int .i64 c, .int .i64 q] 28))).alloc (Nat.le_refl _) (.cells #[.int .i64 c, .int .i64 q] 3))).mono B1.out.size))
  rw [hs] at N
  go_enter Tryd.func26, Tryd.ntmps26
  go_wp2_with fail
  refine N.mono ?_
  rintro e w' ⟨⟨v, rfl, ho⟩, hb⟩
  have B3 := Lib.hid (B2.out.trans (hb.mono B2.out.size))
  have O3 := Lib.hid (own_less (by have := B2.out.size; exact this) ho)
  clear hb ho N
  go_wp2_with fail
  go_ret
  exact ⟨⟨_, rfl, by have h := O3.out; rwa [show numsB [c, q] = numB c ++ numB q by simp [numsB]] at h⟩, B3.out⟩
end Go.Proofs.YtfcgfnmokbbcaaaDoor.Nm

namespace Go.Proofs.YtfcgfnmokbbcaaaDoor.Nm
open Go.RowKit Go.Proofs.YtfcgfnmokbbcaaaDoor Go.Proofs.YtfcgfnmokbbcaaaDoor.Rw

/-- A Reader in memory. -/
def Rd (W : World) (rb : Nat) (s : St) : Prop := ∃ lv, Box W rb #[lv, .bool s.2] 107 ∧ RowB W lv s.1 ∧ s.1.length ≤ 1000000000
theorem Rd.on {W W' : World} {rb : Nat} {s : St} (h : Rd W rb s) (hb : Below W.heap.size W W') : Rd W' rb s := by
  obtain ⟨lv, h1, h2, h3⟩ := h
  exact ⟨lv, h1.on hb, h2.on hb, h3⟩
theorem Rd.lt {W : World} {rb : Nat} {s : St} (h : Rd W rb s) : rb < W.heap.size := by
  obtain ⟨lv, h1, _⟩ := h
  exact h1.lt
/-- A row of bytes lies in no block that holds other things. -/
theorem row_apart {W : World} {rb : Nat} {cs : Array Value} {t : TypeId} {v : Value} {l : List UInt8} (hb : Box W rb cs t) (hcs : ∀ (j : Nat) (n : Int), cs[j]? ≠ some (.int .u8 n)) (h : RowB W v l) {W' : World} (hg : ∀ k, k < W.heap.size → k ≠ rb → W'.heap[k]? = W.heap[k]?) : RowB W' v l := by
  rcases h with h | ⟨a, cap, h1, h2, h3, h4⟩
  · exact Or.inl h
  · refine Or.inr ⟨a, cap, h1, h2, h3, fun j u hj => ?_⟩
    have hc := h4 j u hj
    have hlt := World.block_lt_of_cell? W _ hc
    have hne : (a.add j).block ≠ rb := fun e => by
      rw [flatB, List.getElem?_map] at hj
      cases hx : l[j]? with
      | none => rw [hx] at hj; cases hj
      | some x =>
        rw [hx] at hj
        obtain rfl : Value.int .u8 x.toNat = u := by simpa using hj
        unfold World.cell? at hc
        unfold Box at hb
        rw [e, hb] at hc
        simp only at hc
        split at hc
        · cases hc
        · exact hcs _ _ hc
    rw [World.cell?_of_block (hg _ hlt hne)]
    exact hc
theorem rd_cells (lv : Value) (b : Bool) (hl : ∃ a n c, lv = .slice a n c) : ∀ (j : Nat) (n : Int), (#[lv, .bool b] : Array Value)[j]? ≠ some (.int .u8 n) := by
  obtain ⟨a, n, c, rfl⟩ := hl
  intro j n h
  match j with
  | 0 => simp at h
  | 1 => simp at h
  | j + 2 => simp at h
theorem Rd.apart {W W' : World} {rb : Nat} {s : St} (h : Rd W rb s) {v : Value} {l : List UInt8} (hr : RowB W v l) (hg : W.grownBy W' (some rb)) : RowB W' v l := by
  obtain ⟨lv, h1, h2, _⟩ := h
  obtain ⟨a, c, e⟩ := h2.len
  exact row_apart h1 (rd_cells lv s.2 ⟨a, _, c, e⟩) hr (fun k hk hne => hg.block k hk (fun e => hne (Option.some.inj e)))
theorem Rd.below {W W' : World} {rb B : Nat} {s : St} (h : Rd W rb s) (hB : B ≤ rb) (hg : W.grownBy W' (some rb)) : Below B W W' :=
  (Below.refl B W).grown hg (by have := h.lt; omega) (fun k hk => by cases hk; exact hB)
theorem grown_set (W : World) (rb k : Nat) (x : Value) : W.grownBy (W.setCell ⟨rb, k, none⟩ x) (some rb) :=
  ⟨rfl, rfl, rfl, by simp [World.setCell], fun j _ hne => RowKit.Below.heap_setCell _ _ _ _ (fun e => hne (by rw [e]))⟩
theorem grown_more {W W1 W2 : World} {r : Option Nat} (h1 : W.grownBy W1 r) (h2 : W1.grownBy W2 r) : W.grownBy W2 r :=
  ⟨h2.os.trans h1.os, h2.tape.trans h1.tape, h2.output.trans h1.output, Nat.le_trans h1.size h2.size, fun k hk hne => (h2.block k (Nat.lt_of_lt_of_le hk h1.size) hne).trans (h1.block k hk hne)⟩
theorem box_set {W : World} {rb k : Nat} {cs : Array Value} {t : TypeId} (h : Box W rb cs t) (x : Value) : Box (W.setCell ⟨rb, k, none⟩ x) rb (cs.setIfInBounds k x) t := heap_setCell_same W rb k cs t x h

set_option maxRecDepth 100000 in
set_option maxHeartbeats 8000000 in
theorem take_no (rb n : Nat) (s : St) (w : World) (h : Rd w rb s) (hg : gone n s = true) :
    Calls Tryd.prog 77 #[.pointer (some ⟨rb, 0, none⟩), .int .i64 n] w fun e w' => e = .returned (.tuple #[.slice none 0 0, .bool false]) ∧ Rd w' rb ([], true) ∧ w.grownBy w' (some rb) := by
  obtain ⟨l, b⟩ := s
  obtain ⟨lv, hb, hr, hl⟩ := h
  obtain ⟨ao, ac, rfl⟩ := hr.len
  have HB := Lib.hid hb
  have c0 := hb.cell 0
  have c1 := hb.cell 1
  have f0 := hb.fr 0
  have f1 := hb.fr 1
  have hlt := hb.lt
  simp at c0 c1
  obtain ⟨m, hm⟩ : ∃ m, m = l.length := ⟨_, rfl⟩
  rw [← hm] at c0 HB
  have HG := Lib.hid (show b = true ∨ m < n by unfold gone at hg; rw [hm]; simpa using hg)
  clear hb hr hl hg hm
  have fin : Rd ((w.setCell ⟨rb, 0, none⟩ (.slice none 0 0)).setCell ⟨rb, 1, none⟩ (.bool true)) rb ([], true) := by
    have h2 := box_set (k := 1) (box_set (k := 0) HB.out (.slice none 0 0)) (.bool true)
    exact ⟨.slice none 0 0, h2, row_nil _, by simp⟩
  have gr := grown_more (grown_set w rb 0 (.slice none 0 0)) (grown_set (w.setCell ⟨rb, 0, none⟩ (.slice none 0 0)) rb 1 (.bool true))
  have FIN := Lib.hid fin
  have GR := Lib.hid gr
  clear fin gr
  cases b
  · have hd : (m : Int) < (n : Int) := by
      rcases HG.out with h | h
      · cases h
      · omega
    go_enter Tryd.func77, Tryd.ntmps77
    go_wp2
    go_ret2
    exact ⟨rfl, FIN.out, GR.out⟩
  · go_enter Tryd.func77, Tryd.ntmps77
    go_wp2
    go_ret2
    exact ⟨rfl, FIN.out, GR.out⟩
set_option maxRecDepth 100000 in
set_option maxHeartbeats 8000000 in
theorem take_ok (rb n : Nat) (l : List UInt8) (w : World) (h : Rd w rb (l, false)) (hg : n ≤ l.length) :
    Calls Tryd.prog 77 #[.pointer (some ⟨rb, 0, none⟩), .int .i64 n] w fun e w' => (∃ v, e = .returned (.tuple #[v, .bool true]) ∧ RowB w' v (l.take n)) ∧ Rd w' rb (l.drop n, false) ∧ w.grownBy w' (some rb) := by
  have H := Lib.hid h
  obtain ⟨lv, hb, hr, hl⟩ := h
  obtain ⟨lo, slo, rlo⟩ := row_lo8 hr n hg
  obtain ⟨hi, shi, rhi⟩ := row_hi8 hr n hg
  obtain ⟨ho, hc, rfl⟩ := rhi.len
  obtain ⟨hn, ehn⟩ : ∃ hn, hn = (l.drop n).length := ⟨_, rfl⟩
  rw [← ehn] at shi rhi
  obtain ⟨ao, ac, rfl⟩ := hr.len
  have HB := Lib.hid hb
  have c0 := hb.cell 0
  have c1 := hb.cell 1
  have f0 := hb.fr 0
  have hlt := hb.lt
  simp at c0 c1
  have gr := grown_set w rb 0 (.slice ho hn hc)
  have R1 := Lib.hid (H.out.apart rlo gr)
  have fin : Rd (w.setCell ⟨rb, 0, none⟩ (.slice ho hn hc)) rb (l.drop n, false) := ⟨_, box_set (k := 0) hb (.slice ho hn hc), H.out.apart rhi gr, by simp at hl ⊢; omega⟩
  have FIN := Lib.hid fin
  have GR := Lib.hid gr
  obtain ⟨m, hm⟩ : ∃ m, m = l.length := ⟨_, rfl⟩
  have hd : (n : Int) ≤ (m : Int) := by omega
  have HM := Lib.hid hm
  simp only [← hm] at c0 slo shi
  clear fin gr hb hr hl hm rlo rhi hg ehn
  go_enter Tryd.func77, Tryd.ntmps77
  go_wp2
  go_ret2
  exact ⟨⟨_, rfl, R1.out⟩, FIN.out, GR.out⟩
theorem take_any (rb n : Nat) (s : St) (w : World) (h : Rd w rb s) :
    Calls Tryd.prog 77 #[.pointer (some ⟨rb, 0, none⟩), .int .i64 n] w fun e w' => (∃ v, e = .returned (.tuple #[v, .bool (!gone n s)]) ∧ RowB w' v (takeS n s).1) ∧ Rd w' rb (takeS n s).2 ∧ w.grownBy w' (some rb) := by
  cases hg : gone n s
  · obtain ⟨l, b⟩ := s
    obtain ⟨rfl, h2⟩ : b = false ∧ n ≤ l.length := by unfold gone at hg; simpa using hg
    rw [takeS_ok h2]
    exact take_ok rb n l w h h2
  · have e : takeS n s = ([], ([], true)) := by unfold takeS; rw [hg]; rfl
    rw [e]
    exact (take_no rb n s w h hg).mono fun e w' ⟨h1, h2, h3⟩ => ⟨⟨_, h1, row_nil _⟩, h2, h3⟩
end Go.Proofs.YtfcgfnmokbbcaaaDoor.Nm

namespace Go.Proofs.YtfcgfnmokbbcaaaDoor.Nm
open Go.RowKit Go.Proofs.YtfcgfnmokbbcaaaDoor Go.Proofs.YtfcgfnmokbbcaaaDoor.Rw

theorem nil_eq (a : Option Addr) (n c : Nat) (w : World) : (binOp .eql 22 (.slice a n c) (.slice none 0 0)).run Tryd.prog w = .ok (.bool a.isNone) w := by
  simp [go_sem, binOp, run_equal_slice_nil (P := Tryd.prog) w 22 5 a n c Tryd.underlying22]
set_option maxRecDepth 100000 in
set_option maxHeartbeats 8000000 in
theorem clone_any (v : Value) (l : List UInt8) (w : World) (h : RowB w v l) (hl : l.length ≤ 500000000) :
    Calls Tryd.prog 71 #[v] w fun e w' => (∃ v', e = .returned v' ∧ OwnB w' w.heap.size v' l) ∧ Below w.heap.size w w' := by
  rcases h with ⟨rfl, rfl⟩ | ⟨a, cap, rfl, h1, h2, h3⟩
  · have ne := nil_eq none 0 0 w
    simp only [Option.isNone_none] at ne
    go_enter Tryd.func71, Tryd.ntmps71
    go_wp2
    go_ret
    exact ⟨⟨_, rfl, own_nil w w.heap.size⟩, Below.refl _ _⟩
  · have hx : RowB (w.alloc (.cells #[] 5)) (.slice (some a) l.length cap) l := Row.on (Or.inr ⟨a, cap, rfl, h1, h2, h3⟩) ((Below.refl _ _).alloc (Nat.le_refl _) _)
    have ho : OwnB (w.alloc (.cells #[] 5)) w.heap.size (.slice (some ⟨w.heap.size, 0, none⟩) 0 0) [] := own_made w
    obtain ⟨v', w', r, o', gr⟩ := appB w.heap.size ho hx (by simp; omega) (by simp) 22
    have B4 := Lib.hid (((Below.refl w.heap.size w).alloc (Nat.le_refl _) (.cells #[] 5)).trans (below_own ho (by simp) gr))
    have O4 := Lib.hid o'
    have ne := nil_eq (some a) l.length cap w
    simp only [Option.isNone_some] at ne
    clear h1 h2 h3 hx ho o' gr
    go_enter Tryd.func71, Tryd.ntmps71
    go_wp2_with (first | (at_builtin; refine wpList_append_run rfl _ _ 22 rfl rfl rfl r ?_) | fail)
    go_ret
    exact ⟨⟨_, rfl, by simpa using O4.out⟩, B4.out⟩
set_option maxRecDepth 100000 in
set_option maxHeartbeats 8000000 in
theorem read_any (v : Value) (l : List UInt8) (w : World) (h : RowB w v l) (hl : l.length ≤ 500000000) :
    Calls Tryd.prog 45 #[v] w fun e w' => (∃ rb, e = .returned (.pointer (some ⟨rb, 0, none⟩)) ∧ w.heap.size ≤ rb ∧ Rd w' rb (l, false)) ∧ Below w.heap.size w w' := by
  have C := Lib.hid (clone_any v l w h hl)
  clear h
  go_enter Tryd.func45, Tryd.ntmps45
  go_wp2_with fail
  refine C.out.mono ?_
  rintro e w' ⟨⟨v', rfl, ho⟩, hb⟩
  have hr := Row.of_own ho
  obtain ⟨ao, ac, rfl⟩ := hr.len
  obtain ⟨m, hm⟩ : ∃ m, m = l.length := ⟨_, rfl⟩
  rw [← hm] at hr
  have hs := hb.size
  have FIN := Lib.hid (show Rd (w'.alloc (.cells #[.slice ao m ac, .bool false] 107)) w'.heap.size (l, false) from ⟨_, box_new w' _ _, hr.on ((Below.refl _ _).alloc (Nat.le_refl _) _), by simp; omega⟩)
  have BF := Lib.hid (hb.alloc hs (.cells #[.slice ao m ac, .bool false] 107))
  simp only [← hm]
  clear hr hb ho hm
  go_wp2_with fail
  go_ret
  exact ⟨⟨_, rfl, hs, FIN.out⟩, BF.out⟩
set_option maxRecDepth 100000 in
set_option maxHeartbeats 8000000 in
theorem byte_any (rb : Nat) (s : St) (w : World) (h : Rd w rb s) :
    Calls Tryd.prog 67 #[.pointer (some ⟨rb, 0, none⟩)] w fun e w' => e = .returned (.int .u8 (byteS s).1.toNat) ∧ Rd w' rb (byteS s).2 ∧ w.grownBy w' (some rb) := by
  have T := Lib.hid (take_any rb 1 s w h)
  clear h
  go_enter Tryd.func67, Tryd.ntmps67
  go_wp2_with fail
  refine T.out.mono ?_
  rintro e w' ⟨⟨v, rfl, hr⟩, hd, hg⟩
  have HD := Lib.hid hd
  have HG := Lib.hid hg
  cases hq : gone 1 s
  · have e1 : (takeS 1 s).1 = s.1.take 1 := by unfold takeS; rw [hq]; rfl
    have hlen : 1 ≤ s.1.length := by unfold gone at hq; simp at hq; have := List.length_pos_iff.2 hq.2; omega
    obtain ⟨c, r, hc⟩ : ∃ c r, s.1 = c :: r := by
      cases hs : s.1 with
      | nil => rw [hs] at hlen; simp at hlen
      | cons c r => exact ⟨c, r, rfl⟩
    have e2 : (takeS 1 s).1 = [c] := by rw [e1, hc]; rfl
    rw [e2] at hr
    obtain ⟨ao, ac, rfl⟩ := hr.len
    obtain ⟨p, ix, _, px⟩ := elB (k := 0) hr rfl rfl rfl
    have p0 := px _ (Below.refl _ _)
    have ix0 : ∀ w, (Instr.indexAt 22 (.slice ao [c].length ac) (.int .i64 0)).run Tryd.prog w = .ok (.pointer (some p)) w := ix
    simp only [List.length_singleton] at ix0
    have F := Lib.hid (show (byteS s).1 = c by unfold byteS; rw [e2]; rfl)
    clear T hd hg e1 hlen hc e2 hr px hq ix
    go_wp2_with fail
    go_ret
    exact ⟨by rw [F.out]; rfl, HD.out, HG.out⟩
  · have F := Lib.hid (show (byteS s).1 = 0 by unfold byteS takeS; rw [hq]; rfl)
    clear T hd hg hr hq
    go_wp2_with fail
    go_ret
    exact ⟨by rw [F.out]; rfl, HD.out, HG.out⟩
theorem good_any (rb : Nat) (s : St) (w : World) (h : Rd w rb s) :
    Calls Tryd.prog 79 #[.pointer (some ⟨rb, 0, none⟩)] w fun e w' => e = .returned (.bool (!s.2)) ∧ w = w' := by
  obtain ⟨l, b⟩ := s
  obtain ⟨lv, hb, hr, _⟩ := h
  have c1 := hb.cell 1
  simp at c1
  clear hb hr
  go_enter Tryd.func79, Tryd.ntmps79
  go_wp2
  go_ret
  exact ⟨rfl, rfl⟩
theorem bits_step (l : List UInt8) (x : UInt8) : bits .or .i64 (wrap64 (valN l * 256)) (wrap64 (x.toNat : Int)) = valN (l ++ [x]) := by
  rw [← valN_snoc]
  have h1 : wrap64 (valN l * 256) = IntKind.i64.wrap (valN l * 256) := by rw [IntKind.wrap_i64]; unfold wrap64; omega
  have h2 : wrap64 (x.toNat : Int) = x.toNat := by
    have := x.toNat_lt
    unfold wrap64
    omega
  rw [h1, h2]
  rfl
set_option maxRecDepth 100000 in
set_option maxHeartbeats 8000000 in
theorem num_any (rb : Nat) (s : St) (w : World) (h : Rd w rb s) :
    Calls Tryd.prog 78 #[.pointer (some ⟨rb, 0, none⟩)] w fun e w' => e = .returned (.int .i64 (numS s).1) ∧ Rd w' rb (numS s).2 ∧ w.grownBy w' (some rb) := by
  have T := Lib.hid (take_any rb 8 s w h)
  clear h
  go_enter Tryd.func78, Tryd.ntmps78
  go_wp2_with fail
  refine T.out.mono ?_
  rintro e w' ⟨⟨v, rfl, hr⟩, hd, hg⟩
  have HD := Lib.hid hd
  have HG := Lib.hid hg
  have F := Lib.hid (show (numS s).1 = valN (takeS 8 s).1 from rfl)
  have hle : (takeS 8 s).1.length ≤ 8 := by
    unfold takeS
    split
    · simp
    · simp; omega
  obtain ⟨ao, ac, rfl⟩ := hr.len
  obtain ⟨b, hb⟩ : ∃ b, (!gone 8 s) = b := ⟨_, rfl⟩
  generalize (takeS 8 s).1 = l at *
  obtain ⟨m, hm⟩ : ∃ m, m = l.length := ⟨_, rfl⟩
  have HM := Lib.hid hm
  rw [← hm] at hr hle ⊢
  rw [hb]
  have HR := Lib.hid hr
  clear T hd hg hr hm hb
  go_wp2_with fail
  go_loop [5, 15] (fun n i => ∃ k : Nat, k ≤ m ∧ i = .int .i64 k ∧ n = .int .i64 (valN (l.take k))) (fun _ i => m - (intOf i).toNat)
  case atStart => exact ⟨0, Nat.zero_le _, rfl, by rw [List.take_zero, valN_nil]⟩
  case round =>
    obtain ⟨k, hk, rfl, rfl⟩ := hrel
    by_cases hlt : k < m
    · obtain ⟨x, hx⟩ : ∃ x, l[k]? = some x := ⟨_, List.getElem?_eq_getElem (by rw [← HM.out]; exact hlt)⟩
      obtain ⟨p, ix, _, px⟩ := elB HR.out rfl HM.out.symm hx
      have p0 := px _ (Below.refl _ _)
      have TK := Lib.hid (show bits .or .i64 (wrap64 (valN (l.take k) * 256)) (wrap64 (x.toNat : Int)) = valN (l.take (k + 1)) by rw [bits_step, List.take_add_one, hx]; rfl)
      have hb := valN_bd (l.take k)
      generalize valN (l.take k) = y at *
      clear px hx
      go_wp2
      go_round
      case rel => exact ⟨k + 1, by omega, by go_num, by rw [TK.out]⟩
      case measure => simp [intOf]; omega
    · obtain rfl : k = m := by omega
      rw [List.take_of_length_le (by rw [HM.out]; exact Nat.le_refl _)]
      go_wp2
      go_ret
      exact ⟨by rw [F.out]; rfl, HD.out, HG.out⟩
end Go.Proofs.YtfcgfnmokbbcaaaDoor.Nm
