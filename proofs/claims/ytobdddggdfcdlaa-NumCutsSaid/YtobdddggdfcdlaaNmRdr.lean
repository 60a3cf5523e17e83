/-
  Read of package num and its Reader's Byte, Number, Text, ID, Good, Done. Condition: bytes no longer than five hundred million.
-/
import Derived.Test.YtobdddggdfcdlaaNmRead
import Derived.Laws.Cover3
namespace Go.Proofs.Ytobdddggdfcdlaa.Nm
open Go.RowKit Go.Proofs.Ytobdddggdfcdlaa Go.Proofs.Ytobdddggdfcdlaa.Rw

theorem nil_eq (a : Option Addr) (n c : Nat) (w : World) : (binOp .eql 24 (.slice a n c) (.slice none 0 0)).run Try.prog w = .ok (.bool a.isNone) w := by
  simp [go_sem, binOp, run_equal_slice_nil (P := Try.prog) w 24 5 a n c Try.underlying24]
set_option maxRecDepth 100000 in
set_option maxHeartbeats 8000000 in
theorem clone_any (v : Value) (l : List UInt8) (w : World) (h : RowB w v l) (hl : l.length ≤ 500000000) :
    Calls Try.prog 24 #[v] w fun e w' => (∃ v', e = .returned v' ∧ OwnB w' w.heap.size v' l) ∧ Below w.heap.size w w' := by
  rcases h with ⟨rfl, rfl⟩ | ⟨a, cap, rfl, h1, h2, h3⟩
  · have ne := nil_eq none 0 0 w
    simp only [Option.isNone_none] at ne
    go_enter Try.func24, Try.ntmps24
    go_wp2
    go_ret
    exact ⟨⟨_, rfl, own_nil w w.heap.size⟩, Below.refl _ _⟩
  · have hx : RowB (w.alloc (.cells #[] 5)) (.slice (some a) l.length cap) l := Row.on (Or.inr ⟨a, cap, rfl, h1, h2, h3⟩) ((Below.refl _ _).alloc (Nat.le_refl _) _)
    have ho : OwnB (w.alloc (.cells #[] 5)) w.heap.size (.slice (some ⟨w.heap.size, 0, none⟩) 0 0) [] := own_made w
    obtain ⟨v', w', r, o', gr⟩ := appB w.heap.size ho hx (by simp; omega) (by simp) 24
    have B4 := Lib.hid (((Below.refl w.heap.size w).alloc (Nat.le_refl _) (.cells #[] 5)).trans (below_own ho (by simp) gr))
    have O4 := Lib.hid o'
    have ne := nil_eq (some a) l.length cap w
    simp only [Option.isNone_some] at ne
    clear h1 h2 h3 hx ho o' gr
    go_enter Try.func24, Try.ntmps24
    go_wp2_with (first | (at_builtin; refine wpList_append_run rfl _ _ 24 rfl rfl rfl r ?_) | fail)
    go_ret
    exact ⟨⟨_, rfl, by simpa using O4.out⟩, B4.out⟩
set_option maxRecDepth 100000 in
set_option maxHeartbeats 8000000 in
theorem read_any (v : Value) (l : List UInt8) (w : World) (h : RowB w v l) (hl : l.length ≤ 500000000) :
    Calls Try.prog 8 #[v] w fun e w' => (∃ rb, e = .returned (.pointer (some ⟨rb, 0, none⟩)) ∧ w.heap.size ≤ rb ∧ Rd w' rb (l, false)) ∧ Below w.heap.size w w' := by
  have C := Lib.hid (clone_any v l w h hl)
  clear h
  go_enter Try.func8, Try.ntmps8
  go_wp2_with fail
  refine C.out.mono ?_
  rintro e w' ⟨⟨v', rfl, ho⟩, hb⟩
  have hr := Row.of_own ho
  obtain ⟨ao, ac, rfl⟩ := hr.len
  obtain ⟨m, hm⟩ : ∃ m, m = l.length := ⟨_, rfl⟩
  rw [← hm] at hr
  have hs := hb.size
  have FIN := Lib.hid (show Rd (w'.alloc (.cells #[.slice ao m ac, .bool false] 48)) w'.heap.size (l, false) from ⟨_, box_new w' _ _, hr.on ((Below.refl _ _).alloc (Nat.le_refl _) _), by simp; omega⟩)
  have BF := Lib.hid (hb.alloc hs (.cells #[.slice ao m ac, .bool false] 48))
  simp only [← hm]
  clear hr hb ho hm
  go_wp2_with fail
  go_ret
  exact ⟨⟨_, rfl, hs, FIN.out⟩, BF.out⟩
set_option maxRecDepth 100000 in
set_option maxHeartbeats 8000000 in
theorem byte_any (rb : Nat) (s : St) (w : World) (h : Rd w rb s) :
    Calls Try.prog 17 #[.pointer (some ⟨rb, 0, none⟩)] w fun e w' => e = .returned (.int .u8 (byteS s).1.toNat) ∧ Rd w' rb (byteS s).2 ∧ w.grownBy w' (some rb) := by
  have T := Lib.hid (take_any rb 1 s w h)
  clear h
  go_enter Try.func17, Try.ntmps17
  go_wp2_with fail
  refine T.out.mono ?_
  rintro e w' ⟨⟨v, rfl, hr⟩, hd, hg⟩
  have HD := Lib.hid hd
  have HG := Lib.hid hg
  cases hq : gone 1 s
  · have e1 : (takeS 1 s).1 = s.1.take 1 := by unfold takeS; rw [hq]; rfl
    have hlen : 1 ≤ s.1.length := by unfold gone at hq; simp at hq; have := List.length_pos_iff.2 hq.2; omega
    obtain ⟨c, r, hc⟩ : ∃ c r, s.1 = c :: r := by
      cases hs : s.1 with
      | nil => rw [hs] at hlen; simp at hlen
      | cons c r => exact ⟨c, r, rfl⟩
    have e2 : (takeS 1 s).1 = [c] := by rw [e1, hc]; rfl
    rw [e2] at hr
    obtain ⟨ao, ac, rfl⟩ := hr.len
    obtain ⟨p, ix, _, px⟩ := elB (k := 0) hr rfl rfl rfl
    have p0 := px _ (Below.refl _ _)
    have ix0 : ∀ w, (Instr.indexAt 24 (.slice ao [c].length ac) (.int .i64 0)).run Try.prog w = .ok (.pointer (some p)) w := ix
    simp only [List.length_singleton] at ix0
    have F := Lib.hid (show (byteS s).1 = c by unfold byteS; rw [e2]; rfl)
    clear T hd hg e1 hlen hc e2 hr px hq ix
    go_wp2_with fail
    go_ret
    exact ⟨by rw [F.out]; rfl, HD.out, HG.out⟩
  · have F := Lib.hid (show (byteS s).1 = 0 by unfold byteS takeS; rw [hq]; rfl)
    clear T hd hg hr hq
    go_wp2_with fail
    go_ret
    exact ⟨by rw [F.out]; rfl, HD.out, HG.out⟩
theorem good_any (rb : Nat) (s : St) (w : World) (h : Rd w rb s) :
    Calls Try.prog 13 #[.pointer (some ⟨rb, 0, none⟩)] w fun e w' => e = .returned (.bool (!s.2)) ∧ w = w' := by
  obtain ⟨l, b⟩ := s
  obtain ⟨lv, hb, hr, _⟩ := h
  have c1 := hb.cell 1
  simp at c1
  clear hb hr
  go_enter Try.func13, Try.ntmps13
  go_wp2
  go_ret
  exact ⟨rfl, rfl⟩
set_option maxHeartbeats 8000000 in
theorem done_any (rb : Nat) (s : St) (w : World) (h : Rd w rb s) :
    Calls Try.prog 14 #[.pointer (some ⟨rb, 0, none⟩)] w fun e w' => e = .returned (.bool (doneS s)) ∧ w = w' := by
  have G := Lib.hid (good_any rb s w h)
  obtain ⟨l, b⟩ := s
  obtain ⟨lv, hb, hr, _⟩ := h
  have c0 := hb.cell 0
  obtain ⟨ao, ac, rfl⟩ := hr.len
  simp at c0
  have F := Lib.hid (show doneS (l, b) = (!b && ((l.length : Int) == 0)) by unfold doneS; cases l <;> simp; omega)
  generalize l.length = m at *
  clear hb hr
  cases b
  · go_enter Try.func14, Try.ntmps14
    go_wp2_with fail
    refine G.out.mono ?_
    rintro e w' ⟨rfl, rfl⟩
    go_wp2_with fail
    go_ret
    exact ⟨by rw [F.out]; simp, rfl⟩
  · go_enter Try.func14, Try.ntmps14
    go_wp2_with fail
    refine G.out.mono ?_
    rintro e w' ⟨rfl, rfl⟩
    go_wp2_with fail
    go_ret
    exact ⟨by rw [F.out]; simp, rfl⟩
theorem bits_step (l : List UInt8) (x : UInt8) : bits .or .i64 (wrap64 (valN l * 256)) (wrap64 (x.toNat : Int)) = valN (l ++ [x]) := by
  rw [← valN_snoc]
  have h1 : wrap64 (valN l * 256) = IntKind.i64.wrap (valN l * 256) := by rw [IntKind.wrap_i64]; unfold wrap64; omega
  have h2 : wrap64 (x.toNat : Int) = x.toNat := by
    have := x.toNat_lt
    unfold wrap64
    omega
  rw [h1, h2]
  rfl
set_option maxRecDepth 100000 in
set_option maxHeartbeats 8000000 in
theorem num_any (rb : Nat) (s : St) (w : World) (h : Rd w rb s) :
    Calls Try.prog 16 #[.pointer (some ⟨rb, 0, none⟩)] w fun e w' => e = .returned (.int .i64 (numS s).1) ∧ Rd w' rb (numS s).2 ∧ w.grownBy w' (some rb) := by
  have T := Lib.hid (take_any rb 8 s w h)
  clear h
  go_enter Try.func16, Try.ntmps16
  go_wp2_with fail
  refine T.out.mono ?_
  rintro e w' ⟨⟨v, rfl, hr⟩, hd, hg⟩
  have HD := Lib.hid hd
  have HG := Lib.hid hg
  have F := Lib.hid (show (numS s).1 = valN (takeS 8 s).1 from rfl)
  have hle : (takeS 8 s).1.length ≤ 8 := by
    unfold takeS
    split
    · simp
    · simp; omega
  obtain ⟨ao, ac, rfl⟩ := hr.len
  obtain ⟨b, hb⟩ : ∃ b, (!gone 8 s) = b := ⟨_, rfl⟩
  generalize (takeS 8 s).1 = l at *
  obtain ⟨m, hm⟩ : ∃ m, m = l.length := ⟨_, rfl⟩
  have HM := Lib.hid hm
  rw [← hm] at hr hle ⊢
  rw [hb]
  have HR := Lib.hid hr
  clear T hd hg hr hm hb
  go_wp2_with fail
  go_loop [5, 15] (fun n i => ∃ k : Nat, k ≤ m ∧ i = .int .i64 k ∧ n = .int .i64 (valN (l.take k))) (fun _ i => m - (intOf i).toNat)
  case atStart => exact ⟨0, Nat.zero_le _, rfl, by rw [List.take_zero, valN_nil]⟩
  case round =>
    obtain ⟨k, hk, rfl, rfl⟩ := hrel
    by_cases hlt : k < m
    · obtain ⟨x, hx⟩ : ∃ x, l[k]? = some x := ⟨_, List.getElem?_eq_getElem (by rw [← HM.out]; exact hlt)⟩
      obtain ⟨p, ix, _, px⟩ := elB HR.out rfl HM.out.symm hx
      have p0 := px _ (Below.refl _ _)
      have TK := Lib.hid (show bits .or .i64 (wrap64 (valN (l.take k) * 256)) (wrap64 (x.toNat : Int)) = valN (l.take (k + 1)) by rw [bits_step, List.take_add_one, hx]; rfl)
      have hb := valN_bd (l.take k)
      generalize valN (l.take k) = y at *
      clear px hx
      go_wp2
      go_round
      case rel => exact ⟨k + 1, by omega, by go_num, by rw [TK.out]⟩
      case measure => simp [intOf]; omega
    · obtain rfl : k = m := by omega
      rw [List.take_of_length_le (by rw [HM.out]; exact Nat.le_refl _)]
      go_wp2
      go_ret
      exact ⟨by rw [F.out]; rfl, HD.out, HG.out⟩
end Go.Proofs.Ytobdddggdfcdlaa.Nm
