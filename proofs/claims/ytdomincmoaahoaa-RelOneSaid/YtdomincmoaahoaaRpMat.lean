/-
  Match and Covers of package rel. Condition: right predicates, right publications.
-/
import Derived.Test.YtdomincmoaahoaaRpOf
import Derived.Test.YtdomincmoaahoaaBe
import Derived.Test.YtdomincmoaahoaaBi
import Derived.Test.YtdomincmoaahoaaBf
import Derived.Test.YtdomincmoaahoaaRlRefC
namespace Go.Proofs.Ytdomincmoaahoaa.Rl
open Go.RowKit Go.Sort Go.Proofs.Ytdomincmoaahoaa Go.Proofs.Ytdomincmoaahoaa.Pu Go.Proofs.Ytdomincmoaahoaa.Rw Go.Proofs.Ytdomincmoaahoaa.Pr Go.Proofs.Ytdomincmoaahoaa.Va

def gotC (l : List An) (c : Cn) : Bool := match At.getA l c.1 with
  | some v => holdsK c.2 v
  | none => false
theorem get_find : ∀ (l : List An) (n : ByteArray), At.getA l n = (l.find? fun a => decide (a.1 = n)).map (·.2)
  | [], n => rfl
  | x :: r, n => by
    simp only [At.getA, List.find?_cons]
    by_cases h : x.1 = n
    · simp [h]
    · simp [h, get_find r n]
theorem match_got {p : List Cn} {l : List An} (h : NL l) : matchL p l = p.all (gotC l) := by
  rw [match_get h.nodup]
  congr 1
  funext c
  unfold gotC
  rw [get_find]
  cases l.find? fun a => decide (a.1 = c.1) <;> rfl
theorem all_end {α : Type} (f : α → Bool) (l : List α) (m : Nat) (h : l.length = m) : (l.take m).all f = l.all f := by rw [← h, List.take_length]
set_option maxRecDepth 100000 in
set_option maxHeartbeats 4000000 in
theorem match_any (pv lv : Value) (p : List Cn) (l : List An) (w : World) (hp : RowC w pv (p.map r5)) (hl : RowL w lv l) (np : NF p) (nl : NL l) :
    Calls Try.prog 14 #[pv, lv] w fun e w' => e = .returned (.bool (matchL p l)) ∧ Below w.heap.size w w' := by
  have CO := Lib.hid (match_got (p := p) nl)
  have HP := Lib.hid hp
  have HL := Lib.hid (row_EA.2 hl)
  have h5 : l.length ≤ 100 := by have := nl.five; omega
  have SM := Lib.hid np.small
  have m5 : p.length ≤ 5 := np.five
  obtain ⟨ao, ac, rfl⟩ := hp.len
  rw [List.length_map] at HP ⊢
  generalize hm : p.length = m at *
  have HM := Lib.hid hm
  generalize matchL p l = r at *
  clear hp hl hm np nl
  go_enter Try.func14, Try.ntmps14
  go_wp2
  go_loopw [11] (fun i wr => ∃ k : Nat, k ≤ m ∧ i = .int .i64 k ∧ Below w.heap.size w wr ∧ (p.take k).all (gotC l) = true) (fun i _ => m - (intOf i).toNat)
  case atStart => exact ⟨0, Nat.zero_le _, rfl, Below.refl _ _, rfl⟩
  case round =>
    obtain ⟨k, hk, rfl, hb, hall⟩ := hrel
    have HB := Lib.hid hb
    have AL := Lib.hid hall
    clear hb hall
    by_cases hlt : k < m
    · obtain ⟨⟨xn, xk⟩, hx⟩ : ∃ x, p[k]? = some x := ⟨_, List.getElem?_eq_getElem (by rw [HM.out]; exact hlt)⟩
      obtain ⟨q, ix, px⟩ := elC (x := r5 (xn, xk)) HP.out rfl (by rw [List.length_map]; exact HM.out) (by rw [List.getElem?_map, hx]; rfl)
      obtain ⟨p0, p1, p2, p3, p4⟩ := px _ HB.out
      have MO := Lib.hid (all_more (gotC l) p k (xn, xk) hx)
      have NO := Lib.hid (fun h => all_not (gotC l) p k (xn, xk) hx h)
      have SX := Lib.hid (SM.out _ (List.mem_of_getElem? hx))
      have BX := Lib.hid (show Box (wr.alloc (.cells #[.string xn, .int .i64 (kN xk), .int .i64 (kLo xk), .int .i64 (kHi xk), .string (kT xk)] 23)) wr.heap.size (cells5 (xn, kN xk, kLo xk, kHi xk, kT xk)).toArray 23 from box_new wr _ _)
      have B1 := Lib.hid (HB.out.alloc HB.out.size (.cells #[.string xn, .int .i64 (kN xk), .int .i64 (kLo xk), .int .i64 (kHi xk), .string (kT xk)] 23))
      have G := Lib.hid (At.getOk lv l xn (wr.alloc (.cells #[.string xn, .int .i64 (kN xk), .int .i64 (kLo xk), .int .i64 (kHi xk), .string (kT xk)] 23)) (HL.out.on B1.out) h5 (by have : xn.size ≤ 100 := SX.out.1; unfold maxLen; omega))
      have GC := Lib.hid (show gotC l (xn, xk) = match At.getA l xn with
        | some v => holdsK xk v
        | none => false from rfl)
      have HO := Lib.hid (fun t n s W => holds_any (xn, xk) t n s W)
      obtain ⟨gg, hgg⟩ : ∃ g, gotC l (xn, xk) = g := ⟨_, rfl⟩
      rw [hgg] at GC MO NO
      simp only [r5] at p0 p1 p2 p3 p4 HO
      clear hx px hgg
      go_wp2_with fail
      refine G.out.mono ?_
      rintro e2 w2 ⟨he2, hb2⟩
      have B2 := Lib.hid (B1.out.trans (hb2.mono B1.out.size))
      obtain ⟨x0, x1, x2, x3, x4⟩ := box_five (BX.out.on hb2)
      simp only at x0 x1 x2 x3 x4
      have hwl : wr.heap.size < w2.heap.size := by have := hb2.size; simp at this; omega
      rcases hg : At.getA l xn with _ | ⟨t, n, s⟩
      · rw [hg] at he2 GC
        subst he2
        have R := Lib.hid (show r = false by rw [CO.out]; exact NO.out GC.out)
        clear hb2 G B1 BX ix p0 p1 p2 p3 p4 hg
        unfold At.gotV
        go_wp2
        go_ret
        exact ⟨ret_bool R.out.symm, B2.out.alloc B2.out.size _⟩
      · rw [hg] at he2 GC
        subst he2
        clear hb2 G B1 BX ix p0 p1 p2 p3 p4 hg
        unfold At.gotV
        go_wp2_with fail
        refine (HO.out _ _ _ _).mono ?_
        rintro e3 w3 ⟨rfl, hb3⟩
        have B3 := Lib.hid ((B2.out.alloc B2.out.size (.cells #[.bool t, .int .i64 n, .string s] 45)).trans (hb3.mono (B2.out.alloc B2.out.size (.cells #[.bool t, .int .i64 n, .string s] 45)).size))
        rw [← GC.out]
        clear hb3 B2 x0 x1 x2 x3 x4 hwl
        cases gg
        · have R := Lib.hid (show r = false by rw [CO.out]; exact NO.out rfl)
          go_wp2
          go_ret
          exact ⟨ret_bool R.out.symm, B3.out⟩
        · go_wp2
          go_roundw
          case rel => exact ⟨k + 1, by omega, by go_num, B3.out, by rw [MO.out, AL.out]; rfl⟩
          case measure => simp [intOf]; omega
    · obtain rfl : k = m := by omega
      have R := Lib.hid (show r = true by rw [CO.out, ← all_end _ p _ HM.out]; exact AL.out)
      go_wp2
      go_ret
      exact ⟨ret_bool R.out.symm, HB.out⟩
set_option maxRecDepth 100000 in
set_option maxHeartbeats 4000000 in
theorem covers_any (pv qv : Value) (p b : List Cn) (w : World) (hp : RowC w pv (p.map r5)) (hl : RowC w qv (b.map r5)) (np : NF p) (nb : NF b) :
    Calls Try.prog 11 #[pv, qv] w fun e w' => e = .returned (.bool (coversL p b)) ∧ Below w.heap.size w w' := by
  have CO := Lib.hid (covers_of (a := p) nb.rise)
  have HP := Lib.hid hp
  have HL := Lib.hid hl
  have h5 : b.length ≤ 100 := by have := nb.five; omega
  have GP := Lib.hid np.goodK
  have GB := Lib.hid nb.goodK
  have m5 : p.length ≤ 5 := np.five
  obtain ⟨ao, ac, rfl⟩ := hp.len
  rw [List.length_map] at HP ⊢
  generalize hm : p.length = m at *
  have HM := Lib.hid hm
  generalize coversL p b = r at *
  clear hp hl hm np nb
  go_enter Try.func11, Try.ntmps11
  go_wp2
  go_loopw [11] (fun i wr => ∃ k : Nat, k ≤ m ∧ i = .int .i64 k ∧ Below w.heap.size w wr ∧ (p.take k).all (covO b) = true) (fun i _ => m - (intOf i).toNat)
  case atStart => exact ⟨0, Nat.zero_le _, rfl, Below.refl _ _, rfl⟩
  case round =>
    obtain ⟨k, hk, rfl, hb, hall⟩ := hrel
    have HB := Lib.hid hb
    have AL := Lib.hid hall
    clear hb hall
    by_cases hlt : k < m
    · obtain ⟨⟨xn, xk⟩, hx⟩ : ∃ x, p[k]? = some x := ⟨_, List.getElem?_eq_getElem (by rw [HM.out]; exact hlt)⟩
      obtain ⟨q, ix, px⟩ := elC (x := r5 (xn, xk)) HP.out rfl (by rw [List.length_map]; exact HM.out) (by rw [List.getElem?_map, hx]; rfl)
      obtain ⟨p0, p1, p2, p3, p4⟩ := px _ HB.out
      have MO := Lib.hid (all_more (covO b) p k (xn, xk) hx)
      have NO := Lib.hid (fun h => all_not (covO b) p k (xn, xk) hx h)
      have GX := Lib.hid (GP.out _ (List.mem_of_getElem? hx))
      have BX := Lib.hid (show Box (wr.alloc (.cells #[.string xn, .int .i64 (kN xk), .int .i64 (kLo xk), .int .i64 (kHi xk), .string (kT xk)] 23)) wr.heap.size (cells5 (xn, kN xk, kLo xk, kHi xk, kT xk)).toArray 23 from box_new wr _ _)
      have B1 := Lib.hid (HB.out.alloc HB.out.size (.cells #[.string xn, .int .i64 (kN xk), .int .i64 (kLo xk), .int .i64 (kHi xk), .string (kT xk)] 23))
      have G := Lib.hid (of_any qv b xn (wr.alloc (.cells #[.string xn, .int .i64 (kN xk), .int .i64 (kLo xk), .int .i64 (kHi xk), .string (kT xk)] 23)) (HL.out.on B1.out) h5)
      have GC := Lib.hid (show covO b (xn, xk) = match ofC b xn with
        | some y => impliesK y.2 xk
        | none => false from rfl)
      obtain ⟨gg, hgg⟩ : ∃ g, covO b (xn, xk) = g := ⟨_, rfl⟩
      rw [hgg] at GC MO NO
      simp only [r5] at p0 p1 p2 p3 p4
      clear hx px hgg
      go_wp2_with fail
      refine G.out.mono ?_
      rintro e2 w2 ⟨he2, hb2⟩
      have B2 := Lib.hid (B1.out.trans (hb2.mono B1.out.size))
      obtain ⟨x0, x1, x2, x3, x4⟩ := box_five (BX.out.on hb2)
      simp only at x0 x1 x2 x3 x4
      have hwl : wr.heap.size < w2.heap.size := by have := hb2.size; simp at this; omega
      rcases hg : ofC b xn with _ | ⟨yn, yk⟩
      · rw [hg] at he2 GC
        subst he2
        have R := Lib.hid (show r = false by rw [CO.out]; exact NO.out GC.out)
        clear hb2 G B1 BX ix p0 p1 p2 p3 p4 hg
        unfold ofV
        go_wp2
        go_ret
        exact ⟨ret_bool R.out.symm, B2.out.alloc B2.out.size _⟩
      · obtain ⟨hm1, hm2⟩ := of_mem hg
        obtain rfl : yn = xn := hm2
        rw [hg] at he2 GC
        subst he2
        have WC := Lib.hid (fun W => wider_any yn xk yk W GX.out (GB.out _ hm1))
        simp only [r5] at WC
        clear hb2 G B1 BX ix p0 p1 p2 p3 p4 hg hm1
        unfold ofV
        simp only [r5]
        go_wp2_with fail
        refine (WC.out _).mono ?_
        rintro e3 w3 ⟨rfl, hb3⟩
        have B3 := Lib.hid ((B2.out.alloc B2.out.size (.cells #[.string yn, .int .i64 (kN yk), .int .i64 (kLo yk), .int .i64 (kHi yk), .string (kT yk)] 23)).trans (hb3.mono (B2.out.alloc B2.out.size (.cells #[.string yn, .int .i64 (kN yk), .int .i64 (kLo yk), .int .i64 (kHi yk), .string (kT yk)] 23)).size))
        rw [← GC.out]
        clear hb3 B2 x0 x1 x2 x3 x4 hwl WC
        cases gg
        · have R := Lib.hid (show r = false by rw [CO.out]; exact NO.out rfl)
          go_wp2
          go_ret
          exact ⟨ret_bool R.out.symm, B3.out⟩
        · go_wp2
          go_roundw
          case rel => exact ⟨k + 1, by omega, by go_num, B3.out, by rw [MO.out, AL.out]; rfl⟩
          case measure => simp [intOf]; omega
    · obtain rfl : k = m := by omega
      have R := Lib.hid (show r = true by rw [CO.out, ← all_end _ p _ HM.out]; exact AL.out)
      go_wp2
      go_ret
      exact ⟨ret_bool R.out.symm, HB.out⟩
end Go.Proofs.Ytdomincmoaahoaa.Rl
