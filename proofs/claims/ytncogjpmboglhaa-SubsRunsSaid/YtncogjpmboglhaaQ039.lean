/-
  The contracts wanted of package rel.
  Match and Covers of package rel. Condition: right predicates, right publications.
  copyEntry of package subs: the same in new memory. Condition: at most 900 constraints.
  slices.Insert of one entry into a row of one's own, as package subs calls it. Condition: at most 900 of them.
  A region that draws its order, in which one value is stored into a variable that was there before; some operations may come behind the store. Of each other value something is known till its last use, which holds on as memory grows. No condition beyond what the theorem states.
  New of package adverts. Condition: at most 900 neighbours told.
-/
import Derived.Test.YtncogjpmboglhaaQ014
import Derived.Test.YtncogjpmboglhaaQ017
import Derived.Test.YtncogjpmboglhaaQ015
import Derived.Test.YtncogjpmboglhaaQ013
import Derived.Test.YtncogjpmboglhaaQ007
import Derived.Laws.Externs
import Derived.Lib.Hide
import Derived.Lib.QuietBelow
import Derived.BigQuiet
namespace Go.Proofs.Ytncogjpmboglhaa.Rl
open Go.RowKit Go.Proofs.Ytncogjpmboglhaa Go.Proofs.Ytncogjpmboglhaa.Pu Go.Proofs.Ytncogjpmboglhaa.Rw Go.Proofs.Ytncogjpmboglhaa.Pr

end Go.Proofs.Ytncogjpmboglhaa.Rl

namespace Go.Proofs.Ytncogjpmboglhaa.Rl
open Go.RowKit Go.Sort Go.Proofs.Ytncogjpmboglhaa Go.Proofs.Ytncogjpmboglhaa.Pu Go.Proofs.Ytncogjpmboglhaa.Rw Go.Proofs.Ytncogjpmboglhaa.Pr Go.Proofs.Ytncogjpmboglhaa.Va

theorem all_end {α : Type} (f : α → Bool) (l : List α) (m : Nat) (h : l.length = m) : (l.take m).all f = l.all f := by rw [← h, List.take_length]
set_option maxRecDepth 100000 in
set_option maxHeartbeats 4000000 in
theorem covers_any (pv qv : Value) (p b : List Cn) (w : World) (hp : RowC w pv (p.map r5)) (hl : RowC w qv (b.map r5)) (np : NF p) (nb : NF b) :
    Calls Try.prog 17 #[pv, qv] w fun e w' => e = .returned (.bool (coversL p b)) ∧ Below w.heap.size w w' := by
  have CO := Lib.hid (covers_of (a := p) nb.rise)
  have HP := Lib.hid hp
  have HL := Lib.hid hl
  have h5 : b.length ≤ 100 := by have := nb.five; omega
  have GP := Lib.hid np.goodK
  have GB := Lib.hid nb.goodK
  have m5 : p.length ≤ 5 := np.five
  obtain ⟨ao, ac, rfl⟩ := hp.len
  rw [List.length_map] at HP ⊢
  generalize hm : p.length = m at *
  have HM := Lib.hid hm
  generalize coversL p b = r at *
  clear hp hl hm np nb
  go_enter Try.func17, Try.ntmps17
  go_wp2
  go_loopw [11] (fun i wr => ∃ k : Nat, k ≤ m ∧ i = .int .i64 k ∧ Below w.heap.size w wr ∧ (p.take k).all (covO b) = true) (fun i _ => m - (intOf i).toNat)
  case atStart => exact ⟨0, Nat.zero_le _, rfl, Below.refl _ _, rfl⟩
  case round =>
    obtain ⟨k, hk, rfl, hb, hall⟩ := hrel
    have HB := Lib.hid hb
    have AL := Lib.hid hall
    clear hb hall
    by_cases hlt : k < m
    · obtain ⟨⟨xn, xk⟩, hx⟩ : ∃ x, p[k]? = some x := ⟨_, List.getElem?_eq_getElem (by rw [HM.out]; exact hlt)⟩
      obtain ⟨q, ix, px⟩ := elC (x := r5 (xn, xk)) HP.out rfl (by rw [List.length_map]; exact HM.out) (by rw [List.getElem?_map, hx]; rfl)
      obtain ⟨p0, p1, p2, p3, p4⟩ := px _ HB.out
      have MO := Lib.hid (all_more (covO b) p k (xn, xk) hx)
      have NO := Lib.hid (fun h => all_not (covO b) p k (xn, xk) hx h)
      have GX := Lib.hid (GP.out _ (List.mem_of_getElem? hx))
      have BX := Lib.hid (show Box (wr.alloc (.cells #[.string xn, .int .i64 (kN xk), .int .i64 (kLo xk), .int .i64 (kHi xk), .string (kT xk)] 26)) wr.heap.size (cells5 (xn, kN xk, kLo xk, kHi xk, kT xk)).toArray 26 from box_new wr _ _)
      have B1 := Lib.hid (HB.out.alloc HB.out.size (.cells #[.string xn, .int .i64 (kN xk), .int .i64 (kLo xk), .int .i64 (kHi xk), .string (kT xk)] 26))
      have G := Lib.hid (of_any qv b xn (wr.alloc (.cells #[.string xn, .int .i64 (kN xk), .int .i64 (kLo xk), .int .i64 (kHi xk), .string (kT xk)] 26)) (HL.out.on B1.out) h5)
      have GC := Lib.hid (show covO b (xn, xk) = match ofC b xn with
        | some y => impliesK y.2 xk
        | none => false from rfl)
      obtain ⟨gg, hgg⟩ : ∃ g, covO b (xn, xk) = g := ⟨_, rfl⟩
      rw [hgg] at GC MO NO
      simp only [r5] at p0 p1 p2 p3 p4
      clear hx px hgg
      go_wp2_with fail
      refine G.out.mono ?_
      rintro e2 w2 ⟨he2, hb2⟩
      have B2 := Lib.hid (B1.out.trans (hb2.mono B1.out.size))
      obtain ⟨x0, x1, x2, x3, x4⟩ := box_five (BX.out.on hb2)
      simp only at x0 x1 x2 x3 x4
      have hwl : wr.heap.size < w2.heap.size := by have := hb2.size; simp at this; omega
      rcases hg : ofC b xn with _ | ⟨yn, yk⟩
      · rw [hg] at he2 GC
        subst he2
        have R := Lib.hid (show r = false by rw [CO.out]; exact NO.out GC.out)
        clear hb2 G B1 BX ix p0 p1 p2 p3 p4 hg
        unfold ofV
        go_wp2
        go_ret
        exact ⟨ret_bool R.out.symm, B2.out.alloc B2.out.size _⟩
      · obtain ⟨hm1, hm2⟩ := of_mem hg
        obtain rfl : yn = xn := hm2
        rw [hg] at he2 GC
        subst he2
        have WC := Lib.hid (fun W => wider_any yn xk yk W GX.out (GB.out _ hm1))
        simp only [r5] at WC
        clear hb2 G B1 BX ix p0 p1 p2 p3 p4 hg hm1
        unfold ofV
        simp only [r5]
        go_wp2_with fail
        refine (WC.out _).mono ?_
        rintro e3 w3 ⟨rfl, hb3⟩
        have B3 := Lib.hid ((B2.out.alloc B2.out.size (.cells #[.string yn, .int .i64 (kN yk), .int .i64 (kLo yk), .int .i64 (kHi yk), .string (kT yk)] 26)).trans (hb3.mono (B2.out.alloc B2.out.size (.cells #[.string yn, .int .i64 (kN yk), .int .i64 (kLo yk), .int .i64 (kHi yk), .string (kT yk)] 26)).size))
        rw [← GC.out]
        clear hb3 B2 x0 x1 x2 x3 x4 hwl WC
        cases gg
        · have R := Lib.hid (show r = false by rw [CO.out]; exact NO.out rfl)
          go_wp2
          go_ret
          exact ⟨ret_bool R.out.symm, B3.out⟩
        · go_wp2
          go_roundw
          case rel => exact ⟨k + 1, by omega, by go_num, B3.out, by rw [MO.out, AL.out]; rfl⟩
          case measure => simp [intOf]; omega
    · obtain rfl : k = m := by omega
      have R := Lib.hid (show r = true by rw [CO.out, ← all_end _ p _ HM.out]; exact AL.out)
      go_wp2
      go_ret
      exact ⟨ret_bool R.out.symm, HB.out⟩
end Go.Proofs.Ytncogjpmboglhaa.Rl

namespace Go.Proofs.Ytncogjpmboglhaa.Sb
open Go.RowKit Go.Sort Go.Proofs.Ytncogjpmboglhaa Go.Proofs.Ytncogjpmboglhaa.Rw Go.Proofs.Ytncogjpmboglhaa.Nm Go.Proofs.Ytncogjpmboglhaa.Pr Go.Proofs.Ytncogjpmboglhaa.Bk Go.Proofs.Ytncogjpmboglhaa.Av

/-- Seven stores of an entry. -/
abbrev setE (W : World) (b : Nat) (a0 a1 a2 a3 a4 a5 a6 : Value) : World := ((((((W.setCell ⟨b, 0, none⟩ a0).setCell ⟨b, 1, none⟩ a1).setCell ⟨b, 2, none⟩ a2).setCell ⟨b, 3, none⟩ a3).setCell ⟨b, 4, none⟩ a4).setCell ⟨b, 5, none⟩ a5).setCell ⟨b, 6, none⟩ a6
theorem setE_box {W : World} {b : Nat} {t : TypeId} {z0 z1 z2 z3 z4 z5 z6 : Value} (h : Box W b #[z0, z1, z2, z3, z4, z5, z6] t) (a0 a1 a2 a3 a4 a5 a6 : Value) : Box (setE W b a0 a1 a2 a3 a4 a5 a6) b #[a0, a1, a2, a3, a4, a5, a6] t := by
  have h2 := box_set (k := 6) (box_set (k := 5) (box_set (k := 4) (box_set (k := 3) (box_set (k := 2) (box_set (k := 1) (box_set (k := 0) h a0) a1) a2) a3) a4) a5) a6
  simpa using h2
theorem setE_below {B : Nat} {W0 W : World} {b : Nat} (h : Below B W0 W) (hb : B ≤ b) (a0 a1 a2 a3 a4 a5 a6 : Value) : Below B W0 (setE W b a0 a1 a2 a3 a4 a5 a6) := (((((((h).setCell (p := ⟨b, 0, none⟩) hb a0).setCell (p := ⟨b, 1, none⟩) hb a1).setCell (p := ⟨b, 2, none⟩) hb a2).setCell (p := ⟨b, 3, none⟩) hb a3).setCell (p := ⟨b, 4, none⟩) hb a4).setCell (p := ⟨b, 5, none⟩) hb a5).setCell (p := ⟨b, 6, none⟩) hb a6
theorem setE_own {α : Type} {E : Ek α} {W : World} {B : Nat} {v : Value} {l : List α} (h : Own E W B v l) (b : Nat) (hb : b < B) (a0 a1 a2 a3 a4 a5 a6 : Value) : Own E (setE W b a0 a1 a2 a3 a4 a5 a6) B v l :=
  own_cell (own_cell (own_cell (own_cell (own_cell (own_cell (own_cell (h) b 0 a0 hb) b 1 a1 hb) b 2 a2 hb) b 3 a3 hb) b 4 a4 hb) b 5 a5 hb) b 6 a6 hb
theorem but_setE (w : World) (b : Nat) (a0 a1 a2 a3 a4 a5 a6 : Value) : But b w (setE w b a0 a1 a2 a3 a4 a5 a6) :=
  ((((((but_cell _ b _ _).trans (but_cell _ b _ _)).trans (but_cell _ b _ _)).trans (but_cell _ b _ _)).trans (but_cell _ b _ _)).trans (but_cell _ b _ _)).trans (but_cell _ b _ _)
set_option maxRecDepth 100000 in
set_option maxHeartbeats 8000000 in
theorem cpE_any (x : XEn) (p : List C5) (w : World) (hp : RowC w (slv x.2.2.2.2.1) p) (hl : p.length ≤ 900) :
    Calls Try.prog 31 #[valN x] w fun e w' => (∃ v' : Sl, e = .returned (valN (x.1, x.2.1, x.2.2.1, x.2.2.2.1, v', x.2.2.2.2.2.1, x.2.2.2.2.2.2)) ∧ OwnC w' w.heap.size (slv v') p) ∧ Below w.heap.size w w' := by
  obtain ⟨y1, y2, y3, y4, ⟨s1, s2, s3⟩, y6, y7⟩ := x
  obtain ⟨h0, X, Y⟩ := two_new w #[.int .i64 y1, .int .i64 y2, .int .i64 y3, .int .i64 y4, .slice s1 s2 s3, .int .i64 y6, .bool y7] #[.int .i64 0, .int .i64 0, .int .i64 0, .int .i64 0, .slice none 0 0, .int .i64 0, .bool false] 42 42
  have C := Lib.hid (cloneC_any (s1, s2, s3) p _ (hp.on h0) hl)
  have B := Lib.hid h0
  have x4 := X.cell 4
  simp only [List.getElem?_toArray, List.getElem?_cons_zero, List.getElem?_cons_succ] at x4
  have X := Lib.hid X
  have Y := Lib.hid Y
  clear h0 hp hl
  go_enter Try.func31, Try.ntmps31
  go_wp2_with fail
  generalize (w.alloc (.cells #[.int .i64 y1, .int .i64 y2, .int .i64 y3, .int .i64 y4, .slice s1 s2 s3, .int .i64 y6, .bool y7] 42)).alloc (.cells #[.int .i64 0, .int .i64 0, .int .i64 0, .int .i64 0, .slice none 0 0, .int .i64 0, .bool false] 42) = W at *
  refine C.out.mono ?_
  rintro e w1 ⟨⟨⟨u1, u2, u3⟩, rfl, ho⟩, hb⟩
  have X1 := X.out.on hb
  have Y1 := Y.out.on hb
  have hs : w.heap.size < W.heap.size := X.out.lt
  have O1 := Lib.hid (own_cell ho w.heap.size 4 (.slice u1 u2 u3) hs)
  have XB := Lib.hid (show Box _ _ #[.int .i64 y1, .int .i64 y2, .int .i64 y3, .int .i64 y4, .slice u1 u2 u3, .int .i64 y6, .bool y7] _ from by simpa using box_set (k := 4) X1 (.slice u1 u2 u3))
  have YB := Lib.hid (show Box _ _ _ _ from (RowKit.Below.heap_setCell w1 ⟨w.heap.size, 4, none⟩ (.slice u1 u2 u3) _ (show w.heap.size + 1 ≠ w.heap.size by omega)).trans Y1)
  have B1 := Lib.hid ((B.out.trans (hb.mono B.out.size)).setCell (p := ⟨w.heap.size, 4, none⟩) (Nat.le_refl _) (.slice u1 u2 u3))
  have y4' := X1.cell 4
  have f4 := X1.fr 4
  have z4 := X1.lt
  simp only [List.getElem?_toArray, List.getElem?_cons_zero, List.getElem?_cons_succ] at y4'
  clear X1 Y1 ho hb x4 C
  go_upto_region 2 with fail
  clear y4' f4 z4
  generalize w1.setCell ⟨w.heap.size, 4, none⟩ (.slice u1 u2 u3) = w2 at *
  have x0 := XB.out.cell 0
  have x1 := XB.out.cell 1
  have x2 := XB.out.cell 2
  have x3 := XB.out.cell 3
  have x4 := XB.out.cell 4
  have x5 := XB.out.cell 5
  have x6 := XB.out.cell 6
  have r0 := YB.out.cell 0
  have r1 := YB.out.cell 1
  have r2 := YB.out.cell 2
  have r3 := YB.out.cell 3
  have r4 := YB.out.cell 4
  have r5 := YB.out.cell 5
  have r6 := YB.out.cell 6
  have t0 := YB.out.fr 0
  have t1 := YB.out.fr 1
  have t2 := YB.out.fr 2
  have t3 := YB.out.fr 3
  have t4 := YB.out.fr 4
  have t5 := YB.out.fr 5
  have t6 := YB.out.fr 6
  simp only [List.getElem?_toArray, List.getElem?_cons_zero, List.getElem?_cons_succ] at x0 x1 x2 x3 x4 x5 x6 r0 r1 r2 r3 r4 r5 r6
  have zz := YB.out.lt
  have hs2 : w.heap.size + 1 < W.heap.size := Y.out.lt
  have FB := Lib.hid (setE_box YB.out (.int .i64 y1) (.int .i64 y2) (.int .i64 y3) (.int .i64 y4) (.slice u1 u2 u3) (.int .i64 y6) (.bool y7))
  have BL := Lib.hid (setE_below (b := w.heap.size + 1) B1.out (by omega) (.int .i64 y1) (.int .i64 y2) (.int .i64 y3) (.int .i64 y4) (.slice u1 u2 u3) (.int .i64 y6) (.bool y7))
  have FO := Lib.hid (setE_own O1.out (w.heap.size + 1) hs2 (.int .i64 y1) (.int .i64 y2) (.int .i64 y3) (.int .i64 y4) (.slice u1 u2 u3) (.int .i64 y6) (.bool y7))
  have HS := Lib.hid hs
  clear hs hs2
  go_wp2_with fail
  have v0 := FB.out.cell 0
  have v1 := FB.out.cell 1
  have v2 := FB.out.cell 2
  have v3 := FB.out.cell 3
  have v4 := FB.out.cell 4
  have v5 := FB.out.cell 5
  have v6 := FB.out.cell 6
  simp at v0 v1 v2 v3 v4 v5 v6
  refine bodyPost_ret (v := .agg #[.int .i64 y1, .int .i64 y2, .int .i64 y3, .int .i64 y4, .slice u1 u2 u3, .int .i64 y6, .bool y7]) (by simp [results, Try.results31, go_sem, v0, v1, v2, v3, v4, v5, v6]) rfl ?_
  exact ⟨⟨(u1, u2, u3), rfl, own_fewer FO.out (Nat.le_of_lt HS.out)⟩, BL.out⟩
end Go.Proofs.Ytncogjpmboglhaa.Sb

namespace Go.Proofs.Ytncogjpmboglhaa.Av
open Go.RowKit Go.Proofs.Ytncogjpmboglhaa Go.Proofs.Ytncogjpmboglhaa.Rw Go.Proofs.Ytncogjpmboglhaa.Nm Go.Proofs.Ytncogjpmboglhaa.Pr Go.Proofs.Ytncogjpmboglhaa.Bk

theorem row_boxN {W : World} {b : Nat} {c : XEn} (h : Box W b (cellsN c).toArray 42) : RowN W (.slice (some ⟨b, 0, none⟩) 1 1) [c] :=
  Or.inr ⟨⟨b, 0, none⟩, 1, rfl, by simp, by decide, box_one h (by simp [EN])⟩
def InsQN (B : Nat) (l : List XEn) (k : Nat) (c : XEn) (vv : Value) (W : World) (e : Ending) (w' : World) : Prop := ∃ v', e = .returned v' ∧ OwnN w' B v' (l.take k ++ c :: l.drop k) ∧ Below B W w' ∧ (∀ j, j < W.heap.size → some j ≠ vv.ownBlock → w'.heap[j]? = W.heap[j]?)
set_option maxRecDepth 100000 in
set_option maxHeartbeats 4000000 in
theorem insert_endN (B : Nat) (v : Value) (l : List XEn) (c : XEn) (b : Nat) (W : World) (ho : OwnN W B v l) (hx : Box W b (cellsN c).toArray 42) (hl : l.length ≤ 900) (hB : B ≤ W.heap.size) :
    Calls Try.prog 32 #[v, .int .i64 (l.length : Nat), .slice (some ⟨b, 0, none⟩) 1 1] W (InsQN B l l.length c v W) := by
  obtain ⟨v', w', hr, ho2, hg⟩ := app_row okN B ho (row_boxN hx) (by omega) (by simp) hB 31
  have hr : (Builtin.append_ #[31, 31] 31 #[v, .slice (some ⟨b, 0, none⟩) 1 1]).run Try.prog W = .ok v' w' := hr
  have Q := Lib.hid (show InsQN B l l.length c v W (.returned v') w' from ⟨v', rfl, by rw [List.take_of_length_le (Nat.le_refl _), List.drop_of_length_le (Nat.le_refl _)]; exact ho2, (Below.refl B W).grown hg hB (fun j hj => (ho.lt j hj).1), fun j hj hne => hg.block j hj hne⟩)
  obtain ⟨sx, hs, _⟩ := row_hi okN (Row.of_own ho) l.length (Nat.le_refl _)
  have hs : ∀ w, (Instr.sliceAt 31 v (some (.int .i64 l.length)) none none).run Try.prog w = .ok sx w := hs
  obtain ⟨ao, ac, rfl⟩ := (Row.of_own ho).len
  clear ho ho2 hg
  generalize hn : l.length = n at *
  clear hn
  go_enter Try.func32, Try.ntmps32
  go_wp2_with (first | (at_builtin; refine wpList_append_run rfl _ _ 31 rfl rfl rfl hr ?_) | fail)
  go_ret
  exact Q.out

theorem no_overN (w : World) (g b k la lb cb : Nat) (cur cs : Array Value) (hb : Box w b cs 42) (hg : Box w g cur 42) (hne : b ≠ g) (h0 : 0 < cur.size) : (callFunc 60 #[.slice (some ⟨b, 0, none⟩) la 1, .slice (some ⟨g, k, none⟩) lb cb]).run Try.prog w = .ok (.value (.bool false)) w := by
  rw [run_callFunc_extern Try.func60 (by kernel_rfl) (by kernel_rfl) (by kernel_rfl) (e := Extern.SlicesOverlaps.overlaps #[31, 31] #[4]) (by kernel_rfl),
    Lib.run_overlaps_apart w 31 4 42 Try.underlying31 7 Try.sizeOf42 ⟨b, 0, none⟩ ⟨g, k, none⟩ la 1 lb cb hne 42 42 cs.size cur.size hb.shape hg.shape (by omega) (hb.fr 0) (hb.fr _)]
  rfl
set_option maxRecDepth 100000 in
set_option maxHeartbeats 4000000 in
theorem insert_shiftN (B g n cap : Nat) (cur : Array Value) (l : List XEn) (k : Nat) (c : XEn) (b : Nat) (W : World) (hn : n = l.length) (hBg : B ≤ g) (hg : Box W g cur 42) (hcm : cap ≤ maxLen) (hsz : cur.size = cap * 7) (ht : cur.toList.take (n * 7) = flat EN l) (hx : Box W b (cellsN c).toArray 42) (hne : b ≠ g) (hk : k < n) (hroom : n + 1 ≤ cap) (hl : n ≤ 900) :
    Calls Try.prog 32 #[.slice (some ⟨g, 0, none⟩) n cap, .int .i64 k, .slice (some ⟨b, 0, none⟩) 1 1] W (InsQN B l k c (.slice (some ⟨g, 0, none⟩) n cap) W) := by
  obtain ⟨R1, R2, r1, r2, ow⟩ := shift_mid (E := EN) (l := l) (k := k) (cap := cap) (cur := cur) (cs := (cellsN c).toArray) (c := c) okN (by omega) (by omega) hsz (by rw [← hn]; exact ht) g b hne
  have hov := fun lb cb => no_overN W g b ((k + 1) * 7) 1 lb cb cur (cellsN c).toArray hx hg hne (by omega)
  have s0 := cut_hi (E := EN) okN g k n cap (by omega) (by omega)
  have s1 := slice_lo (E := EN) okN ⟨g, 0, none⟩ (n + 1) n cap (by omega)
  have s2 := cut_hi (E := EN) okN g (k + 1) (n + 1) cap (by omega) (by omega)
  have s3 := cut_hi (E := EN) okN g k (n + 1) cap (by omega) (by omega)
  have q1 := r1 W.drew 3 (n + 1 - (k + 1)) (cap - (k + 1)) (n + 1 - k) (cap - k) hg (by omega)
  have q2 := r2 (W.drew.setRow g R1) 3 (n + 1 - k) (cap - k) (Box.set (show Box W.drew g cur 42 from hg) R1) (Box.other (show Box W.drew b _ 42 from hx) hne R1) rfl (by omega)
  have Q := Lib.hid (show InsQN B l k c (.slice (some ⟨g, 0, none⟩) n cap) W (.returned (.slice (some ⟨g, 0, none⟩) (n + 1) cap)) ((W.drew.setRow g R1).setRow g R2) from ⟨_, rfl, by rw [hn]; exact ow _ B hBg hcm (Box.set (Box.set (show Box W.drew g cur 42 from hg) R1) R2), below_setRow (below_setRow (Below.refl B W).drew hBg _) hBg _, fun j hj hne => (setRow_other _ g j _ (fun e => hne (by rw [e]; rfl))).trans (setRow_other _ g j _ (fun e => hne (by rw [e]; rfl)))⟩)
  clear r1 r2 ow hg ht hx hsz hBg hcm
  change ∀ w, (Instr.sliceAt 31 (.slice (some ⟨g, 0, none⟩) n cap) (some (.int .i64 k)) none none).run Try.prog w = .ok (.slice (some ⟨g, k * 7, none⟩) (n - k) (cap - k)) w at s0
  change ∀ w, (Instr.sliceAt 31 (.slice (some ⟨g, 0, none⟩) n cap) none (some (.int .i64 ((n : Int) + 1))) none).run Try.prog w = .ok (.slice (some ⟨g, 0, none⟩) (n + 1) cap) w at s1
  change ∀ w, (Instr.sliceAt 31 (.slice (some ⟨g, 0, none⟩) (n + 1) cap) (some (.int .i64 ((k : Int) + 1))) none none).run Try.prog w = .ok (.slice (some ⟨g, (k + 1) * 7, none⟩) (n + 1 - (k + 1)) (cap - (k + 1))) w at s2
  change ∀ w, (Instr.sliceAt 31 (.slice (some ⟨g, 0, none⟩) (n + 1) cap) (some (.int .i64 k)) none none).run Try.prog w = .ok (.slice (some ⟨g, k * 7, none⟩) (n + 1 - k) (cap - k)) w at s3
  have e1 : ((k : Int) == (n : Int)) = false := by rw [beq_eq_false_iff_ne]; omega
  have e2 : decide ((cap : Int) < (n : Int) + 1) = false := by simp; omega
  change (Builtin.copy_ #[31, 31] 3 #[.slice (some ⟨g, (k + 1) * 7, none⟩) (n + 1 - (k + 1)) (cap - (k + 1)), .slice (some ⟨g, k * 7, none⟩) (n + 1 - k) (cap - k)]).run Try.prog W.drew = .ok (.int .i64 ((l.length - k : Nat) : Int)) (W.drew.setRow g R1) at q1
  change (Builtin.copy_ #[31, 31] 3 #[.slice (some ⟨g, k * 7, none⟩) (n + 1 - k) (cap - k), .slice (some ⟨b, 0, none⟩) 1 1]).run Try.prog (W.drew.setRow g R1) = .ok (.int .i64 1) ((W.drew.setRow g R1).setRow g R2) at q2
  clear hn
  go_enter Try.func32, Try.ntmps32
  go_wp2_with (first | (simp only [hov]) | fail)
  clear hov s0 s1 s2 s3
  have hw1 : IntKind.i64.wrap ((k : Int) + 1) = (k : Int) + 1 := by rw [IntKind.wrap_i64]; omega
  have hb1 : (0 : Int) ≤ (k : Int) + 1 := by omega
  have hb0 : (k : Int) + 1 ≤ (n : Int) + 1 := by omega
  have htn : ((k : Int) + 1).toNat = k + 1 := by omega
  have hb2 : ¬ (cap = k + 1) := by omega
  have hb3 : (k : Int) ≤ (n : Int) + 1 := by omega
  have hb4 : ¬ (cap = k) := by omega
  have h81 : n + 1 - (k + 1) = n - k := by omega
  rw [h81] at q1
  clear h81
  go_region_law (refine step_copy_run rfl (.tmp 73) (.tmp 76) 31 rfl (v := .slice (some ⟨g, (k + 1) * 7, none⟩) (n - k) (cap - (k + 1))) (xv := .slice (some ⟨g, k * 7, none⟩) (n + 1 - k) (cap - k)) (by simp [Act.eval, Act.put]) (by simp [Act.eval, Act.put]) q1 ?_)
  all_goals simp only [Exit.then]
  all_goals apply_assumption
  clear q1 hw1 hb1 hb0 htn hb2 hb3 hb4
  have s3 := cut_hi (E := EN) okN g k (n + 1) cap (by omega) (by omega)
  change ∀ w, (Instr.sliceAt 31 (.slice (some ⟨g, 0, none⟩) (n + 1) cap) (some (.int .i64 k)) none none).run Try.prog w = .ok (.slice (some ⟨g, k * 7, none⟩) (n + 1 - k) (cap - k)) w at s3
  go_wp2_with (first | (at_builtin; refine wpList_copy_run rfl _ _ 31 rfl rfl rfl q2 ?_) | fail)
  go_ret
  exact Q.out
set_option maxRecDepth 100000 in
set_option maxHeartbeats 4000000 in
theorem insert_growN (B g n cap : Nat) (cur : Array Value) (l : List XEn) (k : Nat) (c : XEn) (b : Nat) (W : World) (hn : n = l.length) (hg : Box W g cur 42) (hcm : cap ≤ maxLen) (hnc : n ≤ cap) (ht : cur.toList.take (n * 7) = flat EN l) (hx : Box W b (cellsN c).toArray 42) (hk : k < n) (hroom : cap < n + 1) (hl : n ≤ 900) (hB : B ≤ W.heap.size) :
    Calls Try.prog 32 #[.slice (some ⟨g, 0, none⟩) n cap, .int .i64 k, .slice (some ⟨b, 0, none⟩) 1 1] W (InsQN B l k c (.slice (some ⟨g, 0, none⟩) n cap) W) := by
  have hgw := hg.lt
  have hbw := hx.lt
  obtain ⟨G, R1, R2, R3, hG1, hG2, r1, r2, r3, ow⟩ := grow_mid (E := EN) (l := l) (k := k) (cap := cap) (cur := cur) (cs := (cellsN c).toArray) (c := c) okN 3 Try.underlying3 (by omega) (by omega) (by omega) (by omega) (by rw [← hn]; exact ht) W g b hg hbw
  unfold maxLen at hcm hG2
  have s0 := cut_hi (E := EN) okN g k n cap (by omega) (by omega)
  have s1 := slice_lo (E := EN) okN ⟨g, 0, none⟩ k n cap (by omega)
  have s2 := cut_hi (E := EN) okN W.heap.size k (n + 1) G (by omega) (by omega)
  have s3 := cut_hi (E := EN) okN W.heap.size (k + 1) (n + 1) G (by omega) (by omega)
  have a1 := r1 31
  have n1 := box_new W.drew R1 42
  have bl : W.drew.heap.size = W.heap.size := rfl
  rw [bl] at n1
  have g1 : Box (W.drew.alloc (.cells R1 42)) g cur 42 := Box.more (show Box W.drew g cur 42 from hg) _
  have x1 : Box (W.drew.alloc (.cells R1 42)) b (cellsN c).toArray 42 := Box.more (show Box W.drew b _ 42 from hx) _
  have q2 := r2 (W.drew.alloc (.cells R1 42)) 3 (n + 1 - k) (G - k) n1 x1 rfl (by omega)
  have q3 := r3 ((W.drew.alloc (.cells R1 42)).setRow W.heap.size R2).drew 3 (n + 1 - (k + 1)) (G - (k + 1)) (n - k) (cap - k) (Box.set n1 R2) (Box.other g1 (by omega) R2) (by omega)
  have Q := Lib.hid (show InsQN B l k c (.slice (some ⟨g, 0, none⟩) n cap) W (.returned (.slice (some ⟨W.heap.size, 0, none⟩) (n + 1) G)) (((W.drew.alloc (.cells R1 42)).setRow W.heap.size R2).drew.setRow W.heap.size R3) from ⟨_, rfl, by rw [hn]; exact ow _ B hB (Box.set (Box.set n1 R2) R3), below_setRow (below_setRow ((Below.refl B W).drew.alloc hB _) hB _).drew hB _, fun j hj _ => (setRow_other _ W.heap.size j _ (by omega)).trans ((setRow_other _ W.heap.size j _ (by omega)).trans (Array.getElem?_push_lt hj |>.trans (Array.getElem?_eq_getElem hj).symm))⟩)
  have l1 : l.length + 1 = n + 1 := by rw [hn]
  rw [l1, ← hn] at a1
  clear r1 r2 r3 ow hg ht hx g1 x1 n1 bl l1
  change ∀ w, (Instr.sliceAt 31 (.slice (some ⟨g, 0, none⟩) n cap) (some (.int .i64 k)) none none).run Try.prog w = .ok (.slice (some ⟨g, k * 7, none⟩) (n - k) (cap - k)) w at s0
  change ∀ w, (Instr.sliceAt 31 (.slice (some ⟨g, 0, none⟩) n cap) none (some (.int .i64 k)) none).run Try.prog w = .ok (.slice (some ⟨g, 0, none⟩) k cap) w at s1
  change ∀ w, (Instr.sliceAt 31 (.slice (some ⟨W.heap.size, 0, none⟩) (n + 1) G) (some (.int .i64 k)) none none).run Try.prog w = .ok (.slice (some ⟨W.heap.size, k * 7, none⟩) (n + 1 - k) (G - k)) w at s2
  change ∀ w, (Instr.sliceAt 31 (.slice (some ⟨W.heap.size, 0, none⟩) (n + 1) G) (some (.int .i64 ((k : Int) + 1))) none none).run Try.prog w = .ok (.slice (some ⟨W.heap.size, (k + 1) * 7, none⟩) (n + 1 - (k + 1)) (G - (k + 1))) w at s3
  change (Builtin.append_ #[31, 3] 31 #[.slice (some ⟨g, 0, none⟩) k cap, .int .i64 ((n : Int) + 1 - k)]).run Try.prog W = .ok (.slice (some ⟨W.heap.size, 0, none⟩) (n + 1) G) (W.drew.alloc (.cells R1 42)) at a1
  change (Builtin.copy_ #[31, 31] 3 #[.slice (some ⟨W.heap.size, k * 7, none⟩) (n + 1 - k) (G - k), .slice (some ⟨b, 0, none⟩) 1 1]).run Try.prog (W.drew.alloc (.cells R1 42)) = .ok (.int .i64 1) ((W.drew.alloc (.cells R1 42)).setRow W.heap.size R2) at q2
  change (Builtin.copy_ #[31, 31] 3 #[.slice (some ⟨W.heap.size, (k + 1) * 7, none⟩) (n + 1 - (k + 1)) (G - (k + 1)), .slice (some ⟨g, k * 7, none⟩) (n - k) (cap - k)]).run Try.prog ((W.drew.alloc (.cells R1 42)).setRow W.heap.size R2).drew = .ok (.int .i64 ((l.length - k : Nat) : Int)) (((W.drew.alloc (.cells R1 42)).setRow W.heap.size R2).drew.setRow W.heap.size R3) at q3
  have e1 : ((k : Int) == (n : Int)) = false := by rw [beq_eq_false_iff_ne]; omega
  have e2 : decide ((cap : Int) < (n : Int) + 1) = true := by simp; omega
  have hGn : n + 1 ≤ G := by omega
  clear hn
  generalize W.heap.size = N at *
  generalize W.drew.alloc (.cells R1 42) = W1 at *
  generalize W1.setRow N R2 = W2 at *
  go_enter Try.func32, Try.ntmps32
  go_wp2_with (first | (at_builtin; refine wpList_append_run2 rfl _ _ 31 3 rfl rfl rfl a1 ?_) | (at_builtin; refine wpList_copy_run rfl _ _ 31 rfl rfl rfl q2 ?_) | fail)
  clear a1 q2 s0 s1 s2 s3
  have hw1 : IntKind.i64.wrap ((k : Int) + 1) = (k : Int) + 1 := by rw [IntKind.wrap_i64]; omega
  have hb1 : (0 : Int) ≤ (k : Int) + 1 := by omega
  have hb0 : (k : Int) + 1 ≤ (n : Int) + 1 := by omega
  have htn : ((k : Int) + 1).toNat = k + 1 := by omega
  have hb2 : ¬ (G = k + 1) := by omega
  have hb3 : (k : Int) ≤ (n : Int) := by omega
  have hb4 : ¬ (cap = k) := by omega
  have h81 : n + 1 - (k + 1) = n - k := by omega
  rw [h81] at q3
  clear h81
  go_region_law (refine step_copy_run rfl (.tmp 50) (.tmp 53) 31 rfl (v := .slice (some ⟨N, (k + 1) * 7, none⟩) (n - k) (G - (k + 1))) (xv := .slice (some ⟨g, k * 7, none⟩) (n - k) (cap - k)) (by simp [Act.eval, Act.put]) (by simp [Act.eval, Act.put]) q3 ?_)
  all_goals simp only [Exit.then]
  all_goals apply_assumption
  go_wp2
  go_ret
  exact Q.out
theorem insert_anyN (B : Nat) (v : Value) (l : List XEn) (k : Nat) (c : XEn) (b : Nat) (W : World) (ho : OwnN W B v l) (hx : Box W b (cellsN c).toArray 42) (hne : v.ownBlock ≠ some b) (hk : k ≤ l.length) (hl : l.length ≤ 900) (hB : B ≤ W.heap.size) :
    Calls Try.prog 32 #[v, .int .i64 k, .slice (some ⟨b, 0, none⟩) 1 1] W (InsQN B l k c v W) := by
  rcases Nat.lt_or_ge k l.length with h | h
  · rcases own_open ho with ⟨_, h2⟩ | ⟨g, cap, cur, rfl, h1, h2, h3, h4, h5, h6⟩
    · rw [h2] at h; simp at h
    · rcases Nat.lt_or_ge cap (l.length + 1) with h7 | h7
      · exact insert_growN B g _ cap cur l k c b W rfl h2 h4 h3 h6 hx h h7 hl hB
      · exact insert_shiftN B g _ cap cur l k c b W rfl h1 h2 h4 h5 h6 hx (fun e => hne (by simp [Value.ownBlock, e])) h h7 hl
  · obtain rfl : k = l.length := by omega
    exact insert_endN B v l c b W ho hx hl hB
end Go.Proofs.Ytncogjpmboglhaa.Av

namespace Go.Proofs.Ytncogjpmboglhaa.Rg
open Go.RowKit Go.Proofs.Ytncogjpmboglhaa.Rw Go.Proofs.Ytncogjpmboglhaa.Av

/-- What an operation may rely on. -/
structure SeenY (i N S : Nat) (d last : Nat → Nat) (V : Nat → Value → World → Prop) (base : Act) (o : Oper) (a : Act) (x : World) : Prop where
  kp : ∀ j u, (∀ i, i < N → d i ≠ j) → base.tmps[j]? = some u → a.eval (.tmp j) = u
  at_ : ∀ e ∈ o.after, Region.binds .any e = true → e.on ≠ S → (last e.on = i ∨ N ≤ last e.on) → V e.on (a.eval (.tmp (d e.on))) x
/-- What the store leaves of the world ahead of the region. -/
def Sto (b : Nat) (W x : World) : Prop := But b W x ∧ ∀ B, B ≤ b → Below B W x
theorem Sto.grow {b : Nat} {W x x' : World} (h : Sto b W x) (hl : b < W.heap.size) (hb : Below x.heap.size x x') : Sto b W x' :=
  ⟨⟨fun k hk hne => (hb.block k (Nat.lt_of_lt_of_le hk h.1.2)).trans (h.1.1 k hk hne), Nat.le_trans h.1.2 hb.size⟩, fun B hB => (h.2 B hB).trans (hb.mono (Nat.le_trans (Nat.le_trans hB (Nat.le_of_lt hl)) h.1.2))⟩
structure InY (l : List Oper) (N S C : Nat) (d last : Nat → Nat) (V : Nat → Value → World → Prop) (t : TypeId) (bb : Nat) (old : Array Value) (cof : Value → Array Value) (base : Act) (W : World) (L : Array Bool) (a : Act) (x : World) : Prop where
  cl : ∀ i o, done L i → l[i]? = some o → ∀ e ∈ o.after, Region.binds .any e = true → done L e.on
  no : ∀ i, N ≤ i → ¬ done L i
  df : a.defers = base.defers
  sz : a.tmps.size = base.tmps.size
  kp : ∀ j, (∀ i, i < N → d i ≠ j) → a.tmps[j]? = base.tmps[j]?
  sto : Sto bb W x
  val : ∃ vs : Nat → Value, ∀ i, i < N → i ≠ S → done L i → a.tmps[d i]? = some (vs i) ∧ (¬ done L (last i) → V i (vs i) x)
  box : ¬ done L S → Below W.heap.size W x ∧ Box x bb old t
  fin : done L S → ∃ v, a.tmps[d C]? = some v ∧ Box x bb (cof v) t ∧ V C v x
theorem region_st {P : Program} {Q : Exit → Act → World → Prop} {id : Nat} {base : Act} {W : World} {l : List Oper} (N S C : Nat) (d last : Nat → Nat) (V : Nat → Value → World → Prop) (fl : Nat → Bool) (t : TypeId) (bb : Nat) (old : Array Value) (cof : Value → Array Value)
    (hm : P.follows .mixedOrders = true) (hf : fore l.toArray = true) (hN : l.length = N) (hS : S < N) (hC : C < N) (hCS : C ≠ S) (hlC : N ≤ last C) (hbox : Box W bb old t)
    (hinj : ∀ i j, i < N → j < N → i ≠ S → j ≠ S → d i = d j → i = j) (hs : ∀ i, i < N → i ≠ S → d i < base.tmps.size)
    (hV : ∀ i v x x', i < N → V i v x → Below x.heap.size x x' → V i v x')
    (hfl : ∀ o, l[S]? = some o → ∀ i, i < N → i ≠ S → fl i = false → ∃ e ∈ o.after, Region.binds .any e = true ∧ e.on = i) (hflC : fl C = false)
    (hop : ∀ i o, i < N → i ≠ S → l[i]? = some o → ∀ a x, (fl i = false → Below W.heap.size W x ∧ Box x bb old t) → SeenY i N S d last V base o a x → ∀ K : Act → World → Prop, (∀ v x', V i v x' → Below x.heap.size x x' → K (a.put (some (d i)) v) x') → wpOp P l.toArray Q i K a x)
    (hoS : ∀ o, l[S]? = some o → ∀ a x v, Below W.heap.size W x → Box x bb old t → a.eval (.tmp (d C)) = v → V C v x → (∀ j u, base.tmps[j]? = some u → (∀ i, i < N → d i ≠ j) → a.eval (.tmp j) = u) → ∀ K : Act → World → Prop, (∀ x', But bb x x' → (∀ B w, B ≤ bb → Below B w x → Below B w x') → Box x' bb (cof v) t → (∀ j u, j < N → j ≠ S → N ≤ last j → V j u x → V j u x') → K a x') → wpOp P l.toArray Q S K a x)
    (hlast : ∀ j, j < N → j ≠ S → N ≤ last j ∨ (last j < N ∧ last j ≠ S ∧ fl (last j) = false))
    (hend : ∀ a x v, a.defers = base.defers → a.tmps.size = base.tmps.size → (∀ j, (∀ i, i < N → d i ≠ j) → a.tmps[j]? = base.tmps[j]?) → a.tmps[d C]? = some v → Box x bb (cof v) t → V C v x → Sto bb W x → (∃ vs : Nat → Value, ∀ i, i < N → i ≠ S → a.tmps[d i]? = some (vs i) ∧ (N ≤ last i → V i (vs i) x)) → Q .normal a x) : (Code.region id l.toArray true).wp P Q base W := by
  have hbl : bb < W.heap.size := hbox.lt
  refine region_inv (fun L a x => InY l N S C d last V t bb old cof base W L a x) hm hf ?_ ?_ ?_
  · exact ⟨fun i o h => absurd h (none_done _ _), fun i _ => none_done _ _, rfl, rfl, fun _ _ => rfl, ⟨⟨fun _ _ _ => rfl, Nat.le_refl _⟩, fun B hB => (Below.refl _ _).drew⟩, ⟨fun _ => .bool true, fun i _ _ h => absurd h (none_done _ _)⟩, fun _ => ⟨(Below.refl _ _).drew, hbox⟩, fun h => absurd h (none_done _ _)⟩
  · intro L a x i o hsz I ho hnd hdep
    have hi : i < l.length := (List.getElem?_eq_some_iff.1 ho).1
    have hiN : i < N := by omega
    have hiL : i < L.size := by omega
    obtain ⟨vs, hvs⟩ := I.val
    obtain ⟨oS, hoS'⟩ : ∃ oS, l[S]? = some oS := ⟨_, List.getElem?_eq_getElem (by omega)⟩
    have hon : ∀ e ∈ o.after, Region.binds .any e = true → e.on < i := fun e he hb => by
      have h7 := List.all_eq_true.1 hf i (List.mem_range.2 (by simpa using hi))
      have ho' : (l.toArray)[i]? = some o := by simpa using ho
      rw [ho'] at h7
      have h8 := Array.all_eq_true'.1 h7 e he
      rw [hb] at h8
      simpa using h8
    have dd : ∀ {k}, k ≠ i → done (L.setIfInBounds i true) k → done L k := fun {k} h h5 => ((done_set hiL k).1 h5).resolve_left h
    have du : ∀ {k}, done L k → done (L.setIfInBounds i true) k := fun {k} h => (done_set hiL k).2 (Or.inr h)
    have cl' : ∀ k q, done (L.setIfInBounds i true) k → l[k]? = some q → ∀ e ∈ q.after, Region.binds .any e = true → done (L.setIfInBounds i true) e.on := fun k q hk hq e he hb => by
      by_cases e2 : k = i
      · subst e2
        rw [hq] at ho
        cases ho
        exact du (hdep e he hb)
      · exact du (I.cl k q (dd e2 hk) hq e he hb)
    have no' : ∀ k, N ≤ k → ¬ done (L.setIfInBounds i true) k := fun k hk h => I.no k hk (dd (by omega) h)
    have early : ∀ k, k < N → k ≠ S → fl k = false → ¬ done L k → ¬ done L S := fun k hk hkS hfk hnk hdS => by
      obtain ⟨e, h1, h2, h3⟩ := hfl oS hoS' k hk hkS hfk
      exact hnk (h3 ▸ I.cl S oS hdS hoS' e h1 h2)
    by_cases hiS : i = S
    · subst hiS
      have dC : done L C := by
        obtain ⟨e, h1, h2, h3⟩ := hfl o ho C hC hCS hflC
        exact h3 ▸ hdep e h1 h2
      obtain ⟨v1, v2⟩ := hvs C hC hCS dC
      have vC := v2 (I.no _ hlC)
      obtain ⟨b1, b2⟩ := I.box hnd
      refine hoS o ho a x (vs C) b1 b2 (eval_some v1) vC (fun j u hu hj => eval_some (by rw [I.kp j hj]; exact hu)) _ (fun x' q1 q2 q3 q4 => ⟨cl', no', I.df, I.sz, I.kp, ⟨⟨fun k hk hne => (q1.1 k (Nat.lt_of_lt_of_le hk b1.size) hne).trans (I.sto.1.1 k hk hne), Nat.le_trans b1.size q1.2⟩, fun B hB => q2 B W hB (I.sto.2 B hB)⟩, ⟨vs, fun k hk hkS hdn => ?_⟩, fun hn => absurd ((done_set hiL _).2 (Or.inl rfl)) hn, fun _ => ⟨vs C, v1, q3, ?_⟩⟩)
      · obtain ⟨w1, w2⟩ := hvs k hk hkS (dd hkS hdn)
        refine ⟨w1, fun hnl => ?_⟩
        rcases hlast k hk hkS with h5 | ⟨h5, h6, h7⟩
        · exact q4 k _ hk hkS h5 (w2 (I.no _ h5))
        · exfalso
          obtain ⟨e, g1, g2, g3⟩ := hfl o ho (last k) h5 h6 h7
          exact hnl (du (g3 ▸ hdep e g1 g2))
      · exact q4 C _ hC hCS hlC vC
    · have seen : SeenY i N S d last V base o a x := ⟨fun j u hj hu => eval_some (by rw [I.kp j hj]; exact hu), fun e he hb hS' hl => by
        obtain ⟨h1, h2⟩ := hvs e.on (by have := hon e he hb; omega) hS' (hdep e he hb)
        rw [eval_some h1]
        refine h2 ?_
        rcases hl with hl | hl
        · rw [hl]; exact hnd
        · exact I.no _ hl⟩
      refine hop i o hiN hiS ho a x (fun hfi => I.box (early i hiN hiS hfi hnd)) seen _ (fun v x' hpv hb => ?_)
      have self : (a.put (some (d i)) v).tmps[d i]? = some v := by
        have h5 : d i < a.tmps.size := by rw [I.sz]; exact hs i hiN hiS
        simp [Act.put, h5]
      have keep : ∀ k, k < N → k ≠ S → k ≠ i → (a.put (some (d i)) v).tmps[d k]? = a.tmps[d k]? := fun k hk hkS hki => get_put _ _ _ _ (fun e => hki (hinj _ _ hk hiN hkS hiS e))
      refine ⟨cl', no', I.df, by rw [size_put]; exact I.sz, fun j hj => ?_, I.sto.grow hbl hb, ⟨fun k => if k = i then v else vs k, fun k hk hkS hdn => ?_⟩, fun h2 => ?_, fun h1 => ?_⟩
      · rw [get_put _ _ _ _ (fun e => hj i hiN e.symm)]
        exact I.kp j hj
      · by_cases e : k = i
        · subst e
          simp only [if_true]
          exact ⟨self, fun _ => hpv⟩
        · simp only [if_neg e]
          obtain ⟨h3, h4⟩ := hvs k hk hkS (dd e hdn)
          exact ⟨by rw [keep k hk hkS e]; exact h3, fun h6 => hV k _ _ _ hk (h4 (fun h => h6 (du h))) hb⟩
      · obtain ⟨b1, b2⟩ := I.box (fun h => h2 (du h))
        exact ⟨b1.trans (hb.mono b1.size), b2.on hb⟩
      · have h2 := dd (Ne.symm hiS) h1
        obtain ⟨u, h6, h8, h9⟩ := I.fin h2
        obtain ⟨ec, k4, k5, k6⟩ := hfl oS hoS' C hC hCS hflC
        have dC := I.cl S oS h2 hoS' ec k4 k5
        rw [k6] at dC
        have eC : C ≠ i := fun e => hnd (e ▸ dC)
        exact ⟨u, by rw [keep C hC hCS eC]; exact h6, h8.on hb, hV C _ _ _ hC h9 hb⟩
  · intro L a x I hd
    have dS := hd S (by omega)
    obtain ⟨v, h2, h4, h5⟩ := I.fin dS
    obtain ⟨vs, hvs⟩ := I.val
    exact hend a x v I.df I.sz I.kp h2 h4 h5 I.sto ⟨vs, fun i hi hiS => by
      obtain ⟨k1, k2⟩ := hvs i hi hiS (hd i (by omega))
      exact ⟨k1, fun hl => k2 (I.no _ hl)⟩⟩
end Go.Proofs.Ytncogjpmboglhaa.Rg

namespace Go.Proofs.Ytncogjpmboglhaa.Av
open Go.RowKit Go.Proofs.Ytncogjpmboglhaa Go.Proofs.Ytncogjpmboglhaa.Rw Go.Proofs.Ytncogjpmboglhaa.Nm Go.Proofs.Ytncogjpmboglhaa.Pr Go.Proofs.Ytncogjpmboglhaa.Bk Go.Sort

/-- A broker that knows nothing but who is near. -/
abbrev newB0 (me : Int) (near : List Int) : Br := ⟨me, near, [], [], [], []⟩
set_option maxRecDepth 100000 in
set_option maxHeartbeats 8000000 in
theorem anew_any (me : Int) (v : Sl) (l : List Int) (w : World) (hv : RowI w (slv v) l) (hl : l.length ≤ 900) :
    Calls Try.prog 8 #[.int .i64 me, slv v] w fun e w' => (∃ (l' : List Int) (nv : Sl), e = .returned (brv me nv (none, 0, 0) (none, 0, 0) (none, 0, 0) (none, 0, 0)) ∧ BrIn w' (newB0 me l') nv (none, 0, 0) (none, 0, 0) (none, 0, 0) (none, 0, 0) ∧ (∃ B, OwnI w' B (slv nv) l') ∧ l'.Pairwise (· < ·) ∧ ∀ x, x ∈ l' ↔ x ∈ l) ∧ Below w.heap.size w w' := by
  have n0 := newB w (.cells #[.int .i64 0, .slice none 0 0, .slice none 0 0, .slice none 0 0, .slice none 0 0, .slice none 0 0] 34)
  have X := Lib.hid (box_new w #[.int .i64 0, .slice none 0 0, .slice none 0 0, .slice none 0 0, .slice none 0 0, .slice none 0 0] 34)
  have C := Lib.hid (cloneI_any v l _ (hv.on n0) hl)
  have B0 := Lib.hid n0
  have HL := Lib.hid hl
  obtain ⟨vo, vn, vc⟩ := v
  clear hv hl n0
  go_enter Try.func8, Try.ntmps8
  go_wp2_with fail
  generalize w.alloc (.cells #[.int .i64 0, .slice none 0 0, .slice none 0 0, .slice none 0 0, .slice none 0 0, .slice none 0 0] 34) = W at *
  refine C.out.mono ?_
  rintro e1 w1 ⟨⟨⟨p1, p2, p3⟩, rfl, ho⟩, hb⟩
  have B1 := Lib.hid (B0.out.trans (hb.mono B0.out.size))
  have X1 := Lib.hid (X.out.on hb)
  have hlt : w.heap.size < W.heap.size := X.out.lt
  have C2 := Lib.hid (sortI_any w1 W.heap.size _ l ho HL.out)
  have OT := Lib.hid (fun g hg => (ho.lt g hg).1)
  have HW := Lib.hid hlt
  clear hb ho C X
  go_wp2_with fail
  refine C2.out.mono ?_
  rintro e2 w2 ⟨rfl, l2, ho2, hp2, hs2, hg2⟩
  have B2 := Lib.hid (B1.out.grown hg2 B1.out.size (fun j hj => Nat.le_trans (Nat.le_of_lt HW.out) (OT.out j hj)))
  have X2 := Lib.hid (show Box w2 w.heap.size _ _ from (hg2.block _ X1.out.lt (fun e => by have := OT.out _ e.symm; have := HW.out; omega)).trans X1.out)
  have C3 := Lib.hid (cptI_any w2 W.heap.size (p1, p2, p3) l2 ho2 hs2 (by rw [hp2.length_eq]; exact HL.out))
  have PM := Lib.hid hp2
  have OT2 := Lib.hid (fun g hg => (ho2.lt g hg).1)
  clear ho2 hp2 hs2 hg2 C2 OT X1
  go_wp2_with fail
  refine C3.out.mono ?_
  rintro e3 w3 ⟨⟨⟨t1, t2, t3⟩, rfl, l3, ho3, hs3, hm3⟩, hg3⟩
  have B3 := Lib.hid (B2.out.grown hg3 B2.out.size (fun j hj => Nat.le_trans (Nat.le_of_lt HW.out) (OT2.out j hj)))
  have Y := show Box w3 w.heap.size _ _ from (hg3.block _ X2.out.lt (fun e => by have := OT2.out _ e.symm; have := HW.out; omega)).trans X2.out
  have y0 := Y.cell 0
  have y1 := Y.cell 1
  have y2 := Y.cell 2
  have y3 := Y.cell 3
  have y4 := Y.cell 4
  have y5 := Y.cell 5
  have f0 := Y.fr 0
  have f1 := Y.fr 1
  have f2 := Y.fr 2
  have f3 := Y.fr 3
  have f4 := Y.fr 4
  have f5 := Y.fr 5
  simp only [List.getElem?_toArray, List.getElem?_cons_zero, List.getElem?_cons_succ] at y0 y1 y2 y3 y4 y5
  have zz := Y.lt
  have FB := Lib.hid (setB_box Y (.int .i64 me) (.slice t1 t2 t3) (.slice none 0 0) (.slice none 0 0) (.slice none 0 0) (.slice none 0 0))
  have FL := Lib.hid (setB_below (b := w.heap.size) B3.out (Nat.le_refl _) (.int .i64 me) (.slice t1 t2 t3) (.slice none 0 0) (.slice none 0 0) (.slice none 0 0) (.slice none 0 0))
  have FO := Lib.hid (setB_ownA ho3 w.heap.size HW.out (.int .i64 me) (.slice t1 t2 t3) (.slice none 0 0) (.slice none 0 0) (.slice none 0 0) (.slice none 0 0))
  have Q := Lib.hid (show l3.Pairwise (· < ·) ∧ ∀ x, x ∈ l3 ↔ x ∈ l from ⟨hs3, fun x => (hm3 x).trans PM.out.mem_iff⟩)
  clear ho3 hs3 hm3 hg3 Y X2 C3 B2 B1 B0
  go_wp2_with fail
  have v0 := FB.out.cell 0
  have v1 := FB.out.cell 1
  have v2 := FB.out.cell 2
  have v3 := FB.out.cell 3
  have v4 := FB.out.cell 4
  have v5 := FB.out.cell 5
  simp at v0 v1 v2 v3 v4 v5
  refine bodyPost_ret (v := .agg #[.int .i64 me, .slice t1 t2 t3, .slice none 0 0, .slice none 0 0, .slice none 0 0, .slice none 0 0]) (by simp [results, Try.results8, go_sem, v0, v1, v2, v3, v4, v5]) rfl ?_
  exact ⟨⟨l3, (t1, t2, t3), rfl, ⟨Row.of_own FO.out, ⟨[], row_nil _, .nil⟩, row_nil _, ⟨[], row_nil _, .nil⟩, ⟨[], row_nil _, .nil⟩⟩, ⟨_, FO.out⟩, Q.out.1, Q.out.2⟩, FL.out⟩
end Go.Proofs.Ytncogjpmboglhaa.Av
