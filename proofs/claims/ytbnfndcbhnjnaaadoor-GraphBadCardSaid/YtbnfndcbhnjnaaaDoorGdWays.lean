/-
  Ways of package graph: all pairs that are linked, both ways round, rising. Conditions: all links are between unlike brokers, none twice; at most 400; the sort's contract.
-/
import Derived.Test.YtbnfndcbhnjnaaaDoorGdNear
import Derived.Test.YtbnfndcbhnjnaaaDoorBb
namespace Go.Proofs.YtbnfndcbhnjnaaaDoor.Gr
open Go.RowKit Go.Sort Go.Proofs.YtbnfndcbhnjnaaaDoor Go.Proofs.YtbnfndcbhnjnaaaDoor.Rw

/-- What is wanted of slices.SortFunc. -/
def SortOkL : Prop := ∀ (w : World) (B : Nat) (v : Value) (l : List Lk), OwnK w B v l → l.length ≤ 1000 → Calls Tryd.prog 32 #[v, .func (.func 33) #[] #[]] w fun e w' => e = .returned (.tuple #[]) ∧ ∃ l' : List Lk, OwnK w' B v l' ∧ l'.Perm l ∧ l'.Pairwise (fun p q => ¬ LexLt q p) ∧ w.grownBy w' v.ownBlock
theorem rise_ofL {l' l : List Lk} (hp : l'.Perm l) (hs : l'.Pairwise (fun p q => ¬ LexLt q p)) (hn : l.Nodup) : l'.Pairwise LexLt := by
  have hn' : l'.Nodup := hp.nodup_iff.2 hn
  refine (List.Pairwise.and hs hn').imp ?_
  intro a b h
  obtain ⟨a1, a2⟩ := a
  obtain ⟨b1, b2⟩ := b
  have h2 : ¬ (a1 = b1 ∧ a2 = b2) := fun e => h.2 (by rw [e.1, e.2])
  have h1 := h.1
  unfold LexLt at h1 ⊢
  simp only at h1 ⊢
  omega
theorem call_turned (args : Array Value) (w : World) : (callFunc 31 args).run Tryd.prog w = .ok (.enter 31 args) w := call_fn Tryd.func31 rfl rfl args w
set_option maxRecDepth 100000 in
set_option maxHeartbeats 8000000 in
theorem ways_any (SO : SortOkL) (n : Int) (lv : Value) (l : List Lk) (w : World) (hl : RowK w lv l) (hok : Lok n l) (hs : Simp l) (h400 : l.length ≤ 400) :
    Calls Tryd.prog 12 #[gv n lv] w fun e w' => (∃ v r, e = .returned v ∧ OwnK w' w.heap.size v r ∧ WaysIs l r) ∧ Below w.heap.size w w' := by
  have HL := Lib.hid hl
  have OK := Lib.hid hok
  obtain ⟨ao, ac, rfl⟩ := hl.len
  obtain ⟨m, hn⟩ : ∃ m, m = l.length := ⟨_, rfl⟩
  have HN := Lib.hid hn
  rw [← hn] at HL h400 ⊢
  have ND := Lib.hid (both_nodup hs)
  clear hl hn hok hs
  have B := Lib.hid (show Below w.heap.size w (w.alloc (.cells #[.int .i64 n, .slice ao m ac] 25)) from (Below.refl _ _).alloc (Nat.le_refl _) _)
  have X := Lib.hid (box_new w #[.int .i64 n, .slice ao m ac] 25)
  go_enter Tryd.func12, Tryd.ntmps12
  go_wp2
  have hBW : w.heap.size ≤ (w.alloc (.cells #[.int .i64 n, .slice ao m ac] 25)).heap.size := B.out.size
  generalize w.alloc (.cells #[.int .i64 n, .slice ao m ac] 25) = W at *
  go_loopw [3, 9] (fun v i wr => ∃ k : Nat, k ≤ m ∧ i = .int .i64 k ∧ Below W.heap.size W wr ∧ OwnK wr W.heap.size v (bothL (l.take k))) (fun _ i _ => m - (intOf i).toNat)
  case atStart => exact ⟨0, Nat.zero_le _, rfl, Below.refl _ _, by simpa [bothL] using own_nil W W.heap.size⟩
  case round =>
    obtain ⟨k, hk, rfl, hb, how⟩ := hrel
    have HB := Lib.hid hb
    have HO := Lib.hid how
    have a0 := (X.out.on hb).cell 0
    have a1 := (X.out.on hb).cell 1
    simp at a0 a1
    have hlw := (X.out.on hb).lt
    have hlen : (bothL (l.take k)).length ≤ 800 := by
      have h1 := both_len (l.take k)
      have h2 : (l.take k).length ≤ k := by simp; omega
      omega
    have LE := Lib.hid hlen
    clear hb how hlen
    by_cases hlt : k < m
    · obtain ⟨y, hy⟩ : ∃ y, l[k]? = some y := ⟨_, List.getElem?_eq_getElem (by rw [← HN.out]; exact hlt)⟩
      obtain ⟨p, ix, px⟩ := elK HL.out rfl HN.out.symm hy
      obtain ⟨p0, p1⟩ := px _ (B.out.trans (HB.out.mono B.out.size))
      have NX := Lib.hid (show bothL (l.take (k + 1)) = bothL (l.take k) ++ [y, (y.2, y.1)] by
        rw [List.take_add_one, hy, both_append]
        simp [bothL, swapL])
      have JN := Lib.hid (fun w' => show Calls Tryd.prog 26 #[gv n (.slice ao m ac), kv y] w' fun e w'' => e = .returned (.bool true) ∧ Below w'.heap.size w' w'' by
        have h := joins_any n (.slice ao m ac) y w'
        rwa [inL_iff.2 (OK.out y (List.mem_of_getElem? hy))] at h)
      clear hy px
      generalize bothL (l.take k) = s at *
      go_wp2_with fail
      have NB := box_new wr #[.int .i64 y.1, .int .i64 y.2] 22
      have BB := HB.out.alloc HB.out.size (.cells #[.int .i64 y.1, .int .i64 y.2] 22)
      have OB := own_on HO.out ((Below.refl _ _).alloc (Nat.le_refl _) (.cells #[.int .i64 y.1, .int .i64 y.2] 22))
      generalize wr.alloc (.cells #[.int .i64 y.1, .int .i64 y.2] 22) = W3 at *
      refine (JN.out W3).mono ?_
      rintro e w4 ⟨rfl, hb4⟩
      have B4 := Lib.hid (BB.trans (hb4.mono BB.size))
      have O4 := Lib.hid (own_on OB hb4)
      have NB4 := Lib.hid (NB.on hb4)
      have hl4 := NB4.out.lt
      clear hb4 NB BB JN a0 a1 hlw OB
      have x0 := (NB4.out.on (Below.refl _ _).drew).cell 0
      have x1 := (NB4.out.on (Below.refl _ _).drew).cell 1
      simp only [List.getElem?_toArray, List.getElem?_cons_zero, List.getElem?_cons_succ] at x0 x1
      have C := Lib.hid (fun w' => turned_any y w')
      go_wp2_with fail
      go_region_law (first
        | (refine step_call_run rfl (ex_call1 _ _ (.tmp 18) 22 31 rfl rfl rfl _ (call_turned _ _)) (C.out _) ?_; rintro e3 w3 ⟨rfl, hb3⟩; have B3 := Lib.hid (B4.out.drew.trans (hb3.mono B4.out.drew.size)); have y0 := (hb3.cell (p := ⟨wr.heap.size, 0, none⟩) hl4).trans x0; have y1 := (hb3.cell (p := ⟨wr.heap.size, 1, none⟩) hl4).trans x1; obtain ⟨v4, w5, r4, o4, g4⟩ := appK W.heap.size (own_on (own_on O4.out ((Below.refl _ _).drew.trans (hb3.mono (Nat.le_refl _)))) ((Below.refl _ _).alloc (Nat.le_refl _) (.cells #[.int .i64 y.1, .int .i64 y.2, .int .i64 y.2, .int .i64 y.1] 22))) (Row.of_own (row_lit okK w3 [y, (y.2, y.1)] 2 rfl (by simp) #[.int .i64 y.1, .int .i64 y.2, .int .i64 y.2, .int .i64 y.1] rfl)) (Nat.le_trans LE.out (by decide)) (by simp) (by have := B3.out.size; simp; omega); have G4 := Lib.hid g4; have O5 := Lib.hid o4; clear o4 g4; refine ⟨_, rfl, ?_⟩)
        | (refine step_append_run rfl (.tmp 16) (.tmp 20) 23 rfl rfl rfl r4 ?_))
      all_goals simp only [Exit.inBlock, Exit.then]
      all_goals apply_assumption
      all_goals
        have BN := Lib.hid ((B3.out.alloc B3.out.size (.cells #[.int .i64 y.1, .int .i64 y.2, .int .i64 y.2, .int .i64 y.1] 22)).grown G4.out (by have := B3.out.size; simp; omega) (fun j hj => (HO.out.lt j hj).1))
        have ON := Lib.hid (show OwnK w5 W.heap.size v4 (bothL (l.take (k + 1))) by rw [NX.out]; exact O5.out)
        clear r4 x0 x1 y0 y1 hb3 p0 p1 ix
        go_wp2
        go_roundw
        case rel => exact ⟨k + 1, by omega, by go_num, BN.out, ON.out⟩
        case measure => simp [intOf]; omega
    · obtain rfl : k = m := by omega
      rw [List.take_of_length_le (by rw [HN.out]; exact Nat.le_refl _)] at HO
      have S := Lib.hid (SO wr W.heap.size _ _ HO.out (by have := LE.out; rw [List.take_of_length_le (by rw [HN.out]; exact Nat.le_refl _)] at this; omega))
      have HO2 := Lib.hid HO.out
      go_wp2_with fail
      refine S.out.mono ?_
      rintro e w4 ⟨rfl, r, o4, hp, hsr, hg⟩
      have hrise := rise_ofL hp hsr ND.out
      have B4 := Lib.hid (B.out.trans ((HB.out.trans (below_own HO2.out HB.out.size hg)).mono B.out.size))
      have C := Lib.hid (compactK_any _ r w4 (Row.of_own o4) (fun j x y hx hy => rise_ne lex_irr hrise j x y hx hy))
      have O4 := Lib.hid (own_less hBW o4)
      have NI := Lib.hid (show WaysIs l r from ⟨hrise, fun x => hp.mem_iff.trans mem_both⟩)
      clear hp hsr hg hrise o4
      go_wp2_with fail
      refine C.out.mono ?_
      rintro e w5 ⟨rfl, hb5⟩
      have B5 := Lib.hid (B4.out.trans (hb5.mono B4.out.size))
      have O5 := Lib.hid (own_on O4.out hb5)
      clear hb5
      go_wp2
      go_ret
      exact ⟨⟨_, r, rfl, O5.out, NI.out⟩, B5.out⟩
end Go.Proofs.YtbnfndcbhnjnaaaDoor.Gr
