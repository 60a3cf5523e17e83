/-
  Near of package graph: the brokers that a link joins with one, rising. Conditions: all links are between unlike brokers, none twice; at most 400; the sort's contract.
-/
import Derived.Test.YtbnfndcbhnjnaaaDoorBl
import Derived.Test.YtbnfndcbhnjnaaaDoorBk
namespace Go.Proofs.YtbnfndcbhnjnaaaDoor.Gr
open Go.RowKit Go.Sort Go.Proofs.YtbnfndcbhnjnaaaDoor Go.Proofs.YtbnfndcbhnjnaaaDoor.Rw

/-- What is wanted of slices.Sort. -/
def SortOkI : Prop := ∀ (w : World) (B : Nat) (v : Value) (l : List Int), OwnI w B v l → l.length ≤ 1000 → Calls Tryd.prog 29 #[v] w fun e w' => e = .returned (.tuple #[]) ∧ ∃ l' : List Int, OwnI w' B v l' ∧ l'.Perm l ∧ l'.Pairwise (· ≤ ·) ∧ w.grownBy w' v.ownBlock
theorem below_own {α : Type} {w w' : World} {B : Nat} {E : Ek α} {v : Value} {l : List α} (h : Own E w B v l) (hB : B ≤ w.heap.size) (hg : w.grownBy w' v.ownBlock) : Below B w w' := (Below.refl B w).grown hg hB (fun j hj => (h.lt j hj).1)
theorem rise_of {l' l : List Int} (hp : l'.Perm l) (hs : l'.Pairwise (· ≤ ·)) (hn : l.Nodup) : l'.Pairwise (· < ·) := by
  have hn' : l'.Nodup := hp.nodup_iff.2 hn
  refine (List.Pairwise.and hs hn').imp ?_
  intro a b h
  have := h.2
  omega
set_option maxRecDepth 100000 in
set_option maxHeartbeats 8000000 in
theorem near_any (SO : SortOkI) (n : Int) (lv : Value) (l : List Lk) (b : Int) (w : World) (hl : RowK w lv l) (hok : Lok n l) (hs : Simp l) (h400 : l.length ≤ 400) :
    Calls Tryd.prog 11 #[gv n lv, .int .i64 b] w fun e w' => (∃ v r, e = .returned v ∧ OwnI w' w.heap.size v r ∧ NearIs l b r) ∧ Below w.heap.size w w' := by
  have HL := Lib.hid hl
  have OK := Lib.hid hok
  obtain ⟨ao, ac, rfl⟩ := hl.len
  obtain ⟨m, hn⟩ : ∃ m, m = l.length := ⟨_, rfl⟩
  have HN := Lib.hid hn
  rw [← hn] at HL h400 ⊢
  have ND := Lib.hid (near_nodup (b := b) hs)
  have SF := Lib.hid hs.2
  clear hl hn hok hs
  have B := Lib.hid (show Below w.heap.size w (w.alloc (.cells #[.int .i64 n, .slice ao m ac] 25)) from (Below.refl _ _).alloc (Nat.le_refl _) _)
  have X := Lib.hid (box_new w #[.int .i64 n, .slice ao m ac] 25)
  go_enter Tryd.func11, Tryd.ntmps11
  go_wp2
  have hBW : w.heap.size ≤ (w.alloc (.cells #[.int .i64 n, .slice ao m ac] 25)).heap.size := B.out.size
  generalize w.alloc (.cells #[.int .i64 n, .slice ao m ac] 25) = W at *
  go_loopw [5, 11] (fun v i wr => ∃ k : Nat, k ≤ m ∧ i = .int .i64 k ∧ Below W.heap.size W wr ∧ OwnI wr W.heap.size v (nearL b (l.take k))) (fun _ i _ => m - (intOf i).toNat)
  case atStart => exact ⟨0, Nat.zero_le _, rfl, Below.refl _ _, by simpa [nearL] using own_nil W W.heap.size⟩
  case round =>
    obtain ⟨k, hk, rfl, hb, how⟩ := hrel
    have HB := Lib.hid hb
    have HO := Lib.hid how
    have a0 := (X.out.on hb).cell 0
    have a1 := (X.out.on hb).cell 1
    simp at a0 a1
    have hlw := (X.out.on hb).lt
    have hlen : (nearL b (l.take k)).length ≤ 800 := by
      have h1 := near_len b (l.take k)
      have h2 : (l.take k).length ≤ k := by simp; omega
      omega
    have LE := Lib.hid hlen
    clear hb how hlen
    by_cases hlt : k < m
    · obtain ⟨y, hy⟩ : ∃ y, l[k]? = some y := ⟨_, List.getElem?_eq_getElem (by rw [← HN.out]; exact hlt)⟩
      obtain ⟨p, ix, px⟩ := elK HL.out rfl HN.out.symm hy
      obtain ⟨p0, p1⟩ := px _ (B.out.trans (HB.out.mono B.out.size))
      have NX := Lib.hid (show nearL b (l.take (k + 1)) = nearL b (l.take k) ++ ends b y by
        rw [List.take_add_one, hy, near_append]
        simp [nearL])
      have JN := Lib.hid (fun w' => show Calls Tryd.prog 26 #[gv n (.slice ao m ac), kv y] w' fun e w'' => e = .returned (.bool true) ∧ Below w'.heap.size w' w'' by
        have h := joins_any n (.slice ao m ac) y w'
        rwa [inL_iff.2 (OK.out y (List.mem_of_getElem? hy))] at h)
      have SY := Lib.hid (SF.out y (List.mem_of_getElem? hy))
      clear hy px
      generalize nearL b (l.take k) = s at *
      go_wp2_with fail
      have NB := box_new wr #[.int .i64 y.1, .int .i64 y.2] 22
      have BB := HB.out.alloc HB.out.size (.cells #[.int .i64 y.1, .int .i64 y.2] 22)
      have OB := own_on HO.out ((Below.refl _ _).alloc (Nat.le_refl _) (.cells #[.int .i64 y.1, .int .i64 y.2] 22))
      generalize wr.alloc (.cells #[.int .i64 y.1, .int .i64 y.2] 22) = W3 at *
      refine (JN.out W3).mono ?_
      rintro e w4 ⟨rfl, hb4⟩
      have c0 := (NB.on hb4).cell 0
      have c1 := (NB.on hb4).cell 1
      have hl4 := (NB.on hb4).lt
      simp at c0 c1
      have B4 := Lib.hid (BB.trans (hb4.mono BB.size))
      have O4 := own_on OB hb4
      have NB4 := NB.on hb4
      clear hb4 NB BB JN a0 a1 hlw OB
      obtain ⟨r1, hr1⟩ : ∃ r, (y.1 == b) = r := ⟨_, rfl⟩
      obtain ⟨r2, hr2⟩ : ∃ r, (y.2 == b) = r := ⟨_, rfl⟩
      have KN : ∀ o : Obj, some wr.heap.size ≠ Value.ownBlock u5 := fun o e => by
        rcases own_open HO.out with ⟨e1, _⟩ | ⟨g, cap, cur, e1, _, hg, _⟩
        · rw [e1] at e; cases e
        · rw [e1] at e
          have := hg.lt
          obtain rfl : wr.heap.size = g := by simpa [Value.ownBlock] using e
          omega
      have KN1 := KN (.cells #[] 0)
      have KN2 := KN1
      cases r1
      · cases r2
        · have e1 : ends b y = [] := by unfold ends; simp at hr1 hr2; simp [hr1, hr2]
          rw [e1, List.append_nil] at NX
          have O5 := Lib.hid O4
          clear O4 NB4
          go_wp2
          go_roundw
          case rel => exact ⟨k + 1, by omega, by go_num, B4.out, by rw [NX.out]; exact O5.out⟩
          case measure => simp [intOf]; omega
        · have e1 : ends b y = [y.1] := by unfold ends; simp at hr1 hr2; simp [hr1, hr2]
          rw [e1] at NX
          obtain ⟨v', w', r, o', gr⟩ := appI W.heap.size (own_on O4 ((Below.refl _ _).alloc (Nat.le_refl _) (.cells #[.int .i64 y.1] 3))) (row_oneI w4 y.1) (Nat.le_trans LE.out (by decide)) (by simp) (by simp; have := B4.out.size; omega)
          have B5 := Lib.hid (B4.out.trans (((Below.refl W.heap.size w4).alloc B4.out.size (.cells #[.int .i64 y.1] 3)).trans (below_own (own_on O4 ((Below.refl _ _).alloc (Nat.le_refl _) _)) (by simp; have := B4.out.size; omega) gr)))
          have O5 := Lib.hid o'
          have K0 := (NB4.on ((Below.refl _ _).alloc (Nat.le_refl _) (.cells #[.int .i64 y.1] 3)))
          have K1 : Box w' _ _ _ := (gr.block _ K0.lt (KN1)).trans K0
          have d0 := K1.cell 0
          have d1 := K1.cell 1
          simp at d0 d1
          clear O4 NB4 o' gr K0 K1
          go_wp2_with (first | (at_builtin; refine wpList_append_run rfl _ _ 30 rfl rfl rfl r ?_) | fail)
          go_roundw
          case rel => exact ⟨k + 1, by omega, by go_num, B5.out, by rw [NX.out]; exact O5.out⟩
          case measure => simp [intOf]; omega
      · cases r2
        · have e1 : ends b y = [y.2] := by unfold ends; simp at hr1 hr2; simp [hr1, hr2]
          rw [e1] at NX
          obtain ⟨v', w', r, o', gr⟩ := appI W.heap.size (own_on O4 ((Below.refl _ _).alloc (Nat.le_refl _) (.cells #[.int .i64 y.2] 3))) (row_oneI w4 y.2) (Nat.le_trans LE.out (by decide)) (by simp) (by simp; have := B4.out.size; omega)
          have B5 := Lib.hid (B4.out.trans (((Below.refl W.heap.size w4).alloc B4.out.size (.cells #[.int .i64 y.2] 3)).trans (below_own (own_on O4 ((Below.refl _ _).alloc (Nat.le_refl _) _)) (by simp; have := B4.out.size; omega) gr)))
          have O5 := Lib.hid o'
          have K0 := (NB4.on ((Below.refl _ _).alloc (Nat.le_refl _) (.cells #[.int .i64 y.2] 3)))
          have K1 : Box w' _ _ _ := (gr.block _ K0.lt (KN2)).trans K0
          have d0 := K1.cell 0
          have d1 := K1.cell 1
          simp at d0 d1
          clear O4 NB4 o' gr K0 K1
          go_wp2_with (first | (at_builtin; refine wpList_append_run rfl _ _ 30 rfl rfl rfl r ?_) | fail)
          go_roundw
          case rel => exact ⟨k + 1, by omega, by go_num, B5.out, by rw [NX.out]; exact O5.out⟩
          case measure => simp [intOf]; omega
        · simp at hr1 hr2
          exact absurd (hr1.trans hr2.symm) SY.out
    · obtain rfl : k = m := by omega
      rw [List.take_of_length_le (by rw [HN.out]; exact Nat.le_refl _)] at HO
      have S := Lib.hid (SO wr W.heap.size _ _ HO.out (by have := LE.out; rw [List.take_of_length_le (by rw [HN.out]; exact Nat.le_refl _)] at this; omega))
      have HO2 := Lib.hid HO.out
      go_wp2_with fail
      refine S.out.mono ?_
      rintro e w4 ⟨rfl, r, o4, hp, hsr, hg⟩
      have hrise := rise_of hp hsr ND.out
      have B4 := Lib.hid (B.out.trans ((HB.out.trans (below_own HO2.out HB.out.size hg)).mono B.out.size))
      have C := Lib.hid (compactI_any _ r w4 (Row.of_own o4) (fun j x y hx hy => rise_ne (fun x => by omega) hrise j x y hx hy))
      have O4 := Lib.hid (own_less hBW o4)
      have NI := Lib.hid (show NearIs l b r from ⟨hrise, fun x => hp.mem_iff.trans mem_near⟩)
      clear hp hsr hg hrise o4
      go_wp2_with fail
      refine C.out.mono ?_
      rintro e w5 ⟨rfl, hb5⟩
      have B5 := Lib.hid (B4.out.trans (hb5.mono B4.out.size))
      have O5 := Lib.hid (own_on O4.out hb5)
      clear hb5
      go_wp2
      go_ret
      exact ⟨⟨_, r, rfl, O5.out, NI.out⟩, B5.out⟩
end Go.Proofs.YtbnfndcbhnjnaaaDoor.Gr
