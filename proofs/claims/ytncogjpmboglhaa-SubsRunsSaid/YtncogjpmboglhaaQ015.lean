/-
  Name of package tuple and RightOne of package pred: may a constraint stand in a predicate. Condition: texts below a machine's length.
  RightOne and Right of package pred, on any list. Condition: texts below a machine's length.
  Find of package adverts. Condition: at most 900 advertisements, each of at most 900 constraints.
  Same of two lists of constraints, of the statements' own package. Condition: lists far below a machine's length.
  The document's own Covers (package broadsideref1). Condition: lists of no more than a hundred.
  entry of broadsideref9: the place of a tree's subscription among a broker's entries. Condition: rows no longer than a machine holds.
  The region of Add that puts an entry into its place. Condition: at most 900 of them.
  slices.BinarySearchFunc over constraints in the order of their names, as package pred calls it. Condition: at most 100 constraints, their names rising.
  slices.BinarySearchFunc over constraints in the order of their names, as package pred calls it. Condition: at most 100 constraints, their names rising.
  slices.Insert of one constraint into a list of one's own, as package pred calls it. Condition: at most 100 constraints.
  What Get of package tuple hands back; the contracts wanted of Get and Right. No condition.
  Get of package tuple: the first value of that name. Condition: at most 100 attributes.
-/
import Derived.Test.YtncogjpmboglhaaQ014
import Derived.IntWalk
import Derived.Test.YtncogjpmboglhaaQ008
import Derived.Test.YtncogjpmboglhaaQ007
import Derived.Test.YtncogjpmboglhaaQ013
import Derived.Test.YtncogjpmboglhaaQ005
import Derived.Lib.Hide
import Derived.Lib.QuietBelow
import Derived.BigQuiet
import Derived.Test.YtncogjpmboglhaaQ011
import Derived.Deep.LoopGhost
import Derived.Laws.Externs
import Derived.Test.YtncogjpmboglhaaQ001
namespace Go.Proofs.Ytncogjpmboglhaa.Pr
open Go.RowKit Go.Sort Go.Proofs.Ytncogjpmboglhaa Go.Proofs.Ytncogjpmboglhaa.Pu Go.Proofs.Ytncogjpmboglhaa.Rw Go.Proofs.Ytncogjpmboglhaa.Va

end Go.Proofs.Ytncogjpmboglhaa.Pr

namespace Go.Proofs.Ytncogjpmboglhaa.Avp
open Go.RowKit Go.Sort Go.Proofs.Ytncogjpmboglhaa Go.Proofs.Ytncogjpmboglhaa.Rw Go.Proofs.Ytncogjpmboglhaa.Nm Go.Proofs.Ytncogjpmboglhaa.At Go.Proofs.Ytncogjpmboglhaa.Pr Go.Proofs.Ytncogjpmboglhaa.Wr Go.Proofs.Ytncogjpmboglhaa.Va

end Go.Proofs.Ytncogjpmboglhaa.Avp

namespace Go.Proofs.Ytncogjpmboglhaa.Av
open Go.RowKit Go.Sort Go.Proofs.Ytncogjpmboglhaa Go.Proofs.Ytncogjpmboglhaa.Rw Go.Proofs.Ytncogjpmboglhaa.Nm Go.Proofs.Ytncogjpmboglhaa.Pr Go.Proofs.Ytncogjpmboglhaa.Bk

def findA (l : List Ad) (x : XID) : Option Ad := l.find? fun a => decide (a.id = x)
theorem findA_none {l : List Ad} {x : XID} (h : ∀ (j : Nat) (a : Ad), l[j]? = some a → a.id ≠ x) : findA l x = none := by
  unfold findA
  rw [List.find?_eq_none]
  intro a ha
  obtain ⟨j, hj⟩ := List.mem_iff_getElem?.1 ha
  simpa using h j a hj
theorem findA_at : ∀ {l : List Ad} {x : XID} {k : Nat} {a : Ad}, l[k]? = some a → a.id = x → (∀ (j : Nat) (z : Ad), j < k → l[j]? = some z → z.id ≠ x) → findA l x = some a
  | [], _, _, _, h, _, _ => by simp at h
  | b :: l, x, 0, a, h, hx, _ => by
    obtain rfl : b = a := by simpa using h
    simp [findA, hx]
  | b :: l, x, k + 1, a, h, hx, hall => by
    have hb := hall 0 b (by omega) rfl
    have ih := findA_at (l := l) (x := x) (k := k) (a := a) (by simpa using h) hx fun j z hj hz => hall (j + 1) z (by omega) (by simpa using hz)
    unfold findA at *
    rw [List.find?_cons_of_neg (by simpa using hb)]
    exact ih
/-- What Find answers. -/
def FindQ (W : World) (o : Option Ad) (w : World) (e : Ending) (w' : World) : Prop := (match o with
  | none => e = .returned (.tuple #[valD (0, 0, (none, 0, 0), 0), .bool false])
  | some a => ∃ r : XAd, e = .returned (.tuple #[valD r, .bool true]) ∧ AdIn w' r a) ∧ Below W.heap.size w w'
set_option maxRecDepth 100000 in
set_option maxHeartbeats 16000000 in
theorem find_any (me : Int) (nv sv ev ov : Value) (av : Sl) (l : List XAd) (al : List Ad) (x : XID) (w : World) (hs : RowD w (slv av) l) (hA : All2 (AdIn w) l al) (hf : ∀ a ∈ al, a.p.length ≤ 900) :
    Calls Try.prog 29 #[.agg #[.int .i64 me, nv, slv av, sv, ev, ov], idv x] w (FindQ w (findA al x) w) := by
  obtain ⟨c, d⟩ := x
  obtain ⟨so, sn, sc⟩ := av
  obtain ⟨ao, ac, hv⟩ := hs.len
  have hv : Value.slice so sn sc = .slice ao l.length ac := hv
  obtain ⟨rfl, rfl, rfl⟩ : so = ao ∧ sn = l.length ∧ sc = ac := by simpa using hv
  obtain ⟨h0, h1, h2⟩ := two_new w #[.int .i64 me, nv, .slice so l.length sc, sv, ev, ov] #[.int .i64 c, .int .i64 d] 34 23
  have h3 := newB ((w.alloc (.cells #[.int .i64 me, nv, .slice so l.length sc, sv, ev, ov] 34)).alloc (.cells #[.int .i64 c, .int .i64 d] 23)) (.cells #[.int .i64 0, .int .i64 0, .slice none 0 0, .int .i64 0] 39)
  have h4 := box_new ((w.alloc (.cells #[.int .i64 me, nv, .slice so l.length sc, sv, ev, ov] 34)).alloc (.cells #[.int .i64 c, .int .i64 d] 23)) #[.int .i64 0, .int .i64 0, .slice none 0 0, .int .i64 0] 39
  have hsz : ((w.alloc (.cells #[.int .i64 me, nv, .slice so l.length sc, sv, ev, ov] 34)).alloc (.cells #[.int .i64 c, .int .i64 d] 23)).heap.size = w.heap.size + 1 + 1 := by simp
  rw [hsz] at h4
  have B := Lib.hid (h0.trans (h3.mono h0.size))
  have HS := Lib.hid (hs.on B.out)
  have HA := Lib.hid (hA.mono fun _ _ h => h.on B.out)
  have X2 := Lib.hid (h1.on h3)
  have X3 := Lib.hid (h2.on h3)
  have X4 := Lib.hid h4
  have HF := Lib.hid hf
  have lm := hs.most
  unfold maxLen at lm
  obtain ⟨n, hn⟩ : ∃ n, n = l.length := ⟨_, rfl⟩
  have q3 := X2.out.cell 2
  simp only [List.getElem?_toArray, List.getElem?_cons_zero, List.getElem?_cons_succ] at q3
  rw [← hn] at HS X2 X3 X4 HA lm q3 B ⊢
  have HN := Lib.hid hn.symm
  obtain ⟨fo, hfo⟩ : ∃ o, o = findA al (c, d) := ⟨_, rfl⟩
  rw [← hfo]
  have FO := Lib.hid hfo
  clear h0 h1 h2 h3 h4 hs hv hn hA hf hsz hfo
  go_enter Try.func29, Try.ntmps29
  go_upto_region 1 with fail
  generalize ((w.alloc (.cells #[.int .i64 me, nv, .slice so n sc, sv, ev, ov] 34)).alloc (.cells #[.int .i64 c, .int .i64 d] 23)).alloc (.cells #[.int .i64 0, .int .i64 0, .slice none 0 0, .int .i64 0] 39) = W at *
  go_wp2
  go_loopw [11] (fun i wr => ∃ k : Nat, k ≤ n ∧ i = .int .i64 k ∧ Below W.heap.size W wr ∧ ∀ (j : Nat) (y : XAd), j < k → l[j]? = some y → (y.1, y.2.1) ≠ (c, d)) (fun i _ => n - (intOf i).toNat)
  case atStart => exact ⟨0, Nat.zero_le _, rfl, Below.refl _ _, fun j y h => by omega⟩
  case round =>
    obtain ⟨k, hk, rfl, hbe, hall⟩ := hrel
    have BE := Lib.hid hbe
    have AL := Lib.hid hall
    clear hbe hall
    by_cases hlt : k < n
    · obtain ⟨y, hy⟩ : ∃ y, l[k]? = some y := ⟨_, List.getElem?_eq_getElem (by rw [HN.out]; exact hlt)⟩
      obtain ⟨p, ix, px⟩ := elD HS.out rfl HN.out hy
      obtain ⟨p0, p1, p2, p3⟩ := px wr BE.out
      obtain ⟨y1, y2, ⟨yo, yn, yc⟩, y4⟩ := y
      simp only at p0 p1 p2 p3
      have NB := Lib.hid (newB wr (.cells #[.int .i64 y1, .int .i64 y2, .slice yo yn yc, .int .i64 y4] 39))
      have x0 := ((X3.out.on BE.out).on NB.out).cell 0
      have x1 := ((X3.out.on BE.out).on NB.out).cell 1
      simp only [List.getElem?_toArray, List.getElem?_cons_zero, List.getElem?_cons_succ] at x0 x1
      have hw3 : IntKind.i64.wrap ((k : Int) + 1) = (k : Int) + 1 := IntWalk.i64_in _ (by omega)
      obtain ⟨r, hr⟩ : ∃ r, (y1 == c && y2 == d) = r := ⟨_, rfl⟩
      have he := eqId y1 y2 c d r hr
      have HY := Lib.hid hy
      have HR := Lib.hid hr
      clear px hy hr
      cases r
      · go_wp2
        go_roundw
        case rel => exact ⟨k + 1, by omega, by go_num, BE.out.trans (NB.out.mono BE.out.size), fun j y' hj h1 => by
          rcases Nat.lt_or_ge j k with h3 | h3
          · exact AL.out j y' h3 h1
          · obtain rfl : j = k := by omega
            have e1 := HY.out
            rw [h1] at e1
            rw [Option.some.inj e1]
            intro e
            obtain ⟨rfl, rfl⟩ : y1 = c ∧ y2 = d := by simpa using e
            have := HR.out
            simp at this⟩
        case measure => simp [intOf]; omega
      · obtain ⟨a, ha⟩ : ∃ a, al[k]? = some a := ⟨_, List.getElem?_eq_getElem (by rw [← HA.out.len, HN.out]; exact hlt)⟩
        obtain ⟨z, hz1, hz2⟩ := HA.out.at k a ha
        rw [HY.out] at hz1
        obtain rfl := Option.some.inj hz1
        have BA := Lib.hid (BE.out.trans (NB.out.mono BE.out.size))
        have C := Lib.hid (cpAd_any (y1, y2, (yo, yn, yc), y4) a.p _ (hz2.2.2.on BA.out) (HF.out a (List.mem_of_getElem? ha)))
        have HZ := Lib.hid hz2
        have h8 := HR.out
        obtain ⟨rfl, rfl⟩ : y1 = c ∧ y2 = d := by simpa using h8
        have FA := Lib.hid (show fo = some a by
          rw [FO.out]
          refine findA_at ha hz2.1.symm fun j z hj hzz => ?_
          obtain ⟨u, hu1, hu2⟩ := HA.out.at j z hzz
          rw [← hu2.1]
          exact AL.out j u hj hu1)
        have X4a := (X4.out.on BE.out).on NB.out
        clear hz1 hz2 ha h8
        go_wp2_with fail
        refine C.out.mono ?_
        rintro e w1 ⟨⟨⟨u1, u2, u3⟩, rfl, ho⟩, hb⟩
        have Y1 := X4a.on hb
        have B1 := Lib.hid (BA.out.trans (hb.mono BA.out.size))
        have r0 := Y1.cell 0
        have r1 := Y1.cell 1
        have r2 := Y1.cell 2
        have r3 := Y1.cell 3
        have t0 := Y1.fr 0
        have t1 := Y1.fr 1
        have t2 := Y1.fr 2
        have t3 := Y1.fr 3
        simp only [List.getElem?_toArray, List.getElem?_cons_zero, List.getElem?_cons_succ] at r0 r1 r2 r3
        have zz := Y1.lt
        have hs2 : w.heap.size + 1 + 1 < (wr.alloc (.cells #[.int .i64 y1, .int .i64 y2, .slice yo yn yc, .int .i64 y4] 39)).heap.size := X4a.lt
        have FB := Lib.hid (setD_box Y1 (.int .i64 y1) (.int .i64 y2) (.slice u1 u2 u3) (.int .i64 y4))
        have BL := Lib.hid (setD_below (b := w.heap.size + 1 + 1) (B.out.trans (B1.out.mono B.out.size)) (by omega) (.int .i64 y1) (.int .i64 y2) (.slice u1 u2 u3) (.int .i64 y4))
        have FW := Lib.hid (setD_own ho (w.heap.size + 1 + 1) hs2 (.int .i64 y1) (.int .i64 y2) (.slice u1 u2 u3) (.int .i64 y4))
        clear Y1 ho hb hs2 X4a
        go_wp2_with fail
        have v0 := FB.out.cell 0
        have v1 := FB.out.cell 1
        have v2 := FB.out.cell 2
        have v3 := FB.out.cell 3
        simp at v0 v1 v2 v3
        refine bodyPost_ret (v := .tuple #[.agg #[.int .i64 y1, .int .i64 y2, .slice u1 u2 u3, .int .i64 y4], .bool true]) (by simp [results, Try.results29, go_sem, v0, v1, v2, v3]) rfl ?_
        rw [FA.out]
        exact ⟨⟨(y1, y2, (u1, u2, u3), y4), rfl, HZ.out.1, HZ.out.2.1, Row.of_own FW.out⟩, BL.out⟩
    · obtain rfl : k = n := by omega
      have FA := Lib.hid (show fo = none by
        rw [FO.out]
        refine findA_none fun j z hzz => ?_
        obtain ⟨u, hu1, hu2⟩ := HA.out.at j z hzz
        rw [← hu2.1]
        exact AL.out j u (by rw [← HN.out]; exact (List.getElem?_eq_some_iff.1 hu1).1) hu1)
      have Y1 := X4.out.on BE.out
      have r0 := Y1.cell 0
      have r1 := Y1.cell 1
      have r2 := Y1.cell 2
      have r3 := Y1.cell 3
      have t0 := Y1.fr 0
      have t1 := Y1.fr 1
      have t2 := Y1.fr 2
      have t3 := Y1.fr 3
      simp only [List.getElem?_toArray, List.getElem?_cons_zero, List.getElem?_cons_succ] at r0 r1 r2 r3
      have zz := Y1.lt
      have FB := Lib.hid (setD_box Y1 (.int .i64 0) (.int .i64 0) (.slice none 0 0) (.int .i64 0))
      have BL := Lib.hid (setD_below (b := w.heap.size + 1 + 1) (B.out.trans (BE.out.mono B.out.size)) (by omega) (.int .i64 0) (.int .i64 0) (.slice none 0 0) (.int .i64 0))
      clear Y1
      go_wp2_with fail
      have v0 := FB.out.cell 0
      have v1 := FB.out.cell 1
      have v2 := FB.out.cell 2
      have v3 := FB.out.cell 3
      simp at v0 v1 v2 v3
      refine bodyPost_ret (v := .tuple #[.agg #[.int .i64 0, .int .i64 0, .slice none 0 0, .int .i64 0], .bool false]) (by simp [results, Try.results29, go_sem, v0, v1, v2, v3]) rfl ?_
      rw [FA.out]
      exact ⟨rfl, BL.out⟩
end Go.Proofs.Ytncogjpmboglhaa.Av

namespace Go.Proofs.Ytncogjpmboglhaa.Pr
open Go.RowKit Go.Sort Go.Proofs.Ytncogjpmboglhaa Go.Proofs.Ytncogjpmboglhaa.Pu Go.Proofs.Ytncogjpmboglhaa.Rw Go.Proofs.Ytncogjpmboglhaa.Va

end Go.Proofs.Ytncogjpmboglhaa.Pr

namespace Go.Proofs.Ytncogjpmboglhaa.Rl
open Go.RowKit Go.Proofs.Ytncogjpmboglhaa Go.Proofs.Ytncogjpmboglhaa.Pu Go.Proofs.Ytncogjpmboglhaa.Rw Go.Proofs.Ytncogjpmboglhaa.Pr Go.Proofs.Ytncogjpmboglhaa.Va

theorem all_more {α : Type} (f : α → Bool) (l : List α) (k : Nat) (y : α) (h : l[k]? = some y) : (l.take (k + 1)).all f = ((l.take k).all f && f y) := by
  rw [List.take_add_one, h, List.all_append]
  simp
theorem all_not {α : Type} (f : α → Bool) (l : List α) (k : Nat) (y : α) (h : l[k]? = some y) (hf : f y = false) : l.all f = false := by
  rw [List.all_eq_false]
  exact ⟨y, List.mem_of_getElem? h, by simp [hf]⟩
end Go.Proofs.Ytncogjpmboglhaa.Rl

namespace Go.Proofs.Ytncogjpmboglhaa.Bk
open Go.RowKit Go.Proofs.Ytncogjpmboglhaa Go.Proofs.Ytncogjpmboglhaa.Rw Go.Proofs.Ytncogjpmboglhaa.Nm Go.Proofs.Ytncogjpmboglhaa.Pr

/-- The place of the first one; -1: there is none. -/
def findK {κ : Type} [DecidableEq κ] : List κ → κ → Int
  | [], _ => -1
  | a :: l, x => if a = x then 0 else if findK l x = -1 then -1 else findK l x + 1
theorem findK_none {κ : Type} [DecidableEq κ] (l : List κ) (x : κ) (h : ∀ (j : Nat) (y : κ), l[j]? = some y → y ≠ x) : findK l x = -1 := by
  induction l with
  | nil => rfl
  | cons a l ih => rw [findK, if_neg (h 0 a rfl), ih fun j y hj => h (j + 1) y (by simpa using hj), if_pos rfl]
theorem findK_at {κ : Type} [DecidableEq κ] (l : List κ) (k : Nat) (x : κ) (h : l[k]? = some x) (hall : ∀ (j : Nat) (z : κ), j < k → l[j]? = some z → z ≠ x) : findK l x = k := by
  induction l generalizing k with
  | nil => simp at h
  | cons a l ih =>
    cases k with
    | zero =>
      obtain rfl : a = x := by simpa using h
      rw [findK, if_pos rfl]
      rfl
    | succ k =>
      have h2 := ih k (by simpa using h) fun j z hj hz => hall (j + 1) z (by omega) (by simpa using hz)
      rw [findK, if_neg (hall 0 a (by omega) rfl), h2, if_neg (by omega)]
      omega
abbrev keyN (e : XEn) : Id × Id := ((e.1, e.2.1), (e.2.2.1, e.2.2.2.1))
end Go.Proofs.Ytncogjpmboglhaa.Bk

namespace Go.Proofs.Ytncogjpmboglhaa.Bk
open Go.RowKit Go.Proofs.Ytncogjpmboglhaa Go.Proofs.Ytncogjpmboglhaa.Rw Go.Proofs.Ytncogjpmboglhaa.Nm Go.Proofs.Ytncogjpmboglhaa.Pr

end Go.Proofs.Ytncogjpmboglhaa.Bk

namespace Go.Proofs.Ytncogjpmboglhaa.Pr
open Go.RowKit Go.Sort Go.Proofs.Ytncogjpmboglhaa Go.Proofs.Ytncogjpmboglhaa.Pu Go.Proofs.Ytncogjpmboglhaa.Rw Go.Proofs.Ytncogjpmboglhaa.Va

end Go.Proofs.Ytncogjpmboglhaa.Pr

namespace Go.Proofs.Ytncogjpmboglhaa.Pr
open Go.RowKit Go.Sort Go.Proofs.Ytncogjpmboglhaa Go.Proofs.Ytncogjpmboglhaa.Pu Go.Proofs.Ytncogjpmboglhaa.Rw Go.Proofs.Ytncogjpmboglhaa.Va

end Go.Proofs.Ytncogjpmboglhaa.Pr

namespace Go.Proofs.Ytncogjpmboglhaa.Pr
open Go.RowKit Go.Sort Go.Proofs.Ytncogjpmboglhaa Go.Proofs.Ytncogjpmboglhaa.Pu Go.Proofs.Ytncogjpmboglhaa.Rw

end Go.Proofs.Ytncogjpmboglhaa.Pr

namespace Go.Proofs.Ytncogjpmboglhaa.At
open Go.RowKit Go.Sort Go.Proofs.Ytncogjpmboglhaa.Va Go.Proofs.Ytncogjpmboglhaa.In

end Go.Proofs.Ytncogjpmboglhaa.At

namespace Go.Proofs.Ytncogjpmboglhaa.At
open Go.RowKit Go.Sort Go.Proofs.Ytncogjpmboglhaa.Va Go.Proofs.Ytncogjpmboglhaa.In

end Go.Proofs.Ytncogjpmboglhaa.At
