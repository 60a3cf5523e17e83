/-
  What a round of AdvertsOnce leaves: a right broker that has seen just what was met. No program here.
  Same of two lists of constraints, of the statements' own package. Condition: lists far below a machine's length.
-/
import Derived.Test.YtonoadjmglkhaaaGreatV031
import Derived.Test.YtonoadjmglkhaaaGreatV021
import Derived.Test.YtonoadjmglkhaaaGreatV033
import Derived.Test.YtonoadjmglkhaaaGreatV007
import Derived.Test.YtonoadjmglkhaaaGreatV023
import Derived.Lib.Hide
import Derived.Lib.QuietBelow
import Derived.BigQuiet
namespace Go.Proofs.YtonoadjmglkhaaaGreat.Av
open Go.RowKit Go.Sort Go.Proofs.YtonoadjmglkhaaaGreat Go.Proofs.YtonoadjmglkhaaaGreat.Rw Go.Proofs.YtonoadjmglkhaaaGreat.Nm Go.Proofs.YtonoadjmglkhaaaGreat.Pr Go.Proofs.YtonoadjmglkhaaaGreat.Bk

structure OnceI (b : Br) (s : List XID) (n : Nat) : Prop where
  ok : OkBr b
  near : b.near = [1, 2]
  ent : b.ent = []
  own : b.own = []
  mem : ∀ l, l ∈ s ↔ l ∈ b.seen
  len : s.length = b.seen.length
  sn : b.seen.length ≤ n
  an : b.adv.length ≤ n
  fp : ∀ a ∈ b.adv, a.p.length ≤ 900
theorem once_new : OnceI (newB0 5 [1, 2]) [] 0 :=
  ⟨⟨by simp, List.Pairwise.nil, List.Pairwise.nil, List.Pairwise.nil, List.Pairwise.nil, fun a h => by simp at h, fun a h => by simp at h, fun a h => by simp at h⟩, rfl, rfl, rfl, fun l => by simp, rfl, Nat.le_refl _, Nat.le_refl _, fun a h => by simp at h⟩
theorem insAt_len {α : Type} (l : List α) (k : Nat) (x : α) : (insAt l k x).length = l.length + 1 := by
  unfold insAt
  simp only [List.length_append, List.length_cons, List.length_nil, List.length_take, List.length_drop]
  omega
theorem once_learn {b : Br} {s : List XID} {n : Nat} (h : OnceI b s n) (x : XID) (p : List C5) (par : Int) (hp : par = 1 ∨ par = 2) (hq : Wr.rightP p = true) (hl : p.length ≤ 900) :
    OnceI (learnB b ⟨x, p, par⟩).1 (putS s x) (n + 1) ∧ (learnB b ⟨x, p, par⟩).2 = !decide (x ∈ s) ∧ x ∈ (learnB b ⟨x, p, par⟩).1.seen := by
  have hc : comesB b.near par = true := by
    rw [h.near]
    rcases hp with rfl | rfl <;> decide
  have H := learn_ok h.ok ⟨x, p, par⟩ hc hq
  by_cases hin : x ∈ b.seen
  · rw [learnB_in (a := ⟨x, p, par⟩) hin] at H ⊢
    have hs : x ∈ s := (h.mem x).2 hin
    refine ⟨⟨H, h.near, h.ent, h.own, fun l => ?_, ?_, Nat.le_succ_of_le h.sn, Nat.le_succ_of_le h.an, h.fp⟩, by simp [hs], hin⟩
    · rw [putS, if_pos hs]; exact h.mem l
    · rw [putS, if_pos hs]; exact h.len
  · rw [learnB_out (a := ⟨x, p, par⟩) hin] at H ⊢
    have hs : x ∉ s := fun q => hin ((h.mem x).1 q)
    refine ⟨⟨H, h.near, h.ent, h.own, fun l => ?_, ?_, ?_, ?_, fun a ha => ?_⟩, by simp [hs], (mem_ins _ _ _ _).2 (Or.inl rfl)⟩
    · rw [putS, if_neg hs, List.mem_append, List.mem_singleton, h.mem l]
      exact ⟨fun q => (mem_ins _ _ _ _).2 q.symm, fun q => ((mem_ins _ _ _ _).1 q).symm⟩
    · rw [putS, if_neg hs, List.length_append, h.len]
      show _ = (insAt _ _ _).length
      rw [insAt_len]
      rfl
    · exact Nat.le_trans (Nat.le_of_eq (insAt_len _ _ _)) (Nat.succ_le_succ h.sn)
    · exact Nat.le_trans (Nat.le_of_eq (insAt_len _ _ _)) (Nat.succ_le_succ h.an)
    · rcases (mem_ins _ _ _ _).1 ha with rfl | ha
      · exact hl
      · exact h.fp a ha
theorem once_forget {b : Br} {s : List XID} {n : Nat} (h : OnceI b s n) (x : XID) {a : Ad} (ha : findA b.adv x = some a) :
    OnceI (forgetF b x a.par).1 s n ∧ (forgetF b x a.par).2 = true ∧ findA (forgetF b x a.par).1.adv x = none ∧ (forgetF b x a.par).1.seen = b.seen := by
  have H := forget_ok h.ok x a.par
  have hf : forgetF b x a.par = ({ b with adv := b.adv.filter fun e => decide (e.id ≠ x), ent := b.ent.filter fun e => decide (e.tree ≠ x) }, true) := by
    unfold forgetF
    rw [ha]
    exact if_pos rfl
  rw [hf] at H ⊢
  refine ⟨⟨H, h.near, by simp [h.ent], h.own, h.mem, h.len, h.sn, Nat.le_trans (List.length_filter_le _ _) h.an, fun e he => h.fp e (List.mem_filter.1 he).1⟩, rfl, ?_, rfl⟩
  cases hg : findA (b.adv.filter fun e => decide (e.id ≠ x)) x with
  | none => rfl
  | some z =>
    obtain ⟨z1, z2⟩ := findA_some hg
    exact absurd z2 (of_decide_eq_true (List.mem_filter.1 z1).2)
theorem OnceI.few {b : Br} {s : List XID} {n : Nat} (h : OnceI b s n) (hn : n ≤ 900) : Few b :=
  ⟨by rw [h.near]; decide, Nat.le_trans h.an hn, Nat.le_trans h.sn hn, by rw [h.ent]; decide, by rw [h.own]; decide⟩
theorem OnceI.fewp {b : Br} {s : List XID} {n : Nat} (h : OnceI b s n) : FewP b :=
  ⟨h.fp, by rw [h.ent]; simp, by rw [h.own]; simp⟩
theorem OnceI.tame {b : Br} {s : List XID} {n : Nat} (h : OnceI b s n) : TameB b :=
  ⟨fun a ha => tame_right (h.ok.oks a ha).2.2, by rw [h.ent]; simp, by rw [h.own]; simp⟩
end Go.Proofs.YtonoadjmglkhaaaGreat.Av

namespace Go.Proofs.YtonoadjmglkhaaaGreat.Pr
open Go.RowKit Go.Sort Go.Proofs.YtonoadjmglkhaaaGreat Go.Proofs.YtonoadjmglkhaaaGreat.Pu Go.Proofs.YtonoadjmglkhaaaGreat.Rw Go.Proofs.YtonoadjmglkhaaaGreat.Va

/-- Are the lists the same? -/
def sameC : List C5 → List C5 → Bool
  | [], [] => true
  | x :: l, y :: m => eqlC x y && sameC l m
  | _, _ => false
theorem sameC_len : ∀ l m, sameC l m = true → l.length = m.length
  | [], [], _ => rfl
  | x :: l, y :: m, h => by
    simp only [sameC, Bool.and_eq_true] at h
    simp [sameC_len l m h.2]
  | [], y :: m, h => by simp [sameC] at h
  | x :: l, [], h => by simp [sameC] at h
theorem sameC_all : ∀ l m, l.length = m.length → (∀ (k : Nat) (x y : C5), l[k]? = some x → m[k]? = some y → eqlC x y = true) → sameC l m = true
  | [], [], _, _ => rfl
  | x :: l, y :: m, hl, h => by
    simp only [sameC, Bool.and_eq_true]
    exact ⟨h 0 x y rfl rfl, sameC_all l m (by simpa using hl) (fun k a b ha hb => h (k + 1) a b (by simpa using ha) (by simpa using hb))⟩
  | [], y :: m, hl, _ => by simp at hl
  | x :: l, [], hl, _ => by simp at hl
theorem sameC_not : ∀ (l m : List C5) (k : Nat) (x y : C5), l[k]? = some x → m[k]? = some y → eqlC x y = false → sameC l m = false
  | [], _, k, x, y, h, _, _ => by simp at h
  | _ :: _, [], k, x, y, _, h, _ => by simp at h
  | a :: l, b :: m, 0, x, y, h1, h2, h3 => by
    simp at h1 h2
    subst h1 h2
    simp [sameC, h3]
  | a :: l, b :: m, k + 1, x, y, h1, h2, h3 => by
    simp only [sameC, sameC_not l m k x y (by simpa using h1) (by simpa using h2) h3, Bool.and_false]
theorem sameC_iff : ∀ l m : List C5, sameC l m = true ↔ l = m
  | [], [] => by simp [sameC]
  | x :: l, y :: m => by
    simp only [sameC, Bool.and_eq_true, eqlC_iff, sameC_iff l m, List.cons.injEq]
  | [], y :: m => by simp [sameC]
  | x :: l, [] => by simp [sameC]
theorem sameC_refl (l : List C5) : sameC l l = true := (sameC_iff l l).2 rfl

set_option maxRecDepth 100000 in
set_option maxHeartbeats 4000000 in
theorem sameC_any (av_ bv : Value) (l m : List C5) (w : World) (ha : RowC w av_ l) (hb : RowC w bv m) (hl : l.length ≤ 1000000) (_hm : m.length ≤ 1000000) :
    Calls Tryz.prog 44 #[av_, bv] w fun e w' => e = .returned (.bool (sameC l m)) ∧ Below w.heap.size w w' := by
  have HA := Lib.hid ha
  have HB := Lib.hid hb
  obtain ⟨ao, ac, rfl⟩ := ha.len
  obtain ⟨bo, bc, rfl⟩ := hb.len
  clear ha hb
  by_cases hlen : l.length = m.length
  · have HL := Lib.hid hlen
    rw [← hlen] at HB ⊢
    generalize hn : l.length = n at *
    have HN := Lib.hid hn
    clear hlen hn
    go_enter Tryz.func44, Tryz.ntmps44
    go_wp2
    go_loopw [5] (fun i wr => ∃ k : Nat, k ≤ n ∧ i = .int .i64 k ∧ Below w.heap.size w wr ∧ ∀ (j : Nat) (x y : C5), j < k → l[j]? = some x → m[j]? = some y → eqlC x y = true) (fun i _ => n - (intOf i).toNat)
    case atStart => exact ⟨0, Nat.zero_le _, rfl, Below.refl _ _, fun j x y h => by omega⟩
    case round =>
      obtain ⟨k, hk, rfl, hbe, hall⟩ := hrel
      have BE := Lib.hid hbe
      have AL := Lib.hid hall
      clear hbe hall
      by_cases hlt : k < n
      · obtain ⟨x, hx⟩ : ∃ x, l[k]? = some x := ⟨_, List.getElem?_eq_getElem (by rw [HN.out]; exact hlt)⟩
        obtain ⟨y, hy⟩ : ∃ y, m[k]? = some y := ⟨_, List.getElem?_eq_getElem (by rw [← HL.out]; exact hlt)⟩
        obtain ⟨p, ix, px⟩ := elC HA.out rfl HN.out hx
        obtain ⟨q, iy, py⟩ := elC HB.out rfl HL.out.symm hy
        have p0 := cell_regrown (px _ BE.out).1
        have p1 := cell_regrown (px _ BE.out).2.1
        have p2 := cell_regrown (px _ BE.out).2.2.1
        have p3 := cell_regrown (px _ BE.out).2.2.2.1
        have p4 := cell_regrown (px _ BE.out).2.2.2.2
        have q0 := cell_regrown (py _ BE.out).1
        have q1 := cell_regrown (py _ BE.out).2.1
        have q2 := cell_regrown (py _ BE.out).2.2.1
        have q3 := cell_regrown (py _ BE.out).2.2.2.1
        have q4 := cell_regrown (py _ BE.out).2.2.2.2
        clear px py
        obtain ⟨r, hr⟩ : ∃ r, eqlC x y = r := ⟨_, rfl⟩
        have hne := neqC x y r hr
        have HX := Lib.hid hx
        have HY := Lib.hid hy
        have HR := Lib.hid hr
        clear hx hy hr
        cases r
        · have R := Lib.hid (show sameC l m = false from sameC_not l m k x y HX.out HY.out HR.out)
          go_wp2
          refine wp_region_quiet_below (by kernel_rfl) (by kernel_rfl) ?_
          repeat (go_big_quiet_step (fail))
          refine wpQuiet_nil ?_
          intro _ hw'
          obtain ⟨⟨dq, osq⟩, hw''⟩ := hw'
          subst hw''
          go_wp2
          go_ret
          exact ⟨ret_bool R.out.symm, BE.out.trans ((below_regrown wr dq osq).mono BE.out.size)⟩
        · go_wp2
          refine wp_region_quiet_below (by kernel_rfl) (by kernel_rfl) ?_
          repeat (go_big_quiet_step (fail))
          refine wpQuiet_nil ?_
          intro _ hw'
          obtain ⟨⟨dq, osq⟩, hw''⟩ := hw'
          subst hw''
          clear ix iy p0 p1 p2 p3 p4 q0 q1 q2 q3 q4 hne
          go_wp2
          go_roundw
          case rel => exact ⟨k + 1, by omega, by go_num, BE.out.trans ((below_regrown wr dq osq).mono BE.out.size), fun j x' y' hj h1 h2 => by
            rcases Nat.lt_or_ge j k with h3 | h3
            · exact AL.out j x' y' h3 h1 h2
            · obtain rfl : j = k := by omega
              have e1 := HX.out
              have e2 := HY.out
              rw [h1] at e1
              rw [h2] at e2
              rw [Option.some.inj e1, Option.some.inj e2]
              exact HR.out⟩
          case measure => simp [intOf]; omega
      · obtain rfl : k = n := by omega
        have R := Lib.hid (show sameC l m = true from sameC_all l m (by rw [HN.out]; exact HL.out) (fun j a b h1 h2 => AL.out j a b (by have := (List.getElem?_eq_some_iff.1 h1).1; have := HN.out; omega) h1 h2))
        go_wp2
        go_ret
        exact ⟨ret_bool R.out.symm, BE.out⟩
  · have R := Lib.hid (show sameC l m = false by
      cases h : sameC l m
      · rfl
      · exact absurd (sameC_len _ _ h) hlen)
    have hne : (((l.length : Nat) : Int) != ((m.length : Nat) : Int)) = true := by simp; omega
    have hne2 : (((l.length : Nat) : Int) == ((m.length : Nat) : Int)) = false := by simp; omega
    clear hlen
    go_enter Tryz.func44, Tryz.ntmps44
    go_wp2
    go_ret
    exact ⟨ret_bool R.out.symm, Below.refl _ _⟩

end Go.Proofs.YtonoadjmglkhaaaGreat.Pr
