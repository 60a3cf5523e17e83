/-
  New of package adverts. Condition: at most 900 neighbours told.
  Names and pick of the statements' own packages. Condition: numbers of 64 bits; lists no longer than a machine holds.
  Constraint of the statements' own package: a constraint of a number. Condition: numbers of 64 bits.
-/
import Derived.Test.YtonoadjmglkhaaaGreatU031
import Derived.Test.YtonoadjmglkhaaaGreatU017
import Derived.Test.YtonoadjmglkhaaaGreatU018
import Derived.Test.YtonoadjmglkhaaaGreatU010
import Derived.WalkKit
import Derived.Test.YtonoadjmglkhaaaGreatU002
import Derived.Deep.RegionWith
import Derived.IntWalk
namespace Go.Proofs.YtonoadjmglkhaaaGreat.Av
open Go.RowKit Go.Proofs.YtonoadjmglkhaaaGreat Go.Proofs.YtonoadjmglkhaaaGreat.Rw Go.Proofs.YtonoadjmglkhaaaGreat.Nm Go.Proofs.YtonoadjmglkhaaaGreat.Pr Go.Proofs.YtonoadjmglkhaaaGreat.Bk Go.Sort

/-- A broker that knows nothing but who is near. -/
abbrev newB0 (me : Int) (near : List Int) : Br := ⟨me, near, [], [], [], []⟩
set_option maxRecDepth 100000 in
set_option maxHeartbeats 8000000 in
theorem anew_any (me : Int) (v : Sl) (l : List Int) (w : World) (hv : RowI w (slv v) l) (hl : l.length ≤ 900) :
    Calls Tryz.prog 6 #[.int .i64 me, slv v] w fun e w' => (∃ (l' : List Int) (nv : Sl), e = .returned (brv me nv (none, 0, 0) (none, 0, 0) (none, 0, 0) (none, 0, 0)) ∧ BrIn w' (newB0 me l') nv (none, 0, 0) (none, 0, 0) (none, 0, 0) (none, 0, 0) ∧ (∃ B, OwnI w' B (slv nv) l') ∧ l'.Pairwise (· < ·) ∧ ∀ x, x ∈ l' ↔ x ∈ l) ∧ Below w.heap.size w w' := by
  have n0 := newB w (.cells #[.int .i64 0, .slice none 0 0, .slice none 0 0, .slice none 0 0, .slice none 0 0, .slice none 0 0] 29)
  have X := Lib.hid (box_new w #[.int .i64 0, .slice none 0 0, .slice none 0 0, .slice none 0 0, .slice none 0 0, .slice none 0 0] 29)
  have C := Lib.hid (cloneI_any v l _ (hv.on n0) hl)
  have B0 := Lib.hid n0
  have HL := Lib.hid hl
  obtain ⟨vo, vn, vc⟩ := v
  clear hv hl n0
  go_enter Tryz.func6, Tryz.ntmps6
  go_wp2_with fail
  generalize w.alloc (.cells #[.int .i64 0, .slice none 0 0, .slice none 0 0, .slice none 0 0, .slice none 0 0, .slice none 0 0] 29) = W at *
  refine C.out.mono ?_
  rintro e1 w1 ⟨⟨⟨p1, p2, p3⟩, rfl, ho⟩, hb⟩
  have B1 := Lib.hid (B0.out.trans (hb.mono B0.out.size))
  have X1 := Lib.hid (X.out.on hb)
  have hlt : w.heap.size < W.heap.size := X.out.lt
  have C2 := Lib.hid (sortI_any w1 W.heap.size _ l ho HL.out)
  have OT := Lib.hid (fun g hg => (ho.lt g hg).1)
  have HW := Lib.hid hlt
  clear hb ho C X
  go_wp2_with fail
  refine C2.out.mono ?_
  rintro e2 w2 ⟨rfl, l2, ho2, hp2, hs2, hg2⟩
  have B2 := Lib.hid (B1.out.grown hg2 B1.out.size (fun j hj => Nat.le_trans (Nat.le_of_lt HW.out) (OT.out j hj)))
  have X2 := Lib.hid (show Box w2 w.heap.size _ _ from (hg2.block _ X1.out.lt (fun e => by have := OT.out _ e.symm; have := HW.out; omega)).trans X1.out)
  have C3 := Lib.hid (cptI_any w2 W.heap.size (p1, p2, p3) l2 ho2 hs2 (by rw [hp2.length_eq]; exact HL.out))
  have PM := Lib.hid hp2
  have OT2 := Lib.hid (fun g hg => (ho2.lt g hg).1)
  clear ho2 hp2 hs2 hg2 C2 OT X1
  go_wp2_with fail
  refine C3.out.mono ?_
  rintro e3 w3 ⟨⟨⟨t1, t2, t3⟩, rfl, l3, ho3, hs3, hm3⟩, hg3⟩
  have B3 := Lib.hid (B2.out.grown hg3 B2.out.size (fun j hj => Nat.le_trans (Nat.le_of_lt HW.out) (OT2.out j hj)))
  have Y := show Box w3 w.heap.size _ _ from (hg3.block _ X2.out.lt (fun e => by have := OT2.out _ e.symm; have := HW.out; omega)).trans X2.out
  have y0 := Y.cell 0
  have y1 := Y.cell 1
  have y2 := Y.cell 2
  have y3 := Y.cell 3
  have y4 := Y.cell 4
  have y5 := Y.cell 5
  have f0 := Y.fr 0
  have f1 := Y.fr 1
  have f2 := Y.fr 2
  have f3 := Y.fr 3
  have f4 := Y.fr 4
  have f5 := Y.fr 5
  simp only [List.getElem?_toArray, List.getElem?_cons_zero, List.getElem?_cons_succ] at y0 y1 y2 y3 y4 y5
  have zz := Y.lt
  have FB := Lib.hid (setB_box Y (.int .i64 me) (.slice t1 t2 t3) (.slice none 0 0) (.slice none 0 0) (.slice none 0 0) (.slice none 0 0))
  have FL := Lib.hid (setB_below (b := w.heap.size) B3.out (Nat.le_refl _) (.int .i64 me) (.slice t1 t2 t3) (.slice none 0 0) (.slice none 0 0) (.slice none 0 0) (.slice none 0 0))
  have FO := Lib.hid (setB_ownA ho3 w.heap.size HW.out (.int .i64 me) (.slice t1 t2 t3) (.slice none 0 0) (.slice none 0 0) (.slice none 0 0) (.slice none 0 0))
  have Q := Lib.hid (show l3.Pairwise (· < ·) ∧ ∀ x, x ∈ l3 ↔ x ∈ l from ⟨hs3, fun x => (hm3 x).trans PM.out.mem_iff⟩)
  clear ho3 hs3 hm3 hg3 Y X2 C3 B2 B1 B0
  go_wp2_with fail
  have v0 := FB.out.cell 0
  have v1 := FB.out.cell 1
  have v2 := FB.out.cell 2
  have v3 := FB.out.cell 3
  have v4 := FB.out.cell 4
  have v5 := FB.out.cell 5
  simp at v0 v1 v2 v3 v4 v5
  refine bodyPost_ret (v := .agg #[.int .i64 me, .slice t1 t2 t3, .slice none 0 0, .slice none 0 0, .slice none 0 0, .slice none 0 0]) (by simp [results, Tryz.results6, go_sem, v0, v1, v2, v3, v4, v5]) rfl ?_
  exact ⟨⟨l3, (t1, t2, t3), rfl, ⟨Row.of_own FO.out, ⟨[], row_nil _, .nil⟩, row_nil _, ⟨[], row_nil _, .nil⟩, ⟨[], row_nil _, .nil⟩⟩, ⟨_, FO.out⟩, Q.out.1, Q.out.2⟩, FL.out⟩
end Go.Proofs.YtonoadjmglkhaaaGreat.Av

namespace Go.Proofs.YtonoadjmglkhaaaGreat.Kp
open Go.RowKit Go.Proofs.YtonoadjmglkhaaaGreat.Va Go.Proofs.YtonoadjmglkhaaaGreat.In

/-- The names of attributes. -/
def nm (i : Nat) : ByteArray := ⟨#[UInt8.ofNat (97 + i)]⟩
def nmCells : Array Value := #[.string ⟨#[97]⟩, .string ⟨#[98]⟩, .string ⟨#[99]⟩, .string ⟨#[100]⟩, .string ⟨#[101]⟩, .string ⟨#[102]⟩, .string ⟨#[103]⟩]
theorem nm_at (i : Nat) (h : i < 7) : nmCells[i]? = some (.string (nm i)) := by
  match i, h with
  | 0, _ => rfl
  | 1, _ => rfl
  | 2, _ => rfl
  | 3, _ => rfl
  | 4, _ => rfl
  | 5, _ => rfl
  | 6, _ => rfl
theorem names_any (w : World) : Calls Tryz.prog 25 #[] w fun e w' => e = .returned (.slice (some ⟨w.heap.size, 0, none⟩) 7 7) ∧ w' = w.alloc (.cells nmCells 9) := by
  go_enter Tryz.func25, Tryz.ntmps25
  go_wp2
  go_ret
  exact ⟨rfl, rfl⟩

def pickZ (zs : List Int) (i : Nat) : Int := if zs = [] then 0 else zs.getD (i % zs.length) 0
set_option maxHeartbeats 400000 in
theorem pick_any (nv : Value) (zs : List Int) (i : Nat) (w : World) (hz : InInts w nv zs) (hl : zs.length ≤ maxLen) (hi : i ≤ 100) :
    Calls Tryz.prog 27 #[nv, .int .i64 i] w fun e w' => e = .returned (.int .i64 (pickZ zs i)) ∧ w = w' := by
  obtain ⟨ao, cap, rfl⟩ := hz.shape
  unfold maxLen at hl
  cases zs with
  | nil =>
    go_enter Tryz.func27, Tryz.ntmps27
    go_wp2
    go_ret
    exact ⟨rfl, rfl⟩
  | cons z r =>
    have hm : i % (z :: r).length < (z :: r).length := Nat.mod_lt _ (by simp)
    obtain ⟨y, hy⟩ : ∃ y, (z :: r)[i % (z :: r).length]? = some y := ⟨_, List.getElem?_eq_getElem hm⟩
    obtain ⟨_, p, _, hix, hpc⟩ := hz.at_ _ y hy
    have P := Lib.hid (show pickZ (z :: r) i = y by unfold pickZ; rw [if_neg (by simp), List.getD_eq_getElem?_getD, hy]; rfl)
    have h0 : ((((z :: r).length : Nat) : Int) == 0) = false := by simp; omega
    have hne : (((z :: r).length : Nat) : Int) ≠ 0 := by simp; omega
    have ht : (i : Int) % ((z :: r).length : Nat) = ((i % (z :: r).length : Nat) : Int) := rfl
    have ht2 : (i : Int).tmod ((z :: r).length : Nat) = ((i % (z :: r).length : Nat) : Int) := by
      rw [Int.tmod_eq_emod_of_nonneg (by omega)]; rfl
    have hn0 : 0 < (((z :: r).length : Nat) : Int) := by simp
    generalize (z :: r).length = n at *
    generalize i % n = m at *
    clear hz hy hm
    go_enter Tryz.func27, Tryz.ntmps27
    go_wp2
    go_ret
    exact ⟨Wi.ret_int P.out.symm, rfl⟩

/-- Is the attribute of that place there? -/
def odd (z : Int) : Bool := bits BinOp.and IntKind.i64 z 1 == 1
theorem pickZ_bd {W : World} {nv : Value} {zs : List Int} (hz : InInts W nv zs) (i : Nat) : -9223372036854775808 ≤ pickZ zs i ∧ pickZ zs i ≤ 9223372036854775807 := by
  unfold pickZ
  split
  · omega
  · rename_i h
    have hm : i % zs.length < zs.length := Nat.mod_lt _ (List.length_pos_iff.2 h)
    have := (hz.at_ _ _ (List.getElem?_eq_getElem hm)).1
    rw [List.getD_eq_getElem?_getD, List.getElem?_eq_getElem hm]
    exact this

end Go.Proofs.YtonoadjmglkhaaaGreat.Kp

namespace Go.Proofs.YtonoadjmglkhaaaGreat.Pr
open Go.RowKit Go.Proofs.YtonoadjmglkhaaaGreat Go.Proofs.YtonoadjmglkhaaaGreat.Pu Go.Proofs.YtonoadjmglkhaaaGreat.Rw Go.Proofs.YtonoadjmglkhaaaGreat.Va Go.Proofs.YtonoadjmglkhaaaGreat.Kp

def lo9 (n : Int) : Int := Wi.within (n.tdiv 4) 0 9
def tx6 (n : Int) : ByteArray := txtAt (Wi.within (n.tdiv 4) 0 6)
/-- What a number's constraint asks. -/
def kdOf (n : Int) : Kd := if Wi.within n 0 3 = 0 ∨ Wi.within n 0 3 = 1 then .rg (lo9 n) (lo9 n + Wi.within (n.tdiv 40) 0 9) else if Wi.within n 0 3 = 2 then .tx (tx6 n) else .pr (tx6 n)
theorem kdOf_good (n : Int) : goodK (kdOf n) = true := by
  unfold kdOf
  have hw := Wi.within_bd (n.tdiv 40) 0 9 (by omega)
  have ht : (tx6 n).size ≤ 3 := txt_size _
  split
  · simp only [goodK, decide_eq_true_eq]; omega
  · split
    · simp only [goodK, decide_eq_true_eq]; omega
    · simp only [goodK, decide_eq_true_eq]; omega
theorem tdiv_bd (n k : Int) (hk : 1 ≤ k) (h1 : -9223372036854775808 ≤ n) (h2 : n ≤ 9223372036854775807) : -9223372036854775808 ≤ n.tdiv k ∧ n.tdiv k ≤ 9223372036854775807 := by
  rcases Int.le_total 0 n with h | h
  · rw [Int.tdiv_eq_ediv_of_nonneg h]
    have a := Int.ediv_nonneg h (show 0 ≤ k by omega)
    have b := Int.ediv_le_self k h
    omega
  · have e : n.tdiv k = -((-n) / k) := by rw [← Int.tdiv_eq_ediv_of_nonneg (by omega), Int.neg_tdiv, Int.neg_neg]
    have a := Int.ediv_nonneg (show 0 ≤ -n by omega) (show 0 ≤ k by omega)
    have b := Int.ediv_le_self k (show 0 ≤ -n by omega)
    omega

set_option maxRecDepth 100000 in
set_option maxHeartbeats 8000000 in
theorem constraint_any (nm_ : ByteArray) (n : Int) (w : World) (h1 : -9223372036854775808 ≤ n) (h2 : n ≤ 9223372036854775807) :
    Calls Tryz.prog 26 #[.string nm_, .int .i64 n] w fun e w' => e = .returned (cv (r5 (nm_, kdOf n))) ∧ Below w.heap.size w w' := by
  have b4 := tdiv_bd n 4 (by decide) h1 h2
  have b40 := tdiv_bd n 40 (by decide) h1 h2
  have q4 : IntKind.i64.wrap (n.tdiv 4) = n.tdiv 4 := IntWalk.i64_in _ b4
  have q40 : IntKind.i64.wrap (n.tdiv 40) = n.tdiv 40 := IntWalk.i64_in _ b40
  have W3 := Lib.hid (fun wx => Wi.within_any n 0 3 wx (by omega) (by omega) (by omega) h1 h2)
  have W9 := Lib.hid (fun wx => Wi.within_any (n.tdiv 4) 0 9 wx (by omega) (by omega) (by omega) b4.1 b4.2)
  have W6 := Lib.hid (fun wx => Wi.within_any (n.tdiv 4) 0 6 wx (by omega) (by omega) (by omega) b4.1 b4.2)
  have V9 := Lib.hid (fun wx => Wi.within_any (n.tdiv 40) 0 9 wx (by omega) (by omega) (by omega) b40.1 b40.2)
  have d3 := Wi.within_bd n 0 3 (by omega)
  have d9 := Wi.within_bd (n.tdiv 4) 0 9 (by omega)
  have d6 := Wi.within_bd (n.tdiv 4) 0 6 (by omega)
  have e9 := Wi.within_bd (n.tdiv 40) 0 9 (by omega)
  have KD : kdOf n = if Wi.within n 0 3 = 0 ∨ Wi.within n 0 3 = 1 then .rg (Wi.within (n.tdiv 4) 0 9) (Wi.within (n.tdiv 4) 0 9 + Wi.within (n.tdiv 40) 0 9) else if Wi.within n 0 3 = 2 then .tx (txtAt (Wi.within (n.tdiv 4) 0 6)) else .pr (txtAt (Wi.within (n.tdiv 4) 0 6)) := rfl
  have TX := Lib.hid (txts_at (Wi.within (n.tdiv 4) 0 6) d6.1 d6.2)
  generalize Wi.within n 0 3 = r at *
  generalize Wi.within (n.tdiv 4) 0 9 = p at *
  generalize Wi.within (n.tdiv 4) 0 6 = q at *
  generalize Wi.within (n.tdiv 40) 0 9 = s at *
  have hs : IntKind.i64.wrap (p + s) = p + s := IntWalk.i64_in _ (by omega)
  have hr : r = 0 ∨ r = 1 ∨ r = 2 ∨ r = 3 := by omega
  have D6 := Lib.hid d6
  clear b4 b40 h1 h2 d3 d9 e9 d6
  rcases hr with rfl | rfl | rfl | rfl
  · have K := Lib.hid (show kdOf n = .rg p (p + s) by rw [KD]; rfl)
    clear KD
    go_enter Tryz.func26, Tryz.ntmps26
    go_wp2_with fail
    refine (W3.out _).mono ?_
    rintro e1 w1 ⟨rfl, rfl⟩
    go_wp2_with fail
    refine (W9.out _).mono ?_
    rintro e2 w2 ⟨rfl, rfl⟩
    go_wp2_with fail
    go_region_with (go_at_call 7; refine (V9.out _).mono ?_; rintro e w' ⟨rfl, rfl⟩)
    all_goals go_wp2_with fail
    all_goals exact bodyPost_ret (v := cv (r5 (nm_, .rg p (p + s)))) (by simp [results, Tryz.results26, go_sem, r5, kN, kLo, kHi, kT]) rfl ⟨by rw [K.out], (((Below.refl _ _).alloc (Nat.le_refl _) _).alloc (by simp) _).drew⟩
  · have K := Lib.hid (show kdOf n = .rg p (p + s) by rw [KD]; rfl)
    clear KD
    go_enter Tryz.func26, Tryz.ntmps26
    go_wp2_with fail
    refine (W3.out _).mono ?_
    rintro e1 w1 ⟨rfl, rfl⟩
    go_wp2_with fail
    refine (W9.out _).mono ?_
    rintro e2 w2 ⟨rfl, rfl⟩
    go_wp2_with fail
    go_region_with (go_at_call 7; refine (V9.out _).mono ?_; rintro e w' ⟨rfl, rfl⟩)
    all_goals go_wp2_with fail
    all_goals exact bodyPost_ret (v := cv (r5 (nm_, .rg p (p + s)))) (by simp [results, Tryz.results26, go_sem, r5, kN, kLo, kHi, kT]) rfl ⟨by rw [K.out], (((Below.refl _ _).alloc (Nat.le_refl _) _).alloc (by simp) _).drew⟩
  · have K := Lib.hid (show kdOf n = .tx (txtAt q) by rw [KD]; rfl)
    have tx := TX.out
    have d6 := D6.out
    have d61 := d6.1
    have d62 : q < 7 := by omega
    clear KD d6
    go_enter Tryz.func26, Tryz.ntmps26
    go_wp2_with fail
    refine (W3.out _).mono ?_
    rintro e1 w1 ⟨rfl, rfl⟩
    go_wp2_with fail
    go_region_with (first | (go_at_call 7; refine (W6.out _).mono ?_; rintro e w' ⟨rfl, rfl⟩) | (go_at_call 77; refine (texts_any _).mono ?_; rintro e w' ⟨rfl, rfl⟩))
    all_goals go_wp2_with fail
    all_goals exact bodyPost_ret (v := cv (r5 (nm_, .tx (txtAt q)))) (by simp [results, Tryz.results26, go_sem, r5, kN, kLo, kHi, kT]) rfl ⟨by rw [K.out], ((((Below.refl _ _).alloc (Nat.le_refl _) _).alloc (by simp) _).alloc (by simp; omega) _).drew⟩
  · have K := Lib.hid (show kdOf n = .pr (txtAt q) by rw [KD]; rfl)
    have tx := TX.out
    have d6 := D6.out
    have d61 := d6.1
    have d62 : q < 7 := by omega
    clear KD d6
    go_enter Tryz.func26, Tryz.ntmps26
    go_wp2_with fail
    refine (W3.out _).mono ?_
    rintro e1 w1 ⟨rfl, rfl⟩
    go_wp2_with fail
    go_region_with (first | (go_at_call 7; refine (W6.out _).mono ?_; rintro e w' ⟨rfl, rfl⟩) | (go_at_call 77; refine (texts_any _).mono ?_; rintro e w' ⟨rfl, rfl⟩))
    all_goals go_wp2_with fail
    all_goals exact bodyPost_ret (v := cv (r5 (nm_, .pr (txtAt q)))) (by simp [results, Tryz.results26, go_sem, r5, kN, kLo, kHi, kT]) rfl ⟨by rw [K.out], ((((Below.refl _ _).alloc (Nat.le_refl _) _).alloc (by simp) _).alloc (by simp; omega) _).drew⟩
end Go.Proofs.YtonoadjmglkhaaaGreat.Pr
