/-
  Pred of the statements' own package: a right predicate of numbers. Condition: numbers of 64 bits; lists no longer than a machine holds.
  Message of the statements' own package: a right message of numbers. Condition: numbers of 64 bits; lists no longer than a machine holds.
-/
import Derived.Test.YtfcgfnmokbbcaaaDoorU036
import Derived.Test.YtfcgfnmokbbcaaaDoorU009
import Derived.Test.YtfcgfnmokbbcaaaDoorU007
namespace Go.Proofs.YtfcgfnmokbbcaaaDoor.Pr
open Go.RowKit Go.Proofs.YtfcgfnmokbbcaaaDoor Go.Proofs.YtfcgfnmokbbcaaaDoor.Pu Go.Proofs.YtfcgfnmokbbcaaaDoor.Rw Go.Proofs.YtfcgfnmokbbcaaaDoor.Va Go.Proofs.YtfcgfnmokbbcaaaDoor.Kp Go.Proofs.YtfcgfnmokbbcaaaDoor.In

/-- The predicate that numbers make, up to place i. -/
def prd (has vals : List Int) : Nat → List Cn
  | 0 => []
  | i + 1 => if i < has.length ∧ odd (has.getD i 0) = true ∧ (prd has vals i).length < 5 then prd has vals i ++ [(nm i, kdOf (pickZ vals i))] else prd has vals i
theorem prd_len (has vals : List Int) : ∀ k, (prd has vals k).length ≤ k
  | 0 => Nat.le_refl _
  | k + 1 => by
    have h := prd_len has vals k
    simp only [prd]
    split
    · simp; omega
    · omega
theorem prd_five (has vals : List Int) : ∀ k, (prd has vals k).length ≤ 5
  | 0 => by simp [prd]
  | k + 1 => by
    have h := prd_five has vals k
    simp only [prd]
    split
    · rename_i hc; simp; omega
    · exact h
theorem prd_names (has vals : List Int) : ∀ k, ∀ x ∈ prd has vals k, ∃ i, i < k ∧ x.1 = nm i
  | 0, x, h => by simp [prd] at h
  | k + 1, x, h => by
    simp only [prd] at h
    split at h
    · rcases List.mem_append.1 h with h | h
      · obtain ⟨i, h1, h2⟩ := prd_names has vals k x h
        exact ⟨i, by omega, h2⟩
      · simp at h
        exact ⟨k, by omega, by rw [h]⟩
    · obtain ⟨i, h1, h2⟩ := prd_names has vals k x h
      exact ⟨i, by omega, h2⟩
theorem prd_good (has vals : List Int) : ∀ k, ∀ x ∈ prd has vals k, goodK x.2 = true
  | 0, x, h => by simp [prd] at h
  | k + 1, x, h => by
    simp only [prd] at h
    split at h
    · rcases List.mem_append.1 h with h | h
      · exact prd_good has vals k x h
      · simp at h
        rw [h]; exact kdOf_good _
    · exact prd_good has vals k x h
theorem nm_less (i j : Nat) (h : i < j) (hj : j < 7) : Op.bytesLess (nm i).toList (nm j).toList = true := by
  rw [ByteArray.toList_eq, ByteArray.toList_eq]
  have : ∀ j : Fin 7, ∀ i : Fin 7, i.val < j.val → Op.bytesLess (nm i.val).data.toList (nm j.val).data.toList = true := by decide
  exact this ⟨j, hj⟩ ⟨i, by omega⟩ h
theorem prd_rise (has vals : List Int) : ∀ k, k ≤ 7 → RiseC (prd has vals k)
  | 0, _ => by simp [prd, RiseC]
  | k + 1, hk => by
    have h := prd_rise has vals k (by omega)
    simp only [prd]
    split
    · refine List.pairwise_append.2 ⟨h, List.pairwise_singleton _ _, fun x hx y hy => ?_⟩
      obtain ⟨i, h1, h2⟩ := prd_names has vals k x hx
      simp at hy
      rw [hy, h2]
      exact nm_less i k h1 (by omega)
    · exact h
theorem row_oneC (w : World) (c : C5) : RowC (w.alloc (.cells #[.string c.1, .int .i64 c.2.1, .int .i64 c.2.2.1, .int .i64 c.2.2.2.1, .string c.2.2.2.2] 57)) (.slice (some ⟨w.heap.size, 0, none⟩) 1 1) [c] :=
  Row.of_own (row_lit okC w [c] 1 rfl (by simp) _ rfl)

set_option maxRecDepth 100000 in
set_option maxHeartbeats 4000000 in
theorem pred_any (hv vv : Value) (has vals : List Int) (w : World) (hh : InInts w hv has) (hw : InInts w vv vals) (lh : has.length ≤ maxLen) (lv : vals.length ≤ maxLen) :
    Calls Tryd.prog 32 #[.agg #[hv, vv]] w fun e w' => ∃ v, e = .returned v ∧ OwnC w' w.heap.size v ((prd has vals 7).map r5) ∧ Below w.heap.size w w' := by
  have HH := Lib.hid hh
  have HW := Lib.hid hw
  have LH := Lib.hid lh
  have LV := Lib.hid lv
  clear hh hw lh lv
  go_enter Tryd.func32, Tryd.ntmps32
  go_wp2_with fail
  refine (names_any _).mono ?_
  rintro e1 w1 ⟨rfl, rfl⟩
  go_wp2
  go_loopw [3, 8] (fun lv i wr => ∃ k : Nat, k ≤ 7 ∧ i = .int .i64 k ∧ OwnC wr (w.heap.size + 2) lv ((prd has vals k).map r5) ∧
    Below (w.heap.size + 2) ((w.alloc (.cells #[hv, vv] 39)).alloc (.cells nmCells 9)) wr) (fun _ i _ => 7 - (intOf i).toNat)
  case atStart => exact ⟨0, by omega, rfl, own_nil _ _, Below.refl _ _⟩
  case round =>
    obtain ⟨k, hk, rfl, hown, hb⟩ := hrel
    have HO := Lib.hid hown
    have HB := Lib.hid hb
    have T0 : Below w.heap.size w ((w.alloc (.cells #[hv, vv] 39)).alloc (.cells nmCells 9)) := ((Below.refl _ _).alloc (Nat.le_refl _) _).alloc (by simp) _
    have BW := Lib.hid (T0.trans (hb.mono (by omega)))
    have hsz : w.heap.size + 2 ≤ wr.heap.size := by have := hb.size; simp at this; omega
    clear T0
    obtain ⟨ro, rcap, hrl⟩ := (Row.of_own hown).len
    rw [List.length_map] at hrl
    have hl5 := prd_len has vals k
    by_cases h7 : k < 7
    · have n0 : wr.cell? ⟨w.heap.size + 1, k, none⟩ = some (.string (nm k)) := by
        rw [hb.cell (p := ⟨w.heap.size + 1, k, none⟩) (by simp), World.cell?_alloc_at _ _ _ _ (by simp)]; exact nm_at k h7
      have b0 : wr.cell? ⟨w.heap.size, 0, none⟩ = some hv := by
        rw [hb.cell (p := ⟨w.heap.size, 0, none⟩) (by simp), World.cell?_alloc_lt _ _ _ (by simp), World.cell?_alloc_at _ _ _ _ rfl]; rfl
      have b1 : wr.cell? ⟨w.heap.size, 1, none⟩ = some vv := by
        rw [hb.cell (p := ⟨w.heap.size, 1, none⟩) (by simp), World.cell?_alloc_lt _ _ _ (by simp), World.cell?_alloc_at _ _ _ _ rfl]; rfl
      have IH := Lib.hid (HH.out.on BW.out)
      obtain ⟨ao, acap, hsh⟩ := HH.out.shape
      clear hb hown
      subst hsh
      subst hrl
      have hkk : (k : Int) < 7 := by omega
      by_cases h1 : k < has.length
      · obtain ⟨y, hy⟩ : ∃ y, has[k]? = some y := ⟨_, List.getElem?_eq_getElem h1⟩
        have hg : has.getD k 0 = y := by rw [List.getD_eq_getElem?_getD, hy]; rfl
        obtain ⟨_, p, _, hix, hpc⟩ := IH.out.at_ k y hy
        cases ho : odd y
        · have T := Lib.hid (show prd has vals (k + 1) = prd has vals k by simp only [prd]; rw [if_neg]; rintro ⟨_, h2, _⟩; rw [hg, ho] at h2; cases h2)
          have hodd : (bits BinOp.and IntKind.i64 y 1 == 1) = false := ho
          clear ho hy hg
          go_wp2
          go_roundw
          case rel => exact ⟨k + 1, by omega, by go_num, by rw [T.out]; exact HO.out, HB.out⟩
          case measure => simp [intOf]; omega
        · have hodd : (bits BinOp.and IntKind.i64 y 1 == 1) = true := ho
          by_cases h5 : (prd has vals k).length < 5
          · have T := Lib.hid (show (prd has vals (k + 1)).map r5 = (prd has vals k).map r5 ++ [r5 (nm k, kdOf (pickZ vals k))] by simp only [prd]; rw [if_pos ⟨h1, by rw [hg, ho], h5⟩, List.map_append]; rfl)
            have PK := Lib.hid (fun (W : World) (hW : Below w.heap.size w W) => pick_any vv vals k W (HW.out.on hW) LV.out (by omega))
            have bd := pickZ_bd HW.out k
            have KV := Lib.hid (fun W => constraint_any (nm k) (pickZ vals k) W bd.1 bd.2)
            clear ho hy hg bd
            go_wp2_with fail
            refine (PK.out _ BW.out).mono ?_
            rintro e1 w1 ⟨rfl, rfl⟩
            go_wp2_with fail
            refine (KV.out _).mono ?_
            rintro e2 w2 ⟨rfl, hb2⟩
            have B2 := Lib.hid hb2
            have O2 := Lib.hid (own_on HO.out hb2)
            have hs2 := hb2.size
            clear hb2
            generalize r5 (nm k, kdOf (pickZ vals k)) = c at T ⊢
            have O3a := Lib.hid (O2.out.alloc (.cells #[.string c.1, .int .i64 c.2.1, .int .i64 c.2.2.1, .int .i64 c.2.2.2.1, .string c.2.2.2.2] 57))
            obtain ⟨v3, w3, r3, o3, g3⟩ := app_row okC (w.heap.size + 2) O3a.out (row_oneC w2 c) (by simp; omega) (by simp) (by simp; omega) 29
            have O3 := Lib.hid o3
            have hbel : Below (w.heap.size + 2) wr w3 := ((B2.out.mono hsz).alloc (by omega) _).grown g3 (by simp; omega) (fun j hj => (O3a.out.lt j hj).1)
            have B3 := Lib.hid (HB.out.trans hbel)
            clear o3 g3 hbel
            go_wp2_with (first | (at_builtin; refine wpList_append_run rfl _ _ 29 rfl rfl rfl r3 ?_) | fail)
            clear r3
            go_wp2
            go_roundw
            case rel => exact ⟨k + 1, by omega, by go_num, by rw [T.out]; exact O3.out, B3.out⟩
            case measure => simp [intOf]; omega
          · have T := Lib.hid (show prd has vals (k + 1) = prd has vals k by simp only [prd]; rw [if_neg]; rintro ⟨_, _, h2⟩; exact h5 h2)
            clear ho hy hg
            go_wp2
            go_roundw
            case rel => exact ⟨k + 1, by omega, by go_num, by rw [T.out]; exact HO.out, HB.out⟩
            case measure => simp [intOf]; omega
      · have T := Lib.hid (show prd has vals (k + 1) = prd has vals k by simp only [prd]; rw [if_neg]; rintro ⟨h2, _⟩; exact h1 h2)
        go_wp2
        go_roundw
        case rel => exact ⟨k + 1, by omega, by go_num, by rw [T.out]; exact HO.out, HB.out⟩
        case measure => simp [intOf]; omega
    · obtain rfl : k = 7 := by omega
      clear hb hown
      go_wp2
      go_ret
      exact ⟨_, rfl, own_less (by omega) HO.out, BW.out⟩
end Go.Proofs.YtfcgfnmokbbcaaaDoor.Pr

namespace Go.Proofs.YtfcgfnmokbbcaaaDoor.Wr
open Go.RowKit Go.Sort Go.Proofs.YtfcgfnmokbbcaaaDoor Go.Proofs.YtfcgfnmokbbcaaaDoor.Rw Go.Proofs.YtfcgfnmokbbcaaaDoor.Nm Go.Proofs.YtfcgfnmokbbcaaaDoor.At Go.Proofs.YtfcgfnmokbbcaaaDoor.Pr Go.Proofs.YtfcgfnmokbbcaaaDoor.Wi Go.Proofs.YtfcgfnmokbbcaaaDoor.In

/-- Numbers of which a message is made. -/
structure Kg where
  kd : Int
  cl : Int
  sq : Int
  ow : Int
  nm : Int
  ph : List Int
  pv : List Int
  th : List Int
  tv : List Int
def Kg.k (g : Kg) : Int := within g.kd 1 5
/-- The message that they make. -/
def Kg.m (g : Kg) : Mg := ⟨g.k, within g.cl 0 4, within g.sq 0 4, if 3 ≤ g.k then within g.ow 0 4 else 0, if 3 ≤ g.k then within g.nm 0 4 else 0, if g.k = 1 ∨ g.k = 3 then (prd g.ph g.pv 7).map r5 else [], if g.k = 5 then tup g.th g.tv 7 else []⟩
abbrev kgv (g : Kg) (a b c d : Value) : Value := .agg #[.int .i64 g.kd, .int .i64 g.cl, .int .i64 g.sq, .int .i64 g.ow, .int .i64 g.nm, a, b, c, d]
structure KgIn (W : World) (g : Kg) (a b c d : Value) : Prop where
  kd : I64 g.kd
  cl : I64 g.cl
  sq : I64 g.sq
  ow : I64 g.ow
  nm : I64 g.nm
  a : InInts W a g.ph
  b : InInts W b g.pv
  c : InInts W c g.th
  d : InInts W d g.tv
  la : g.ph.length ≤ maxLen
  lb : g.pv.length ≤ maxLen
  lc : g.th.length ≤ maxLen
  ld : g.tv.length ≤ maxLen
theorem owns_set {w : World} {B k n c rb : Nat} {e : TypeId} {v : Value} {xs : List Value} (h : w.ownsRow B e k v n xs) (hB : rb < B) (x : Value) : (w.setCell ⟨rb, c, none⟩ x).ownsRow B e k v n xs :=
  h.kept (row := some rb) (grown_set w rb c x) (by
    cases hv : v.ownBlock with
    | none => exact Or.inl rfl
    | some g => exact Or.inr fun e => by have h1 := (h.lt g hv).1; cases e; omega)
theorem own_slice {w : World} {B k n : Nat} {e : TypeId} {v : Value} {xs : List Value} (h : w.ownsRow B e k v n xs) : ∃ o c, v = .slice o n c := by
  rcases h.2 with ⟨h1, h2⟩ | ⟨g, cap, cur, h1, _⟩
  · exact ⟨none, 0, by rw [h1, h2]⟩
  · exact ⟨_, _, h1⟩
theorem box_apart {W : World} {b d k : Nat} {cs : Array Value} {t : TypeId} (h : Box W d cs t) (hne : d ≠ b) (v : Value) : Box (W.setCell ⟨b, k, none⟩ v) d cs t := by
  unfold Box at h ⊢
  rw [RowKit.Below.heap_setCell _ _ _ _ hne]
  exact h
theorem rowA_own {w : World} {B : Nat} {v : Value} {l : List A4} (h : w.ownsRow B 61 4 v l.length (flatA l)) : RowA w v l := RowA.of_owns h
/-- All seven places written. -/
def set7 (w : World) (b : Nat) (m : Mg) (pv lv : Value) : World := (((((((w.setCell ⟨b, 0, none⟩ (.int .i64 m.k)).setCell ⟨b, 1, none⟩ (.int .i64 m.tc)).setCell ⟨b, 2, none⟩ (.int .i64 m.ts)).setCell ⟨b, 3, none⟩ (.int .i64 m.ic)).setCell ⟨b, 4, none⟩ (.int .i64 m.is)).setCell ⟨b, 5, none⟩ pv).setCell ⟨b, 6, none⟩ lv)
theorem set7_box {w : World} {b : Nat} {c0 c1 c2 c3 c4 c5 c6 : Value} (h : Box w b #[c0, c1, c2, c3, c4, c5, c6] 32) (m : Mg) (pv lv : Value) : Box (set7 w b m pv lv) b (mcells m pv lv) 32 := by
  have h1 : Box (w.setCell ⟨b, 0, none⟩ (.int .i64 m.k)) b #[.int .i64 m.k, c1, c2, c3, c4, c5, c6] 32 := box_set (k := 0) h (.int .i64 m.k)
  have h2 : Box ((w.setCell ⟨b, 0, none⟩ (.int .i64 m.k)).setCell ⟨b, 1, none⟩ (.int .i64 m.tc)) b #[.int .i64 m.k, .int .i64 m.tc, c2, c3, c4, c5, c6] 32 := box_set (k := 1) h1 (.int .i64 m.tc)
  have h3 : Box (((w.setCell ⟨b, 0, none⟩ (.int .i64 m.k)).setCell ⟨b, 1, none⟩ (.int .i64 m.tc)).setCell ⟨b, 2, none⟩ (.int .i64 m.ts)) b #[.int .i64 m.k, .int .i64 m.tc, .int .i64 m.ts, c3, c4, c5, c6] 32 := box_set (k := 2) h2 (.int .i64 m.ts)
  have h4 : Box ((((w.setCell ⟨b, 0, none⟩ (.int .i64 m.k)).setCell ⟨b, 1, none⟩ (.int .i64 m.tc)).setCell ⟨b, 2, none⟩ (.int .i64 m.ts)).setCell ⟨b, 3, none⟩ (.int .i64 m.ic)) b #[.int .i64 m.k, .int .i64 m.tc, .int .i64 m.ts, .int .i64 m.ic, c4, c5, c6] 32 := box_set (k := 3) h3 (.int .i64 m.ic)
  have h5 : Box (((((w.setCell ⟨b, 0, none⟩ (.int .i64 m.k)).setCell ⟨b, 1, none⟩ (.int .i64 m.tc)).setCell ⟨b, 2, none⟩ (.int .i64 m.ts)).setCell ⟨b, 3, none⟩ (.int .i64 m.ic)).setCell ⟨b, 4, none⟩ (.int .i64 m.is)) b #[.int .i64 m.k, .int .i64 m.tc, .int .i64 m.ts, .int .i64 m.ic, .int .i64 m.is, c5, c6] 32 := box_set (k := 4) h4 (.int .i64 m.is)
  have h6 : Box ((((((w.setCell ⟨b, 0, none⟩ (.int .i64 m.k)).setCell ⟨b, 1, none⟩ (.int .i64 m.tc)).setCell ⟨b, 2, none⟩ (.int .i64 m.ts)).setCell ⟨b, 3, none⟩ (.int .i64 m.ic)).setCell ⟨b, 4, none⟩ (.int .i64 m.is)).setCell ⟨b, 5, none⟩ (pv)) b #[.int .i64 m.k, .int .i64 m.tc, .int .i64 m.ts, .int .i64 m.ic, .int .i64 m.is, pv, c6] 32 := box_set (k := 5) h5 (pv)
  have h7 : Box (((((((w.setCell ⟨b, 0, none⟩ (.int .i64 m.k)).setCell ⟨b, 1, none⟩ (.int .i64 m.tc)).setCell ⟨b, 2, none⟩ (.int .i64 m.ts)).setCell ⟨b, 3, none⟩ (.int .i64 m.ic)).setCell ⟨b, 4, none⟩ (.int .i64 m.is)).setCell ⟨b, 5, none⟩ (pv)).setCell ⟨b, 6, none⟩ (lv)) b #[.int .i64 m.k, .int .i64 m.tc, .int .i64 m.ts, .int .i64 m.ic, .int .i64 m.is, pv, lv] 32 := box_set (k := 6) h6 (lv)
  exact h7
theorem set7_below {B : Nat} {W w : World} (hb : Below B W w) {b : Nat} (h : B ≤ b) (m : Mg) (pv lv : Value) : Below B W (set7 w b m pv lv) :=
  ((((((hb.setCell (p := ⟨b, 0, none⟩) h _).setCell (p := ⟨b, 1, none⟩) h _).setCell (p := ⟨b, 2, none⟩) h _).setCell (p := ⟨b, 3, none⟩) h _).setCell (p := ⟨b, 4, none⟩) h _).setCell (p := ⟨b, 5, none⟩) h _).setCell (p := ⟨b, 6, none⟩) h _
theorem set7_owns {w : World} {B k n rb : Nat} {e : TypeId} {v : Value} {xs : List Value} (h : w.ownsRow B e k v n xs) (hB : rb < B) (m : Mg) (pv lv : Value) : (set7 w rb m pv lv).ownsRow B e k v n xs :=
  owns_set (owns_set (owns_set (owns_set (owns_set (owns_set (owns_set h hB _) hB _) hB _) hB _) hB _) hB _) hB _
set_option maxRecDepth 100000 in
set_option maxHeartbeats 16000000 in
theorem message_any (g : Kg) (a b c d : Value) (w : World) (h : KgIn w g a b c d) :
    Calls Tryd.prog 12 #[kgv g a b c d] w fun e w' => (∃ pv lv, e = .returned (mv g.m pv lv) ∧ MgIn w' g.m pv lv) ∧ Below w.heap.size w w' := by
  obtain ⟨kd, cl, sq, ow, nm, ph, pv, th, tv⟩ := g
  obtain ⟨ao, ac, rfl⟩ := h.a.shape
  obtain ⟨bo, bc, rfl⟩ := h.b.shape
  obtain ⟨co, cc, rfl⟩ := h.c.shape
  obtain ⟨do_, dc, rfl⟩ := h.d.shape
  have KD := Lib.hid h.kd
  have CL := Lib.hid h.cl
  have SQ := Lib.hid h.sq
  have OW := Lib.hid h.ow
  have NM := Lib.hid h.nm
  have B1 := Lib.hid (new_below w (.cells #[.int .i64 kd, .int .i64 cl, .int .i64 sq, .int .i64 ow, .int .i64 nm, .slice ao ph.length ac, .slice bo pv.length bc, .slice co th.length cc, .slice do_ tv.length dc] 42))
  have X1 := Lib.hid (box_new w #[.int .i64 kd, .int .i64 cl, .int .i64 sq, .int .i64 ow, .int .i64 nm, .slice ao ph.length ac, .slice bo pv.length bc, .slice co th.length cc, .slice do_ tv.length dc] 42)
  obtain ⟨w1, hw1⟩ : ∃ w1, w1 = w.alloc (.cells #[.int .i64 kd, .int .i64 cl, .int .i64 sq, .int .i64 ow, .int .i64 nm, .slice ao ph.length ac, .slice bo pv.length bc, .slice co th.length cc, .slice do_ tv.length dc] 42) := ⟨_, rfl⟩
  have SZ := Lib.hid (show w1.heap.size = w.heap.size + 1 by rw [hw1]; simp)
  rw [← hw1] at B1 X1
  have B2 := Lib.hid (B1.out.alloc B1.out.size (.cells zeroM 32))
  have Z1 := Lib.hid (new_below w1 (.cells zeroM 32))
  have X2 := Lib.hid (X1.out.more (.cells zeroM 32))
  have R2 := Lib.hid (box_new w1 zeroM 32)
  have S2 := Lib.hid (show (w1.alloc (.cells zeroM 32)).heap.size = w.heap.size + 2 by have := SZ.out; simp; omega)
  have IA := Lib.hid (h.a.on B2.out)
  have IB := Lib.hid (h.b.on B2.out)
  have IC := Lib.hid (h.c.on B2.out)
  have ID := Lib.hid (h.d.on B2.out)
  have LA := Lib.hid h.la
  have LB := Lib.hid h.lb
  have LC := Lib.hid h.lc
  have LD := Lib.hid h.ld
  obtain ⟨pl, hpl⟩ : ∃ pl, (prd ph pv 7).map r5 = pl := ⟨_, rfl⟩
  obtain ⟨tl, htl⟩ : ∃ tl, tup th tv 7 = tl := ⟨_, rfl⟩
  obtain ⟨M, hM⟩ : ∃ M, (Kg.mk kd cl sq ow nm ph pv th tv).m = M := ⟨_, rfl⟩
  have MM := Lib.hid (show M = ⟨within kd 1 5, within cl 0 4, within sq 0 4, if 3 ≤ within kd 1 5 then within ow 0 4 else 0, if 3 ≤ within kd 1 5 then within nm 0 4 else 0, if within kd 1 5 = 1 ∨ within kd 1 5 = 3 then pl else [], if within kd 1 5 = 5 then tl else []⟩ by rw [← hM, ← hpl, ← htl]; rfl)
  have GM := Lib.hid hM
  have PL := Lib.hid hpl
  have TL := Lib.hid htl
  have HW := Lib.hid hw1
  have KB := within_bd kd 1 5 (by decide)
  clear h hw1 hM hpl htl B1 Z1 X1
  rw [GM.out]
  go_enter Tryd.func12, Tryd.ntmps12
  go_upto_region 1 with fail
  rw [← HW.out]
  have hcells : ∀ x, Below (w1.alloc (.cells zeroM 32)).heap.size (w1.alloc (.cells zeroM 32)) x → x.cell? ⟨w.heap.size, 0, none⟩ = some (.int .i64 kd) ∧ x.cell? ⟨w.heap.size, 1, none⟩ = some (.int .i64 cl) ∧ x.cell? ⟨w.heap.size, 2, none⟩ = some (.int .i64 sq) := fun x hx => by
    have h := X2.out.on hx
    exact ⟨h.cell 0, h.cell 1, h.cell 2⟩
  refine msg_r1 _ (w1.alloc (.cells zeroM 32)) w.heap.size kd cl sq _ _ _ _ _ _ _ _ _ _ _ _ _ _ _ _ _ _ _ _ _ _ _ _ _ _ _ _ _ _ _ _ _ _ _ _ _ _ _ _ _ _ _ _ _ KD.out CL.out SQ.out hcells ?_
  intro x bb v4 v5 v6 v7 v8 v9 v10 v11 v12 v13 v14 hbx hbb hbl
  have hbx : Box x bb #[.int .i64 (within kd 1 5), .int .i64 (within cl 0 4), .int .i64 (within sq 0 4), .int .i64 0, .int .i64 0, .slice none 0 0, .slice none 0 0] 32 := hbx
  clear hcells
  generalize within kd 1 5 = k at *
  generalize within cl 0 4 = tc at *
  generalize within sq 0 4 = ts at *
  have BX := Lib.hid hbx
  have HBB := Lib.hid hbb
  have BL := Lib.hid hbl
  have XK := Lib.hid (X2.out.on hbl)
  have XR := Lib.hid (R2.out.on hbl)
  clear hbx hbb hbl X2 R2 KD CL SQ GM
  have n0 := BX.out.cell 0
  simp only [List.getElem?_toArray, List.getElem?_cons_zero] at n0
  simp only [Exit.then]
  apply_assumption
  rcases (by omega : k = 1 ∨ k = 2 ∨ k = 3 ∨ k = 4 ∨ k = 5) with rfl | rfl | rfl | rfl | rfl
  · have ME := Lib.hid (show M = ⟨1, tc, ts, 0, 0, pl, []⟩ by rw [MM.out]; simp)
    clear MM
    have k5 := XK.out.cell 5
    have k6 := XK.out.cell 6
    simp only [List.getElem?_toArray, List.getElem?_cons_zero, List.getElem?_cons_succ] at k5 k6
    go_wp2_with fail
    refine (pred_any _ _ ph pv x (IA.out.on BL.out) (IB.out.on BL.out) LA.out LB.out).mono ?_
    rintro e x2 ⟨vp, rfl, ho, hb⟩
    rw [PL.out] at ho
    obtain ⟨po, pc, rfl⟩ := own_slice ho
    have BB := Lib.hid (BX.out.on hb)
    have RB := Lib.hid (XR.out.on hb)
    have HO := Lib.hid ho
    have HB := Lib.hid (BL.out.trans (hb.mono BL.out.size))
    have HLT := Lib.hid BX.out.lt
    have HRT := Lib.hid XR.out.lt
    clear ho hb
    clear n0
    have n0 := BB.out.cell 0
    have n1 := BB.out.cell 1
    have n2 := BB.out.cell 2
    have n3 := BB.out.cell 3
    have n4 := BB.out.cell 4
    have n5 := BB.out.cell 5
    have n6 := BB.out.cell 6
    have f5 := BB.out.fr 5
    have f6 := BB.out.fr 6
    have q0 := RB.out.cell 0
    have g0 := RB.out.fr 0
    have q1 := RB.out.cell 1
    have g1 := RB.out.fr 1
    have q2 := RB.out.cell 2
    have g2 := RB.out.fr 2
    have q3 := RB.out.cell 3
    have g3 := RB.out.fr 3
    have q4 := RB.out.cell 4
    have g4 := RB.out.fr 4
    have q5 := RB.out.cell 5
    have g5 := RB.out.fr 5
    have q6 := RB.out.cell 6
    have g6 := RB.out.fr 6
    have hne : ¬ (w.heap.size + 1 = bb) := by have := HBB.out; have := S2.out; omega
    have hne2 : ¬ (bb = w.heap.size + 1) := fun e => hne e.symm
    rw [SZ.out] at q0 g0 q1 g1 q2 g2 q3 g3 q4 g4 q5 g5 q6 g6
    simp only [zeroM, List.getElem?_toArray, List.getElem?_cons_zero, List.getElem?_cons_succ] at n0 q0 n1 q1 n2 q2 n3 q3 n4 q4 n5 q5 n6 q6
    go_wp2_with fail
    have RS : Box (x2.setCell ⟨bb, 5, none⟩ (.slice po pl.length pc)) (w.heap.size + 1) zeroM 32 := by
      have h := RB.out
      rw [SZ.out] at h
      exact box_apart h hne _
    have R7 := set7_box RS ⟨1, tc, ts, 0, 0, pl, []⟩ (.slice po pl.length pc) (.slice none 0 0)
    have z0 := R7.cell 0
    have z1 := R7.cell 1
    have z2 := R7.cell 2
    have z3 := R7.cell 3
    have z4 := R7.cell 4
    have z5 := R7.cell 5
    have z6 := R7.cell 6
    simp only [set7, mcells, List.getElem?_toArray, List.getElem?_cons_zero, List.getElem?_cons_succ] at z0 z1 z2 z3 z4 z5 z6
    have HW7 : World.ownsRow (set7 (x2.setCell ⟨bb, 5, none⟩ (.slice po pl.length pc)) (w.heap.size + 1) ⟨1, tc, ts, 0, 0, pl, []⟩ (.slice po pl.length pc) (.slice none 0 0)) x.heap.size 57 EC.n (.slice po pl.length pc) pl.length (flat EC pl) := set7_owns (owns_set HO.out HLT.out _) (by have := HRT.out; have := SZ.out; omega) _ _ _
    refine bodyPost_ret (v := mv ⟨1, tc, ts, 0, 0, pl, []⟩ (.slice po pl.length pc) (.slice none 0 0)) (by simp [results, Tryd.results12, go_sem, z0, z1, z2, z3, z4, z5, z6]) rfl ?_
    have HI : MgIn (set7 (x2.setCell ⟨bb, 5, none⟩ (.slice po pl.length pc)) (w.heap.size + 1) ⟨1, tc, ts, 0, 0, pl, []⟩ (.slice po pl.length pc) (.slice none 0 0)) ⟨1, tc, ts, 0, 0, pl, []⟩ (.slice po pl.length pc) (.slice none 0 0) := ⟨Row.of_own HW7, Or.inl ⟨rfl, rfl⟩⟩
    rw [ME.out]
    refine ⟨⟨(.slice po pl.length pc), (.slice none 0 0), rfl, HI⟩, ?_⟩
    exact set7_below ((B2.out.trans (HB.out.mono B2.out.size)).setCell (p := ⟨bb, 5, none⟩) (by have := HBB.out; have := S2.out; show w.heap.size ≤ bb; omega) _) (by omega) ⟨1, tc, ts, 0, 0, pl, []⟩ (.slice po pl.length pc) (.slice none 0 0)
  · have ME := Lib.hid (show M = ⟨2, tc, ts, 0, 0, [], []⟩ by rw [MM.out]; simp)
    clear MM
    have BB := Lib.hid BX.out
    have RB := Lib.hid XR.out
    have HB := Lib.hid BL.out
    clear n0
    have n0 := BB.out.cell 0
    have n1 := BB.out.cell 1
    have n2 := BB.out.cell 2
    have n3 := BB.out.cell 3
    have n4 := BB.out.cell 4
    have n5 := BB.out.cell 5
    have n6 := BB.out.cell 6
    have f5 := BB.out.fr 5
    have f6 := BB.out.fr 6
    have q0 := RB.out.cell 0
    have g0 := RB.out.fr 0
    have q1 := RB.out.cell 1
    have g1 := RB.out.fr 1
    have q2 := RB.out.cell 2
    have g2 := RB.out.fr 2
    have q3 := RB.out.cell 3
    have g3 := RB.out.fr 3
    have q4 := RB.out.cell 4
    have g4 := RB.out.fr 4
    have q5 := RB.out.cell 5
    have g5 := RB.out.fr 5
    have q6 := RB.out.cell 6
    have g6 := RB.out.fr 6
    have hne : ¬ (w.heap.size + 1 = bb) := by have := HBB.out; have := S2.out; omega
    have hne2 : ¬ (bb = w.heap.size + 1) := fun e => hne e.symm
    rw [SZ.out] at q0 g0 q1 g1 q2 g2 q3 g3 q4 g4 q5 g5 q6 g6
    simp only [zeroM, List.getElem?_toArray, List.getElem?_cons_zero, List.getElem?_cons_succ] at n0 q0 n1 q1 n2 q2 n3 q3 n4 q4 n5 q5 n6 q6
    go_wp2_with fail
    have RS : Box x (w.heap.size + 1) zeroM 32 := by
      have h := RB.out
      rw [SZ.out] at h
      exact h
    have R7 := set7_box RS ⟨2, tc, ts, 0, 0, [], []⟩ (.slice none 0 0) (.slice none 0 0)
    have z0 := R7.cell 0
    have z1 := R7.cell 1
    have z2 := R7.cell 2
    have z3 := R7.cell 3
    have z4 := R7.cell 4
    have z5 := R7.cell 5
    have z6 := R7.cell 6
    simp only [set7, mcells, List.getElem?_toArray, List.getElem?_cons_zero, List.getElem?_cons_succ] at z0 z1 z2 z3 z4 z5 z6
    refine bodyPost_ret (v := mv ⟨2, tc, ts, 0, 0, [], []⟩ (.slice none 0 0) (.slice none 0 0)) (by simp [results, Tryd.results12, go_sem, z0, z1, z2, z3, z4, z5, z6]) rfl ?_
    have HI : MgIn (set7 x (w.heap.size + 1) ⟨2, tc, ts, 0, 0, [], []⟩ (.slice none 0 0) (.slice none 0 0)) ⟨2, tc, ts, 0, 0, [], []⟩ (.slice none 0 0) (.slice none 0 0) := ⟨Or.inl ⟨rfl, rfl⟩, Or.inl ⟨rfl, rfl⟩⟩
    rw [ME.out]
    refine ⟨⟨(.slice none 0 0), (.slice none 0 0), rfl, HI⟩, ?_⟩
    exact set7_below (B2.out.trans (HB.out.mono B2.out.size)) (by omega) ⟨2, tc, ts, 0, 0, [], []⟩ (.slice none 0 0) (.slice none 0 0)
  · have ME := Lib.hid (show M = ⟨3, tc, ts, within ow 0 4, within nm 0 4, pl, []⟩ by rw [MM.out]; simp)
    clear MM
    go_upto_region 3 with fail
    refine msg_r3 _ x w.heap.size bb ow nm 3 tc ts _ _ _ _ _ _ _ _ _ _ _ _ _ _ _ _ _ _ _ _ _ _ _ _ _ _ _ _ _ _ _ _ _ _ _ _ _ _ _ _ _ _ _ _ OW.out NM.out (fun y hy => ⟨(XK.out.on hy).cell 3, (XK.out.on hy).cell 4⟩) BX.out ?_
    intro v18 v19 v20 v21 v22 v23 v24 v25 hbx2
    have HM := Lib.hid hbx2
    have HL := Lib.hid ((BL.out.drew.setCell (p := ⟨bb, 3, none⟩) HBB.out (.int .i64 (within ow 0 4))).setCell (p := ⟨bb, 4, none⟩) HBB.out (.int .i64 (within nm 0 4)))
    have hnk : w.heap.size ≠ bb := by have := HBB.out; have := S2.out; omega
    have hnr : w1.heap.size ≠ bb := by have := HBB.out; have := S2.out; have := SZ.out; omega
    have HK := Lib.hid (box_apart (k := 4) (box_apart (k := 3) (show Box x.drew w.heap.size _ _ from XK.out) hnk (.int .i64 (within ow 0 4))) hnk (.int .i64 (within nm 0 4)))
    have HR := Lib.hid (box_apart (k := 4) (box_apart (k := 3) (show Box x.drew w1.heap.size _ _ from XR.out) hnr (.int .i64 (within ow 0 4))) hnr (.int .i64 (within nm 0 4)))
    clear hbx2 BX BL XK XR
    generalize (x.drew.setCell ⟨bb, 3, none⟩ (.int .i64 (within ow 0 4))).setCell ⟨bb, 4, none⟩ (.int .i64 (within nm 0 4)) = x' at *
    generalize within ow 0 4 = ow' at *
    generalize within nm 0 4 = nm' at *
    clear hbx
    have m0 := HM.out.cell 0
    simp only [List.getElem?_toArray, List.getElem?_cons_zero] at m0
    simp only [Exit.then]
    apply_assumption
    have k5 := HK.out.cell 5
    have k6 := HK.out.cell 6
    simp only [List.getElem?_toArray, List.getElem?_cons_zero, List.getElem?_cons_succ] at k5 k6
    go_wp2_with fail
    refine (pred_any _ _ ph pv x' (IA.out.on HL.out) (IB.out.on HL.out) LA.out LB.out).mono ?_
    rintro e x2 ⟨vp, rfl, ho, hb⟩
    rw [PL.out] at ho
    obtain ⟨po, pc, rfl⟩ := own_slice ho
    have BB := Lib.hid (HM.out.on hb)
    have RB := Lib.hid (HR.out.on hb)
    have HO := Lib.hid ho
    have HB := Lib.hid (HL.out.trans (hb.mono HL.out.size))
    have HLT := Lib.hid HM.out.lt
    have HRT := Lib.hid HR.out.lt
    clear ho hb
    clear n0 m0
    have n0 := BB.out.cell 0
    have n1 := BB.out.cell 1
    have n2 := BB.out.cell 2
    have n3 := BB.out.cell 3
    have n4 := BB.out.cell 4
    have n5 := BB.out.cell 5
    have n6 := BB.out.cell 6
    have f5 := BB.out.fr 5
    have f6 := BB.out.fr 6
    have q0 := RB.out.cell 0
    have g0 := RB.out.fr 0
    have q1 := RB.out.cell 1
    have g1 := RB.out.fr 1
    have q2 := RB.out.cell 2
    have g2 := RB.out.fr 2
    have q3 := RB.out.cell 3
    have g3 := RB.out.fr 3
    have q4 := RB.out.cell 4
    have g4 := RB.out.fr 4
    have q5 := RB.out.cell 5
    have g5 := RB.out.fr 5
    have q6 := RB.out.cell 6
    have g6 := RB.out.fr 6
    have hne : ¬ (w.heap.size + 1 = bb) := by have := HBB.out; have := S2.out; omega
    have hne2 : ¬ (bb = w.heap.size + 1) := fun e => hne e.symm
    rw [SZ.out] at q0 g0 q1 g1 q2 g2 q3 g3 q4 g4 q5 g5 q6 g6
    simp only [zeroM, List.getElem?_toArray, List.getElem?_cons_zero, List.getElem?_cons_succ] at n0 q0 n1 q1 n2 q2 n3 q3 n4 q4 n5 q5 n6 q6
    go_wp2_with fail
    have RS : Box (x2.setCell ⟨bb, 5, none⟩ (.slice po pl.length pc)) (w.heap.size + 1) zeroM 32 := by
      have h := RB.out
      rw [SZ.out] at h
      exact box_apart h hne _
    have R7 := set7_box RS ⟨3, tc, ts, ow', nm', pl, []⟩ (.slice po pl.length pc) (.slice none 0 0)
    have z0 := R7.cell 0
    have z1 := R7.cell 1
    have z2 := R7.cell 2
    have z3 := R7.cell 3
    have z4 := R7.cell 4
    have z5 := R7.cell 5
    have z6 := R7.cell 6
    simp only [set7, mcells, List.getElem?_toArray, List.getElem?_cons_zero, List.getElem?_cons_succ] at z0 z1 z2 z3 z4 z5 z6
    have HW7 : World.ownsRow (set7 (x2.setCell ⟨bb, 5, none⟩ (.slice po pl.length pc)) (w.heap.size + 1) ⟨3, tc, ts, ow', nm', pl, []⟩ (.slice po pl.length pc) (.slice none 0 0)) x'.heap.size 57 EC.n (.slice po pl.length pc) pl.length (flat EC pl) := set7_owns (owns_set HO.out HLT.out _) (by have := HRT.out; have := SZ.out; omega) _ _ _
    refine bodyPost_ret (v := mv ⟨3, tc, ts, ow', nm', pl, []⟩ (.slice po pl.length pc) (.slice none 0 0)) (by simp [results, Tryd.results12, go_sem, z0, z1, z2, z3, z4, z5, z6]) rfl ?_
    have HI : MgIn (set7 (x2.setCell ⟨bb, 5, none⟩ (.slice po pl.length pc)) (w.heap.size + 1) ⟨3, tc, ts, ow', nm', pl, []⟩ (.slice po pl.length pc) (.slice none 0 0)) ⟨3, tc, ts, ow', nm', pl, []⟩ (.slice po pl.length pc) (.slice none 0 0) := ⟨Row.of_own HW7, Or.inl ⟨rfl, rfl⟩⟩
    rw [ME.out]
    refine ⟨⟨(.slice po pl.length pc), (.slice none 0 0), rfl, HI⟩, ?_⟩
    exact set7_below ((B2.out.trans (HB.out.mono B2.out.size)).setCell (p := ⟨bb, 5, none⟩) (by have := HBB.out; have := S2.out; show w.heap.size ≤ bb; omega) _) (by omega) ⟨3, tc, ts, ow', nm', pl, []⟩ (.slice po pl.length pc) (.slice none 0 0)
  · have ME := Lib.hid (show M = ⟨4, tc, ts, within ow 0 4, within nm 0 4, [], []⟩ by rw [MM.out]; simp)
    clear MM
    go_upto_region 3 with fail
    refine msg_r3 _ x w.heap.size bb ow nm 4 tc ts _ _ _ _ _ _ _ _ _ _ _ _ _ _ _ _ _ _ _ _ _ _ _ _ _ _ _ _ _ _ _ _ _ _ _ _ _ _ _ _ _ _ _ _ OW.out NM.out (fun y hy => ⟨(XK.out.on hy).cell 3, (XK.out.on hy).cell 4⟩) BX.out ?_
    intro v18 v19 v20 v21 v22 v23 v24 v25 hbx2
    have HM := Lib.hid hbx2
    have HL := Lib.hid ((BL.out.drew.setCell (p := ⟨bb, 3, none⟩) HBB.out (.int .i64 (within ow 0 4))).setCell (p := ⟨bb, 4, none⟩) HBB.out (.int .i64 (within nm 0 4)))
    have hnk : w.heap.size ≠ bb := by have := HBB.out; have := S2.out; omega
    have hnr : w1.heap.size ≠ bb := by have := HBB.out; have := S2.out; have := SZ.out; omega
    have HK := Lib.hid (box_apart (k := 4) (box_apart (k := 3) (show Box x.drew w.heap.size _ _ from XK.out) hnk (.int .i64 (within ow 0 4))) hnk (.int .i64 (within nm 0 4)))
    have HR := Lib.hid (box_apart (k := 4) (box_apart (k := 3) (show Box x.drew w1.heap.size _ _ from XR.out) hnr (.int .i64 (within ow 0 4))) hnr (.int .i64 (within nm 0 4)))
    clear hbx2 BX BL XK XR
    generalize (x.drew.setCell ⟨bb, 3, none⟩ (.int .i64 (within ow 0 4))).setCell ⟨bb, 4, none⟩ (.int .i64 (within nm 0 4)) = x' at *
    generalize within ow 0 4 = ow' at *
    generalize within nm 0 4 = nm' at *
    clear hbx
    have m0 := HM.out.cell 0
    simp only [List.getElem?_toArray, List.getElem?_cons_zero] at m0
    simp only [Exit.then]
    apply_assumption
    have BB := Lib.hid HM.out
    have RB := Lib.hid HR.out
    have HB := Lib.hid HL.out
    clear n0 m0
    have n0 := BB.out.cell 0
    have n1 := BB.out.cell 1
    have n2 := BB.out.cell 2
    have n3 := BB.out.cell 3
    have n4 := BB.out.cell 4
    have n5 := BB.out.cell 5
    have n6 := BB.out.cell 6
    have f5 := BB.out.fr 5
    have f6 := BB.out.fr 6
    have q0 := RB.out.cell 0
    have g0 := RB.out.fr 0
    have q1 := RB.out.cell 1
    have g1 := RB.out.fr 1
    have q2 := RB.out.cell 2
    have g2 := RB.out.fr 2
    have q3 := RB.out.cell 3
    have g3 := RB.out.fr 3
    have q4 := RB.out.cell 4
    have g4 := RB.out.fr 4
    have q5 := RB.out.cell 5
    have g5 := RB.out.fr 5
    have q6 := RB.out.cell 6
    have g6 := RB.out.fr 6
    have hne : ¬ (w.heap.size + 1 = bb) := by have := HBB.out; have := S2.out; omega
    have hne2 : ¬ (bb = w.heap.size + 1) := fun e => hne e.symm
    rw [SZ.out] at q0 g0 q1 g1 q2 g2 q3 g3 q4 g4 q5 g5 q6 g6
    simp only [zeroM, List.getElem?_toArray, List.getElem?_cons_zero, List.getElem?_cons_succ] at n0 q0 n1 q1 n2 q2 n3 q3 n4 q4 n5 q5 n6 q6
    go_wp2_with fail
    have RS : Box x' (w.heap.size + 1) zeroM 32 := by
      have h := RB.out
      rw [SZ.out] at h
      exact h
    have R7 := set7_box RS ⟨4, tc, ts, ow', nm', [], []⟩ (.slice none 0 0) (.slice none 0 0)
    have z0 := R7.cell 0
    have z1 := R7.cell 1
    have z2 := R7.cell 2
    have z3 := R7.cell 3
    have z4 := R7.cell 4
    have z5 := R7.cell 5
    have z6 := R7.cell 6
    simp only [set7, mcells, List.getElem?_toArray, List.getElem?_cons_zero, List.getElem?_cons_succ] at z0 z1 z2 z3 z4 z5 z6
    refine bodyPost_ret (v := mv ⟨4, tc, ts, ow', nm', [], []⟩ (.slice none 0 0) (.slice none 0 0)) (by simp [results, Tryd.results12, go_sem, z0, z1, z2, z3, z4, z5, z6]) rfl ?_
    have HI : MgIn (set7 x' (w.heap.size + 1) ⟨4, tc, ts, ow', nm', [], []⟩ (.slice none 0 0) (.slice none 0 0)) ⟨4, tc, ts, ow', nm', [], []⟩ (.slice none 0 0) (.slice none 0 0) := ⟨Or.inl ⟨rfl, rfl⟩, Or.inl ⟨rfl, rfl⟩⟩
    rw [ME.out]
    refine ⟨⟨(.slice none 0 0), (.slice none 0 0), rfl, HI⟩, ?_⟩
    exact set7_below (B2.out.trans (HB.out.mono B2.out.size)) (by omega) ⟨4, tc, ts, ow', nm', [], []⟩ (.slice none 0 0) (.slice none 0 0)
  · have ME := Lib.hid (show M = ⟨5, tc, ts, within ow 0 4, within nm 0 4, [], tl⟩ by rw [MM.out]; simp)
    clear MM
    go_upto_region 3 with fail
    refine msg_r3 _ x w.heap.size bb ow nm 5 tc ts _ _ _ _ _ _ _ _ _ _ _ _ _ _ _ _ _ _ _ _ _ _ _ _ _ _ _ _ _ _ _ _ _ _ _ _ _ _ _ _ _ _ _ _ OW.out NM.out (fun y hy => ⟨(XK.out.on hy).cell 3, (XK.out.on hy).cell 4⟩) BX.out ?_
    intro v18 v19 v20 v21 v22 v23 v24 v25 hbx2
    have HM := Lib.hid hbx2
    have HL := Lib.hid ((BL.out.drew.setCell (p := ⟨bb, 3, none⟩) HBB.out (.int .i64 (within ow 0 4))).setCell (p := ⟨bb, 4, none⟩) HBB.out (.int .i64 (within nm 0 4)))
    have hnk : w.heap.size ≠ bb := by have := HBB.out; have := S2.out; omega
    have hnr : w1.heap.size ≠ bb := by have := HBB.out; have := S2.out; have := SZ.out; omega
    have HK := Lib.hid (box_apart (k := 4) (box_apart (k := 3) (show Box x.drew w.heap.size _ _ from XK.out) hnk (.int .i64 (within ow 0 4))) hnk (.int .i64 (within nm 0 4)))
    have HR := Lib.hid (box_apart (k := 4) (box_apart (k := 3) (show Box x.drew w1.heap.size _ _ from XR.out) hnr (.int .i64 (within ow 0 4))) hnr (.int .i64 (within nm 0 4)))
    clear hbx2 BX BL XK XR
    generalize (x.drew.setCell ⟨bb, 3, none⟩ (.int .i64 (within ow 0 4))).setCell ⟨bb, 4, none⟩ (.int .i64 (within nm 0 4)) = x' at *
    generalize within ow 0 4 = ow' at *
    generalize within nm 0 4 = nm' at *
    clear hbx
    have m0 := HM.out.cell 0
    simp only [List.getElem?_toArray, List.getElem?_cons_zero] at m0
    simp only [Exit.then]
    apply_assumption
    have k5 := HK.out.cell 7
    have k6 := HK.out.cell 8
    simp only [List.getElem?_toArray, List.getElem?_cons_zero, List.getElem?_cons_succ] at k5 k6
    go_wp2_with fail
    refine (tuple_any _ _ th tv x' (IC.out.on HL.out) (ID.out.on HL.out) LC.out LD.out).mono ?_
    rintro e x2 ⟨vp, rfl, ho, hb⟩
    rw [TL.out] at ho
    obtain ⟨po, pc, rfl⟩ := own_slice ho
    have BB := Lib.hid (HM.out.on hb)
    have RB := Lib.hid (HR.out.on hb)
    have HO := Lib.hid ho
    have HB := Lib.hid (HL.out.trans (hb.mono HL.out.size))
    have HLT := Lib.hid HM.out.lt
    have HRT := Lib.hid HR.out.lt
    clear ho hb
    clear n0 m0
    have n0 := BB.out.cell 0
    have n1 := BB.out.cell 1
    have n2 := BB.out.cell 2
    have n3 := BB.out.cell 3
    have n4 := BB.out.cell 4
    have n5 := BB.out.cell 5
    have n6 := BB.out.cell 6
    have f5 := BB.out.fr 5
    have f6 := BB.out.fr 6
    have q0 := RB.out.cell 0
    have g0 := RB.out.fr 0
    have q1 := RB.out.cell 1
    have g1 := RB.out.fr 1
    have q2 := RB.out.cell 2
    have g2 := RB.out.fr 2
    have q3 := RB.out.cell 3
    have g3 := RB.out.fr 3
    have q4 := RB.out.cell 4
    have g4 := RB.out.fr 4
    have q5 := RB.out.cell 5
    have g5 := RB.out.fr 5
    have q6 := RB.out.cell 6
    have g6 := RB.out.fr 6
    have hne : ¬ (w.heap.size + 1 = bb) := by have := HBB.out; have := S2.out; omega
    have hne2 : ¬ (bb = w.heap.size + 1) := fun e => hne e.symm
    rw [SZ.out] at q0 g0 q1 g1 q2 g2 q3 g3 q4 g4 q5 g5 q6 g6
    simp only [zeroM, List.getElem?_toArray, List.getElem?_cons_zero, List.getElem?_cons_succ] at n0 q0 n1 q1 n2 q2 n3 q3 n4 q4 n5 q5 n6 q6
    go_wp2_with fail
    have RS : Box (x2.setCell ⟨bb, 6, none⟩ (.slice po tl.length pc)) (w.heap.size + 1) zeroM 32 := by
      have h := RB.out
      rw [SZ.out] at h
      exact box_apart h hne _
    have R7 := set7_box RS ⟨5, tc, ts, ow', nm', [], tl⟩ (.slice none 0 0) (.slice po tl.length pc)
    have z0 := R7.cell 0
    have z1 := R7.cell 1
    have z2 := R7.cell 2
    have z3 := R7.cell 3
    have z4 := R7.cell 4
    have z5 := R7.cell 5
    have z6 := R7.cell 6
    simp only [set7, mcells, List.getElem?_toArray, List.getElem?_cons_zero, List.getElem?_cons_succ] at z0 z1 z2 z3 z4 z5 z6
    have HW7 : World.ownsRow (set7 (x2.setCell ⟨bb, 6, none⟩ (.slice po tl.length pc)) (w.heap.size + 1) ⟨5, tc, ts, ow', nm', [], tl⟩ (.slice none 0 0) (.slice po tl.length pc)) x'.heap.size 61 4 (.slice po tl.length pc) tl.length (flatA tl) := set7_owns (owns_set HO.out HLT.out _) (by have := HRT.out; have := SZ.out; omega) _ _ _
    refine bodyPost_ret (v := mv ⟨5, tc, ts, ow', nm', [], tl⟩ (.slice none 0 0) (.slice po tl.length pc)) (by simp [results, Tryd.results12, go_sem, z0, z1, z2, z3, z4, z5, z6]) rfl ?_
    have HI : MgIn (set7 (x2.setCell ⟨bb, 6, none⟩ (.slice po tl.length pc)) (w.heap.size + 1) ⟨5, tc, ts, ow', nm', [], tl⟩ (.slice none 0 0) (.slice po tl.length pc)) ⟨5, tc, ts, ow', nm', [], tl⟩ (.slice none 0 0) (.slice po tl.length pc) := ⟨Or.inl ⟨rfl, rfl⟩, rowA_own HW7⟩
    rw [ME.out]
    refine ⟨⟨(.slice none 0 0), (.slice po tl.length pc), rfl, HI⟩, ?_⟩
    exact set7_below ((B2.out.trans (HB.out.mono B2.out.size)).setCell (p := ⟨bb, 6, none⟩) (by have := HBB.out; have := S2.out; show w.heap.size ≤ bb; omega) _) (by omega) ⟨5, tc, ts, ow', nm', [], tl⟩ (.slice none 0 0) (.slice po tl.length pc)
end Go.Proofs.YtfcgfnmokbbcaaaDoor.Wr
