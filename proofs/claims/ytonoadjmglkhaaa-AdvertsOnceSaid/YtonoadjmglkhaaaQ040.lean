/-
  Pred of the statements' own package: a right predicate of numbers. Condition: numbers of 64 bits; lists no longer than a machine holds.
  The region of AdvertsOnce that makes an ID. Condition: numbers of 64 bits.
  The region of AdvertsOnce that learns an advertisement. Conditions: at most 900 of each row; the rows rise.
-/
import Derived.Test.YtonoadjmglkhaaaQ039
import Derived.Test.YtonoadjmglkhaaaQ006
import Derived.Test.YtonoadjmglkhaaaQ025
import Derived.Test.YtonoadjmglkhaaaQ030
import Derived.Test.YtonoadjmglkhaaaQ026
namespace Go.Proofs.Ytonoadjmglkhaaa.Pr
open Go.RowKit Go.Proofs.Ytonoadjmglkhaaa Go.Proofs.Ytonoadjmglkhaaa.Pu Go.Proofs.Ytonoadjmglkhaaa.Rw Go.Proofs.Ytonoadjmglkhaaa.Va Go.Proofs.Ytonoadjmglkhaaa.Kp Go.Proofs.Ytonoadjmglkhaaa.In

/-- The predicate that numbers make, up to place i. -/
def prd (has vals : List Int) : Nat → List Cn
  | 0 => []
  | i + 1 => if i < has.length ∧ odd (has.getD i 0) = true ∧ (prd has vals i).length < 5 then prd has vals i ++ [(nm i, kdOf (pickZ vals i))] else prd has vals i
theorem prd_len (has vals : List Int) : ∀ k, (prd has vals k).length ≤ k
  | 0 => Nat.le_refl _
  | k + 1 => by
    have h := prd_len has vals k
    simp only [prd]
    split
    · simp; omega
    · omega
theorem prd_five (has vals : List Int) : ∀ k, (prd has vals k).length ≤ 5
  | 0 => by simp [prd]
  | k + 1 => by
    have h := prd_five has vals k
    simp only [prd]
    split
    · rename_i hc; simp; omega
    · exact h
theorem prd_names (has vals : List Int) : ∀ k, ∀ x ∈ prd has vals k, ∃ i, i < k ∧ x.1 = nm i
  | 0, x, h => by simp [prd] at h
  | k + 1, x, h => by
    simp only [prd] at h
    split at h
    · rcases List.mem_append.1 h with h | h
      · obtain ⟨i, h1, h2⟩ := prd_names has vals k x h
        exact ⟨i, by omega, h2⟩
      · simp at h
        exact ⟨k, by omega, by rw [h]⟩
    · obtain ⟨i, h1, h2⟩ := prd_names has vals k x h
      exact ⟨i, by omega, h2⟩
theorem prd_good (has vals : List Int) : ∀ k, ∀ x ∈ prd has vals k, goodK x.2 = true
  | 0, x, h => by simp [prd] at h
  | k + 1, x, h => by
    simp only [prd] at h
    split at h
    · rcases List.mem_append.1 h with h | h
      · exact prd_good has vals k x h
      · simp at h
        rw [h]; exact kdOf_good _
    · exact prd_good has vals k x h
theorem nm_less (i j : Nat) (h : i < j) (hj : j < 7) : Op.bytesLess (nm i).toList (nm j).toList = true := by
  rw [ByteArray.toList_eq, ByteArray.toList_eq]
  have : ∀ j : Fin 7, ∀ i : Fin 7, i.val < j.val → Op.bytesLess (nm i.val).data.toList (nm j.val).data.toList = true := by decide
  exact this ⟨j, hj⟩ ⟨i, by omega⟩ h
theorem prd_rise (has vals : List Int) : ∀ k, k ≤ 7 → RiseC (prd has vals k)
  | 0, _ => by simp [prd, RiseC]
  | k + 1, hk => by
    have h := prd_rise has vals k (by omega)
    simp only [prd]
    split
    · refine List.pairwise_append.2 ⟨h, List.pairwise_singleton _ _, fun x hx y hy => ?_⟩
      obtain ⟨i, h1, h2⟩ := prd_names has vals k x hx
      simp at hy
      rw [hy, h2]
      exact nm_less i k h1 (by omega)
    · exact h
theorem row_oneC (w : World) (c : C5) : RowC (w.alloc (.cells #[.string c.1, .int .i64 c.2.1, .int .i64 c.2.2.1, .int .i64 c.2.2.2.1, .string c.2.2.2.2] 86)) (.slice (some ⟨w.heap.size, 0, none⟩) 1 1) [c] :=
  Row.of_own (row_lit okC w [c] 1 rfl (by simp) _ rfl)

set_option maxRecDepth 100000 in
set_option maxHeartbeats 4000000 in
theorem pred_any (hv vv : Value) (has vals : List Int) (w : World) (hh : InInts w hv has) (hw : InInts w vv vals) (lh : has.length ≤ maxLen) (lv : vals.length ≤ maxLen) :
    Calls Try.prog 12 #[.agg #[hv, vv]] w fun e w' => ∃ v, e = .returned v ∧ OwnC w' w.heap.size v ((prd has vals 7).map r5) ∧ Below w.heap.size w w' := by
  have HH := Lib.hid hh
  have HW := Lib.hid hw
  have LH := Lib.hid lh
  have LV := Lib.hid lv
  clear hh hw lh lv
  go_enter Try.func12, Try.ntmps12
  go_wp2_with fail
  refine (names_any _).mono ?_
  rintro e1 w1 ⟨rfl, rfl⟩
  go_wp2
  go_loopw [3, 8] (fun lv i wr => ∃ k : Nat, k ≤ 7 ∧ i = .int .i64 k ∧ OwnC wr (w.heap.size + 2) lv ((prd has vals k).map r5) ∧
    Below (w.heap.size + 2) ((w.alloc (.cells #[hv, vv] 43)).alloc (.cells nmCells 9)) wr) (fun _ i _ => 7 - (intOf i).toNat)
  case atStart => exact ⟨0, by omega, rfl, own_nil _ _, Below.refl _ _⟩
  case round =>
    obtain ⟨k, hk, rfl, hown, hb⟩ := hrel
    have HO := Lib.hid hown
    have HB := Lib.hid hb
    have T0 : Below w.heap.size w ((w.alloc (.cells #[hv, vv] 43)).alloc (.cells nmCells 9)) := ((Below.refl _ _).alloc (Nat.le_refl _) _).alloc (by simp) _
    have BW := Lib.hid (T0.trans (hb.mono (by omega)))
    have hsz : w.heap.size + 2 ≤ wr.heap.size := by have := hb.size; simp at this; omega
    clear T0
    obtain ⟨ro, rcap, hrl⟩ := (Row.of_own hown).len
    rw [List.length_map] at hrl
    have hl5 := prd_len has vals k
    by_cases h7 : k < 7
    · have n0 : wr.cell? ⟨w.heap.size + 1, k, none⟩ = some (.string (nm k)) := by
        rw [hb.cell (p := ⟨w.heap.size + 1, k, none⟩) (by simp), World.cell?_alloc_at _ _ _ _ (by simp)]; exact nm_at k h7
      have b0 : wr.cell? ⟨w.heap.size, 0, none⟩ = some hv := by
        rw [hb.cell (p := ⟨w.heap.size, 0, none⟩) (by simp), World.cell?_alloc_lt _ _ _ (by simp), World.cell?_alloc_at _ _ _ _ rfl]; rfl
      have b1 : wr.cell? ⟨w.heap.size, 1, none⟩ = some vv := by
        rw [hb.cell (p := ⟨w.heap.size, 1, none⟩) (by simp), World.cell?_alloc_lt _ _ _ (by simp), World.cell?_alloc_at _ _ _ _ rfl]; rfl
      have IH := Lib.hid (HH.out.on BW.out)
      obtain ⟨ao, acap, hsh⟩ := HH.out.shape
      clear hb hown
      subst hsh
      subst hrl
      have hkk : (k : Int) < 7 := by omega
      by_cases h1 : k < has.length
      · obtain ⟨y, hy⟩ : ∃ y, has[k]? = some y := ⟨_, List.getElem?_eq_getElem h1⟩
        have hg : has.getD k 0 = y := by rw [List.getD_eq_getElem?_getD, hy]; rfl
        obtain ⟨_, p, _, hix, hpc⟩ := IH.out.at_ k y hy
        cases ho : odd y
        · have T := Lib.hid (show prd has vals (k + 1) = prd has vals k by simp only [prd]; rw [if_neg]; rintro ⟨_, h2, _⟩; rw [hg, ho] at h2; cases h2)
          have hodd : (bits BinOp.and IntKind.i64 y 1 == 1) = false := ho
          clear ho hy hg
          go_wp2
          go_roundw
          case rel => exact ⟨k + 1, by omega, by go_num, by rw [T.out]; exact HO.out, HB.out⟩
          case measure => simp [intOf]; omega
        · have hodd : (bits BinOp.and IntKind.i64 y 1 == 1) = true := ho
          by_cases h5 : (prd has vals k).length < 5
          · have T := Lib.hid (show (prd has vals (k + 1)).map r5 = (prd has vals k).map r5 ++ [r5 (nm k, kdOf (pickZ vals k))] by simp only [prd]; rw [if_pos ⟨h1, by rw [hg, ho], h5⟩, List.map_append]; rfl)
            have PK := Lib.hid (fun (W : World) (hW : Below w.heap.size w W) => pick_any vv vals k W (HW.out.on hW) LV.out (by omega))
            have bd := pickZ_bd HW.out k
            have KV := Lib.hid (fun W => constraint_any (nm k) (pickZ vals k) W bd.1 bd.2)
            clear ho hy hg bd
            go_wp2_with fail
            refine (PK.out _ BW.out).mono ?_
            rintro e1 w1 ⟨rfl, rfl⟩
            go_wp2_with fail
            refine (KV.out _).mono ?_
            rintro e2 w2 ⟨rfl, hb2⟩
            have B2 := Lib.hid hb2
            have O2 := Lib.hid (own_on HO.out hb2)
            have hs2 := hb2.size
            clear hb2
            generalize r5 (nm k, kdOf (pickZ vals k)) = c at T ⊢
            have O3a := Lib.hid (O2.out.alloc (.cells #[.string c.1, .int .i64 c.2.1, .int .i64 c.2.2.1, .int .i64 c.2.2.2.1, .string c.2.2.2.2] 86))
            obtain ⟨v3, w3, r3, o3, g3⟩ := app_row okC (w.heap.size + 2) O3a.out (row_oneC w2 c) (by simp; omega) (by simp) (by simp; omega) 24
            have O3 := Lib.hid o3
            have hbel : Below (w.heap.size + 2) wr w3 := ((B2.out.mono hsz).alloc (by omega) _).grown g3 (by simp; omega) (fun j hj => (O3a.out.lt j hj).1)
            have B3 := Lib.hid (HB.out.trans hbel)
            clear o3 g3 hbel
            go_wp2_with (first | (at_builtin; refine wpList_append_run rfl _ _ 24 rfl rfl rfl r3 ?_) | fail)
            clear r3
            go_wp2
            go_roundw
            case rel => exact ⟨k + 1, by omega, by go_num, by rw [T.out]; exact O3.out, B3.out⟩
            case measure => simp [intOf]; omega
          · have T := Lib.hid (show prd has vals (k + 1) = prd has vals k by simp only [prd]; rw [if_neg]; rintro ⟨_, _, h2⟩; exact h5 h2)
            clear ho hy hg
            go_wp2
            go_roundw
            case rel => exact ⟨k + 1, by omega, by go_num, by rw [T.out]; exact HO.out, HB.out⟩
            case measure => simp [intOf]; omega
      · have T := Lib.hid (show prd has vals (k + 1) = prd has vals k by simp only [prd]; rw [if_neg]; rintro ⟨h2, _⟩; exact h1 h2)
        go_wp2
        go_roundw
        case rel => exact ⟨k + 1, by omega, by go_num, by rw [T.out]; exact HO.out, HB.out⟩
        case measure => simp [intOf]; omega
    · obtain rfl : k = 7 := by omega
      clear hb hown
      go_wp2
      go_ret
      exact ⟨_, rfl, own_less (by omega) HO.out, BW.out⟩
end Go.Proofs.Ytonoadjmglkhaaa.Pr

namespace Go.Proofs.Ytonoadjmglkhaaa.Av
open Go.RowKit Go.Sort Go.Proofs.Ytonoadjmglkhaaa Go.Proofs.Ytonoadjmglkhaaa.Rw Go.Proofs.Ytonoadjmglkhaaa.Nm Go.Proofs.Ytonoadjmglkhaaa.Pr Go.Proofs.Ytonoadjmglkhaaa.Bk

def once6V (_B : Nat) (o1 : Option Addr) (n1 c1 : Nat) (o2 : Option Addr) (n2 c2 k : Nat) (p1 p2 : Addr) (z1 z2 : Int) (i : Nat) (v : Value) (_x : World) : Prop :=
  match i with
  | 0 => v = .slice o1 n1 c1
  | 1 => v = .int .i64 (k : Int)
  | 2 => v = .pointer (some p1)
  | 3 => v = .int .i64 z1
  | 4 => v = .int .i64 (Wi.within z1 0 3)
  | 5 => v = .slice o2 n2 c2
  | 6 => v = .int .i64 (k : Int)
  | 7 => v = .pointer (some p2)
  | 8 => v = .int .i64 z2
  | 9 => v = .int .i64 (Wi.within z2 0 2)
  | 10 => v = .agg #[.int .i64 (Wi.within z1 0 3), .int .i64 (Wi.within z2 0 2)]
  | 11 => True
  | 12 => True
  | _ => True
noncomputable def once6C : Code := ((Try.f4.body.bind (findRegion 6)).getD .skip)
set_option maxRecDepth 100000 in
set_option maxHeartbeats 8000000 in
theorem once6 (Q : Exit → Act → World → Prop) (W : World) (o1 : Option Addr) (n1 c1 : Nat) (o2 : Option Addr) (n2 c2 k : Nat) (p1 p2 : Addr) (z1 z2 : Int) (u2 u3 u4 u5 u6 u7 u8 u10 u11 u12 u13 u14 u15 u16 u17 u18 u19 u20 u21 u22 u23 u24 u25 u26 u27 u28 u29 u30 u31 u32 u33 u34 u35 u36 u37 u38 u39 u40 u41 u42 u43 u44 u45 u46 u47 u48 u49 u50 u51 u52 u53 u54 u55 u56 u57 u58 u59 u60 u61 u62 u63 u64 u65 u66 u67 u68 u69 u70 u71 u72 u73 u74 u75 u76 u77 u78 u79 u80 u81 u82 u83 u84 u85 u86 u87 u88 u89 u90 u91 u92 u93 u94 u95 u96 u97 u98 u99 u100 u101 u102 u103 u104 u105 u106 u107 u108 u109 u110 u111 u112 u113 u114 u115 u116 u117 u118 u119 u120 u121 u122 u123 u124 u125 u126 u127 u128 u129 u130 u131 u132 u133 u134 u135 u136 u137 u138 u139 u140 u141 u142 u143 u144 : Value)
    (i1 : ∀ w, (Instr.indexAt 27 (.slice o1 n1 c1) (.int .i64 k)).run Try.prog w = .ok (.pointer (some p1)) w) (k1 : ∀ x, Below W.heap.size W x → x.cell? p1 = some (.int .i64 z1)) (d1 : -9223372036854775808 ≤ z1 ∧ z1 ≤ 9223372036854775807) (i2 : ∀ w, (Instr.indexAt 27 (.slice o2 n2 c2) (.int .i64 k)).run Try.prog w = .ok (.pointer (some p2)) w) (k2 : ∀ x, Below W.heap.size W x → x.cell? p2 = some (.int .i64 z2)) (d2 : -9223372036854775808 ≤ z2 ∧ z2 ≤ 9223372036854775807)
    (hQ : ∀ (x : World) (bb : Nat) (v40 v41 v42 v43 v44 v45 v46 v47 v48 v49 v50 : Value), W.heap.size ≤ bb → Box x bb #[.int .i64 (Wi.within z1 0 3), .int .i64 (Wi.within z2 0 2)] 23 → Below W.heap.size W x → Q .normal ⟨(.slice o1 n1 c1 :: .slice o2 n2 c2 :: u2 :: u3 :: u4 :: u5 :: u6 :: u7 :: u8 :: .int .i64 (k : Int) :: .pointer (some ⟨bb, 0, none⟩) :: u11 :: u12 :: u13 :: u14 :: u15 :: u16 :: u17 :: u18 :: u19 :: u20 :: u21 :: u22 :: u23 :: u24 :: u25 :: u26 :: u27 :: u28 :: u29 :: u30 :: u31 :: u32 :: u33 :: u34 :: u35 :: u36 :: u37 :: u38 :: u39 :: v40 :: v41 :: v42 :: v43 :: v44 :: v45 :: v46 :: v47 :: v48 :: v49 :: v50 :: u51 :: u52 :: u53 :: u54 :: u55 :: u56 :: u57 :: u58 :: u59 :: u60 :: u61 :: u62 :: u63 :: u64 :: u65 :: u66 :: u67 :: u68 :: u69 :: u70 :: u71 :: u72 :: u73 :: u74 :: u75 :: u76 :: u77 :: u78 :: u79 :: u80 :: u81 :: u82 :: u83 :: u84 :: u85 :: u86 :: u87 :: u88 :: u89 :: u90 :: u91 :: u92 :: u93 :: u94 :: u95 :: u96 :: u97 :: u98 :: u99 :: u100 :: u101 :: u102 :: u103 :: u104 :: u105 :: u106 :: u107 :: u108 :: u109 :: u110 :: u111 :: u112 :: u113 :: u114 :: u115 :: u116 :: u117 :: u118 :: u119 :: u120 :: u121 :: u122 :: u123 :: u124 :: u125 :: u126 :: u127 :: u128 :: u129 :: u130 :: u131 :: u132 :: u133 :: u134 :: u135 :: u136 :: u137 :: u138 :: u139 :: u140 :: u141 :: u142 :: u143 :: u144 :: []).toArray, []⟩ x) :
    Code.wp Try.prog once6C Q ⟨(.slice o1 n1 c1 :: .slice o2 n2 c2 :: u2 :: u3 :: u4 :: u5 :: u6 :: u7 :: u8 :: .int .i64 (k : Int) :: u10 :: u11 :: u12 :: u13 :: u14 :: u15 :: u16 :: u17 :: u18 :: u19 :: u20 :: u21 :: u22 :: u23 :: u24 :: u25 :: u26 :: u27 :: u28 :: u29 :: u30 :: u31 :: u32 :: u33 :: u34 :: u35 :: u36 :: u37 :: u38 :: u39 :: u40 :: u41 :: u42 :: u43 :: u44 :: u45 :: u46 :: u47 :: u48 :: u49 :: u50 :: u51 :: u52 :: u53 :: u54 :: u55 :: u56 :: u57 :: u58 :: u59 :: u60 :: u61 :: u62 :: u63 :: u64 :: u65 :: u66 :: u67 :: u68 :: u69 :: u70 :: u71 :: u72 :: u73 :: u74 :: u75 :: u76 :: u77 :: u78 :: u79 :: u80 :: u81 :: u82 :: u83 :: u84 :: u85 :: u86 :: u87 :: u88 :: u89 :: u90 :: u91 :: u92 :: u93 :: u94 :: u95 :: u96 :: u97 :: u98 :: u99 :: u100 :: u101 :: u102 :: u103 :: u104 :: u105 :: u106 :: u107 :: u108 :: u109 :: u110 :: u111 :: u112 :: u113 :: u114 :: u115 :: u116 :: u117 :: u118 :: u119 :: u120 :: u121 :: u122 :: u123 :: u124 :: u125 :: u126 :: u127 :: u128 :: u129 :: u130 :: u131 :: u132 :: u133 :: u134 :: u135 :: u136 :: u137 :: u138 :: u139 :: u140 :: u141 :: u142 :: u143 :: u144 :: []).toArray, []⟩ W := by
  have HQ := Lib.hid hQ
  have I1 := Lib.hid i1
  have C1 := Lib.hid k1
  have D1 := Lib.hid d1
  have I2 := Lib.hid i2
  have C2 := Lib.hid k2
  have D2 := Lib.hid d2
  clear hQ i1 k1 d1 i2 k2 d2
  unfold once6C
  conv => arg 2; whnf
  have nb0 : ∀ i, i < 13 → [40, 41, 42, 43, 44, 45, 46, 47, 48, 49, 50, 10, 10].getD i 0 ≠ 0 := by decide
  have nb1 : ∀ i, i < 13 → [40, 41, 42, 43, 44, 45, 46, 47, 48, 49, 50, 10, 10].getD i 0 ≠ 1 := by decide
  have nb9 : ∀ i, i < 13 → [40, 41, 42, 43, 44, 45, 46, 47, 48, 49, 50, 10, 10].getD i 0 ≠ 9 := by decide
  refine Rg.region_mk 13 11 12 10 (fun i => [40, 41, 42, 43, 44, 45, 46, 47, 48, 49, 50, 10, 10].getD i 0) (fun i => 13) (once6V W.heap.size o1 n1 c1 o2 n2 c2 k p1 p2 z1 z2) 23 #[.int .i64 0, .int .i64 0] (fun v => match v with | .agg c => c | _ => #[]) (by kernel_rfl) (by kernel_rfl) rfl (by decide) (by decide) (by decide) (by decide) (by decide) (by decide) (by decide) (fun i j hi hj h1 h2 h => (by decide : ∀ i, i < 13 → ∀ j, j < 13 → i ≠ 12 → j ≠ 12 → [40, 41, 42, 43, 44, 45, 46, 47, 48, 49, 50, 10, 10].getD i 0 = [40, 41, 42, 43, 44, 45, 46, 47, 48, 49, 50, 10, 10].getD j 0 → i = j) i hi j hj h1 h2 h) (fun i hi => (by decide : ∀ i, i < 13 → [40, 41, 42, 43, 44, 45, 46, 47, 48, 49, 50, 10, 10].getD i 0 < 145) i hi) ?_ ?_ ?_ ?_ ?_ ?_
  · intro i v x x' hi h hb
    rcases (by omega : i = 0 ∨ i = 1 ∨ i = 2 ∨ i = 3 ∨ i = 4 ∨ i = 5 ∨ i = 6 ∨ i = 7 ∨ i = 8 ∨ i = 9 ∨ i = 10 ∨ i = 11 ∨ i = 12) with rfl | rfl | rfl | rfl | rfl | rfl | rfl | rfl | rfl | rfl | rfl | rfl | rfl
    · exact h
    · exact h
    · exact h
    · exact h
    · exact h
    · exact h
    · exact h
    · exact h
    · exact h
    · exact h
    · exact h
    · exact h
    · exact h
  · intro o ho
    obtain rfl := Option.some.inj ho
    exact ⟨⟨⟨11, .data⟩, by simp, rfl, rfl⟩, ⟨⟨10, .data⟩, by simp, rfl, rfl⟩⟩
  · intro i o hi hiA hiS ho a x hb seen K hK
    clear HQ
    rcases (by omega : i = 0 ∨ i = 1 ∨ i = 2 ∨ i = 3 ∨ i = 4 ∨ i = 5 ∨ i = 6 ∨ i = 7 ∨ i = 8 ∨ i = 9 ∨ i = 10) with rfl | rfl | rfl | rfl | rfl | rfl | rfl | rfl | rfl | rfl | rfl
    · obtain rfl := Option.some.inj ho
      have e0 : a.eval (.tmp 0) = .slice o1 n1 c1 := seen.kp 0 _ nb0 rfl
      exact Rg.op_value rfl rfl (Rg.ex_move a.eval _ (.tmp 0) rfl x) (hK _ x e0 (Below.refl _ _))
    · obtain rfl := Option.some.inj ho
      have e9 : a.eval (.tmp 9) = .int .i64 (k : Int) := seen.kp 9 _ nb9 rfl
      exact Rg.op_value rfl rfl (Rg.ex_move a.eval _ (.tmp 9) rfl x) (hK _ x e9 (Below.refl _ _))
    · obtain rfl := Option.some.inj ho
      have e40 : a.eval (.tmp 40) = .slice o1 n1 c1 := seen.at_ ⟨0, .data⟩ (by simp) rfl (by decide) (by decide) (Or.inr (by decide))
      have e41 : a.eval (.tmp 41) = .int .i64 (k : Int) := seen.at_ ⟨1, .data⟩ (by simp) rfl (by decide) (by decide) (Or.inr (by decide))
      exact Rg.op_value rfl rfl (Rg.ex_index a.eval _ 27 (.tmp 40) (.tmp 41) rfl (by rw [e40, e41]; exact I1.out x)) (hK _ x rfl (Below.refl _ _))
    · obtain rfl := Option.some.inj ho
      have e42 : a.eval (.tmp 42) = .pointer (some p1) := seen.at_ ⟨2, .data⟩ (by simp) rfl (by decide) (by decide) (Or.inr (by decide))
      have y := C1.out x hb
      exact Rg.op_value rfl rfl (Rg.ex_load a.eval _ 3 (.tmp 42) rfl (by rw [e42]; simp [go_sem, y])) (hK _ x rfl (Below.refl _ _))
    · obtain rfl := Option.some.inj ho
      have e43 : a.eval (.tmp 43) = .int .i64 z1 := seen.at_ ⟨3, .data⟩ (by simp) rfl (by decide) (by decide) (Or.inr (by decide))
      exact Rg.op_call rfl rfl (Rg.ex_call3 a.eval _ (.tmp 43) (.const (.int .i64 0)) (.const (.int .i64 3)) 3 11 rfl e43 rfl rfl rfl _ (call_fn Try.func11 rfl rfl _ _)) (Wi.within_any z1 0 3 x (by omega) (by omega) (by omega) D1.out.1 D1.out.2) fun e w1 h => by
        obtain ⟨rfl, rfl⟩ := h
        exact ⟨_, rfl, hK _ _ rfl (Below.refl _ _)⟩
    · obtain rfl := Option.some.inj ho
      have e1 : a.eval (.tmp 1) = .slice o2 n2 c2 := seen.kp 1 _ nb1 rfl
      exact Rg.op_value rfl rfl (Rg.ex_move a.eval _ (.tmp 1) rfl x) (hK _ x e1 (Below.refl _ _))
    · obtain rfl := Option.some.inj ho
      have e9 : a.eval (.tmp 9) = .int .i64 (k : Int) := seen.kp 9 _ nb9 rfl
      exact Rg.op_value rfl rfl (Rg.ex_move a.eval _ (.tmp 9) rfl x) (hK _ x e9 (Below.refl _ _))
    · obtain rfl := Option.some.inj ho
      have e45 : a.eval (.tmp 45) = .slice o2 n2 c2 := seen.at_ ⟨5, .data⟩ (by simp) rfl (by decide) (by decide) (Or.inr (by decide))
      have e46 : a.eval (.tmp 46) = .int .i64 (k : Int) := seen.at_ ⟨6, .data⟩ (by simp) rfl (by decide) (by decide) (Or.inr (by decide))
      exact Rg.op_value rfl rfl (Rg.ex_index a.eval _ 27 (.tmp 45) (.tmp 46) rfl (by rw [e45, e46]; exact I2.out x)) (hK _ x rfl (Below.refl _ _))
    · obtain rfl := Option.some.inj ho
      have e47 : a.eval (.tmp 47) = .pointer (some p2) := seen.at_ ⟨7, .data⟩ (by simp) rfl (by decide) (by decide) (Or.inr (by decide))
      have y := C2.out x hb
      exact Rg.op_value rfl rfl (Rg.ex_load a.eval _ 3 (.tmp 47) rfl (by rw [e47]; simp [go_sem, y])) (hK _ x rfl (Below.refl _ _))
    · obtain rfl := Option.some.inj ho
      have e48 : a.eval (.tmp 48) = .int .i64 z2 := seen.at_ ⟨8, .data⟩ (by simp) rfl (by decide) (by decide) (Or.inr (by decide))
      exact Rg.op_call rfl rfl (Rg.ex_call3 a.eval _ (.tmp 48) (.const (.int .i64 0)) (.const (.int .i64 2)) 3 11 rfl e48 rfl rfl rfl _ (call_fn Try.func11 rfl rfl _ _)) (Wi.within_any z2 0 2 x (by omega) (by omega) (by omega) D2.out.1 D2.out.2) fun e w1 h => by
        obtain ⟨rfl, rfl⟩ := h
        exact ⟨_, rfl, hK _ _ rfl (Below.refl _ _)⟩
    · obtain rfl := Option.some.inj ho
      have e44 : a.eval (.tmp 44) = .int .i64 (Wi.within z1 0 3) := seen.at_ ⟨4, .data⟩ (by simp) rfl (by decide) (by decide) (Or.inr (by decide))
      have e49 : a.eval (.tmp 49) = .int .i64 (Wi.within z2 0 2) := seen.at_ ⟨9, .data⟩ (by simp) rfl (by decide) (by decide) (Or.inr (by decide))
      exact Rg.op_value rfl rfl (Rg.ex_buildS a.eval _ 23 #[(0, .tmp 44), (1, .tmp 49)] rfl (ps := #[(0, .int .i64 (Wi.within z1 0 3)), (1, .int .i64 (Wi.within z2 0 2))]) (by simp only [List.map_toArray, List.map_cons, List.map_nil, e44, e49]) (by simp [go_sem])) (hK _ x rfl (Below.refl _ _))
  · intro o ho a x K hK
    obtain rfl := Option.some.inj ho
    exact Rg.op_value rfl rfl (Rg.ex_alloc a.eval _ 23 rfl (by simp [go_sem])) hK
  · intro o ho a x bb v D hc hD hb hA hC hvC hbb hbox K hK
    clear HQ
    obtain rfl := Option.some.inj ho
    have hv : v = .agg #[.int .i64 (Wi.within z1 0 3), .int .i64 (Wi.within z2 0 2)] := hvC
    subst hv
    have x0 := hbox.cell 0
    have x1 := hbox.cell 1
    have f0 := hbox.fr 0
    have f1 := hbox.fr 1
    simp only [List.getElem?_toArray, List.getElem?_cons_zero, List.getElem?_cons_succ] at x0 x1
    have hst : (Instr.storeAt 23 (.pointer (some ⟨bb, 0, none⟩)) (.agg #[.int .i64 (Wi.within z1 0 3), .int .i64 (Wi.within z2 0 2)])).run Try.prog x = .ok () ((x.setCell ⟨bb, 0, none⟩ (.int .i64 (Wi.within z1 0 3))).setCell ⟨bb, 1, none⟩ (.int .i64 (Wi.within z2 0 2))) := by simp [go_sem, x0, x1, f0, f1]
    have hbx2 := box_set (k := 1) (box_set (k := 0) hbox (.int .i64 (Wi.within z1 0 3))) (.int .i64 (Wi.within z2 0 2))
    refine Rg.op_store 23 (.tmp 10) (.tmp 50) rfl rfl rfl rfl hA hC hst (hK _ ((hb.setCell (p := ⟨bb, 0, none⟩) hbb _).setCell (p := ⟨bb, 1, none⟩) hbb _) (by simpa using hbx2) ?_)
    exact fun j u hj hjA hjS hdj hnl hls h => by
      rcases (by omega : j = 0 ∨ j = 1 ∨ j = 2 ∨ j = 3 ∨ j = 4 ∨ j = 5 ∨ j = 6 ∨ j = 7 ∨ j = 8 ∨ j = 9 ∨ j = 10) with rfl | rfl | rfl | rfl | rfl | rfl | rfl | rfl | rfl | rfl | rfl
      · have h2 : u = .slice o1 n1 c1 := h; exact h2
      · have h2 : u = .int .i64 (k : Int) := h; exact h2
      · have h2 : u = .pointer (some p1) := h; exact h2
      · have h2 : u = .int .i64 z1 := h; exact h2
      · have h2 : u = .int .i64 (Wi.within z1 0 3) := h; exact h2
      · have h2 : u = .slice o2 n2 c2 := h; exact h2
      · have h2 : u = .int .i64 (k : Int) := h; exact h2
      · have h2 : u = .pointer (some p2) := h; exact h2
      · have h2 : u = .int .i64 z2 := h; exact h2
      · have h2 : u = .int .i64 (Wi.within z2 0 2) := h; exact h2
      · have h2 : u = .agg #[.int .i64 (Wi.within z1 0 3), .int .i64 (Wi.within z2 0 2)] := h; exact h2
  · intro a x bb v df sz kp gA gC hbb hbox hvC hbel ⟨vs, hv⟩
    have hv9 : v = .agg #[.int .i64 (Wi.within z1 0 3), .int .i64 (Wi.within z2 0 2)] := hvC
    subst hv9
    have g10 : a.tmps[10]? = some (.pointer (some ⟨bb, 0, none⟩)) := gA
    have kp2 : ∀ j, (j < 10 ∨ 51 ≤ j) → a.tmps[j]? = (.slice o1 n1 c1 :: .slice o2 n2 c2 :: u2 :: u3 :: u4 :: u5 :: u6 :: u7 :: u8 :: .int .i64 (k : Int) :: u10 :: u11 :: u12 :: u13 :: u14 :: u15 :: u16 :: u17 :: u18 :: u19 :: u20 :: u21 :: u22 :: u23 :: u24 :: u25 :: u26 :: u27 :: u28 :: u29 :: u30 :: u31 :: u32 :: u33 :: u34 :: u35 :: u36 :: u37 :: u38 :: u39 :: u40 :: u41 :: u42 :: u43 :: u44 :: u45 :: u46 :: u47 :: u48 :: u49 :: u50 :: u51 :: u52 :: u53 :: u54 :: u55 :: u56 :: u57 :: u58 :: u59 :: u60 :: u61 :: u62 :: u63 :: u64 :: u65 :: u66 :: u67 :: u68 :: u69 :: u70 :: u71 :: u72 :: u73 :: u74 :: u75 :: u76 :: u77 :: u78 :: u79 :: u80 :: u81 :: u82 :: u83 :: u84 :: u85 :: u86 :: u87 :: u88 :: u89 :: u90 :: u91 :: u92 :: u93 :: u94 :: u95 :: u96 :: u97 :: u98 :: u99 :: u100 :: u101 :: u102 :: u103 :: u104 :: u105 :: u106 :: u107 :: u108 :: u109 :: u110 :: u111 :: u112 :: u113 :: u114 :: u115 :: u116 :: u117 :: u118 :: u119 :: u120 :: u121 :: u122 :: u123 :: u124 :: u125 :: u126 :: u127 :: u128 :: u129 :: u130 :: u131 :: u132 :: u133 :: u134 :: u135 :: u136 :: u137 :: u138 :: u139 :: u140 :: u141 :: u142 :: u143 :: u144 :: [])[j]? := fun j hj => (kp j (fun i hi h => by have := (by decide : ∀ i, i < 13 → 10 ≤ [40, 41, 42, 43, 44, 45, 46, 47, 48, 49, 50, 10, 10].getD i 0 ∧ [40, 41, 42, 43, 44, 45, 46, 47, 48, 49, 50, 10, 10].getD i 0 < 51) i hi; omega)).trans List.getElem?_toArray
    obtain ⟨mid, hmid, rfl⟩ := Rg.frame_mid (bl := (.slice o1 n1 c1 :: .slice o2 n2 c2 :: u2 :: u3 :: u4 :: u5 :: u6 :: u7 :: u8 :: .int .i64 (k : Int) :: u10 :: u11 :: u12 :: u13 :: u14 :: u15 :: u16 :: u17 :: u18 :: u19 :: u20 :: u21 :: u22 :: u23 :: u24 :: u25 :: u26 :: u27 :: u28 :: u29 :: u30 :: u31 :: u32 :: u33 :: u34 :: u35 :: u36 :: u37 :: u38 :: u39 :: u40 :: u41 :: u42 :: u43 :: u44 :: u45 :: u46 :: u47 :: u48 :: u49 :: u50 :: u51 :: u52 :: u53 :: u54 :: u55 :: u56 :: u57 :: u58 :: u59 :: u60 :: u61 :: u62 :: u63 :: u64 :: u65 :: u66 :: u67 :: u68 :: u69 :: u70 :: u71 :: u72 :: u73 :: u74 :: u75 :: u76 :: u77 :: u78 :: u79 :: u80 :: u81 :: u82 :: u83 :: u84 :: u85 :: u86 :: u87 :: u88 :: u89 :: u90 :: u91 :: u92 :: u93 :: u94 :: u95 :: u96 :: u97 :: u98 :: u99 :: u100 :: u101 :: u102 :: u103 :: u104 :: u105 :: u106 :: u107 :: u108 :: u109 :: u110 :: u111 :: u112 :: u113 :: u114 :: u115 :: u116 :: u117 :: u118 :: u119 :: u120 :: u121 :: u122 :: u123 :: u124 :: u125 :: u126 :: u127 :: u128 :: u129 :: u130 :: u131 :: u132 :: u133 :: u134 :: u135 :: u136 :: u137 :: u138 :: u139 :: u140 :: u141 :: u142 :: u143 :: u144 :: [])) 10 41 df sz (by simp) kp2
    match mid, hmid with
    | v10 :: v11 :: v12 :: v13 :: v14 :: v15 :: v16 :: v17 :: v18 :: v19 :: v20 :: v21 :: v22 :: v23 :: v24 :: v25 :: v26 :: v27 :: v28 :: v29 :: v30 :: v31 :: v32 :: v33 :: v34 :: v35 :: v36 :: v37 :: v38 :: v39 :: v40 :: v41 :: v42 :: v43 :: v44 :: v45 :: v46 :: v47 :: v48 :: v49 :: v50 :: [], _ =>
      obtain rfl : v10 = .pointer (some ⟨bb, 0, none⟩) := Option.some.inj g10
      obtain rfl : v11 = u11 := Option.some.inj (kp 11 (fun i hi h => (by decide : ∀ i, i < 13 → [40, 41, 42, 43, 44, 45, 46, 47, 48, 49, 50, 10, 10].getD i 0 ≠ 11) i hi h))
      obtain rfl : v12 = u12 := Option.some.inj (kp 12 (fun i hi h => (by decide : ∀ i, i < 13 → [40, 41, 42, 43, 44, 45, 46, 47, 48, 49, 50, 10, 10].getD i 0 ≠ 12) i hi h))
      obtain rfl : v13 = u13 := Option.some.inj (kp 13 (fun i hi h => (by decide : ∀ i, i < 13 → [40, 41, 42, 43, 44, 45, 46, 47, 48, 49, 50, 10, 10].getD i 0 ≠ 13) i hi h))
      obtain rfl : v14 = u14 := Option.some.inj (kp 14 (fun i hi h => (by decide : ∀ i, i < 13 → [40, 41, 42, 43, 44, 45, 46, 47, 48, 49, 50, 10, 10].getD i 0 ≠ 14) i hi h))
      obtain rfl : v15 = u15 := Option.some.inj (kp 15 (fun i hi h => (by decide : ∀ i, i < 13 → [40, 41, 42, 43, 44, 45, 46, 47, 48, 49, 50, 10, 10].getD i 0 ≠ 15) i hi h))
      obtain rfl : v16 = u16 := Option.some.inj (kp 16 (fun i hi h => (by decide : ∀ i, i < 13 → [40, 41, 42, 43, 44, 45, 46, 47, 48, 49, 50, 10, 10].getD i 0 ≠ 16) i hi h))
      obtain rfl : v17 = u17 := Option.some.inj (kp 17 (fun i hi h => (by decide : ∀ i, i < 13 → [40, 41, 42, 43, 44, 45, 46, 47, 48, 49, 50, 10, 10].getD i 0 ≠ 17) i hi h))
      obtain rfl : v18 = u18 := Option.some.inj (kp 18 (fun i hi h => (by decide : ∀ i, i < 13 → [40, 41, 42, 43, 44, 45, 46, 47, 48, 49, 50, 10, 10].getD i 0 ≠ 18) i hi h))
      obtain rfl : v19 = u19 := Option.some.inj (kp 19 (fun i hi h => (by decide : ∀ i, i < 13 → [40, 41, 42, 43, 44, 45, 46, 47, 48, 49, 50, 10, 10].getD i 0 ≠ 19) i hi h))
      obtain rfl : v20 = u20 := Option.some.inj (kp 20 (fun i hi h => (by decide : ∀ i, i < 13 → [40, 41, 42, 43, 44, 45, 46, 47, 48, 49, 50, 10, 10].getD i 0 ≠ 20) i hi h))
      obtain rfl : v21 = u21 := Option.some.inj (kp 21 (fun i hi h => (by decide : ∀ i, i < 13 → [40, 41, 42, 43, 44, 45, 46, 47, 48, 49, 50, 10, 10].getD i 0 ≠ 21) i hi h))
      obtain rfl : v22 = u22 := Option.some.inj (kp 22 (fun i hi h => (by decide : ∀ i, i < 13 → [40, 41, 42, 43, 44, 45, 46, 47, 48, 49, 50, 10, 10].getD i 0 ≠ 22) i hi h))
      obtain rfl : v23 = u23 := Option.some.inj (kp 23 (fun i hi h => (by decide : ∀ i, i < 13 → [40, 41, 42, 43, 44, 45, 46, 47, 48, 49, 50, 10, 10].getD i 0 ≠ 23) i hi h))
      obtain rfl : v24 = u24 := Option.some.inj (kp 24 (fun i hi h => (by decide : ∀ i, i < 13 → [40, 41, 42, 43, 44, 45, 46, 47, 48, 49, 50, 10, 10].getD i 0 ≠ 24) i hi h))
      obtain rfl : v25 = u25 := Option.some.inj (kp 25 (fun i hi h => (by decide : ∀ i, i < 13 → [40, 41, 42, 43, 44, 45, 46, 47, 48, 49, 50, 10, 10].getD i 0 ≠ 25) i hi h))
      obtain rfl : v26 = u26 := Option.some.inj (kp 26 (fun i hi h => (by decide : ∀ i, i < 13 → [40, 41, 42, 43, 44, 45, 46, 47, 48, 49, 50, 10, 10].getD i 0 ≠ 26) i hi h))
      obtain rfl : v27 = u27 := Option.some.inj (kp 27 (fun i hi h => (by decide : ∀ i, i < 13 → [40, 41, 42, 43, 44, 45, 46, 47, 48, 49, 50, 10, 10].getD i 0 ≠ 27) i hi h))
      obtain rfl : v28 = u28 := Option.some.inj (kp 28 (fun i hi h => (by decide : ∀ i, i < 13 → [40, 41, 42, 43, 44, 45, 46, 47, 48, 49, 50, 10, 10].getD i 0 ≠ 28) i hi h))
      obtain rfl : v29 = u29 := Option.some.inj (kp 29 (fun i hi h => (by decide : ∀ i, i < 13 → [40, 41, 42, 43, 44, 45, 46, 47, 48, 49, 50, 10, 10].getD i 0 ≠ 29) i hi h))
      obtain rfl : v30 = u30 := Option.some.inj (kp 30 (fun i hi h => (by decide : ∀ i, i < 13 → [40, 41, 42, 43, 44, 45, 46, 47, 48, 49, 50, 10, 10].getD i 0 ≠ 30) i hi h))
      obtain rfl : v31 = u31 := Option.some.inj (kp 31 (fun i hi h => (by decide : ∀ i, i < 13 → [40, 41, 42, 43, 44, 45, 46, 47, 48, 49, 50, 10, 10].getD i 0 ≠ 31) i hi h))
      obtain rfl : v32 = u32 := Option.some.inj (kp 32 (fun i hi h => (by decide : ∀ i, i < 13 → [40, 41, 42, 43, 44, 45, 46, 47, 48, 49, 50, 10, 10].getD i 0 ≠ 32) i hi h))
      obtain rfl : v33 = u33 := Option.some.inj (kp 33 (fun i hi h => (by decide : ∀ i, i < 13 → [40, 41, 42, 43, 44, 45, 46, 47, 48, 49, 50, 10, 10].getD i 0 ≠ 33) i hi h))
      obtain rfl : v34 = u34 := Option.some.inj (kp 34 (fun i hi h => (by decide : ∀ i, i < 13 → [40, 41, 42, 43, 44, 45, 46, 47, 48, 49, 50, 10, 10].getD i 0 ≠ 34) i hi h))
      obtain rfl : v35 = u35 := Option.some.inj (kp 35 (fun i hi h => (by decide : ∀ i, i < 13 → [40, 41, 42, 43, 44, 45, 46, 47, 48, 49, 50, 10, 10].getD i 0 ≠ 35) i hi h))
      obtain rfl : v36 = u36 := Option.some.inj (kp 36 (fun i hi h => (by decide : ∀ i, i < 13 → [40, 41, 42, 43, 44, 45, 46, 47, 48, 49, 50, 10, 10].getD i 0 ≠ 36) i hi h))
      obtain rfl : v37 = u37 := Option.some.inj (kp 37 (fun i hi h => (by decide : ∀ i, i < 13 → [40, 41, 42, 43, 44, 45, 46, 47, 48, 49, 50, 10, 10].getD i 0 ≠ 37) i hi h))
      obtain rfl : v38 = u38 := Option.some.inj (kp 38 (fun i hi h => (by decide : ∀ i, i < 13 → [40, 41, 42, 43, 44, 45, 46, 47, 48, 49, 50, 10, 10].getD i 0 ≠ 38) i hi h))
      obtain rfl : v39 = u39 := Option.some.inj (kp 39 (fun i hi h => (by decide : ∀ i, i < 13 → [40, 41, 42, 43, 44, 45, 46, 47, 48, 49, 50, 10, 10].getD i 0 ≠ 39) i hi h))
      exact HQ.out x bb _ _ _ _ _ _ _ _ _ _ _ hbb hbox hbel
end Go.Proofs.Ytonoadjmglkhaaa.Av

namespace Go.Proofs.Ytonoadjmglkhaaa.Av
open Go.RowKit Go.Sort Go.Proofs.Ytonoadjmglkhaaa Go.Proofs.Ytonoadjmglkhaaa.Rw Go.Proofs.Ytonoadjmglkhaaa.Nm Go.Proofs.Ytonoadjmglkhaaa.Pr Go.Proofs.Ytonoadjmglkhaaa.Bk

theorem rem_two (x y : Operand) (w : World) (k : Nat) : (do eqGuard .rem 3 x y (.int .i64 k) (.int .i64 2); binOp .rem 3 (.int .i64 k) (.int .i64 2) : Sem Value).run Try.prog w = .ok (.int .i64 ((k % 2 : Nat) : Int)) w := by
  have e : (k : Int).tmod 2 = ((k % 2 : Nat) : Int) := by rw [Int.tmod_eq_emod_of_nonneg (by omega)]; omega
  simp [go_sem, e]
theorem one_add (x y : Operand) (w : World) (k : Nat) (hk : k ≤ 900) : (do eqGuard .add 3 x y (.int .i64 1) (.int .i64 k); binOp .add 3 (.int .i64 1) (.int .i64 k) : Sem Value).run Try.prog w = .ok (.int .i64 ((k : Int) + 1)) w := by
  have e : IntKind.i64.wrap (1 + (k : Int)) = (k : Int) + 1 := by rw [IntKind.wrap_i64]; omega
  simp [go_sem, e]
def once7V (B : Nat) (_b5 _b7 _b10 k : Nat) (i1 i2 : Int) (b : Br) (s1 : Option Addr) (s2 s3 : Nat) (s4 : Option Addr) (s5 s6 : Nat) (s7 : Option Addr) (s8 s9 : Nat) (s10 : Option Addr) (s11 s12 : Nat) (s13 : Option Addr) (s14 s15 : Nat) (h1 : Option Addr) (h2 h3 : Nat) (g1 : Option Addr) (g2 g3 : Nat) (has vals : List Int) (i : Nat) (v : Value) (x : World) : Prop :=
  match i with
  | 0 => v = .agg #[.int .i64 b.me, .slice s1 s2 s3, .slice s4 s5 s6, .slice s7 s8 s9, .slice s10 s11 s12, .slice s13 s14 s15]
  | 1 => v = .agg #[.int .i64 i1, .int .i64 i2]
  | 2 => v = .agg #[.slice h1 h2 h3, .slice g1 g2 g3]
  | 3 => ∃ s : Sl, v = slv s ∧ OwnC x B (slv s) ((prd has vals 7).map r5)
  | 4 => v = .int .i64 (k : Int)
  | 5 => v = .int .i64 ((k % 2 : Nat) : Int)
  | 6 => v = .int .i64 (((k % 2 : Nat) : Int) + 1)
  | 7 => ∃ s : Sl, v = valD (i1, i2, s, ((k % 2 : Nat) : Int) + 1) ∧ OwnC x B (slv s) ((prd has vals 7).map r5)
  | 8 => ∃ nv av sv ev ov : Sl, v = .tuple #[brv (learnB b ⟨(i1, i2), ((prd has vals 7).map r5), ((k % 2 : Nat) : Int) + 1⟩).1.me nv av sv ev ov, .bool (learnB b ⟨(i1, i2), ((prd has vals 7).map r5), ((k % 2 : Nat) : Int) + 1⟩).2] ∧ BrN x (learnB b ⟨(i1, i2), ((prd has vals 7).map r5), ((k % 2 : Nat) : Int) + 1⟩).1 nv av sv ev ov
  | 9 => ∃ nv av sv ev ov : Sl, v = .tuple #[brv (learnB b ⟨(i1, i2), ((prd has vals 7).map r5), ((k % 2 : Nat) : Int) + 1⟩).1.me nv av sv ev ov, .bool (learnB b ⟨(i1, i2), ((prd has vals 7).map r5), ((k % 2 : Nat) : Int) + 1⟩).2] ∧ BrN x (learnB b ⟨(i1, i2), ((prd has vals 7).map r5), ((k % 2 : Nat) : Int) + 1⟩).1 nv av sv ev ov
  | 10 => ∃ nv av sv ev ov : Sl, v = brv (learnB b ⟨(i1, i2), ((prd has vals 7).map r5), ((k % 2 : Nat) : Int) + 1⟩).1.me nv av sv ev ov ∧ BrN x (learnB b ⟨(i1, i2), ((prd has vals 7).map r5), ((k % 2 : Nat) : Int) + 1⟩).1 nv av sv ev ov
  | 11 => v = .bool (learnB b ⟨(i1, i2), ((prd has vals 7).map r5), ((k % 2 : Nat) : Int) + 1⟩).2
  | 12 => True
  | 13 => True
  | 14 => v = .bool (learnB b ⟨(i1, i2), ((prd has vals 7).map r5), ((k % 2 : Nat) : Int) + 1⟩).2
  | _ => True
noncomputable def once7C : Code := ((Try.f4.body.bind (findRegion 7)).getD .skip)
set_option maxRecDepth 100000 in
set_option maxHeartbeats 8000000 in
theorem once7 (Q : Exit → Act → World → Prop) (W : World) (b5 b7 b10 k : Nat) (i1 i2 : Int) (b : Br) (s1 : Option Addr) (s2 s3 : Nat) (s4 : Option Addr) (s5 s6 : Nat) (s7 : Option Addr) (s8 s9 : Nat) (s10 : Option Addr) (s11 s12 : Nat) (s13 : Option Addr) (s14 s15 : Nat) (h1 : Option Addr) (h2 h3 : Nat) (g1 : Option Addr) (g2 g3 : Nat) (has vals : List Int) (u0 u1 u2 u3 u4 u6 u8 u11 u12 u13 u14 u15 u16 u17 u18 u19 u20 u21 u22 u23 u24 u25 u26 u27 u28 u29 u30 u31 u32 u33 u34 u35 u36 u37 u38 u39 u40 u41 u42 u43 u44 u45 u46 u47 u48 u49 u50 u51 u52 u53 u54 u55 u56 u57 u58 u59 u60 u61 u62 u63 u64 u65 u66 u67 u68 u69 u70 u71 u72 u73 u74 u75 u76 u77 u78 u79 u80 u81 u82 u83 u84 u85 u86 u87 u88 u89 u90 u91 u92 u93 u94 u95 u96 u97 u98 u99 u100 u101 u102 u103 u104 u105 u106 u107 u108 u109 u110 u111 u112 u113 u114 u115 u116 u117 u118 u119 u120 u121 u122 u123 u124 u125 u126 u127 u128 u129 u130 u131 u132 u133 u134 u135 u136 u137 u138 u139 u140 u141 u142 u143 u144 : Value)
    (x5 : Box W b5 #[.slice h1 h2 h3, .slice g1 g2 g3] 43) (x7 : Box W b7 #[.int .i64 b.me, .slice s1 s2 s3, .slice s4 s5 s6, .slice s7 s8 s9, .slice s10 s11 s12, .slice s13 s14 s15] 33) (x10 : Box W b10 #[.int .i64 i1, .int .i64 i2] 23) (bn : BrN W b (s1, s2, s3) (s4, s5, s6) (s7, s8, s9) (s10, s11, s12) (s13, s14, s15)) (fw : Few b) (fp : FewP b) (rs : RiseI b.seen) (ra : RiseA b.adv) (ih : In.InInts W (.slice h1 h2 h3) has) (iv : In.InInts W (.slice g1 g2 g3) vals) (lh : has.length ≤ maxLen) (lv : vals.length ≤ maxLen) (pn : ((prd has vals 7).map r5).length ≤ 900)
    (hQ : ∀ (x : World) (bb : Nat) (v51 v52 v53 v54 v55 v56 v57 v58 v59 v60 v61 v62 : Value) (m1 : Option Addr) (m2 m3 : Nat) (m4 : Option Addr) (m5 m6 : Nat) (m7 : Option Addr) (m8 m9 : Nat) (m10 : Option Addr) (m11 m12 : Nat) (m13 : Option Addr) (m14 m15 : Nat), W.heap.size ≤ bb → Box x bb #[.int .i64 (learnB b ⟨(i1, i2), ((prd has vals 7).map r5), ((k % 2 : Nat) : Int) + 1⟩).1.me, .slice m1 m2 m3, .slice m4 m5 m6, .slice m7 m8 m9, .slice m10 m11 m12, .slice m13 m14 m15] 33 → BrN x (learnB b ⟨(i1, i2), ((prd has vals 7).map r5), ((k % 2 : Nat) : Int) + 1⟩).1 (m1, m2, m3) (m4, m5, m6) (m7, m8, m9) (m10, m11, m12) (m13, m14, m15) → Below W.heap.size W x → Q .normal ⟨(u0 :: u1 :: u2 :: u3 :: u4 :: .pointer (some ⟨b5, 0, none⟩) :: u6 :: .pointer (some ⟨b7, 0, none⟩) :: u8 :: .int .i64 (k : Int) :: .pointer (some ⟨b10, 0, none⟩) :: .pointer (some ⟨bb, 0, none⟩) :: .bool (learnB b ⟨(i1, i2), ((prd has vals 7).map r5), ((k % 2 : Nat) : Int) + 1⟩).2 :: u13 :: u14 :: u15 :: u16 :: u17 :: u18 :: u19 :: u20 :: u21 :: u22 :: u23 :: u24 :: u25 :: u26 :: u27 :: u28 :: u29 :: u30 :: u31 :: u32 :: u33 :: u34 :: u35 :: u36 :: u37 :: u38 :: u39 :: u40 :: u41 :: u42 :: u43 :: u44 :: u45 :: u46 :: u47 :: u48 :: u49 :: u50 :: v51 :: v52 :: v53 :: v54 :: v55 :: v56 :: v57 :: v58 :: v59 :: v60 :: v61 :: v62 :: u63 :: u64 :: u65 :: u66 :: u67 :: u68 :: u69 :: u70 :: u71 :: u72 :: u73 :: u74 :: u75 :: u76 :: u77 :: u78 :: u79 :: u80 :: u81 :: u82 :: u83 :: u84 :: u85 :: u86 :: u87 :: u88 :: u89 :: u90 :: u91 :: u92 :: u93 :: u94 :: u95 :: u96 :: u97 :: u98 :: u99 :: u100 :: u101 :: u102 :: u103 :: u104 :: u105 :: u106 :: u107 :: u108 :: u109 :: u110 :: u111 :: u112 :: u113 :: u114 :: u115 :: u116 :: u117 :: u118 :: u119 :: u120 :: u121 :: u122 :: u123 :: u124 :: u125 :: u126 :: u127 :: u128 :: u129 :: u130 :: u131 :: u132 :: u133 :: u134 :: u135 :: u136 :: u137 :: u138 :: u139 :: u140 :: u141 :: u142 :: u143 :: u144 :: []).toArray, []⟩ x) :
    Code.wp Try.prog once7C Q ⟨(u0 :: u1 :: u2 :: u3 :: u4 :: .pointer (some ⟨b5, 0, none⟩) :: u6 :: .pointer (some ⟨b7, 0, none⟩) :: u8 :: .int .i64 (k : Int) :: .pointer (some ⟨b10, 0, none⟩) :: u11 :: u12 :: u13 :: u14 :: u15 :: u16 :: u17 :: u18 :: u19 :: u20 :: u21 :: u22 :: u23 :: u24 :: u25 :: u26 :: u27 :: u28 :: u29 :: u30 :: u31 :: u32 :: u33 :: u34 :: u35 :: u36 :: u37 :: u38 :: u39 :: u40 :: u41 :: u42 :: u43 :: u44 :: u45 :: u46 :: u47 :: u48 :: u49 :: u50 :: u51 :: u52 :: u53 :: u54 :: u55 :: u56 :: u57 :: u58 :: u59 :: u60 :: u61 :: u62 :: u63 :: u64 :: u65 :: u66 :: u67 :: u68 :: u69 :: u70 :: u71 :: u72 :: u73 :: u74 :: u75 :: u76 :: u77 :: u78 :: u79 :: u80 :: u81 :: u82 :: u83 :: u84 :: u85 :: u86 :: u87 :: u88 :: u89 :: u90 :: u91 :: u92 :: u93 :: u94 :: u95 :: u96 :: u97 :: u98 :: u99 :: u100 :: u101 :: u102 :: u103 :: u104 :: u105 :: u106 :: u107 :: u108 :: u109 :: u110 :: u111 :: u112 :: u113 :: u114 :: u115 :: u116 :: u117 :: u118 :: u119 :: u120 :: u121 :: u122 :: u123 :: u124 :: u125 :: u126 :: u127 :: u128 :: u129 :: u130 :: u131 :: u132 :: u133 :: u134 :: u135 :: u136 :: u137 :: u138 :: u139 :: u140 :: u141 :: u142 :: u143 :: u144 :: []).toArray, []⟩ W := by
  have HQ := Lib.hid hQ
  have H5 := Lib.hid x5
  have H7 := Lib.hid x7
  have H10 := Lib.hid x10
  have BN := Lib.hid bn
  have FW := Lib.hid fw
  have FP := Lib.hid fp
  have RS := Lib.hid rs
  have RA := Lib.hid ra
  have IH := Lib.hid ih
  have IV := Lib.hid iv
  have LH := Lib.hid lh
  have LV := Lib.hid lv
  have PLN := Lib.hid pn
  clear hQ x5 x7 x10 bn fw fp rs ra ih iv lh lv pn
  unfold once7C
  conv => arg 2; whnf
  have nb5 : ∀ i, i < 15 → [52, 53, 54, 55, 56, 57, 58, 59, 60, 51, 61, 62, 11, 11, 12].getD i 0 ≠ 5 := by decide
  have nb7 : ∀ i, i < 15 → [52, 53, 54, 55, 56, 57, 58, 59, 60, 51, 61, 62, 11, 11, 12].getD i 0 ≠ 7 := by decide
  have nb9 : ∀ i, i < 15 → [52, 53, 54, 55, 56, 57, 58, 59, 60, 51, 61, 62, 11, 11, 12].getD i 0 ≠ 9 := by decide
  have nb10 : ∀ i, i < 15 → [52, 53, 54, 55, 56, 57, 58, 59, 60, 51, 61, 62, 11, 11, 12].getD i 0 ≠ 10 := by decide
  refine Rg.region_mk 15 12 13 10 (fun i => [52, 53, 54, 55, 56, 57, 58, 59, 60, 51, 61, 62, 11, 11, 12].getD i 0) (fun i => if i = 3 then 7 else if i = 7 then 8 else if i = 8 then 9 else 15) (once7V W.heap.size b5 b7 b10 k i1 i2 b s1 s2 s3 s4 s5 s6 s7 s8 s9 s10 s11 s12 s13 s14 s15 h1 h2 h3 g1 g2 g3 has vals) 33 #[.int .i64 0, .slice none 0 0, .slice none 0 0, .slice none 0 0, .slice none 0 0, .slice none 0 0] (fun v => match v with | .agg c => c | _ => #[]) (by kernel_rfl) (by kernel_rfl) rfl (by decide) (by decide) (by decide) (by decide) (by decide) (by decide) (by decide) (fun i j hi hj h1 h2 h => (by decide : ∀ i, i < 15 → ∀ j, j < 15 → i ≠ 13 → j ≠ 13 → [52, 53, 54, 55, 56, 57, 58, 59, 60, 51, 61, 62, 11, 11, 12].getD i 0 = [52, 53, 54, 55, 56, 57, 58, 59, 60, 51, 61, 62, 11, 11, 12].getD j 0 → i = j) i hi j hj h1 h2 h) (fun i hi => (by decide : ∀ i, i < 15 → [52, 53, 54, 55, 56, 57, 58, 59, 60, 51, 61, 62, 11, 11, 12].getD i 0 < 145) i hi) ?_ ?_ ?_ ?_ ?_ ?_
  · intro i v x x' hi h hb
    rcases (by omega : i = 0 ∨ i = 1 ∨ i = 2 ∨ i = 3 ∨ i = 4 ∨ i = 5 ∨ i = 6 ∨ i = 7 ∨ i = 8 ∨ i = 9 ∨ i = 10 ∨ i = 11 ∨ i = 12 ∨ i = 13 ∨ i = 14) with rfl | rfl | rfl | rfl | rfl | rfl | rfl | rfl | rfl | rfl | rfl | rfl | rfl | rfl | rfl
    · exact h
    · exact h
    · exact h
    · obtain ⟨s, h1, h2⟩ := h; exact ⟨s, h1, Bk.own_on h2 hb⟩
    · exact h
    · exact h
    · exact h
    · obtain ⟨s, h1, h2⟩ := h; exact ⟨s, h1, Bk.own_on h2 hb⟩
    · obtain ⟨a1, a2, a3, a4, a5, h1, h2⟩ := h; exact ⟨a1, a2, a3, a4, a5, h1, h2.on hb⟩
    · obtain ⟨a1, a2, a3, a4, a5, h1, h2⟩ := h; exact ⟨a1, a2, a3, a4, a5, h1, h2.on hb⟩
    · obtain ⟨a1, a2, a3, a4, a5, h1, h2⟩ := h; exact ⟨a1, a2, a3, a4, a5, h1, h2.on hb⟩
    · exact h
    · exact h
    · exact h
    · exact h
  · intro o ho
    obtain rfl := Option.some.inj ho
    exact ⟨⟨⟨12, .data⟩, by simp, rfl, rfl⟩, ⟨⟨10, .data⟩, by simp, rfl, rfl⟩⟩
  · intro i o hi hiA hiS ho a x hb seen K hK
    clear HQ
    rcases (by omega : i = 0 ∨ i = 1 ∨ i = 2 ∨ i = 3 ∨ i = 4 ∨ i = 5 ∨ i = 6 ∨ i = 7 ∨ i = 8 ∨ i = 9 ∨ i = 10 ∨ i = 11 ∨ i = 14) with rfl | rfl | rfl | rfl | rfl | rfl | rfl | rfl | rfl | rfl | rfl | rfl | rfl
    · obtain rfl := Option.some.inj ho
      have e7 : a.eval (.tmp 7) = .pointer (some ⟨b7, 0, none⟩) := seen.kp 7 _ nb7 rfl
      have y0 := (H7.out.on hb).cell 0
      have y1 := (H7.out.on hb).cell 1
      have y2 := (H7.out.on hb).cell 2
      have y3 := (H7.out.on hb).cell 3
      have y4 := (H7.out.on hb).cell 4
      have y5 := (H7.out.on hb).cell 5
      simp only [List.getElem?_toArray, List.getElem?_cons_zero, List.getElem?_cons_succ] at y0 y1 y2 y3 y4 y5
      exact Rg.op_value rfl rfl (Rg.ex_load a.eval _ 33 (.tmp 7) rfl (by rw [e7]; simp [go_sem, y0, y1, y2, y3, y4, y5])) (hK _ x rfl (Below.refl _ _))
    · obtain rfl := Option.some.inj ho
      have e10 : a.eval (.tmp 10) = .pointer (some ⟨b10, 0, none⟩) := seen.kp 10 _ nb10 rfl
      have y0 := (H10.out.on hb).cell 0
      have y1 := (H10.out.on hb).cell 1
      simp only [List.getElem?_toArray, List.getElem?_cons_zero, List.getElem?_cons_succ] at y0 y1
      exact Rg.op_value rfl rfl (Rg.ex_load a.eval _ 23 (.tmp 10) rfl (by rw [e10]; simp [go_sem, y0, y1])) (hK _ x rfl (Below.refl _ _))
    · obtain rfl := Option.some.inj ho
      have e5 : a.eval (.tmp 5) = .pointer (some ⟨b5, 0, none⟩) := seen.kp 5 _ nb5 rfl
      have y0 := (H5.out.on hb).cell 0
      have y1 := (H5.out.on hb).cell 1
      simp only [List.getElem?_toArray, List.getElem?_cons_zero, List.getElem?_cons_succ] at y0 y1
      exact Rg.op_value rfl rfl (Rg.ex_load a.eval _ 43 (.tmp 5) rfl (by rw [e5]; simp [go_sem, y0, y1])) (hK _ x rfl (Below.refl _ _))
    · obtain rfl := Option.some.inj ho
      have e54 : a.eval (.tmp 54) = .agg #[.slice h1 h2 h3, .slice g1 g2 g3] := seen.at_ ⟨2, .data⟩ (by simp) rfl (by decide) (by decide) (Or.inr (by decide))
      exact Rg.op_call rfl rfl (Rw.ex_call1 a.eval _ (.tmp 54) 43 12 rfl e54 rfl _ (call_fn Try.func12 rfl rfl _ _)) (pred_any (.slice h1 h2 h3) (.slice g1 g2 g3) has vals x (IH.out.on hb) (IV.out.on hb) LH.out LV.out) fun e w1 h => by
        obtain ⟨v, rfl, q1, q2⟩ := h
        obtain ⟨a1, a2, hvv⟩ := (Row.of_own q1).len
        have q3 := own_fewer q1 hb.size
        rw [hvv] at q3
        exact ⟨_, rfl, hK _ _ ⟨(a1, _, a2), hvv, q3⟩ q2⟩
    · obtain rfl := Option.some.inj ho
      have e9 : a.eval (.tmp 9) = .int .i64 (k : Int) := seen.kp 9 _ nb9 rfl
      exact Rg.op_value rfl rfl (Rg.ex_move a.eval _ (.tmp 9) rfl x) (hK _ x e9 (Below.refl _ _))
    · obtain rfl := Option.some.inj ho
      have e56 : a.eval (.tmp 56) = .int .i64 (k : Int) := seen.at_ ⟨4, .data⟩ (by simp) rfl (by decide) (by decide) (Or.inr (by decide))
      exact Rg.op_value rfl rfl (Rg.ex_bin a.eval _ .rem 3 (.tmp 56) (.const (.int .i64 2)) 3 rfl (by rw [e56]; exact rem_two _ _ _ k)) (hK _ x rfl (Below.refl _ _))
    · obtain rfl := Option.some.inj ho
      have e57 : a.eval (.tmp 57) = .int .i64 ((k % 2 : Nat) : Int) := seen.at_ ⟨5, .data⟩ (by simp) rfl (by decide) (by decide) (Or.inr (by decide))
      exact Rg.op_value rfl rfl (Rg.ex_bin a.eval _ .add 3 (.const (.int .i64 1)) (.tmp 57) 3 rfl (by rw [e57]; exact one_add _ _ _ (k % 2) (by omega))) (hK _ x rfl (Below.refl _ _))
    · obtain rfl := Option.some.inj ho
      have e53 : a.eval (.tmp 53) = .agg #[.int .i64 i1, .int .i64 i2] := seen.at_ ⟨1, .data⟩ (by simp) rfl (by decide) (by decide) (Or.inr (by decide))
      have E55 := seen.at_ ⟨3, .data⟩ (by simp) rfl (by decide) (by decide) (Or.inl rfl)
      have e58 : a.eval (.tmp 58) = .int .i64 (((k % 2 : Nat) : Int) + 1) := seen.at_ ⟨6, .data⟩ (by simp) rfl (by decide) (by decide) (Or.inr (by decide))
      obtain ⟨s, q0, q1⟩ := E55
      have q0 : a.eval (.tmp 55) = slv s := q0
      exact Rg.op_value rfl rfl (Rg.ex_buildS a.eval _ 26 #[(0, .tmp 53), (1, .tmp 55), (2, .tmp 58)] rfl (ps := #[(0, .agg #[.int .i64 i1, .int .i64 i2]), (1, slv s), (2, .int .i64 (((k % 2 : Nat) : Int) + 1))]) (by simp only [List.map_toArray, List.map_cons, List.map_nil, e53, q0, e58]) (by simp [go_sem])) (hK _ x ⟨s, rfl, q1⟩ (Below.refl _ _))
    · obtain rfl := Option.some.inj ho
      have e52 : a.eval (.tmp 52) = .agg #[.int .i64 b.me, .slice s1 s2 s3, .slice s4 s5 s6, .slice s7 s8 s9, .slice s10 s11 s12, .slice s13 s14 s15] := seen.at_ ⟨0, .data⟩ (by simp) rfl (by decide) (by decide) (Or.inr (by decide))
      have E59 := seen.at_ ⟨7, .data⟩ (by simp) rfl (by decide) (by decide) (Or.inl rfl)
      obtain ⟨s, q0, q1⟩ := E59
      exact Rg.op_call rfl rfl (Rw.ex_call2 a.eval _ (.tmp 52) (.tmp 59) 33 26 5 rfl e52 q0 rfl _ (call_fn Try.func5 rfl rfl _ _)) (learn_any b ⟨(i1, i2), ((prd has vals 7).map r5), ((k % 2 : Nat) : Int) + 1⟩ (s1, s2, s3) (s4, s5, s6) (s7, s8, s9) (s10, s11, s12) (s13, s14, s15) (i1, i2, s, ((k % 2 : Nat) : Int) + 1) x (BN.out.on hb).br ⟨rfl, rfl, Row.of_own q1⟩ FW.out FP.out PLN.out RS.out RA.out) fun e w1 h => by
        obtain ⟨⟨a1, a2, a3, a4, a5, rfl, h2, h3⟩, h5⟩ := h
        exact ⟨_, rfl, hK _ _ ⟨a1, a2, a3, a4, a5, rfl, h2, h3 (BN.out.on hb).no⟩ h5⟩
    · obtain rfl := Option.some.inj ho
      have E60 := seen.at_ ⟨8, .data⟩ (by simp) rfl (by decide) (by decide) (Or.inl rfl)
      exact Rg.op_value rfl rfl (Rg.ex_move a.eval _ (.tmp 60) rfl x) (hK _ x E60 (Below.refl _ _))
    · obtain rfl := Option.some.inj ho
      have E51 := seen.at_ ⟨9, .data⟩ (by simp) rfl (by decide) (by decide) (Or.inr (by decide))
      obtain ⟨a1, a2, a3, a4, a5, h1, h2⟩ := E51
      exact Rg.op_value rfl rfl (ex_extract a.eval _ (.tmp 51) 0 rfl h1 rfl x) (hK _ x ⟨a1, a2, a3, a4, a5, rfl, h2⟩ (Below.refl _ _))
    · obtain rfl := Option.some.inj ho
      have E51 := seen.at_ ⟨9, .data⟩ (by simp) rfl (by decide) (by decide) (Or.inr (by decide))
      obtain ⟨a1, a2, a3, a4, a5, h1, h2⟩ := E51
      exact Rg.op_value rfl rfl (ex_extract a.eval _ (.tmp 51) 1 rfl h1 rfl x) (hK _ x rfl (Below.refl _ _))
    · obtain rfl := Option.some.inj ho
      have e62 : a.eval (.tmp 62) = .bool (learnB b ⟨(i1, i2), ((prd has vals 7).map r5), ((k % 2 : Nat) : Int) + 1⟩).2 := seen.at_ ⟨11, .data⟩ (by simp) rfl (by decide) (by decide) (Or.inr (by decide))
      exact Rg.op_value rfl rfl (Rg.ex_assign a.eval _ (.tmp 62) rfl x) (hK _ x e62 (Below.refl _ _))
  · intro o ho a x K hK
    obtain rfl := Option.some.inj ho
    exact Rg.op_value rfl rfl (Rg.ex_alloc a.eval _ 33 rfl (by simp [go_sem])) hK
  · intro o ho a x bb v D hc hD hb hA hC hvC hbb hbox K hK
    clear HQ
    obtain rfl := Option.some.inj ho
    obtain ⟨⟨m1, m2, m3⟩, ⟨m4, m5, m6⟩, ⟨m7, m8, m9⟩, ⟨m10, m11, m12⟩, ⟨m13, m14, m15⟩, hv1, hv2⟩ := hvC
    subst hv1
    have hbut := but_setB x bb (.int .i64 (learnB b ⟨(i1, i2), ((prd has vals 7).map r5), ((k % 2 : Nat) : Int) + 1⟩).1.me) (.slice m1 m2 m3) (.slice m4 m5 m6) (.slice m7 m8 m9) (.slice m10 m11 m12) (.slice m13 m14 m15)
    refine Rg.op_store 33 (.tmp 11) (.tmp 61) rfl rfl rfl rfl hA hC (w' := setB x bb (.int .i64 (learnB b ⟨(i1, i2), ((prd has vals 7).map r5), ((k % 2 : Nat) : Int) + 1⟩).1.me) (.slice m1 m2 m3) (.slice m4 m5 m6) (.slice m7 m8 m9) (.slice m10 m11 m12) (.slice m13 m14 m15)) (storeBr hbox _ _ _ _ _ _ _ _ _ _ _ _ _ _ _ _) (hK _ (setB_below hb hbb _ _ _ _ _ _) (setB_box hbox _ _ _ _ _ _) ?_)
    exact fun j u hj hjA hjS hdj hnl hls h => by
      rcases (by omega : j = 0 ∨ j = 1 ∨ j = 2 ∨ j = 3 ∨ j = 4 ∨ j = 5 ∨ j = 6 ∨ j = 7 ∨ j = 8 ∨ j = 9 ∨ j = 10 ∨ j = 11 ∨ j = 14) with rfl | rfl | rfl | rfl | rfl | rfl | rfl | rfl | rfl | rfl | rfl | rfl | rfl
      · have h2 : u = .agg #[.int .i64 b.me, .slice s1 s2 s3, .slice s4 s5 s6, .slice s7 s8 s9, .slice s10 s11 s12, .slice s13 s14 s15] := h; exact h2
      · have h2 : u = .agg #[.int .i64 i1, .int .i64 i2] := h; exact h2
      · have h2 : u = .agg #[.slice h1 h2 h3, .slice g1 g2 g3] := h; exact h2
      · exact absurd (hD ⟨7, .phase⟩ (by simp) rfl) hnl
      · have h2 : u = .int .i64 (k : Int) := h; exact h2
      · have h2 : u = .int .i64 ((k % 2 : Nat) : Int) := h; exact h2
      · have h2 : u = .int .i64 (((k % 2 : Nat) : Int) + 1) := h; exact h2
      · exact absurd (hD ⟨8, .chain⟩ (by simp) rfl) hnl
      · exact absurd (hD ⟨9, .phase⟩ (by simp) rfl) hnl
      · obtain ⟨a1, a2, a3, a4, a5, h1, h2⟩ := h; exact ⟨a1, a2, a3, a4, a5, h1, h2.keep (s1 := (none, 0, 0)) (s2 := (none, 0, 0)) (s3 := (none, 0, 0)) (s4 := (none, 0, 0)) (s5 := (none, 0, 0)) (me := 0) hbox hbut⟩
      · obtain ⟨a1, a2, a3, a4, a5, h1, h2⟩ := h; exact ⟨a1, a2, a3, a4, a5, h1, h2.keep (s1 := (none, 0, 0)) (s2 := (none, 0, 0)) (s3 := (none, 0, 0)) (s4 := (none, 0, 0)) (s5 := (none, 0, 0)) (me := 0) hbox hbut⟩
      · have h2 : u = .bool (learnB b ⟨(i1, i2), ((prd has vals 7).map r5), ((k % 2 : Nat) : Int) + 1⟩).2 := h; exact h2
      · have h2 : u = .bool (learnB b ⟨(i1, i2), ((prd has vals 7).map r5), ((k % 2 : Nat) : Int) + 1⟩).2 := h; exact h2
  · intro a x bb v df sz kp gA gC hbb hbox hvC hbel ⟨vs, hv⟩
    obtain ⟨⟨m1, m2, m3⟩, ⟨m4, m5, m6⟩, ⟨m7, m8, m9⟩, ⟨m10, m11, m12⟩, ⟨m13, m14, m15⟩, hv1, hv2⟩ := hvC
    subst hv1
    have g11 : a.tmps[11]? = some (.pointer (some ⟨bb, 0, none⟩)) := gA
    have g12 : a.tmps[12]? = some (.bool (learnB b ⟨(i1, i2), ((prd has vals 7).map r5), ((k % 2 : Nat) : Int) + 1⟩).2) := by
      have h : vs 14 = .bool (learnB b ⟨(i1, i2), ((prd has vals 7).map r5), ((k % 2 : Nat) : Int) + 1⟩).2 := (hv 14 (by decide) (by decide) (by decide)).2 (by decide)
      rw [← h]
      exact (hv 14 (by decide) (by decide) (by decide)).1
    have kp2 : ∀ j, (j < 11 ∨ 63 ≤ j) → a.tmps[j]? = (u0 :: u1 :: u2 :: u3 :: u4 :: .pointer (some ⟨b5, 0, none⟩) :: u6 :: .pointer (some ⟨b7, 0, none⟩) :: u8 :: .int .i64 (k : Int) :: .pointer (some ⟨b10, 0, none⟩) :: u11 :: u12 :: u13 :: u14 :: u15 :: u16 :: u17 :: u18 :: u19 :: u20 :: u21 :: u22 :: u23 :: u24 :: u25 :: u26 :: u27 :: u28 :: u29 :: u30 :: u31 :: u32 :: u33 :: u34 :: u35 :: u36 :: u37 :: u38 :: u39 :: u40 :: u41 :: u42 :: u43 :: u44 :: u45 :: u46 :: u47 :: u48 :: u49 :: u50 :: u51 :: u52 :: u53 :: u54 :: u55 :: u56 :: u57 :: u58 :: u59 :: u60 :: u61 :: u62 :: u63 :: u64 :: u65 :: u66 :: u67 :: u68 :: u69 :: u70 :: u71 :: u72 :: u73 :: u74 :: u75 :: u76 :: u77 :: u78 :: u79 :: u80 :: u81 :: u82 :: u83 :: u84 :: u85 :: u86 :: u87 :: u88 :: u89 :: u90 :: u91 :: u92 :: u93 :: u94 :: u95 :: u96 :: u97 :: u98 :: u99 :: u100 :: u101 :: u102 :: u103 :: u104 :: u105 :: u106 :: u107 :: u108 :: u109 :: u110 :: u111 :: u112 :: u113 :: u114 :: u115 :: u116 :: u117 :: u118 :: u119 :: u120 :: u121 :: u122 :: u123 :: u124 :: u125 :: u126 :: u127 :: u128 :: u129 :: u130 :: u131 :: u132 :: u133 :: u134 :: u135 :: u136 :: u137 :: u138 :: u139 :: u140 :: u141 :: u142 :: u143 :: u144 :: [])[j]? := fun j hj => (kp j (fun i hi h => by have := (by decide : ∀ i, i < 15 → 11 ≤ [52, 53, 54, 55, 56, 57, 58, 59, 60, 51, 61, 62, 11, 11, 12].getD i 0 ∧ [52, 53, 54, 55, 56, 57, 58, 59, 60, 51, 61, 62, 11, 11, 12].getD i 0 < 63) i hi; omega)).trans List.getElem?_toArray
    obtain ⟨mid, hmid, rfl⟩ := Rg.frame_mid (bl := (u0 :: u1 :: u2 :: u3 :: u4 :: .pointer (some ⟨b5, 0, none⟩) :: u6 :: .pointer (some ⟨b7, 0, none⟩) :: u8 :: .int .i64 (k : Int) :: .pointer (some ⟨b10, 0, none⟩) :: u11 :: u12 :: u13 :: u14 :: u15 :: u16 :: u17 :: u18 :: u19 :: u20 :: u21 :: u22 :: u23 :: u24 :: u25 :: u26 :: u27 :: u28 :: u29 :: u30 :: u31 :: u32 :: u33 :: u34 :: u35 :: u36 :: u37 :: u38 :: u39 :: u40 :: u41 :: u42 :: u43 :: u44 :: u45 :: u46 :: u47 :: u48 :: u49 :: u50 :: u51 :: u52 :: u53 :: u54 :: u55 :: u56 :: u57 :: u58 :: u59 :: u60 :: u61 :: u62 :: u63 :: u64 :: u65 :: u66 :: u67 :: u68 :: u69 :: u70 :: u71 :: u72 :: u73 :: u74 :: u75 :: u76 :: u77 :: u78 :: u79 :: u80 :: u81 :: u82 :: u83 :: u84 :: u85 :: u86 :: u87 :: u88 :: u89 :: u90 :: u91 :: u92 :: u93 :: u94 :: u95 :: u96 :: u97 :: u98 :: u99 :: u100 :: u101 :: u102 :: u103 :: u104 :: u105 :: u106 :: u107 :: u108 :: u109 :: u110 :: u111 :: u112 :: u113 :: u114 :: u115 :: u116 :: u117 :: u118 :: u119 :: u120 :: u121 :: u122 :: u123 :: u124 :: u125 :: u126 :: u127 :: u128 :: u129 :: u130 :: u131 :: u132 :: u133 :: u134 :: u135 :: u136 :: u137 :: u138 :: u139 :: u140 :: u141 :: u142 :: u143 :: u144 :: [])) 11 52 df sz (by simp) kp2
    match mid, hmid with
    | v11 :: v12 :: v13 :: v14 :: v15 :: v16 :: v17 :: v18 :: v19 :: v20 :: v21 :: v22 :: v23 :: v24 :: v25 :: v26 :: v27 :: v28 :: v29 :: v30 :: v31 :: v32 :: v33 :: v34 :: v35 :: v36 :: v37 :: v38 :: v39 :: v40 :: v41 :: v42 :: v43 :: v44 :: v45 :: v46 :: v47 :: v48 :: v49 :: v50 :: v51 :: v52 :: v53 :: v54 :: v55 :: v56 :: v57 :: v58 :: v59 :: v60 :: v61 :: v62 :: [], _ =>
      obtain rfl : v11 = .pointer (some ⟨bb, 0, none⟩) := Option.some.inj g11
      obtain rfl : v12 = .bool (learnB b ⟨(i1, i2), ((prd has vals 7).map r5), ((k % 2 : Nat) : Int) + 1⟩).2 := Option.some.inj g12
      obtain rfl : v13 = u13 := Option.some.inj (kp 13 (fun i hi h => (by decide : ∀ i, i < 15 → [52, 53, 54, 55, 56, 57, 58, 59, 60, 51, 61, 62, 11, 11, 12].getD i 0 ≠ 13) i hi h))
      obtain rfl : v14 = u14 := Option.some.inj (kp 14 (fun i hi h => (by decide : ∀ i, i < 15 → [52, 53, 54, 55, 56, 57, 58, 59, 60, 51, 61, 62, 11, 11, 12].getD i 0 ≠ 14) i hi h))
      obtain rfl : v15 = u15 := Option.some.inj (kp 15 (fun i hi h => (by decide : ∀ i, i < 15 → [52, 53, 54, 55, 56, 57, 58, 59, 60, 51, 61, 62, 11, 11, 12].getD i 0 ≠ 15) i hi h))
      obtain rfl : v16 = u16 := Option.some.inj (kp 16 (fun i hi h => (by decide : ∀ i, i < 15 → [52, 53, 54, 55, 56, 57, 58, 59, 60, 51, 61, 62, 11, 11, 12].getD i 0 ≠ 16) i hi h))
      obtain rfl : v17 = u17 := Option.some.inj (kp 17 (fun i hi h => (by decide : ∀ i, i < 15 → [52, 53, 54, 55, 56, 57, 58, 59, 60, 51, 61, 62, 11, 11, 12].getD i 0 ≠ 17) i hi h))
      obtain rfl : v18 = u18 := Option.some.inj (kp 18 (fun i hi h => (by decide : ∀ i, i < 15 → [52, 53, 54, 55, 56, 57, 58, 59, 60, 51, 61, 62, 11, 11, 12].getD i 0 ≠ 18) i hi h))
      obtain rfl : v19 = u19 := Option.some.inj (kp 19 (fun i hi h => (by decide : ∀ i, i < 15 → [52, 53, 54, 55, 56, 57, 58, 59, 60, 51, 61, 62, 11, 11, 12].getD i 0 ≠ 19) i hi h))
      obtain rfl : v20 = u20 := Option.some.inj (kp 20 (fun i hi h => (by decide : ∀ i, i < 15 → [52, 53, 54, 55, 56, 57, 58, 59, 60, 51, 61, 62, 11, 11, 12].getD i 0 ≠ 20) i hi h))
      obtain rfl : v21 = u21 := Option.some.inj (kp 21 (fun i hi h => (by decide : ∀ i, i < 15 → [52, 53, 54, 55, 56, 57, 58, 59, 60, 51, 61, 62, 11, 11, 12].getD i 0 ≠ 21) i hi h))
      obtain rfl : v22 = u22 := Option.some.inj (kp 22 (fun i hi h => (by decide : ∀ i, i < 15 → [52, 53, 54, 55, 56, 57, 58, 59, 60, 51, 61, 62, 11, 11, 12].getD i 0 ≠ 22) i hi h))
      obtain rfl : v23 = u23 := Option.some.inj (kp 23 (fun i hi h => (by decide : ∀ i, i < 15 → [52, 53, 54, 55, 56, 57, 58, 59, 60, 51, 61, 62, 11, 11, 12].getD i 0 ≠ 23) i hi h))
      obtain rfl : v24 = u24 := Option.some.inj (kp 24 (fun i hi h => (by decide : ∀ i, i < 15 → [52, 53, 54, 55, 56, 57, 58, 59, 60, 51, 61, 62, 11, 11, 12].getD i 0 ≠ 24) i hi h))
      obtain rfl : v25 = u25 := Option.some.inj (kp 25 (fun i hi h => (by decide : ∀ i, i < 15 → [52, 53, 54, 55, 56, 57, 58, 59, 60, 51, 61, 62, 11, 11, 12].getD i 0 ≠ 25) i hi h))
      obtain rfl : v26 = u26 := Option.some.inj (kp 26 (fun i hi h => (by decide : ∀ i, i < 15 → [52, 53, 54, 55, 56, 57, 58, 59, 60, 51, 61, 62, 11, 11, 12].getD i 0 ≠ 26) i hi h))
      obtain rfl : v27 = u27 := Option.some.inj (kp 27 (fun i hi h => (by decide : ∀ i, i < 15 → [52, 53, 54, 55, 56, 57, 58, 59, 60, 51, 61, 62, 11, 11, 12].getD i 0 ≠ 27) i hi h))
      obtain rfl : v28 = u28 := Option.some.inj (kp 28 (fun i hi h => (by decide : ∀ i, i < 15 → [52, 53, 54, 55, 56, 57, 58, 59, 60, 51, 61, 62, 11, 11, 12].getD i 0 ≠ 28) i hi h))
      obtain rfl : v29 = u29 := Option.some.inj (kp 29 (fun i hi h => (by decide : ∀ i, i < 15 → [52, 53, 54, 55, 56, 57, 58, 59, 60, 51, 61, 62, 11, 11, 12].getD i 0 ≠ 29) i hi h))
      obtain rfl : v30 = u30 := Option.some.inj (kp 30 (fun i hi h => (by decide : ∀ i, i < 15 → [52, 53, 54, 55, 56, 57, 58, 59, 60, 51, 61, 62, 11, 11, 12].getD i 0 ≠ 30) i hi h))
      obtain rfl : v31 = u31 := Option.some.inj (kp 31 (fun i hi h => (by decide : ∀ i, i < 15 → [52, 53, 54, 55, 56, 57, 58, 59, 60, 51, 61, 62, 11, 11, 12].getD i 0 ≠ 31) i hi h))
      obtain rfl : v32 = u32 := Option.some.inj (kp 32 (fun i hi h => (by decide : ∀ i, i < 15 → [52, 53, 54, 55, 56, 57, 58, 59, 60, 51, 61, 62, 11, 11, 12].getD i 0 ≠ 32) i hi h))
      obtain rfl : v33 = u33 := Option.some.inj (kp 33 (fun i hi h => (by decide : ∀ i, i < 15 → [52, 53, 54, 55, 56, 57, 58, 59, 60, 51, 61, 62, 11, 11, 12].getD i 0 ≠ 33) i hi h))
      obtain rfl : v34 = u34 := Option.some.inj (kp 34 (fun i hi h => (by decide : ∀ i, i < 15 → [52, 53, 54, 55, 56, 57, 58, 59, 60, 51, 61, 62, 11, 11, 12].getD i 0 ≠ 34) i hi h))
      obtain rfl : v35 = u35 := Option.some.inj (kp 35 (fun i hi h => (by decide : ∀ i, i < 15 → [52, 53, 54, 55, 56, 57, 58, 59, 60, 51, 61, 62, 11, 11, 12].getD i 0 ≠ 35) i hi h))
      obtain rfl : v36 = u36 := Option.some.inj (kp 36 (fun i hi h => (by decide : ∀ i, i < 15 → [52, 53, 54, 55, 56, 57, 58, 59, 60, 51, 61, 62, 11, 11, 12].getD i 0 ≠ 36) i hi h))
      obtain rfl : v37 = u37 := Option.some.inj (kp 37 (fun i hi h => (by decide : ∀ i, i < 15 → [52, 53, 54, 55, 56, 57, 58, 59, 60, 51, 61, 62, 11, 11, 12].getD i 0 ≠ 37) i hi h))
      obtain rfl : v38 = u38 := Option.some.inj (kp 38 (fun i hi h => (by decide : ∀ i, i < 15 → [52, 53, 54, 55, 56, 57, 58, 59, 60, 51, 61, 62, 11, 11, 12].getD i 0 ≠ 38) i hi h))
      obtain rfl : v39 = u39 := Option.some.inj (kp 39 (fun i hi h => (by decide : ∀ i, i < 15 → [52, 53, 54, 55, 56, 57, 58, 59, 60, 51, 61, 62, 11, 11, 12].getD i 0 ≠ 39) i hi h))
      obtain rfl : v40 = u40 := Option.some.inj (kp 40 (fun i hi h => (by decide : ∀ i, i < 15 → [52, 53, 54, 55, 56, 57, 58, 59, 60, 51, 61, 62, 11, 11, 12].getD i 0 ≠ 40) i hi h))
      obtain rfl : v41 = u41 := Option.some.inj (kp 41 (fun i hi h => (by decide : ∀ i, i < 15 → [52, 53, 54, 55, 56, 57, 58, 59, 60, 51, 61, 62, 11, 11, 12].getD i 0 ≠ 41) i hi h))
      obtain rfl : v42 = u42 := Option.some.inj (kp 42 (fun i hi h => (by decide : ∀ i, i < 15 → [52, 53, 54, 55, 56, 57, 58, 59, 60, 51, 61, 62, 11, 11, 12].getD i 0 ≠ 42) i hi h))
      obtain rfl : v43 = u43 := Option.some.inj (kp 43 (fun i hi h => (by decide : ∀ i, i < 15 → [52, 53, 54, 55, 56, 57, 58, 59, 60, 51, 61, 62, 11, 11, 12].getD i 0 ≠ 43) i hi h))
      obtain rfl : v44 = u44 := Option.some.inj (kp 44 (fun i hi h => (by decide : ∀ i, i < 15 → [52, 53, 54, 55, 56, 57, 58, 59, 60, 51, 61, 62, 11, 11, 12].getD i 0 ≠ 44) i hi h))
      obtain rfl : v45 = u45 := Option.some.inj (kp 45 (fun i hi h => (by decide : ∀ i, i < 15 → [52, 53, 54, 55, 56, 57, 58, 59, 60, 51, 61, 62, 11, 11, 12].getD i 0 ≠ 45) i hi h))
      obtain rfl : v46 = u46 := Option.some.inj (kp 46 (fun i hi h => (by decide : ∀ i, i < 15 → [52, 53, 54, 55, 56, 57, 58, 59, 60, 51, 61, 62, 11, 11, 12].getD i 0 ≠ 46) i hi h))
      obtain rfl : v47 = u47 := Option.some.inj (kp 47 (fun i hi h => (by decide : ∀ i, i < 15 → [52, 53, 54, 55, 56, 57, 58, 59, 60, 51, 61, 62, 11, 11, 12].getD i 0 ≠ 47) i hi h))
      obtain rfl : v48 = u48 := Option.some.inj (kp 48 (fun i hi h => (by decide : ∀ i, i < 15 → [52, 53, 54, 55, 56, 57, 58, 59, 60, 51, 61, 62, 11, 11, 12].getD i 0 ≠ 48) i hi h))
      obtain rfl : v49 = u49 := Option.some.inj (kp 49 (fun i hi h => (by decide : ∀ i, i < 15 → [52, 53, 54, 55, 56, 57, 58, 59, 60, 51, 61, 62, 11, 11, 12].getD i 0 ≠ 49) i hi h))
      obtain rfl : v50 = u50 := Option.some.inj (kp 50 (fun i hi h => (by decide : ∀ i, i < 15 → [52, 53, 54, 55, 56, 57, 58, 59, 60, 51, 61, 62, 11, 11, 12].getD i 0 ≠ 50) i hi h))
      exact HQ.out x bb _ _ _ _ _ _ _ _ _ _ _ _ m1 m2 m3 m4 m5 m6 m7 m8 m9 m10 m11 m12 m13 m14 m15 hbb hbox hv2 hbel
end Go.Proofs.Ytonoadjmglkhaaa.Av
