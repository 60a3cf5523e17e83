/-
  Pred of the statements' own package: a right predicate of numbers. Conditions as told.
-/
import Derived.Test.YtncogjpmboglhaaGreatG016
set_option maxRecDepth 100000
set_option maxHeartbeats 64000000
namespace Go.Proofs.YtncogjpmboglhaaGreat.Pr
open Go.RowKit Pu Rw Va Kp In
def prd (has vals : List Int) : Nat → List Cn
 | 0 => []
 | i + 1 => if i < has.length ∧ odd (has.getD i 0) = true ∧ (prd has vals i).length < 5 then prd has vals i ++ [(nm i,kdOf (pickZ vals i))] else prd has vals i
theorem prd_len (has vals : List Int) : ∀ k,(prd has vals k).length ≤ k
 | 0 => Nat.le_refl _
 | k + 1 => by
  have h := prd_len has vals k
  simp only [prd]
  split
  ·simp; omega
  ·omega
theorem prd_five (has vals : List Int) : ∀ k,(prd has vals k).length ≤ 5
 | 0 => by simp [prd]
 | k + 1 => by
  have h := prd_five has vals k
  simp only [prd]
  split
  ·rename_i hc; simp; omega
  ·exact h
theorem prd_names (has vals : List Int) : ∀ k,∀ x ∈ prd has vals k,∃ i,i < k ∧ x.1 = nm i
 | 0,x,h => by simp [prd] at h
 | k + 1,x,h => by
  simp only [prd] at h
  split at h
  ·rcases List.mem_append.1 h with h | h
   ·obtain ⟨i,h1,h2⟩ := prd_names has vals k x h
    exact ⟨i,by omega,h2⟩
   ·simp at h
    exact ⟨k,by omega,by rw [h]⟩
  ·obtain ⟨i,h1,h2⟩ := prd_names has vals k x h
   exact ⟨i,by omega,h2⟩
theorem prd_good (has vals : List Int) : ∀ k,∀ x ∈ prd has vals k,goodK x.2 = true
 | 0,x,h => by simp [prd] at h
 | k + 1,x,h => by
  simp only [prd] at h
  split at h
  ·rcases List.mem_append.1 h with h | h
   ·exact prd_good has vals k x h
   ·simp at h
    rw [h]; exact kdOf_good _
  ·exact prd_good has vals k x h
theorem nm_less (i j : Nat) (h : i < j) (hj : j < 7) : Op.bytesLess (nm i).toList (nm j).toList = true := by
 rw [ByteArray.toList_eq,ByteArray.toList_eq]
 have : ∀ j : Fin 7,∀ i : Fin 7,i.val < j.val → Op.bytesLess (nm i.val).data.toList (nm j.val).data.toList = true := by decide
 exact this ⟨j,hj⟩ ⟨i,by omega⟩ h
theorem prd_rise (has vals : List Int) : ∀ k,k ≤ 7 → RiseC (prd has vals k)
 | 0,_ => by simp [prd,RiseC]
 | k + 1,hk => by
  have h := prd_rise has vals k (by omega)
  simp only [prd]
  split
  ·refine List.pairwise_append.2 ⟨h,List.pairwise_singleton _ _,fun x hx y hy => ?_⟩
   obtain ⟨i,h1,h2⟩ := prd_names has vals k x hx
   simp at hy
   rw [hy,h2]
   exact nm_less i k h1 (by omega)
  ·exact h
theorem row_oneC (w : World) (c : C5) : RowC (w.alloc (.cells #[.string c.1,.int .i64 c.2.1,.int .i64 c.2.2.1,.int .i64 c.2.2.2.1,.string c.2.2.2.2] 47)) (.slice (some ⟨w.heap.size,0,none⟩) 1 1) [c] :=
 Row.of_own (row_lit okC w [c] 1 rfl (by simp) _ rfl)
theorem pred_any (hv vv : Value) (has vals : List Int) (w : World) (hh : InInts w hv has) (hw : InInts w vv vals) (lh : has.length ≤ maxLen) (lv : vals.length ≤ maxLen) :
  Calls Tryz.prog 13 #[.agg #[hv,vv]] w fun e w' => ∃ v,e = .returned v ∧ OwnC w' w.heap.size v ((prd has vals 7).map r5) ∧ Below w.heap.size w w' := by
 have HH := Lib.hid hh
 have HW := Lib.hid hw
 have LH := Lib.hid lh
 have LV := Lib.hid lv
 clear hh hw lh lv
 go_enter Tryz.func13,Tryz.ntmps13
 go_wp2_with fail
 refine (names_any _).mono ?_
 rintro e1 w1 ⟨rfl,rfl⟩
 go_wp2
 go_loopw [3,8] (fun lv i wr => ∃ k : Nat,k ≤ 7 ∧ i = .int .i64 k ∧ OwnC wr (w.heap.size + 2) lv ((prd has vals k).map r5) ∧
  Below (w.heap.size + 2) ((w.alloc (.cells #[hv,vv] 53)).alloc (.cells nmCells 9)) wr) (fun _ i _ => 7 - (intOf i).toNat)
 case atStart => exact ⟨0,by omega,rfl,own_nil _ _,Below.refl _ _⟩
 case round =>
  obtain ⟨k,hk,rfl,hown,hb⟩ := hrel
  have HO := Lib.hid hown
  have HB := Lib.hid hb
  have T0 : Below w.heap.size w ((w.alloc (.cells #[hv,vv] 53)).alloc (.cells nmCells 9)) := ((Below.refl _ _).alloc (Nat.le_refl _) _).alloc (by simp) _
  have BW := Lib.hid (T0.trans (hb.mono (by omega)))
  have hsz : w.heap.size + 2 ≤ wr.heap.size := by have := hb.size; simp at this; omega
  clear T0
  obtain ⟨ro,rcap,hrl⟩ := (Row.of_own hown).len
  rw [List.length_map] at hrl
  have hl5 := prd_len has vals k
  by_cases h7 : k < 7
  ·have n0 : wr.cell? ⟨w.heap.size + 1,k,none⟩ = some (.string (nm k)) := by
    rw [hb.cell (p := ⟨w.heap.size + 1,k,none⟩) (by simp),World.cell?_alloc_at _ _ _ _ (by simp)]; exact nm_at k h7
   have b0 : wr.cell? ⟨w.heap.size,0,none⟩ = some hv := by
    rw [hb.cell (p := ⟨w.heap.size,0,none⟩) (by simp),World.cell?_alloc_lt _ _ _ (by simp),World.cell?_alloc_at _ _ _ _ rfl]; rfl
   have b1 : wr.cell? ⟨w.heap.size,1,none⟩ = some vv := by
    rw [hb.cell (p := ⟨w.heap.size,1,none⟩) (by simp),World.cell?_alloc_lt _ _ _ (by simp),World.cell?_alloc_at _ _ _ _ rfl]; rfl
   have IH := Lib.hid (HH.out.on BW.out)
   obtain ⟨ao,acap,hsh⟩ := HH.out.shape
   clear hb hown
   subst hsh
   subst hrl
   have hkk : (k : Int) < 7 := by omega
   by_cases h1 : k < has.length
   ·obtain ⟨y,hy⟩ : ∃ y,has[k]? = some y := ⟨_,List.getElem?_eq_getElem h1⟩
    have hg : has.getD k 0 = y := by rw [List.getD_eq_getElem?_getD,hy]; rfl
    obtain ⟨_,p,_,hix,hpc⟩ := IH.out.at_ k y hy
    cases ho : odd y
    ·have T := Lib.hid (show prd has vals (k + 1) = prd has vals k by simp only [prd]; rw [if_neg]; rintro ⟨_,h2,_⟩; rw [hg,ho] at h2; cases h2)
     have hodd : (bits BinOp.and IntKind.i64 y 1 == 1) = false := ho
     clear ho hy hg
     go_wp2
     go_roundw
     case rel => exact ⟨k + 1,by omega,by go_num,by rw [T.out]; exact HO.out,HB.out⟩
     case measure => simp [intOf]; omega
    ·have hodd : (bits BinOp.and IntKind.i64 y 1 == 1) = true := ho
     by_cases h5 : (prd has vals k).length < 5
     ·have T := Lib.hid (show (prd has vals (k + 1)).map r5 = (prd has vals k).map r5 ++ [r5 (nm k,kdOf (pickZ vals k))] by simp only [prd]; rw [if_pos ⟨h1,by rw [hg,ho],h5⟩,List.map_append]; rfl)
      have PK := Lib.hid (fun (W : World) (hW : Below w.heap.size w W) => pick_any vv vals k W (HW.out.on hW) LV.out (by omega))
      have bd := pickZ_bd HW.out k
      have KV := Lib.hid (fun W => constraint_any (nm k) (pickZ vals k) W bd.1 bd.2)
      clear ho hy hg bd
      go_wp2_with fail
      refine (PK.out _ BW.out).mono ?_
      rintro e1 w1 ⟨rfl,rfl⟩
      go_wp2_with fail
      refine (KV.out _).mono ?_
      rintro e2 w2 ⟨rfl,hb2⟩
      have B2 := Lib.hid hb2
      have O2 := Lib.hid (own_on HO.out hb2)
      have hs2 := hb2.size
      clear hb2
      generalize r5 (nm k,kdOf (pickZ vals k)) = c at T ⊢
      have O3a := Lib.hid (O2.out.alloc (.cells #[.string c.1,.int .i64 c.2.1,.int .i64 c.2.2.1,.int .i64 c.2.2.2.1,.string c.2.2.2.2] 47))
      obtain ⟨v3,w3,r3,o3,g3⟩ := app_row okC (w.heap.size + 2) O3a.out (row_oneC w2 c) (by simp; omega) (by simp) (by simp; omega) 39
      have O3 := Lib.hid o3
      have hbel : Below (w.heap.size + 2) wr w3 := ((B2.out.mono hsz).alloc (by omega) _).grown g3 (by simp; omega) (fun j hj => (O3a.out.lt j hj).1)
      have B3 := Lib.hid (HB.out.trans hbel)
      clear o3 g3 hbel
      go_wp2_with (first | (at_builtin; refine wpList_append_run rfl _ _ 39 rfl rfl rfl r3 ?_) | fail)
      clear r3
      go_wp2
      go_roundw
      case rel => exact ⟨k + 1,by omega,by go_num,by rw [T.out]; exact O3.out,B3.out⟩
      case measure => simp [intOf]; omega
     ·have T := Lib.hid (show prd has vals (k + 1) = prd has vals k by simp only [prd]; rw [if_neg]; rintro ⟨_,_,h2⟩; exact h5 h2)
      clear ho hy hg
      go_wp2
      go_roundw
      case rel => exact ⟨k + 1,by omega,by go_num,by rw [T.out]; exact HO.out,HB.out⟩
      case measure => simp [intOf]; omega
   ·have T := Lib.hid (show prd has vals (k + 1) = prd has vals k by simp only [prd]; rw [if_neg]; rintro ⟨h2,_⟩; exact h1 h2)
    go_wp2
    go_roundw
    case rel => exact ⟨k + 1,by omega,by go_num,by rw [T.out]; exact HO.out,HB.out⟩
    case measure => simp [intOf]; omega
  ·obtain rfl : k = 7 := by omega
   clear hb hown
   go_wp2
   go_ret
   exact ⟨_,rfl,own_less (by omega) HO.out,BW.out⟩
end Go.Proofs.YtncogjpmboglhaaGreat.Pr
