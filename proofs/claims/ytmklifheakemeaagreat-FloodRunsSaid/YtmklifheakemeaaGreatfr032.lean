/-
  The last region of drop: the message of its end put behind the others,. Conditions as told.
-/
import Derived.Test.YtmklifheakemeaaGreatfr030
import Derived.Test.YtmklifheakemeaaGreatfr016
import Derived.Test.YtmklifheakemeaaGreatfr021
import Derived.Test.YtmklifheakemeaaGreatfr017
import Derived.Test.YtmklifheakemeaaGreatfr026
set_option maxRecDepth 100000
set_option maxHeartbeats 64000000
namespace Go.Proofs.YtmklifheakemeaaGreat.Bk
open Go.RowKit Go.Sort Rw YtmklifheakemeaaGreat.Nm Pr
end Go.Proofs.YtmklifheakemeaaGreat.Bk
namespace Go.Proofs.YtmklifheakemeaaGreat.Rl
open Go.RowKit Go.Sort Pu Rw Pr Va
abbrev z5 : C5 := (⟨#[]⟩,0,0,0,⟨#[]⟩)
def ofV : Option Cn → Value
 | some y => .tuple #[cv (r5 y),.bool true]
 | none => .tuple #[cv z5,.bool false]
theorem of_any (pv : Value) (p : List Cn) (n : ByteArray) (w : World) (hp : RowC w pv (p.map r5)) (_h100 : p.length ≤ 100) :
  Calls Tryz.prog 176 #[pv,.string n] w fun e w' => e = .returned (ofV (ofC p n)) ∧ Below w.heap.size w w' := by
 have HP := Lib.hid hp
 obtain ⟨ao,ac,rfl⟩ := hp.len
 rw [List.length_map] at HP ⊢
 generalize hm : p.length = m at *
 have HM := Lib.hid hm
 clear hp hm
 have B0 := Lib.hid (show Below w.heap.size w (w.alloc (.cells #[.string ⟨#[]⟩,.int .i64 0,.int .i64 0,.int .i64 0,.string ⟨#[]⟩] 70)) from (Below.refl _ _).alloc (Nat.le_refl _) _)
 have Z0 := Lib.hid (show Box (w.alloc (.cells #[.string ⟨#[]⟩,.int .i64 0,.int .i64 0,.int .i64 0,.string ⟨#[]⟩] 70)) w.heap.size (cells5 z5).toArray 70 from box_new w _ _)
 go_enter Tryz.func176,Tryz.ntmps176
 go_wp2
 generalize w.alloc (.cells #[.string ⟨#[]⟩,.int .i64 0,.int .i64 0,.int .i64 0,.string ⟨#[]⟩] 70) = w1 at B0 Z0 ⊢
 go_loopw [10] (fun i wr => ∃ k : Nat,k ≤ m ∧ i = .int .i64 k ∧ Below w.heap.size w wr ∧ Box wr w.heap.size (cells5 z5).toArray 70 ∧ ∀ (j : Nat) (y : Cn),j < k → p[j]? = some y → y.1 ≠ n) (fun i _ => m - (intOf i).toNat)
 case atStart => exact ⟨0,Nat.zero_le _,rfl,B0.out,Z0.out,fun j y h => by omega⟩
 case round =>
  obtain ⟨k,hk,rfl,hb,ht,hall⟩ := hrel
  have HB := Lib.hid hb
  have HT := Lib.hid ht
  have AL := Lib.hid hall
  clear hb hall ht
  by_cases hlt : k < m
  ·obtain ⟨⟨xn,xk⟩,hx⟩ : ∃ x,p[k]? = some x := ⟨_,List.getElem?_eq_getElem (by rw [HM.out]; exact hlt)⟩
   obtain ⟨q,ix,px⟩ := elC (x := r5 (xn,xk)) HP.out rfl (by rw [List.length_map]; exact HM.out) (by rw [List.getElem?_map,hx]; rfl)
   obtain ⟨p0,p1,p2,p3,p4⟩ := px _ HB.out
   have HX := Lib.hid hx
   have B4 := Lib.hid (HB.out.alloc HB.out.size (.cells #[.string xn,.int .i64 (kN xk),.int .i64 (kLo xk),.int .i64 (kHi xk),.string (kT xk)] 70))
   have T4 := Lib.hid (HT.out.more (.cells #[.string xn,.int .i64 (kN xk),.int .i64 (kLo xk),.int .i64 (kHi xk),.string (kT xk)] 70))
   clear hx px
   simp only [r5] at p0 p1 p2 p3 p4
   by_cases he : xn = n
   ·have hn : (xn.toList == n.toList) = true := by rw [he]; exact beq_self_eq_true _
    have R := Lib.hid (of_at HX.out he AL.out)
    clear he
    obtain ⟨c0,c1,c2,c3,c4⟩ := box_five HT.out
    have f0 := HT.out.fr 0
    have f1 := HT.out.fr 1
    have f2 := HT.out.fr 2
    have f3 := HT.out.fr 3
    have f4 := HT.out.fr 4
    have hlt4 := HT.out.lt
    simp only at c0 c1 c2 c3 c4
    go_wp2
    have T5 := (box_store HT.out (xn,kN xk,kLo xk,kHi xk,kT xk)).more (.cells #[.string xn,.int .i64 (kN xk),.int .i64 (kLo xk),.int .i64 (kHi xk),.string (kT xk)] 70)
    have B5 := (below_five HB.out w.heap.size (Nat.le_refl _) (.string xn) (.int .i64 (kN xk)) (.int .i64 (kLo xk)) (.int .i64 (kHi xk)) (.string (kT xk))).alloc (below_five HB.out w.heap.size (Nat.le_refl _) (.string xn) (.int .i64 (kN xk)) (.int .i64 (kLo xk)) (.int .i64 (kHi xk)) (.string (kT xk))).size (.cells #[.string xn,.int .i64 (kN xk),.int .i64 (kLo xk),.int .i64 (kHi xk),.string (kT xk)] 70)
    generalize World.alloc _ (.cells #[.string xn,.int .i64 (kN xk),.int .i64 (kLo xk),.int .i64 (kHi xk),.string (kT xk)] 70) = w6 at T5 B5 ⊢
    obtain ⟨d0,d1,d2,d3,d4⟩ := box_five T5
    simp only at d0 d1 d2 d3 d4
    refine bodyPost_ret (v := ofV (some (xn,xk))) (by simp [results,Tryz.results176,go_sem,d0,d1,d2,d3,d4,ofV,r5]) rfl ⟨by rw [R.out],B5⟩
   ·have hn : (xn.toList == n.toList) = false := by rw [beq_eq_false_iff_ne]; exact fun h => he (name_inj h)
    have HE := Lib.hid he
    clear he
    go_wp2
    go_roundw
    case rel => exact ⟨k + 1,by omega,by go_num,B4.out,T4.out,fun j y hj hy => by
     rcases Nat.lt_or_ge j k with h3 | h3
     ·exact AL.out j y h3 hy
     ·obtain rfl : j = k := by omega
      have e := HX.out
      rw [hy] at e
      rw [Option.some.inj e]
      exact HE.out⟩
    case measure => simp [intOf]; omega
  ·obtain rfl : k = m := by omega
   have R := Lib.hid (of_none (p := p) (n := n) (fun j y hj hy => AL.out j y (by rw [← HM.out]; exact hj) hy))
   obtain ⟨c0,c1,c2,c3,c4⟩ := box_five HT.out
   have f0 := HT.out.fr 0
   have f1 := HT.out.fr 1
   have f2 := HT.out.fr 2
   have f3 := HT.out.fr 3
   have f4 := HT.out.fr 4
   have hlt4 := HT.out.lt
   simp only at c0 c1 c2 c3 c4
   go_wp2
   have T5 := box_store HT.out z5
   have B5 := below_five HB.out w.heap.size (Nat.le_refl _) (.string ⟨#[]⟩) (.int .i64 0) (.int .i64 0) (.int .i64 0) (.string ⟨#[]⟩)
   simp only at T5
   generalize World.setCell _ _ (.string ⟨#[]⟩) = w6 at T5 B5 ⊢
   obtain ⟨d0,d1,d2,d3,d4⟩ := box_five T5
   simp only at d0 d1 d2 d3 d4
   refine bodyPost_ret (v := ofV none) (by simp [results,Tryz.results176,go_sem,d0,d1,d2,d3,d4,ofV]) rfl ⟨by rw [R.out],B5⟩
theorem wider_any (n : ByteArray) (c d : Kd) (w : World) (hc : goodK c = true) (hd : goodK d = true) :
  Calls Tryz.prog 177 #[cv (r5 (n,c)),cv (r5 (n,d))] w fun e w' => e = .returned (.bool (impliesK d c)) ∧ Below w.heap.size w w' := by
 obtain ⟨ba,bb,hb⟩ := box2 w (r5 (n,c)) (r5 (n,d))
 have BB := Lib.hid bb
 have B := Lib.hid hb
 have CB := Lib.hid (both_any (n,c) (n,d) ((w.alloc (.cells (cells5 (r5 (n,c))).toArray 70)).alloc (.cells (cells5 (r5 (n,d))).toArray 70)) rfl)
 have WS := Lib.hid (fun k (h : bothK c d = some k) => wider_some (n := n) hc hd h)
 have WN := Lib.hid (fun (h : bothK c d = none) => wider_none hd h)
 simp only at CB
 generalize bothK c d = r at *
 generalize impliesK d c = i at *
 clear ba bb hb hc hd
 simp only [r5] at CB ⊢
 go_enter Tryz.func177,Tryz.ntmps177
 go_wp2_with fail
 refine CB.out.mono ?_
 rintro e w2 ⟨⟨y,rfl,hy⟩,hb2⟩
 have B2 := Lib.hid (B.out.trans (hb2.mono B.out.size))
 obtain ⟨b0,b1,b2,b3,b4⟩ := box_five (BB.out.on hb2)
 simp only [r5] at b0 b1 b2 b3 b4
 have B3 := Lib.hid (B2.out.alloc B2.out.size (.cells #[.string y.1,.int .i64 y.2.1,.int .i64 y.2.2.1,.int .i64 y.2.2.2.1,.string y.2.2.2.2] 70))
 have HY := Lib.hid hy
 have hw2 : w.heap.size + 1 < w2.heap.size := by have := hb2.size; simp at this; omega
 clear hb2 CB BB B hy
 rcases r with _ | k
 ·have E := Lib.hid (WN.out rfl)
  clear WN WS
  go_wp2
  go_ret
  exact ⟨ret_bool E.out.symm,B3.out⟩
 ·have E := Lib.hid (show eqlC y (r5 (n,d)) = i by rw [HY.out k rfl]; exact WS.out k rfl)
  obtain ⟨y0,y1,y2,y3,y4⟩ := y
  clear WN WS HY B3
  go_wp2
  all_goals go_ret
  all_goals exact ⟨ret_bool (by rw [← E.out]; simp [eqlC,r5, *]),B2.out.alloc B2.out.size _⟩
end Go.Proofs.YtmklifheakemeaaGreat.Rl
namespace Go.Proofs.YtmklifheakemeaaGreat.Bk
open Go.RowKit Go.Sort Rw YtmklifheakemeaaGreat.Nm Pr
end Go.Proofs.YtmklifheakemeaaGreat.Bk
