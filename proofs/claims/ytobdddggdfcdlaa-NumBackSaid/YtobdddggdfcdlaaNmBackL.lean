/-
  The law NumBack whole. Conditions: numbers of 64 bits; a byte from 0 to 255; texts no longer than a machine holds.
-/
import Derived.Test.YtobdddggdfcdlaaNmBack
namespace Go.Proofs.Ytobdddggdfcdlaa.Nm
open Go.RowKit Go.Sort Go.Proofs.Ytobdddggdfcdlaa Go.Proofs.Ytobdddggdfcdlaa.Rw

set_option maxRecDepth 100000 in
set_option maxHeartbeats 16000000 in
theorem back_any (n m : Int) (s t : ByteArray) (x y ci cut : Int) (w : World) (hn : I64 n) (hm : I64 m) (hs : s.size ≤ maxLen) (ht : t.size ≤ maxLen) (hx : I64 x) (hy : I64 y) (hc : (Lit.int .u8 ci).wf = true) (hcut : I64 cut) :
    Calls Try.prog 4 #[.int .i64 n, .int .i64 m, .string s, .string t, .agg #[.int .i64 x, .int .i64 y], .int .u8 ci, .int .i64 cut] w (BackQ w) := by
  obtain ⟨c, rfl⟩ := u8_is hc
  have IN := Lib.hid hn
  have IM := Lib.hid hm
  have IX := Lib.hid hx
  have IY := Lib.hid hy
  have IC := Lib.hid hcut
  have B1 := Lib.hid (new_below w (.cells #[.int .i64 x, .int .i64 y] 31))
  have X1 := Lib.hid (box_new w #[.int .i64 x, .int .i64 y] 31)
  have h1 : s.size ≤ 9223372036854775807 := by unfold maxLen at hs; omega
  have h2 : t.size ≤ 9223372036854775807 := by unfold maxLen at ht; omega
  clear hn hm hx hy hc hcut hs ht
  go_enter Try.func4, Try.ntmps4
  go_wp2_with fail
  go_region
  have S1 : (s.extract 0 (if (200 : Int) < (s.size : Int) then (200 : Int) else (s.size : Int)).toNat).size ≤ 200 := by
    rw [ByteArray.size_extract]
    split <;> omega
  have T1 : (t.extract 0 (if (30 : Int) < (t.size : Int) then (30 : Int) else (t.size : Int)).toNat).size ≤ 30 := by
    rw [ByteArray.size_extract]
    split <;> omega
  generalize s.extract 0 (if (200 : Int) < (s.size : Int) then (200 : Int) else (s.size : Int)).toNat = s1 at *
  generalize t.extract 0 (if (30 : Int) < (t.size : Int) then (30 : Int) else (t.size : Int)).toNat = t1 at *
  have B2 := Lib.hid (B1.out.drew)
  have X2 := Lib.hid (show Box (w.alloc (.cells #[.int .i64 x, .int .i64 y] 31)).drew w.heap.size #[.int .i64 x, .int .i64 y] 31 from X1.out)
  clear B1 X1 h1 h2
  generalize (w.alloc (.cells #[.int .i64 x, .int .i64 y] 31)).drew = W at *
  simp only [Exit.then]
  apply_assumption
  go_upto_region 3 with fail
  refine back_r3 _ W n m s1 c x y t1 w.heap.size _ _ _ _ _ _ _ _ _ _ _ _ _ _ _ _ _ _ _ _ _ _ _ _ _ _ _ _ _ _ _ _ _ _ _ _ _ _ _ _ _ _ _ _ _ _ _ _ _ _ _ _ _ _ _ _ _ _ _ _ _ _ _ _ _ _ _ _ _ _ _ _ _ _ _ _ _ _ _ _ _ _ _ _ _ _ _ _ _ _ _ _ _ _ _ _ _ _ _ _ _ _ _ _ _ _ _ _ _ _ _ _ _ _ _ _ _ _ _ _ _ _ _ _ _ _ _ _ _ _ _ _ _ _ _ _ _ _ _ _ _ _ _ _ _ _ _ _ _ _ _ _ _ _ _ _ _ _ _ _ _ _ _ _ _ _ _ _ _ _ _ _ _ _ _ _ _ _ _ _ _ _ _ _ _ _ _ _ _ _ _ _ _ _ _ _ _ _ _ _ _ _ _ _ _ _ _ _ _ _ _ _ _ _ _ _ _ _ _ _ _ _ _ X2.out S1 (by omega) ?_
  intro w3 v v35 v36 v37 v38 v39 v40 v41 v42 v43 v44 v45 v46 v47 v48 v49 v50 v51 v52 ho hb
  simp only [Exit.then]
  apply_assumption
  exact back_end w w3 n m s1 c x y t1 cut w.heap.size _ _ _ _ _ _ _ _ _ _ _ _ _ _ _ _ _ _ _ _ _ _ _ _ _ _ _ _ _ _ _ _ _ _ _ _ _ _ _ _ _ _ _ _ _ _ _ _ _ _ _ _ _ _ _ _ _ _ _ _ _ _ _ _ _ _ _ _ _ _ _ _ _ _ _ _ _ _ _ _ _ _ _ _ _ _ _ _ _ _ _ _ _ _ _ _ _ _ _ _ _ _ _ _ _ _ _ _ _ _ _ _ _ _ _ _ _ _ _ _ _ _ _ _ _ _ _ _ _ _ _ _ _ _ _ _ _ _ _ _ _ _ _ _ _ _ _ _ _ _ _ _ _ _ _ _ _ _ _ _ _ _ _ _ _ _ _ _ _ _ _ _ _ _ _ _ _ _ _ _ _ _ _ _ _ _ _ _ _ _ _ _ _ _ _ _ _ _ _ _ _ _ _ _ _ _ _ _ _ _ _ _ _ _ _ _ _ _ _ _ _ _ v (X2.out.on hb) S1 T1 IN.out IM.out IX.out IY.out IC.out (Row.of_own ho) (B2.out.trans (hb.mono B2.out.size)) (Nat.le_refl _)
theorem back_law (n m : Int) (s t : ByteArray) (x y ci cut : Int) (w : World) (hn : I64 n) (hm : I64 m) (hs : s.size ≤ maxLen) (ht : t.size ≤ maxLen) (hx : I64 x) (hy : I64 y) (hc : (Lit.int .u8 ci).wf = true) (hcut : I64 cut) :
    Calls Try.prog 4 #[.int .i64 n, .int .i64 m, .string s, .string t, .agg #[.int .i64 x, .int .i64 y], .int .u8 ci, .int .i64 cut] w fun e w' => e = .returned (.bool true) ∧ Below w.heap.size w w' :=
  back_any n m s t x y ci cut w hn hm hs ht hx hy hc hcut
end Go.Proofs.Ytobdddggdfcdlaa.Nm
