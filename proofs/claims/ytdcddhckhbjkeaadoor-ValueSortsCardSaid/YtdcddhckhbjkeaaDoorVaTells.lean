/-
  The law ValueTells, whole: it answers true at any two values, any number and text. Conditions: numbers of 64 bits; texts no longer than a machine holds; strconv's table of powers of ten is as its text lays it.
-/
import Derived.Test.YtdcddhckhbjkeaaDoorVaTells2
namespace Go.Proofs.YtdcddhckhbjkeaaDoor.Va
open Go.RowKit Go.Sort

set_option maxRecDepth 100000 in
set_option maxHeartbeats 8000000 in
theorem tells_any (t1 : Bool) (n1 : Int) (s1 : ByteArray) (t2 : Bool) (n2 : Int) (s2 : ByteArray) (n : Int) (s : ByteArray) (w : World) (hg : VG w)
    (h10 : -9223372036854775808 ≤ n1) (h11 : n1 ≤ 9223372036854775807) (h20 : -9223372036854775808 ≤ n2) (h21 : n2 ≤ 9223372036854775807) (hs1 : s1.size ≤ maxLen) (hs2 : s2.size ≤ maxLen) (hs : s.size ≤ maxLen) :
    Calls Tryd.prog 4 #[vl t1 n1 s1, vl t2 n2 s2, .int .i64 n, .string s] w (TellsQ w) := by
  have HG := Lib.hid hg
  clear hg
  unfold maxLen at hs hs1 hs2
  go_enter Tryd.func4, Tryd.ntmps4
  go_wp2_with fail
  have c1 : ∀ i, ((w.alloc (.cells #[.bool t1, .int .i64 n1, .string s1] 24)).alloc (.cells #[.bool t2, .int .i64 n2, .string s2] 24)).cell? ⟨w.heap.size, i, none⟩ = #[.bool t1, .int .i64 n1, .string s1][i]? := fun i => by
    rw [World.cell?_alloc_lt _ _ _ (by simp), World.cell?_alloc_at _ _ _ _ rfl]
  have c2 : ∀ i, ((w.alloc (.cells #[.bool t1, .int .i64 n1, .string s1] 24)).alloc (.cells #[.bool t2, .int .i64 n2, .string s2] 24)).cell? ⟨w.heap.size + 1, i, none⟩ = #[.bool t2, .int .i64 n2, .string s2][i]? := fun i => by
    rw [World.cell?_alloc_at _ _ _ _ (by simp)]
  go_region
  clear c1 c2
  have z1 : (s1.extract 0 (min (↑s1.size) 15 : Int).toNat).size ≤ 15 := by rw [ByteArray.size_extract]; omega
  have z2 : (s2.extract 0 (min (↑s2.size) 15 : Int).toNat).size ≤ 15 := by rw [ByteArray.size_extract]; omega
  generalize s1.extract 0 (min (↑s1.size) 15 : Int).toNat = x1 at z1 ⊢
  generalize s2.extract 0 (min (↑s2.size) 15 : Int).toNat = x2 at z2 ⊢
  generalize s.extract 0 (min (↑s.size) 15 : Int).toNat = x 
  have hA : At w (((w.alloc (.cells #[.bool t1, .int .i64 n1, .string x1] 24)).alloc (.cells #[.bool t2, .int .i64 n2, .string x2] 24)).drew) w.heap.size t1 n1 x1 t2 n2 x2 := by
    refine ⟨(((Below.refl _ _).alloc (Nat.le_refl _) _).alloc (by simp) _).drew, ?_, fun i => ?_, fun i => ?_⟩
    · show w.heap.size + 1 < ((w.alloc (.cells #[.bool t1, .int .i64 n1, .string x1] 24)).alloc (.cells #[.bool t2, .int .i64 n2, .string x2] 24)).heap.size
      simp
    · show ((w.alloc (.cells #[.bool t1, .int .i64 n1, .string x1] 24)).alloc (.cells #[.bool t2, .int .i64 n2, .string x2] 24)).cell? ⟨w.heap.size, i, none⟩ = _
      rw [World.cell?_alloc_lt _ _ _ (by simp), World.cell?_alloc_at _ _ _ _ rfl]
    · show ((w.alloc (.cells #[.bool t1, .int .i64 n1, .string x1] 24)).alloc (.cells #[.bool t2, .int .i64 n2, .string x2] 24)).cell? ⟨w.heap.size + 1, i, none⟩ = _
      rw [World.cell?_alloc_at _ _ _ _ (by simp)]
  rename_i K0 hK0
  show K0 _ _
  refine hK0 _ _ ?_
  exact tells_2 w _ w.heap.size t1 n1 x1 t2 n2 x2 n x HG.out h10 h11 h20 h21 z1 z2 hA _ _ _ _ _ _ _ _ _ _ _ _ _ _ _ _ _ _ _ _ _ _ _ _ _ _ _ _ _ _ _ _ _ _ _ _ _ _ _ _ _ _ _ _ _ _ _ _ _ _ _ _ _ _ _ _ _ _ _ _ _ _ _ _ _ _ _ _ _ _ _ _ _ _ _ _ _ _ _ _ _ _ _ _ _ _ _ _ _ _ _ _ _ _ _ _ _ _ _ _
end Go.Proofs.YtdcddhckhbjkeaaDoor.Va
