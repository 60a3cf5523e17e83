/-
  The law TupleNames: its loop, which makes a name of one letter. Condition: the contracts of package tuple; numbers of 64 bits; lists no longer than a machine holds.
-/
import Derived.Test.YtpmhnmdienlgoaaDoorAtPutsG
import Derived.Deep.Cut
import Derived.Deep.CutBlock
namespace Go.Proofs.YtpmhnmdienlgoaaDoor.At
open Go.RowKit Go.Sort Go.Proofs.YtpmhnmdienlgoaaDoor.Va Go.Proofs.YtpmhnmdienlgoaaDoor.In Go.Proofs.YtpmhnmdienlgoaaDoor.Rg

def qs (k : Nat) : ByteArray := ⟨(List.replicate k (113 : UInt8)).toArray⟩
theorem qs_zero : qs 0 = ⟨#[]⟩ := rfl
theorem qs_succ (k : Nat) : qs k ++ ⟨#[113]⟩ = qs (k + 1) := by
  apply ByteArray.ext
  rw [ByteArray.data_append]
  simp [qs, Array.replicate_succ]
theorem qs_size (k : Nat) : (qs k).size = k := by simp [qs, ByteArray.size]
theorem qs_name (k : Nat) : nameB (qs k) = (decide (1 ≤ k) && decide (k ≤ 12)) := by
  unfold nameB
  rw [qs_size]
  have h : (qs k).data.toList.all letB = true := by
    simp only [qs, List.all_eq_true]
    intro c hc
    rw [List.eq_of_mem_replicate hc]
    decide
  rw [h, Bool.true_and]
noncomputable def namesB (k : Nat) : Code := ((Tryd.f6.body.bind (findBlock k)).getD .skip)

set_option maxRecDepth 100000 in
set_option maxHeartbeats 1500000 in
theorem namesB0 (Q : Exit → Act → World → Prop) (W : World) (n : Nat) (h15 : n ≤ 15)
    (u0 u1 u2 u3 u4 u5 u6 u7 u8 u9 u10 u12 u13 u14 u15 u16 u17 u18 u21 u22 u23 u24 u25 u26 u27 u28 u29 u30 u31 u32 u33 u34 u35 u36 u37 u38 u39 u40 u41 u42 u43 u44 u45 u46 u47 u48 u49 u50 u51 u52 u53 u54 u55 u56 u57 u58 u59 u60 u61 u62 u63 u64 u65 u66 u67 u68 u69 u70 u71 u72 u73 u74 u75 u76 u77 u78 u79 u80 u81 u82 u83 u84 u85 u86 u87 u88 u89 u90 u91 u92 u93 u94 u95 u96 u97 u98 u99 u100 u101 u102 u103 u104 u105 u106 u107 u108 u109 u110 u111 u112 u113 u114 u115 u116 u117 u118 u119 u120 u121 u122 u123 u124 u125 : Value)
    (hQ : ∀ (w' : World) (u20 u21 u22 u23 u24 : Value), Below W.heap.size W w' → Q .normal ⟨#[u0, u1, u2, u3, u4, u5, u6, u7, u8, u9, u10, .string (qs n), u12, u13, u14, u15, u16, u17, u18, .int .i64 (n : Nat), u20, u21, u22, u23, u24, u25, u26, u27, u28, u29, u30, u31, u32, u33, u34, u35, u36, u37, u38, u39, u40, u41, u42, u43, u44, u45, u46, u47, u48, u49, u50, u51, u52, u53, u54, u55, u56, u57, u58, u59, u60, u61, u62, u63, u64, u65, u66, u67, u68, u69, u70, u71, u72, u73, u74, u75, u76, u77, u78, u79, u80, u81, u82, u83, u84, u85, u86, u87, u88, u89, u90, u91, u92, u93, u94, u95, u96, u97, u98, u99, u100, u101, u102, u103, u104, u105, u106, u107, u108, u109, u110, u111, u112, u113, u114, u115, u116, u117, u118, u119, u120, u121, u122, u123, u124, u125], []⟩ w') :
    Code.wp Tryd.prog (namesB 0) Q ⟨#[u0, u1, u2, u3, u4, u5, u6, u7, u8, u9, u10, .string ⟨#[]⟩, u12, u13, u14, u15, u16, u17, u18, .int .i64 (n : Nat), .int .i64 0, u21, u22, u23, u24, u25, u26, u27, u28, u29, u30, u31, u32, u33, u34, u35, u36, u37, u38, u39, u40, u41, u42, u43, u44, u45, u46, u47, u48, u49, u50, u51, u52, u53, u54, u55, u56, u57, u58, u59, u60, u61, u62, u63, u64, u65, u66, u67, u68, u69, u70, u71, u72, u73, u74, u75, u76, u77, u78, u79, u80, u81, u82, u83, u84, u85, u86, u87, u88, u89, u90, u91, u92, u93, u94, u95, u96, u97, u98, u99, u100, u101, u102, u103, u104, u105, u106, u107, u108, u109, u110, u111, u112, u113, u114, u115, u116, u117, u118, u119, u120, u121, u122, u123, u124, u125], []⟩ W := by
  have HQ := Lib.hid hQ
  clear hQ
  conv => arg 2; whnf
  go_wp2
  go_loopw [11, 20] (fun s i wr => ∃ k : Nat, k ≤ n ∧ s = .string (qs k) ∧ i = .int .i64 k ∧ Below W.heap.size W wr) (fun _ i _ => n - (intOf i).toNat)
  case atStart => exact ⟨0, Nat.zero_le _, rfl, rfl, Below.refl _ _⟩
  case round =>
    obtain ⟨k, hk, rfl, rfl, hb⟩ := hrel
    have HB := Lib.hid hb
    have E := Lib.hid (qs_succ k)
    clear hb
    by_cases hlt : k < n
    · have hs := qs_size k
      have hk15 : k ≤ 15 := by omega
      go_wp2
      go_roundw
      case rel => exact ⟨k + 1, by omega, by rw [← E.out], by go_num, HB.out⟩
      case measure => simp [intOf]; omega
    · obtain rfl : k = n := by omega
      go_wp2
      exact HQ.out wr _ _ _ _ _ HB.out
end Go.Proofs.YtpmhnmdienlgoaaDoor.At
