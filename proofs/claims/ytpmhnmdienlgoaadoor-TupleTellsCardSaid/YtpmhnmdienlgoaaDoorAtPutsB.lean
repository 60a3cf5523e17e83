/-
  The law TuplePuts: the loop that puts what the other order holds. Condition: the contracts of package tuple; numbers of 64 bits; lists no longer than a machine holds.
-/
import Derived.Test.YtpmhnmdienlgoaaDoorAtSay
import Derived.Test.YtpmhnmdienlgoaaDoorAtGets
import Derived.Test.YtpmhnmdienlgoaaDoorAtRot
import Derived.Test.YtpmhnmdienlgoaaDoorAtPutsA
import Derived.Deep.Cut
import Derived.Deep.CutBlock
namespace Go.Proofs.YtpmhnmdienlgoaaDoor.At
open Go.RowKit Go.Sort Go.Proofs.YtpmhnmdienlgoaaDoor.Va Go.Proofs.YtpmhnmdienlgoaaDoor.In Go.Proofs.YtpmhnmdienlgoaaDoor.Rg

def PA (own : List A4) : List A4 := own.foldl (fun x a => putA x a.1 a.2) []
theorem pa_take {own : List A4} {k : Nat} {x : A4} (h : own[k]? = some x) : PA (own.take (k + 1)) = putA (PA (own.take k)) x.1 x.2 := by
  unfold PA
  rw [List.take_add_one, h]
  simp [List.foldl_append]
theorem pa_fine {own : List A4} (hn : (own.map (·.1)).Nodup) (k : Nat) (hk : k ≤ own.length) : Rise (PA (own.take k)) ∧ (PA (own.take k)).length = k := by
  have hs : ((own.take k ++ ([] : List A4)).map (·.1)).Nodup := by
    rw [List.append_nil]
    exact hn.sublist ((List.take_sublist k own).map _)
  obtain ⟨h1, h2⟩ := fold_put (own.take k) ([] : List A4) List.Pairwise.nil hs
  refine ⟨h1, ?_⟩
  have h3 := h2.length_eq
  simp only [List.append_nil, List.length_take] at h3
  unfold PA
  omega

set_option maxRecDepth 100000 in
set_option maxHeartbeats 8000000 in
theorem putsB2 {G : World → Prop} (K : Oks G) (Q : Exit → Act → World → Prop) (W : World) (ov0 ov : Value) (own : List A4) (ho : RowA W ov own) (hn : (own.map (·.1)).Nodup) (h7 : own.length ≤ 7) (hz : ∀ x ∈ own, x.1.size ≤ 100)
    (u0 u1 u2 u3 u4 u5 u6 u7 u8 u9 u10 u12 u13 u15 u16 u17 u18 u19 u20 u21 u22 u23 u24 u25 u26 u27 u28 u29 u30 u31 u32 u33 u34 u35 u36 u37 u38 u39 u40 u41 u42 u43 u44 u45 u46 u47 u48 u49 u50 u51 u52 u53 u54 u55 u56 u57 u58 u59 u60 u61 u62 u63 u67 u68 u69 u70 u71 u72 u73 u74 u75 u76 u77 u78 u79 u80 u81 u82 u83 u84 u85 u86 u87 u88 u89 u90 u91 u92 u93 u94 u95 u96 u97 u98 u99 u100 u101 u102 u103 u104 u105 u106 u107 u108 u109 u110 u111 u112 u113 u114 u115 u116 u117 u118 u119 u120 u121 u122 u123 u124 u125 u126 u127 u128 u129 u130 u131 u132 u133 u134 u135 u136 u137 u138 u139 u140 u141 : Value)
    (hQ : ∀ (w' : World) (xv u16 u66 u67 u68 u69 u70 u71 u72 u73 u74 u75 u76 : Value), RowA w' xv (PA own) → Below W.heap.size W w' → Q .normal ⟨#[u0, u1, u2, u3, u4, u5, u6, u7, u8, u9, u10, ov0, u12, u13, xv, u15, u16, u17, u18, u19, u20, u21, u22, u23, u24, u25, u26, u27, u28, u29, u30, u31, u32, u33, u34, u35, u36, u37, u38, u39, u40, u41, u42, u43, u44, u45, u46, u47, u48, u49, u50, u51, u52, u53, u54, u55, u56, u57, u58, u59, u60, u61, u62, u63, ov, .int .i64 own.length, u66, u67, u68, u69, u70, u71, u72, u73, u74, u75, u76, u77, u78, u79, u80, u81, u82, u83, u84, u85, u86, u87, u88, u89, u90, u91, u92, u93, u94, u95, u96, u97, u98, u99, u100, u101, u102, u103, u104, u105, u106, u107, u108, u109, u110, u111, u112, u113, u114, u115, u116, u117, u118, u119, u120, u121, u122, u123, u124, u125, u126, u127, u128, u129, u130, u131, u132, u133, u134, u135, u136, u137, u138, u139, u140, u141], []⟩ w') :
    Code.wp Tryd.prog (putsB 2) Q ⟨#[u0, u1, u2, u3, u4, u5, u6, u7, u8, u9, u10, ov0, u12, u13, .slice none 0 0, u15, u16, u17, u18, u19, u20, u21, u22, u23, u24, u25, u26, u27, u28, u29, u30, u31, u32, u33, u34, u35, u36, u37, u38, u39, u40, u41, u42, u43, u44, u45, u46, u47, u48, u49, u50, u51, u52, u53, u54, u55, u56, u57, u58, u59, u60, u61, u62, u63, ov, .int .i64 own.length, .int .i64 0, u67, u68, u69, u70, u71, u72, u73, u74, u75, u76, u77, u78, u79, u80, u81, u82, u83, u84, u85, u86, u87, u88, u89, u90, u91, u92, u93, u94, u95, u96, u97, u98, u99, u100, u101, u102, u103, u104, u105, u106, u107, u108, u109, u110, u111, u112, u113, u114, u115, u116, u117, u118, u119, u120, u121, u122, u123, u124, u125, u126, u127, u128, u129, u130, u131, u132, u133, u134, u135, u136, u137, u138, u139, u140, u141], []⟩ W := by
  have KK := Lib.hid K
  have HQ := Lib.hid hQ
  have HL := Lib.hid ho
  have HF := Lib.hid (pa_fine hn)
  have HZ := Lib.hid hz
  obtain ⟨lo, lc, rfl⟩ := ho.len
  clear K hQ ho hn hz
  conv => arg 2; whnf
  go_wp2
  go_loopw [14, 66] (fun x i wr => ∃ k : Nat, k ≤ own.length ∧ i = .int .i64 k ∧ RowA wr x (PA (own.take k)) ∧ Below W.heap.size W wr) (fun _ i _ => own.length - (intOf i).toNat)
  case atStart => exact ⟨0, Nat.zero_le _, rfl, Or.inl ⟨rfl, rfl⟩, Below.refl _ _⟩
  case round =>
    obtain ⟨k, hk, rfl, hr, hb⟩ := hrel
    have HB := Lib.hid hb
    have HR := Lib.hid hr
    clear hb hr
    by_cases hlt : k < own.length
    · obtain ⟨⟨xn, xt, xi, xs⟩, hx⟩ : ∃ x, own[k]? = some x := ⟨_, List.getElem?_eq_getElem hlt⟩
      obtain ⟨p, ix, px⟩ := row_cells HL.out rfl rfl hx
      obtain ⟨p0, p1, p2, p3⟩ := px _ HB.out
      have hxs := HZ.out _ (List.mem_of_getElem? hx)
      have XS := Lib.hid (show xn.size ≤ maxLen by unfold maxLen; simp only at hxs; omega)
      have PT := Lib.hid (pa_take hx)
      obtain ⟨rk, lk⟩ := HF.out k hk
      have RK := Lib.hid rk
      have B4 := Lib.hid (HB.out.alloc HB.out.size (.cells #[.string xn, .bool xt, .int .i64 xi, .string xs] 25))
      have R4 := Lib.hid (HR.out.on ((Below.refl _ _).alloc (Nat.le_refl _) (.cells #[.string xn, .bool xt, .int .i64 xi, .string xs] 25)))
      clear hx px hxs rk
      simp only at p0 p1 p2 p3
      go_wp2_with fail
      refine (KK.out.put _ _ xn xt xi xs _ R4.out (by omega) RK.out XS.out).mono ?_
      rintro e5 w5 ⟨pv, rfl, hr, hb⟩
      have B5 := Lib.hid (B4.out.trans (hb.mono B4.out.size))
      have R5 := Lib.hid (show RowA w5 pv (PA (own.take (k + 1))) by rw [PT.out]; exact hr)
      clear hb hr p0 p1 p2 p3 ix lk
      go_wp2
      go_roundw
      case rel => exact ⟨k + 1, by omega, by go_num, R5.out, B5.out⟩
      case measure => simp [intOf]; omega
    · obtain rfl : k = own.length := by omega
      have HR2 := Lib.hid (show RowA wr _ (PA own) by have := HR.out; rw [List.take_length] at this; exact this)
      go_wp2
      exact HQ.out wr _ _ _ _ _ _ _ _ _ _ _ _ _ HR2.out HB.out
end Go.Proofs.YtpmhnmdienlgoaaDoor.At
