/-
  Right, Number, Text, Less, Say of package value. Conditions: numbers of 64 bits; a text that is said has at most 1048576 bytes; strconv's table of powers of ten is as its text lays it.
-/
import Derived.Test.YtbfecndhjlimaaaDoorVaShelf
import Derived.Test.YtbfecndhjlimaaaDoorVaKeep
import Derived.Test.YtbfecndhjlimaaaDoorVaPure
import Derived.BigCall
namespace Go.Proofs.YtbfecndhjlimaaaDoor.Va
open Go.RowKit

/-- strconv's table of powers of ten is laid. -/
def VG (w : World) : Prop := Lib.TabIs Tryd.prog w "internal/strconv.uint64pow10" .u64 Lib.pow10Tab
theorem gPow : Tryd.prog.globalNamed "internal/strconv.uint64pow10" = some 2 := by kernel_rfl
theorem VG.bel {w w' : World} (h : VG w) (hb : Below w.heap.size w w') : VG w' := by
  unfold VG Lib.TabIs World.var? at *
  rw [gPow] at *
  simp only [Option.bind_some] at *
  have hlt : 2 < w.heap.size := by
    rcases Nat.lt_or_ge 2 w.heap.size with h0 | h0
    · exact h0
    · simp [Array.getElem?_eq_none h0] at h
  rw [hb.block _ hlt]
  exact h
theorem VG.alloc {w : World} (h : VG w) (o : Obj) : VG (w.alloc o) := h.bel ((Below.refl _ _).alloc (Nat.le_refl _) _)
theorem VG.drew {w : World} (h : VG w) : VG w.drew := h.bel (Below.refl _ _).drew

theorem text_any (s : ByteArray) (w : World) :
    Calls Tryd.prog 52 #[.string s] w fun e w' => e = .returned (vl true 0 s) ∧ Below w.heap.size w w' := by
  go_enter Tryd.func52, Tryd.ntmps52
  go_wp2
  exact bodyPost_ret (v := vl true 0 s) (by simp [results, Tryd.results52, go_sem]) rfl ⟨rfl, (Below.refl _ _).alloc (Nat.le_refl _) _⟩

/-- What a text says, so far: a quote and the bytes of its first k ones. -/
def said (s : ByteArray) (k : Nat) : List UInt8 := 34 :: VaP.esc (s.data.toList.take k)
theorem esc_append (a b : List UInt8) : VaP.esc (a ++ b) = VaP.esc a ++ VaP.esc b := by
  induction a with
  | nil => rfl
  | cons c r ih => simp only [List.cons_append, VaP.esc]; split <;> simp [ih]
theorem said_snoc (s : ByteArray) (k : Nat) (h : k < s.size) : said s (k + 1) = said s k ++ VaP.esc [s[k]] := by
  unfold said
  rw [List.take_succ_eq_append_getElem (by simpa using h), esc_append]
  rfl
theorem esc_len (a : List UInt8) : (VaP.esc a).length ≤ 2 * a.length := by
  induction a with
  | nil => simp [VaP.esc]
  | cons c r ih => simp only [VaP.esc]; split <;> simp <;> omega
theorem said_len (s : ByteArray) (k : Nat) : (said s k).length ≤ 2 * s.size + 1 := by
  unfold said
  have h := esc_len (s.data.toList.take k)
  have h2 : (s.data.toList.take k).length ≤ s.data.toList.length := List.length_take_le' _ _
  have h3 : s.data.toList.length = s.size := by rw [Array.length_toList]; rfl
  simp only [List.length_cons]
  omega
theorem said_end (s : ByteArray) : said s s.size ++ [34] = VaP.say true 0 s.data.toList := by
  unfold said VaP.say
  rw [List.take_of_length_le (by rw [Array.length_toList]; exact Nat.le_refl _)]
  rfl
theorem bld_more {W : World} {B b : Nat} {acc : List UInt8} {c : UInt8} (h : Lib.BuilderAtF 66 5 B b (.pointer (some ⟨b, 0, none⟩)) (Lib.byteCells acc ++ [.int .u8 (c.toNat : Int)]) W) : Lib.IsBuilderF 66 5 B b (Lib.byteCells (acc ++ [c])) W := by
  rw [Lib.byteCells_append]
  exact Or.inr h
theorem room1 (acc : List UInt8) (s : ByteArray) (h : acc.length ≤ 2 * s.size + 2) (hs : s.size ≤ 1048576) : (Lib.byteCells acc).length + 1 ≤ 140737488355328 := by
  rw [Lib.byteCells_length]; omega

set_option maxRecDepth 100000 in
set_option maxHeartbeats 4000000 in
theorem quote_any (s : ByteArray) (w : World) (hs : s.size ≤ 1048576) :
    Calls Tryd.prog 62 #[.string s] w fun e w' => e = .returned (.string ⟨(VaP.say true 0 s.data.toList).toArray⟩) ∧ Below w.heap.size w w' := by
  have BF := Lib.hid (Lib.IsBuilderF.of (Lib.fresh_isBuilder 66 5 w))
  have hw0 : Below w.heap.size w (w.alloc (.cells #[.pointer none, .slice none 0 0] 66)) := (Below.refl _ _).alloc (Nat.le_refl _) _
  have W0 := Lib.hid hw0
  clear hw0
  go_enter Tryd.func62, Tryd.ntmps62
  go_wp2_with fail
  refine (Tryd.Builder_WriteByte_k w.heap.size w.heap.size _ 34 _ BF.out (by simp) (by simp)).mono ?_
  rintro e1 w1 ⟨rfl, h1, b1, _⟩
  have B1 := Lib.hid (bld_more (acc := []) (c := 34) (by simpa [Lib.byteCells] using h1))
  have BL1 := Lib.hid (W0.out.trans b1)
  clear h1 b1
  go_wp2
  go_loopw [8] (fun i wr => ∃ k : Nat, k ≤ s.size ∧ i = .int .i64 k ∧ Lib.IsBuilderF 66 5 w.heap.size w.heap.size (Lib.byteCells (said s k)) wr ∧ Below w.heap.size w wr) (fun i _ => s.size - (intOf i).toNat)
  case atStart => exact ⟨0, Nat.zero_le _, rfl, by simpa [said, VaP.esc] using B1.out, BL1.out⟩
  case round =>
    obtain ⟨k, hk, rfl, hB, hL⟩ := hrel
    have HB := Lib.hid hB
    have HL := Lib.hid hL
    have hlen := said_len s k
    have RM := Lib.hid (room1 (said s k) s (by omega) hs)
    have RM2 := Lib.hid (room1 (said s k ++ [92]) s (by simp; omega) hs)
    have RM3 := Lib.hid (room1 (said s k ++ [34]) s (by simp; omega) hs)
    clear hB hL hlen
    by_cases hlt : k < s.size
    · have SN := Lib.hid (said_snoc s k hlt)
      by_cases hq : s[k] = 34 ∨ s[k] = 92
      · have SE := Lib.hid (show said s (k + 1) = said s k ++ [92] ++ [s[k]] by rw [SN.out]; simp [VaP.esc, hq])
        have H1 := Lib.hid HB.out
        rcases hq with hq | hq
        · have h34 : ((s[k].toNat : Int) == 34) = true := by rw [hq]; rfl
          have HQ := Lib.hid hq
          clear hq
          go_wp2_with fail
          refine (Tryd.Builder_WriteByte_k w.heap.size w.heap.size _ 92 _ H1.out RM.out HL.out.size).mono ?_
          rintro e2 w2 ⟨rfl, h2, b2, _⟩
          have B2 := Lib.hid (bld_more (c := 92) h2)
          have BL2 := Lib.hid (HL.out.trans b2)
          clear h2 b2
          go_wp2_with fail
          refine (Tryd.Builder_WriteByte_k w.heap.size w.heap.size _ _ _ B2.out RM2.out BL2.out.size).mono ?_
          rintro e3 w3 ⟨rfl, h3, b3, _⟩
          have B3 := Lib.hid (bld_more (c := s[k]) h3)
          have BL3 := Lib.hid (BL2.out.trans b3)
          clear h3 b3
          go_wp2
          go_roundw
          case rel => exact ⟨k + 1, by omega, by go_num, by rw [SE.out]; exact B3.out, BL3.out⟩
          case measure => simp [intOf]; omega
        · have h34 : ((s[k].toNat : Int) == 34) = false := by rw [hq]; rfl
          have h92 : ((s[k].toNat : Int) == 92) = true := by rw [hq]; rfl
          have HQ := Lib.hid hq
          clear hq
          go_wp2_with fail
          refine (Tryd.Builder_WriteByte_k w.heap.size w.heap.size _ 92 _ H1.out RM.out HL.out.size).mono ?_
          rintro e2 w2 ⟨rfl, h2, b2, _⟩
          have B2 := Lib.hid (bld_more (c := 92) h2)
          have BL2 := Lib.hid (HL.out.trans b2)
          clear h2 b2
          go_wp2_with fail
          refine (Tryd.Builder_WriteByte_k w.heap.size w.heap.size _ _ _ B2.out RM2.out BL2.out.size).mono ?_
          rintro e3 w3 ⟨rfl, h3, b3, _⟩
          have B3 := Lib.hid (bld_more (c := s[k]) h3)
          have BL3 := Lib.hid (BL2.out.trans b3)
          clear h3 b3
          go_wp2
          go_roundw
          case rel => exact ⟨k + 1, by omega, by go_num, by rw [SE.out]; exact B3.out, BL3.out⟩
          case measure => simp [intOf]; omega
      · have SE := Lib.hid (show said s (k + 1) = said s k ++ [s[k]] by rw [SN.out]; simp [VaP.esc, hq])
        have h34 : ((s[k].toNat : Int) == 34) = false := by
          rw [beq_eq_false_iff_ne]; intro h; exact hq (Or.inl (UInt8.toNat_inj.1 (by have h2 : s[k].toNat = _ := Int.ofNat.inj h; exact h2)))
        have h92 : ((s[k].toNat : Int) == 92) = false := by
          rw [beq_eq_false_iff_ne]; intro h; exact hq (Or.inr (UInt8.toNat_inj.1 (by have h2 : s[k].toNat = _ := Int.ofNat.inj h; exact h2)))
        have HQ := Lib.hid hq
        have H1 := Lib.hid HB.out
        clear hq
        go_wp2_with fail
        refine (Tryd.Builder_WriteByte_k w.heap.size w.heap.size _ _ _ H1.out RM.out HL.out.size).mono ?_
        rintro e3 w3 ⟨rfl, h3, b3, _⟩
        have B3 := Lib.hid (bld_more (c := s[k]) h3)
        have BL3 := Lib.hid (HL.out.trans b3)
        clear h3 b3
        go_wp2
        go_roundw
        case rel => exact ⟨k + 1, by omega, by go_num, by rw [SE.out]; exact B3.out, BL3.out⟩
        case measure => simp [intOf]; omega
    · obtain rfl : k = s.size := by omega
      have SE := Lib.hid (said_end s)
      have H1 := Lib.hid HB.out
      go_wp2_with fail
      refine (Tryd.Builder_WriteByte_k w.heap.size w.heap.size _ 34 _ H1.out RM.out HL.out.size).mono ?_
      rintro e3 w3 ⟨rfl, h3, b3, _⟩
      have B3 := Lib.hid (bld_more (c := 34) h3)
      have BL3 := Lib.hid (HL.out.trans b3)
      clear h3 b3
      go_wp2_with fail
      refine (Tryd.Builder_String_any_k w.heap.size w.heap.size _ _ B3.out BL3.out.size).mono ?_
      rintro e4 w4 ⟨rfl, _, b4, _⟩
      have BL4 := Lib.hid (BL3.out.trans b4)
      clear b4
      go_wp2
      go_ret
      exact ⟨ret_val (by show Value.string ⟨(said s s.size ++ [34]).toArray⟩ = _; rw [SE.out]), BL4.out⟩

theorem below_more (B : Nat) (w : World) (hB : B ≤ w.heap.size) (k : Nat) (os : Array Obj) : Below B w (Sort.grow (w.drewN k) os) :=
  ⟨rfl, rfl, rfl, by simp [Sort.grow], fun j hj => by
    show ((w.drewN k).heap ++ os)[j]? = _
    rw [Array.getElem?_append_left (by show j < w.heap.size; omega)]
    rfl⟩
set_option maxHeartbeats 1000000 in
theorem say_any (t : Bool) (n : Int) (s : ByteArray) (w : World) (hg : VG w) (hs : s.size ≤ 1048576) (h0 : -9223372036854775808 ≤ n) (h1 : n ≤ 9223372036854775807) :
    Calls Tryd.prog 51 #[vl t n s] w fun e w' => e = .returned (.string ⟨(VaP.say t n s.data.toList).toArray⟩) ∧ Below w.heap.size w w' := by
  have B0 := Lib.hid (show Below w.heap.size w (w.alloc (.cells #[.bool t, .int .i64 n, .string s] 48)) from (Below.refl _ _).alloc (Nat.le_refl _) _)
  cases t
  · have C := Lib.hid (Tryd.strconv_Itoa n h0 h1 (w.alloc (.cells #[.bool false, .int .i64 n, .string s] 48)) (hg.bel B0.out))
    clear hg h0 h1
    go_enter Tryd.func51, Tryd.ntmps51
    go_wp2_with fail
    refine C.out.mono ?_
    rintro e w' ⟨rfl, k, os, rfl⟩
    have BL := Lib.hid (B0.out.trans (below_more w.heap.size (w.alloc (.cells #[.bool false, .int .i64 n, .string s] 48)) (by simp) k os))
    generalize Sort.grow (World.drewN (w.alloc (.cells #[.bool false, .int .i64 n, .string s] 48)) k) os = w2 at BL ⊢
    go_wp2
    go_ret
    exact ⟨rfl, BL.out⟩
  · have C := Lib.hid (quote_any s (w.alloc (.cells #[.bool true, .int .i64 n, .string s] 48)) hs)
    clear hg h0 h1
    go_enter Tryd.func51, Tryd.ntmps51
    go_wp2_with fail
    refine C.out.mono ?_
    rintro e w' ⟨rfl, hb⟩
    have BL := Lib.hid (B0.out.trans (hb.mono (by simp)))
    clear hb
    go_wp2
    go_ret
    exact ⟨rfl, BL.out⟩
end Go.Proofs.YtbfecndhjlimaaaDoor.Va
