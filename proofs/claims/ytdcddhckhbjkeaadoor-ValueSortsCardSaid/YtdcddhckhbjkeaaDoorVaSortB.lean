/-
  The law ValueSorts: its first loop, which puts the values in order. Condition: numbers of 64 bits.
-/
import Derived.Test.YtdcddhckhbjkeaaDoorVaSortA
import Derived.Deep.CutBlock
namespace Go.Proofs.YtdcddhckhbjkeaaDoor.Va
open Go.RowKit Go.Sort Go.Proofs.YtdcddhckhbjkeaaDoor.Rg

theorem get_eval {tmps : Array Value} {j : Nat} (h : j < tmps.size) : tmps[j]? = some ((⟨tmps, []⟩ : Act).eval (.tmp j)) := by
  simp [Act.eval, Array.getD, h]
theorem ins_frame {a : Act} {base : Array Value} (df : a.defers = []) (sz : a.tmps.size = 135) (hb : base.size = 135) (kp : ∀ j, j ≠ 3 → (j < 42 ∨ 53 < j) → a.tmps[j]? = base[j]?) :
    ∃ u3 u42 u43 u44 u45 u46 u47 u48 u49 u50 u51 u52 u53 : Value, a.eval (.tmp 3) = u3 ∧ a = ⟨(((((((((((((base.setIfInBounds 3 u3).setIfInBounds 42 u42).setIfInBounds 43 u43).setIfInBounds 44 u44).setIfInBounds 45 u45).setIfInBounds 46 u46).setIfInBounds 47 u47).setIfInBounds 48 u48).setIfInBounds 49 u49).setIfInBounds 50 u50).setIfInBounds 51 u51).setIfInBounds 52 u52).setIfInBounds 53 u53), []⟩ := by
  obtain ⟨tmps, defers⟩ := a
  have hd : defers = [] := df
  have hs : tmps.size = 135 := sz
  subst hd
  refine ⟨(⟨tmps, []⟩ : Act).eval (.tmp 3), (⟨tmps, []⟩ : Act).eval (.tmp 42), (⟨tmps, []⟩ : Act).eval (.tmp 43), (⟨tmps, []⟩ : Act).eval (.tmp 44), (⟨tmps, []⟩ : Act).eval (.tmp 45), (⟨tmps, []⟩ : Act).eval (.tmp 46), (⟨tmps, []⟩ : Act).eval (.tmp 47), (⟨tmps, []⟩ : Act).eval (.tmp 48), (⟨tmps, []⟩ : Act).eval (.tmp 49), (⟨tmps, []⟩ : Act).eval (.tmp 50), (⟨tmps, []⟩ : Act).eval (.tmp 51), (⟨tmps, []⟩ : Act).eval (.tmp 52), (⟨tmps, []⟩ : Act).eval (.tmp 53), rfl, ?_⟩
  refine congrArg (fun x => (⟨x, []⟩ : Act)) ?_
  apply Array.ext_getElem?
  intro j
  have kj : j ≠ 3 → (j < 42 ∨ 53 < j) → tmps[j]? = base[j]? := kp j
  simp only [Array.getElem?_setIfInBounds, Array.size_setIfInBounds, hb]
  by_cases h53 : j = 53
  · subst h53
    simp only [if_true, if_pos (show 53 < 135 by decide)]
    exact get_eval (by omega)
  rw [if_neg (fun x => h53 x.symm)]
  by_cases h52 : j = 52
  · subst h52
    simp only [if_true, if_pos (show 52 < 135 by decide)]
    exact get_eval (by omega)
  rw [if_neg (fun x => h52 x.symm)]
  by_cases h51 : j = 51
  · subst h51
    simp only [if_true, if_pos (show 51 < 135 by decide)]
    exact get_eval (by omega)
  rw [if_neg (fun x => h51 x.symm)]
  by_cases h50 : j = 50
  · subst h50
    simp only [if_true, if_pos (show 50 < 135 by decide)]
    exact get_eval (by omega)
  rw [if_neg (fun x => h50 x.symm)]
  by_cases h49 : j = 49
  · subst h49
    simp only [if_true, if_pos (show 49 < 135 by decide)]
    exact get_eval (by omega)
  rw [if_neg (fun x => h49 x.symm)]
  by_cases h48 : j = 48
  · subst h48
    simp only [if_true, if_pos (show 48 < 135 by decide)]
    exact get_eval (by omega)
  rw [if_neg (fun x => h48 x.symm)]
  by_cases h47 : j = 47
  · subst h47
    simp only [if_true, if_pos (show 47 < 135 by decide)]
    exact get_eval (by omega)
  rw [if_neg (fun x => h47 x.symm)]
  by_cases h46 : j = 46
  · subst h46
    simp only [if_true, if_pos (show 46 < 135 by decide)]
    exact get_eval (by omega)
  rw [if_neg (fun x => h46 x.symm)]
  by_cases h45 : j = 45
  · subst h45
    simp only [if_true, if_pos (show 45 < 135 by decide)]
    exact get_eval (by omega)
  rw [if_neg (fun x => h45 x.symm)]
  by_cases h44 : j = 44
  · subst h44
    simp only [if_true, if_pos (show 44 < 135 by decide)]
    exact get_eval (by omega)
  rw [if_neg (fun x => h44 x.symm)]
  by_cases h43 : j = 43
  · subst h43
    simp only [if_true, if_pos (show 43 < 135 by decide)]
    exact get_eval (by omega)
  rw [if_neg (fun x => h43 x.symm)]
  by_cases h42 : j = 42
  · subst h42
    simp only [if_true, if_pos (show 42 < 135 by decide)]
    exact get_eval (by omega)
  rw [if_neg (fun x => h42 x.symm)]
  by_cases h3 : j = 3
  · subst h3
    simp only [if_true, if_pos (show 3 < 135 by decide)]
    exact get_eval (by omega)
  rw [if_neg (fun x => h3 x.symm)]
  exact kj h3 (by omega)

/-- A list of numbers that came in. -/
structure InInts (W : World) (nv : Value) (zs : List Int) : Prop where
  shape : ∃ ao cap, nv = .slice ao zs.length cap
  at_ : ∀ (i : Nat) (z : Int), zs[i]? = some z → (-9223372036854775808 ≤ z ∧ z ≤ 9223372036854775807) ∧ ∃ p : Addr, p.block < W.heap.size ∧ (∀ w, (Instr.indexAt 32 nv (.int .i64 i)).run Tryd.prog w = .ok (.pointer (some p)) w) ∧ W.cell? p = some (.int .i64 z)
theorem lenL {W : World} {lv : Value} {l : List V3} (h : RowL W lv l) : ∃ ao cap, lv = .slice ao l.length cap := by
  rcases h with ⟨rfl, rfl⟩ | ⟨g, cap, rfl, _⟩
  · exact ⟨none, 0, rfl⟩
  · exact ⟨_, cap, rfl⟩
theorem src_lo {W : World} {lv : Value} {l : List V3} (h : RowL W lv l) (k : Nat) (hk : k ≤ l.length) : ∃ lo, (∀ w, (Instr.sliceAt 33 lv none (some (.int .i64 k)) none).run Tryd.prog w = .ok lo w) ∧ Src W lo k (flat (l.take k)) := by
  rcases h with ⟨rfl, rfl⟩ | ⟨g, cap, rfl, h2, h3, h4, h5⟩
  · obtain rfl : k = 0 := by simpa using hk
    exact ⟨.slice none 0 0, fun w => by simp [go_sem, Tryd.underlying33], src_nil W⟩
  · refine ⟨_, slice_lo g k l.length cap hk h2, Or.inr ⟨⟨g, 0, none⟩, cap, rfl, by rw [flat_length]; simp; omega, h4, fun j u hj => ?_⟩⟩
    have e : (⟨g, 0, none⟩ : Addr).add j = ⟨g, j, none⟩ := by unfold Addr.add; split <;> simp_all
    rw [e]
    refine h5 j u ?_
    conv => lhs; rw [← List.take_append_drop k l, flat_append]
    exact List.getElem?_append_left (List.getElem?_eq_some_iff.1 hj).1 ▸ hj
theorem src_hi {W : World} {lv : Value} {l : List V3} (h : RowL W lv l) (k : Nat) (hk : k ≤ l.length) : ∃ hi, (∀ w, (Instr.sliceAt 33 lv (some (.int .i64 k)) none none).run Tryd.prog w = .ok hi w) ∧ Src W hi (l.length - k) (flat (l.drop k)) := by
  rcases h with ⟨rfl, rfl⟩ | ⟨g, cap, rfl, h2, h3, h4, h5⟩
  · obtain rfl : k = 0 := by simpa using hk
    exact ⟨.slice none 0 0, fun w => by simp [go_sem, Tryd.underlying33], src_nil W⟩
  · refine ⟨_, slice_hi g k l.length cap hk h2, Or.inr ⟨⟨g, if cap = k then 0 else k * 3, none⟩, _, rfl, by rw [flat_length]; simp, h4, fun j u hj => ?_⟩⟩
    have hlt := (List.getElem?_eq_some_iff.1 hj).1
    rw [flat_length] at hlt
    simp at hlt
    rw [if_neg (by omega)]
    have e : (⟨g, k * 3, none⟩ : Addr).add j = ⟨g, k * 3 + j, none⟩ := by unfold Addr.add; split <;> simp_all
    rw [e]
    refine h5 _ u ?_
    conv => lhs; rw [← List.take_append_drop k l, flat_append]
    rw [List.getElem?_append_right (by rw [flat_length]; simp; omega), flat_length]
    rw [show k * 3 + j - (List.take k l).length * 3 = j by simp; omega]
    exact hj

theorem owns_mono {W : World} {B B' : Nat} {v : Value} {n : Nat} {xs : List Value} (hB : B' ≤ B) (h : W.ownsRow B 24 3 v n xs) : W.ownsRow B' 24 3 v n xs := by
  refine ⟨h.1, ?_⟩
  rcases h.2 with h2 | ⟨g, cap, cur, h1, h2, h3⟩
  · exact Or.inl h2
  · exact Or.inr ⟨g, cap, cur, h1, Nat.le_trans hB h2, h3⟩
theorem load_run (w : World) (b : Nat) (t : Bool) (n : Int) (s : ByteArray) (h : ∀ i, w.cell? ⟨b, i, none⟩ = #[.bool t, .int .i64 n, .string s][i]?) : (Instr.loadAt 24 (.pointer (some ⟨b, 0, none⟩))).run Tryd.prog w = .ok (vl t n s) w := by
  have h0 := h 0
  have h1 := h 1
  have h2 := h 2
  simp only [List.getElem?_toArray, List.getElem?_cons_zero, List.getElem?_cons_succ] at h0 h1 h2
  simp [go_sem, Tryd.underlying24, h0, h1, h2]
set_option maxRecDepth 100000 in
set_option maxHeartbeats 8000000 in
theorem sortsB0 (Q : Exit → Act → World → Prop) (W : World) (nv : Value) (zs : List Int) (hz : InInts W nv zs)
    (u1 u2 u5 u6 u7 u8 u9 u10 u11 u12 u13 u14 u15 u16 u17 u18 u19 u20 u21 u22 u23 u24 u25 u26 u27 u28 u29 u30 u31 u32 u33 u34 u35 u36 u37 u38 u39 u40 u41 u42 u43 u44 u45 u46 u47 u48 u49 u50 u51 u52 u53 u54 u55 u56 u57 u58 u59 u60 u61 u62 u63 u64 u65 u66 u67 u68 u69 u70 u71 u72 u73 u74 u75 u76 u77 u78 u79 u80 u81 u82 u83 u84 u85 u86 u87 u88 u89 u90 u91 u92 u93 u94 u95 u96 u97 u98 u99 u100 u101 u102 u103 u104 u105 u106 u107 u108 u109 u110 u111 u112 u113 u114 u115 u116 u117 u118 u119 u120 u121 u122 u123 u124 u125 u126 u127 u128 u129 u130 u131 u132 u133 u134 : Value)
    (hQ : ∀ (l : List V3) (w' : World) (u3 u4 u5 u6 u12 u13 u14 u15 u16 u17 u18 u19 u20 u21 u22 u23 u24 u25 u26 u27 u28 u29 u30 u31 u32 u33 u34 u35 u36 u37 u38 u39 u40 u41 u42 u43 u44 u45 u46 u47 u48 u49 u50 u51 u52 u53 : Value), Below W.heap.size W w' → RowL w' u3 l → l.length ≤ 12 → Ord l → (∀ x ∈ l, okV x = true) → Q .normal ⟨#[nv, u1, u2, u3, u4, u5, u6, u7, u8, u9, u10, u11, u12, u13, u14, u15, u16, u17, u18, u19, u20, u21, u22, u23, u24, u25, u26, u27, u28, u29, u30, u31, u32, u33, u34, u35, u36, u37, u38, u39, u40, u41, u42, u43, u44, u45, u46, u47, u48, u49, u50, u51, u52, u53, u54, u55, u56, u57, u58, u59, u60, u61, u62, u63, u64, u65, u66, u67, u68, u69, u70, u71, u72, u73, u74, u75, u76, u77, u78, u79, u80, u81, u82, u83, u84, u85, u86, u87, u88, u89, u90, u91, u92, u93, u94, u95, u96, u97, u98, u99, u100, u101, u102, u103, u104, u105, u106, u107, u108, u109, u110, u111, u112, u113, u114, u115, u116, u117, u118, u119, u120, u121, u122, u123, u124, u125, u126, u127, u128, u129, u130, u131, u132, u133, u134], []⟩ w') :
    Code.wp Tryd.prog (sortsB 0) Q ⟨#[nv, u1, u2, .slice none 0 0, .int .i64 0, u5, u6, u7, u8, u9, u10, u11, u12, u13, u14, u15, u16, u17, u18, u19, u20, u21, u22, u23, u24, u25, u26, u27, u28, u29, u30, u31, u32, u33, u34, u35, u36, u37, u38, u39, u40, u41, u42, u43, u44, u45, u46, u47, u48, u49, u50, u51, u52, u53, u54, u55, u56, u57, u58, u59, u60, u61, u62, u63, u64, u65, u66, u67, u68, u69, u70, u71, u72, u73, u74, u75, u76, u77, u78, u79, u80, u81, u82, u83, u84, u85, u86, u87, u88, u89, u90, u91, u92, u93, u94, u95, u96, u97, u98, u99, u100, u101, u102, u103, u104, u105, u106, u107, u108, u109, u110, u111, u112, u113, u114, u115, u116, u117, u118, u119, u120, u121, u122, u123, u124, u125, u126, u127, u128, u129, u130, u131, u132, u133, u134], []⟩ W := by
  have HQ := Lib.hid hQ
  have HZ := Lib.hid hz
  clear hQ hz
  conv => arg 2; whnf
  go_wp2
  go_loopw [3, 4] (fun lv i wr => ∃ (l : List V3) (k : Nat), l.length = k ∧ k ≤ 12 ∧ k ≤ zs.length ∧ i = .int .i64 k ∧ Below W.heap.size W wr ∧ wr.ownsRow W.heap.size 24 3 lv k (flat l) ∧ Ord l ∧ (∀ x ∈ l, okV x = true)) (fun _ i _ => 12 - (intOf i).toNat)
  case atStart => exact ⟨[], 0, rfl, by omega, by omega, rfl, Below.refl _ _, World.ownsRow_nil _ _ _ _, List.Pairwise.nil, fun x hx => by cases hx⟩
  case round =>
    obtain ⟨l, k, rfl, h12, hzk, rfl, hb, hown, hord, hok⟩ := hrel
    have HB := Lib.hid hb
    have HR := Lib.hid (RowL.of_owns hown)
    have HO := Lib.hid hord
    have HK := Lib.hid hok
    clear hb hown hord hok
    obtain ⟨ao, ncap, hnv⟩ := HZ.out.shape
    subst hnv
    by_cases hlt : l.length < zs.length
    · by_cases hl12 : l.length < 12
      · obtain ⟨z, hzz⟩ : ∃ z, zs[l.length]? = some z := ⟨zs[l.length], List.getElem?_eq_getElem hlt⟩
        obtain ⟨⟨z1, z2⟩, p, hp, hix, hpc⟩ := HZ.out.at_ l.length z hzz
        have hpw : wr.cell? p = some (.int .i64 z) := by rw [HB.out.cell hp]; exact hpc
        have KV := Lib.hid (fun wx => kvalue_any z wx z1 z2)
        have KR := Lib.hid (kv_right z)
        clear hzz hp hpc z1 z2
        go_wp2_with fail
        refine (KV.out _).mono ?_
        rintro e1 w1 ⟨rfl, hb1⟩
        have B1 := Lib.hid (HB.out.trans (hb1.mono HB.out.size))
        have R1 := Lib.hid (HR.out.on hb1)
        clear hb1 KV hix hpw
        generalize (!(evn z)) = t1 at KR ⊢
        generalize kvN z = n1 at KR ⊢
        generalize kvS z = s1 at KR ⊢
        obtain ⟨bo, bcap, hbl⟩ := lenL R1.out
        subst hbl
        go_upto_block 2 with (fail)
        refine sortsB2 _ _ _ l _ (t1, n1, s1) (R1.out.on ((Below.refl _ _).alloc (Nat.le_refl _) _)) (by omega) (by rw [World.cell?_alloc_at _ _ _ _ rfl]; rfl) (by rw [World.cell?_alloc_at _ _ _ _ rfl]; rfl) (by rw [World.cell?_alloc_at _ _ _ _ rfl]; rfl) _ _ _ _ _ _ _ _ _ _ _ _ _ _ _ _ _ _ _ _ _ _ _ _ _ _ _ _ _ _ _ _ _ _ _ _ _ _ _ _ _ _ _ _ _ _ _ _ _ _ _ _ _ _ _ _ _ _ _ _ _ _ _ _ _ _ _ _ _ _ _ _ _ _ _ _ _ _ _ _ _ _ _ _ _ _ _ _ _ _ _ _ _ _ _ _ _ _ _ _ _ _ _ _ _ _ _ _ _ _ _ _ _ _ _ _ _ _ _ _ _ _ _ _ _ _ _ _ _ _ _ _ ?_
        rintro k w2 u6 u29 u30 u31 u32 u33 u34 u35 u36 u37 u38 u39 u40 u41 hk hb2 hall hpre rfl
        have B2 := Lib.hid hb2
        have R2 := Lib.hid ((R1.out.on ((Below.refl _ _).alloc (Nat.le_refl _) (.cells #[.bool t1, .int .i64 n1, .string s1] 24))).on hb2)
        have BW := Lib.hid ((B1.out.alloc B1.out.size (.cells #[.bool t1, .int .i64 n1, .string s1] 24)).trans (hb2.mono (by have := B1.out.size; simp; omega)))
        have hcell : ∀ i, w2.cell? ⟨w1.heap.size, i, none⟩ = #[.bool t1, .int .i64 n1, .string s1][i]? := fun i => by
          rw [hb2.cell (p := ⟨w1.heap.size, i, none⟩) (by simp), World.cell?_alloc_at _ _ _ _ rfl]
        obtain ⟨lo, hlo, slo⟩ := src_lo R2.out k hk
        obtain ⟨hi, hhi, shi⟩ := src_hi R2.out k hk
        have LD := Lib.hid (fun (w : World) (hw : Below w2.heap.size w2 w) => load_run w w1.heap.size t1 n1 s1 (fun i => by rw [hw.cell (p := ⟨w1.heap.size, i, none⟩) (World.block_lt_of_cell? w2 ⟨w1.heap.size, 0, none⟩ (hcell 0))]; exact hcell i))
        have HLO := Lib.hid hlo
        have HHI := Lib.hid hhi
        have SLO := Lib.hid slo
        have SHI := Lib.hid shi
        have ALL := Lib.hid hall
        have PRE := Lib.hid hpre
        have HK2 := Lib.hid hk
        clear hb2 hall hpre hcell hlo slo hhi shi
        go_wp2
        refine sorts9_any _ _ _ _ lo hi k (l.length - k) (.pointer (some ⟨w1.heap.size, 0, none⟩)) t1 n1 s1 (flat (l.take k)) (flat (l.drop k)) rfl rfl rfl rfl LD.out HLO.out HHI.out SLO.out SHI.out (flat_one _) (flat_one _) (by omega) (by omega) ?_
        intro a w3 df sz kp bel own
        obtain ⟨u3, u42, u43, u44, u45, u46, u47, u48, u49, u50, u51, u52, u53, e3, ea⟩ := ins_frame df sz rfl kp
        rw [e3] at own
        subst ea
        have OW := Lib.hid own
        have B3 := Lib.hid bel
        clear own bel e3 kp df sz
        simp only [List.setIfInBounds_toArray, List.set_cons_succ, List.set_cons_zero]
        go_wp2
        go_roundw
        case rel => exact ⟨l.take k ++ (t1, n1, s1) :: l.drop k, l.length + 1, by simp; omega, by omega, by omega, by go_num, BW.out.trans (B3.out.mono BW.out.size), by
            have h := owns_mono BW.out.size OW.out
            rw [flat_append, flat, show l.length + 1 = k + 1 + (l.length - k) by omega]
            simpa using h, ord_put HO.out HK.out KR.out ALL.out PRE.out, fun x hx => by
            rcases List.mem_append.1 hx with h | h
            · exact HK.out x (List.mem_of_mem_take h)
            · rcases List.mem_cons.1 h with h | h
              · rw [h]; exact KR.out
              · exact HK.out x (List.mem_of_mem_drop h)⟩
        case measure => simp [intOf]; omega
      · go_wp2
        exact HQ.out l wr _ _ _ _ _ _ _ _ _ _ _ _ _ _ _ _ _ _ _ _ _ _ _ _ _ _ _ _ _ _ _ _ _ _ _ _ _ _ _ _ _ _ _ _ _ _ HB.out HR.out (by omega) HO.out HK.out
    · go_wp2
      exact HQ.out l wr _ _ _ _ _ _ _ _ _ _ _ _ _ _ _ _ _ _ _ _ _ _ _ _ _ _ _ _ _ _ _ _ _ _ _ _ _ _ _ _ _ _ _ _ _ _ HB.out HR.out (by omega) HO.out HK.out
end Go.Proofs.YtdcddhckhbjkeaaDoor.Va
