/-
  steps of package graph: the map of neighbours, made of the ways. Conditions: numbers of 64 bits; at most 800 ways.
-/
import Derived.Test.YtbnfndcbhnjnaaaDoorGdSt7
import Derived.Test.YtbnfndcbhnjnaaaDoorBk
namespace Go.Proofs.YtbnfndcbhnjnaaaDoor.Gr
open Go.RowKit Go.Sort Go.Proofs.YtbnfndcbhnjnaaaDoor Go.Proofs.YtbnfndcbhnjnaaaDoor.Rw

/-- The second ends of the ways that begin at v. -/
def nbL (r : List Lk) (v : Int) : List Int := (r.filter fun p => p.1 == v).map (·.2)
theorem nbL_snoc (r : List Lk) (y : Lk) : updZ (nbL r) y.1 y.2 = nbL (r ++ [y]) := by
  funext v
  unfold updZ nbL
  by_cases e : v = y.1
  · simp [e, List.filter_append]
  · have e2 : (y.1 == v) = false := by simp; exact fun h => e h.symm
    simp [e, e2, List.filter_append]
theorem nbL_len (r : List Lk) (v : Int) : (nbL r v).length ≤ r.length := by
  unfold nbL
  rw [List.length_map]
  exact List.length_filter_le _ _
theorem nbL_mem {r : List Lk} {v x : Int} : x ∈ nbL r v ↔ (v, x) ∈ r := by
  unfold nbL
  simp only [List.mem_map, List.mem_filter, beq_iff_eq]
  constructor
  · rintro ⟨p, ⟨h1, h2⟩, h3⟩
    rw [← h2, ← h3]
    exact h1
  · intro h
    exact ⟨_, ⟨h, rfl⟩, rfl⟩
noncomputable def stepsB0 : Code := ((Tryd.f28.body.bind (findBlock 0)).getD .skip)
set_option maxRecDepth 100000 in
set_option maxHeartbeats 8000000 in
theorem steps_b0 (Q : Exit → Act → World → Prop) (W : World) (nb : Nat) (S0 : Int → Value) (ao : Option Addr) (m ac : Nat) (r : List Lk) (u0 u1 u2 u3 u4 u6 u7 u8 u9 u10 u11 u12 u13 u14 u15 u16 u17 u18 u19 u20 u24 u25 u26 u27 u28 u29 u30 u31 u32 u33 u34 u35 u36 u37 u38 u39 u40 u41 u42 u43 u44 u45 u46 u47 u48 u49 u50 u51 u52 u53 u54 u55 u56 u57 u58 u59 u60 u61 u62 u63 u64 u65 u66 u67 u68 u69 u70 u71 u72 u73 u74 u75 u76 u77 u78 u79 : Value)
    (h : NM W W.heap.size nb S0 (nbL []) 0) (B : Nat) (hr : OwnK W B (.slice ao m ac) r) (hm : m = r.length) (hm8 : m ≤ 800) (hy : ∀ p ∈ r, I64 p.1) (hne : Value.ownBlock (.slice ao m ac) ≠ some nb)
    (hQ : ∀ (w' : World) (S : Int → Value) (c : Nat) (v7 v24 v25 v26 v27 v28 v29 v30 v31 v32 v33 v34 v35 v36 v37 v38 : Value), NM w' W.heap.size nb S (nbL r) c → Kp W.heap.size nb W w' → Q .normal ⟨(u0 :: u1 :: u2 :: u3 :: u4 :: .map (some nb) :: u6 :: v7 :: u8 :: u9 :: u10 :: u11 :: u12 :: u13 :: u14 :: u15 :: u16 :: u17 :: u18 :: u19 :: u20 :: .slice ao m ac :: .int .i64 m :: .int .i64 m :: v24 :: v25 :: v26 :: v27 :: v28 :: v29 :: v30 :: v31 :: v32 :: v33 :: v34 :: v35 :: v36 :: v37 :: v38 :: u39 :: u40 :: u41 :: u42 :: u43 :: u44 :: u45 :: u46 :: u47 :: u48 :: u49 :: u50 :: u51 :: u52 :: u53 :: u54 :: u55 :: u56 :: u57 :: u58 :: u59 :: u60 :: u61 :: u62 :: u63 :: u64 :: u65 :: u66 :: u67 :: u68 :: u69 :: u70 :: u71 :: u72 :: u73 :: u74 :: u75 :: u76 :: u77 :: u78 :: u79 :: []).toArray, []⟩ w') :
    Code.wp Tryd.prog stepsB0 Q ⟨(u0 :: u1 :: u2 :: u3 :: u4 :: .map (some nb) :: u6 :: u7 :: u8 :: u9 :: u10 :: u11 :: u12 :: u13 :: u14 :: u15 :: u16 :: u17 :: u18 :: u19 :: u20 :: .slice ao m ac :: .int .i64 m :: .int .i64 0 :: u24 :: u25 :: u26 :: u27 :: u28 :: u29 :: u30 :: u31 :: u32 :: u33 :: u34 :: u35 :: u36 :: u37 :: u38 :: u39 :: u40 :: u41 :: u42 :: u43 :: u44 :: u45 :: u46 :: u47 :: u48 :: u49 :: u50 :: u51 :: u52 :: u53 :: u54 :: u55 :: u56 :: u57 :: u58 :: u59 :: u60 :: u61 :: u62 :: u63 :: u64 :: u65 :: u66 :: u67 :: u68 :: u69 :: u70 :: u71 :: u72 :: u73 :: u74 :: u75 :: u76 :: u77 :: u78 :: u79 :: []).toArray, []⟩ W := by
  have HQ := Lib.hid hQ
  have HR := Lib.hid hr
  have HY := Lib.hid hy
  have HM := Lib.hid hm
  have HNE := Lib.hid hne
  clear hQ hr hy hm hne
  conv => arg 2; whnf
  go_wp2
  go_loopw [23] (fun i wr => ∃ k : Nat, k ≤ m ∧ i = .int .i64 k ∧ Kp W.heap.size nb W wr ∧ ∃ S c, NM wr W.heap.size nb S (nbL (r.take k)) c ∧ c ≤ k) (fun i _ => m - (intOf i).toNat)
  case atStart => exact ⟨0, Nat.zero_le _, rfl, Kp.refl _ _ _, S0, 0, h, Nat.le_refl _⟩
  case round =>
    clear h
    obtain ⟨k, hk, rfl, hb, S, c, hnm, hck⟩ := hrel
    have HB := Lib.hid hb
    have HN := Lib.hid hnm
    clear hb hnm
    by_cases hlt : k < m
    · obtain ⟨y, hyk⟩ : ∃ y, r[k]? = some y := ⟨_, List.getElem?_eq_getElem (by have := HM.out; omega)⟩
      obtain ⟨p, ix, px⟩ := elK (Row.of_own (World.ownsRow.kept HR.out (HB.out.grown (Nat.le_refl _)) (Or.inr HNE.out))) rfl HM.out.symm hyk
      obtain ⟨p0, p1⟩ := px _ (Below.refl _ _)
      have TK := Lib.hid (show nbL (r.take (k + 1)) = updZ (nbL (r.take k)) y.1 y.2 by rw [List.take_add_one, hyk, nbL_snoc]; rfl)
      have I1 := Lib.hid (HY.out y (List.mem_of_getElem? hyk))
      have LN := Lib.hid (show (nbL (r.take k) y.1).length ≤ 900 by have h1 := nbL_len (r.take k) y.1; have h2 : (r.take k).length ≤ k := (by simp; omega); omega)
      clear hyk px
      have BX := Lib.hid (box_new wr #[.int .i64 y.1, .int .i64 y.2] 22)
      have BB := Lib.hid ((Below.refl wr.heap.size wr).alloc (Nat.le_refl _) (.cells #[.int .i64 y.1, .int .i64 y.2] 22))
      have HS := Lib.hid HB.out.size
      go_upto_region 7 with (fail)
      generalize wr.alloc (.cells #[.int .i64 y.1, .int .i64 y.2] 22) = W3 at *
      refine steps_r7 _ W3 W.heap.size nb wr.heap.size S _ c y _ _ _ _ _ _ _ _ _ _ _ _ _ _ _ _ _ _ _ _ _ _ _ _ _ _ _ _ _ _ _ _ _ _ _ _ _ _ _ _ _ _ _ _ _ _ _ _ _ _ _ _ _ _ _ _ _ _ _ _ _ _ _ _ _ _ _ _ _ _ _ _ _ _ _ _ _ _ (HN.out.on BB.out) I1.out (by omega) LN.out (Nat.le_trans HS.out BB.out.size) BX.out ?_
      intro w' r7 c' v27 v28 v29 v30 v31 v32 v33 v34 v35 v36 v37 v38 hn' hc' hk'
      have N1 := Lib.hid hn'
      have K1 := Lib.hid (HB.out.trans ((Kp.of_below (BB.out.mono HS.out)).trans hk'))
      clear hn' hk' p0 p1 ix
      go_wp2
      go_roundw
      case rel => exact ⟨k + 1, by omega, by go_num, K1.out, _, c', by rw [TK.out]; exact N1.out, by omega⟩
      case measure => simp [intOf]; omega
    · obtain rfl : k = m := by omega
      have e : r.take k = r := List.take_of_length_le (by have := HM.out; omega)
      rw [e] at HN
      have HF := Lib.hid (fun v7 v24 v25 v26 v27 v28 v29 v30 v31 v32 v33 v34 v35 v36 v37 v38 => HQ.out wr S c v7 v24 v25 v26 v27 v28 v29 v30 v31 v32 v33 v34 v35 v36 v37 v38 HN.out HB.out)
      clear HQ e
      go_wp2
      exact HF.out _ _ _ _ _ _ _ _ _ _ _ _ _ _ _ _
end Go.Proofs.YtbnfndcbhnjnaaaDoor.Gr
