/-
  Reach of the document's own texts: a link looked at both ways round. Conditions: as the theorem states them.
  Reach of the document's own texts: all links looked at. Conditions: as the theorem states them.
  Reach of the document's own texts: level by level. Conditions: as the theorem states them.
  Reach of the document's own texts: how far each broker is; -1, if there is no way. Conditions: all links are between brokers; at most 64 of these, 400 links.
-/
import Derived.Test.YtbnfndcbhnjnaaaDoorGrRea
namespace Go.Proofs.YtbnfndcbhnjnaaaDoor.Gr
open Go.RowKit Go.Sort Go.Proofs.YtbnfndcbhnjnaaaDoor Go.Proofs.YtbnfndcbhnjnaaaDoor.Rw

noncomputable def reachB6 : Code := ((Tryd.f20.body.bind (findBlock 6)).getD .skip)
set_option maxRecDepth 100000 in
set_option maxHeartbeats 8000000 in
theorem reach_b6 (Q : Exit → Act → World → Prop) (W : World) (ls : List Lk) (a : Int) (g sb N nn : Nat) (r : List Int) (ds : List Lk) (y : Nat × Nat) (u0 u1 u2 u3 u4 u6 u8 u9 u10 u11 u12 u13 u14 u15 u16 u17 u18 u19 u20 u21 u22 u23 u24 u25 u26 u27 u28 u29 u30 u31 u32 u33 u34 u35 u36 u37 u38 u39 u40 u41 u42 u43 u44 u45 u46 u47 u48 u49 u50 u51 u52 u53 u57 u58 u59 u60 u61 u62 u63 u64 u65 u66 u67 u68 u69 u70 u71 u72 u73 u74 u75 u76 u77 u78 u79 u80 u81 u82 u83 u84 : Value)
    (hb : Box W g (arr r) 3) (hs : Box W sb #[.int .i64 y.1, .int .i64 y.2, .int .i64 y.2, .int .i64 y.1] 22) (hlv : LvQ ls a N nn r ds) (hy : y.1 < N ∧ y.2 < N) (hadj : Adj ls y.1 y.2) (_hN : N ≤ 64) (hnn : nn ≤ 64)
    (hQ : ∀ (w' : World) (r' : List Int) (v11 v56 v57 v58 v59 v60 v61 v62 v63 v64 v65 v66 v67 v68 v69 v70 v71 v72 v73 v74 v75 v76 v77 v78 v79 v80 v81 : Value), Kp W.heap.size g W w' → Box w' g (arr r') 3 → LvQ ls a N nn r' (ds ++ [((y.1 : Int), (y.2 : Int)), ((y.2 : Int), (y.1 : Int))]) → Q .normal ⟨(u0 :: u1 :: u2 :: u3 :: u4 :: .slice (some ⟨g, 0, none⟩) N N :: u6 :: .int .i64 nn :: u8 :: u9 :: u10 :: v11 :: u12 :: u13 :: u14 :: u15 :: u16 :: u17 :: u18 :: u19 :: u20 :: u21 :: u22 :: u23 :: u24 :: u25 :: u26 :: u27 :: u28 :: u29 :: u30 :: u31 :: u32 :: u33 :: u34 :: u35 :: u36 :: u37 :: u38 :: u39 :: u40 :: u41 :: u42 :: u43 :: u44 :: u45 :: u46 :: u47 :: u48 :: u49 :: u50 :: u51 :: u52 :: u53 :: .slice (some ⟨sb, 0, none⟩) 2 2 :: .int .i64 2 :: v56 :: v57 :: v58 :: v59 :: v60 :: v61 :: v62 :: v63 :: v64 :: v65 :: v66 :: v67 :: v68 :: v69 :: v70 :: v71 :: v72 :: v73 :: v74 :: v75 :: v76 :: v77 :: v78 :: v79 :: v80 :: v81 :: u82 :: u83 :: u84 :: []).toArray, []⟩ w') :
    Code.wp Tryd.prog reachB6 Q ⟨(u0 :: u1 :: u2 :: u3 :: u4 :: .slice (some ⟨g, 0, none⟩) N N :: u6 :: .int .i64 nn :: u8 :: u9 :: u10 :: u11 :: u12 :: u13 :: u14 :: u15 :: u16 :: u17 :: u18 :: u19 :: u20 :: u21 :: u22 :: u23 :: u24 :: u25 :: u26 :: u27 :: u28 :: u29 :: u30 :: u31 :: u32 :: u33 :: u34 :: u35 :: u36 :: u37 :: u38 :: u39 :: u40 :: u41 :: u42 :: u43 :: u44 :: u45 :: u46 :: u47 :: u48 :: u49 :: u50 :: u51 :: u52 :: u53 :: .slice (some ⟨sb, 0, none⟩) 2 2 :: .int .i64 2 :: .int .i64 0 :: u57 :: u58 :: u59 :: u60 :: u61 :: u62 :: u63 :: u64 :: u65 :: u66 :: u67 :: u68 :: u69 :: u70 :: u71 :: u72 :: u73 :: u74 :: u75 :: u76 :: u77 :: u78 :: u79 :: u80 :: u81 :: u82 :: u83 :: u84 :: []).toArray, []⟩ W := by
  have HQ := Lib.hid hQ
  have HS := Lib.hid hs
  have HA := Lib.hid hadj
  have HYY := Lib.hid hy
  have hsg : sb ≠ g := by
    rintro rfl
    unfold Box at hb hs
    rw [hb] at hs
    simp only [Option.some.injEq, Obj.cells.injEq] at hs
    have : (3 : Nat) = 22 := hs.2.1
    exact absurd this (by decide)
  have SG := Lib.hid hsg
  have SL := Lib.hid hs.lt
  have rv : RowK W (.slice (some ⟨sb, 0, none⟩) 2 2) [((y.1 : Int), (y.2 : Int)), ((y.2 : Int), (y.1 : Int))] := Or.inr ⟨⟨sb, 0, none⟩, 2, rfl, by simp, by unfold maxLen; omega, fun j u hj => by
    have e : (⟨sb, 0, none⟩ : Addr).add j = ⟨sb, j, none⟩ := add_own sb j
    rw [e, hs.cell]
    simpa [flat, EK, cells2] using hj⟩
  clear hQ hs hadj hy hsg
  conv => arg 2; whnf
  go_wp2
  go_loopw [56] (fun i wr => ∃ (m : Nat) (r' : List Int), m ≤ 2 ∧ i = .int .i64 m ∧ Kp W.heap.size g W wr ∧ Box wr g (arr r') 3 ∧ LvQ ls a N nn r' (ds ++ [((y.1 : Int), (y.2 : Int)), ((y.2 : Int), (y.1 : Int))].take m)) (fun i _ => 2 - (intOf i).toNat)
  case atStart => exact ⟨0, r, by omega, rfl, Kp.refl _ _ _, hb, by simpa using hlv⟩
  case round =>
    clear hb hlv
    obtain ⟨m, r', hm, rfl, hk, hb, hlv⟩ := hrel
    have HK := Lib.hid hk
    have HB := Lib.hid hb
    have HL := Lib.hid hlv
    clear hk hlv
    by_cases hlt : m < 2
    · obtain ⟨e, he⟩ : ∃ e : Nat × Nat, e = if m = 0 then y else (y.2, y.1) := ⟨_, rfl⟩
      have hel : [((y.1 : Int), (y.2 : Int)), ((y.2 : Int), (y.1 : Int))][m]? = some ((e.1 : Int), (e.2 : Int)) := by
        rcases (by omega : m = 0 ∨ m = 1) with rfl | rfl <;> simp [he]
      have hE : (e.1 < N ∧ e.2 < N) ∧ Adj ls e.1 e.2 := by
        have h1 := HYY.out
        have h2 := HA.out
        rcases (by omega : m = 0 ∨ m = 1) with rfl | rfl
        · simp only [he, if_true]; exact ⟨h1, h2⟩
        · simp only [he]; exact ⟨⟨h1.2, h1.1⟩, h2.symm⟩
      have TK := Lib.hid (show [((y.1 : Int), (y.2 : Int)), ((y.2 : Int), (y.1 : Int))].take (m + 1) = [((y.1 : Int), (y.2 : Int)), ((y.2 : Int), (y.1 : Int))].take m ++ [((e.1 : Int), (e.2 : Int))] by rw [List.take_add_one, hel]; rfl)
      obtain ⟨p, hp⟩ : ∃ p : Addr, p = (⟨sb, 0, none⟩ : Addr).add (m * 2) := ⟨_, rfl⟩
      have ix : ∀ w, (Instr.indexAt 23 (.slice (some ⟨sb, 0, none⟩) 2 2) (.int .i64 m)).run Tryd.prog w = .ok (.pointer (some ⟨sb, m * 2, none⟩)) w := fun w => index_own okK sb m 2 2 hlt w
      have XS := HK.out.box HS.out SL.out SG.out
      have p0 : wr.cell? ⟨sb, m * 2, none⟩ = some (.int .i64 e.1) := by
        rw [XS.cell]
        rcases (by omega : m = 0 ∨ m = 1) with rfl | rfl <;> simp [he]
      have p1 : wr.cell? ⟨sb, m * 2 + 1, none⟩ = some (.int .i64 e.2) := by
        rw [XS.cell]
        rcases (by omega : m = 0 ∨ m = 1) with rfl | rfl <;> simp [he]
      obtain ⟨zu, hzu, bu⟩ := HL.out.at_ e.1 hE.1.1
      obtain ⟨zv, hzv, bv⟩ := HL.out.at_ e.2 hE.1.2
      have HE := Lib.hid hE
      have E1 := Lib.hid hzu
      have E2 := Lib.hid hzv
      have q0 := box_get hb hzu
      have q1 := box_get hb hzv
      have hf := hb.fr e.2
      have hgl := hb.lt
      have l1 : (e.1 : Int) < N := by omega
      have l2 : (e.2 : Int) < N := by omega
      have SK := Lib.hid (fun hno => HL.out.skip (u := e.1) (v := e.2) (zu := zu) (zv := zv) HE.out.1.1 E1.out E2.out hno)
      have PT := Lib.hid (fun h1 h2 => HL.out.put (u := e.1) (v := e.2) (zu := zu) (zv := zv) HE.out.1.1 HE.out.1.2 E1.out E2.out h1 h2 HE.out.2)
      clear hel he hE hp hzu hzv XS hb
      obtain ⟨e1, e2⟩ := e
      simp only at *
      obtain ⟨t1, d1⟩ : ∃ t, (zu == (nn : Int)) = t := ⟨_, rfl⟩
      obtain ⟨t2, d2⟩ : ∃ t, decide (zv < 0) = t := ⟨_, rfl⟩
      have D1 := Lib.hid d1
      have D2 := Lib.hid d2
      rcases t1 with _ | _
      · have NX := Lib.hid (show LvQ ls a N nn r' (ds ++ [((y.1 : Int), (y.2 : Int)), ((y.2 : Int), (y.1 : Int))].take (m + 1)) by
          rw [TK.out, ← List.append_assoc]
          exact SK.out (fun h => by have := D1.out; simp [h.1] at this))
        clear d2
        go_wp2
        go_roundw
        case rel => exact ⟨m + 1, r', by omega, by go_num, HK.out.trans (Kp.of_bel ((Below.refl _ _).alloc (Nat.le_refl _) _) HK.out.size), (HB.out.more _), NX.out⟩
        case measure => simp [intOf]; omega
      · rcases t2 with _ | _
        · have NX := Lib.hid (show LvQ ls a N nn r' (ds ++ [((y.1 : Int), (y.2 : Int)), ((y.2 : Int), (y.1 : Int))].take (m + 1)) by
            rw [TK.out, ← List.append_assoc]
            exact SK.out (fun h => by have := of_decide_eq_false D2.out; omega))
          go_wp2
          go_roundw
          case rel => exact ⟨m + 1, r', by omega, by go_num, HK.out.trans (Kp.of_bel ((Below.refl _ _).alloc (Nat.le_refl _) _) HK.out.size), (HB.out.more _), NX.out⟩
          case measure => simp [intOf]; omega
        · have NX := Lib.hid (show LvQ ls a N nn (r'.set e2 ((nn : Int) + 1)) (ds ++ [((y.1 : Int), (y.2 : Int)), ((y.2 : Int), (y.1 : Int))].take (m + 1)) by
            rw [TK.out, ← List.append_assoc]
            exact PT.out (by simpa using D1.out) (of_decide_eq_true D2.out))
          go_wp2
          go_roundw
          case rel => exact ⟨m + 1, _, by omega, by go_num, (HK.out.trans (Kp.set wr e2 _)).trans (Kp.of_bel ((Below.refl _ _).alloc (Nat.le_refl _) _) (by simpa using HK.out.size)), (box_set HB.out e2 _).more _, NX.out⟩
          case measure => simp [intOf]; omega
    · obtain rfl : m = 2 := by omega
      have HF := Lib.hid (fun v11 v56 v57 v58 v59 v60 v61 v62 v63 v64 v65 v66 v67 v68 v69 v70 v71 v72 v73 v74 v75 v76 v77 v78 v79 v80 v81 => HQ.out wr r' v11 v56 v57 v58 v59 v60 v61 v62 v63 v64 v65 v66 v67 v68 v69 v70 v71 v72 v73 v74 v75 v76 v77 v78 v79 v80 v81 HK.out HB.out HL.out)
      clear HQ hb
      go_wp2
      exact HF.out _ _ _ _ _ _ _ _ _ _ _ _ _ _ _ _ _ _ _ _ _ _ _ _ _ _ _
end Go.Proofs.YtbnfndcbhnjnaaaDoor.Gr

namespace Go.Proofs.YtbnfndcbhnjnaaaDoor.Gr
open Go.RowKit Go.Sort Go.Proofs.YtbnfndcbhnjnaaaDoor Go.Proofs.YtbnfndcbhnjnaaaDoor.Rw

theorem nat_link {N : Nat} {l : List Lk} (h : Lok N l) {y : Lk} (hy : y ∈ l) : ∃ u v : Nat, y = ((u : Int), (v : Int)) ∧ u < N ∧ v < N := by
  obtain ⟨⟨h1, h2⟩, h3, h4⟩ := h y hy
  exact ⟨y.1.toNat, y.2.toNat, by rw [Int.toNat_of_nonneg h1, Int.toNat_of_nonneg h3], by omega, by omega⟩
noncomputable def reachB4 : Code := ((Tryd.f20.body.bind (findBlock 4)).getD .skip)
set_option maxRecDepth 100000 in
set_option maxHeartbeats 8000000 in
theorem reach_b4 (Q : Exit → Act → World → Prop) (w0 W : World) (l : List Lk) (a : Int) (g N nn : Nat) (r : List Int) (ao : Option Addr) (m ac : Nat) (u0 u1 u2 u3 u4 u6 u8 u9 u10 u11 u12 u13 u14 u15 u16 u17 u18 u19 u20 u21 u22 u23 u24 u25 u26 u27 u28 u29 u30 u31 u32 u33 u34 u35 u36 u37 u38 u39 u40 u41 u45 u46 u47 u48 u49 u50 u51 u52 u53 u54 u55 u56 u57 u58 u59 u60 u61 u62 u63 u64 u65 u66 u67 u68 u69 u70 u71 u72 u73 u74 u75 u76 u77 u78 u79 u80 u81 u82 u83 u84 : Value)
    (hl : RowK w0 (.slice ao m ac) l) (hm : m = l.length) (h200 : m ≤ 400) (hok : Lok N l) (ha : 0 ≤ a ∧ a < N) (hb0 : Below w0.heap.size w0 W) (hg : w0.heap.size ≤ g) (hb : Box W g (arr r) 3) (hlv : LvP l a N nn r) (hN : N ≤ 64) (hnn : nn ≤ 64)
    (hQ : ∀ (w' : World) (r' : List Int) (v9 v11 v44 v45 v46 v47 v48 v49 v50 v51 v52 v53 v54 v55 v56 v57 v58 v59 v60 v61 v62 v63 v64 v65 v66 v67 v68 v69 v70 v71 v72 v73 v74 v75 v76 v77 v78 v79 v80 v81 v82 : Value), Kp W.heap.size g W w' → Box w' g (arr r') 3 → LvP l a N (nn + 1) r' → Q .normal ⟨(u0 :: u1 :: u2 :: u3 :: u4 :: .slice (some ⟨g, 0, none⟩) N N :: u6 :: .int .i64 nn :: u8 :: v9 :: u10 :: v11 :: u12 :: u13 :: u14 :: u15 :: u16 :: u17 :: u18 :: u19 :: u20 :: u21 :: u22 :: u23 :: u24 :: u25 :: u26 :: u27 :: u28 :: u29 :: u30 :: u31 :: u32 :: u33 :: u34 :: u35 :: u36 :: u37 :: u38 :: u39 :: u40 :: u41 :: .slice ao m ac :: .int .i64 m :: v44 :: v45 :: v46 :: v47 :: v48 :: v49 :: v50 :: v51 :: v52 :: v53 :: v54 :: v55 :: v56 :: v57 :: v58 :: v59 :: v60 :: v61 :: v62 :: v63 :: v64 :: v65 :: v66 :: v67 :: v68 :: v69 :: v70 :: v71 :: v72 :: v73 :: v74 :: v75 :: v76 :: v77 :: v78 :: v79 :: v80 :: v81 :: v82 :: u83 :: u84 :: []).toArray, []⟩ w') :
    Code.wp Tryd.prog reachB4 Q ⟨(u0 :: u1 :: u2 :: u3 :: u4 :: .slice (some ⟨g, 0, none⟩) N N :: u6 :: .int .i64 nn :: u8 :: u9 :: u10 :: u11 :: u12 :: u13 :: u14 :: u15 :: u16 :: u17 :: u18 :: u19 :: u20 :: u21 :: u22 :: u23 :: u24 :: u25 :: u26 :: u27 :: u28 :: u29 :: u30 :: u31 :: u32 :: u33 :: u34 :: u35 :: u36 :: u37 :: u38 :: u39 :: u40 :: u41 :: .slice ao m ac :: .int .i64 m :: .int .i64 0 :: u45 :: u46 :: u47 :: u48 :: u49 :: u50 :: u51 :: u52 :: u53 :: u54 :: u55 :: u56 :: u57 :: u58 :: u59 :: u60 :: u61 :: u62 :: u63 :: u64 :: u65 :: u66 :: u67 :: u68 :: u69 :: u70 :: u71 :: u72 :: u73 :: u74 :: u75 :: u76 :: u77 :: u78 :: u79 :: u80 :: u81 :: u82 :: u83 :: u84 :: []).toArray, []⟩ W := by
  have HQ := Lib.hid hQ
  have HL := Lib.hid hl
  have HM := Lib.hid hm
  have OK := Lib.hid hok
  have HA := Lib.hid ha
  have HB0 := Lib.hid hb0
  have HG := Lib.hid hg
  have HB1 := Lib.hid hb
  have HV := Lib.hid hlv.begin
  clear hQ hl hm hok ha hb0 hg hb hlv
  conv => arg 2; whnf
  go_wp2
  go_loopw [44] (fun i wr => ∃ (k : Nat) (r' : List Int), k ≤ m ∧ i = .int .i64 k ∧ Kp W.heap.size g W wr ∧ Box wr g (arr r') 3 ∧ LvQ l a N nn r' (bothL (l.take k))) (fun i _ => m - (intOf i).toNat)
  case atStart => exact ⟨0, r, Nat.zero_le _, rfl, Kp.refl _ _ _, HB1.out, by simpa [bothL] using HV.out⟩
  case round =>
    obtain ⟨k, r', hk, rfl, hkp, hb, hlv⟩ := hrel
    have HK := Lib.hid hkp
    have HB := Lib.hid hb
    have HV2 := Lib.hid hlv
    clear hkp hb hlv
    by_cases hlt : k < m
    · obtain ⟨y, hyk⟩ : ∃ y, l[k]? = some y := ⟨_, List.getElem?_eq_getElem (by rw [← HM.out]; exact hlt)⟩
      obtain ⟨p, ix, px⟩ := elK HL.out rfl HM.out.symm hyk
      obtain ⟨p0, p1⟩ := px _ (HB0.out.trans (HK.out.below HB0.out.size HG.out))
      have NX := Lib.hid (show bothL (l.take (k + 1)) = bothL (l.take k) ++ [y, (y.2, y.1)] by
        rw [List.take_add_one, hyk, both_append]
        simp [bothL, swapL])
      have hyl := List.mem_of_getElem? hyk
      obtain ⟨u, v, rfl, hu, hv⟩ := nat_link OK.out hyl
      have AD := Lib.hid (show Adj l (u : Int) (v : Int) from Or.inl hyl)
      have LT := Lib.hid (And.intro hu hv)
      have BA := Lib.hid (((Below.refl wr.heap.size wr).alloc (Nat.le_refl _) (.cells #[.int .i64 u, .int .i64 v] 22)).alloc (by simp) (.cells #[.int .i64 u, .int .i64 v, .int .i64 v, .int .i64 u] 22))
      have SB := Lib.hid (show Box ((wr.alloc (.cells #[.int .i64 u, .int .i64 v] 22)).alloc (.cells #[.int .i64 u, .int .i64 v, .int .i64 v, .int .i64 u] 22)) (wr.heap.size + 1) #[.int .i64 u, .int .i64 v, .int .i64 v, .int .i64 u] 22 by
        have h := box_new (wr.alloc (.cells #[.int .i64 u, .int .i64 v] 22)) #[.int .i64 u, .int .i64 v, .int .i64 v, .int .i64 u] 22
        simpa using h)
      clear px hyk hyl hu hv
      simp only at p0 p1
      go_upto_block 6 with (fail)
      generalize (wr.alloc (.cells #[.int .i64 u, .int .i64 v] 22)).alloc (.cells #[.int .i64 u, .int .i64 v, .int .i64 v, .int .i64 u] 22) = W3 at *
      refine reach_b6 _ W3 l a g (wr.heap.size + 1) N nn r' (bothL (l.take k)) (u, v) _ _ _ _ _ _ _ _ _ _ _ _ _ _ _ _ _ _ _ _ _ _ _ _ _ _ _ _ _ _ _ _ _ _ _ _ _ _ _ _ _ _ _ _ _ _ _ _ _ _ _ _ _ _ _ _ _ _ _ _ _ _ _ _ _ _ _ _ _ _ _ _ _ _ _ _ _ _ _ _ (HB.out.on BA.out) SB.out HV2.out LT.out AD.out hN hnn ?_
      intro w' r'' v11 v56 v57 v58 v59 v60 v61 v62 v63 v64 v65 v66 v67 v68 v69 v70 v71 v72 v73 v74 v75 v76 v77 v78 v79 v80 v81 hk' hb' hlv'
      have K1 := Lib.hid ((HK.out.trans (Kp.of_bel BA.out HK.out.size)).trans (hk'.mono (Nat.le_trans HK.out.size BA.out.size)))
      have B1 := Lib.hid hb'
      have V1 := Lib.hid (show LvQ l a N nn r'' (bothL (l.take (k + 1))) by rw [NX.out]; exact hlv')
      clear hk' hb' hlv' p0 p1 ix
      go_wp2
      go_roundw
      case rel => exact ⟨k + 1, r'', by omega, by go_num, K1.out, B1.out, V1.out⟩
      case measure => simp [intOf]; omega
    · obtain rfl : k = m := by omega
      have e : l.take k = l := List.take_of_length_le (by have := HM.out; omega)
      rw [e] at HV2
      have HF := Lib.hid (fun v9 v11 v44 v45 v46 v47 v48 v49 v50 v51 v52 v53 v54 v55 v56 v57 v58 v59 v60 v61 v62 v63 v64 v65 v66 v67 v68 v69 v70 v71 v72 v73 v74 v75 v76 v77 v78 v79 v80 v81 v82 => HQ.out wr r' v9 v11 v44 v45 v46 v47 v48 v49 v50 v51 v52 v53 v54 v55 v56 v57 v58 v59 v60 v61 v62 v63 v64 v65 v66 v67 v68 v69 v70 v71 v72 v73 v74 v75 v76 v77 v78 v79 v80 v81 v82 HK.out HB.out (HV2.out.done OK.out HA.out))
      clear HQ e
      go_wp2
      exact HF.out _ _ _ _ _ _ _ _ _ _ _ _ _ _ _ _ _ _ _ _ _ _ _ _ _ _ _ _ _ _ _ _ _ _ _ _ _ _ _ _ _
end Go.Proofs.YtbnfndcbhnjnaaaDoor.Gr

namespace Go.Proofs.YtbnfndcbhnjnaaaDoor.Gr
open Go.RowKit Go.Sort Go.Proofs.YtbnfndcbhnjnaaaDoor Go.Proofs.YtbnfndcbhnjnaaaDoor.Rw

noncomputable def reachB2 : Code := ((Tryd.f20.body.bind (findBlock 2)).getD .skip)
set_option maxRecDepth 100000 in
set_option maxHeartbeats 8000000 in
theorem reach_b2 (Q : Exit → Act → World → Prop) (w0 W : World) (l : List Lk) (a : Int) (g gb N : Nat) (r : List Int) (ao : Option Addr) (m ac : Nat) (u0 u1 u3 u4 u6 u7 u8 u9 u10 u11 u12 u13 u14 u15 u16 u17 u18 u19 u20 u21 u22 u23 u24 u25 u26 u27 u28 u29 u30 u31 u32 u33 u34 u35 u36 u39 u40 u41 u42 u43 u44 u45 u46 u47 u48 u49 u50 u51 u52 u53 u54 u55 u56 u57 u58 u59 u60 u61 u62 u63 u64 u65 u66 u67 u68 u69 u70 u71 u72 u73 u74 u75 u76 u77 u78 u79 u80 u81 u82 u83 u84 : Value)
    (hl : RowK w0 (.slice ao m ac) l) (hm : m = l.length) (h200 : m ≤ 400) (hok : Lok N l) (ha : 0 ≤ a ∧ a < N) (hb0 : Below w0.heap.size w0 W) (hg : w0.heap.size ≤ g) (hgx : Box W gb #[.int .i64 N, .slice ao m ac] 25) (hb : Box W g (arr r) 3) (hlv : LvP l a N 0 r) (hN : N ≤ 64)
    (hQ : ∀ (w' : World) (r' : List Int) (v7 v9 v11 v38 v39 v40 v41 v42 v43 v44 v45 v46 v47 v48 v49 v50 v51 v52 v53 v54 v55 v56 v57 v58 v59 v60 v61 v62 v63 v64 v65 v66 v67 v68 v69 v70 v71 v72 v73 v74 v75 v76 v77 v78 v79 v80 v81 v82 v83 : Value), Kp W.heap.size g W w' → Box w' g (arr r') 3 → LvP l a N N r' → Q .normal ⟨(u0 :: u1 :: .pointer (some ⟨gb, 0, none⟩) :: u3 :: u4 :: .slice (some ⟨g, 0, none⟩) N N :: u6 :: v7 :: u8 :: v9 :: u10 :: v11 :: u12 :: u13 :: u14 :: u15 :: u16 :: u17 :: u18 :: u19 :: u20 :: u21 :: u22 :: u23 :: u24 :: u25 :: u26 :: u27 :: u28 :: u29 :: u30 :: u31 :: u32 :: u33 :: u34 :: u35 :: u36 :: .int .i64 N :: v38 :: v39 :: v40 :: v41 :: v42 :: v43 :: v44 :: v45 :: v46 :: v47 :: v48 :: v49 :: v50 :: v51 :: v52 :: v53 :: v54 :: v55 :: v56 :: v57 :: v58 :: v59 :: v60 :: v61 :: v62 :: v63 :: v64 :: v65 :: v66 :: v67 :: v68 :: v69 :: v70 :: v71 :: v72 :: v73 :: v74 :: v75 :: v76 :: v77 :: v78 :: v79 :: v80 :: v81 :: v82 :: v83 :: u84 :: []).toArray, []⟩ w') :
    Code.wp Tryd.prog reachB2 Q ⟨(u0 :: u1 :: .pointer (some ⟨gb, 0, none⟩) :: u3 :: u4 :: .slice (some ⟨g, 0, none⟩) N N :: u6 :: u7 :: u8 :: u9 :: u10 :: u11 :: u12 :: u13 :: u14 :: u15 :: u16 :: u17 :: u18 :: u19 :: u20 :: u21 :: u22 :: u23 :: u24 :: u25 :: u26 :: u27 :: u28 :: u29 :: u30 :: u31 :: u32 :: u33 :: u34 :: u35 :: u36 :: .int .i64 N :: .int .i64 0 :: u39 :: u40 :: u41 :: u42 :: u43 :: u44 :: u45 :: u46 :: u47 :: u48 :: u49 :: u50 :: u51 :: u52 :: u53 :: u54 :: u55 :: u56 :: u57 :: u58 :: u59 :: u60 :: u61 :: u62 :: u63 :: u64 :: u65 :: u66 :: u67 :: u68 :: u69 :: u70 :: u71 :: u72 :: u73 :: u74 :: u75 :: u76 :: u77 :: u78 :: u79 :: u80 :: u81 :: u82 :: u83 :: u84 :: []).toArray, []⟩ W := by
  have hne : gb ≠ g := by
    rintro rfl
    unfold Box at hb hgx
    rw [hb] at hgx
    simp only [Option.some.injEq, Obj.cells.injEq] at hgx
    have : (3 : Nat) = 25 := hgx.2.1
    exact absurd this (by decide)
  have NE := Lib.hid hne
  have HQ := Lib.hid hQ
  have HL := Lib.hid hl
  have HM := Lib.hid hm
  have OK := Lib.hid hok
  have HA := Lib.hid ha
  have HB0 := Lib.hid hb0
  have HG := Lib.hid hg
  have HX := Lib.hid hgx
  have HB1 := Lib.hid hb
  have HV := Lib.hid hlv
  clear hQ hl hm hok ha hb0 hg hb hlv hgx hne
  conv => arg 2; whnf
  go_wp2
  go_loopw [38] (fun i wr => ∃ (k : Nat) (r' : List Int), k ≤ N ∧ i = .int .i64 k ∧ Kp W.heap.size g W wr ∧ Box wr g (arr r') 3 ∧ LvP l a N k r') (fun i _ => N - (intOf i).toNat)
  case atStart => exact ⟨0, r, Nat.zero_le _, rfl, Kp.refl _ _ _, HB1.out, HV.out⟩
  case round =>
    obtain ⟨k, r', hk, rfl, hkp, hb, hlv⟩ := hrel
    have HK := Lib.hid hkp
    have HB := Lib.hid hb
    have HV2 := Lib.hid hlv
    clear hkp hb hlv
    by_cases hlt : k < N
    · have XS := HK.out.box HX.out HX.out.lt NE.out
      have x1 := XS.cell 1
      simp only [List.getElem?_toArray, List.getElem?_cons_zero, List.getElem?_cons_succ] at x1
      clear XS
      go_upto_block 4 with (fail)
      refine reach_b4 _ w0 wr l a g N k r' ao m ac _ _ _ _ _ _ _ _ _ _ _ _ _ _ _ _ _ _ _ _ _ _ _ _ _ _ _ _ _ _ _ _ _ _ _ _ _ _ _ _ _ _ _ _ _ _ _ _ _ _ _ _ _ _ _ _ _ _ _ _ _ _ _ _ _ _ _ _ _ _ _ _ _ _ _ _ _ _ _ _ HL.out HM.out h200 OK.out HA.out (HB0.out.trans (HK.out.below HB0.out.size HG.out)) HG.out HB.out HV2.out hN (by omega) ?_
      intro w' r'' v9 v11 v44 v45 v46 v47 v48 v49 v50 v51 v52 v53 v54 v55 v56 v57 v58 v59 v60 v61 v62 v63 v64 v65 v66 v67 v68 v69 v70 v71 v72 v73 v74 v75 v76 v77 v78 v79 v80 v81 v82 hk' hb' hlv'
      have K1 := Lib.hid (HK.out.trans (hk'.mono HK.out.size))
      have B1 := Lib.hid hb'
      have V1 := Lib.hid hlv'
      clear hk' hb' hlv' x1
      go_wp2
      go_roundw
      case rel => exact ⟨k + 1, r'', by omega, by go_num, K1.out, B1.out, V1.out⟩
      case measure => simp [intOf]; omega
    · obtain rfl : k = N := by omega
      have HF := Lib.hid (fun v7 v9 v11 v38 v39 v40 v41 v42 v43 v44 v45 v46 v47 v48 v49 v50 v51 v52 v53 v54 v55 v56 v57 v58 v59 v60 v61 v62 v63 v64 v65 v66 v67 v68 v69 v70 v71 v72 v73 v74 v75 v76 v77 v78 v79 v80 v81 v82 v83 => HQ.out wr r' v7 v9 v11 v38 v39 v40 v41 v42 v43 v44 v45 v46 v47 v48 v49 v50 v51 v52 v53 v54 v55 v56 v57 v58 v59 v60 v61 v62 v63 v64 v65 v66 v67 v68 v69 v70 v71 v72 v73 v74 v75 v76 v77 v78 v79 v80 v81 v82 v83 HK.out HB.out HV2.out)
      clear HQ
      go_wp2
      exact HF.out _ _ _ _ _ _ _ _ _ _ _ _ _ _ _ _ _ _ _ _ _ _ _ _ _ _ _ _ _ _ _ _ _ _ _ _ _ _ _ _ _ _ _ _ _ _ _ _ _
end Go.Proofs.YtbnfndcbhnjnaaaDoor.Gr

namespace Go.Proofs.YtbnfndcbhnjnaaaDoor.Gr
open Go.RowKit Go.Sort Go.Proofs.YtbnfndcbhnjnaaaDoor Go.Proofs.YtbnfndcbhnjnaaaDoor.Rw

/-- What Reach hands out. -/
def ReachQ (w : World) (N : Nat) (l : List Lk) (a : Int) (e : Ending) (w' : World) : Prop := (∃ g r, e = .returned (.slice (some ⟨g, 0, none⟩) N N) ∧ w.heap.size ≤ g ∧ RowI w' (.slice (some ⟨g, 0, none⟩) N N) r ∧ r.length = N ∧ ∀ x : Nat, x < N → ∃ z, r[x]? = some z ∧ FarIs N l a x z) ∧ Below w.heap.size w w'
theorem row_of_box {W : World} {g : Nat} {r : List Int} (h : Box W g (arr r) 3) {N : Nat} (hr : r.length = N) (hN : N ≤ 1000) : RowI W (.slice (some ⟨g, 0, none⟩) N N) r :=
  Or.inr ⟨⟨g, 0, none⟩, N, by rw [hr], by omega, by unfold maxLen; omega, fun j u hj => by
    rw [flatI, List.getElem?_map] at hj
    rw [add_own, h.cell, arr_get]
    exact hj⟩
set_option maxRecDepth 100000 in
set_option maxHeartbeats 8000000 in
theorem reach_any (N : Nat) (lv : Value) (l : List Lk) (a : Nat) (w : World) (hl : RowK w lv l) (h400 : l.length ≤ 400) (hok : Lok N l) (hN : N ≤ 64) (ha : a < N) :
    Calls Tryd.prog 20 #[gv N lv, .int .i64 a] w (ReachQ w N l a) := by
  have HL := Lib.hid hl
  have OK := Lib.hid hok
  obtain ⟨ao, ac, rfl⟩ := hl.len
  obtain ⟨m, hm⟩ : ∃ m, m = l.length := ⟨_, rfl⟩
  rw [← hm] at HL h400 ⊢
  have HM := Lib.hid hm
  have RQ := Lib.hid (fun (g : Nat) (r : List Int) (w' : World) (h1 : w.heap.size ≤ g) (h2 : Box w' g (arr r) 3) (h3 : LvP l a N N r) (h4 : Below w.heap.size w w') => show ReachQ w N l a (.returned (.slice (some ⟨g, 0, none⟩) N N)) w' from ⟨⟨g, r, rfl, h1, row_of_box h2 h3.1 (by omega), h3.1, fun x hx => h3.far OK.out ⟨by omega, by omega⟩ x hx⟩, h4⟩)
  generalize hq : ReachQ w N l a = q at *
  clear hl hok hm hq
  have B := Lib.hid (show Below w.heap.size w (w.alloc (.cells #[.int .i64 N, .slice ao m ac] 25)) from (Below.refl _ _).alloc (Nat.le_refl _) _)
  have X := Lib.hid (box_new w #[.int .i64 N, .slice ao m ac] 25)
  obtain ⟨w1, mk, bx, bel⟩ := make_ints (w.alloc (.cells #[.int .i64 N, .slice ao m ac] 25)) N (by omega)
  have hs1 : (w.alloc (.cells #[.int .i64 N, .slice ao m ac] 25)).heap.size = w.heap.size + 1 := by simp
  rw [hs1] at mk bx bel
  have B1 := Lib.hid (B.out.trans (bel.mono (by omega)))
  have X1 := Lib.hid ((X.out.on (by rw [hs1]; exact bel)))
  have BX := Lib.hid bx
  have S1 := Lib.hid (show w.heap.size + 1 < w1.heap.size from bx.lt)
  clear bx bel hs1 X
  go_enter Tryd.func20, Tryd.ntmps20
  go_wp2
  clear mk
  go_loopw [17] (fun i wr => ∃ (k : Nat) (r : List Int), k ≤ N ∧ i = .int .i64 k ∧ Kp w1.heap.size (w.heap.size + 1) w1 wr ∧ Box wr (w.heap.size + 1) (arr r) 3 ∧ r.length = N ∧ ∀ x : Nat, x < k → r[x]? = some (-1)) (fun i _ => N - (intOf i).toNat)
  case atStart => exact ⟨0, _, Nat.zero_le _, rfl, Kp.refl _ _ _, BX.out, by simp, fun x hx => by omega⟩
  case round =>
    obtain ⟨k, r, hk, rfl, hkp, hb, hr, hall⟩ := hrel
    have HK := Lib.hid hkp
    have HB := Lib.hid hb
    have HR := Lib.hid hr
    have AL := Lib.hid hall
    by_cases hlt : k < N
    · obtain ⟨z, hz⟩ : ∃ z, r[k]? = some z := ⟨_, List.getElem?_eq_getElem (by omega)⟩
      have q0 := box_get hb hz
      have hf := hb.fr k
      have hgl := hb.lt
      clear hkp hb hr hall hz
      go_wp2
      go_roundw
      case rel => exact ⟨k + 1, r.set k (-1), by omega, by go_num, HK.out.trans ((Kp.set wr k _)), box_set HB.out k (-1), by simpa using HR.out, fun x hx => by
        by_cases e : x = k
        · subst e
          rw [List.getElem?_set_self (by have := HR.out; omega)]
        · rw [List.getElem?_set_ne (Ne.symm e)]
          exact AL.out x (by omega)⟩
      case measure => simp [intOf]; omega
    · obtain rfl : k = N := by omega
      obtain ⟨z, hz⟩ : ∃ z, r[a]? = some z := ⟨_, List.getElem?_eq_getElem (by omega)⟩
      have q0 := box_get hb hz
      have hf := hb.fr a
      have hgl := hb.lt
      have XS := HK.out.box X1.out (by have := S1.out; omega) (by omega)
      have XH := Lib.hid XS
      have x0 := XS.cell 0
      simp only [List.getElem?_toArray, List.getElem?_cons_zero] at x0
      have dz : decide ((a : Int) < 0) = false := by simp
      have dn : decide ((a : Int) ≥ (k : Int)) = false := by simp; omega
      have LV := Lib.hid (LvP.start (ls := l) (a := a) (N := k) HR.out AL.out ha)
      clear hkp hb hr hall hz XS
      have K1 := Lib.hid (HK.out.trans (Kp.set (B := w1.heap.size) (g := w.heap.size + 1) wr a (.int .i64 0)))
      have BW := Lib.hid (B1.out.trans (K1.out.below (b := w.heap.size) (by have := S1.out; omega) (by omega)))
      have XW := Lib.hid ((Kp.set (B := wr.heap.size) (g := w.heap.size + 1) wr a (.int .i64 0)).box XH.out XH.out.lt (by omega))
      go_upto_block 2 with (fail)
      refine reach_b2 _ w (wr.setCell ⟨w.heap.size + 1, a, none⟩ (.int .i64 0)) l a (w.heap.size + 1) w.heap.size k (r.set a 0) ao m ac _ _ _ _ _ _ _ _ _ _ _ _ _ _ _ _ _ _ _ _ _ _ _ _ _ _ _ _ _ _ _ _ _ _ _ _ _ _ _ _ _ _ _ _ _ _ _ _ _ _ _ _ _ _ _ _ _ _ _ _ _ _ _ _ _ _ _ _ _ _ _ _ _ _ _ _ _ _ _ _ _ HL.out HM.out h400 OK.out ⟨by omega, by omega⟩ BW.out (by omega) XW.out (box_set HB.out a 0) LV.out hN ?_
      intro w' r' v7 v9 v11 v38 v39 v40 v41 v42 v43 v44 v45 v46 v47 v48 v49 v50 v51 v52 v53 v54 v55 v56 v57 v58 v59 v60 v61 v62 v63 v64 v65 v66 v67 v68 v69 v70 v71 v72 v73 v74 v75 v76 v77 v78 v79 v80 v81 v82 v83 hk' hb' hlv'
      have Q5 := Lib.hid (RQ.out (w.heap.size + 1) r' w' (by omega) hb' hlv' (BW.out.trans (hk'.below BW.out.size (by omega))))
      clear hk' hb' hlv' q0 hf hgl x0 dz dn
      go_wp2
      exact Q5.out
end Go.Proofs.YtbnfndcbhnjnaaaDoor.Gr
