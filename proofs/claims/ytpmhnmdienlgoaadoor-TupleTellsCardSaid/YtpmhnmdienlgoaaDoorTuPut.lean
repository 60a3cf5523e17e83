/-
  Put of package tuple: the list with just that value of that name, in its place. Conditions: at most 100 attributes, their names rising.
-/
import Derived.Test.YtpmhnmdienlgoaaDoorAtPutsG
import Derived.Test.YtpmhnmdienlgoaaDoorAtBox
import Derived.Laws.MakeOwn
namespace Go.Proofs.YtpmhnmdienlgoaaDoor.At
open Go.RowKit Go.Sort Go.Proofs.YtpmhnmdienlgoaaDoor.Va Go.Proofs.YtpmhnmdienlgoaaDoor.In Go.Proofs.YtpmhnmdienlgoaaDoor.Rg

/-- How many names at the head are ahead of that one. -/
def cntA : List A4 → ByteArray → Nat
  | [], _ => 0
  | x :: r, n => if Op.bytesLess x.1.toList n.toList = true then cntA r n + 1 else 0
theorem cntA_le : ∀ l n, cntA l n ≤ l.length
  | [], n => Nat.le_refl _
  | x :: r, n => by
    have := cntA_le r n
    simp only [cntA]
    split <;> simp; omega
theorem cntA_is : ∀ (l : List A4) (n : ByteArray) (k : Nat), k ≤ l.length → (∀ (j : Nat) (y : A4), j < k → l[j]? = some y → Op.bytesLess y.1.toList n.toList = true) → (∀ y : A4, l[k]? = some y → Op.bytesLess y.1.toList n.toList = false) → cntA l n = k
  | [], n, k, hk, _, _ => by simp at hk; simp [cntA, hk]
  | x :: r, n, 0, _, _, h => by simp [cntA, h x rfl]
  | x :: r, n, k + 1, hk, h1, h2 => by
    simp only [cntA]
    rw [if_pos (h1 0 x (by omega) rfl), cntA_is r n k (by simpa using hk) (fun j y hj hy => h1 (j + 1) y (by omega) (by simpa using hy)) (fun y hy => h2 y (by simpa using hy))]
def othersA (n : ByteArray) (l : List A4) : List A4 := l.filter fun x => !decide (x.1 = n)
theorem others_all (n : ByteArray) : ∀ l : List A4, (∀ y ∈ l, y.1 ≠ n) → othersA n l = l
  | [], _ => rfl
  | x :: r, h => by
    have e := others_all n r (fun y hy => h y (List.mem_cons_of_mem _ hy))
    unfold othersA at *
    rw [List.filter_cons, if_pos (by simp [h x (List.mem_cons_self ..)]), e]
theorem putA_is : ∀ (l : List A4) (n : ByteArray) (v : V3), Rise l → putA l n v = l.take (cntA l n) ++ (n, v) :: othersA n (l.drop (cntA l n))
  | [], n, v, _ => rfl
  | x :: r, n, v, h => by
    obtain ⟨h1, h2⟩ := List.pairwise_cons.1 h
    simp only [putA, cntA]
    split
    · simp [putA_is r n v h2]
    · rename_i hl
      split
      · rename_i he
        have e : othersA n r = r := others_all n r fun y hy e => less_ne (h1 y hy) (he.trans e.symm)
        have e2 : othersA n (x :: r) = othersA n r := by unfold othersA; simp [he]
        simp [e, e2]
      · rename_i he
        have e : othersA n r = r := others_all n r fun y hy e => by
          have h3 := h1 y hy
          rw [e] at h3
          exact hl h3
        have e2 : othersA n (x :: r) = x :: othersA n r := by unfold othersA; simp [he]
        simp [e, e2]
theorem row_lo {W : World} {lv : Value} {l : List A4} (h : RowA W lv l) (k : Nat) (hk : k ≤ l.length) : ∃ lo, (∀ w, (Instr.sliceAt 26 lv none (some (.int .i64 k)) none).run Tryd.prog w = .ok lo w) ∧ RowA W lo (l.take k) := by
  rcases h with ⟨rfl, rfl⟩ | ⟨a, cap, rfl, h2, h3, h4⟩
  · obtain rfl : k = 0 := by simpa using hk
    exact ⟨.slice none 0 0, fun w => by simp [go_sem], Or.inl ⟨rfl, rfl⟩⟩
  · refine ⟨_, slice_loA a k _ _ hk h2, Or.inr ⟨a, cap, by rw [List.length_take, Nat.min_eq_left hk], by simp; omega, h3, fun j u hj => h4 j u ?_⟩⟩
    conv => lhs; rw [← List.take_append_drop k l, flatA_append]
    exact List.getElem?_append_left (List.getElem?_eq_some_iff.1 hj).1 ▸ hj
theorem row_hi {W : World} {lv : Value} {l : List A4} (h : RowA W lv l) (k : Nat) (hk : k ≤ l.length) : ∃ hi, (∀ w, (Instr.sliceAt 26 lv (some (.int .i64 k)) none none).run Tryd.prog w = .ok hi w) ∧ RowA W hi (l.drop k) := by
  rcases h with ⟨rfl, rfl⟩ | ⟨a, cap, rfl, h2, h3, h4⟩
  · obtain rfl : k = 0 := by simpa using hk
    exact ⟨.slice none 0 0, fun w => by simp [go_sem], Or.inl ⟨rfl, rfl⟩⟩
  · refine ⟨_, slice_hiA a k _ _ hk h2, Or.inr ⟨_, cap - k, by rw [List.length_drop], by rw [List.length_drop]; omega, by omega, fun j u hj => ?_⟩⟩
    have hlt := (List.getElem?_eq_some_iff.1 hj).1
    rw [flatA_length] at hlt
    simp at hlt
    rw [if_neg (by omega), add_add]
    refine h4 _ u ?_
    conv => lhs; rw [← List.take_append_drop k l, flatA_append]
    rw [List.getElem?_append_right (by rw [flatA_length]; simp; omega), flatA_length]
    rw [show k * 4 + j - (List.take k l).length * 4 = j by simp; omega]
    exact hj
/-- An append of a list onto a row of one's own. -/
theorem app_row {w : World} (B : Nat) {v x : Value} {n : Nat} {xs : List Value} {l : List A4} (hown : w.ownsRow B 25 4 v n xs) (hx : RowA w x l) (hn : n ≤ 1000) (hm : l.length ≤ 1000) (hB : B ≤ w.heap.size) (ty : TypeId) :
    ∃ v' w', (Builtin.append_ #[26, 26] ty #[v, x]).run Tryd.prog w = .ok v' w' ∧ w'.ownsRow B 25 4 v' (n + l.length) (xs ++ flatA l) ∧ w.grownBy w' v.ownBlock := by
  obtain ⟨i, i1, i2, i3, i4⟩ := infoA
  rcases hx with ⟨rfl, rfl⟩ | ⟨ad, c, rfl, h2, h3, h4⟩
  · exact ⟨v, w, run_append_owned_none (P := Tryd.prog) (w := w) B 26 ty 25 i 4 Tryd.underlying26 i1 v n xs hown, by simpa [flatA] using hown, grown_refl _ _⟩
  · obtain ⟨v', w', r1, r2, r3, _⟩ := run_append_own (P := Tryd.prog) w B 26 ty 25 i _ 4 48 Tryd.underlying26 i1 i2 i3 i4 rfl (by decide) v n xs hown ad l.length c (flatA l) (flatA_length l) h4 (flatA_one l) (by unfold maxLen; omega) (by omega) hB
    exact ⟨v', w', r1, r2, r3⟩
theorem make_rowA (w : World) (B c : Nat) (hc : c ≤ 1000) (hB : B ≤ w.heap.size) :
    ∃ w', (Instr.makeSlice 26 (.int .i64 0) (.int .i64 (c : Int))).run Tryd.prog w = .ok (.slice (some ⟨w.heap.size, 0, none⟩) 0 c) w' ∧ w'.ownsRow B 25 4 (.slice (some ⟨w.heap.size, 0, none⟩) 0 c) 0 [] ∧ w.grownBy w' none := by
  obtain ⟨i, i1, i2, i3, i4⟩ := infoA
  exact run_make_own (P := Tryd.prog) w B 26 25 i _ 4 Tryd.underlying26 i1 i2 i3 .i64 .i64 c (by rw [i4]; omega) (by unfold maxLen; omega) hB
theorem row_one (w : World) (x : A4) : RowA (w.alloc (.cells #[.string x.1, .bool x.2.1, .int .i64 x.2.2.1, .string x.2.2.2] 25)) (.slice (some ⟨w.heap.size, 0, none⟩) 1 1) [x] :=
  Or.inr ⟨⟨w.heap.size, 0, none⟩, 1, rfl, by simp, by decide, fun j u hj => by
    have e : (⟨w.heap.size, 0, none⟩ : Addr).add j = ⟨w.heap.size, j, none⟩ := by unfold Addr.add; split <;> simp_all
    rw [e, World.cell?_alloc_at _ _ _ _ rfl]
    simpa [flatA] using hj⟩

noncomputable def putB0 : Code := ((Tryd.f10.body.bind (findBlock 0)).getD .skip)
noncomputable def putB2 : Code := ((Tryd.f10.body.bind (findBlock 2)).getD .skip)

set_option maxRecDepth 100000 in
set_option maxHeartbeats 8000000 in
theorem putB0_any (Q : Exit → Act → World → Prop) (W : World) (lv : Value) (l : List A4) (n : ByteArray) (hl : RowA W lv l) (h5 : l.length ≤ 100)
    (u2 u3 u4 u5 u6 u8 u9 u10 u11 u12 u13 u14 u15 u16 u17 u18 u19 u20 u21 u22 u23 u24 u25 u26 u27 u28 u29 u30 u31 u32 u33 u34 u35 u36 u37 u38 u39 u40 u41 u42 u43 u44 u45 u46 u47 u48 u49 u50 u51 u52 u53 u54 u55 u56 u57 u58 : Value)
    (hQ : ∀ u11 u12 u13 u14 u15 u16 u17 u18 u19 u20 u21 u22 u23 u24 u25 : Value, Q .normal ⟨#[lv, .string n, u2, u3, u4, u5, u6, .int .i64 (cntA l n), u8, u9, u10, u11, u12, u13, u14, u15, u16, u17, u18, u19, u20, u21, u22, u23, u24, u25, u26, u27, u28, u29, u30, u31, u32, u33, u34, u35, u36, u37, u38, u39, u40, u41, u42, u43, u44, u45, u46, u47, u48, u49, u50, u51, u52, u53, u54, u55, u56, u57, u58], []⟩ W) :
    Code.wp Tryd.prog putB0 Q ⟨#[lv, .string n, u2, u3, u4, u5, u6, .int .i64 0, u8, u9, u10, u11, u12, u13, u14, u15, u16, u17, u18, u19, u20, u21, u22, u23, u24, u25, u26, u27, u28, u29, u30, u31, u32, u33, u34, u35, u36, u37, u38, u39, u40, u41, u42, u43, u44, u45, u46, u47, u48, u49, u50, u51, u52, u53, u54, u55, u56, u57, u58], []⟩ W := by
  have HQ := Lib.hid hQ
  have HL := Lib.hid hl
  obtain ⟨lo, lc, rfl⟩ := hl.len
  clear hQ hl
  conv => arg 2; whnf
  go_wp2
  go_loop [7] (fun i => ∃ k : Nat, k ≤ l.length ∧ i = .int .i64 k ∧ ∀ (j : Nat) (y : A4), j < k → l[j]? = some y → Op.bytesLess y.1.toList n.toList = true) (fun i => l.length - (intOf i).toNat)
  case atStart => exact ⟨0, Nat.zero_le _, rfl, fun j y h => by omega⟩
  case round =>
    obtain ⟨k, hk, rfl, hall⟩ := hrel
    have AL := Lib.hid hall
    clear hall
    by_cases hlt : k < l.length
    · obtain ⟨⟨xn, xt, xi, xs⟩, hx⟩ : ∃ x, l[k]? = some x := ⟨_, List.getElem?_eq_getElem hlt⟩
      obtain ⟨p, ix, px⟩ := row_cells HL.out rfl rfl hx
      obtain ⟨p0, p1, p2, p3⟩ := px _ (Below.refl _ _)
      have HX := Lib.hid hx
      clear hx px
      simp only at p0 p1 p2 p3
      obtain ⟨r, hr⟩ : ∃ r, Op.bytesLess xn.toList n.toList = r := ⟨_, rfl⟩
      cases r
      · have E := Lib.hid (cntA_is l n k hk AL.out (fun y hy => by have e := HX.out; rw [hy] at e; rw [Option.some.inj e]; exact hr))
        go_wp2
        have h9 := HQ.out
        rw [E.out] at h9
        exact h9 _ _ _ _ _ _ _ _ _ _ _ _ _ _ _ 
      · have RR := Lib.hid hr
        go_wp2
        go_round
        case rel => exact ⟨k + 1, by omega, by go_num, fun j y hj hy => by
          rcases Nat.lt_or_ge j k with h3 | h3
          · exact AL.out j y h3 hy
          · obtain rfl : j = k := by omega
            have e := HX.out
            rw [hy] at e
            rw [Option.some.inj e]
            exact RR.out⟩
        case measure => simp [intOf]; omega
    · obtain rfl : k = l.length := by omega
      have E := Lib.hid (cntA_is l n l.length hk AL.out (fun y hy => by simp at hy))
      go_wp2
      have h9 := HQ.out
      rw [E.out] at h9
      exact h9 _ _ _ _ _ _ _ _ _ _ _ _ _ _ _ 

set_option maxRecDepth 100000 in
set_option maxHeartbeats 8000000 in
theorem putB2_any (Q : Exit → Act → World → Prop) (W0 W : World) (sv pv : Value) (m r : List A4) (n : ByteArray) (hr : RowA W0 sv r) (hb : Below W0.heap.size W0 W) (ho : W.ownsRow W0.heap.size 25 4 pv m.length (flatA m)) (h5 : r.length ≤ 100) (hm : m.length ≤ 200)
    (u0 u2 u3 u4 u5 u6 u7 u9 u10 u11 u12 u13 u14 u15 u16 u17 u18 u19 u20 u21 u22 u23 u24 u25 u26 u27 u28 u29 u30 u31 u32 u33 u34 u35 u36 u37 u38 u39 u40 u41 u42 u46 u47 u48 u49 u50 u51 u52 u53 u54 u55 u56 u57 u58 : Value)
    (hQ : ∀ (w' : World) (pw u10 u45 u46 u47 u48 u49 u50 u51 u52 u53 u54 u55 u56 u57 : Value), Below W0.heap.size W0 w' → w'.ownsRow W0.heap.size 25 4 pw (m ++ othersA n r).length (flatA (m ++ othersA n r)) → Q .normal ⟨#[u0, .string n, u2, u3, u4, u5, u6, u7, pw, u9, u10, u11, u12, u13, u14, u15, u16, u17, u18, u19, u20, u21, u22, u23, u24, u25, u26, u27, u28, u29, u30, u31, u32, u33, u34, u35, u36, u37, u38, u39, u40, u41, u42, sv, .int .i64 r.length, u45, u46, u47, u48, u49, u50, u51, u52, u53, u54, u55, u56, u57, u58], []⟩ w') :
    Code.wp Tryd.prog putB2 Q ⟨#[u0, .string n, u2, u3, u4, u5, u6, u7, pv, u9, u10, u11, u12, u13, u14, u15, u16, u17, u18, u19, u20, u21, u22, u23, u24, u25, u26, u27, u28, u29, u30, u31, u32, u33, u34, u35, u36, u37, u38, u39, u40, u41, u42, sv, .int .i64 r.length, .int .i64 0, u46, u47, u48, u49, u50, u51, u52, u53, u54, u55, u56, u57, u58], []⟩ W := by
  have HQ := Lib.hid hQ
  have HR := Lib.hid hr
  have HO := Lib.hid ho
  have H0 := Lib.hid hb
  obtain ⟨lo, lc, rfl⟩ := hr.len
  clear hQ hr ho hb
  conv => arg 2; whnf
  go_wp2
  go_loopw [8, 45] (fun q i wr => ∃ k : Nat, k ≤ r.length ∧ i = .int .i64 k ∧ Below W0.heap.size W0 wr ∧ wr.ownsRow W0.heap.size 25 4 q (m ++ othersA n (r.take k)).length (flatA (m ++ othersA n (r.take k)))) (fun _ i _ => r.length - (intOf i).toNat)
  case atStart => exact ⟨0, Nat.zero_le _, rfl, H0.out, by simpa [othersA] using HO.out⟩
  case round =>
    obtain ⟨k, hk, rfl, hb, how⟩ := hrel
    have HB := Lib.hid hb
    have OW := Lib.hid how
    clear hb how
    by_cases hlt : k < r.length
    · obtain ⟨⟨xn, xt, xi, xs⟩, hx⟩ : ∃ x, r[k]? = some x := ⟨_, List.getElem?_eq_getElem hlt⟩
      obtain ⟨p, ix, px⟩ := row_cells HR.out rfl rfl hx
      obtain ⟨p0, p1, p2, p3⟩ := px _ HB.out
      have TK := Lib.hid (show othersA n (r.take (k + 1)) = othersA n (r.take k) ++ othersA n [(xn, xt, xi, xs)] by
        obtain ⟨h1, h2⟩ := List.getElem?_eq_some_iff.1 hx
        unfold othersA
        rw [List.take_succ_eq_append_getElem h1, h2, List.filter_append])
      have LN := Lib.hid (show (m ++ othersA n (r.take k)).length ≤ 300 by
        have h1 : (othersA n (r.take k)).length ≤ (r.take k).length := List.length_filter_le _ _
        simp only [List.length_append]
        simp only [List.length_take] at h1
        omega)
      have B4 := Lib.hid (HB.out.alloc HB.out.size (.cells #[.string xn, .bool xt, .int .i64 xi, .string xs] 25))
      clear hx px
      simp only at p0 p1 p2 p3
      by_cases he : xn = n
      · have hn : (xn.toList != n.toList) = false := by rw [he]; simp
        have hn2 : (xn.toList == n.toList) = true := by rw [he]; simp
        have E := Lib.hid (show othersA n [(xn, xt, xi, xs)] = [] by unfold othersA; simp [he])
        have O4 := Lib.hid (OW.out.alloc (.cells #[.string xn, .bool xt, .int .i64 xi, .string xs] 25))
        have HE := Lib.hid he
        clear he
        go_wp2
        go_roundw
        case rel => exact ⟨k + 1, by omega, by go_num, B4.out, by rw [TK.out, E.out, List.append_nil]; exact O4.out⟩
        case measure => simp [intOf]; omega
      · have hn : (xn.toList != n.toList) = true := by simp only [bne_iff_ne, ne_eq]; exact fun h => he (name_inj h)
        have hn2 : (xn.toList == n.toList) = false := by rw [beq_eq_false_iff_ne]; exact fun h => he (name_inj h)
        have E := Lib.hid (show othersA n [(xn, xt, xi, xs)] = [(xn, xt, xi, xs)] by unfold othersA; simp [he])
        have HE := Lib.hid he
        clear he
        have O5 := Lib.hid ((OW.out.alloc (.cells #[.string xn, .bool xt, .int .i64 xi, .string xs] 25)).alloc (.cells #[.string xn, .bool xt, .int .i64 xi, .string xs] 25))
        have R5 := Lib.hid (row_one (wr.alloc (.cells #[.string xn, .bool xt, .int .i64 xi, .string xs] 25)) (xn, xt, xi, xs))
        have e1 : (wr.alloc (.cells #[.string xn, .bool xt, .int .i64 xi, .string xs] 25)).heap.size = wr.heap.size + 1 := by simp
        have B5 := Lib.hid (B4.out.alloc B4.out.size (.cells #[.string xn, .bool xt, .int .i64 xi, .string xs] 25))
        rw [e1] at R5
        obtain ⟨q2, w6, r6, o6, g6⟩ := app_row W0.heap.size O5.out R5.out (by have := LN.out; omega) (by simp) B5.out.size 26
        have O6 := Lib.hid o6
        have B6 := Lib.hid (B5.out.grown g6 B5.out.size (fun j hj => (O5.out.lt j hj).1))
        clear o6 g6 e1
        go_wp2_with (first | (at_builtin; refine wpList_append_run rfl _ _ 26 rfl rfl rfl r6 ?_) | fail)
        clear r6
        go_wp2
        go_roundw
        case rel => exact ⟨k + 1, by omega, by go_num, B6.out, by
          rw [TK.out, E.out, ← List.append_assoc, flatA_append]
          simpa [Nat.add_assoc] using O6.out⟩
        case measure => simp [intOf]; omega
    · obtain rfl : k = r.length := by omega
      have E := Lib.hid (List.take_of_length_le (Nat.le_refl r.length))
      rw [E.out] at OW
      go_wp2
      exact HQ.out _ _ _ _ _ _ _ _ _ _ _ _ _ _ _ _  HB.out OW.out

set_option maxRecDepth 100000 in
set_option maxHeartbeats 8000000 in
theorem putOk : PutOk := by
  intro lv l n t k s w hl h5 hrise hn
  have RI := Lib.hid hrise
  have HL0 := Lib.hid hl
  have B1 := Lib.hid (show Below w.heap.size w (w.alloc (.cells #[.bool t, .int .i64 k, .string s] 23)) from (Below.refl _ _).alloc (Nat.le_refl _) _)
  have HL := Lib.hid (hl.on B1.out)
  have BX := Lib.hid (box_new w t k s)
  clear hl hrise
  go_enter Tryd.func10, Tryd.ntmps10
  go_upto_block 0 with (fail)
  generalize w.alloc (.cells #[.bool t, .int .i64 k, .string s] 23) = w1 at *
  refine putB0_any _ _ _ l n HL.out h5 _ _ _ _ _ _ _ _ _ _ _ _ _ _ _ _ _ _ _ _ _ _ _ _ _ _ _ _ _ _ _ _ _ _ _ _ _ _ _ _ _ _ _ _ _ _ _ _ _ _ _ _ _ _ _ _  ?_
  intro u11 u12 u13 u14 u15 u16 u17 u18 u19 u20 u21 u22 u23 u24 u25
  have hc := cntA_le l n
  obtain ⟨w2, mk, o2, g2⟩ := make_rowA w1 w1.heap.size (l.length + 1) (by omega) (Nat.le_refl _)
  have B2 := Lib.hid ((Below.refl w1.heap.size w1).grown g2 (Nat.le_refl _) (fun j hj => by cases hj))
  obtain ⟨slo, rlo, llo⟩ := row_lo HL.out (cntA l n) hc
  obtain ⟨shi, rhi, lhi⟩ := row_hi HL.out (cntA l n) hc
  obtain ⟨v3, w3, r3, o3, g3⟩ := app_row w1.heap.size o2 (llo.on B2.out) (by omega) (by simp; omega) B2.out.size 26
  have B3 := Lib.hid (B2.out.grown g3 B2.out.size (fun j hj => (o2.lt j hj).1))
  have X3 := BX.out.on B3.out
  have c0 := X3.cell 0
  have c1 := X3.cell 1
  have c2 := X3.cell 2
  simp at c0 c1 c2
  have O3 := Lib.hid (o3.alloc (.cells #[.string n, .bool t, .int .i64 k, .string s] 25))
  have B3a := Lib.hid (B3.out.alloc B3.out.size (.cells #[.string n, .bool t, .int .i64 k, .string s] 25))
  obtain ⟨v4, w4, r4, o4, g4⟩ := app_row w1.heap.size O3.out (row_one w3 (n, t, k, s)) (by simp; omega) (by simp) B3a.out.size 26
  have B4 := Lib.hid (B3a.out.grown g4 B3a.out.size (fun j hj => (O3.out.lt j hj).1))
  have O4 := Lib.hid (show w4.ownsRow w1.heap.size 25 4 v4 (l.take (cntA l n) ++ [(n, t, k, s)]).length (flatA (l.take (cntA l n) ++ [(n, t, k, s)])) by rw [flatA_append]; simpa using o4)
  have LHI := Lib.hid lhi
  have PI := Lib.hid (putA_is l n (t, k, s) RI.out)
  obtain ⟨hao, hcp, rfl⟩ := lhi.len
  obtain ⟨lao, lcp, rfl⟩ := HL0.out.len
  rw [show ((l.length + 1 : Nat) : Int) = (l.length : Int) + 1 from rfl] at mk
  clear o2 g2 o3 g3 o4 g4 llo lhi X3
  generalize cntA l n = c at *
  have D1 := Lib.hid (show (l.drop c).length ≤ 100 by rw [List.length_drop]; omega)
  generalize l.drop c = r at *
  go_upto_block 2 with (first | (at_builtin; refine wpList_append_run rfl _ _ 26 rfl rfl rfl r3 ?_) | (at_builtin; refine wpList_append_run rfl _ _ 26 rfl rfl rfl r4 ?_) | fail)
  clear r3 r4 mk rlo rhi c0 c1 c2
  refine putB2_any _ w1 w4 _ v4 (l.take c ++ [(n, t, k, s)]) r n LHI.out B4.out O4.out D1.out (by simp; omega) _ _ _ _ _ _ _ _ _ _ _ _ _ _ _ _ _ _ _ _ _ _ _ _ _ _ _ _ _ _ _ _ _ _ _ _ _ _ _ _ _ _ _ _ _ _ _ _ _ _ _ _ _ _  ?_
  intro w5 pw u10 u45 u46 u47 u48 u49 u50 u51 u52 u53 u54 u55 u56 u57 hb5 ho5
  have B5 := Lib.hid (B1.out.trans (hb5.mono B1.out.size))
  have O5 := Lib.hid ho5
  clear hb5 ho5
  go_wp2
  go_ret
  refine ⟨_, rfl, ?_, B5.out⟩
  rw [PI.out]
  have h9 := RowA.of_owns O5.out
  simpa using h9
end Go.Proofs.YtpmhnmdienlgoaaDoor.At
