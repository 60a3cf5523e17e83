/-
  Bytes of the statements' own package, of a right message. Conditions: right constraints; short texts; few bytes.
  Bytes of the statements' own package: the bytes of a right message. No condition beyond that.
-/
import Derived.Test.YtfcgfnmokbbcaaaDoorU030
import Derived.Test.YtfcgfnmokbbcaaaDoorU026
import Derived.Test.YtfcgfnmokbbcaaaDoorU027
import Derived.Test.YtfcgfnmokbbcaaaDoorU015
namespace Go.Proofs.YtfcgfnmokbbcaaaDoor.Wr
open Go.RowKit Go.Proofs.YtfcgfnmokbbcaaaDoor Go.Proofs.YtfcgfnmokbbcaaaDoor.Rw Go.Proofs.YtfcgfnmokbbcaaaDoor.Nm Go.Proofs.YtfcgfnmokbbcaaaDoor.At Go.Proofs.YtfcgfnmokbbcaaaDoor.Pr

set_option maxRecDepth 100000 in
set_option maxHeartbeats 16000000 in
theorem rby_1 (tc ts ic is : Int) (p : List C5) (l : List A4) (pV lV : Value) (w : World) (h : MgIn w ⟨1, tc, ts, ic, is, p, l⟩ pV lV) (hp : ∀ c ∈ p, oneB c = true) (hl : ∀ c ∈ l, c.1.size ≤ 12 ∧ c.2.2.2.size ≤ 12) (hp5 : p.length ≤ 5) (hl5 : l.length ≤ 5) (hpb : (p.flatMap conB).length ≤ 1000) (hlb : (l.flatMap attB).length ≤ 1000) :
    Calls Tryd.prog 19 #[mv ⟨1, tc, ts, ic, is, p, l⟩ pV lV] w fun e w' => (∃ v, e = .returned v ∧ OwnB w' w.heap.size v (bytesM ⟨1, tc, ts, ic, is, p, l⟩)) ∧ Below w.heap.size w w' := by
  have B1 := Lib.hid (new_below w (.cells (mcells ⟨1, tc, ts, ic, is, p, l⟩ pV lV) 32))
  have X1 := Lib.hid (box_new w (mcells ⟨1, tc, ts, ic, is, p, l⟩ pV lV) 32)
  have HP := Lib.hid h.p
  have HL := Lib.hid h.l
  obtain ⟨po, pc, rfl⟩ := h.p.len
  obtain ⟨lo, lc, rfl⟩ := h.l.len
  have G1 := Lib.hid hp
  have G2 := Lib.hid hl
  have G3 := Lib.hid hpb
  have G4 := Lib.hid hlb
  have G5 := Lib.hid hp5
  have G6 := Lib.hid hl5
  have hwr : IntKind.u8.wrap (p.length : Int) = p.length := IntWalk.u8_in _ (by omega)
  have N1 := Lib.hid (show ((UInt8.ofNat p.length).toNat : Int) = p.length by rw [UInt8.toNat_ofNat']; omega)
  clear h hp hl hpb hlb hp5 hl5
  go_enter Tryd.func19, Tryd.ntmps19
  go_upto_region 1 with fail
  refine by1 w.heap.size w.heap.size 1 tc ts ic is _ _ (UInt8.ofNat 1) _ (w.alloc (.cells (mcells ⟨1, tc, ts, ic, is, p, l⟩ (.slice po p.length pc) (.slice lo l.length lc)) 32)) _ _ _ _ _ _ _ _ _ _ _ _ _ _ _ _ _ _ _ _ _ _ _ _ _ _ _ _ _ _ _ _ _ _ _ _ _ _ _ _ _ _ _ _ _ _ _ _ _ _ _ _ _ _ _ _ _ _ _ _ _ _ _ _ _ _ _ _ _ _ _ _ _ _ _ _ _ _ _ _ _ _ _ _ _ _ _ _ _ _ _ _ _ _ _ _ _ _ _ _ _ _ _ _ _ _ _ _ _ _ _ _ _ _ _ _ B1.out.size X1.out (by decide) ?_
  intro w2 v2 n8 n9 n10 n11 n12 n13 n14 n15 ho hb hx
  have O2 := Lib.hid ho
  have B2 := Lib.hid (B1.out.trans hb)
  have X2 := Lib.hid hx
  clear ho hb hx
  try simp only [Exit.then]
  apply_assumption
  have c0 := X2.out.cell 0
  have c3 := X2.out.cell 3
  have c4 := X2.out.cell 4
  have c5 := X2.out.cell 5
  have c6 := X2.out.cell 6
  simp only [List.getElem?_toArray, List.getElem?_cons_zero, List.getElem?_cons_succ] at c0 c3 c4 c5 c6
  have hlit := own_lit1 w2 (UInt8.ofNat p.length)
  rw [N1.out] at hlit
  have ho5 := Rw.own_on O2.out ((Below.refl _ w2).alloc (Nat.le_refl _) (.cells #[.int .u8 (p.length : Int)] 5))
  have X5 := Lib.hid (X2.out.more (.cells #[.int .u8 (p.length : Int)] 5))
  have B5 := Lib.hid (B2.out.alloc B2.out.size (.cells #[.int .u8 (p.length : Int)] 5))
  obtain ⟨v6, w6, r6, o6, gr6, hb6⟩ := app_nextB (l := ([UInt8.ofNat 1] ++ (numB tc ++ numB ts))) (m := [UInt8.ofNat p.length]) (Nat.le_refl _) B5.out ho5 (Row.of_own hlit) (by simp [numB_len])
  have O6 := Lib.hid o6
  have X6 := Lib.hid (box_grown X5.out gr6 (own_neB ho5 X5.out (by decide)))
  have B6 := Lib.hid hb6
  clear hlit ho5 o6 gr6 hb6
  have d0 := X6.out.cell 0
  have d3 := X6.out.cell 3
  have d4 := X6.out.cell 4
  have d5 := X6.out.cell 5
  have d6 := X6.out.cell 6
  simp only [List.getElem?_toArray, List.getElem?_cons_zero, List.getElem?_cons_succ] at d0 d3 d4 d5 d6
  go_upto_block 0 with (first | (at_builtin; first | refine wpList_append_run rfl _ _ 22 rfl rfl rfl r6 ?_) | fail)
  refine cons_loop _ w w6 w.heap.size ⟨1, tc, ts, ic, is, p, l⟩ _ _ _ ([UInt8.ofNat 1] ++ (numB tc ++ numB ts) ++ [UInt8.ofNat p.length]) p po pc _ _ _ _ _ _ _ _ _ _ _ _ _ _ _ _ _ _ _ _ _ _ _ _ _ _ _ _ _ _ _ _ _ _ _ _ _ _ _ _ _ _ _ _ _ _ _ _ _ _ _ _ _ _ _ _ _ _ _ _ _ _ _ _ _ _ _ _ _ _ _ _ _ _ _ _ _ _ _ _ _ _ _ _ _ _ _ _ _ _ _ _ _ _ _ _ _ _ _ _ _ _ _ _ _ _ _ _ _ _ _ _ B6.out HP.out X6.out O6.out G1.out (by have := G3.out; simp [numB_len] at this ⊢; omega) (by simp [numB_len]) (by have := G5.out; omega) ?_
  intro w7 v7 m5 m42 m43 m44 m45 m46 m47 m48 m49 m50 m51 m52 m53 m54 m55 m56 m57 m58 m59 m60 m61 m62 m63 m64 m65 m66 m67 m68 m69 m70 m71 m72 m73 hb7 ho7 hx7
  have O7 := Lib.hid ho7
  have B7 := Lib.hid hb7
  have e0 := hx7.cell 0
  simp only [List.getElem?_toArray, List.getElem?_cons_zero] at e0
  clear hb7 ho7 hx7 c0 c3 c4 c5 c6 d0 d3 d4 d5 d6
  try simp only [Exit.then]
  apply_assumption
  go_wp2
  go_ret
  refine ⟨⟨_, rfl, ?_⟩, B7.out⟩
  have hh := O7.out
  have ee : bytesM ⟨1, tc, ts, ic, is, p, l⟩ = ([UInt8.ofNat 1] ++ (numB tc ++ numB ts) ++ [UInt8.ofNat p.length] ++ p.flatMap conB) := by simp [bytesM, idB, predsB, attrsB]
  rw [ee]
  exact hh
set_option maxRecDepth 100000 in
set_option maxHeartbeats 16000000 in
theorem rby_2 (tc ts ic is : Int) (p : List C5) (l : List A4) (pV lV : Value) (w : World) (h : MgIn w ⟨2, tc, ts, ic, is, p, l⟩ pV lV) (hp : ∀ c ∈ p, oneB c = true) (hl : ∀ c ∈ l, c.1.size ≤ 12 ∧ c.2.2.2.size ≤ 12) (hp5 : p.length ≤ 5) (hl5 : l.length ≤ 5) (hpb : (p.flatMap conB).length ≤ 1000) (hlb : (l.flatMap attB).length ≤ 1000) :
    Calls Tryd.prog 19 #[mv ⟨2, tc, ts, ic, is, p, l⟩ pV lV] w fun e w' => (∃ v, e = .returned v ∧ OwnB w' w.heap.size v (bytesM ⟨2, tc, ts, ic, is, p, l⟩)) ∧ Below w.heap.size w w' := by
  have B1 := Lib.hid (new_below w (.cells (mcells ⟨2, tc, ts, ic, is, p, l⟩ pV lV) 32))
  have X1 := Lib.hid (box_new w (mcells ⟨2, tc, ts, ic, is, p, l⟩ pV lV) 32)
  have HP := Lib.hid h.p
  have HL := Lib.hid h.l
  obtain ⟨po, pc, rfl⟩ := h.p.len
  obtain ⟨lo, lc, rfl⟩ := h.l.len
  have G1 := Lib.hid hp
  have G2 := Lib.hid hl
  have G3 := Lib.hid hpb
  have G4 := Lib.hid hlb
  have G5 := Lib.hid hp5
  have G6 := Lib.hid hl5
  clear h hp hl hpb hlb hp5 hl5
  go_enter Tryd.func19, Tryd.ntmps19
  go_upto_region 1 with fail
  refine by1 w.heap.size w.heap.size 2 tc ts ic is _ _ (UInt8.ofNat 2) _ (w.alloc (.cells (mcells ⟨2, tc, ts, ic, is, p, l⟩ (.slice po p.length pc) (.slice lo l.length lc)) 32)) _ _ _ _ _ _ _ _ _ _ _ _ _ _ _ _ _ _ _ _ _ _ _ _ _ _ _ _ _ _ _ _ _ _ _ _ _ _ _ _ _ _ _ _ _ _ _ _ _ _ _ _ _ _ _ _ _ _ _ _ _ _ _ _ _ _ _ _ _ _ _ _ _ _ _ _ _ _ _ _ _ _ _ _ _ _ _ _ _ _ _ _ _ _ _ _ _ _ _ _ _ _ _ _ _ _ _ _ _ _ _ _ _ _ _ _ B1.out.size X1.out (by decide) ?_
  intro w2 v2 n8 n9 n10 n11 n12 n13 n14 n15 ho hb hx
  have O2 := Lib.hid ho
  have B2 := Lib.hid (B1.out.trans hb)
  have X2 := Lib.hid hx
  clear ho hb hx
  try simp only [Exit.then]
  apply_assumption
  have c0 := X2.out.cell 0
  have c3 := X2.out.cell 3
  have c4 := X2.out.cell 4
  have c5 := X2.out.cell 5
  have c6 := X2.out.cell 6
  simp only [List.getElem?_toArray, List.getElem?_cons_zero, List.getElem?_cons_succ] at c0 c3 c4 c5 c6
  go_wp2
  go_ret
  refine ⟨⟨_, rfl, ?_⟩, B2.out⟩
  have hh := O2.out
  have ee : bytesM ⟨2, tc, ts, ic, is, p, l⟩ = ([UInt8.ofNat 2] ++ (numB tc ++ numB ts)) := by simp [bytesM, idB, predsB, attrsB]
  rw [ee]
  exact hh
set_option maxRecDepth 100000 in
set_option maxHeartbeats 16000000 in
theorem rby_3 (tc ts ic is : Int) (p : List C5) (l : List A4) (pV lV : Value) (w : World) (h : MgIn w ⟨3, tc, ts, ic, is, p, l⟩ pV lV) (hp : ∀ c ∈ p, oneB c = true) (hl : ∀ c ∈ l, c.1.size ≤ 12 ∧ c.2.2.2.size ≤ 12) (hp5 : p.length ≤ 5) (hl5 : l.length ≤ 5) (hpb : (p.flatMap conB).length ≤ 1000) (hlb : (l.flatMap attB).length ≤ 1000) :
    Calls Tryd.prog 19 #[mv ⟨3, tc, ts, ic, is, p, l⟩ pV lV] w fun e w' => (∃ v, e = .returned v ∧ OwnB w' w.heap.size v (bytesM ⟨3, tc, ts, ic, is, p, l⟩)) ∧ Below w.heap.size w w' := by
  have B1 := Lib.hid (new_below w (.cells (mcells ⟨3, tc, ts, ic, is, p, l⟩ pV lV) 32))
  have X1 := Lib.hid (box_new w (mcells ⟨3, tc, ts, ic, is, p, l⟩ pV lV) 32)
  have HP := Lib.hid h.p
  have HL := Lib.hid h.l
  obtain ⟨po, pc, rfl⟩ := h.p.len
  obtain ⟨lo, lc, rfl⟩ := h.l.len
  have G1 := Lib.hid hp
  have G2 := Lib.hid hl
  have G3 := Lib.hid hpb
  have G4 := Lib.hid hlb
  have G5 := Lib.hid hp5
  have G6 := Lib.hid hl5
  have hwr : IntKind.u8.wrap (p.length : Int) = p.length := IntWalk.u8_in _ (by omega)
  have N1 := Lib.hid (show ((UInt8.ofNat p.length).toNat : Int) = p.length by rw [UInt8.toNat_ofNat']; omega)
  clear h hp hl hpb hlb hp5 hl5
  go_enter Tryd.func19, Tryd.ntmps19
  go_upto_region 1 with fail
  refine by1 w.heap.size w.heap.size 3 tc ts ic is _ _ (UInt8.ofNat 3) _ (w.alloc (.cells (mcells ⟨3, tc, ts, ic, is, p, l⟩ (.slice po p.length pc) (.slice lo l.length lc)) 32)) _ _ _ _ _ _ _ _ _ _ _ _ _ _ _ _ _ _ _ _ _ _ _ _ _ _ _ _ _ _ _ _ _ _ _ _ _ _ _ _ _ _ _ _ _ _ _ _ _ _ _ _ _ _ _ _ _ _ _ _ _ _ _ _ _ _ _ _ _ _ _ _ _ _ _ _ _ _ _ _ _ _ _ _ _ _ _ _ _ _ _ _ _ _ _ _ _ _ _ _ _ _ _ _ _ _ _ _ _ _ _ _ _ _ _ _ B1.out.size X1.out (by decide) ?_
  intro w2 v2 n8 n9 n10 n11 n12 n13 n14 n15 ho hb hx
  have O2 := Lib.hid ho
  have B2 := Lib.hid (B1.out.trans hb)
  have X2 := Lib.hid hx
  clear ho hb hx
  try simp only [Exit.then]
  apply_assumption
  have c0 := X2.out.cell 0
  have c3 := X2.out.cell 3
  have c4 := X2.out.cell 4
  have c5 := X2.out.cell 5
  have c6 := X2.out.cell 6
  simp only [List.getElem?_toArray, List.getElem?_cons_zero, List.getElem?_cons_succ] at c0 c3 c4 c5 c6
  go_wp2_with fail
  refine (ridb_any ic is w2).mono ?_
  rintro e w3 ⟨⟨v3, rfl, ho3⟩, hb3⟩
  have O3 := Lib.hid (Rw.own_on O2.out hb3)
  have X3 := Lib.hid (X2.out.on hb3)
  have B3 := Lib.hid (B2.out.trans (hb3.mono B2.out.size))
  obtain ⟨v4, w4, r4, o4, gr4, hb4⟩ := app_nextB (l := ([UInt8.ofNat 3] ++ (numB tc ++ numB ts))) (m := numB ic ++ numB is) (Nat.le_refl _) B3.out O3.out (Row.of_own ho3) (by simp [numB_len])
  have O4 := Lib.hid o4
  have X4 := Lib.hid (box_grown X3.out gr4 (own_neB O3.out X3.out (by decide)))
  have B4 := Lib.hid hb4
  clear ho3 hb3 o4 gr4 hb4
  clear c0 c3 c4 c5 c6
  have c0 := X4.out.cell 0
  have c3 := X4.out.cell 3
  have c4 := X4.out.cell 4
  have c5 := X4.out.cell 5
  have c6 := X4.out.cell 6
  simp only [List.getElem?_toArray, List.getElem?_cons_zero, List.getElem?_cons_succ] at c0 c3 c4 c5 c6
  have hlit := own_lit1 w4 (UInt8.ofNat p.length)
  rw [N1.out] at hlit
  have ho5 := Rw.own_on O4.out ((Below.refl _ w4).alloc (Nat.le_refl _) (.cells #[.int .u8 (p.length : Int)] 5))
  have X5 := Lib.hid (X4.out.more (.cells #[.int .u8 (p.length : Int)] 5))
  have B5 := Lib.hid (B4.out.alloc B4.out.size (.cells #[.int .u8 (p.length : Int)] 5))
  obtain ⟨v6, w6, r6, o6, gr6, hb6⟩ := app_nextB (l := ([UInt8.ofNat 3] ++ (numB tc ++ numB ts) ++ (numB ic ++ numB is))) (m := [UInt8.ofNat p.length]) (Nat.le_refl _) B5.out ho5 (Row.of_own hlit) (by simp [numB_len])
  have O6 := Lib.hid o6
  have X6 := Lib.hid (box_grown X5.out gr6 (own_neB ho5 X5.out (by decide)))
  have B6 := Lib.hid hb6
  clear hlit ho5 o6 gr6 hb6
  have d0 := X6.out.cell 0
  have d3 := X6.out.cell 3
  have d4 := X6.out.cell 4
  have d5 := X6.out.cell 5
  have d6 := X6.out.cell 6
  simp only [List.getElem?_toArray, List.getElem?_cons_zero, List.getElem?_cons_succ] at d0 d3 d4 d5 d6
  go_upto_block 0 with (first | (at_builtin; first | refine wpList_append_run rfl _ _ 22 rfl rfl rfl r6 ?_ | refine wpList_append_run rfl _ _ 22 rfl rfl rfl r4 ?_) | fail)
  refine cons_loop _ w w6 w.heap.size ⟨3, tc, ts, ic, is, p, l⟩ _ _ _ ([UInt8.ofNat 3] ++ (numB tc ++ numB ts) ++ (numB ic ++ numB is) ++ [UInt8.ofNat p.length]) p po pc _ _ _ _ _ _ _ _ _ _ _ _ _ _ _ _ _ _ _ _ _ _ _ _ _ _ _ _ _ _ _ _ _ _ _ _ _ _ _ _ _ _ _ _ _ _ _ _ _ _ _ _ _ _ _ _ _ _ _ _ _ _ _ _ _ _ _ _ _ _ _ _ _ _ _ _ _ _ _ _ _ _ _ _ _ _ _ _ _ _ _ _ _ _ _ _ _ _ _ _ _ _ _ _ _ _ _ _ _ _ _ _ B6.out HP.out X6.out O6.out G1.out (by have := G3.out; simp [numB_len] at this ⊢; omega) (by simp [numB_len]) (by have := G5.out; omega) ?_
  intro w7 v7 m5 m42 m43 m44 m45 m46 m47 m48 m49 m50 m51 m52 m53 m54 m55 m56 m57 m58 m59 m60 m61 m62 m63 m64 m65 m66 m67 m68 m69 m70 m71 m72 m73 hb7 ho7 hx7
  have O7 := Lib.hid ho7
  have B7 := Lib.hid hb7
  have e0 := hx7.cell 0
  simp only [List.getElem?_toArray, List.getElem?_cons_zero] at e0
  clear hb7 ho7 hx7 c0 c3 c4 c5 c6 d0 d3 d4 d5 d6
  try simp only [Exit.then]
  apply_assumption
  go_wp2
  go_ret
  refine ⟨⟨_, rfl, ?_⟩, B7.out⟩
  have hh := O7.out
  have ee : bytesM ⟨3, tc, ts, ic, is, p, l⟩ = ([UInt8.ofNat 3] ++ (numB tc ++ numB ts) ++ (numB ic ++ numB is) ++ [UInt8.ofNat p.length] ++ p.flatMap conB) := by simp [bytesM, idB, predsB, attrsB]
  rw [ee]
  exact hh
set_option maxRecDepth 100000 in
set_option maxHeartbeats 16000000 in
theorem rby_4 (tc ts ic is : Int) (p : List C5) (l : List A4) (pV lV : Value) (w : World) (h : MgIn w ⟨4, tc, ts, ic, is, p, l⟩ pV lV) (hp : ∀ c ∈ p, oneB c = true) (hl : ∀ c ∈ l, c.1.size ≤ 12 ∧ c.2.2.2.size ≤ 12) (hp5 : p.length ≤ 5) (hl5 : l.length ≤ 5) (hpb : (p.flatMap conB).length ≤ 1000) (hlb : (l.flatMap attB).length ≤ 1000) :
    Calls Tryd.prog 19 #[mv ⟨4, tc, ts, ic, is, p, l⟩ pV lV] w fun e w' => (∃ v, e = .returned v ∧ OwnB w' w.heap.size v (bytesM ⟨4, tc, ts, ic, is, p, l⟩)) ∧ Below w.heap.size w w' := by
  have B1 := Lib.hid (new_below w (.cells (mcells ⟨4, tc, ts, ic, is, p, l⟩ pV lV) 32))
  have X1 := Lib.hid (box_new w (mcells ⟨4, tc, ts, ic, is, p, l⟩ pV lV) 32)
  have HP := Lib.hid h.p
  have HL := Lib.hid h.l
  obtain ⟨po, pc, rfl⟩ := h.p.len
  obtain ⟨lo, lc, rfl⟩ := h.l.len
  have G1 := Lib.hid hp
  have G2 := Lib.hid hl
  have G3 := Lib.hid hpb
  have G4 := Lib.hid hlb
  have G5 := Lib.hid hp5
  have G6 := Lib.hid hl5
  clear h hp hl hpb hlb hp5 hl5
  go_enter Tryd.func19, Tryd.ntmps19
  go_upto_region 1 with fail
  refine by1 w.heap.size w.heap.size 4 tc ts ic is _ _ (UInt8.ofNat 4) _ (w.alloc (.cells (mcells ⟨4, tc, ts, ic, is, p, l⟩ (.slice po p.length pc) (.slice lo l.length lc)) 32)) _ _ _ _ _ _ _ _ _ _ _ _ _ _ _ _ _ _ _ _ _ _ _ _ _ _ _ _ _ _ _ _ _ _ _ _ _ _ _ _ _ _ _ _ _ _ _ _ _ _ _ _ _ _ _ _ _ _ _ _ _ _ _ _ _ _ _ _ _ _ _ _ _ _ _ _ _ _ _ _ _ _ _ _ _ _ _ _ _ _ _ _ _ _ _ _ _ _ _ _ _ _ _ _ _ _ _ _ _ _ _ _ _ _ _ _ B1.out.size X1.out (by decide) ?_
  intro w2 v2 n8 n9 n10 n11 n12 n13 n14 n15 ho hb hx
  have O2 := Lib.hid ho
  have B2 := Lib.hid (B1.out.trans hb)
  have X2 := Lib.hid hx
  clear ho hb hx
  try simp only [Exit.then]
  apply_assumption
  have c0 := X2.out.cell 0
  have c3 := X2.out.cell 3
  have c4 := X2.out.cell 4
  have c5 := X2.out.cell 5
  have c6 := X2.out.cell 6
  simp only [List.getElem?_toArray, List.getElem?_cons_zero, List.getElem?_cons_succ] at c0 c3 c4 c5 c6
  go_wp2_with fail
  refine (ridb_any ic is w2).mono ?_
  rintro e w3 ⟨⟨v3, rfl, ho3⟩, hb3⟩
  have O3 := Lib.hid (Rw.own_on O2.out hb3)
  have X3 := Lib.hid (X2.out.on hb3)
  have B3 := Lib.hid (B2.out.trans (hb3.mono B2.out.size))
  obtain ⟨v4, w4, r4, o4, gr4, hb4⟩ := app_nextB (l := ([UInt8.ofNat 4] ++ (numB tc ++ numB ts))) (m := numB ic ++ numB is) (Nat.le_refl _) B3.out O3.out (Row.of_own ho3) (by simp [numB_len])
  have O4 := Lib.hid o4
  have X4 := Lib.hid (box_grown X3.out gr4 (own_neB O3.out X3.out (by decide)))
  have B4 := Lib.hid hb4
  clear ho3 hb3 o4 gr4 hb4
  clear c0 c3 c4 c5 c6
  have c0 := X4.out.cell 0
  have c3 := X4.out.cell 3
  have c4 := X4.out.cell 4
  have c5 := X4.out.cell 5
  have c6 := X4.out.cell 6
  simp only [List.getElem?_toArray, List.getElem?_cons_zero, List.getElem?_cons_succ] at c0 c3 c4 c5 c6
  go_wp2_with (first | (at_builtin; refine wpList_append_run rfl _ _ 22 rfl rfl rfl r4 ?_) | fail)
  go_ret
  refine ⟨⟨_, rfl, ?_⟩, B4.out⟩
  have hh := O4.out
  have ee : bytesM ⟨4, tc, ts, ic, is, p, l⟩ = ([UInt8.ofNat 4] ++ (numB tc ++ numB ts) ++ (numB ic ++ numB is)) := by simp [bytesM, idB, predsB, attrsB]
  rw [ee]
  exact hh
set_option maxRecDepth 100000 in
set_option maxHeartbeats 16000000 in
theorem rby_5 (tc ts ic is : Int) (p : List C5) (l : List A4) (pV lV : Value) (w : World) (h : MgIn w ⟨5, tc, ts, ic, is, p, l⟩ pV lV) (hp : ∀ c ∈ p, oneB c = true) (hl : ∀ c ∈ l, c.1.size ≤ 12 ∧ c.2.2.2.size ≤ 12) (hp5 : p.length ≤ 5) (hl5 : l.length ≤ 5) (hpb : (p.flatMap conB).length ≤ 1000) (hlb : (l.flatMap attB).length ≤ 1000) :
    Calls Tryd.prog 19 #[mv ⟨5, tc, ts, ic, is, p, l⟩ pV lV] w fun e w' => (∃ v, e = .returned v ∧ OwnB w' w.heap.size v (bytesM ⟨5, tc, ts, ic, is, p, l⟩)) ∧ Below w.heap.size w w' := by
  have B1 := Lib.hid (new_below w (.cells (mcells ⟨5, tc, ts, ic, is, p, l⟩ pV lV) 32))
  have X1 := Lib.hid (box_new w (mcells ⟨5, tc, ts, ic, is, p, l⟩ pV lV) 32)
  have HP := Lib.hid h.p
  have HL := Lib.hid h.l
  obtain ⟨po, pc, rfl⟩ := h.p.len
  obtain ⟨lo, lc, rfl⟩ := h.l.len
  have G1 := Lib.hid hp
  have G2 := Lib.hid hl
  have G3 := Lib.hid hpb
  have G4 := Lib.hid hlb
  have G5 := Lib.hid hp5
  have G6 := Lib.hid hl5
  have hwr : IntKind.u8.wrap (l.length : Int) = l.length := IntWalk.u8_in _ (by omega)
  have N1 := Lib.hid (show ((UInt8.ofNat l.length).toNat : Int) = l.length by rw [UInt8.toNat_ofNat']; omega)
  clear h hp hl hpb hlb hp5 hl5
  go_enter Tryd.func19, Tryd.ntmps19
  go_upto_region 1 with fail
  refine by1 w.heap.size w.heap.size 5 tc ts ic is _ _ (UInt8.ofNat 5) _ (w.alloc (.cells (mcells ⟨5, tc, ts, ic, is, p, l⟩ (.slice po p.length pc) (.slice lo l.length lc)) 32)) _ _ _ _ _ _ _ _ _ _ _ _ _ _ _ _ _ _ _ _ _ _ _ _ _ _ _ _ _ _ _ _ _ _ _ _ _ _ _ _ _ _ _ _ _ _ _ _ _ _ _ _ _ _ _ _ _ _ _ _ _ _ _ _ _ _ _ _ _ _ _ _ _ _ _ _ _ _ _ _ _ _ _ _ _ _ _ _ _ _ _ _ _ _ _ _ _ _ _ _ _ _ _ _ _ _ _ _ _ _ _ _ _ _ _ _ B1.out.size X1.out (by decide) ?_
  intro w2 v2 n8 n9 n10 n11 n12 n13 n14 n15 ho hb hx
  have O2 := Lib.hid ho
  have B2 := Lib.hid (B1.out.trans hb)
  have X2 := Lib.hid hx
  clear ho hb hx
  try simp only [Exit.then]
  apply_assumption
  have c0 := X2.out.cell 0
  have c3 := X2.out.cell 3
  have c4 := X2.out.cell 4
  have c5 := X2.out.cell 5
  have c6 := X2.out.cell 6
  simp only [List.getElem?_toArray, List.getElem?_cons_zero, List.getElem?_cons_succ] at c0 c3 c4 c5 c6
  go_wp2_with fail
  refine (ridb_any ic is w2).mono ?_
  rintro e w3 ⟨⟨v3, rfl, ho3⟩, hb3⟩
  have O3 := Lib.hid (Rw.own_on O2.out hb3)
  have X3 := Lib.hid (X2.out.on hb3)
  have B3 := Lib.hid (B2.out.trans (hb3.mono B2.out.size))
  obtain ⟨v4, w4, r4, o4, gr4, hb4⟩ := app_nextB (l := ([UInt8.ofNat 5] ++ (numB tc ++ numB ts))) (m := numB ic ++ numB is) (Nat.le_refl _) B3.out O3.out (Row.of_own ho3) (by simp [numB_len])
  have O4 := Lib.hid o4
  have X4 := Lib.hid (box_grown X3.out gr4 (own_neB O3.out X3.out (by decide)))
  have B4 := Lib.hid hb4
  clear ho3 hb3 o4 gr4 hb4
  clear c0 c3 c4 c5 c6
  have c0 := X4.out.cell 0
  have c3 := X4.out.cell 3
  have c4 := X4.out.cell 4
  have c5 := X4.out.cell 5
  have c6 := X4.out.cell 6
  simp only [List.getElem?_toArray, List.getElem?_cons_zero, List.getElem?_cons_succ] at c0 c3 c4 c5 c6
  have hlit := own_lit1 w4 (UInt8.ofNat l.length)
  rw [N1.out] at hlit
  have ho5 := Rw.own_on O4.out ((Below.refl _ w4).alloc (Nat.le_refl _) (.cells #[.int .u8 (l.length : Int)] 5))
  have X5 := Lib.hid (X4.out.more (.cells #[.int .u8 (l.length : Int)] 5))
  have B5 := Lib.hid (B4.out.alloc B4.out.size (.cells #[.int .u8 (l.length : Int)] 5))
  obtain ⟨v6, w6, r6, o6, gr6, hb6⟩ := app_nextB (l := ([UInt8.ofNat 5] ++ (numB tc ++ numB ts) ++ (numB ic ++ numB is))) (m := [UInt8.ofNat l.length]) (Nat.le_refl _) B5.out ho5 (Row.of_own hlit) (by simp [numB_len])
  have O6 := Lib.hid o6
  have X6 := Lib.hid (box_grown X5.out gr6 (own_neB ho5 X5.out (by decide)))
  have B6 := Lib.hid hb6
  clear hlit ho5 o6 gr6 hb6
  have d0 := X6.out.cell 0
  have d3 := X6.out.cell 3
  have d4 := X6.out.cell 4
  have d5 := X6.out.cell 5
  have d6 := X6.out.cell 6
  simp only [List.getElem?_toArray, List.getElem?_cons_zero, List.getElem?_cons_succ] at d0 d3 d4 d5 d6
  go_upto_block 2 with (first | (at_builtin; first | refine wpList_append_run rfl _ _ 22 rfl rfl rfl r6 ?_ | refine wpList_append_run rfl _ _ 22 rfl rfl rfl r4 ?_) | fail)
  refine atts_loop _ w w6 w.heap.size ⟨5, tc, ts, ic, is, p, l⟩ _ _ _ ([UInt8.ofNat 5] ++ (numB tc ++ numB ts) ++ (numB ic ++ numB is) ++ [UInt8.ofNat l.length]) l lo lc _ _ _ _ _ _ _ _ _ _ _ _ _ _ _ _ _ _ _ _ _ _ _ _ _ _ _ _ _ _ _ _ _ _ _ _ _ _ _ _ _ _ _ _ _ _ _ _ _ _ _ _ _ _ _ _ _ _ _ _ _ _ _ _ _ _ _ _ _ _ _ _ _ _ _ _ _ _ _ _ _ _ _ _ _ _ _ _ _ _ _ _ _ _ _ _ _ _ _ _ _ _ _ _ _ _ _ _ _ _ _ _ B6.out HL.out X6.out O6.out G2.out (by have := G4.out; simp [numB_len] at this ⊢; omega) (by simp [numB_len]) (by have := G6.out; omega) ?_
  intro w7 v7 m7 m87 m88 m89 m90 m91 m92 m93 m94 m95 m96 m97 m98 m99 m100 m101 m102 m103 m104 m105 m106 m107 m108 m109 m110 m111 m112 m113 m114 m115 hb7 ho7 hx7
  have O7 := Lib.hid ho7
  have B7 := Lib.hid hb7
  have e0 := hx7.cell 0
  simp only [List.getElem?_toArray, List.getElem?_cons_zero] at e0
  clear hb7 ho7 hx7 c0 c3 c4 c5 c6 d0 d3 d4 d5 d6
  try simp only [Exit.then]
  apply_assumption
  go_wp2
  go_ret
  refine ⟨⟨_, rfl, ?_⟩, B7.out⟩
  have hh := O7.out
  have ee : bytesM ⟨5, tc, ts, ic, is, p, l⟩ = ([UInt8.ofNat 5] ++ (numB tc ++ numB ts) ++ (numB ic ++ numB is) ++ [UInt8.ofNat l.length] ++ l.flatMap attB) := by simp [bytesM, idB, predsB, attrsB]
  rw [ee]
  exact hh
end Go.Proofs.YtfcgfnmokbbcaaaDoor.Wr

namespace Go.Proofs.YtfcgfnmokbbcaaaDoor.Wr
open Go.RowKit Go.Proofs.YtfcgfnmokbbcaaaDoor Go.Proofs.YtfcgfnmokbbcaaaDoor.Rw Go.Proofs.YtfcgfnmokbbcaaaDoor.Nm Go.Proofs.YtfcgfnmokbbcaaaDoor.At Go.Proofs.YtfcgfnmokbbcaaaDoor.Pr

theorem att_small {a : A4} (h : nameB a.1 = true ∧ Va.rightV a.2.1 a.2.2.1 a.2.2.2 = true) : a.1.size ≤ 12 ∧ a.2.2.2.size ≤ 12 := by
  refine ⟨(nameB_size h.1).2, ?_⟩
  have h2 := h.2
  unfold Va.rightV at h2
  split at h2
  · rw [Bool.and_eq_true, decide_eq_true_eq, decide_eq_true_eq] at h2
    exact h2.2
  · rw [noText_is, decide_eq_true_eq] at h2
    omega
theorem flat_most {α : Type} (f : α → List UInt8) (K : Nat) : ∀ l : List α, (∀ x ∈ l, (f x).length ≤ K) → (l.flatMap f).length ≤ l.length * K
  | [], _ => by simp
  | x :: l, h => by
    have h1 := flat_most f K l (fun y hy => h y (List.mem_cons_of_mem _ hy))
    have h2 := h x (List.mem_cons_self ..)
    rw [List.flatMap_cons, List.length_append, List.length_cons, Nat.succ_mul]
    omega
theorem con_len {c : C5} (h : oneB c = true) : (conB c).length ≤ 40 := by
  have t := oneB_text h
  unfold conB
  rw [List.length_append, textB_lenW _ (by omega), List.length_cons]
  split
  · rw [List.length_append, numB_len, numB_len]; omega
  · rw [textB_lenW _ (by omega)]; omega
theorem att_len {a : A4} (h : a.1.size ≤ 12 ∧ a.2.2.2.size ≤ 12) : (attB a).length ≤ 40 := by
  unfold attB
  rw [List.length_append, textB_lenW _ (by omega)]
  split
  · rw [List.length_cons, textB_lenW _ (by omega)]; omega
  · rw [List.length_cons, numB_len]; omega
theorem rbytes_any (m : Mg) (pV lV : Value) (w : World) (h : MgIn w m pV lV) (hr : rightM m = true) :
    Calls Tryd.prog 19 #[mv m pV lV] w fun e w' => (∃ v, e = .returned v ∧ OwnB w' w.heap.size v (bytesM m)) ∧ Below w.heap.size w w' := by
  have R := rightM_is hr
  have hp : ∀ c ∈ m.p, oneB c = true := by
    by_cases hk : m.k = 1 ∨ m.k = 3
    · exact rightP_one (R.pred hk)
    · rw [R.nopred hk]
      intro c hc
      cases hc
  have hl : ∀ c ∈ m.l, c.1.size ≤ 12 ∧ c.2.2.2.size ≤ 12 := by
    by_cases hk : m.k = 5
    · exact fun c hc => att_small (rightT_one (R.attrs hk) c hc)
    · rw [R.noattrs hk]
      intro c hc
      cases hc
  have hp5 : m.p.length ≤ 5 := by
    by_cases hk : m.k = 1 ∨ m.k = 3
    · exact rightP_len (R.pred hk)
    · rw [R.nopred hk]
      simp
  have hl5 : m.l.length ≤ 5 := by
    by_cases hk : m.k = 5
    · exact rightT_len (R.attrs hk)
    · rw [R.noattrs hk]
      simp
  have hpb : (m.p.flatMap conB).length ≤ 1000 := by
    have h1 := flat_most conB 40 m.p (fun c hc => con_len (hp c hc))
    omega
  have hlb : (m.l.flatMap attB).length ≤ 1000 := by
    have h1 := flat_most attB 40 m.l (fun c hc => att_len (hl c hc))
    omega
  have K := R.kind
  clear R hr
  obtain ⟨k, tc, ts, ic, is, p, l⟩ := m
  simp only at K hp hl hp5 hl5 hpb hlb
  rcases K with rfl | rfl | rfl | rfl | rfl
  · exact rby_1 tc ts ic is p l pV lV w h hp hl hp5 hl5 hpb hlb
  · exact rby_2 tc ts ic is p l pV lV w h hp hl hp5 hl5 hpb hlb
  · exact rby_3 tc ts ic is p l pV lV w h hp hl hp5 hl5 hpb hlb
  · exact rby_4 tc ts ic is p l pV lV w h hp hl hp5 hl5 hpb hlb
  · exact rby_5 tc ts ic is p l pV lV w h hp hl hp5 hl5 hpb hlb
end Go.Proofs.YtfcgfnmokbbcaaaDoor.Wr
