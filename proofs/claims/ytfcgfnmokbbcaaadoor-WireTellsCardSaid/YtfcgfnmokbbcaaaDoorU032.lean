/-
  Encode of package wire: a right message's bytes; of any other a fault. Condition: lists and texts below a machine's length.
  Equal of package bytes; what is read is small; a variable set as a whole. No condition beyond what each theorem states.
  Decode of package wire: the right message whose bytes stand there; of any other bytes a fault. No condition.
-/
import Derived.Test.YtfcgfnmokbbcaaaDoorU023
import Derived.Test.YtfcgfnmokbbcaaaDoorU028
import Derived.Test.YtfcgfnmokbbcaaaDoorU030
import Derived.Test.YtfcgfnmokbbcaaaDoorU031
import Derived.Test.YtfcgfnmokbbcaaaDoorU021
namespace Go.Proofs.YtfcgfnmokbbcaaaDoor.Ws
open Go.RowKit Go.Sort Go.Proofs.YtfcgfnmokbbcaaaDoor Go.Proofs.YtfcgfnmokbbcaaaDoor.Rw Go.Proofs.YtfcgfnmokbbcaaaDoor.Nm Go.Proofs.YtfcgfnmokbbcaaaDoor.At Go.Proofs.YtfcgfnmokbbcaaaDoor.Pr Go.Proofs.YtfcgfnmokbbcaaaDoor.Wr Go.Proofs.YtfcgfnmokbbcaaaDoor.Va

abbrev wireTxt : ByteArray := ⟨#[119, 105, 114, 101]⟩
/-- A fault of package wire alone. -/
structure WFault (w : World) (v : Value) (r : Int) : Prop where
  ch : ∃ b, Fa.Ch w [(b, wireTxt, r)] v (.iface 34 (.int .i64 1))
theorem WFault.on {w w' : World} {v : Value} {r : Int} (h : WFault w v r) (hb : Below w.heap.size w w') : WFault w' v r := ⟨by obtain ⟨b, hc⟩ := h.ch; exact ⟨b, hc.bel hb⟩⟩
theorem wfault_new (w : World) (r : Int) : WFault (w.alloc (.cells #[.string wireTxt, .int .i64 r, .iface 34 (.int .i64 1)] 84)) (.iface 82 (.pointer (some ⟨w.heap.size, 0, none⟩))) r :=
  ⟨⟨w.heap.size, Fa.Ch.new (show Fa.Ch w [] (.iface 34 (.int .i64 1)) (.iface 34 (.int .i64 1)) from rfl) wireTxt r⟩⟩
set_option maxRecDepth 100000 in
set_option maxHeartbeats 8000000 in
theorem enc_no (m : Mg) (pV lV : Value) (w : World) (h : MgIn w m pV lV) (hs : Small m) (hl : m.l.length ≤ 1000) (hr : rightM m = false) :
    Calls Tryd.prog 8 #[mv m pV lV] w fun e w' => (∃ v, e = .returned (.tuple #[.slice none 0 0, v]) ∧ WFault w' v 0) ∧ Below w.heap.size w w' := by
  have B1 := Lib.hid (new_below w (.cells (mcells m pV lV) 32))
  have C := Lib.hid (wright_any m pV lV (w.alloc (.cells (mcells m pV lV) 32)) (h.on B1.out) hs hl)
  rw [hr] at C
  clear h hs hl hr
  obtain ⟨k, tc, ts, ic, is, p, l⟩ := m
  go_enter Tryd.func8, Tryd.ntmps8
  go_wp2_with fail
  refine C.out.mono ?_
  rintro e w1 ⟨rfl, hb⟩
  have B2 := Lib.hid (B1.out.trans (hb.mono B1.out.size))
  have N := Lib.hid (Fa.New_some wireTxt 0 34 (.int .i64 1) w1)
  clear hb C B1
  go_wp2_with fail
  refine N.out.mono ?_
  rintro e2 w2 ⟨rfl, rfl⟩
  have F := Lib.hid (wfault_new w1 0)
  have B3 := Lib.hid (B2.out.alloc B2.out.size (.cells #[.string wireTxt, .int .i64 0, .iface 34 (.int .i64 1)] 84))
  generalize w1.alloc (.cells #[.string wireTxt, .int .i64 0, .iface 34 (.int .i64 1)] 84) = w3 at *
  go_wp2
  go_ret2
  exact ⟨⟨_, rfl, F.out⟩, B3.out⟩
set_option maxRecDepth 100000 in
set_option maxHeartbeats 16000000 in
theorem enc_1 (tc ts ic is : Int) (p : List C5) (l : List A4) (pV lV : Value) (w : World) (h : MgIn w ⟨1, tc, ts, ic, is, p, l⟩ pV lV) (hs : Small ⟨1, tc, ts, ic, is, p, l⟩) (hr : rightM ⟨1, tc, ts, ic, is, p, l⟩ = true) (hp : ∀ c ∈ p, oneB c = true) (hl : ∀ c ∈ l, c.1.size ≤ 12 ∧ c.2.2.2.size ≤ 12) (hp5 : p.length ≤ 5) (hl5 : l.length ≤ 5) (hpb : (p.flatMap conB).length ≤ 200) (hlb : (l.flatMap attB).length ≤ 200) :
    Calls Tryd.prog 8 #[mv ⟨1, tc, ts, ic, is, p, l⟩ pV lV] w fun e w' => (∃ v, e = .returned (.tuple #[v, .nilIface]) ∧ OwnB w' w.heap.size v (bytesM ⟨1, tc, ts, ic, is, p, l⟩)) ∧ Below w.heap.size w w' := by
  have B1 := Lib.hid (new_below w (.cells (mcells ⟨1, tc, ts, ic, is, p, l⟩ pV lV) 32))
  have X1 := Lib.hid (box_new w (mcells ⟨1, tc, ts, ic, is, p, l⟩ pV lV) 32)
  have HP := Lib.hid h.p
  have HL := Lib.hid h.l
  have C := Lib.hid (wright_any ⟨1, tc, ts, ic, is, p, l⟩ pV lV (w.alloc (.cells (mcells ⟨1, tc, ts, ic, is, p, l⟩ pV lV) 32)) (h.on B1.out) hs (by show l.length ≤ 1000; omega))
  rw [hr] at C
  obtain ⟨po, pc, rfl⟩ := h.p.len
  obtain ⟨lo, lc, rfl⟩ := h.l.len
  have G1 := Lib.hid hp
  have G2 := Lib.hid hl
  have G3 := Lib.hid hpb
  have G4 := Lib.hid hlb
  have G5 := Lib.hid hp5
  have G6 := Lib.hid hl5
  clear h hp hl hpb hlb hp5 hl5 hr hs
  go_enter Tryd.func8, Tryd.ntmps8
  go_wp2_with fail
  refine C.out.mono ?_
  rintro e w1 ⟨rfl, hb⟩
  have X1' := Lib.hid (X1.out.on hb)
  have B1' := Lib.hid (B1.out.trans (hb.mono B1.out.size))
  clear hb C B1 X1
  go_upto_region 3 with fail
  refine en3 w.heap.size w.heap.size 1 tc ts ic is _ _ (UInt8.ofNat 1) _ w1 _ _ _ _ _ _ _ _ _ _ _ _ _ _ _ _ _ _ _ _ _ _ _ _ _ _ _ _ _ _ _ _ _ _ _ _ _ _ _ _ _ _ _ _ _ _ _ _ _ _ _ _ _ B1'.out.size X1'.out (by decide) ?_
  intro w2 v2 n10 n11 n12 n13 n14 n15 n16 n17 ho hb hx
  have O2 := Lib.hid ho
  have B2 := Lib.hid (B1'.out.trans hb)
  have X2 := Lib.hid hx
  clear ho hb hx X1' B1'
  try simp only [Exit.then]
  apply_assumption
  have T4 := Lib.hid (putpred_any _ p w2 (HP.out.on B2.out) G1.out G5.out)
  have c0 := X2.out.cell 0
  have c3 := X2.out.cell 3
  have c4 := X2.out.cell 4
  have c5 := X2.out.cell 5
  have c6 := X2.out.cell 6
  simp only [List.getElem?_toArray, List.getElem?_cons_zero, List.getElem?_cons_succ] at c0 c3 c4 c5 c6
  go_wp2_with fail
  refine T4.out.mono ?_
  rintro e w4a ⟨⟨va4, rfl, hoa⟩, hba⟩
  have Oa4 := Lib.hid (Rw.own_on O2.out hba)
  have Xa4 := Lib.hid (X2.out.on hba)
  have Ba4 := Lib.hid (B2.out.trans (hba.mono B2.out.size))
  obtain ⟨vb4, wb4, rb4, ob, grb, hbb⟩ := app_nextB (l := ([UInt8.ofNat 1] ++ (numB tc ++ numB ts))) (m := (UInt8.ofNat p.length :: p.flatMap conB)) (Nat.le_refl _) Ba4.out Oa4.out (Row.of_own hoa) (by have := G3.out; simp [numB_len] at this ⊢; omega)
  have Ob4 := Lib.hid ob
  have Xb4 := Lib.hid (box_grown Xa4.out grb (own_neB Oa4.out Xa4.out (by decide)))
  have Bb4 := Lib.hid hbb
  clear hoa hba ob grb hbb c0 c3 c4 c5 c6 T4 
  go_wp2_with (first | (at_builtin; first | refine wpList_append_run rfl _ _ 22 rfl rfl rfl rb4 ?_) | fail)
  go_ret2
  refine ⟨⟨_, rfl, ?_⟩, Bb4.out⟩
  have hh := Ob4.out
  have ee : bytesM ⟨1, tc, ts, ic, is, p, l⟩ = ([UInt8.ofNat 1] ++ (numB tc ++ numB ts) ++ (UInt8.ofNat p.length :: p.flatMap conB)) := by simp [bytesM, idB, predsB, attrsB]
  rw [ee]
  exact hh
set_option maxRecDepth 100000 in
set_option maxHeartbeats 16000000 in
theorem enc_2 (tc ts ic is : Int) (p : List C5) (l : List A4) (pV lV : Value) (w : World) (h : MgIn w ⟨2, tc, ts, ic, is, p, l⟩ pV lV) (hs : Small ⟨2, tc, ts, ic, is, p, l⟩) (hr : rightM ⟨2, tc, ts, ic, is, p, l⟩ = true) (hp : ∀ c ∈ p, oneB c = true) (hl : ∀ c ∈ l, c.1.size ≤ 12 ∧ c.2.2.2.size ≤ 12) (hp5 : p.length ≤ 5) (hl5 : l.length ≤ 5) (hpb : (p.flatMap conB).length ≤ 200) (hlb : (l.flatMap attB).length ≤ 200) :
    Calls Tryd.prog 8 #[mv ⟨2, tc, ts, ic, is, p, l⟩ pV lV] w fun e w' => (∃ v, e = .returned (.tuple #[v, .nilIface]) ∧ OwnB w' w.heap.size v (bytesM ⟨2, tc, ts, ic, is, p, l⟩)) ∧ Below w.heap.size w w' := by
  have B1 := Lib.hid (new_below w (.cells (mcells ⟨2, tc, ts, ic, is, p, l⟩ pV lV) 32))
  have X1 := Lib.hid (box_new w (mcells ⟨2, tc, ts, ic, is, p, l⟩ pV lV) 32)
  have HP := Lib.hid h.p
  have HL := Lib.hid h.l
  have C := Lib.hid (wright_any ⟨2, tc, ts, ic, is, p, l⟩ pV lV (w.alloc (.cells (mcells ⟨2, tc, ts, ic, is, p, l⟩ pV lV) 32)) (h.on B1.out) hs (by show l.length ≤ 1000; omega))
  rw [hr] at C
  obtain ⟨po, pc, rfl⟩ := h.p.len
  obtain ⟨lo, lc, rfl⟩ := h.l.len
  have G1 := Lib.hid hp
  have G2 := Lib.hid hl
  have G3 := Lib.hid hpb
  have G4 := Lib.hid hlb
  have G5 := Lib.hid hp5
  have G6 := Lib.hid hl5
  clear h hp hl hpb hlb hp5 hl5 hr hs
  go_enter Tryd.func8, Tryd.ntmps8
  go_wp2_with fail
  refine C.out.mono ?_
  rintro e w1 ⟨rfl, hb⟩
  have X1' := Lib.hid (X1.out.on hb)
  have B1' := Lib.hid (B1.out.trans (hb.mono B1.out.size))
  clear hb C B1 X1
  go_upto_region 3 with fail
  refine en3 w.heap.size w.heap.size 2 tc ts ic is _ _ (UInt8.ofNat 2) _ w1 _ _ _ _ _ _ _ _ _ _ _ _ _ _ _ _ _ _ _ _ _ _ _ _ _ _ _ _ _ _ _ _ _ _ _ _ _ _ _ _ _ _ _ _ _ _ _ _ _ _ _ _ _ B1'.out.size X1'.out (by decide) ?_
  intro w2 v2 n10 n11 n12 n13 n14 n15 n16 n17 ho hb hx
  have O2 := Lib.hid ho
  have B2 := Lib.hid (B1'.out.trans hb)
  have X2 := Lib.hid hx
  clear ho hb hx X1' B1'
  try simp only [Exit.then]
  apply_assumption
  have c0 := X2.out.cell 0
  have c3 := X2.out.cell 3
  have c4 := X2.out.cell 4
  have c5 := X2.out.cell 5
  have c6 := X2.out.cell 6
  simp only [List.getElem?_toArray, List.getElem?_cons_zero, List.getElem?_cons_succ] at c0 c3 c4 c5 c6
  go_wp2_with fail
  go_ret2
  refine ⟨⟨_, rfl, ?_⟩, B2.out⟩
  have hh := O2.out
  have ee : bytesM ⟨2, tc, ts, ic, is, p, l⟩ = ([UInt8.ofNat 2] ++ (numB tc ++ numB ts)) := by simp [bytesM, idB, predsB, attrsB]
  rw [ee]
  exact hh
set_option maxRecDepth 100000 in
set_option maxHeartbeats 16000000 in
theorem enc_3 (tc ts ic is : Int) (p : List C5) (l : List A4) (pV lV : Value) (w : World) (h : MgIn w ⟨3, tc, ts, ic, is, p, l⟩ pV lV) (hs : Small ⟨3, tc, ts, ic, is, p, l⟩) (hr : rightM ⟨3, tc, ts, ic, is, p, l⟩ = true) (hp : ∀ c ∈ p, oneB c = true) (hl : ∀ c ∈ l, c.1.size ≤ 12 ∧ c.2.2.2.size ≤ 12) (hp5 : p.length ≤ 5) (hl5 : l.length ≤ 5) (hpb : (p.flatMap conB).length ≤ 200) (hlb : (l.flatMap attB).length ≤ 200) :
    Calls Tryd.prog 8 #[mv ⟨3, tc, ts, ic, is, p, l⟩ pV lV] w fun e w' => (∃ v, e = .returned (.tuple #[v, .nilIface]) ∧ OwnB w' w.heap.size v (bytesM ⟨3, tc, ts, ic, is, p, l⟩)) ∧ Below w.heap.size w w' := by
  have B1 := Lib.hid (new_below w (.cells (mcells ⟨3, tc, ts, ic, is, p, l⟩ pV lV) 32))
  have X1 := Lib.hid (box_new w (mcells ⟨3, tc, ts, ic, is, p, l⟩ pV lV) 32)
  have HP := Lib.hid h.p
  have HL := Lib.hid h.l
  have C := Lib.hid (wright_any ⟨3, tc, ts, ic, is, p, l⟩ pV lV (w.alloc (.cells (mcells ⟨3, tc, ts, ic, is, p, l⟩ pV lV) 32)) (h.on B1.out) hs (by show l.length ≤ 1000; omega))
  rw [hr] at C
  obtain ⟨po, pc, rfl⟩ := h.p.len
  obtain ⟨lo, lc, rfl⟩ := h.l.len
  have G1 := Lib.hid hp
  have G2 := Lib.hid hl
  have G3 := Lib.hid hpb
  have G4 := Lib.hid hlb
  have G5 := Lib.hid hp5
  have G6 := Lib.hid hl5
  clear h hp hl hpb hlb hp5 hl5 hr hs
  go_enter Tryd.func8, Tryd.ntmps8
  go_wp2_with fail
  refine C.out.mono ?_
  rintro e w1 ⟨rfl, hb⟩
  have X1' := Lib.hid (X1.out.on hb)
  have B1' := Lib.hid (B1.out.trans (hb.mono B1.out.size))
  clear hb C B1 X1
  go_upto_region 3 with fail
  refine en3 w.heap.size w.heap.size 3 tc ts ic is _ _ (UInt8.ofNat 3) _ w1 _ _ _ _ _ _ _ _ _ _ _ _ _ _ _ _ _ _ _ _ _ _ _ _ _ _ _ _ _ _ _ _ _ _ _ _ _ _ _ _ _ _ _ _ _ _ _ _ _ _ _ _ _ B1'.out.size X1'.out (by decide) ?_
  intro w2 v2 n10 n11 n12 n13 n14 n15 n16 n17 ho hb hx
  have O2 := Lib.hid ho
  have B2 := Lib.hid (B1'.out.trans hb)
  have X2 := Lib.hid hx
  clear ho hb hx X1' B1'
  try simp only [Exit.then]
  apply_assumption
  have T3 := Lib.hid (id_any ic is w2)
  have c0 := X2.out.cell 0
  have c3 := X2.out.cell 3
  have c4 := X2.out.cell 4
  have c5 := X2.out.cell 5
  have c6 := X2.out.cell 6
  simp only [List.getElem?_toArray, List.getElem?_cons_zero, List.getElem?_cons_succ] at c0 c3 c4 c5 c6
  go_wp2_with fail
  refine T3.out.mono ?_
  rintro e w3a ⟨⟨va3, rfl, hoa⟩, hba⟩
  have Oa3 := Lib.hid (Rw.own_on O2.out hba)
  have Xa3 := Lib.hid (X2.out.on hba)
  have Ba3 := Lib.hid (B2.out.trans (hba.mono B2.out.size))
  obtain ⟨vb3, wb3, rb3, ob, grb, hbb⟩ := app_nextB (l := ([UInt8.ofNat 3] ++ (numB tc ++ numB ts))) (m := (numB ic ++ numB is)) (Nat.le_refl _) Ba3.out Oa3.out (Row.of_own hoa) (by simp [numB_len])
  have Ob3 := Lib.hid ob
  have Xb3 := Lib.hid (box_grown Xa3.out grb (own_neB Oa3.out Xa3.out (by decide)))
  have Bb3 := Lib.hid hbb
  clear hoa hba ob grb hbb c0 c3 c4 c5 c6 T3 
  have T4 := Lib.hid (putpred_any _ p wb3 (HP.out.on Bb3.out) G1.out G5.out)
  have c0 := Xb3.out.cell 0
  have c3 := Xb3.out.cell 3
  have c4 := Xb3.out.cell 4
  have c5 := Xb3.out.cell 5
  have c6 := Xb3.out.cell 6
  simp only [List.getElem?_toArray, List.getElem?_cons_zero, List.getElem?_cons_succ] at c0 c3 c4 c5 c6
  go_wp2_with (first | (at_builtin; first | refine wpList_append_run rfl _ _ 22 rfl rfl rfl rb3 ?_) | fail)
  refine T4.out.mono ?_
  rintro e w4a ⟨⟨va4, rfl, hoa⟩, hba⟩
  have Oa4 := Lib.hid (Rw.own_on Ob3.out hba)
  have Xa4 := Lib.hid (Xb3.out.on hba)
  have Ba4 := Lib.hid (Bb3.out.trans (hba.mono Bb3.out.size))
  obtain ⟨vb4, wb4, rb4, ob, grb, hbb⟩ := app_nextB (l := ([UInt8.ofNat 3] ++ (numB tc ++ numB ts) ++ (numB ic ++ numB is))) (m := (UInt8.ofNat p.length :: p.flatMap conB)) (Nat.le_refl _) Ba4.out Oa4.out (Row.of_own hoa) (by have := G3.out; simp [numB_len] at this ⊢; omega)
  have Ob4 := Lib.hid ob
  have Xb4 := Lib.hid (box_grown Xa4.out grb (own_neB Oa4.out Xa4.out (by decide)))
  have Bb4 := Lib.hid hbb
  clear hoa hba ob grb hbb c0 c3 c4 c5 c6 T4 rb3
  go_wp2_with (first | (at_builtin; first | refine wpList_append_run rfl _ _ 22 rfl rfl rfl rb4 ?_) | fail)
  go_ret2
  refine ⟨⟨_, rfl, ?_⟩, Bb4.out⟩
  have hh := Ob4.out
  have ee : bytesM ⟨3, tc, ts, ic, is, p, l⟩ = ([UInt8.ofNat 3] ++ (numB tc ++ numB ts) ++ (numB ic ++ numB is) ++ (UInt8.ofNat p.length :: p.flatMap conB)) := by simp [bytesM, idB, predsB, attrsB]
  rw [ee]
  exact hh
set_option maxRecDepth 100000 in
set_option maxHeartbeats 16000000 in
theorem enc_4 (tc ts ic is : Int) (p : List C5) (l : List A4) (pV lV : Value) (w : World) (h : MgIn w ⟨4, tc, ts, ic, is, p, l⟩ pV lV) (hs : Small ⟨4, tc, ts, ic, is, p, l⟩) (hr : rightM ⟨4, tc, ts, ic, is, p, l⟩ = true) (hp : ∀ c ∈ p, oneB c = true) (hl : ∀ c ∈ l, c.1.size ≤ 12 ∧ c.2.2.2.size ≤ 12) (hp5 : p.length ≤ 5) (hl5 : l.length ≤ 5) (hpb : (p.flatMap conB).length ≤ 200) (hlb : (l.flatMap attB).length ≤ 200) :
    Calls Tryd.prog 8 #[mv ⟨4, tc, ts, ic, is, p, l⟩ pV lV] w fun e w' => (∃ v, e = .returned (.tuple #[v, .nilIface]) ∧ OwnB w' w.heap.size v (bytesM ⟨4, tc, ts, ic, is, p, l⟩)) ∧ Below w.heap.size w w' := by
  have B1 := Lib.hid (new_below w (.cells (mcells ⟨4, tc, ts, ic, is, p, l⟩ pV lV) 32))
  have X1 := Lib.hid (box_new w (mcells ⟨4, tc, ts, ic, is, p, l⟩ pV lV) 32)
  have HP := Lib.hid h.p
  have HL := Lib.hid h.l
  have C := Lib.hid (wright_any ⟨4, tc, ts, ic, is, p, l⟩ pV lV (w.alloc (.cells (mcells ⟨4, tc, ts, ic, is, p, l⟩ pV lV) 32)) (h.on B1.out) hs (by show l.length ≤ 1000; omega))
  rw [hr] at C
  obtain ⟨po, pc, rfl⟩ := h.p.len
  obtain ⟨lo, lc, rfl⟩ := h.l.len
  have G1 := Lib.hid hp
  have G2 := Lib.hid hl
  have G3 := Lib.hid hpb
  have G4 := Lib.hid hlb
  have G5 := Lib.hid hp5
  have G6 := Lib.hid hl5
  clear h hp hl hpb hlb hp5 hl5 hr hs
  go_enter Tryd.func8, Tryd.ntmps8
  go_wp2_with fail
  refine C.out.mono ?_
  rintro e w1 ⟨rfl, hb⟩
  have X1' := Lib.hid (X1.out.on hb)
  have B1' := Lib.hid (B1.out.trans (hb.mono B1.out.size))
  clear hb C B1 X1
  go_upto_region 3 with fail
  refine en3 w.heap.size w.heap.size 4 tc ts ic is _ _ (UInt8.ofNat 4) _ w1 _ _ _ _ _ _ _ _ _ _ _ _ _ _ _ _ _ _ _ _ _ _ _ _ _ _ _ _ _ _ _ _ _ _ _ _ _ _ _ _ _ _ _ _ _ _ _ _ _ _ _ _ _ B1'.out.size X1'.out (by decide) ?_
  intro w2 v2 n10 n11 n12 n13 n14 n15 n16 n17 ho hb hx
  have O2 := Lib.hid ho
  have B2 := Lib.hid (B1'.out.trans hb)
  have X2 := Lib.hid hx
  clear ho hb hx X1' B1'
  try simp only [Exit.then]
  apply_assumption
  have T3 := Lib.hid (id_any ic is w2)
  have c0 := X2.out.cell 0
  have c3 := X2.out.cell 3
  have c4 := X2.out.cell 4
  have c5 := X2.out.cell 5
  have c6 := X2.out.cell 6
  simp only [List.getElem?_toArray, List.getElem?_cons_zero, List.getElem?_cons_succ] at c0 c3 c4 c5 c6
  go_wp2_with fail
  refine T3.out.mono ?_
  rintro e w3a ⟨⟨va3, rfl, hoa⟩, hba⟩
  have Oa3 := Lib.hid (Rw.own_on O2.out hba)
  have Xa3 := Lib.hid (X2.out.on hba)
  have Ba3 := Lib.hid (B2.out.trans (hba.mono B2.out.size))
  obtain ⟨vb3, wb3, rb3, ob, grb, hbb⟩ := app_nextB (l := ([UInt8.ofNat 4] ++ (numB tc ++ numB ts))) (m := (numB ic ++ numB is)) (Nat.le_refl _) Ba3.out Oa3.out (Row.of_own hoa) (by simp [numB_len])
  have Ob3 := Lib.hid ob
  have Xb3 := Lib.hid (box_grown Xa3.out grb (own_neB Oa3.out Xa3.out (by decide)))
  have Bb3 := Lib.hid hbb
  clear hoa hba ob grb hbb c0 c3 c4 c5 c6 T3 
  go_wp2_with (first | (at_builtin; first | refine wpList_append_run rfl _ _ 22 rfl rfl rfl rb3 ?_) | fail)
  go_ret2
  refine ⟨⟨_, rfl, ?_⟩, Bb3.out⟩
  have hh := Ob3.out
  have ee : bytesM ⟨4, tc, ts, ic, is, p, l⟩ = ([UInt8.ofNat 4] ++ (numB tc ++ numB ts) ++ (numB ic ++ numB is)) := by simp [bytesM, idB, predsB, attrsB]
  rw [ee]
  exact hh
set_option maxRecDepth 100000 in
set_option maxHeartbeats 16000000 in
theorem enc_5 (tc ts ic is : Int) (p : List C5) (l : List A4) (pV lV : Value) (w : World) (h : MgIn w ⟨5, tc, ts, ic, is, p, l⟩ pV lV) (hs : Small ⟨5, tc, ts, ic, is, p, l⟩) (hr : rightM ⟨5, tc, ts, ic, is, p, l⟩ = true) (hp : ∀ c ∈ p, oneB c = true) (hl : ∀ c ∈ l, c.1.size ≤ 12 ∧ c.2.2.2.size ≤ 12) (hp5 : p.length ≤ 5) (hl5 : l.length ≤ 5) (hpb : (p.flatMap conB).length ≤ 200) (hlb : (l.flatMap attB).length ≤ 200) :
    Calls Tryd.prog 8 #[mv ⟨5, tc, ts, ic, is, p, l⟩ pV lV] w fun e w' => (∃ v, e = .returned (.tuple #[v, .nilIface]) ∧ OwnB w' w.heap.size v (bytesM ⟨5, tc, ts, ic, is, p, l⟩)) ∧ Below w.heap.size w w' := by
  have B1 := Lib.hid (new_below w (.cells (mcells ⟨5, tc, ts, ic, is, p, l⟩ pV lV) 32))
  have X1 := Lib.hid (box_new w (mcells ⟨5, tc, ts, ic, is, p, l⟩ pV lV) 32)
  have HP := Lib.hid h.p
  have HL := Lib.hid h.l
  have C := Lib.hid (wright_any ⟨5, tc, ts, ic, is, p, l⟩ pV lV (w.alloc (.cells (mcells ⟨5, tc, ts, ic, is, p, l⟩ pV lV) 32)) (h.on B1.out) hs (by show l.length ≤ 1000; omega))
  rw [hr] at C
  obtain ⟨po, pc, rfl⟩ := h.p.len
  obtain ⟨lo, lc, rfl⟩ := h.l.len
  have G1 := Lib.hid hp
  have G2 := Lib.hid hl
  have G3 := Lib.hid hpb
  have G4 := Lib.hid hlb
  have G5 := Lib.hid hp5
  have G6 := Lib.hid hl5
  clear h hp hl hpb hlb hp5 hl5 hr hs
  go_enter Tryd.func8, Tryd.ntmps8
  go_wp2_with fail
  refine C.out.mono ?_
  rintro e w1 ⟨rfl, hb⟩
  have X1' := Lib.hid (X1.out.on hb)
  have B1' := Lib.hid (B1.out.trans (hb.mono B1.out.size))
  clear hb C B1 X1
  go_upto_region 3 with fail
  refine en3 w.heap.size w.heap.size 5 tc ts ic is _ _ (UInt8.ofNat 5) _ w1 _ _ _ _ _ _ _ _ _ _ _ _ _ _ _ _ _ _ _ _ _ _ _ _ _ _ _ _ _ _ _ _ _ _ _ _ _ _ _ _ _ _ _ _ _ _ _ _ _ _ _ _ _ B1'.out.size X1'.out (by decide) ?_
  intro w2 v2 n10 n11 n12 n13 n14 n15 n16 n17 ho hb hx
  have O2 := Lib.hid ho
  have B2 := Lib.hid (B1'.out.trans hb)
  have X2 := Lib.hid hx
  clear ho hb hx X1' B1'
  try simp only [Exit.then]
  apply_assumption
  have T3 := Lib.hid (id_any ic is w2)
  have c0 := X2.out.cell 0
  have c3 := X2.out.cell 3
  have c4 := X2.out.cell 4
  have c5 := X2.out.cell 5
  have c6 := X2.out.cell 6
  simp only [List.getElem?_toArray, List.getElem?_cons_zero, List.getElem?_cons_succ] at c0 c3 c4 c5 c6
  go_wp2_with fail
  refine T3.out.mono ?_
  rintro e w3a ⟨⟨va3, rfl, hoa⟩, hba⟩
  have Oa3 := Lib.hid (Rw.own_on O2.out hba)
  have Xa3 := Lib.hid (X2.out.on hba)
  have Ba3 := Lib.hid (B2.out.trans (hba.mono B2.out.size))
  obtain ⟨vb3, wb3, rb3, ob, grb, hbb⟩ := app_nextB (l := ([UInt8.ofNat 5] ++ (numB tc ++ numB ts))) (m := (numB ic ++ numB is)) (Nat.le_refl _) Ba3.out Oa3.out (Row.of_own hoa) (by simp [numB_len])
  have Ob3 := Lib.hid ob
  have Xb3 := Lib.hid (box_grown Xa3.out grb (own_neB Oa3.out Xa3.out (by decide)))
  have Bb3 := Lib.hid hbb
  clear hoa hba ob grb hbb c0 c3 c4 c5 c6 T3 
  have T5 := Lib.hid (putattrs_any _ l wb3 (HL.out.on Bb3.out) G2.out G6.out)
  have c0 := Xb3.out.cell 0
  have c3 := Xb3.out.cell 3
  have c4 := Xb3.out.cell 4
  have c5 := Xb3.out.cell 5
  have c6 := Xb3.out.cell 6
  simp only [List.getElem?_toArray, List.getElem?_cons_zero, List.getElem?_cons_succ] at c0 c3 c4 c5 c6
  go_wp2_with (first | (at_builtin; first | refine wpList_append_run rfl _ _ 22 rfl rfl rfl rb3 ?_) | fail)
  refine T5.out.mono ?_
  rintro e w5a ⟨⟨va5, rfl, hoa⟩, hba⟩
  have Oa5 := Lib.hid (Rw.own_on Ob3.out hba)
  have Xa5 := Lib.hid (Xb3.out.on hba)
  have Ba5 := Lib.hid (Bb3.out.trans (hba.mono Bb3.out.size))
  obtain ⟨vb5, wb5, rb5, ob, grb, hbb⟩ := app_nextB (l := ([UInt8.ofNat 5] ++ (numB tc ++ numB ts) ++ (numB ic ++ numB is))) (m := (UInt8.ofNat l.length :: l.flatMap attB)) (Nat.le_refl _) Ba5.out Oa5.out (Row.of_own hoa) (by have := G4.out; simp [numB_len] at this ⊢; omega)
  have Ob5 := Lib.hid ob
  have Xb5 := Lib.hid (box_grown Xa5.out grb (own_neB Oa5.out Xa5.out (by decide)))
  have Bb5 := Lib.hid hbb
  clear hoa hba ob grb hbb c0 c3 c4 c5 c6 T5 rb3
  go_wp2_with (first | (at_builtin; first | refine wpList_append_run rfl _ _ 22 rfl rfl rfl rb5 ?_) | fail)
  go_ret2
  refine ⟨⟨_, rfl, ?_⟩, Bb5.out⟩
  have hh := Ob5.out
  have ee : bytesM ⟨5, tc, ts, ic, is, p, l⟩ = ([UInt8.ofNat 5] ++ (numB tc ++ numB ts) ++ (numB ic ++ numB is) ++ (UInt8.ofNat l.length :: l.flatMap attB)) := by simp [bytesM, idB, predsB, attrsB]
  rw [ee]
  exact hh
theorem cons_most : ∀ l : List C5, (∀ c ∈ l, oneB c = true) → (l.flatMap conB).length ≤ l.length * 40 := fun l h => flat_most conB 40 l (fun c hc => con_len (h c hc))
theorem enc_ok (m : Mg) (pV lV : Value) (w : World) (h : MgIn w m pV lV) (hs : Small m) (hr : rightM m = true) :
    Calls Tryd.prog 8 #[mv m pV lV] w fun e w' => (∃ v, e = .returned (.tuple #[v, .nilIface]) ∧ OwnB w' w.heap.size v (bytesM m)) ∧ Below w.heap.size w w' := by
  have R := rightM_is hr
  have hp : ∀ c ∈ m.p, oneB c = true := by
    by_cases hk : m.k = 1 ∨ m.k = 3
    · exact rightP_one (R.pred hk)
    · rw [R.nopred hk]
      intro c hc
      cases hc
  have hl : ∀ c ∈ m.l, c.1.size ≤ 12 ∧ c.2.2.2.size ≤ 12 := by
    by_cases hk : m.k = 5
    · exact fun c hc => att_small (rightT_one (R.attrs hk) c hc)
    · rw [R.noattrs hk]
      intro c hc
      cases hc
  have hp5 : m.p.length ≤ 5 := by
    by_cases hk : m.k = 1 ∨ m.k = 3
    · exact rightP_len (R.pred hk)
    · rw [R.nopred hk]
      simp
  have hl5 : m.l.length ≤ 5 := by
    by_cases hk : m.k = 5
    · exact rightT_len (R.attrs hk)
    · rw [R.noattrs hk]
      simp
  have hpb : (m.p.flatMap conB).length ≤ 200 := by
    have h1 := cons_most m.p hp
    omega
  have hlb : (m.l.flatMap attB).length ≤ 200 := by
    have h1 := atts_most m.l hl
    omega
  have K := R.kind
  clear R
  obtain ⟨k, tc, ts, ic, is, p, l⟩ := m
  simp only at K hp hl hp5 hl5 hpb hlb
  rcases K with rfl | rfl | rfl | rfl | rfl
  · exact enc_1 tc ts ic is p l pV lV w h hs hr hp hl hp5 hl5 hpb hlb
  · exact enc_2 tc ts ic is p l pV lV w h hs hr hp hl hp5 hl5 hpb hlb
  · exact enc_3 tc ts ic is p l pV lV w h hs hr hp hl hp5 hl5 hpb hlb
  · exact enc_4 tc ts ic is p l pV lV w h hs hr hp hl hp5 hl5 hpb hlb
  · exact enc_5 tc ts ic is p l pV lV w h hs hr hp hl hp5 hl5 hpb hlb
end Go.Proofs.YtfcgfnmokbbcaaaDoor.Ws

namespace Go.Proofs.YtfcgfnmokbbcaaaDoor.Ws
open Go.RowKit Go.Proofs.YtfcgfnmokbbcaaaDoor Go.Proofs.YtfcgfnmokbbcaaaDoor.Rw Go.Proofs.YtfcgfnmokbbcaaaDoor.Nm Go.Proofs.YtfcgfnmokbbcaaaDoor.At Go.Proofs.YtfcgfnmokbbcaaaDoor.Pr Go.Proofs.YtfcgfnmokbbcaaaDoor.Wr

set_option maxHeartbeats 4000000 in
theorem bequal_any (x y : Value) (a b : List UInt8) (w : World) (ha : RowB w x a) (hb : RowB w y b) :
    Calls Tryd.prog 46 #[x, y] w fun e w' => e = .returned (.bool (decide (a = b))) ∧ w = w' := by
  have c1 := conv_row ha
  have c2 := conv_row hb
  have e0 : ((⟨a.toArray⟩ : ByteArray).toList == (⟨b.toArray⟩ : ByteArray).toList) = decide (a = b) := by
    rw [ByteArray.toList_eq, ByteArray.toList_eq, Bool.eq_iff_iff]
    simp
  have E := Lib.hid e0
  obtain ⟨ao, ac, rfl⟩ := ha.len
  obtain ⟨bo, bc, rfl⟩ := hb.len
  clear ha hb
  generalize (⟨a.toArray⟩ : ByteArray) = s1 at *
  generalize (⟨b.toArray⟩ : ByteArray) = s2 at *
  rw [← e0]
  clear e0
  go_enter Tryd.func46, Tryd.ntmps46
  go_wp2
  go_ret
  exact ⟨rfl, rfl⟩
theorem takeS_len (n : Nat) (s : St) : (takeS n s).1.length ≤ n := by
  unfold takeS
  split
  · simp
  · simp; omega
theorem textS_size (s : St) : (textS s).1.size ≤ 255 := by
  have h := takeS_len (byteS s).1.toNat (byteS s).2
  have h2 := (byteS s).1.toNat_lt
  show (takeS (byteS s).1.toNat (byteS s).2).1.toArray.size ≤ 255
  rw [List.size_toArray]
  omega
theorem empty_size : (⟨#[]⟩ : ByteArray).size = 0 := rfl
theorem gC_size (s : St) : (gC s).1.1.size ≤ 255 ∧ (gC s).1.2.2.2.2.size ≤ 255 := by
  have h1 := textS_size s
  unfold gC
  split
  · exact ⟨h1, by rw [empty_size]; omega⟩
  · split
    · exact ⟨h1, textS_size _⟩
    · exact ⟨h1, by rw [empty_size]; omega⟩
theorem gA_size (s : St) : (gA s).1.1.size ≤ 255 ∧ (gA s).1.2.2.2.size ≤ 255 := by
  have h1 := textS_size s
  unfold gA
  split
  · exact ⟨h1, textS_size _⟩
  · split
    · exact ⟨h1, by rw [empty_size]; omega⟩
    · exact ⟨h1, by rw [empty_size]; omega⟩
theorem readL_all {α : Type} (f : St → α × St) (p : α → Prop) (h : ∀ s, p (f s).1) : ∀ (n : Nat) (s : St), ∀ x ∈ (readL f n s).1, p x
  | 0, s, x, hx => by cases hx
  | n + 1, s, x, hx => by
    have hx2 : x ∈ (f s).1 :: (readL f n (f s).2).1 := hx
    rcases List.mem_cons.1 hx2 with rfl | h2
    · exact h s
    · exact readL_all f p h n _ x h2
theorem gL_len {α : Type} (f : St → α × St) (s : St) : (gL f s).1.length ≤ 255 := by
  unfold gL
  rw [readL_len]
  have := (byteS s).1.toNat_lt
  omega
structure SmallG (m : Mg) : Prop where
  small : Small m
  l : m.l.length ≤ 255
  p : m.p.length ≤ 255
theorem gM_small (s : St) : SmallG (gM s) := by
  have hp : ∀ x ∈ (gM s).p, x.1.size ≤ 255 ∧ x.2.2.2.2.size ≤ 255 := by
    rw [gM_is]
    intro x hx
    simp only at hx
    by_cases h : (byteS s).1.toNat = 1 ∨ (byteS s).1.toNat = 3
    · rw [if_pos h] at hx
      exact readL_all gC (fun c => c.1.size ≤ 255 ∧ c.2.2.2.2.size ≤ 255) gC_size _ _ x hx
    · rw [if_neg h] at hx
      cases hx
  have hl : ∀ x ∈ (gM s).l, x.1.size ≤ 255 ∧ x.2.2.2.size ≤ 255 := by
    rw [gM_is]
    intro x hx
    simp only at hx
    by_cases h : (byteS s).1.toNat = 5
    · rw [if_pos h] at hx
      exact readL_all gA (fun c => c.1.size ≤ 255 ∧ c.2.2.2.size ≤ 255) gA_size _ _ x hx
    · rw [if_neg h] at hx
      cases hx
  have lp : (gM s).p.length ≤ 255 := by
    rw [gM_is]
    simp only
    split
    · exact gL_len gC _
    · simp
  have ll : (gM s).l.length ≤ 255 := by
    rw [gM_is]
    simp only
    split
    · exact gL_len gA _
    · simp
  refine ⟨⟨by omega, by omega, fun x hx => ?_, fun x hx => ?_⟩, ll, lp⟩
  · have := hp x hx
    unfold maxLen
    omega
  · have := hl x hx
    unfold maxLen
    omega
theorem setM_heap (W : World) (b : Nat) (a0 a1 a2 a3 a4 a5 a6 : Value) (j : Nat) (hj : j ≠ b) : (setM W b a0 a1 a2 a3 a4 a5 a6).heap[j]? = W.heap[j]? := by
  have h : ∀ (W : World) (k : Nat) (x : Value), (W.setCell ⟨b, k, none⟩ x).heap[j]? = W.heap[j]? := fun W k x => RowKit.Below.heap_setCell W _ x _ hj
  unfold setM
  rw [h, h, h, h, h, h, h]
theorem setM_grownS (W : World) (b : Nat) (a0 a1 a2 a3 a4 a5 a6 : Value) : W.grownBy (setM W b a0 a1 a2 a3 a4 a5 a6) (some b) :=
  grown_more (grown_more (grown_more (grown_more (grown_more (grown_more (grown_set _ b 0 a0) (grown_set _ b 1 a1)) (grown_set _ b 2 a2)) (grown_set _ b 3 a3)) (grown_set _ b 4 a4)) (grown_set _ b 5 a5)) (grown_set _ b 6 a6)
theorem setM_below {w W : World} {B b : Nat} (h : Below B w W) (hb : B ≤ b) (hw : B ≤ W.heap.size) (a0 a1 a2 a3 a4 a5 a6 : Value) : Below B w (setM W b a0 a1 a2 a3 a4 a5 a6) :=
  h.trans ((Below.refl B W).grown (setM_grownS W b a0 a1 a2 a3 a4 a5 a6) hw (fun k hk => by cases hk; exact hb))
theorem wfault_setM {W : World} {v : Value} {r : Int} {f b : Nat} (h : Fa.Ch W [(f, wireTxt, r)] v (.iface 34 (.int .i64 1))) (hf : f ≠ b) (a0 a1 a2 a3 a4 a5 a6 : Value) : WFault (setM W b a0 a1 a2 a3 a4 a5 a6) v r :=
  ⟨⟨f, h.keep fun x hx => by rw [List.mem_singleton] at hx; subst hx; exact setM_heap W b a0 a1 a2 a3 a4 a5 a6 f hf⟩⟩
end Go.Proofs.YtfcgfnmokbbcaaaDoor.Ws

namespace Go.Proofs.YtfcgfnmokbbcaaaDoor.Ws
open Go.RowKit Go.Proofs.YtfcgfnmokbbcaaaDoor Go.Proofs.YtfcgfnmokbbcaaaDoor.Rw Go.Proofs.YtfcgfnmokbbcaaaDoor.Nm Go.Proofs.YtfcgfnmokbbcaaaDoor.At Go.Proofs.YtfcgfnmokbbcaaaDoor.Pr Go.Proofs.YtfcgfnmokbbcaaaDoor.Wr

/-- What bytes are a message's? -/
def decM (b : List UInt8) : Option Mg := if b.length ≤ 600 ∧ rightM (gM (b, false)) = true ∧ bytesM (gM (b, false)) = b then some (gM (b, false)) else none
abbrev zeroMg : Mg := ⟨0, 0, 0, 0, 0, [], []⟩
set_option maxRecDepth 100000 in
set_option maxHeartbeats 16000000 in
theorem dec_long (bv : Value) (b : List UInt8) (w : World) (hb : RowB w bv b) (h600 : 600 < b.length) :
    Calls Tryd.prog 18 #[bv] w fun e w' => (∃ v, e = .returned (.tuple #[mv zeroMg (.slice none 0 0) (.slice none 0 0), v]) ∧ WFault w' v b.length) ∧ Below w.heap.size w w' := by
  have W1 := Lib.hid (new_below w (.cells zeroM 32))
  have R1 := Lib.hid (box_new w zeroM 32)
  have HB := Lib.hid (hb.on W1.out)
  have HL := Lib.hid hb.most
  obtain ⟨ao, ac, rfl⟩ := hb.len
  have d0 : decide ((b.length : Int) ≤ 600) = false := by simp; omega
  obtain ⟨n, hn⟩ : ∃ n, n = b.length := ⟨_, rfl⟩
  have NB := Lib.hid hn
  rw [← hn] at d0 ⊢
  have BW := Lib.hid (Below.refl (w.alloc (.cells zeroM 32)).heap.size (w.alloc (.cells zeroM 32)))
  clear hb HB hn h600
  go_enter Tryd.func18, Tryd.ntmps18
  have NW := Lib.hid (Fa.New_some wireTxt (n : Int) 34 (.int .i64 1) (w.alloc (.cells zeroM 32)))
  go_wp2_with fail
  refine NW.out.mono ?_
  rintro e9 w9 ⟨rfl, rfl⟩
  have hW := BW.out.size
  have FC := Lib.hid (Fa.Ch.new (w := (w.alloc (.cells zeroM 32))) (show Fa.Ch (w.alloc (.cells zeroM 32)) [] (.iface 34 (.int .i64 1)) (.iface 34 (.int .i64 1)) from rfl) wireTxt (n : Int))
  have RZ := Lib.hid ((R1.out.on BW.out).more (.cells #[.string wireTxt, .int .i64 (n : Int), .iface 34 (.int .i64 1)] 84))
  have B9 := Lib.hid (BW.out.alloc hW (.cells #[.string wireTxt, .int .i64 (n : Int), .iface 34 (.int .i64 1)] 84))
  have NE := Lib.hid (show (w.alloc (.cells zeroM 32)).heap.size ≠ w.heap.size by first | (simp; done) | (simp at hW; omega))
  generalize (w.alloc (.cells zeroM 32)).alloc (.cells #[.string wireTxt, .int .i64 (n : Int), .iface 34 (.int .i64 1)] 84) = w8 at *
  clear NW hW BW
  have RX := RZ.out
  have r0 := RX.cell 0
  have r1 := RX.cell 1
  have r2 := RX.cell 2
  have r3 := RX.cell 3
  have r4 := RX.cell 4
  have r5 := RX.cell 5
  have r6 := RX.cell 6
  have t0 := RX.fr 0
  have t1 := RX.fr 1
  have t2 := RX.fr 2
  have t3 := RX.fr 3
  have t4 := RX.fr 4
  have t5 := RX.fr 5
  have t6 := RX.fr 6
  have zz := RX.lt
  simp at r0 r1 r2 r3 r4 r5 r6
  have FB := Lib.hid (setM_box RX (.int .i64 0) (.int .i64 0) (.int .i64 0) (.int .i64 0) (.int .i64 0) (.slice none 0 0) (.slice none 0 0))
  have hB8 : Below w.heap.size w w8 := W1.out.trans (B9.out.mono (by simp))
  have FW := Lib.hid (wfault_setM FC.out NE.out (.int .i64 0) (.int .i64 0) (.int .i64 0) (.int .i64 0) (.int .i64 0) (.slice none 0 0) (.slice none 0 0))
  have FF := Lib.hid (setM_below hB8 (Nat.le_refl _) hB8.size (.int .i64 0) (.int .i64 0) (.int .i64 0) (.int .i64 0) (.int .i64 0) (.slice none 0 0) (.slice none 0 0))
  clear RX RZ hB8
  go_wp2_with fail
  have v0 := FB.out.cell 0
  have v1 := FB.out.cell 1
  have v2 := FB.out.cell 2
  have v3 := FB.out.cell 3
  have v4 := FB.out.cell 4
  have v5 := FB.out.cell 5
  have v6 := FB.out.cell 6
  simp at v0 v1 v2 v3 v4 v5 v6
  refine bodyPost_ret (v := .tuple #[.agg #[.int .i64 0, .int .i64 0, .int .i64 0, .int .i64 0, .int .i64 0, .slice none 0 0, .slice none 0 0], .iface 82 (.pointer (some ⟨(w.alloc (.cells zeroM 32)).heap.size, 0, none⟩))]) (by simp [results, Tryd.results18, go_sem, v0, v1, v2, v3, v4, v5, v6]) rfl ?_
  exact ⟨⟨_, rfl, FW.out⟩, FF.out⟩
set_option maxRecDepth 100000 in
set_option maxHeartbeats 16000000 in
theorem dec_wrong (bv : Value) (b : List UInt8) (w : World) (hb : RowB w bv b) (h600 : b.length ≤ 600) (hr : rightM (gM (b, false)) = false) :
    Calls Tryd.prog 18 #[bv] w fun e w' => (∃ v, e = .returned (.tuple #[mv zeroMg (.slice none 0 0) (.slice none 0 0), v]) ∧ WFault w' v b.length) ∧ Below w.heap.size w w' := by
  have W1 := Lib.hid (new_below w (.cells zeroM 32))
  have R1 := Lib.hid (box_new w zeroM 32)
  have HB := Lib.hid (hb.on W1.out)
  have HL := Lib.hid hb.most
  have RD := Lib.hid (Wq.read_any bv b (w.alloc (.cells zeroM 32)) HB.out (by omega))
  obtain ⟨ao, ac, rfl⟩ := hb.len
  have d0 : decide ((b.length : Int) ≤ 600) = true := by simp; omega
  obtain ⟨n, hn⟩ : ∃ n, n = b.length := ⟨_, rfl⟩
  have NB := Lib.hid hn
  rw [← hn] at HB RD d0 ⊢
  have LE := Lib.hid h600
  clear hb hn h600
  go_enter Tryd.func18, Tryd.ntmps18
  go_wp2_with fail
  refine RD.out.mono ?_
  rintro e w2 ⟨⟨rb, rfl, hrb, hd⟩, hb2⟩
  have GT := Lib.hid (get_any rb (b, false) w2 hd)
  have RB := Lib.hid hrb
  have D2 := Lib.hid hd
  have B2 := Lib.hid hb2
  clear hrb hd hb2 RD
  go_wp2_with fail
  refine GT.out.mono ?_
  rintro e3 w3 ⟨⟨pv, lv, rfl, hop, hol⟩, hg⟩
  have hs2 := B2.out.size
  have B3 := Lib.hid (B2.out.trans (Wq.Rd.below D2.out RB.out hg))
  have OP := Lib.hid (Rw.own_less (B' := w.heap.size + 1) (by simp at hs2; omega) hop)
  have OL := Lib.hid (Rw.own_less (B' := w.heap.size + 1) (by simp at hs2; omega) hol)
  have SM := Lib.hid (gM_small (b, false))
  clear GT D2 RB B2 hop hol hg hs2
  generalize hgm : gM (b, false) = m at *
  have HM := Lib.hid hgm
  clear hgm
  obtain ⟨k, tc, ts, ic, is, p, l⟩ := m
  obtain ⟨po, pc, rfl⟩ := (Row.of_own OP.out).len
  obtain ⟨lo, lc, rfl⟩ := (Row.of_own OL.out).len
  have hin : MgIn w3 ⟨k, tc, ts, ic, is, p, l⟩ (.slice po p.length pc) (.slice lo l.length lc) := ⟨Row.of_own OP.out, row_EA.2 (Row.of_own OL.out)⟩
  have N4 := Lib.hid (new_below w3 (.cells (mcells ⟨k, tc, ts, ic, is, p, l⟩ (.slice po p.length pc) (.slice lo l.length lc)) 32))
  have X4 := Lib.hid (box_new w3 (mcells ⟨k, tc, ts, ic, is, p, l⟩ (.slice po p.length pc) (.slice lo l.length lc)) 32)
  have EC := Lib.hid (enc_no ⟨k, tc, ts, ic, is, p, l⟩ _ _ _ (hin.on N4.out) SM.out.small (by have := SM.out.l; simp only at this ⊢; omega) hr)
  have B4 := Lib.hid (B3.out.trans (N4.out.mono B3.out.size))
  clear hin
  go_wp2_with fail
  refine EC.out.mono ?_
  rintro e5 w5 ⟨⟨v5, rfl, hf5⟩, hb5⟩
  obtain ⟨f5, rfl, _⟩ := hf5.ch
  have BW := Lib.hid (B4.out.trans (hb5.mono B4.out.size))
  clear hf5 hb5 EC B4 B3 N4 X4 OP OL SM
  have NW := Lib.hid (Fa.New_some wireTxt (n : Int) 34 (.int .i64 1) w5)
  go_wp2_with fail
  refine NW.out.mono ?_
  rintro e9 w9 ⟨rfl, rfl⟩
  have hW := BW.out.size
  have FC := Lib.hid (Fa.Ch.new (w := w5) (show Fa.Ch w5 [] (.iface 34 (.int .i64 1)) (.iface 34 (.int .i64 1)) from rfl) wireTxt (n : Int))
  have RZ := Lib.hid ((R1.out.on BW.out).more (.cells #[.string wireTxt, .int .i64 (n : Int), .iface 34 (.int .i64 1)] 84))
  have B9 := Lib.hid (BW.out.alloc hW (.cells #[.string wireTxt, .int .i64 (n : Int), .iface 34 (.int .i64 1)] 84))
  have NE := Lib.hid (show w5.heap.size ≠ w.heap.size by first | (simp; done) | (simp at hW; omega))
  generalize w5.alloc (.cells #[.string wireTxt, .int .i64 (n : Int), .iface 34 (.int .i64 1)] 84) = w8 at *
  clear NW hW BW
  have RX := RZ.out
  have r0 := RX.cell 0
  have r1 := RX.cell 1
  have r2 := RX.cell 2
  have r3 := RX.cell 3
  have r4 := RX.cell 4
  have r5 := RX.cell 5
  have r6 := RX.cell 6
  have t0 := RX.fr 0
  have t1 := RX.fr 1
  have t2 := RX.fr 2
  have t3 := RX.fr 3
  have t4 := RX.fr 4
  have t5 := RX.fr 5
  have t6 := RX.fr 6
  have zz := RX.lt
  simp at r0 r1 r2 r3 r4 r5 r6
  have FB := Lib.hid (setM_box RX (.int .i64 0) (.int .i64 0) (.int .i64 0) (.int .i64 0) (.int .i64 0) (.slice none 0 0) (.slice none 0 0))
  have hB8 : Below w.heap.size w w8 := W1.out.trans (B9.out.mono (by simp))
  have FW := Lib.hid (wfault_setM FC.out NE.out (.int .i64 0) (.int .i64 0) (.int .i64 0) (.int .i64 0) (.int .i64 0) (.slice none 0 0) (.slice none 0 0))
  have FF := Lib.hid (setM_below hB8 (Nat.le_refl _) hB8.size (.int .i64 0) (.int .i64 0) (.int .i64 0) (.int .i64 0) (.int .i64 0) (.slice none 0 0) (.slice none 0 0))
  clear RX RZ hB8
  go_wp2_with fail
  have v0 := FB.out.cell 0
  have v1 := FB.out.cell 1
  have v2 := FB.out.cell 2
  have v3 := FB.out.cell 3
  have v4 := FB.out.cell 4
  have v5 := FB.out.cell 5
  have v6 := FB.out.cell 6
  simp at v0 v1 v2 v3 v4 v5 v6
  refine bodyPost_ret (v := .tuple #[.agg #[.int .i64 0, .int .i64 0, .int .i64 0, .int .i64 0, .int .i64 0, .slice none 0 0, .slice none 0 0], .iface 82 (.pointer (some ⟨w5.heap.size, 0, none⟩))]) (by simp [results, Tryd.results18, go_sem, v0, v1, v2, v3, v4, v5, v6]) rfl ?_
  exact ⟨⟨_, rfl, FW.out⟩, FF.out⟩
set_option maxRecDepth 100000 in
set_option maxHeartbeats 16000000 in
theorem dec_other (bv : Value) (b : List UInt8) (w : World) (hb : RowB w bv b) (h600 : b.length ≤ 600) (hr : rightM (gM (b, false)) = true) (he : bytesM (gM (b, false)) ≠ b) :
    Calls Tryd.prog 18 #[bv] w fun e w' => (∃ v, e = .returned (.tuple #[mv zeroMg (.slice none 0 0) (.slice none 0 0), v]) ∧ WFault w' v b.length) ∧ Below w.heap.size w w' := by
  have W1 := Lib.hid (new_below w (.cells zeroM 32))
  have R1 := Lib.hid (box_new w zeroM 32)
  have HB := Lib.hid (hb.on W1.out)
  have HL := Lib.hid hb.most
  have RD := Lib.hid (Wq.read_any bv b (w.alloc (.cells zeroM 32)) HB.out (by omega))
  obtain ⟨ao, ac, rfl⟩ := hb.len
  have d0 : decide ((b.length : Int) ≤ 600) = true := by simp; omega
  obtain ⟨n, hn⟩ : ∃ n, n = b.length := ⟨_, rfl⟩
  have NB := Lib.hid hn
  rw [← hn] at HB RD d0 ⊢
  have LE := Lib.hid h600
  clear hb hn h600
  go_enter Tryd.func18, Tryd.ntmps18
  go_wp2_with fail
  refine RD.out.mono ?_
  rintro e w2 ⟨⟨rb, rfl, hrb, hd⟩, hb2⟩
  have GT := Lib.hid (get_any rb (b, false) w2 hd)
  have RB := Lib.hid hrb
  have D2 := Lib.hid hd
  have B2 := Lib.hid hb2
  clear hrb hd hb2 RD
  go_wp2_with fail
  refine GT.out.mono ?_
  rintro e3 w3 ⟨⟨pv, lv, rfl, hop, hol⟩, hg⟩
  have hs2 := B2.out.size
  have B3 := Lib.hid (B2.out.trans (Wq.Rd.below D2.out RB.out hg))
  have OP := Lib.hid (Rw.own_less (B' := w.heap.size + 1) (by simp at hs2; omega) hop)
  have OL := Lib.hid (Rw.own_less (B' := w.heap.size + 1) (by simp at hs2; omega) hol)
  have SM := Lib.hid (gM_small (b, false))
  clear GT D2 RB B2 hop hol hg hs2
  generalize hgm : gM (b, false) = m at *
  have HM := Lib.hid hgm
  clear hgm
  obtain ⟨k, tc, ts, ic, is, p, l⟩ := m
  obtain ⟨po, pc, rfl⟩ := (Row.of_own OP.out).len
  obtain ⟨lo, lc, rfl⟩ := (Row.of_own OL.out).len
  have hin : MgIn w3 ⟨k, tc, ts, ic, is, p, l⟩ (.slice po p.length pc) (.slice lo l.length lc) := ⟨Row.of_own OP.out, row_EA.2 (Row.of_own OL.out)⟩
  have N4 := Lib.hid (new_below w3 (.cells (mcells ⟨k, tc, ts, ic, is, p, l⟩ (.slice po p.length pc) (.slice lo l.length lc)) 32))
  have X4 := Lib.hid (box_new w3 (mcells ⟨k, tc, ts, ic, is, p, l⟩ (.slice po p.length pc) (.slice lo l.length lc)) 32)
  have EC := Lib.hid (enc_ok ⟨k, tc, ts, ic, is, p, l⟩ _ _ _ (hin.on N4.out) SM.out.small hr)
  have B4 := Lib.hid (B3.out.trans (N4.out.mono B3.out.size))
  clear hin
  go_wp2_with fail
  refine EC.out.mono ?_
  rintro e5 w5 ⟨⟨v5, rfl, ho5⟩, hb5⟩
  have BW := Lib.hid (B4.out.trans (hb5.mono B4.out.size))
  have X5 := Lib.hid (X4.out.on hb5)
  have OP5 := Lib.hid (Rw.own_on (Rw.own_on OP.out N4.out) hb5)
  have OL5 := Lib.hid (Rw.own_on (Rw.own_on OL.out N4.out) hb5)
  have BE := Lib.hid (bequal_any _ _ _ b w5 (Row.of_own ho5) (HB.out.on BW.out))
  obtain ⟨a5, c5, hv5⟩ := (Row.of_own ho5).len
  obtain ⟨n5, hn5⟩ : ∃ n5, n5 = (bytesM ⟨k, tc, ts, ic, is, p, l⟩).length := ⟨_, rfl⟩
  rw [← hn5] at hv5
  subst hv5
  rw [decide_eq_false he] at BE
  clear ho5 hb5 EC B4 B3 N4 X4 OP OL SM hn5 he
  go_wp2_with fail
  refine BE.out.mono ?_
  rintro e6 w6 ⟨rfl, rfl⟩
  clear BE X5 OP5 OL5
  have NW := Lib.hid (Fa.New_some wireTxt (n : Int) 34 (.int .i64 1) w5)
  go_wp2_with fail
  refine NW.out.mono ?_
  rintro e9 w9 ⟨rfl, rfl⟩
  have hW := BW.out.size
  have FC := Lib.hid (Fa.Ch.new (w := w5) (show Fa.Ch w5 [] (.iface 34 (.int .i64 1)) (.iface 34 (.int .i64 1)) from rfl) wireTxt (n : Int))
  have RZ := Lib.hid ((R1.out.on BW.out).more (.cells #[.string wireTxt, .int .i64 (n : Int), .iface 34 (.int .i64 1)] 84))
  have B9 := Lib.hid (BW.out.alloc hW (.cells #[.string wireTxt, .int .i64 (n : Int), .iface 34 (.int .i64 1)] 84))
  have NE := Lib.hid (show w5.heap.size ≠ w.heap.size by first | (simp; done) | (simp at hW; omega))
  generalize w5.alloc (.cells #[.string wireTxt, .int .i64 (n : Int), .iface 34 (.int .i64 1)] 84) = w8 at *
  clear NW hW BW
  have RX := RZ.out
  have r0 := RX.cell 0
  have r1 := RX.cell 1
  have r2 := RX.cell 2
  have r3 := RX.cell 3
  have r4 := RX.cell 4
  have r5 := RX.cell 5
  have r6 := RX.cell 6
  have t0 := RX.fr 0
  have t1 := RX.fr 1
  have t2 := RX.fr 2
  have t3 := RX.fr 3
  have t4 := RX.fr 4
  have t5 := RX.fr 5
  have t6 := RX.fr 6
  have zz := RX.lt
  simp at r0 r1 r2 r3 r4 r5 r6
  have FB := Lib.hid (setM_box RX (.int .i64 0) (.int .i64 0) (.int .i64 0) (.int .i64 0) (.int .i64 0) (.slice none 0 0) (.slice none 0 0))
  have hB8 : Below w.heap.size w w8 := W1.out.trans (B9.out.mono (by simp))
  have FW := Lib.hid (wfault_setM FC.out NE.out (.int .i64 0) (.int .i64 0) (.int .i64 0) (.int .i64 0) (.int .i64 0) (.slice none 0 0) (.slice none 0 0))
  have FF := Lib.hid (setM_below hB8 (Nat.le_refl _) hB8.size (.int .i64 0) (.int .i64 0) (.int .i64 0) (.int .i64 0) (.int .i64 0) (.slice none 0 0) (.slice none 0 0))
  clear RX RZ hB8
  go_wp2_with fail
  have v0 := FB.out.cell 0
  have v1 := FB.out.cell 1
  have v2 := FB.out.cell 2
  have v3 := FB.out.cell 3
  have v4 := FB.out.cell 4
  have v5 := FB.out.cell 5
  have v6 := FB.out.cell 6
  simp at v0 v1 v2 v3 v4 v5 v6
  refine bodyPost_ret (v := .tuple #[.agg #[.int .i64 0, .int .i64 0, .int .i64 0, .int .i64 0, .int .i64 0, .slice none 0 0, .slice none 0 0], .iface 82 (.pointer (some ⟨w5.heap.size, 0, none⟩))]) (by simp [results, Tryd.results18, go_sem, v0, v1, v2, v3, v4, v5, v6]) rfl ?_
  exact ⟨⟨_, rfl, FW.out⟩, FF.out⟩
set_option maxRecDepth 100000 in
set_option maxHeartbeats 16000000 in
theorem dec_same (bv : Value) (b : List UInt8) (w : World) (hb : RowB w bv b) (h600 : b.length ≤ 600) (hr : rightM (gM (b, false)) = true) (he : bytesM (gM (b, false)) = b) :
    Calls Tryd.prog 18 #[bv] w fun e w' => (∃ pv lv, e = .returned (.tuple #[mv (gM (b, false)) pv lv, .nilIface]) ∧ OwnC w' w.heap.size pv (gM (b, false)).p ∧ OwnL w' w.heap.size lv (gM (b, false)).l) ∧ Below w.heap.size w w' := by
  have W1 := Lib.hid (new_below w (.cells zeroM 32))
  have R1 := Lib.hid (box_new w zeroM 32)
  have HB := Lib.hid (hb.on W1.out)
  have HL := Lib.hid hb.most
  have RD := Lib.hid (Wq.read_any bv b (w.alloc (.cells zeroM 32)) HB.out (by omega))
  obtain ⟨ao, ac, rfl⟩ := hb.len
  have d0 : decide ((b.length : Int) ≤ 600) = true := by simp; omega
  obtain ⟨n, hn⟩ : ∃ n, n = b.length := ⟨_, rfl⟩
  have NB := Lib.hid hn
  rw [← hn] at HB RD d0 ⊢
  have LE := Lib.hid h600
  clear hb hn h600
  go_enter Tryd.func18, Tryd.ntmps18
  go_wp2_with fail
  refine RD.out.mono ?_
  rintro e w2 ⟨⟨rb, rfl, hrb, hd⟩, hb2⟩
  have GT := Lib.hid (get_any rb (b, false) w2 hd)
  have RB := Lib.hid hrb
  have D2 := Lib.hid hd
  have B2 := Lib.hid hb2
  clear hrb hd hb2 RD
  go_wp2_with fail
  refine GT.out.mono ?_
  rintro e3 w3 ⟨⟨pv, lv, rfl, hop, hol⟩, hg⟩
  have hs2 := B2.out.size
  have B3 := Lib.hid (B2.out.trans (Wq.Rd.below D2.out RB.out hg))
  have OP := Lib.hid (Rw.own_less (B' := w.heap.size + 1) (by simp at hs2; omega) hop)
  have OL := Lib.hid (Rw.own_less (B' := w.heap.size + 1) (by simp at hs2; omega) hol)
  have SM := Lib.hid (gM_small (b, false))
  clear GT D2 RB B2 hop hol hg hs2
  generalize hgm : gM (b, false) = m at *
  have HM := Lib.hid hgm
  clear hgm
  obtain ⟨k, tc, ts, ic, is, p, l⟩ := m
  obtain ⟨po, pc, rfl⟩ := (Row.of_own OP.out).len
  obtain ⟨lo, lc, rfl⟩ := (Row.of_own OL.out).len
  have hin : MgIn w3 ⟨k, tc, ts, ic, is, p, l⟩ (.slice po p.length pc) (.slice lo l.length lc) := ⟨Row.of_own OP.out, row_EA.2 (Row.of_own OL.out)⟩
  have N4 := Lib.hid (new_below w3 (.cells (mcells ⟨k, tc, ts, ic, is, p, l⟩ (.slice po p.length pc) (.slice lo l.length lc)) 32))
  have X4 := Lib.hid (box_new w3 (mcells ⟨k, tc, ts, ic, is, p, l⟩ (.slice po p.length pc) (.slice lo l.length lc)) 32)
  have EC := Lib.hid (enc_ok ⟨k, tc, ts, ic, is, p, l⟩ _ _ _ (hin.on N4.out) SM.out.small hr)
  have B4 := Lib.hid (B3.out.trans (N4.out.mono B3.out.size))
  clear hin
  go_wp2_with fail
  refine EC.out.mono ?_
  rintro e5 w5 ⟨⟨v5, rfl, ho5⟩, hb5⟩
  have BW := Lib.hid (B4.out.trans (hb5.mono B4.out.size))
  have X5 := Lib.hid (X4.out.on hb5)
  have OP5 := Lib.hid (Rw.own_on (Rw.own_on OP.out N4.out) hb5)
  have OL5 := Lib.hid (Rw.own_on (Rw.own_on OL.out N4.out) hb5)
  have BE := Lib.hid (bequal_any _ _ _ b w5 (Row.of_own ho5) (HB.out.on BW.out))
  obtain ⟨a5, c5, hv5⟩ := (Row.of_own ho5).len
  obtain ⟨n5, hn5⟩ : ∃ n5, n5 = (bytesM ⟨k, tc, ts, ic, is, p, l⟩).length := ⟨_, rfl⟩
  rw [← hn5] at hv5
  subst hv5
  rw [decide_eq_true he] at BE
  clear ho5 hb5 EC B4 B3 N4 X4 OP OL SM hn5 he
  go_wp2_with fail
  refine BE.out.mono ?_
  rintro e6 w6 ⟨rfl, rfl⟩
  have XX := X5.out
  have c0 := XX.cell 0
  have c1 := XX.cell 1
  have c2 := XX.cell 2
  have c3 := XX.cell 3
  have c4 := XX.cell 4
  have c5 := XX.cell 5
  have c6 := XX.cell 6
  simp only [List.getElem?_toArray, List.getElem?_cons_zero, List.getElem?_cons_succ] at c0 c1 c2 c3 c4 c5 c6
  clear XX
  have hR5 := R1.out.on BW.out
  have RX := hR5
  have r0 := RX.cell 0
  have r1 := RX.cell 1
  have r2 := RX.cell 2
  have r3 := RX.cell 3
  have r4 := RX.cell 4
  have r5 := RX.cell 5
  have r6 := RX.cell 6
  have t0 := RX.fr 0
  have t1 := RX.fr 1
  have t2 := RX.fr 2
  have t3 := RX.fr 3
  have t4 := RX.fr 4
  have t5 := RX.fr 5
  have t6 := RX.fr 6
  have zz := RX.lt
  simp at r0 r1 r2 r3 r4 r5 r6
  have FB := Lib.hid (setM_box RX (.int .i64 k) (.int .i64 tc) (.int .i64 ts) (.int .i64 ic) (.int .i64 is) (.slice po p.length pc) (.slice lo l.length lc))
  have hB8 : Below w.heap.size w w5 := W1.out.trans (BW.out.mono (by simp))
  have FF := Lib.hid (setM_below hB8 (Nat.le_refl _) hB8.size (.int .i64 k) (.int .i64 tc) (.int .i64 ts) (.int .i64 ic) (.int .i64 is) (.slice po p.length pc) (.slice lo l.length lc))
  have FP := Lib.hid (setM_own OP5.out w.heap.size (by omega) (.int .i64 k) (.int .i64 tc) (.int .i64 ts) (.int .i64 ic) (.int .i64 is) (.slice po p.length pc) (.slice lo l.length lc))
  have FL := Lib.hid (setM_own OL5.out w.heap.size (by omega) (.int .i64 k) (.int .i64 tc) (.int .i64 ts) (.int .i64 ic) (.int .i64 is) (.slice po p.length pc) (.slice lo l.length lc))
  clear RX hB8 hR5 BE X5 OP5 OL5 BW
  go_wp2_with fail
  have v0 := FB.out.cell 0
  have v1 := FB.out.cell 1
  have v2 := FB.out.cell 2
  have v3 := FB.out.cell 3
  have v4 := FB.out.cell 4
  have v5 := FB.out.cell 5
  have v6 := FB.out.cell 6
  simp at v0 v1 v2 v3 v4 v5 v6
  refine bodyPost_ret (v := .tuple #[.agg #[.int .i64 k, .int .i64 tc, .int .i64 ts, .int .i64 ic, .int .i64 is, .slice po p.length pc, .slice lo l.length lc], .nilIface]) (by simp [results, Tryd.results18, go_sem, v0, v1, v2, v3, v4, v5, v6]) rfl ?_
  rw [HM.out]
  exact ⟨⟨_, _, rfl, Rw.own_less (Nat.le_add_right _ 1) FP.out, Rw.own_less (Nat.le_add_right _ 1) FL.out⟩, FF.out⟩
theorem dec_none (bv : Value) (b : List UInt8) (w : World) (hb : RowB w bv b) (h : decM b = none) :
    Calls Tryd.prog 18 #[bv] w fun e w' => (∃ v, e = .returned (.tuple #[mv zeroMg (.slice none 0 0) (.slice none 0 0), v]) ∧ WFault w' v b.length) ∧ Below w.heap.size w w' := by
  by_cases h1 : b.length ≤ 600
  · cases h2 : rightM (gM (b, false))
    · exact dec_wrong bv b w hb h1 h2
    · refine dec_other bv b w hb h1 h2 fun h3 => ?_
      unfold decM at h
      rw [if_pos ⟨h1, h2, h3⟩] at h
      cases h
  · exact dec_long bv b w hb (by omega)
theorem dec_some (bv : Value) (b : List UInt8) (w : World) (hb : RowB w bv b) (m : Mg) (h : decM b = some m) :
    Calls Tryd.prog 18 #[bv] w fun e w' => (∃ pv lv, e = .returned (.tuple #[mv m pv lv, .nilIface]) ∧ OwnC w' w.heap.size pv m.p ∧ OwnL w' w.heap.size lv m.l) ∧ Below w.heap.size w w' := by
  unfold decM at h
  split at h
  · obtain rfl := Option.some.inj h
    rename_i h1
    exact dec_same bv b w hb h1.1 h1.2.1 h1.2.2
  · cases h
theorem decM_some {b : List UInt8} {m : Mg} (h : decM b = some m) : rightM m = true ∧ bytesM m = b ∧ SmallG m := by
  unfold decM at h
  split at h
  · obtain rfl := Option.some.inj h
    rename_i h1
    exact ⟨h1.2.1, h1.2.2, gM_small _⟩
  · cases h
theorem decM_back {m : Mg} (hr : rightM m = true) (h : M64 m) : decM (bytesM m) = some m := by
  unfold decM
  rw [gM_read m hr h, if_pos ⟨by have := (bytesM_len hr).2; omega, hr, rfl⟩]
end Go.Proofs.YtfcgfnmokbbcaaaDoor.Ws
