/-
  Bytes of the statements' own package: the bytes of a right message. No condition beyond that.
  Encode of package wire: a right message's bytes; of any other a fault. Condition: lists and texts below a machine's length.
-/
import Derived.Test.YtfcgfnmokbbcaaaDoorQ032
import Derived.Test.YtfcgfnmokbbcaaaDoorQ012
import Derived.Test.YtfcgfnmokbbcaaaDoorQ024
import Derived.Test.YtfcgfnmokbbcaaaDoorQ029
import Derived.Test.YtfcgfnmokbbcaaaDoorQ030
import Derived.Test.YtfcgfnmokbbcaaaDoorQ031
namespace Go.Proofs.YtfcgfnmokbbcaaaDoor.Wr
open Go.RowKit Go.Proofs.YtfcgfnmokbbcaaaDoor Go.Proofs.YtfcgfnmokbbcaaaDoor.Rw Go.Proofs.YtfcgfnmokbbcaaaDoor.Nm Go.Proofs.YtfcgfnmokbbcaaaDoor.At Go.Proofs.YtfcgfnmokbbcaaaDoor.Pr

theorem att_small {a : A4} (h : nameB a.1 = true ∧ Va.rightV a.2.1 a.2.2.1 a.2.2.2 = true) : a.1.size ≤ 12 ∧ a.2.2.2.size ≤ 12 := by
  refine ⟨(nameB_size h.1).2, ?_⟩
  have h2 := h.2
  unfold Va.rightV at h2
  split at h2
  · rw [Bool.and_eq_true, decide_eq_true_eq, decide_eq_true_eq] at h2
    exact h2.2
  · rw [noText_is, decide_eq_true_eq] at h2
    omega
theorem flat_most {α : Type} (f : α → List UInt8) (K : Nat) : ∀ l : List α, (∀ x ∈ l, (f x).length ≤ K) → (l.flatMap f).length ≤ l.length * K
  | [], _ => by simp
  | x :: l, h => by
    have h1 := flat_most f K l (fun y hy => h y (List.mem_cons_of_mem _ hy))
    have h2 := h x (List.mem_cons_self ..)
    rw [List.flatMap_cons, List.length_append, List.length_cons, Nat.succ_mul]
    omega
theorem con_len {c : C5} (h : oneB c = true) : (conB c).length ≤ 40 := by
  have t := oneB_text h
  unfold conB
  rw [List.length_append, textB_lenW _ (by omega), List.length_cons]
  split
  · rw [List.length_append, numB_len, numB_len]; omega
  · rw [textB_lenW _ (by omega)]; omega
theorem att_len {a : A4} (h : a.1.size ≤ 12 ∧ a.2.2.2.size ≤ 12) : (attB a).length ≤ 40 := by
  unfold attB
  rw [List.length_append, textB_lenW _ (by omega)]
  split
  · rw [List.length_cons, textB_lenW _ (by omega)]; omega
  · rw [List.length_cons, numB_len]; omega
theorem rbytes_any (m : Mg) (pV lV : Value) (w : World) (h : MgIn w m pV lV) (hr : rightM m = true) :
    Calls Tryd.prog 19 #[mv m pV lV] w fun e w' => (∃ v, e = .returned v ∧ OwnB w' w.heap.size v (bytesM m)) ∧ Below w.heap.size w w' := by
  have R := rightM_is hr
  have hp : ∀ c ∈ m.p, oneB c = true := by
    by_cases hk : m.k = 1 ∨ m.k = 3
    · exact rightP_one (R.pred hk)
    · rw [R.nopred hk]
      intro c hc
      cases hc
  have hl : ∀ c ∈ m.l, c.1.size ≤ 12 ∧ c.2.2.2.size ≤ 12 := by
    by_cases hk : m.k = 5
    · exact fun c hc => att_small (rightT_one (R.attrs hk) c hc)
    · rw [R.noattrs hk]
      intro c hc
      cases hc
  have hp5 : m.p.length ≤ 5 := by
    by_cases hk : m.k = 1 ∨ m.k = 3
    · exact rightP_len (R.pred hk)
    · rw [R.nopred hk]
      simp
  have hl5 : m.l.length ≤ 5 := by
    by_cases hk : m.k = 5
    · exact rightT_len (R.attrs hk)
    · rw [R.noattrs hk]
      simp
  have hpb : (m.p.flatMap conB).length ≤ 1000 := by
    have h1 := flat_most conB 40 m.p (fun c hc => con_len (hp c hc))
    omega
  have hlb : (m.l.flatMap attB).length ≤ 1000 := by
    have h1 := flat_most attB 40 m.l (fun c hc => att_len (hl c hc))
    omega
  have K := R.kind
  clear R hr
  obtain ⟨k, tc, ts, ic, is, p, l⟩ := m
  simp only at K hp hl hp5 hl5 hpb hlb
  rcases K with rfl | rfl | rfl | rfl | rfl
  · exact rby_1 tc ts ic is p l pV lV w h hp hl hp5 hl5 hpb hlb
  · exact rby_2 tc ts ic is p l pV lV w h hp hl hp5 hl5 hpb hlb
  · exact rby_3 tc ts ic is p l pV lV w h hp hl hp5 hl5 hpb hlb
  · exact rby_4 tc ts ic is p l pV lV w h hp hl hp5 hl5 hpb hlb
  · exact rby_5 tc ts ic is p l pV lV w h hp hl hp5 hl5 hpb hlb
end Go.Proofs.YtfcgfnmokbbcaaaDoor.Wr

namespace Go.Proofs.YtfcgfnmokbbcaaaDoor.Ws
open Go.RowKit Go.Sort Go.Proofs.YtfcgfnmokbbcaaaDoor Go.Proofs.YtfcgfnmokbbcaaaDoor.Rw Go.Proofs.YtfcgfnmokbbcaaaDoor.Nm Go.Proofs.YtfcgfnmokbbcaaaDoor.At Go.Proofs.YtfcgfnmokbbcaaaDoor.Pr Go.Proofs.YtfcgfnmokbbcaaaDoor.Wr Go.Proofs.YtfcgfnmokbbcaaaDoor.Va

abbrev wireTxt : ByteArray := ⟨#[119, 105, 114, 101]⟩
/-- A fault of package wire alone. -/
structure WFault (w : World) (v : Value) (r : Int) : Prop where
  ch : ∃ b, Fa.Ch w [(b, wireTxt, r)] v (.iface 34 (.int .i64 1))
theorem WFault.on {w w' : World} {v : Value} {r : Int} (h : WFault w v r) (hb : Below w.heap.size w w') : WFault w' v r := ⟨by obtain ⟨b, hc⟩ := h.ch; exact ⟨b, hc.bel hb⟩⟩
theorem wfault_new (w : World) (r : Int) : WFault (w.alloc (.cells #[.string wireTxt, .int .i64 r, .iface 34 (.int .i64 1)] 84)) (.iface 82 (.pointer (some ⟨w.heap.size, 0, none⟩))) r :=
  ⟨⟨w.heap.size, Fa.Ch.new (show Fa.Ch w [] (.iface 34 (.int .i64 1)) (.iface 34 (.int .i64 1)) from rfl) wireTxt r⟩⟩
set_option maxRecDepth 100000 in
set_option maxHeartbeats 8000000 in
theorem enc_no (m : Mg) (pV lV : Value) (w : World) (h : MgIn w m pV lV) (hs : Small m) (hl : m.l.length ≤ 1000) (hr : rightM m = false) :
    Calls Tryd.prog 8 #[mv m pV lV] w fun e w' => (∃ v, e = .returned (.tuple #[.slice none 0 0, v]) ∧ WFault w' v 0) ∧ Below w.heap.size w w' := by
  have B1 := Lib.hid (new_below w (.cells (mcells m pV lV) 32))
  have C := Lib.hid (wright_any m pV lV (w.alloc (.cells (mcells m pV lV) 32)) (h.on B1.out) hs hl)
  rw [hr] at C
  clear h hs hl hr
  obtain ⟨k, tc, ts, ic, is, p, l⟩ := m
  go_enter Tryd.func8, Tryd.ntmps8
  go_wp2_with fail
  refine C.out.mono ?_
  rintro e w1 ⟨rfl, hb⟩
  have B2 := Lib.hid (B1.out.trans (hb.mono B1.out.size))
  have N := Lib.hid (Fa.New_some wireTxt 0 34 (.int .i64 1) w1)
  clear hb C B1
  go_wp2_with fail
  refine N.out.mono ?_
  rintro e2 w2 ⟨rfl, rfl⟩
  have F := Lib.hid (wfault_new w1 0)
  have B3 := Lib.hid (B2.out.alloc B2.out.size (.cells #[.string wireTxt, .int .i64 0, .iface 34 (.int .i64 1)] 84))
  generalize w1.alloc (.cells #[.string wireTxt, .int .i64 0, .iface 34 (.int .i64 1)] 84) = w3 at *
  go_wp2
  go_ret2
  exact ⟨⟨_, rfl, F.out⟩, B3.out⟩
set_option maxRecDepth 100000 in
set_option maxHeartbeats 16000000 in
theorem enc_1 (tc ts ic is : Int) (p : List C5) (l : List A4) (pV lV : Value) (w : World) (h : MgIn w ⟨1, tc, ts, ic, is, p, l⟩ pV lV) (hs : Small ⟨1, tc, ts, ic, is, p, l⟩) (hr : rightM ⟨1, tc, ts, ic, is, p, l⟩ = true) (hp : ∀ c ∈ p, oneB c = true) (hl : ∀ c ∈ l, c.1.size ≤ 12 ∧ c.2.2.2.size ≤ 12) (hp5 : p.length ≤ 5) (hl5 : l.length ≤ 5) (hpb : (p.flatMap conB).length ≤ 200) (hlb : (l.flatMap attB).length ≤ 200) :
    Calls Tryd.prog 8 #[mv ⟨1, tc, ts, ic, is, p, l⟩ pV lV] w fun e w' => (∃ v, e = .returned (.tuple #[v, .nilIface]) ∧ OwnB w' w.heap.size v (bytesM ⟨1, tc, ts, ic, is, p, l⟩)) ∧ Below w.heap.size w w' := by
  have B1 := Lib.hid (new_below w (.cells (mcells ⟨1, tc, ts, ic, is, p, l⟩ pV lV) 32))
  have X1 := Lib.hid (box_new w (mcells ⟨1, tc, ts, ic, is, p, l⟩ pV lV) 32)
  have HP := Lib.hid h.p
  have HL := Lib.hid h.l
  have C := Lib.hid (wright_any ⟨1, tc, ts, ic, is, p, l⟩ pV lV (w.alloc (.cells (mcells ⟨1, tc, ts, ic, is, p, l⟩ pV lV) 32)) (h.on B1.out) hs (by show l.length ≤ 1000; omega))
  rw [hr] at C
  obtain ⟨po, pc, rfl⟩ := h.p.len
  obtain ⟨lo, lc, rfl⟩ := h.l.len
  have G1 := Lib.hid hp
  have G2 := Lib.hid hl
  have G3 := Lib.hid hpb
  have G4 := Lib.hid hlb
  have G5 := Lib.hid hp5
  have G6 := Lib.hid hl5
  clear h hp hl hpb hlb hp5 hl5 hr hs
  go_enter Tryd.func8, Tryd.ntmps8
  go_wp2_with fail
  refine C.out.mono ?_
  rintro e w1 ⟨rfl, hb⟩
  have X1' := Lib.hid (X1.out.on hb)
  have B1' := Lib.hid (B1.out.trans (hb.mono B1.out.size))
  clear hb C B1 X1
  go_upto_region 3 with fail
  refine en3 w.heap.size w.heap.size 1 tc ts ic is _ _ (UInt8.ofNat 1) _ w1 _ _ _ _ _ _ _ _ _ _ _ _ _ _ _ _ _ _ _ _ _ _ _ _ _ _ _ _ _ _ _ _ _ _ _ _ _ _ _ _ _ _ _ _ _ _ _ _ _ _ _ _ _ B1'.out.size X1'.out (by decide) ?_
  intro w2 v2 n10 n11 n12 n13 n14 n15 n16 n17 ho hb hx
  have O2 := Lib.hid ho
  have B2 := Lib.hid (B1'.out.trans hb)
  have X2 := Lib.hid hx
  clear ho hb hx X1' B1'
  try simp only [Exit.then]
  apply_assumption
  have T4 := Lib.hid (putpred_any _ p w2 (HP.out.on B2.out) G1.out G5.out)
  have c0 := X2.out.cell 0
  have c3 := X2.out.cell 3
  have c4 := X2.out.cell 4
  have c5 := X2.out.cell 5
  have c6 := X2.out.cell 6
  simp only [List.getElem?_toArray, List.getElem?_cons_zero, List.getElem?_cons_succ] at c0 c3 c4 c5 c6
  go_wp2_with fail
  refine T4.out.mono ?_
  rintro e w4a ⟨⟨va4, rfl, hoa⟩, hba⟩
  have Oa4 := Lib.hid (Rw.own_on O2.out hba)
  have Xa4 := Lib.hid (X2.out.on hba)
  have Ba4 := Lib.hid (B2.out.trans (hba.mono B2.out.size))
  obtain ⟨vb4, wb4, rb4, ob, grb, hbb⟩ := app_nextB (l := ([UInt8.ofNat 1] ++ (numB tc ++ numB ts))) (m := (UInt8.ofNat p.length :: p.flatMap conB)) (Nat.le_refl _) Ba4.out Oa4.out (Row.of_own hoa) (by have := G3.out; simp [numB_len] at this ⊢; omega)
  have Ob4 := Lib.hid ob
  have Xb4 := Lib.hid (box_grown Xa4.out grb (own_neB Oa4.out Xa4.out (by decide)))
  have Bb4 := Lib.hid hbb
  clear hoa hba ob grb hbb c0 c3 c4 c5 c6 T4 
  go_wp2_with (first | (at_builtin; first | refine wpList_append_run rfl _ _ 22 rfl rfl rfl rb4 ?_) | fail)
  go_ret2
  refine ⟨⟨_, rfl, ?_⟩, Bb4.out⟩
  have hh := Ob4.out
  have ee : bytesM ⟨1, tc, ts, ic, is, p, l⟩ = ([UInt8.ofNat 1] ++ (numB tc ++ numB ts) ++ (UInt8.ofNat p.length :: p.flatMap conB)) := by simp [bytesM, idB, predsB, attrsB]
  rw [ee]
  exact hh
set_option maxRecDepth 100000 in
set_option maxHeartbeats 16000000 in
theorem enc_2 (tc ts ic is : Int) (p : List C5) (l : List A4) (pV lV : Value) (w : World) (h : MgIn w ⟨2, tc, ts, ic, is, p, l⟩ pV lV) (hs : Small ⟨2, tc, ts, ic, is, p, l⟩) (hr : rightM ⟨2, tc, ts, ic, is, p, l⟩ = true) (hp : ∀ c ∈ p, oneB c = true) (hl : ∀ c ∈ l, c.1.size ≤ 12 ∧ c.2.2.2.size ≤ 12) (hp5 : p.length ≤ 5) (hl5 : l.length ≤ 5) (hpb : (p.flatMap conB).length ≤ 200) (hlb : (l.flatMap attB).length ≤ 200) :
    Calls Tryd.prog 8 #[mv ⟨2, tc, ts, ic, is, p, l⟩ pV lV] w fun e w' => (∃ v, e = .returned (.tuple #[v, .nilIface]) ∧ OwnB w' w.heap.size v (bytesM ⟨2, tc, ts, ic, is, p, l⟩)) ∧ Below w.heap.size w w' := by
  have B1 := Lib.hid (new_below w (.cells (mcells ⟨2, tc, ts, ic, is, p, l⟩ pV lV) 32))
  have X1 := Lib.hid (box_new w (mcells ⟨2, tc, ts, ic, is, p, l⟩ pV lV) 32)
  have HP := Lib.hid h.p
  have HL := Lib.hid h.l
  have C := Lib.hid (wright_any ⟨2, tc, ts, ic, is, p, l⟩ pV lV (w.alloc (.cells (mcells ⟨2, tc, ts, ic, is, p, l⟩ pV lV) 32)) (h.on B1.out) hs (by show l.length ≤ 1000; omega))
  rw [hr] at C
  obtain ⟨po, pc, rfl⟩ := h.p.len
  obtain ⟨lo, lc, rfl⟩ := h.l.len
  have G1 := Lib.hid hp
  have G2 := Lib.hid hl
  have G3 := Lib.hid hpb
  have G4 := Lib.hid hlb
  have G5 := Lib.hid hp5
  have G6 := Lib.hid hl5
  clear h hp hl hpb hlb hp5 hl5 hr hs
  go_enter Tryd.func8, Tryd.ntmps8
  go_wp2_with fail
  refine C.out.mono ?_
  rintro e w1 ⟨rfl, hb⟩
  have X1' := Lib.hid (X1.out.on hb)
  have B1' := Lib.hid (B1.out.trans (hb.mono B1.out.size))
  clear hb C B1 X1
  go_upto_region 3 with fail
  refine en3 w.heap.size w.heap.size 2 tc ts ic is _ _ (UInt8.ofNat 2) _ w1 _ _ _ _ _ _ _ _ _ _ _ _ _ _ _ _ _ _ _ _ _ _ _ _ _ _ _ _ _ _ _ _ _ _ _ _ _ _ _ _ _ _ _ _ _ _ _ _ _ _ _ _ _ B1'.out.size X1'.out (by decide) ?_
  intro w2 v2 n10 n11 n12 n13 n14 n15 n16 n17 ho hb hx
  have O2 := Lib.hid ho
  have B2 := Lib.hid (B1'.out.trans hb)
  have X2 := Lib.hid hx
  clear ho hb hx X1' B1'
  try simp only [Exit.then]
  apply_assumption
  have c0 := X2.out.cell 0
  have c3 := X2.out.cell 3
  have c4 := X2.out.cell 4
  have c5 := X2.out.cell 5
  have c6 := X2.out.cell 6
  simp only [List.getElem?_toArray, List.getElem?_cons_zero, List.getElem?_cons_succ] at c0 c3 c4 c5 c6
  go_wp2_with fail
  go_ret2
  refine ⟨⟨_, rfl, ?_⟩, B2.out⟩
  have hh := O2.out
  have ee : bytesM ⟨2, tc, ts, ic, is, p, l⟩ = ([UInt8.ofNat 2] ++ (numB tc ++ numB ts)) := by simp [bytesM, idB, predsB, attrsB]
  rw [ee]
  exact hh
set_option maxRecDepth 100000 in
set_option maxHeartbeats 16000000 in
theorem enc_3 (tc ts ic is : Int) (p : List C5) (l : List A4) (pV lV : Value) (w : World) (h : MgIn w ⟨3, tc, ts, ic, is, p, l⟩ pV lV) (hs : Small ⟨3, tc, ts, ic, is, p, l⟩) (hr : rightM ⟨3, tc, ts, ic, is, p, l⟩ = true) (hp : ∀ c ∈ p, oneB c = true) (hl : ∀ c ∈ l, c.1.size ≤ 12 ∧ c.2.2.2.size ≤ 12) (hp5 : p.length ≤ 5) (hl5 : l.length ≤ 5) (hpb : (p.flatMap conB).length ≤ 200) (hlb : (l.flatMap attB).length ≤ 200) :
    Calls Tryd.prog 8 #[mv ⟨3, tc, ts, ic, is, p, l⟩ pV lV] w fun e w' => (∃ v, e = .returned (.tuple #[v, .nilIface]) ∧ OwnB w' w.heap.size v (bytesM ⟨3, tc, ts, ic, is, p, l⟩)) ∧ Below w.heap.size w w' := by
  have B1 := Lib.hid (new_below w (.cells (mcells ⟨3, tc, ts, ic, is, p, l⟩ pV lV) 32))
  have X1 := Lib.hid (box_new w (mcells ⟨3, tc, ts, ic, is, p, l⟩ pV lV) 32)
  have HP := Lib.hid h.p
  have HL := Lib.hid h.l
  have C := Lib.hid (wright_any ⟨3, tc, ts, ic, is, p, l⟩ pV lV (w.alloc (.cells (mcells ⟨3, tc, ts, ic, is, p, l⟩ pV lV) 32)) (h.on B1.out) hs (by show l.length ≤ 1000; omega))
  rw [hr] at C
  obtain ⟨po, pc, rfl⟩ := h.p.len
  obtain ⟨lo, lc, rfl⟩ := h.l.len
  have G1 := Lib.hid hp
  have G2 := Lib.hid hl
  have G3 := Lib.hid hpb
  have G4 := Lib.hid hlb
  have G5 := Lib.hid hp5
  have G6 := Lib.hid hl5
  clear h hp hl hpb hlb hp5 hl5 hr hs
  go_enter Tryd.func8, Tryd.ntmps8
  go_wp2_with fail
  refine C.out.mono ?_
  rintro e w1 ⟨rfl, hb⟩
  have X1' := Lib.hid (X1.out.on hb)
  have B1' := Lib.hid (B1.out.trans (hb.mono B1.out.size))
  clear hb C B1 X1
  go_upto_region 3 with fail
  refine en3 w.heap.size w.heap.size 3 tc ts ic is _ _ (UInt8.ofNat 3) _ w1 _ _ _ _ _ _ _ _ _ _ _ _ _ _ _ _ _ _ _ _ _ _ _ _ _ _ _ _ _ _ _ _ _ _ _ _ _ _ _ _ _ _ _ _ _ _ _ _ _ _ _ _ _ B1'.out.size X1'.out (by decide) ?_
  intro w2 v2 n10 n11 n12 n13 n14 n15 n16 n17 ho hb hx
  have O2 := Lib.hid ho
  have B2 := Lib.hid (B1'.out.trans hb)
  have X2 := Lib.hid hx
  clear ho hb hx X1' B1'
  try simp only [Exit.then]
  apply_assumption
  have T3 := Lib.hid (id_any ic is w2)
  have c0 := X2.out.cell 0
  have c3 := X2.out.cell 3
  have c4 := X2.out.cell 4
  have c5 := X2.out.cell 5
  have c6 := X2.out.cell 6
  simp only [List.getElem?_toArray, List.getElem?_cons_zero, List.getElem?_cons_succ] at c0 c3 c4 c5 c6
  go_wp2_with fail
  refine T3.out.mono ?_
  rintro e w3a ⟨⟨va3, rfl, hoa⟩, hba⟩
  have Oa3 := Lib.hid (Rw.own_on O2.out hba)
  have Xa3 := Lib.hid (X2.out.on hba)
  have Ba3 := Lib.hid (B2.out.trans (hba.mono B2.out.size))
  obtain ⟨vb3, wb3, rb3, ob, grb, hbb⟩ := app_nextB (l := ([UInt8.ofNat 3] ++ (numB tc ++ numB ts))) (m := (numB ic ++ numB is)) (Nat.le_refl _) Ba3.out Oa3.out (Row.of_own hoa) (by simp [numB_len])
  have Ob3 := Lib.hid ob
  have Xb3 := Lib.hid (box_grown Xa3.out grb (own_neB Oa3.out Xa3.out (by decide)))
  have Bb3 := Lib.hid hbb
  clear hoa hba ob grb hbb c0 c3 c4 c5 c6 T3 
  have T4 := Lib.hid (putpred_any _ p wb3 (HP.out.on Bb3.out) G1.out G5.out)
  have c0 := Xb3.out.cell 0
  have c3 := Xb3.out.cell 3
  have c4 := Xb3.out.cell 4
  have c5 := Xb3.out.cell 5
  have c6 := Xb3.out.cell 6
  simp only [List.getElem?_toArray, List.getElem?_cons_zero, List.getElem?_cons_succ] at c0 c3 c4 c5 c6
  go_wp2_with (first | (at_builtin; first | refine wpList_append_run rfl _ _ 22 rfl rfl rfl rb3 ?_) | fail)
  refine T4.out.mono ?_
  rintro e w4a ⟨⟨va4, rfl, hoa⟩, hba⟩
  have Oa4 := Lib.hid (Rw.own_on Ob3.out hba)
  have Xa4 := Lib.hid (Xb3.out.on hba)
  have Ba4 := Lib.hid (Bb3.out.trans (hba.mono Bb3.out.size))
  obtain ⟨vb4, wb4, rb4, ob, grb, hbb⟩ := app_nextB (l := ([UInt8.ofNat 3] ++ (numB tc ++ numB ts) ++ (numB ic ++ numB is))) (m := (UInt8.ofNat p.length :: p.flatMap conB)) (Nat.le_refl _) Ba4.out Oa4.out (Row.of_own hoa) (by have := G3.out; simp [numB_len] at this ⊢; omega)
  have Ob4 := Lib.hid ob
  have Xb4 := Lib.hid (box_grown Xa4.out grb (own_neB Oa4.out Xa4.out (by decide)))
  have Bb4 := Lib.hid hbb
  clear hoa hba ob grb hbb c0 c3 c4 c5 c6 T4 rb3
  go_wp2_with (first | (at_builtin; first | refine wpList_append_run rfl _ _ 22 rfl rfl rfl rb4 ?_) | fail)
  go_ret2
  refine ⟨⟨_, rfl, ?_⟩, Bb4.out⟩
  have hh := Ob4.out
  have ee : bytesM ⟨3, tc, ts, ic, is, p, l⟩ = ([UInt8.ofNat 3] ++ (numB tc ++ numB ts) ++ (numB ic ++ numB is) ++ (UInt8.ofNat p.length :: p.flatMap conB)) := by simp [bytesM, idB, predsB, attrsB]
  rw [ee]
  exact hh
set_option maxRecDepth 100000 in
set_option maxHeartbeats 16000000 in
theorem enc_4 (tc ts ic is : Int) (p : List C5) (l : List A4) (pV lV : Value) (w : World) (h : MgIn w ⟨4, tc, ts, ic, is, p, l⟩ pV lV) (hs : Small ⟨4, tc, ts, ic, is, p, l⟩) (hr : rightM ⟨4, tc, ts, ic, is, p, l⟩ = true) (hp : ∀ c ∈ p, oneB c = true) (hl : ∀ c ∈ l, c.1.size ≤ 12 ∧ c.2.2.2.size ≤ 12) (hp5 : p.length ≤ 5) (hl5 : l.length ≤ 5) (hpb : (p.flatMap conB).length ≤ 200) (hlb : (l.flatMap attB).length ≤ 200) :
    Calls Tryd.prog 8 #[mv ⟨4, tc, ts, ic, is, p, l⟩ pV lV] w fun e w' => (∃ v, e = .returned (.tuple #[v, .nilIface]) ∧ OwnB w' w.heap.size v (bytesM ⟨4, tc, ts, ic, is, p, l⟩)) ∧ Below w.heap.size w w' := by
  have B1 := Lib.hid (new_below w (.cells (mcells ⟨4, tc, ts, ic, is, p, l⟩ pV lV) 32))
  have X1 := Lib.hid (box_new w (mcells ⟨4, tc, ts, ic, is, p, l⟩ pV lV) 32)
  have HP := Lib.hid h.p
  have HL := Lib.hid h.l
  have C := Lib.hid (wright_any ⟨4, tc, ts, ic, is, p, l⟩ pV lV (w.alloc (.cells (mcells ⟨4, tc, ts, ic, is, p, l⟩ pV lV) 32)) (h.on B1.out) hs (by show l.length ≤ 1000; omega))
  rw [hr] at C
  obtain ⟨po, pc, rfl⟩ := h.p.len
  obtain ⟨lo, lc, rfl⟩ := h.l.len
  have G1 := Lib.hid hp
  have G2 := Lib.hid hl
  have G3 := Lib.hid hpb
  have G4 := Lib.hid hlb
  have G5 := Lib.hid hp5
  have G6 := Lib.hid hl5
  clear h hp hl hpb hlb hp5 hl5 hr hs
  go_enter Tryd.func8, Tryd.ntmps8
  go_wp2_with fail
  refine C.out.mono ?_
  rintro e w1 ⟨rfl, hb⟩
  have X1' := Lib.hid (X1.out.on hb)
  have B1' := Lib.hid (B1.out.trans (hb.mono B1.out.size))
  clear hb C B1 X1
  go_upto_region 3 with fail
  refine en3 w.heap.size w.heap.size 4 tc ts ic is _ _ (UInt8.ofNat 4) _ w1 _ _ _ _ _ _ _ _ _ _ _ _ _ _ _ _ _ _ _ _ _ _ _ _ _ _ _ _ _ _ _ _ _ _ _ _ _ _ _ _ _ _ _ _ _ _ _ _ _ _ _ _ _ B1'.out.size X1'.out (by decide) ?_
  intro w2 v2 n10 n11 n12 n13 n14 n15 n16 n17 ho hb hx
  have O2 := Lib.hid ho
  have B2 := Lib.hid (B1'.out.trans hb)
  have X2 := Lib.hid hx
  clear ho hb hx X1' B1'
  try simp only [Exit.then]
  apply_assumption
  have T3 := Lib.hid (id_any ic is w2)
  have c0 := X2.out.cell 0
  have c3 := X2.out.cell 3
  have c4 := X2.out.cell 4
  have c5 := X2.out.cell 5
  have c6 := X2.out.cell 6
  simp only [List.getElem?_toArray, List.getElem?_cons_zero, List.getElem?_cons_succ] at c0 c3 c4 c5 c6
  go_wp2_with fail
  refine T3.out.mono ?_
  rintro e w3a ⟨⟨va3, rfl, hoa⟩, hba⟩
  have Oa3 := Lib.hid (Rw.own_on O2.out hba)
  have Xa3 := Lib.hid (X2.out.on hba)
  have Ba3 := Lib.hid (B2.out.trans (hba.mono B2.out.size))
  obtain ⟨vb3, wb3, rb3, ob, grb, hbb⟩ := app_nextB (l := ([UInt8.ofNat 4] ++ (numB tc ++ numB ts))) (m := (numB ic ++ numB is)) (Nat.le_refl _) Ba3.out Oa3.out (Row.of_own hoa) (by simp [numB_len])
  have Ob3 := Lib.hid ob
  have Xb3 := Lib.hid (box_grown Xa3.out grb (own_neB Oa3.out Xa3.out (by decide)))
  have Bb3 := Lib.hid hbb
  clear hoa hba ob grb hbb c0 c3 c4 c5 c6 T3 
  go_wp2_with (first | (at_builtin; first | refine wpList_append_run rfl _ _ 22 rfl rfl rfl rb3 ?_) | fail)
  go_ret2
  refine ⟨⟨_, rfl, ?_⟩, Bb3.out⟩
  have hh := Ob3.out
  have ee : bytesM ⟨4, tc, ts, ic, is, p, l⟩ = ([UInt8.ofNat 4] ++ (numB tc ++ numB ts) ++ (numB ic ++ numB is)) := by simp [bytesM, idB, predsB, attrsB]
  rw [ee]
  exact hh
set_option maxRecDepth 100000 in
set_option maxHeartbeats 16000000 in
theorem enc_5 (tc ts ic is : Int) (p : List C5) (l : List A4) (pV lV : Value) (w : World) (h : MgIn w ⟨5, tc, ts, ic, is, p, l⟩ pV lV) (hs : Small ⟨5, tc, ts, ic, is, p, l⟩) (hr : rightM ⟨5, tc, ts, ic, is, p, l⟩ = true) (hp : ∀ c ∈ p, oneB c = true) (hl : ∀ c ∈ l, c.1.size ≤ 12 ∧ c.2.2.2.size ≤ 12) (hp5 : p.length ≤ 5) (hl5 : l.length ≤ 5) (hpb : (p.flatMap conB).length ≤ 200) (hlb : (l.flatMap attB).length ≤ 200) :
    Calls Tryd.prog 8 #[mv ⟨5, tc, ts, ic, is, p, l⟩ pV lV] w fun e w' => (∃ v, e = .returned (.tuple #[v, .nilIface]) ∧ OwnB w' w.heap.size v (bytesM ⟨5, tc, ts, ic, is, p, l⟩)) ∧ Below w.heap.size w w' := by
  have B1 := Lib.hid (new_below w (.cells (mcells ⟨5, tc, ts, ic, is, p, l⟩ pV lV) 32))
  have X1 := Lib.hid (box_new w (mcells ⟨5, tc, ts, ic, is, p, l⟩ pV lV) 32)
  have HP := Lib.hid h.p
  have HL := Lib.hid h.l
  have C := Lib.hid (wright_any ⟨5, tc, ts, ic, is, p, l⟩ pV lV (w.alloc (.cells (mcells ⟨5, tc, ts, ic, is, p, l⟩ pV lV) 32)) (h.on B1.out) hs (by show l.length ≤ 1000; omega))
  rw [hr] at C
  obtain ⟨po, pc, rfl⟩ := h.p.len
  obtain ⟨lo, lc, rfl⟩ := h.l.len
  have G1 := Lib.hid hp
  have G2 := Lib.hid hl
  have G3 := Lib.hid hpb
  have G4 := Lib.hid hlb
  have G5 := Lib.hid hp5
  have G6 := Lib.hid hl5
  clear h hp hl hpb hlb hp5 hl5 hr hs
  go_enter Tryd.func8, Tryd.ntmps8
  go_wp2_with fail
  refine C.out.mono ?_
  rintro e w1 ⟨rfl, hb⟩
  have X1' := Lib.hid (X1.out.on hb)
  have B1' := Lib.hid (B1.out.trans (hb.mono B1.out.size))
  clear hb C B1 X1
  go_upto_region 3 with fail
  refine en3 w.heap.size w.heap.size 5 tc ts ic is _ _ (UInt8.ofNat 5) _ w1 _ _ _ _ _ _ _ _ _ _ _ _ _ _ _ _ _ _ _ _ _ _ _ _ _ _ _ _ _ _ _ _ _ _ _ _ _ _ _ _ _ _ _ _ _ _ _ _ _ _ _ _ _ B1'.out.size X1'.out (by decide) ?_
  intro w2 v2 n10 n11 n12 n13 n14 n15 n16 n17 ho hb hx
  have O2 := Lib.hid ho
  have B2 := Lib.hid (B1'.out.trans hb)
  have X2 := Lib.hid hx
  clear ho hb hx X1' B1'
  try simp only [Exit.then]
  apply_assumption
  have T3 := Lib.hid (id_any ic is w2)
  have c0 := X2.out.cell 0
  have c3 := X2.out.cell 3
  have c4 := X2.out.cell 4
  have c5 := X2.out.cell 5
  have c6 := X2.out.cell 6
  simp only [List.getElem?_toArray, List.getElem?_cons_zero, List.getElem?_cons_succ] at c0 c3 c4 c5 c6
  go_wp2_with fail
  refine T3.out.mono ?_
  rintro e w3a ⟨⟨va3, rfl, hoa⟩, hba⟩
  have Oa3 := Lib.hid (Rw.own_on O2.out hba)
  have Xa3 := Lib.hid (X2.out.on hba)
  have Ba3 := Lib.hid (B2.out.trans (hba.mono B2.out.size))
  obtain ⟨vb3, wb3, rb3, ob, grb, hbb⟩ := app_nextB (l := ([UInt8.ofNat 5] ++ (numB tc ++ numB ts))) (m := (numB ic ++ numB is)) (Nat.le_refl _) Ba3.out Oa3.out (Row.of_own hoa) (by simp [numB_len])
  have Ob3 := Lib.hid ob
  have Xb3 := Lib.hid (box_grown Xa3.out grb (own_neB Oa3.out Xa3.out (by decide)))
  have Bb3 := Lib.hid hbb
  clear hoa hba ob grb hbb c0 c3 c4 c5 c6 T3 
  have T5 := Lib.hid (putattrs_any _ l wb3 (HL.out.on Bb3.out) G2.out G6.out)
  have c0 := Xb3.out.cell 0
  have c3 := Xb3.out.cell 3
  have c4 := Xb3.out.cell 4
  have c5 := Xb3.out.cell 5
  have c6 := Xb3.out.cell 6
  simp only [List.getElem?_toArray, List.getElem?_cons_zero, List.getElem?_cons_succ] at c0 c3 c4 c5 c6
  go_wp2_with (first | (at_builtin; first | refine wpList_append_run rfl _ _ 22 rfl rfl rfl rb3 ?_) | fail)
  refine T5.out.mono ?_
  rintro e w5a ⟨⟨va5, rfl, hoa⟩, hba⟩
  have Oa5 := Lib.hid (Rw.own_on Ob3.out hba)
  have Xa5 := Lib.hid (Xb3.out.on hba)
  have Ba5 := Lib.hid (Bb3.out.trans (hba.mono Bb3.out.size))
  obtain ⟨vb5, wb5, rb5, ob, grb, hbb⟩ := app_nextB (l := ([UInt8.ofNat 5] ++ (numB tc ++ numB ts) ++ (numB ic ++ numB is))) (m := (UInt8.ofNat l.length :: l.flatMap attB)) (Nat.le_refl _) Ba5.out Oa5.out (Row.of_own hoa) (by have := G4.out; simp [numB_len] at this ⊢; omega)
  have Ob5 := Lib.hid ob
  have Xb5 := Lib.hid (box_grown Xa5.out grb (own_neB Oa5.out Xa5.out (by decide)))
  have Bb5 := Lib.hid hbb
  clear hoa hba ob grb hbb c0 c3 c4 c5 c6 T5 rb3
  go_wp2_with (first | (at_builtin; first | refine wpList_append_run rfl _ _ 22 rfl rfl rfl rb5 ?_) | fail)
  go_ret2
  refine ⟨⟨_, rfl, ?_⟩, Bb5.out⟩
  have hh := Ob5.out
  have ee : bytesM ⟨5, tc, ts, ic, is, p, l⟩ = ([UInt8.ofNat 5] ++ (numB tc ++ numB ts) ++ (numB ic ++ numB is) ++ (UInt8.ofNat l.length :: l.flatMap attB)) := by simp [bytesM, idB, predsB, attrsB]
  rw [ee]
  exact hh
theorem cons_most : ∀ l : List C5, (∀ c ∈ l, oneB c = true) → (l.flatMap conB).length ≤ l.length * 40 := fun l h => flat_most conB 40 l (fun c hc => con_len (h c hc))
theorem enc_ok (m : Mg) (pV lV : Value) (w : World) (h : MgIn w m pV lV) (hs : Small m) (hr : rightM m = true) :
    Calls Tryd.prog 8 #[mv m pV lV] w fun e w' => (∃ v, e = .returned (.tuple #[v, .nilIface]) ∧ OwnB w' w.heap.size v (bytesM m)) ∧ Below w.heap.size w w' := by
  have R := rightM_is hr
  have hp : ∀ c ∈ m.p, oneB c = true := by
    by_cases hk : m.k = 1 ∨ m.k = 3
    · exact rightP_one (R.pred hk)
    · rw [R.nopred hk]
      intro c hc
      cases hc
  have hl : ∀ c ∈ m.l, c.1.size ≤ 12 ∧ c.2.2.2.size ≤ 12 := by
    by_cases hk : m.k = 5
    · exact fun c hc => att_small (rightT_one (R.attrs hk) c hc)
    · rw [R.noattrs hk]
      intro c hc
      cases hc
  have hp5 : m.p.length ≤ 5 := by
    by_cases hk : m.k = 1 ∨ m.k = 3
    · exact rightP_len (R.pred hk)
    · rw [R.nopred hk]
      simp
  have hl5 : m.l.length ≤ 5 := by
    by_cases hk : m.k = 5
    · exact rightT_len (R.attrs hk)
    · rw [R.noattrs hk]
      simp
  have hpb : (m.p.flatMap conB).length ≤ 200 := by
    have h1 := cons_most m.p hp
    omega
  have hlb : (m.l.flatMap attB).length ≤ 200 := by
    have h1 := atts_most m.l hl
    omega
  have K := R.kind
  clear R
  obtain ⟨k, tc, ts, ic, is, p, l⟩ := m
  simp only at K hp hl hp5 hl5 hpb hlb
  rcases K with rfl | rfl | rfl | rfl | rfl
  · exact enc_1 tc ts ic is p l pV lV w h hs hr hp hl hp5 hl5 hpb hlb
  · exact enc_2 tc ts ic is p l pV lV w h hs hr hp hl hp5 hl5 hpb hlb
  · exact enc_3 tc ts ic is p l pV lV w h hs hr hp hl hp5 hl5 hpb hlb
  · exact enc_4 tc ts ic is p l pV lV w h hs hr hp hl hp5 hl5 hpb hlb
  · exact enc_5 tc ts ic is p l pV lV w h hs hr hp hl hp5 hl5 hpb hlb
end Go.Proofs.YtfcgfnmokbbcaaaDoor.Ws
