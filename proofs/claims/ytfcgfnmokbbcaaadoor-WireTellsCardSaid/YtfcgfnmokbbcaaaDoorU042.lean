/-
  The region of WireTells that draws: a message of short lists and another of numbers, each in a variable of its own. Condition: lists no longer than a machine holds.
  The region of WireTells that draws: a message of short lists and another of numbers, each in a variable of its own. Condition: lists no longer than a machine holds.
-/
import Derived.Test.YtfcgfnmokbbcaaaDoorU041
namespace Go.Proofs.YtfcgfnmokbbcaaaDoor.Rg
open Go.RowKit
theorem ex_alloc {P : Program} (ρ : Operand → Value) (o : Oper) (t : TypeId) (ho : o.op = .alloc t) {v : Value} {w w' : World} (hr : (Instr.alloc t true (.tuple #[])).run P w = .ok v w') : (execOp ρ o).run P w = .ok (.value v) w' := by
  simp [execOp, ho, hr, Result.andThen]
end Go.Proofs.YtfcgfnmokbbcaaaDoor.Rg
namespace Go.Proofs.YtfcgfnmokbbcaaaDoor.Ws
open Go.RowKit Go.Sort Go.Proofs.YtfcgfnmokbbcaaaDoor Go.Proofs.YtfcgfnmokbbcaaaDoor.Rw Go.Proofs.YtfcgfnmokbbcaaaDoor.Nm Go.Proofs.YtfcgfnmokbbcaaaDoor.At Go.Proofs.YtfcgfnmokbbcaaaDoor.Pr Go.Proofs.YtfcgfnmokbbcaaaDoor.Wr Go.Proofs.YtfcgfnmokbbcaaaDoor.Va Go.Proofs.YtfcgfnmokbbcaaaDoor.In

/-- A row whose elements begin with a text lies in no block that holds none. -/
theorem row_text {α : Type} {E : Ek α} (hE : ∀ c : α, ∃ s, (E.cells c)[0]? = some (.string s)) {W W' : World} {b : Nat} {cs : Array Value} {t : TypeId} {v : Value} {l : List α} (h : Row E W v l) (hb : Box W b cs t) (hcs : ∀ (j : Nat) (s : ByteArray), cs[j]? ≠ some (.string s)) (hk : ∀ j, j ≠ b → W'.heap[j]? = W.heap[j]?) : Row E W' v l := by
  rcases h with h | ⟨a, cap, h1, h2, h3, h4⟩
  · exact Or.inl h
  · refine Or.inr ⟨a, cap, h1, h2, h3, fun j u hj => ?_⟩
    cases l with
    | nil => simp [flat] at hj
    | cons c r =>
      obtain ⟨s, hs⟩ := hE c
      have h0 : (flat E (c :: r))[0]? = some (.string s) := by
        rw [flat, List.getElem?_append_left (List.getElem?_eq_some_iff.1 hs).1]
        exact hs
      have hc := h4 0 _ h0
      have hne : a.block ≠ b := fun e => by
        have e2 : a.add 0 = a := Addr.add_zero' a
        rw [e2] at hc
        unfold World.cell? at hc
        unfold Box at hb
        rw [e, hb] at hc
        have hc' : a.spot = none ∧ cs[a.off]? = some (.string s) := by simpa using hc
        exact hcs _ s hc'.2
      have hcj := h4 j u hj
      have hbj : (a.add j).block = a.block := by unfold Addr.add; split <;> rfl
      unfold World.cell? at hcj ⊢
      rw [hbj] at hcj ⊢
      rw [hk _ hne]
      exact hcj
theorem mgin_keep {W W' : World} {b : Nat} {cs : Array Value} {t : TypeId} {m : Mg} {pv lv : Value} (h : MgIn W m pv lv) (hb : Box W b cs t) (hcs : ∀ (j : Nat) (s : ByteArray), cs[j]? ≠ some (.string s)) (hk : ∀ j, j ≠ b → W'.heap[j]? = W.heap[j]?) : MgIn W' m pv lv :=
  ⟨row_text (fun c => ⟨c.1, rfl⟩) h.p hb hcs hk, row_EA.2 (row_text (fun c => ⟨c.1, rfl⟩) (row_EA.1 h.l) hb hcs hk)⟩
theorem seven_text (a b c d e : Int) (s t : Option Addr) (m n o p : Nat) : ∀ (j : Nat) (x : ByteArray), (#[.int .i64 a, .int .i64 b, .int .i64 c, .int .i64 d, .int .i64 e, .slice s m n, .slice t o p] : Array Value)[j]? ≠ some (.string x) := by
  intro j x h
  match j with
  | 0 => simp at h
  | 1 => simp at h
  | 2 => simp at h
  | 3 => simp at h
  | 4 => simp at h
  | 5 => simp at h
  | 6 => simp at h
  | j + 7 => simp at h
theorem storeM {W : World} {b : Nat} {z0 z1 z2 z3 z4 z5 z6 : Value} (h : Box W b #[z0, z1, z2, z3, z4, z5, z6] 32) (a b' c d e : Int) (s t : Option Addr) (m n o p : Nat) :
    (Instr.storeAt 32 (.pointer (some ⟨b, 0, none⟩)) (.agg #[.int .i64 a, .int .i64 b', .int .i64 c, .int .i64 d, .int .i64 e, .slice s m n, .slice t o p])).run Tryd.prog W = .ok () (setM W b (.int .i64 a) (.int .i64 b') (.int .i64 c) (.int .i64 d) (.int .i64 e) (.slice s m n) (.slice t o p)) := by
  have x0 := h.cell 0
  have x1 := h.cell 1
  have x2 := h.cell 2
  have x3 := h.cell 3
  have x4 := h.cell 4
  have x5 := h.cell 5
  have x6 := h.cell 6
  simp only [List.getElem?_toArray, List.getElem?_cons_zero, List.getElem?_cons_succ] at x0 x1 x2 x3 x4 x5 x6
  have f0 := h.fr 0
  have f1 := h.fr 1
  have f2 := h.fr 2
  have f3 := h.fr 3
  have f4 := h.fr 4
  have f5 := h.fr 5
  have f6 := h.fr 6
  simp [go_sem, x0, x1, x2, x3, x4, x5, x6, f0, f1, f2, f3, f4, f5, f6]
theorem loadM {W : World} {b : Nat} {z0 z1 z2 z3 z4 z5 z6 : Value} (h : Box W b #[z0, z1, z2, z3, z4, z5, z6] 32) : (Instr.loadAt 32 (.pointer (some ⟨b, 0, none⟩))).run Tryd.prog W = .ok (.agg #[z0, z1, z2, z3, z4, z5, z6]) W := by
  have x0 := h.cell 0
  have x1 := h.cell 1
  have x2 := h.cell 2
  have x3 := h.cell 3
  have x4 := h.cell 4
  have x5 := h.cell 5
  have x6 := h.cell 6
  simp only [List.getElem?_toArray, List.getElem?_cons_zero, List.getElem?_cons_succ] at x0 x1 x2 x3 x4 x5 x6
  simp [go_sem, x0, x1, x2, x3, x4, x5, x6]
theorem loadK {W : World} {b : Nat} {z0 z1 z2 z3 z4 z5 z6 z7 z8 : Value} (h : Box W b #[z0, z1, z2, z3, z4, z5, z6, z7, z8] 42) : (Instr.loadAt 42 (.pointer (some ⟨b, 0, none⟩))).run Tryd.prog W = .ok (.agg #[z0, z1, z2, z3, z4, z5, z6, z7, z8]) W := by
  have x0 := h.cell 0
  have x1 := h.cell 1
  have x2 := h.cell 2
  have x3 := h.cell 3
  have x4 := h.cell 4
  have x5 := h.cell 5
  have x6 := h.cell 6
  have x7 := h.cell 7
  have x8 := h.cell 8
  simp only [List.getElem?_toArray, List.getElem?_cons_zero, List.getElem?_cons_succ] at x0 x1 x2 x3 x4 x5 x6 x7 x8
  simp [go_sem, x0, x1, x2, x3, x4, x5, x6, x7, x8]
end Go.Proofs.YtfcgfnmokbbcaaaDoor.Ws

namespace Go.Proofs.YtfcgfnmokbbcaaaDoor.Ws
open Go.RowKit Go.Sort Go.Proofs.YtfcgfnmokbbcaaaDoor Go.Proofs.YtfcgfnmokbbcaaaDoor.Rw Go.Proofs.YtfcgfnmokbbcaaaDoor.Nm Go.Proofs.YtfcgfnmokbbcaaaDoor.At Go.Proofs.YtfcgfnmokbbcaaaDoor.Pr Go.Proofs.YtfcgfnmokbbcaaaDoor.Wr Go.Proofs.YtfcgfnmokbbcaaaDoor.Va Go.Proofs.YtfcgfnmokbbcaaaDoor.In

def rV (B : Nat) (m : Mg) (mp ml : Value) (h_ : Kg) (ka kb kc kd : Value) (i : Nat) (v : Value) (x : World) : Prop :=
  match i with
  | 0 => v = mv m mp ml
  | 1 => ∃ pv lv, v = mv (tameM m) pv lv ∧ MgIn x (tameM m) pv lv
  | 2 => v = kgv h_ ka kb kc kd
  | 3 => ∃ pv lv, v = mv h_.m pv lv ∧ MgIn x h_.m pv lv
  | 4 => ∃ g, v = .pointer (some ⟨g, 0, none⟩) ∧ B ≤ g ∧ Box x g zeroM 32
  | 5 => ∃ g, v = .pointer (some ⟨g, 0, none⟩) ∧ B ≤ g ∧ Box x g zeroM 32
  | _ => True
noncomputable def tellsR1 : Code := ((Tryd.f4.body.bind (findRegion 1)).getD .skip)
set_option maxRecDepth 100000 in
set_option maxHeartbeats 8000000 in
theorem tells_r1 (Q : Exit → Act → World → Prop) (W : World) (b4 b6 : Nat) (m : Mg) (mp ml : Value) (h_ : Kg) (ka kb kc kd : Value) (u0 u1 u2 u3 u5 u7 u8 u9 u10 u11 u12 u13 u14 u15 u16 u17 u18 u19 u20 u21 u22 u23 u24 u25 u26 u27 u28 u29 u30 u31 u32 u33 u34 u35 u36 u37 u38 u39 u40 u41 u42 u43 u44 u45 u46 u47 u48 u49 u50 u51 u52 u53 u54 u55 u56 u57 u58 u59 u60 u61 u62 u63 u64 u65 u66 u67 u68 u69 u70 u71 u72 u73 u74 u75 u76 u77 u78 u79 u80 u81 u82 u83 u84 u85 u86 u87 u88 u89 u90 u91 u92 u93 u94 u95 u96 u97 u98 u99 u100 u101 u102 u103 u104 u105 u106 u107 u108 u109 u110 u111 u112 u113 u114 u115 u116 u117 u118 : Value)
    (h4 : Box W b4 #[.int .i64 m.k, .int .i64 m.tc, .int .i64 m.ts, .int .i64 m.ic, .int .i64 m.is, mp, ml] 32) (hm : MgIn W m mp ml) (h6 : Box W b6 #[.int .i64 h_.kd, .int .i64 h_.cl, .int .i64 h_.sq, .int .i64 h_.ow, .int .i64 h_.nm, ka, kb, kc, kd] 42) (hk : KgIn W h_ ka kb kc kd)
    (hQ : ∀ (x : World) (g9 g10 : Nat) (pv lv nv ov : Value) (v11 v12 v13 v14 v15 v16 v17 v18 v19 v20 v21 : Value), Box x g9 #[.int .i64 m.k, .int .i64 m.tc, .int .i64 m.ts, .int .i64 m.ic, .int .i64 m.is, pv, lv] 32 → Box x g10 #[.int .i64 h_.m.k, .int .i64 h_.m.tc, .int .i64 h_.m.ts, .int .i64 h_.m.ic, .int .i64 h_.m.is, nv, ov] 32 → MgIn x (tameM m) pv lv → MgIn x h_.m nv ov → g9 ≠ g10 → W.heap.size ≤ g9 → W.heap.size ≤ g10 → Below W.heap.size W x → Q .normal ⟨(u0 :: u1 :: u2 :: u3 :: .pointer (some ⟨b4, 0, none⟩) :: u5 :: .pointer (some ⟨b6, 0, none⟩) :: u7 :: u8 :: .pointer (some ⟨g9, 0, none⟩) :: .pointer (some ⟨g10, 0, none⟩) :: v11 :: v12 :: v13 :: v14 :: v15 :: v16 :: v17 :: v18 :: v19 :: v20 :: v21 :: u22 :: u23 :: u24 :: u25 :: u26 :: u27 :: u28 :: u29 :: u30 :: u31 :: u32 :: u33 :: u34 :: u35 :: u36 :: u37 :: u38 :: u39 :: u40 :: u41 :: u42 :: u43 :: u44 :: u45 :: u46 :: u47 :: u48 :: u49 :: u50 :: u51 :: u52 :: u53 :: u54 :: u55 :: u56 :: u57 :: u58 :: u59 :: u60 :: u61 :: u62 :: u63 :: u64 :: u65 :: u66 :: u67 :: u68 :: u69 :: u70 :: u71 :: u72 :: u73 :: u74 :: u75 :: u76 :: u77 :: u78 :: u79 :: u80 :: u81 :: u82 :: u83 :: u84 :: u85 :: u86 :: u87 :: u88 :: u89 :: u90 :: u91 :: u92 :: u93 :: u94 :: u95 :: u96 :: u97 :: u98 :: u99 :: u100 :: u101 :: u102 :: u103 :: u104 :: u105 :: u106 :: u107 :: u108 :: u109 :: u110 :: u111 :: u112 :: u113 :: u114 :: u115 :: u116 :: u117 :: u118 :: []).toArray, []⟩ x) :
    Code.wp Tryd.prog tellsR1 Q ⟨(u0 :: u1 :: u2 :: u3 :: .pointer (some ⟨b4, 0, none⟩) :: u5 :: .pointer (some ⟨b6, 0, none⟩) :: u7 :: u8 :: u9 :: u10 :: u11 :: u12 :: u13 :: u14 :: u15 :: u16 :: u17 :: u18 :: u19 :: u20 :: u21 :: u22 :: u23 :: u24 :: u25 :: u26 :: u27 :: u28 :: u29 :: u30 :: u31 :: u32 :: u33 :: u34 :: u35 :: u36 :: u37 :: u38 :: u39 :: u40 :: u41 :: u42 :: u43 :: u44 :: u45 :: u46 :: u47 :: u48 :: u49 :: u50 :: u51 :: u52 :: u53 :: u54 :: u55 :: u56 :: u57 :: u58 :: u59 :: u60 :: u61 :: u62 :: u63 :: u64 :: u65 :: u66 :: u67 :: u68 :: u69 :: u70 :: u71 :: u72 :: u73 :: u74 :: u75 :: u76 :: u77 :: u78 :: u79 :: u80 :: u81 :: u82 :: u83 :: u84 :: u85 :: u86 :: u87 :: u88 :: u89 :: u90 :: u91 :: u92 :: u93 :: u94 :: u95 :: u96 :: u97 :: u98 :: u99 :: u100 :: u101 :: u102 :: u103 :: u104 :: u105 :: u106 :: u107 :: u108 :: u109 :: u110 :: u111 :: u112 :: u113 :: u114 :: u115 :: u116 :: u117 :: u118 :: []).toArray, []⟩ W := by
  have HQ := Lib.hid hQ
  have H4 := Lib.hid h4
  have H6 := Lib.hid h6
  have HM := Lib.hid hm
  have HK := Lib.hid hk
  clear hQ h4 h6 hm hk
  unfold tellsR1
  conv => arg 2; whnf
  obtain ⟨d, hd⟩ : ∃ d : Nat → Nat, d = fun i => [18, 19, 20, 21, 9, 10].getD i 9 := ⟨_, rfl⟩
  have nd : ∀ j, (j < 9 ∨ 22 ≤ j) → ∀ i, i < 6 → d i ≠ j := by
    rw [hd]
    intro j hj i hi
    rcases (by omega : i = 0 ∨ i = 1 ∨ i = 2 ∨ i = 3 ∨ i = 4 ∨ i = 5) with rfl | rfl | rfl | rfl | rfl | rfl <;> simp <;> omega
  subst hd
  refine Rg.region_tail 8 6 (fun i => [18, 19, 20, 21, 9, 10].getD i 9) (rV W.heap.size m mp ml h_ ka kb kc kd) (fun i j v u => (i = 4 ∧ j = 5) ∨ (i = 5 ∧ j = 4) → v ≠ u) (by kernel_rfl) (by kernel_rfl) rfl (by decide) ?_ ?_ ?_ ?_ (Rg.hall_of 2 (by kernel_rfl)) ?_ ?_
  · intro i j hi hj h
    rcases (by omega : i = 0 ∨ i = 1 ∨ i = 2 ∨ i = 3 ∨ i = 4 ∨ i = 5) with rfl | rfl | rfl | rfl | rfl | rfl <;> rcases (by omega : j = 0 ∨ j = 1 ∨ j = 2 ∨ j = 3 ∨ j = 4 ∨ j = 5) with rfl | rfl | rfl | rfl | rfl | rfl <;> first | rfl | exact absurd h (by decide)
  · intro i hi
    rcases (by omega : i = 0 ∨ i = 1 ∨ i = 2 ∨ i = 3 ∨ i = 4 ∨ i = 5) with rfl | rfl | rfl | rfl | rfl | rfl <;> (show _ < 119; decide)
  · intro i v x x' hv hb
    by_cases hi : i < 6
    · rcases (by omega : i = 0 ∨ i = 1 ∨ i = 2 ∨ i = 3 ∨ i = 4 ∨ i = 5) with rfl | rfl | rfl | rfl | rfl | rfl
      · exact hv
      · obtain ⟨pv, lv, h1, h2⟩ := hv
        exact ⟨pv, lv, h1, h2.on hb⟩
      · exact hv
      · obtain ⟨pv, lv, h1, h2⟩ := hv
        exact ⟨pv, lv, h1, h2.on hb⟩
      · obtain ⟨g, h1, h2, h3⟩ := hv
        exact ⟨g, h1, h2, h3.on hb⟩
      · obtain ⟨g, h1, h2, h3⟩ := hv
        exact ⟨g, h1, h2, h3.on hb⟩
    · unfold rV
      split <;> first | omega | trivial
  · intro i o hi ho a x hb seen K hK
    clear HQ
    rcases (by omega : i = 0 ∨ i = 1 ∨ i = 2 ∨ i = 3 ∨ i = 4 ∨ i = 5) with rfl | rfl | rfl | rfl | rfl | rfl
    · obtain rfl := Option.some.inj ho
      have e4 : a.eval (.tmp 4) = .pointer (some ⟨b4, 0, none⟩) := seen.kp 4 _ (nd 4 (by omega)) rfl
      exact Rg.op_value rfl rfl (Rg.ex_load a.eval _ 32 (.tmp 4) rfl (by rw [e4]; exact loadM (H4.out.on hb))) (hK _ _ rfl (Below.refl _ _) fun _ _ _ _ _ h => absurd h (by omega))
    · obtain rfl := Option.some.inj ho
      have e18 : a.eval (.tmp 18) = mv m mp ml := seen.at_ ⟨0, .data⟩ (by simp) rfl
      exact Rg.op_call rfl rfl (ex_call1 a.eval _ (.tmp 18) 32 11 rfl e18 rfl _ (call_fn Tryd.func11 rfl rfl _ _)) (tame_any m mp ml x (HM.out.on hb)) fun e w1 h => by
        obtain ⟨⟨pv, lv, rfl, h1, h2⟩, h3⟩ := h
        exact ⟨_, rfl, hK _ _ ⟨pv, lv, rfl, ⟨Row.of_own h1, row_EA.2 (Row.of_own h2)⟩⟩ h3 fun _ _ _ _ _ h => absurd h (by omega)⟩
    · obtain rfl := Option.some.inj ho
      have e6 : a.eval (.tmp 6) = .pointer (some ⟨b6, 0, none⟩) := seen.kp 6 _ (nd 6 (by omega)) rfl
      exact Rg.op_value rfl rfl (Rg.ex_load a.eval _ 42 (.tmp 6) rfl (by rw [e6]; exact loadK (H6.out.on hb))) (hK _ _ rfl (Below.refl _ _) fun _ _ _ _ _ h => absurd h (by omega))
    · obtain rfl := Option.some.inj ho
      have e20 : a.eval (.tmp 20) = kgv h_ ka kb kc kd := seen.at_ ⟨2, .data⟩ (by simp) rfl
      exact Rg.op_call rfl rfl (ex_call1 a.eval _ (.tmp 20) 42 12 rfl e20 rfl _ (call_fn Tryd.func12 rfl rfl _ _)) (message_any h_ ka kb kc kd x (kgin_on HK.out hb)) fun e w1 h => by
        obtain ⟨⟨pv, lv, rfl, h1⟩, h3⟩ := h
        exact ⟨_, rfl, hK _ _ ⟨pv, lv, rfl, h1⟩ h3 fun _ _ _ _ _ h => absurd h (by omega)⟩
    · obtain rfl := Option.some.inj ho
      exact Rg.op_value rfl rfl (Rg.ex_alloc a.eval _ 32 rfl (v := .pointer (some ⟨x.heap.size, 0, none⟩)) (w' := x.alloc (.cells zeroM 32)) (by simp [go_sem])) (hK _ _ ⟨x.heap.size, rfl, hb.size, box_new x zeroM 32⟩ ((Below.refl _ _).alloc (Nat.le_refl _) _) fun j u hj hne hu hij => by
        obtain rfl : j = 5 := by omega
        obtain ⟨g, rfl, _, hg⟩ := hu
        intro e
        injection e with e
        injection e with e
        injection e with e
        have := hg.lt
        omega)
    · obtain rfl := Option.some.inj ho
      exact Rg.op_value rfl rfl (Rg.ex_alloc a.eval _ 32 rfl (v := .pointer (some ⟨x.heap.size, 0, none⟩)) (w' := x.alloc (.cells zeroM 32)) (by simp [go_sem])) (hK _ _ ⟨x.heap.size, rfl, hb.size, box_new x zeroM 32⟩ ((Below.refl _ _).alloc (Nat.le_refl _) _) fun j u hj hne hu hij => by
        obtain rfl : j = 4 := by omega
        obtain ⟨g, rfl, _, hg⟩ := hu
        intro e
        injection e with e
        injection e with e
        injection e with e
        have := hg.lt
        omega)
  · intro kk o h1 h2 ho
    obtain rfl : kk = 7 := by omega
    obtain rfl := Option.some.inj ho
    exact ⟨⟨6, .chain⟩, by simp, rfl, rfl⟩
  · intro a w' df sz kp ⟨vs, hv, hR⟩ hb
    have t19 : a.tmps[19]? = some (vs 1) := (hv 1 (by omega)).1
    have t21 : a.tmps[21]? = some (vs 3) := (hv 3 (by omega)).1
    have t9 : a.tmps[9]? = some (vs 4) := (hv 4 (by omega)).1
    have t10 : a.tmps[10]? = some (vs 5) := (hv 5 (by omega)).1
    obtain ⟨pv, lv, e1, hin1⟩ := (hv 1 (by omega)).2
    obtain ⟨nv, ov, e3, hin3⟩ := (hv 3 (by omega)).2
    obtain ⟨g9, e4, hB9, hx9⟩ := (hv 4 (by omega)).2
    obtain ⟨g10, e5, hB10, hx10⟩ := (hv 5 (by omega)).2
    have hne : g9 ≠ g10 := fun e => by
      rcases hR 4 5 (by omega) (by omega) (by omega) with h | h
      · exact h (Or.inl ⟨rfl, rfl⟩) (by rw [e4, e5, e])
      · exact h (Or.inr ⟨rfl, rfl⟩) (by rw [e4, e5, e])
    rw [e1] at t19
    rw [e3] at t21
    rw [e4] at t9
    rw [e5] at t10
    obtain ⟨po, pc, rfl⟩ := hin1.p.len
    obtain ⟨lo, lc, rfl⟩ := hin1.l.len
    obtain ⟨no, nc, rfl⟩ := hin3.p.len
    obtain ⟨oo, oc, rfl⟩ := hin3.l.len
    have s9 := storeM hx9 m.k m.tc m.ts m.ic m.is po lo (tameM m).p.length pc (tameM m).l.length lc
    have k9 := setM_heap w' g9 (.int .i64 m.k) (.int .i64 m.tc) (.int .i64 m.ts) (.int .i64 m.ic) (.int .i64 m.is) (.slice po (tameM m).p.length pc) (.slice lo (tameM m).l.length lc)
    have y9 := setM_box hx9 (.int .i64 m.k) (.int .i64 m.tc) (.int .i64 m.ts) (.int .i64 m.ic) (.int .i64 m.is) (.slice po (tameM m).p.length pc) (.slice lo (tameM m).l.length lc)
    have b9 := setM_below hb hB9 hb.size (.int .i64 m.k) (.int .i64 m.tc) (.int .i64 m.ts) (.int .i64 m.ic) (.int .i64 m.is) (.slice po (tameM m).p.length pc) (.slice lo (tameM m).l.length lc)
    have z10 : Box (setM w' g9 (.int .i64 m.k) (.int .i64 m.tc) (.int .i64 m.ts) (.int .i64 m.ic) (.int .i64 m.is) (.slice po (tameM m).p.length pc) (.slice lo (tameM m).l.length lc)) g10 zeroM 32 := (k9 g10 (fun e => hne e.symm)).trans hx10
    have i1 := mgin_keep hin1 hx9 (seven_text 0 0 0 0 0 none none 0 0 0 0) k9
    have i3 := mgin_keep hin3 hx9 (seven_text 0 0 0 0 0 none none 0 0 0 0) k9
    generalize setM w' g9 (.int .i64 m.k) (.int .i64 m.tc) (.int .i64 m.ts) (.int .i64 m.ic) (.int .i64 m.is) (.slice po (tameM m).p.length pc) (.slice lo (tameM m).l.length lc) = w1 at *
    have s10 := storeM z10 h_.m.k h_.m.tc h_.m.ts h_.m.ic h_.m.is no oo h_.m.p.length nc h_.m.l.length oc
    have k10 := setM_heap w1 g10 (.int .i64 h_.m.k) (.int .i64 h_.m.tc) (.int .i64 h_.m.ts) (.int .i64 h_.m.ic) (.int .i64 h_.m.is) (.slice no h_.m.p.length nc) (.slice oo h_.m.l.length oc)
    have y10 := setM_box z10 (.int .i64 h_.m.k) (.int .i64 h_.m.tc) (.int .i64 h_.m.ts) (.int .i64 h_.m.ic) (.int .i64 h_.m.is) (.slice no h_.m.p.length nc) (.slice oo h_.m.l.length oc)
    have b10 := setM_below b9 hB10 b9.size (.int .i64 h_.m.k) (.int .i64 h_.m.tc) (.int .i64 h_.m.ts) (.int .i64 h_.m.ic) (.int .i64 h_.m.is) (.slice no h_.m.p.length nc) (.slice oo h_.m.l.length oc)
    have j1 := mgin_keep i1 z10 (seven_text 0 0 0 0 0 none none 0 0 0 0) k10
    have j3 := mgin_keep i3 z10 (seven_text 0 0 0 0 0 none none 0 0 0 0) k10
    have q9 : Box _ g9 _ _ := (k10 g9 hne).trans y9
    show Rg.SeqFrom _ _ _ 2 6 a w'
    simp only [Rg.SeqFrom]
    refine Rg.op_store 32 (.tmp 9) (.tmp 19) rfl rfl rfl rfl (Rg.eval_some t9) (Rg.eval_some t19) s9 ?_
    refine Rg.op_store 32 (.tmp 10) (.tmp 21) rfl rfl rfl rfl (Rg.eval_some t10) (Rg.eval_some t21) s10 ?_
    have kp2 : ∀ j, (j < 9 ∨ 22 ≤ j) → a.tmps[j]? = (u0 :: u1 :: u2 :: u3 :: .pointer (some ⟨b4, 0, none⟩) :: u5 :: .pointer (some ⟨b6, 0, none⟩) :: u7 :: u8 :: u9 :: u10 :: u11 :: u12 :: u13 :: u14 :: u15 :: u16 :: u17 :: u18 :: u19 :: u20 :: u21 :: u22 :: u23 :: u24 :: u25 :: u26 :: u27 :: u28 :: u29 :: u30 :: u31 :: u32 :: u33 :: u34 :: u35 :: u36 :: u37 :: u38 :: u39 :: u40 :: u41 :: u42 :: u43 :: u44 :: u45 :: u46 :: u47 :: u48 :: u49 :: u50 :: u51 :: u52 :: u53 :: u54 :: u55 :: u56 :: u57 :: u58 :: u59 :: u60 :: u61 :: u62 :: u63 :: u64 :: u65 :: u66 :: u67 :: u68 :: u69 :: u70 :: u71 :: u72 :: u73 :: u74 :: u75 :: u76 :: u77 :: u78 :: u79 :: u80 :: u81 :: u82 :: u83 :: u84 :: u85 :: u86 :: u87 :: u88 :: u89 :: u90 :: u91 :: u92 :: u93 :: u94 :: u95 :: u96 :: u97 :: u98 :: u99 :: u100 :: u101 :: u102 :: u103 :: u104 :: u105 :: u106 :: u107 :: u108 :: u109 :: u110 :: u111 :: u112 :: u113 :: u114 :: u115 :: u116 :: u117 :: u118 :: [])[j]? := fun j hj => (kp j (nd j hj)).trans List.getElem?_toArray
    have df2 : a.defers = [] := df
    have sz2 : a.tmps.size = 119 := sz
    clear s9 s10 k9 y9 b9 i1 i3 hx9 hx10 kp df sz hv hR e1 e3 e4 e5
    obtain ⟨mid, hmid, rfl⟩ := Rg.frame_mid (bl := (u0 :: u1 :: u2 :: u3 :: .pointer (some ⟨b4, 0, none⟩) :: u5 :: .pointer (some ⟨b6, 0, none⟩) :: u7 :: u8 :: u9 :: u10 :: u11 :: u12 :: u13 :: u14 :: u15 :: u16 :: u17 :: u18 :: u19 :: u20 :: u21 :: u22 :: u23 :: u24 :: u25 :: u26 :: u27 :: u28 :: u29 :: u30 :: u31 :: u32 :: u33 :: u34 :: u35 :: u36 :: u37 :: u38 :: u39 :: u40 :: u41 :: u42 :: u43 :: u44 :: u45 :: u46 :: u47 :: u48 :: u49 :: u50 :: u51 :: u52 :: u53 :: u54 :: u55 :: u56 :: u57 :: u58 :: u59 :: u60 :: u61 :: u62 :: u63 :: u64 :: u65 :: u66 :: u67 :: u68 :: u69 :: u70 :: u71 :: u72 :: u73 :: u74 :: u75 :: u76 :: u77 :: u78 :: u79 :: u80 :: u81 :: u82 :: u83 :: u84 :: u85 :: u86 :: u87 :: u88 :: u89 :: u90 :: u91 :: u92 :: u93 :: u94 :: u95 :: u96 :: u97 :: u98 :: u99 :: u100 :: u101 :: u102 :: u103 :: u104 :: u105 :: u106 :: u107 :: u108 :: u109 :: u110 :: u111 :: u112 :: u113 :: u114 :: u115 :: u116 :: u117 :: u118 :: [])) 9 13 df2 sz2 (by simp) kp2
    match mid, hmid with
    | [v9, v10, v11, v12, v13, v14, v15, v16, v17, v18, v19, v20, v21], _ =>
      have e9 : some v9 = some (.pointer (some ⟨g9, 0, none⟩)) := t9
      have e10 : some v10 = some (.pointer (some ⟨g10, 0, none⟩)) := t10
      obtain rfl := Option.some.inj e9
      obtain rfl := Option.some.inj e10
      exact HQ.out _ g9 g10 _ _ _ _ v11 v12 v13 v14 v15 v16 v17 v18 v19 v20 v21 q9 y10 j1 j3 hne hB9 hB10 b10
end Go.Proofs.YtfcgfnmokbbcaaaDoor.Ws
