/-
  A broker stored whole, a broker loaded; a call of three arguments in a region. No condition.
  The region of Copy in which Near and Seen are cloned. Condition: at most 900 of each.
  The region of Copy in which Adverts, Entries and Owns are cloned. Condition: at most 900 of each.
-/
import Derived.Test.YtonoadjmglkhaaaGreatV010
import Derived.Test.YtonoadjmglkhaaaGreatV012
import Derived.Test.YtonoadjmglkhaaaGreatV011
import Derived.Test.YtonoadjmglkhaaaGreatV001
namespace Go.Proofs.YtonoadjmglkhaaaGreat.Bk
open Go.RowKit Go.Sort Go.Proofs.YtonoadjmglkhaaaGreat Go.Proofs.YtonoadjmglkhaaaGreat.Rw Go.Proofs.YtonoadjmglkhaaaGreat.Nm Go.Proofs.YtonoadjmglkhaaaGreat.Pr

theorem storeBr {W : World} {b : Nat} {z0 z1 z2 z3 z4 z5 : Value} (h : Box W b #[z0, z1, z2, z3, z4, z5] 29) (me : Int) (o1 o2 o3 o4 o5 : Option Addr) (n1 c1 n2 c2 n3 c3 n4 c4 n5 c5 : Nat) :
    (Instr.storeAt 29 (.pointer (some ⟨b, 0, none⟩)) (.agg #[.int .i64 me, .slice o1 n1 c1, .slice o2 n2 c2, .slice o3 n3 c3, .slice o4 n4 c4, .slice o5 n5 c5])).run Tryz.prog W = .ok () (setB W b (.int .i64 me) (.slice o1 n1 c1) (.slice o2 n2 c2) (.slice o3 n3 c3) (.slice o4 n4 c4) (.slice o5 n5 c5)) := by
  have x0 := h.cell 0
  have x1 := h.cell 1
  have x2 := h.cell 2
  have x3 := h.cell 3
  have x4 := h.cell 4
  have x5 := h.cell 5
  simp only [List.getElem?_toArray, List.getElem?_cons_zero, List.getElem?_cons_succ] at x0 x1 x2 x3 x4 x5
  have f0 := h.fr 0
  have f1 := h.fr 1
  have f2 := h.fr 2
  have f3 := h.fr 3
  have f4 := h.fr 4
  have f5 := h.fr 5
  simp [go_sem, x0, x1, x2, x3, x4, x5, f0, f1, f2, f3, f4, f5]
theorem loadBr {W : World} {b : Nat} {z0 z1 z2 z3 z4 z5 : Value} (h : Box W b #[z0, z1, z2, z3, z4, z5] 29) : (Instr.loadAt 29 (.pointer (some ⟨b, 0, none⟩))).run Tryz.prog W = .ok (.agg #[z0, z1, z2, z3, z4, z5]) W := by
  have x0 := h.cell 0
  have x1 := h.cell 1
  have x2 := h.cell 2
  have x3 := h.cell 3
  have x4 := h.cell 4
  have x5 := h.cell 5
  simp only [List.getElem?_toArray, List.getElem?_cons_zero, List.getElem?_cons_succ] at x0 x1 x2 x3 x4 x5
  simp [go_sem, x0, x1, x2, x3, x4, x5]
theorem ex_call3g {P : Program} (ρ : Operand → Value) (o : Oper) (x y z : Operand) (t s r : TypeId) (f : FuncId) (ho : o.op = .call { callee := .value (.func f), args := #[x, y, z], argTypes := #[t, s, r] }) {v u q : Value} (hx : ρ x = v) (hy : ρ y = u) (hz : ρ z = q) (hf : ρ (.func f) = .func (.func f) #[] #[]) (w : World)
    (hc : (callFunc f #[v, u, q]).run P w = .ok (.enter f #[v, u, q]) w) : (execOp ρ o).run P w = .ok (.enter f #[v, u, q]) w := by
  simp [execOp, ho, resolve, invoke, hx, hy, hz, hf, Deferred.ofValue, hc]
theorem box_J {W : World} {b : Nat} {c d : Int} (h : Box W b #[.int .i64 c, .int .i64 d] 37) : ∀ j u, (cellsJ (c, d))[j]? = some u → W.cell? ((⟨b, 0, none⟩ : Addr).add j) = some u := by
  intro j u hj
  rw [add_own, h.cell]
  match j with
  | 0 => exact hj
  | 1 => exact hj
  | j + 2 => simp at hj
end Go.Proofs.YtonoadjmglkhaaaGreat.Bk

namespace Go.Proofs.YtonoadjmglkhaaaGreat.Av
open Go.RowKit Go.Sort Go.Proofs.YtonoadjmglkhaaaGreat Go.Proofs.YtonoadjmglkhaaaGreat.Rw Go.Proofs.YtonoadjmglkhaaaGreat.Nm Go.Proofs.YtonoadjmglkhaaaGreat.Pr Go.Proofs.YtonoadjmglkhaaaGreat.Bk

def cp1V (B : Nat) (b1 : Nat) (_me : Int) (_z2 _z4 _z5 : Value) (o1 : Option Addr) (n1 c1 : Nat) (nl : List Int) (o3 : Option Addr) (n3 c3 : Nat) (sl : List XID) (i : Nat) (v : Value) (x : World) : Prop :=
  match i with
  | 0 => v = .pointer (some ⟨b1, 1, none⟩)
  | 1 => v = .slice o1 n1 c1
  | 2 => ∃ s : Sl, v = slv s ∧ OwnI x B v nl
  | 3 => v = .pointer (some ⟨b1, 3, none⟩)
  | 4 => v = .slice o3 n3 c3
  | 5 => ∃ s : Sl, v = slv s ∧ OwnJ x B v sl
  | 6 => v = .pointer (some ⟨b1, 1, none⟩)
  | _ => True
noncomputable def cp1C : Code := ((Tryz.f29.body.bind (findRegion 1)).getD .skip)
theorem cp1V_on (B : Nat) (b1 : Nat) (me : Int) (z2 z4 z5 : Value) (o1 : Option Addr) (n1 c1 : Nat) (nl : List Int) (o3 : Option Addr) (n3 c3 : Nat) (sl : List XID) (i : Nat) (v : Value) (x x' : World) (h : cp1V B b1 me z2 z4 z5 o1 n1 c1 nl o3 n3 c3 sl i v x) (hb : Below x.heap.size x x') : cp1V B b1 me z2 z4 z5 o1 n1 c1 nl o3 n3 c3 sl i v x' := by
  by_cases hi : i < 7
  · rcases (by omega : i = 0 ∨ i = 1 ∨ i = 2 ∨ i = 3 ∨ i = 4 ∨ i = 5 ∨ i = 6) with rfl | rfl | rfl | rfl | rfl | rfl | rfl
    · exact h
    · exact h
    · obtain ⟨s, h1, h2⟩ := h; exact ⟨s, h1, Bk.own_on h2 hb⟩
    · exact h
    · exact h
    · obtain ⟨s, h1, h2⟩ := h; exact ⟨s, h1, Bk.own_on h2 hb⟩
    · exact h
  · unfold cp1V
    split <;> first | omega | trivial
set_option maxRecDepth 100000 in
set_option maxHeartbeats 8000000 in
theorem cp1 (Q : Exit → Act → World → Prop) (W : World) (b1 : Nat) (me : Int) (z2 z4 z5 : Value) (o1 : Option Addr) (n1 c1 : Nat) (nl : List Int) (o3 : Option Addr) (n3 c3 : Nat) (sl : List XID) (u0 u2 u3 u4 u5 u6 u7 u8 u9 u10 u11 u12 u13 u14 u15 u16 u17 u18 u19 u20 u21 u22 u23 u24 u25 u26 u27 u28 u29 u30 u31 u32 u33 u34 u35 u36 u37 u38 u39 u40 u41 u42 u43 u44 u45 u46 u47 u48 u49 u50 u51 u52 u53 u54 u55 u56 u57 u58 u59 u60 u61 u62 u63 u64 u65 u66 u67 u68 u69 u70 u71 u72 u73 u74 u75 u76 u77 u78 u79 u80 u81 : Value)
    (h1 : Box W b1 #[.int .i64 me, .slice o1 n1 c1, z2, .slice o3 n3 c3, z4, z5] 29) (r1 : RowI W (.slice o1 n1 c1) nl) (r3 : RowJ W (.slice o3 n3 c3) sl) (l1 : nl.length ≤ 900) (l3 : sl.length ≤ 900)
    (hQ : ∀ (x : World) (v6 v7 v8 v9 v10 v11 v12 v13 : Value) (p1 : Option Addr) (q1 s1 : Nat) (p3 : Option Addr) (q3 s3 : Nat), Box x b1 #[.int .i64 me, .slice p1 q1 s1, z2, .slice p3 q3 s3, z4, z5] 29 → OwnI x W.heap.size (.slice p1 q1 s1) nl → OwnJ x W.heap.size (.slice p3 q3 s3) sl → (∀ B, B ≤ b1 → Below B W x) → (∀ k, k < W.heap.size → k ≠ b1 → x.heap[k]? = W.heap[k]?) → Q .normal ⟨(u0 :: .pointer (some ⟨b1, 0, none⟩) :: u2 :: u3 :: u4 :: u5 :: v6 :: v7 :: v8 :: v9 :: v10 :: v11 :: v12 :: v13 :: u14 :: u15 :: u16 :: u17 :: u18 :: u19 :: u20 :: u21 :: u22 :: u23 :: u24 :: u25 :: u26 :: u27 :: u28 :: u29 :: u30 :: u31 :: u32 :: u33 :: u34 :: u35 :: u36 :: u37 :: u38 :: u39 :: u40 :: u41 :: u42 :: u43 :: u44 :: u45 :: u46 :: u47 :: u48 :: u49 :: u50 :: u51 :: u52 :: u53 :: u54 :: u55 :: u56 :: u57 :: u58 :: u59 :: u60 :: u61 :: u62 :: u63 :: u64 :: u65 :: u66 :: u67 :: u68 :: u69 :: u70 :: u71 :: u72 :: u73 :: u74 :: u75 :: u76 :: u77 :: u78 :: u79 :: u80 :: u81 :: []).toArray, []⟩ x) :
    Code.wp Tryz.prog cp1C Q ⟨(u0 :: .pointer (some ⟨b1, 0, none⟩) :: u2 :: u3 :: u4 :: u5 :: u6 :: u7 :: u8 :: u9 :: u10 :: u11 :: u12 :: u13 :: u14 :: u15 :: u16 :: u17 :: u18 :: u19 :: u20 :: u21 :: u22 :: u23 :: u24 :: u25 :: u26 :: u27 :: u28 :: u29 :: u30 :: u31 :: u32 :: u33 :: u34 :: u35 :: u36 :: u37 :: u38 :: u39 :: u40 :: u41 :: u42 :: u43 :: u44 :: u45 :: u46 :: u47 :: u48 :: u49 :: u50 :: u51 :: u52 :: u53 :: u54 :: u55 :: u56 :: u57 :: u58 :: u59 :: u60 :: u61 :: u62 :: u63 :: u64 :: u65 :: u66 :: u67 :: u68 :: u69 :: u70 :: u71 :: u72 :: u73 :: u74 :: u75 :: u76 :: u77 :: u78 :: u79 :: u80 :: u81 :: []).toArray, []⟩ W := by
  have HQ := Lib.hid hQ
  have H1 := Lib.hid h1
  have R1 := Lib.hid r1
  have R3 := Lib.hid r3
  have L1 := Lib.hid l1
  have L3 := Lib.hid l3
  clear hQ h1 r1 r3 l1 l3
  have stab := cp1V_on W.heap.size b1 me z2 z4 z5 o1 n1 c1 nl o3 n3 c3 sl
  unfold cp1C
  conv => arg 2; whnf
  have nd : ∀ j, (j < 6 ∨ 13 ≤ j) → ∀ i, i < 7 → (fun i => 6 + i) i ≠ j := by
    intro j hj i hi h
    simp only at h
    omega
  refine Rg.region_live 10 7 (fun i => 6 + i) (fun _ => 7) (cp1V W.heap.size b1 me z2 z4 z5 o1 n1 c1 nl o3 n3 c3 sl) (by kernel_rfl) (by kernel_rfl) rfl (by decide) (fun i j _ _ h => by have h2 : 6 + i = 6 + j := h; omega) (fun i hi => by show 6 + i < 82; omega) ?_ (fun _ => Rg.hall_of 14 (by kernel_rfl)) ?_ ?_
  · intro i o hi ho a x D hnd hc hD hb seen K hK
    clear HQ
    rcases (by omega : i = 0 ∨ i = 1 ∨ i = 2 ∨ i = 3 ∨ i = 4 ∨ i = 5 ∨ i = 6) with rfl | rfl | rfl | rfl | rfl | rfl | rfl
    · obtain rfl := Option.some.inj ho
      have e1 : a.eval (.tmp 1) = .pointer (some ⟨b1, 0, none⟩) := seen.kp 1 _ (nd 1 (by omega)) rfl
      exact Rg.op_value rfl rfl (Rg.ex_field a.eval _ 29 (.tmp 1) 1 rfl (by rw [e1]; simp [go_sem])) (hK _ _ rfl (Below.refl _ _) fun _ _ _ _ _ _ _ h => h)
    · obtain rfl := Option.some.inj ho
      have e6 : a.eval (.tmp 6) = .pointer (some ⟨b1, 1, none⟩) := seen.at_ ⟨0, .data⟩ (by simp) rfl (Or.inr (by decide))
      have y1 := (H1.out.on hb).cell 1
      simp only [List.getElem?_toArray, List.getElem?_cons_zero, List.getElem?_cons_succ] at y1
      exact Rg.op_value rfl rfl (Rg.ex_load a.eval _ 23 (.tmp 6) rfl (by rw [e6]; simp [go_sem, y1])) (hK _ _ rfl (Below.refl _ _) fun _ _ _ _ _ _ _ h => h)
    · obtain rfl := Option.some.inj ho
      have e7 : a.eval (.tmp 7) = .slice o1 n1 c1 := seen.at_ ⟨1, .data⟩ (by simp) rfl (Or.inr (by decide))
      exact Rg.op_call rfl rfl (Rw.ex_call1 a.eval _ (.tmp 7) 23 22 rfl e7 rfl _ (call_fn Tryz.func22 rfl rfl _ _)) (cloneI_any (o1, n1, c1) nl x (R1.out.on hb) L1.out) fun e w1 h => by
        obtain ⟨⟨s, rfl, h1⟩, h3⟩ := h
        exact ⟨_, rfl, hK _ _ ⟨s, rfl, own_fewer h1 hb.size⟩ (h3.mono hb.size) fun j u hj _ _ _ hne h => stab j u _ _ h h3⟩
    · obtain rfl := Option.some.inj ho
      have e1 : a.eval (.tmp 1) = .pointer (some ⟨b1, 0, none⟩) := seen.kp 1 _ (nd 1 (by omega)) rfl
      exact Rg.op_value rfl rfl (Rg.ex_field a.eval _ 29 (.tmp 1) 3 rfl (by rw [e1]; simp [go_sem])) (hK _ _ rfl (Below.refl _ _) fun _ _ _ _ _ _ _ h => h)
    · obtain rfl := Option.some.inj ho
      have e9 : a.eval (.tmp 9) = .pointer (some ⟨b1, 3, none⟩) := seen.at_ ⟨3, .data⟩ (by simp) rfl (Or.inr (by decide))
      have y3 := (H1.out.on hb).cell 3
      simp only [List.getElem?_toArray, List.getElem?_cons_zero, List.getElem?_cons_succ] at y3
      exact Rg.op_value rfl rfl (Rg.ex_load a.eval _ 25 (.tmp 9) rfl (by rw [e9]; simp [go_sem, y3])) (hK _ _ rfl (Below.refl _ _) fun _ _ _ _ _ _ _ h => h)
    · obtain rfl := Option.some.inj ho
      have e10 : a.eval (.tmp 10) = .slice o3 n3 c3 := seen.at_ ⟨4, .data⟩ (by simp) rfl (Or.inr (by decide))
      exact Rg.op_call rfl rfl (Rw.ex_call1 a.eval _ (.tmp 10) 25 79 rfl e10 rfl _ (call_fn Tryz.func79 rfl rfl _ _)) (cloneJ_any (o3, n3, c3) sl x (R3.out.on hb) L3.out) fun e w1 h => by
        obtain ⟨⟨s, rfl, h1⟩, h3⟩ := h
        exact ⟨_, rfl, hK _ _ ⟨s, rfl, own_fewer h1 hb.size⟩ (h3.mono hb.size) fun j u hj _ _ _ hne h => stab j u _ _ h h3⟩
    · obtain rfl := Option.some.inj ho
      have e1 : a.eval (.tmp 1) = .pointer (some ⟨b1, 0, none⟩) := seen.kp 1 _ (nd 1 (by omega)) rfl
      exact Rg.op_value rfl rfl (Rg.ex_field a.eval _ 29 (.tmp 1) 1 rfl (by rw [e1]; simp [go_sem])) (hK _ _ rfl (Below.refl _ _) fun _ _ _ _ _ _ _ h => h)
  · intro kk o h1 h2 ho
    rcases (by omega : kk = 8 ∨ kk = 9) with rfl | rfl
    · obtain rfl := Option.some.inj ho
      exact ⟨⟨7, .phase⟩, by simp, rfl, rfl⟩
    · obtain rfl := Option.some.inj ho
      exact ⟨⟨8, .data⟩, by simp, rfl, rfl⟩
  · intro a w' df sz kp ⟨vs, hv⟩ hb
    have sz' : a.tmps.size = 82 := sz
    have g1 : a.tmps[1]? = some (.pointer (some ⟨b1, 0, none⟩)) := (kp 1 (nd 1 (by omega))).trans rfl
    have g12 : a.tmps[12]? = some (.pointer (some ⟨b1, 1, none⟩)) := by
      have h : vs 6 = .pointer (some ⟨b1, 1, none⟩) := (hv 6 (by omega)).2 (by decide)
      rw [← h]
      exact (hv 6 (by omega)).1
    obtain ⟨⟨p1, q1, s1⟩, hs1, ho1⟩ := (hv 2 (by omega)).2 (by decide)
    have g8 : a.tmps[8]? = some (.slice p1 q1 s1) := ((hv 2 (by omega)).1).trans (congrArg some hs1)
    rw [hs1] at ho1
    obtain ⟨⟨p3, q3, s3⟩, hs3, ho3⟩ := (hv 5 (by omega)).2 (by decide)
    have g11 : a.tmps[11]? = some (.slice p3 q3 s3) := ((hv 5 (by omega)).1).trans (congrArg some hs3)
    rw [hs3] at ho3
    have hB := H1.out.on hb
    have hlt := H1.out.lt
    show Rg.SeqFrom _ _ _ 3 7 a w'
    simp only [Rg.SeqFrom]
    have c1x := hB.cell 1
    have f1x := hB.fr 1
    simp only [List.getElem?_toArray, List.getElem?_cons_zero, List.getElem?_cons_succ] at c1x
    refine Rg.op_store 23 (.tmp 12) (.tmp 8) rfl rfl rfl rfl (Rg.eval_some g12) (Rg.eval_some g8) (w' := (w').setCell ⟨b1, 1, none⟩ (.slice p1 q1 s1)) (by simp [go_sem, c1x, f1x]) ?_
    have hB1 : Box ((w').setCell ⟨b1, 1, none⟩ (.slice p1 q1 s1)) b1 #[.int .i64 me, .slice p1 q1 s1, z2, .slice o3 n3 c3, z4, z5] 29 := by simpa using box_set (k := 1) hB (.slice p1 q1 s1)
    refine Rg.op_value rfl rfl (Rg.ex_field _ _ 29 (.tmp 1) 3 rfl (v := .pointer (some ⟨b1, 3, none⟩)) (by rw [Rg.eval_some g1]; simp [go_sem])) ?_
    have hp13 : ((a).put (some 13) (.pointer (some ⟨b1, 3, none⟩))).tmps[13]? = some (.pointer (some ⟨b1, 3, none⟩)) := by simp [Act.put, sz']
    show Go.wpOp _ _ _ 9 _ ((a).put (some 13) (.pointer (some ⟨b1, 3, none⟩))) _
    have c3x := hB1.cell 3
    have f3x := hB1.fr 3
    simp only [List.getElem?_toArray, List.getElem?_cons_zero, List.getElem?_cons_succ] at c3x
    refine Rg.op_store 25 (.tmp 13) (.tmp 11) rfl rfl rfl rfl (Rg.eval_some hp13) (Rg.eval_some ((Rg.get_put _ 13 _ 11 (by decide)).trans g11)) (w' := ((w').setCell ⟨b1, 1, none⟩ (.slice p1 q1 s1)).setCell ⟨b1, 3, none⟩ (.slice p3 q3 s3)) (by simp [go_sem, c3x, f3x]) ?_
    have hB3 : Box (((w').setCell ⟨b1, 1, none⟩ (.slice p1 q1 s1)).setCell ⟨b1, 3, none⟩ (.slice p3 q3 s3)) b1 #[.int .i64 me, .slice p1 q1 s1, z2, .slice p3 q3 s3, z4, z5] 29 := by simpa using box_set (k := 3) hB1 (.slice p3 q3 s3)
    have kp2 : ∀ j, (j < 6 ∨ 14 ≤ j) → ((a).put (some 13) (.pointer (some ⟨b1, 3, none⟩))).tmps[j]? = (u0 :: .pointer (some ⟨b1, 0, none⟩) :: u2 :: u3 :: u4 :: u5 :: u6 :: u7 :: u8 :: u9 :: u10 :: u11 :: u12 :: u13 :: u14 :: u15 :: u16 :: u17 :: u18 :: u19 :: u20 :: u21 :: u22 :: u23 :: u24 :: u25 :: u26 :: u27 :: u28 :: u29 :: u30 :: u31 :: u32 :: u33 :: u34 :: u35 :: u36 :: u37 :: u38 :: u39 :: u40 :: u41 :: u42 :: u43 :: u44 :: u45 :: u46 :: u47 :: u48 :: u49 :: u50 :: u51 :: u52 :: u53 :: u54 :: u55 :: u56 :: u57 :: u58 :: u59 :: u60 :: u61 :: u62 :: u63 :: u64 :: u65 :: u66 :: u67 :: u68 :: u69 :: u70 :: u71 :: u72 :: u73 :: u74 :: u75 :: u76 :: u77 :: u78 :: u79 :: u80 :: u81 :: [])[j]? := fun j hj => (Rg.get_put _ 13 _ j (by omega)).trans ((kp j (nd j (by omega))).trans List.getElem?_toArray)
    obtain ⟨mid, hmid, hfr⟩ := Rg.frame_mid (a := (a).put (some 13) (.pointer (some ⟨b1, 3, none⟩))) (bl := (u0 :: .pointer (some ⟨b1, 0, none⟩) :: u2 :: u3 :: u4 :: u5 :: u6 :: u7 :: u8 :: u9 :: u10 :: u11 :: u12 :: u13 :: u14 :: u15 :: u16 :: u17 :: u18 :: u19 :: u20 :: u21 :: u22 :: u23 :: u24 :: u25 :: u26 :: u27 :: u28 :: u29 :: u30 :: u31 :: u32 :: u33 :: u34 :: u35 :: u36 :: u37 :: u38 :: u39 :: u40 :: u41 :: u42 :: u43 :: u44 :: u45 :: u46 :: u47 :: u48 :: u49 :: u50 :: u51 :: u52 :: u53 :: u54 :: u55 :: u56 :: u57 :: u58 :: u59 :: u60 :: u61 :: u62 :: u63 :: u64 :: u65 :: u66 :: u67 :: u68 :: u69 :: u70 :: u71 :: u72 :: u73 :: u74 :: u75 :: u76 :: u77 :: u78 :: u79 :: u80 :: u81 :: [])) 6 8 df (by simp [Rg.size_put, sz']) (by simp) kp2
    show Q .normal ((a).put (some 13) (.pointer (some ⟨b1, 3, none⟩))) _
    rw [hfr]
    match mid, hmid with
    | [v6, v7, v8, v9, v10, v11, v12, v13], _ =>
      exact HQ.out _ _ _ _ _ _ _ _ _ p1 q1 s1 p3 q3 s3 hB3 (own_cell (own_cell ho1 b1 1 (.slice p1 q1 s1) hlt) b1 3 (.slice p3 q3 s3) hlt) (own_cell (own_cell ho3 b1 1 (.slice p1 q1 s1) hlt) b1 3 (.slice p3 q3 s3) hlt) (fun B hBl => (((hb.mono (Nat.le_of_lt (Nat.lt_of_le_of_lt hBl hlt))).setCell (p := ⟨b1, 1, none⟩) hBl (.slice p1 q1 s1)).setCell (p := ⟨b1, 3, none⟩) hBl (.slice p3 q3 s3))) (fun k hk hne => ((RowKit.Below.heap_setCell ((w').setCell ⟨b1, 1, none⟩ (.slice p1 q1 s1)) ⟨b1, 3, none⟩ (.slice p3 q3 s3) k hne).trans ((RowKit.Below.heap_setCell (w') ⟨b1, 1, none⟩ (.slice p1 q1 s1) k hne).trans (hb.block k hk))))
end Go.Proofs.YtonoadjmglkhaaaGreat.Av

namespace Go.Proofs.YtonoadjmglkhaaaGreat.Av
open Go.RowKit Go.Sort Go.Proofs.YtonoadjmglkhaaaGreat Go.Proofs.YtonoadjmglkhaaaGreat.Rw Go.Proofs.YtonoadjmglkhaaaGreat.Nm Go.Proofs.YtonoadjmglkhaaaGreat.Pr Go.Proofs.YtonoadjmglkhaaaGreat.Bk

def cp2V (B : Nat) (b1 : Nat) (_me : Int) (_z1 _z3 : Value) (o2 : Option Addr) (n2 c2 : Nat) (al : List XAd) (o4 : Option Addr) (n4 c4 : Nat) (el : List XEn) (o5 : Option Addr) (n5 c5 : Nat) (ol : List XOw) (i : Nat) (v : Value) (x : World) : Prop :=
  match i with
  | 0 => v = .pointer (some ⟨b1, 2, none⟩)
  | 1 => v = .slice o2 n2 c2
  | 2 => ∃ s : Sl, v = slv s ∧ OwnD x B v al
  | 3 => v = .pointer (some ⟨b1, 4, none⟩)
  | 4 => v = .slice o4 n4 c4
  | 5 => ∃ s : Sl, v = slv s ∧ OwnN x B v el
  | 6 => v = .pointer (some ⟨b1, 5, none⟩)
  | 7 => v = .slice o5 n5 c5
  | 8 => ∃ s : Sl, v = slv s ∧ OwnW x B v ol
  | 9 => v = .pointer (some ⟨b1, 2, none⟩)
  | _ => True
noncomputable def cp2C : Code := ((Tryz.f29.body.bind (findRegion 2)).getD .skip)
theorem cp2V_on (B : Nat) (b1 : Nat) (me : Int) (z1 z3 : Value) (o2 : Option Addr) (n2 c2 : Nat) (al : List XAd) (o4 : Option Addr) (n4 c4 : Nat) (el : List XEn) (o5 : Option Addr) (n5 c5 : Nat) (ol : List XOw) (i : Nat) (v : Value) (x x' : World) (h : cp2V B b1 me z1 z3 o2 n2 c2 al o4 n4 c4 el o5 n5 c5 ol i v x) (hb : Below x.heap.size x x') : cp2V B b1 me z1 z3 o2 n2 c2 al o4 n4 c4 el o5 n5 c5 ol i v x' := by
  by_cases hi : i < 10
  · rcases (by omega : i = 0 ∨ i = 1 ∨ i = 2 ∨ i = 3 ∨ i = 4 ∨ i = 5 ∨ i = 6 ∨ i = 7 ∨ i = 8 ∨ i = 9) with rfl | rfl | rfl | rfl | rfl | rfl | rfl | rfl | rfl | rfl
    · exact h
    · exact h
    · obtain ⟨s, h1, h2⟩ := h; exact ⟨s, h1, Bk.own_on h2 hb⟩
    · exact h
    · exact h
    · obtain ⟨s, h1, h2⟩ := h; exact ⟨s, h1, Bk.own_on h2 hb⟩
    · exact h
    · exact h
    · obtain ⟨s, h1, h2⟩ := h; exact ⟨s, h1, Bk.own_on h2 hb⟩
    · exact h
  · unfold cp2V
    split <;> first | omega | trivial
set_option maxRecDepth 100000 in
set_option maxHeartbeats 8000000 in
theorem cp2 (Q : Exit → Act → World → Prop) (W : World) (b1 : Nat) (me : Int) (z1 z3 : Value) (o2 : Option Addr) (n2 c2 : Nat) (al : List XAd) (o4 : Option Addr) (n4 c4 : Nat) (el : List XEn) (o5 : Option Addr) (n5 c5 : Nat) (ol : List XOw) (u0 u2 u3 u4 u5 u6 u7 u8 u9 u10 u11 u12 u13 u14 u15 u16 u17 u18 u19 u20 u21 u22 u23 u24 u25 u26 u27 u28 u29 u30 u31 u32 u33 u34 u35 u36 u37 u38 u39 u40 u41 u42 u43 u44 u45 u46 u47 u48 u49 u50 u51 u52 u53 u54 u55 u56 u57 u58 u59 u60 u61 u62 u63 u64 u65 u66 u67 u68 u69 u70 u71 u72 u73 u74 u75 u76 u77 u78 u79 u80 u81 : Value)
    (h1 : Box W b1 #[.int .i64 me, z1, .slice o2 n2 c2, z3, .slice o4 n4 c4, .slice o5 n5 c5] 29) (r2 : RowD W (.slice o2 n2 c2) al) (r4 : RowN W (.slice o4 n4 c4) el) (r5 : RowW W (.slice o5 n5 c5) ol) (l2 : al.length ≤ 900) (l4 : el.length ≤ 900) (l5 : ol.length ≤ 900)
    (hQ : ∀ (x : World) (v14 v15 v16 v17 v18 v19 v20 v21 v22 v23 v24 v25 : Value) (p2 : Option Addr) (q2 s2 : Nat) (p4 : Option Addr) (q4 s4 : Nat) (p5 : Option Addr) (q5 s5 : Nat), Box x b1 #[.int .i64 me, z1, .slice p2 q2 s2, z3, .slice p4 q4 s4, .slice p5 q5 s5] 29 → OwnD x W.heap.size (.slice p2 q2 s2) al → OwnN x W.heap.size (.slice p4 q4 s4) el → OwnW x W.heap.size (.slice p5 q5 s5) ol → (∀ B, B ≤ b1 → Below B W x) → (∀ k, k < W.heap.size → k ≠ b1 → x.heap[k]? = W.heap[k]?) → Q .normal ⟨(u0 :: .pointer (some ⟨b1, 0, none⟩) :: u2 :: u3 :: u4 :: u5 :: u6 :: u7 :: u8 :: u9 :: u10 :: u11 :: u12 :: u13 :: v14 :: v15 :: v16 :: v17 :: v18 :: v19 :: v20 :: v21 :: v22 :: v23 :: v24 :: v25 :: u26 :: u27 :: u28 :: u29 :: u30 :: u31 :: u32 :: u33 :: u34 :: u35 :: u36 :: u37 :: u38 :: u39 :: u40 :: u41 :: u42 :: u43 :: u44 :: u45 :: u46 :: u47 :: u48 :: u49 :: u50 :: u51 :: u52 :: u53 :: u54 :: u55 :: u56 :: u57 :: u58 :: u59 :: u60 :: u61 :: u62 :: u63 :: u64 :: u65 :: u66 :: u67 :: u68 :: u69 :: u70 :: u71 :: u72 :: u73 :: u74 :: u75 :: u76 :: u77 :: u78 :: u79 :: u80 :: u81 :: []).toArray, []⟩ x) :
    Code.wp Tryz.prog cp2C Q ⟨(u0 :: .pointer (some ⟨b1, 0, none⟩) :: u2 :: u3 :: u4 :: u5 :: u6 :: u7 :: u8 :: u9 :: u10 :: u11 :: u12 :: u13 :: u14 :: u15 :: u16 :: u17 :: u18 :: u19 :: u20 :: u21 :: u22 :: u23 :: u24 :: u25 :: u26 :: u27 :: u28 :: u29 :: u30 :: u31 :: u32 :: u33 :: u34 :: u35 :: u36 :: u37 :: u38 :: u39 :: u40 :: u41 :: u42 :: u43 :: u44 :: u45 :: u46 :: u47 :: u48 :: u49 :: u50 :: u51 :: u52 :: u53 :: u54 :: u55 :: u56 :: u57 :: u58 :: u59 :: u60 :: u61 :: u62 :: u63 :: u64 :: u65 :: u66 :: u67 :: u68 :: u69 :: u70 :: u71 :: u72 :: u73 :: u74 :: u75 :: u76 :: u77 :: u78 :: u79 :: u80 :: u81 :: []).toArray, []⟩ W := by
  have HQ := Lib.hid hQ
  have H1 := Lib.hid h1
  have R2 := Lib.hid r2
  have R4 := Lib.hid r4
  have R5 := Lib.hid r5
  have L2 := Lib.hid l2
  have L4 := Lib.hid l4
  have L5 := Lib.hid l5
  clear hQ h1 r2 r4 r5 l2 l4 l5
  have stab := cp2V_on W.heap.size b1 me z1 z3 o2 n2 c2 al o4 n4 c4 el o5 n5 c5 ol
  unfold cp2C
  conv => arg 2; whnf
  have nd : ∀ j, (j < 14 ∨ 24 ≤ j) → ∀ i, i < 10 → (fun i => 14 + i) i ≠ j := by
    intro j hj i hi h
    simp only at h
    omega
  refine Rg.region_live 15 10 (fun i => 14 + i) (fun _ => 10) (cp2V W.heap.size b1 me z1 z3 o2 n2 c2 al o4 n4 c4 el o5 n5 c5 ol) (by kernel_rfl) (by kernel_rfl) rfl (by decide) (fun i j _ _ h => by have h2 : 14 + i = 14 + j := h; omega) (fun i hi => by show 14 + i < 82; omega) ?_ (fun _ => Rg.hall_of 14 (by kernel_rfl)) ?_ ?_
  · intro i o hi ho a x D hnd hc hD hb seen K hK
    clear HQ
    rcases (by omega : i = 0 ∨ i = 1 ∨ i = 2 ∨ i = 3 ∨ i = 4 ∨ i = 5 ∨ i = 6 ∨ i = 7 ∨ i = 8 ∨ i = 9) with rfl | rfl | rfl | rfl | rfl | rfl | rfl | rfl | rfl | rfl
    · obtain rfl := Option.some.inj ho
      have e1 : a.eval (.tmp 1) = .pointer (some ⟨b1, 0, none⟩) := seen.kp 1 _ (nd 1 (by omega)) rfl
      exact Rg.op_value rfl rfl (Rg.ex_field a.eval _ 29 (.tmp 1) 2 rfl (by rw [e1]; simp [go_sem])) (hK _ _ rfl (Below.refl _ _) fun _ _ _ _ _ _ _ h => h)
    · obtain rfl := Option.some.inj ho
      have e14 : a.eval (.tmp 14) = .pointer (some ⟨b1, 2, none⟩) := seen.at_ ⟨0, .data⟩ (by simp) rfl (Or.inr (by decide))
      have y2 := (H1.out.on hb).cell 2
      simp only [List.getElem?_toArray, List.getElem?_cons_zero, List.getElem?_cons_succ] at y2
      exact Rg.op_value rfl rfl (Rg.ex_load a.eval _ 24 (.tmp 14) rfl (by rw [e14]; simp [go_sem, y2])) (hK _ _ rfl (Below.refl _ _) fun _ _ _ _ _ _ _ h => h)
    · obtain rfl := Option.some.inj ho
      have e15 : a.eval (.tmp 15) = .slice o2 n2 c2 := seen.at_ ⟨1, .data⟩ (by simp) rfl (Or.inr (by decide))
      exact Rg.op_call rfl rfl (Rw.ex_call1 a.eval _ (.tmp 15) 24 80 rfl e15 rfl _ (call_fn Tryz.func80 rfl rfl _ _)) (cloneD_any (o2, n2, c2) al x (R2.out.on hb) L2.out) fun e w1 h => by
        obtain ⟨⟨s, rfl, h1⟩, h3⟩ := h
        exact ⟨_, rfl, hK _ _ ⟨s, rfl, own_fewer h1 hb.size⟩ (h3.mono hb.size) fun j u hj _ _ _ hne h => stab j u _ _ h h3⟩
    · obtain rfl := Option.some.inj ho
      have e1 : a.eval (.tmp 1) = .pointer (some ⟨b1, 0, none⟩) := seen.kp 1 _ (nd 1 (by omega)) rfl
      exact Rg.op_value rfl rfl (Rg.ex_field a.eval _ 29 (.tmp 1) 4 rfl (by rw [e1]; simp [go_sem])) (hK _ _ rfl (Below.refl _ _) fun _ _ _ _ _ _ _ h => h)
    · obtain rfl := Option.some.inj ho
      have e17 : a.eval (.tmp 17) = .pointer (some ⟨b1, 4, none⟩) := seen.at_ ⟨3, .data⟩ (by simp) rfl (Or.inr (by decide))
      have y4 := (H1.out.on hb).cell 4
      simp only [List.getElem?_toArray, List.getElem?_cons_zero, List.getElem?_cons_succ] at y4
      exact Rg.op_value rfl rfl (Rg.ex_load a.eval _ 26 (.tmp 17) rfl (by rw [e17]; simp [go_sem, y4])) (hK _ _ rfl (Below.refl _ _) fun _ _ _ _ _ _ _ h => h)
    · obtain rfl := Option.some.inj ho
      have e18 : a.eval (.tmp 18) = .slice o4 n4 c4 := seen.at_ ⟨4, .data⟩ (by simp) rfl (Or.inr (by decide))
      exact Rg.op_call rfl rfl (Rw.ex_call1 a.eval _ (.tmp 18) 26 81 rfl e18 rfl _ (call_fn Tryz.func81 rfl rfl _ _)) (cloneN_any (o4, n4, c4) el x (R4.out.on hb) L4.out) fun e w1 h => by
        obtain ⟨⟨s, rfl, h1⟩, h3⟩ := h
        exact ⟨_, rfl, hK _ _ ⟨s, rfl, own_fewer h1 hb.size⟩ (h3.mono hb.size) fun j u hj _ _ _ hne h => stab j u _ _ h h3⟩
    · obtain rfl := Option.some.inj ho
      have e1 : a.eval (.tmp 1) = .pointer (some ⟨b1, 0, none⟩) := seen.kp 1 _ (nd 1 (by omega)) rfl
      exact Rg.op_value rfl rfl (Rg.ex_field a.eval _ 29 (.tmp 1) 5 rfl (by rw [e1]; simp [go_sem])) (hK _ _ rfl (Below.refl _ _) fun _ _ _ _ _ _ _ h => h)
    · obtain rfl := Option.some.inj ho
      have e20 : a.eval (.tmp 20) = .pointer (some ⟨b1, 5, none⟩) := seen.at_ ⟨6, .data⟩ (by simp) rfl (Or.inr (by decide))
      have y5 := (H1.out.on hb).cell 5
      simp only [List.getElem?_toArray, List.getElem?_cons_zero, List.getElem?_cons_succ] at y5
      exact Rg.op_value rfl rfl (Rg.ex_load a.eval _ 27 (.tmp 20) rfl (by rw [e20]; simp [go_sem, y5])) (hK _ _ rfl (Below.refl _ _) fun _ _ _ _ _ _ _ h => h)
    · obtain rfl := Option.some.inj ho
      have e21 : a.eval (.tmp 21) = .slice o5 n5 c5 := seen.at_ ⟨7, .data⟩ (by simp) rfl (Or.inr (by decide))
      exact Rg.op_call rfl rfl (Rw.ex_call1 a.eval _ (.tmp 21) 27 82 rfl e21 rfl _ (call_fn Tryz.func82 rfl rfl _ _)) (cloneW_any (o5, n5, c5) ol x (R5.out.on hb) L5.out) fun e w1 h => by
        obtain ⟨⟨s, rfl, h1⟩, h3⟩ := h
        exact ⟨_, rfl, hK _ _ ⟨s, rfl, own_fewer h1 hb.size⟩ (h3.mono hb.size) fun j u hj _ _ _ hne h => stab j u _ _ h h3⟩
    · obtain rfl := Option.some.inj ho
      have e1 : a.eval (.tmp 1) = .pointer (some ⟨b1, 0, none⟩) := seen.kp 1 _ (nd 1 (by omega)) rfl
      exact Rg.op_value rfl rfl (Rg.ex_field a.eval _ 29 (.tmp 1) 2 rfl (by rw [e1]; simp [go_sem])) (hK _ _ rfl (Below.refl _ _) fun _ _ _ _ _ _ _ h => h)
  · intro kk o h1 h2 ho
    rcases (by omega : kk = 11 ∨ kk = 12 ∨ kk = 13 ∨ kk = 14) with rfl | rfl | rfl | rfl
    · obtain rfl := Option.some.inj ho
      exact ⟨⟨10, .phase⟩, by simp, rfl, rfl⟩
    · obtain rfl := Option.some.inj ho
      exact ⟨⟨11, .data⟩, by simp, rfl, rfl⟩
    · obtain rfl := Option.some.inj ho
      exact ⟨⟨12, .phase⟩, by simp, rfl, rfl⟩
    · obtain rfl := Option.some.inj ho
      exact ⟨⟨13, .data⟩, by simp, rfl, rfl⟩
  · intro a w' df sz kp ⟨vs, hv⟩ hb
    have sz' : a.tmps.size = 82 := sz
    have g1 : a.tmps[1]? = some (.pointer (some ⟨b1, 0, none⟩)) := (kp 1 (nd 1 (by omega))).trans rfl
    have g23 : a.tmps[23]? = some (.pointer (some ⟨b1, 2, none⟩)) := by
      have h : vs 9 = .pointer (some ⟨b1, 2, none⟩) := (hv 9 (by omega)).2 (by decide)
      rw [← h]
      exact (hv 9 (by omega)).1
    obtain ⟨⟨p2, q2, s2⟩, hs2, ho2⟩ := (hv 2 (by omega)).2 (by decide)
    have g16 : a.tmps[16]? = some (.slice p2 q2 s2) := ((hv 2 (by omega)).1).trans (congrArg some hs2)
    rw [hs2] at ho2
    obtain ⟨⟨p4, q4, s4⟩, hs4, ho4⟩ := (hv 5 (by omega)).2 (by decide)
    have g19 : a.tmps[19]? = some (.slice p4 q4 s4) := ((hv 5 (by omega)).1).trans (congrArg some hs4)
    rw [hs4] at ho4
    obtain ⟨⟨p5, q5, s5⟩, hs5, ho5⟩ := (hv 8 (by omega)).2 (by decide)
    have g22 : a.tmps[22]? = some (.slice p5 q5 s5) := ((hv 8 (by omega)).1).trans (congrArg some hs5)
    rw [hs5] at ho5
    have hB := H1.out.on hb
    have hlt := H1.out.lt
    show Rg.SeqFrom _ _ _ 5 10 a w'
    simp only [Rg.SeqFrom]
    have c2x := hB.cell 2
    have f2x := hB.fr 2
    simp only [List.getElem?_toArray, List.getElem?_cons_zero, List.getElem?_cons_succ] at c2x
    refine Rg.op_store 24 (.tmp 23) (.tmp 16) rfl rfl rfl rfl (Rg.eval_some g23) (Rg.eval_some g16) (w' := (w').setCell ⟨b1, 2, none⟩ (.slice p2 q2 s2)) (by simp [go_sem, c2x, f2x]) ?_
    have hB2 : Box ((w').setCell ⟨b1, 2, none⟩ (.slice p2 q2 s2)) b1 #[.int .i64 me, z1, .slice p2 q2 s2, z3, .slice o4 n4 c4, .slice o5 n5 c5] 29 := by simpa using box_set (k := 2) hB (.slice p2 q2 s2)
    refine Rg.op_value rfl rfl (Rg.ex_field _ _ 29 (.tmp 1) 4 rfl (v := .pointer (some ⟨b1, 4, none⟩)) (by rw [Rg.eval_some g1]; simp [go_sem])) ?_
    have hp24 : ((a).put (some 24) (.pointer (some ⟨b1, 4, none⟩))).tmps[24]? = some (.pointer (some ⟨b1, 4, none⟩)) := by simp [Act.put, sz']
    show Go.wpOp _ _ _ 12 _ ((a).put (some 24) (.pointer (some ⟨b1, 4, none⟩))) _
    have c4x := hB2.cell 4
    have f4x := hB2.fr 4
    simp only [List.getElem?_toArray, List.getElem?_cons_zero, List.getElem?_cons_succ] at c4x
    refine Rg.op_store 26 (.tmp 24) (.tmp 19) rfl rfl rfl rfl (Rg.eval_some hp24) (Rg.eval_some ((Rg.get_put _ 24 _ 19 (by decide)).trans g19)) (w' := ((w').setCell ⟨b1, 2, none⟩ (.slice p2 q2 s2)).setCell ⟨b1, 4, none⟩ (.slice p4 q4 s4)) (by simp [go_sem, c4x, f4x]) ?_
    have hB4 : Box (((w').setCell ⟨b1, 2, none⟩ (.slice p2 q2 s2)).setCell ⟨b1, 4, none⟩ (.slice p4 q4 s4)) b1 #[.int .i64 me, z1, .slice p2 q2 s2, z3, .slice p4 q4 s4, .slice o5 n5 c5] 29 := by simpa using box_set (k := 4) hB2 (.slice p4 q4 s4)
    refine Rg.op_value rfl rfl (Rg.ex_field _ _ 29 (.tmp 1) 5 rfl (v := .pointer (some ⟨b1, 5, none⟩)) (by rw [Rg.eval_some ((Rg.get_put _ 24 _ 1 (by decide)).trans g1)]; simp [go_sem])) ?_
    have hp25 : (((a).put (some 24) (.pointer (some ⟨b1, 4, none⟩))).put (some 25) (.pointer (some ⟨b1, 5, none⟩))).tmps[25]? = some (.pointer (some ⟨b1, 5, none⟩)) := by simp [Act.put, sz']
    show Go.wpOp _ _ _ 14 _ (((a).put (some 24) (.pointer (some ⟨b1, 4, none⟩))).put (some 25) (.pointer (some ⟨b1, 5, none⟩))) _
    have c5x := hB4.cell 5
    have f5x := hB4.fr 5
    simp only [List.getElem?_toArray, List.getElem?_cons_zero, List.getElem?_cons_succ] at c5x
    refine Rg.op_store 27 (.tmp 25) (.tmp 22) rfl rfl rfl rfl (Rg.eval_some hp25) (Rg.eval_some ((Rg.get_put _ 25 _ 22 (by decide)).trans ((Rg.get_put _ 24 _ 22 (by decide)).trans g22))) (w' := (((w').setCell ⟨b1, 2, none⟩ (.slice p2 q2 s2)).setCell ⟨b1, 4, none⟩ (.slice p4 q4 s4)).setCell ⟨b1, 5, none⟩ (.slice p5 q5 s5)) (by simp [go_sem, c5x, f5x]) ?_
    have hB5 : Box ((((w').setCell ⟨b1, 2, none⟩ (.slice p2 q2 s2)).setCell ⟨b1, 4, none⟩ (.slice p4 q4 s4)).setCell ⟨b1, 5, none⟩ (.slice p5 q5 s5)) b1 #[.int .i64 me, z1, .slice p2 q2 s2, z3, .slice p4 q4 s4, .slice p5 q5 s5] 29 := by simpa using box_set (k := 5) hB4 (.slice p5 q5 s5)
    have kp2 : ∀ j, (j < 14 ∨ 26 ≤ j) → (((a).put (some 24) (.pointer (some ⟨b1, 4, none⟩))).put (some 25) (.pointer (some ⟨b1, 5, none⟩))).tmps[j]? = (u0 :: .pointer (some ⟨b1, 0, none⟩) :: u2 :: u3 :: u4 :: u5 :: u6 :: u7 :: u8 :: u9 :: u10 :: u11 :: u12 :: u13 :: u14 :: u15 :: u16 :: u17 :: u18 :: u19 :: u20 :: u21 :: u22 :: u23 :: u24 :: u25 :: u26 :: u27 :: u28 :: u29 :: u30 :: u31 :: u32 :: u33 :: u34 :: u35 :: u36 :: u37 :: u38 :: u39 :: u40 :: u41 :: u42 :: u43 :: u44 :: u45 :: u46 :: u47 :: u48 :: u49 :: u50 :: u51 :: u52 :: u53 :: u54 :: u55 :: u56 :: u57 :: u58 :: u59 :: u60 :: u61 :: u62 :: u63 :: u64 :: u65 :: u66 :: u67 :: u68 :: u69 :: u70 :: u71 :: u72 :: u73 :: u74 :: u75 :: u76 :: u77 :: u78 :: u79 :: u80 :: u81 :: [])[j]? := fun j hj => (Rg.get_put _ 25 _ j (by omega)).trans ((Rg.get_put _ 24 _ j (by omega)).trans ((kp j (nd j (by omega))).trans List.getElem?_toArray))
    obtain ⟨mid, hmid, hfr⟩ := Rg.frame_mid (a := ((a).put (some 24) (.pointer (some ⟨b1, 4, none⟩))).put (some 25) (.pointer (some ⟨b1, 5, none⟩))) (bl := (u0 :: .pointer (some ⟨b1, 0, none⟩) :: u2 :: u3 :: u4 :: u5 :: u6 :: u7 :: u8 :: u9 :: u10 :: u11 :: u12 :: u13 :: u14 :: u15 :: u16 :: u17 :: u18 :: u19 :: u20 :: u21 :: u22 :: u23 :: u24 :: u25 :: u26 :: u27 :: u28 :: u29 :: u30 :: u31 :: u32 :: u33 :: u34 :: u35 :: u36 :: u37 :: u38 :: u39 :: u40 :: u41 :: u42 :: u43 :: u44 :: u45 :: u46 :: u47 :: u48 :: u49 :: u50 :: u51 :: u52 :: u53 :: u54 :: u55 :: u56 :: u57 :: u58 :: u59 :: u60 :: u61 :: u62 :: u63 :: u64 :: u65 :: u66 :: u67 :: u68 :: u69 :: u70 :: u71 :: u72 :: u73 :: u74 :: u75 :: u76 :: u77 :: u78 :: u79 :: u80 :: u81 :: [])) 14 12 df (by simp [Rg.size_put, sz']) (by simp) kp2
    show Q .normal (((a).put (some 24) (.pointer (some ⟨b1, 4, none⟩))).put (some 25) (.pointer (some ⟨b1, 5, none⟩))) _
    rw [hfr]
    match mid, hmid with
    | [v14, v15, v16, v17, v18, v19, v20, v21, v22, v23, v24, v25], _ =>
      exact HQ.out _ _ _ _ _ _ _ _ _ _ _ _ _ p2 q2 s2 p4 q4 s4 p5 q5 s5 hB5 (own_cell (own_cell (own_cell ho2 b1 2 (.slice p2 q2 s2) hlt) b1 4 (.slice p4 q4 s4) hlt) b1 5 (.slice p5 q5 s5) hlt) (own_cell (own_cell (own_cell ho4 b1 2 (.slice p2 q2 s2) hlt) b1 4 (.slice p4 q4 s4) hlt) b1 5 (.slice p5 q5 s5) hlt) (own_cell (own_cell (own_cell ho5 b1 2 (.slice p2 q2 s2) hlt) b1 4 (.slice p4 q4 s4) hlt) b1 5 (.slice p5 q5 s5) hlt) (fun B hBl => ((((hb.mono (Nat.le_of_lt (Nat.lt_of_le_of_lt hBl hlt))).setCell (p := ⟨b1, 2, none⟩) hBl (.slice p2 q2 s2)).setCell (p := ⟨b1, 4, none⟩) hBl (.slice p4 q4 s4)).setCell (p := ⟨b1, 5, none⟩) hBl (.slice p5 q5 s5))) (fun k hk hne => ((RowKit.Below.heap_setCell (((w').setCell ⟨b1, 2, none⟩ (.slice p2 q2 s2)).setCell ⟨b1, 4, none⟩ (.slice p4 q4 s4)) ⟨b1, 5, none⟩ (.slice p5 q5 s5) k hne).trans ((RowKit.Below.heap_setCell ((w').setCell ⟨b1, 2, none⟩ (.slice p2 q2 s2)) ⟨b1, 4, none⟩ (.slice p4 q4 s4) k hne).trans ((RowKit.Below.heap_setCell (w') ⟨b1, 2, none⟩ (.slice p2 q2 s2) k hne).trans (hb.block k hk)))))
end Go.Proofs.YtonoadjmglkhaaaGreat.Av
