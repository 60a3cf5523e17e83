/-
  A step of Copy: an own subscription's predicate copied. Condition: at most 900 constraints.
  Copy of package adverts: the same in new memory. Conditions: at most 900 of each, each predicate of at most 900 constraints.
-/
import Derived.Test.YtonoadjmglkhaaaGreatV014
import Derived.Test.YtonoadjmglkhaaaGreatV013
import Derived.Test.YtonoadjmglkhaaaGreatV001
namespace Go.Proofs.YtonoadjmglkhaaaGreat.Av
open Go.RowKit Go.Sort Go.Proofs.YtonoadjmglkhaaaGreat Go.Proofs.YtonoadjmglkhaaaGreat.Rw Go.Proofs.YtonoadjmglkhaaaGreat.Nm Go.Proofs.YtonoadjmglkhaaaGreat.Pr Go.Proofs.YtonoadjmglkhaaaGreat.Bk

def cp16V (B : Nat) (b1 : Nat) (_me : Int) (_z1 _z2 _z3 _z4 : Value) (g n cap k : Nat) (_y1 _y2 : Int) (yo : Option Addr) (yn yc : Nat) (p : List C5) (i : Nat) (v : Value) (x : World) : Prop :=
  match i with
  | 0 => v = .pointer (some ⟨b1, 5, none⟩)
  | 1 => v = .slice (some ⟨g, 0, none⟩) n cap
  | 2 => v = .int .i64 (k : Int)
  | 3 => v = .pointer (some ⟨b1, 5, none⟩)
  | 4 => v = .slice (some ⟨g, 0, none⟩) n cap
  | 5 => v = .int .i64 (k : Int)
  | 6 => v = .pointer (some ⟨g, k * 3, none⟩)
  | 7 => v = .pointer (some ⟨g, k * 3 + 2, none⟩)
  | 8 => v = .slice yo yn yc
  | 9 => ∃ s : Sl, v = slv s ∧ OwnC x B v p
  | 10 => v = .pointer (some ⟨g, k * 3, none⟩)
  | 11 => v = .pointer (some ⟨g, k * 3 + 2, none⟩)
  | _ => True
noncomputable def cp16C : Code := ((Tryz.f29.body.bind (findRegion 16)).getD .skip)
theorem cp16V_on (B : Nat) (b1 : Nat) (me : Int) (z1 z2 z3 z4 : Value) (g n cap k : Nat) (y1 y2 : Int) (yo : Option Addr) (yn yc : Nat) (p : List C5) (i : Nat) (v : Value) (x x' : World) (h : cp16V B b1 me z1 z2 z3 z4 g n cap k y1 y2 yo yn yc p i v x) (hb : Below x.heap.size x x') : cp16V B b1 me z1 z2 z3 z4 g n cap k y1 y2 yo yn yc p i v x' := by
  by_cases hi : i < 12
  · rcases (by omega : i = 0 ∨ i = 1 ∨ i = 2 ∨ i = 3 ∨ i = 4 ∨ i = 5 ∨ i = 6 ∨ i = 7 ∨ i = 8 ∨ i = 9 ∨ i = 10 ∨ i = 11) with rfl | rfl | rfl | rfl | rfl | rfl | rfl | rfl | rfl | rfl | rfl | rfl
    · exact h
    · exact h
    · exact h
    · exact h
    · exact h
    · exact h
    · exact h
    · exact h
    · exact h
    · obtain ⟨s, h1, h2⟩ := h; exact ⟨s, h1, Bk.own_on h2 hb⟩
    · exact h
    · exact h
  · unfold cp16V
    split <;> first | omega | trivial
set_option maxRecDepth 100000 in
set_option maxHeartbeats 8000000 in
theorem cp16 (Q : Exit → Act → World → Prop) (W : World) (B0 : Nat) (l : List XOw) (b1 : Nat) (me : Int) (z1 z2 z3 z4 : Value) (g n cap k : Nat) (y1 y2 : Int) (yo : Option Addr) (yn yc : Nat) (p : List C5) (u0 u2 u3 u4 u6 u7 u8 u9 u10 u11 u12 u13 u14 u15 u16 u17 u18 u19 u20 u21 u22 u23 u24 u25 u26 u27 u28 u29 u30 u31 u32 u33 u34 u35 u36 u37 u38 u39 u40 u41 u42 u43 u44 u45 u46 u47 u48 u49 u50 u51 u52 u53 u54 u55 u56 u57 u58 u59 u60 u61 u62 u63 u64 u65 u66 u67 u68 u69 u70 u71 u72 u73 u74 u75 u76 u77 u78 u79 u80 u81 : Value)
    (h1 : Box W b1 #[.int .i64 me, z1, z2, z3, z4, .slice (some ⟨g, 0, none⟩) n cap] 29) (ho : OwnW W B0 (.slice (some ⟨g, 0, none⟩) n cap) l) (hy : l[k]? = some (y1, y2, (yo, yn, yc))) (hp : RowC W (.slice yo yn yc) p) (lp : p.length ≤ 900)
    (hQ : ∀ (x : World) (v68 v69 v70 v71 v72 v73 v74 v75 v76 v77 v78 v79 : Value) (s1 : Option Addr) (s2 s3 : Nat), OwnC x W.heap.size (.slice s1 s2 s3) p → OwnW x B0 (.slice (some ⟨g, 0, none⟩) n cap) (l.set k (y1, y2, (s1, s2, s3))) → But g W x → (∀ B1, B1 ≤ g → B1 ≤ W.heap.size → Below B1 W x) → Q .normal ⟨(u0 :: .pointer (some ⟨b1, 0, none⟩) :: u2 :: u3 :: u4 :: .int .i64 (k : Int) :: u6 :: u7 :: u8 :: u9 :: u10 :: u11 :: u12 :: u13 :: u14 :: u15 :: u16 :: u17 :: u18 :: u19 :: u20 :: u21 :: u22 :: u23 :: u24 :: u25 :: u26 :: u27 :: u28 :: u29 :: u30 :: u31 :: u32 :: u33 :: u34 :: u35 :: u36 :: u37 :: u38 :: u39 :: u40 :: u41 :: u42 :: u43 :: u44 :: u45 :: u46 :: u47 :: u48 :: u49 :: u50 :: u51 :: u52 :: u53 :: u54 :: u55 :: u56 :: u57 :: u58 :: u59 :: u60 :: u61 :: u62 :: u63 :: u64 :: u65 :: u66 :: u67 :: v68 :: v69 :: v70 :: v71 :: v72 :: v73 :: v74 :: v75 :: v76 :: v77 :: v78 :: v79 :: u80 :: u81 :: []).toArray, []⟩ x) :
    Code.wp Tryz.prog cp16C Q ⟨(u0 :: .pointer (some ⟨b1, 0, none⟩) :: u2 :: u3 :: u4 :: .int .i64 (k : Int) :: u6 :: u7 :: u8 :: u9 :: u10 :: u11 :: u12 :: u13 :: u14 :: u15 :: u16 :: u17 :: u18 :: u19 :: u20 :: u21 :: u22 :: u23 :: u24 :: u25 :: u26 :: u27 :: u28 :: u29 :: u30 :: u31 :: u32 :: u33 :: u34 :: u35 :: u36 :: u37 :: u38 :: u39 :: u40 :: u41 :: u42 :: u43 :: u44 :: u45 :: u46 :: u47 :: u48 :: u49 :: u50 :: u51 :: u52 :: u53 :: u54 :: u55 :: u56 :: u57 :: u58 :: u59 :: u60 :: u61 :: u62 :: u63 :: u64 :: u65 :: u66 :: u67 :: u68 :: u69 :: u70 :: u71 :: u72 :: u73 :: u74 :: u75 :: u76 :: u77 :: u78 :: u79 :: u80 :: u81 :: []).toArray, []⟩ W := by
  have HQ := Lib.hid hQ
  have H1 := Lib.hid h1
  have HO := Lib.hid ho
  have HY := Lib.hid hy
  have HP := Lib.hid hp
  have LP := Lib.hid lp
  have IX := Lib.hid (index_own okW g k n cap (by obtain ⟨_, _, hv⟩ := (Row.of_own ho).len; have h := (List.getElem?_eq_some_iff.1 hy).1; simp at hv; omega))
  have EL := Lib.hid (own_row_at okW ho hy)
  clear hQ h1 ho hy hp lp
  have stab := cp16V_on W.heap.size b1 me z1 z2 z3 z4 g n cap k y1 y2 yo yn yc p
  unfold cp16C
  conv => arg 2; whnf
  have nd : ∀ j, (j < 68 ∨ 80 ≤ j) → ∀ i, i < 12 → (fun i => 68 + i) i ≠ j := by
    intro j hj i hi h
    simp only at h
    omega
  refine Rg.region_live 13 12 (fun i => 68 + i) (fun _ => 12) (cp16V W.heap.size b1 me z1 z2 z3 z4 g n cap k y1 y2 yo yn yc p) (by kernel_rfl) (by kernel_rfl) rfl (by decide) (fun i j _ _ h => by have h2 : 68 + i = 68 + j := h; omega) (fun i hi => by show 68 + i < 82; omega) ?_ (fun _ => Rg.hall_of 14 (by kernel_rfl)) ?_ ?_
  · intro i o hi ho a x D hnd hc hD hb seen K hK
    clear HQ
    rcases (by omega : i = 0 ∨ i = 1 ∨ i = 2 ∨ i = 3 ∨ i = 4 ∨ i = 5 ∨ i = 6 ∨ i = 7 ∨ i = 8 ∨ i = 9 ∨ i = 10 ∨ i = 11) with rfl | rfl | rfl | rfl | rfl | rfl | rfl | rfl | rfl | rfl | rfl | rfl
    · obtain rfl := Option.some.inj ho
      have e1 : a.eval (.tmp 1) = .pointer (some ⟨b1, 0, none⟩) := seen.kp 1 _ (nd 1 (by omega)) rfl
      exact Rg.op_value rfl rfl (Rg.ex_field a.eval _ 29 (.tmp 1) 5 rfl (by rw [e1]; simp [go_sem])) (hK _ _ rfl (Below.refl _ _) fun _ _ _ _ _ _ _ h => h)
    · obtain rfl := Option.some.inj ho
      have e68 : a.eval (.tmp 68) = .pointer (some ⟨b1, 5, none⟩) := seen.at_ ⟨0, .data⟩ (by simp) rfl (Or.inr (by decide))
      have y5 := (H1.out.on hb).cell 5
      simp only [List.getElem?_toArray, List.getElem?_cons_zero, List.getElem?_cons_succ] at y5
      exact Rg.op_value rfl rfl (Rg.ex_load a.eval _ 27 (.tmp 68) rfl (by rw [e68]; simp [go_sem, y5])) (hK _ _ rfl (Below.refl _ _) fun _ _ _ _ _ _ _ h => h)
    · obtain rfl := Option.some.inj ho
      have e5 : a.eval (.tmp 5) = .int .i64 (k : Int) := seen.kp 5 _ (nd 5 (by omega)) rfl
      exact Rg.op_value rfl rfl (Rg.ex_move a.eval _ (.tmp 5) rfl x) (hK _ _ e5 (Below.refl _ _) fun _ _ _ _ _ _ _ h => h)
    · obtain rfl := Option.some.inj ho
      have e1 : a.eval (.tmp 1) = .pointer (some ⟨b1, 0, none⟩) := seen.kp 1 _ (nd 1 (by omega)) rfl
      exact Rg.op_value rfl rfl (Rg.ex_field a.eval _ 29 (.tmp 1) 5 rfl (by rw [e1]; simp [go_sem])) (hK _ _ rfl (Below.refl _ _) fun _ _ _ _ _ _ _ h => h)
    · obtain rfl := Option.some.inj ho
      have e71 : a.eval (.tmp 71) = .pointer (some ⟨b1, 5, none⟩) := seen.at_ ⟨3, .data⟩ (by simp) rfl (Or.inr (by decide))
      have y5 := (H1.out.on hb).cell 5
      simp only [List.getElem?_toArray, List.getElem?_cons_zero, List.getElem?_cons_succ] at y5
      exact Rg.op_value rfl rfl (Rg.ex_load a.eval _ 27 (.tmp 71) rfl (by rw [e71]; simp [go_sem, y5])) (hK _ _ rfl (Below.refl _ _) fun _ _ _ _ _ _ _ h => h)
    · obtain rfl := Option.some.inj ho
      have e5 : a.eval (.tmp 5) = .int .i64 (k : Int) := seen.kp 5 _ (nd 5 (by omega)) rfl
      exact Rg.op_value rfl rfl (Rg.ex_move a.eval _ (.tmp 5) rfl x) (hK _ _ e5 (Below.refl _ _) fun _ _ _ _ _ _ _ h => h)
    · obtain rfl := Option.some.inj ho
      have e72 : a.eval (.tmp 72) = .slice (some ⟨g, 0, none⟩) n cap := seen.at_ ⟨4, .data⟩ (by simp) rfl (Or.inr (by decide))
      have e73 : a.eval (.tmp 73) = .int .i64 (k : Int) := seen.at_ ⟨5, .data⟩ (by simp) rfl (Or.inr (by decide))
      exact Rg.op_value rfl rfl (Rg.ex_index a.eval _ 27 (.tmp 72) (.tmp 73) rfl (by rw [e72, e73]; exact IX.out x)) (hK _ _ rfl (Below.refl _ _) fun _ _ _ _ _ _ _ h => h)
    · obtain rfl := Option.some.inj ho
      have e74 : a.eval (.tmp 74) = .pointer (some ⟨g, k * 3, none⟩) := seen.at_ ⟨6, .data⟩ (by simp) rfl (Or.inr (by decide))
      exact Rg.op_value rfl rfl (Rg.ex_field a.eval _ 60 (.tmp 74) 1 rfl (by rw [e74]; simp [go_sem])) (hK _ _ rfl (Below.refl _ _) fun _ _ _ _ _ _ _ h => h)
    · obtain rfl := Option.some.inj ho
      have e75 : a.eval (.tmp 75) = .pointer (some ⟨g, k * 3 + 2, none⟩) := seen.at_ ⟨7, .data⟩ (by simp) rfl (Or.inr (by decide))
      have y := EL.out x hb 2 _ rfl
      simp [Addr.add, EW] at y
      exact Rg.op_value rfl rfl (Rg.ex_load a.eval _ 39 (.tmp 75) rfl (by rw [e75]; simp [go_sem, y])) (hK _ _ rfl (Below.refl _ _) fun _ _ _ _ _ _ _ h => h)
    · obtain rfl := Option.some.inj ho
      have e76 : a.eval (.tmp 76) = .slice yo yn yc := seen.at_ ⟨8, .data⟩ (by simp) rfl (Or.inr (by decide))
      exact Rg.op_call rfl rfl (Rw.ex_call1 a.eval _ (.tmp 76) 39 83 rfl e76 rfl _ (call_fn Tryz.func83 rfl rfl _ _)) (cloneC_any (yo, yn, yc) p x (HP.out.on hb) LP.out) fun e w1 h => by
        obtain ⟨⟨s, rfl, h1⟩, h3⟩ := h
        exact ⟨_, rfl, hK _ _ ⟨s, rfl, own_fewer h1 hb.size⟩ (h3.mono hb.size) fun j u hj _ _ _ hne h => stab j u _ _ h h3⟩
    · obtain rfl := Option.some.inj ho
      have e69 : a.eval (.tmp 69) = .slice (some ⟨g, 0, none⟩) n cap := seen.at_ ⟨1, .data⟩ (by simp) rfl (Or.inr (by decide))
      have e70 : a.eval (.tmp 70) = .int .i64 (k : Int) := seen.at_ ⟨2, .data⟩ (by simp) rfl (Or.inr (by decide))
      exact Rg.op_value rfl rfl (Rg.ex_index a.eval _ 27 (.tmp 69) (.tmp 70) rfl (by rw [e69, e70]; exact IX.out x)) (hK _ _ rfl (Below.refl _ _) fun _ _ _ _ _ _ _ h => h)
    · obtain rfl := Option.some.inj ho
      have e78 : a.eval (.tmp 78) = .pointer (some ⟨g, k * 3, none⟩) := seen.at_ ⟨10, .data⟩ (by simp) rfl (Or.inr (by decide))
      exact Rg.op_value rfl rfl (Rg.ex_field a.eval _ 60 (.tmp 78) 1 rfl (by rw [e78]; simp [go_sem])) (hK _ _ rfl (Below.refl _ _) fun _ _ _ _ _ _ _ h => h)
  · intro kk o h1 h2 ho
    omega
  · intro a w' df sz kp ⟨vs, hv⟩ hb
    have sz' : a.tmps.size = 82 := sz
    have g79 : a.tmps[79]? = some (.pointer (some ⟨g, k * 3 + 2, none⟩)) := by
      have h : vs 11 = .pointer (some ⟨g, k * 3 + 2, none⟩) := (hv 11 (by omega)).2 (by decide)
      rw [← h]
      exact (hv 11 (by omega)).1
    obtain ⟨⟨s1, s2, s3⟩, hs, hc⟩ := (hv 9 (by omega)).2 (by decide)
    have g77 : a.tmps[77]? = some (.slice s1 s2 s3) := ((hv 9 (by omega)).1).trans (congrArg some hs)
    rw [hs] at hc
    obtain ⟨w2, hr, st1, st2, st3⟩ := storeW (k := k) s1 s2 s3 (Bk.own_on HO.out hb) HY.out
    obtain ⟨cur, hg⟩ := own_tag (Bk.own_on HO.out hb)
    show Rg.SeqFrom _ _ _ 1 12 a w'
    simp only [Rg.SeqFrom]
    refine Rg.op_store 39 (.tmp 79) (.tmp 77) rfl rfl rfl rfl (Rg.eval_some g79) (Rg.eval_some g77) (w' := w2) hr ?_
    have kp2 : ∀ j, (j < 68 ∨ 80 ≤ j) → (a).tmps[j]? = (u0 :: .pointer (some ⟨b1, 0, none⟩) :: u2 :: u3 :: u4 :: .int .i64 (k : Int) :: u6 :: u7 :: u8 :: u9 :: u10 :: u11 :: u12 :: u13 :: u14 :: u15 :: u16 :: u17 :: u18 :: u19 :: u20 :: u21 :: u22 :: u23 :: u24 :: u25 :: u26 :: u27 :: u28 :: u29 :: u30 :: u31 :: u32 :: u33 :: u34 :: u35 :: u36 :: u37 :: u38 :: u39 :: u40 :: u41 :: u42 :: u43 :: u44 :: u45 :: u46 :: u47 :: u48 :: u49 :: u50 :: u51 :: u52 :: u53 :: u54 :: u55 :: u56 :: u57 :: u58 :: u59 :: u60 :: u61 :: u62 :: u63 :: u64 :: u65 :: u66 :: u67 :: u68 :: u69 :: u70 :: u71 :: u72 :: u73 :: u74 :: u75 :: u76 :: u77 :: u78 :: u79 :: u80 :: u81 :: [])[j]? := fun j hj => (kp j (nd j (by omega))).trans List.getElem?_toArray
    obtain ⟨mid, hmid, hfr⟩ := Rg.frame_mid (a := a) (bl := (u0 :: .pointer (some ⟨b1, 0, none⟩) :: u2 :: u3 :: u4 :: .int .i64 (k : Int) :: u6 :: u7 :: u8 :: u9 :: u10 :: u11 :: u12 :: u13 :: u14 :: u15 :: u16 :: u17 :: u18 :: u19 :: u20 :: u21 :: u22 :: u23 :: u24 :: u25 :: u26 :: u27 :: u28 :: u29 :: u30 :: u31 :: u32 :: u33 :: u34 :: u35 :: u36 :: u37 :: u38 :: u39 :: u40 :: u41 :: u42 :: u43 :: u44 :: u45 :: u46 :: u47 :: u48 :: u49 :: u50 :: u51 :: u52 :: u53 :: u54 :: u55 :: u56 :: u57 :: u58 :: u59 :: u60 :: u61 :: u62 :: u63 :: u64 :: u65 :: u66 :: u67 :: u68 :: u69 :: u70 :: u71 :: u72 :: u73 :: u74 :: u75 :: u76 :: u77 :: u78 :: u79 :: u80 :: u81 :: [])) 68 12 df (by simp [sz']) (by simp) kp2
    show Q .normal (a) _
    rw [hfr]
    match mid, hmid with
    | [v68, v69, v70, v71, v72, v73, v74, v75, v76, v77, v78, v79], _ =>
      exact HQ.out _ _ _ _ _ _ _ _ _ _ _ _ _ s1 s2 s3 (st2.own hc hg (by decide)) st1 ((But.of_below hb).trans st2) fun B1 hB hl => st3 B1 W hB (hb.mono hl)
end Go.Proofs.YtonoadjmglkhaaaGreat.Av

namespace Go.Proofs.YtonoadjmglkhaaaGreat.Av
open Go.RowKit Go.Sort Go.Proofs.YtonoadjmglkhaaaGreat Go.Proofs.YtonoadjmglkhaaaGreat.Rw Go.Proofs.YtonoadjmglkhaaaGreat.Nm Go.Proofs.YtonoadjmglkhaaaGreat.Pr Go.Proofs.YtonoadjmglkhaaaGreat.Bk

/-- Each predicate of a broker is short. -/
structure FewP (b : Br) : Prop where
  adv : ∀ a ∈ b.adv, a.p.length ≤ 900
  ent : ∀ a ∈ b.ent, a.p.length ≤ 900
  own : ∀ a ∈ b.own, a.p.length ≤ 900
theorem own_row_len {α : Type} {E : Ek α} {W : World} {B n cap : Nat} {o : Option Addr} {l : List α} (h : Own E W B (.slice o n cap) l) : l.length = n := by
  obtain ⟨_, _, hv⟩ := (Row.of_own h).len
  have : n = l.length := by simpa using congrArg (fun v => match v with | Value.slice _ n _ => n | _ => 0) hv
  exact this.symm
theorem own_some {α : Type} {E : Ek α} {W : World} {B n cap : Nat} {o : Option Addr} {l : List α} (h : Own E W B (.slice o n cap) l) (hn : 0 < n) : ∃ g, o = some ⟨g, 0, none⟩ ∧ B ≤ g := by
  have hl := own_row_len h
  rcases own_open h with ⟨_, h2⟩ | ⟨g, c', cur, h1, h2, _⟩
  · rw [h2] at hl; simp at hl; omega
  · exact ⟨g, by simp at h1; exact h1.1, h2⟩
theorem but_setB (w : World) (b : Nat) (a0 a1 a2 a3 a4 a5 : Value) : But b w (setB w b a0 a1 a2 a3 a4 a5) :=
  (((but_cell _ b _ _).trans (but_cell _ b _ _)).trans ((but_cell _ b _ _).trans (but_cell _ b _ _))).trans ((but_cell _ b _ _).trans (but_cell _ b _ _))
/-- The end: what Copy hands back. -/
theorem Cs.done {w0 w wr : World} {b : Br} {nv av sv ev ov : Sl} (h : Cs w0 w wr b nv av sv ev ov) (a0 a1 a2 a3 a4 a5 : Value) : Cp w0 w.heap.size (setB wr (w.heap.size + 1) a0 a1 a2 a3 a4 a5) b nv av sv ev ov ∧ Below w.heap.size w (setB wr (w.heap.size + 1) a0 a1 a2 a3 a4 a5) :=
  ⟨Cp.but ⟨h.near, h.seen, h.adv, h.ent, h.own⟩ (but_setB wr (w.heap.size + 1) a0 a1 a2 a3 a4 a5) h.bz, setB_below h.bel (by omega) a0 a1 a2 a3 a4 a5⟩
set_option maxRecDepth 100000 in
set_option maxHeartbeats 32000000 in
theorem acopy_any (b : Br) (nv av sv ev ov : Sl) (w0 w : World) (hw0 : Below w0.heap.size w0 w) (h : BrIn w0 b nv av sv ev ov) (hf : Few b) (hp : FewP b) :
    Calls Tryz.prog 29 #[brv b.me nv av sv ev ov] w fun e w' => (∃ nv' av' sv' ev' ov' : Sl, e = .returned (brv b.me nv' av' sv' ev' ov') ∧ Cp w0 w.heap.size w' b nv' av' sv' ev' ov') ∧ Below w.heap.size w w' := by
  obtain ⟨no, nn, nc⟩ := nv
  obtain ⟨ao, an, ac⟩ := av
  obtain ⟨so, sn, sc⟩ := sv
  obtain ⟨eo, en, ec⟩ := ev
  obtain ⟨oo, on_, oc⟩ := ov
  obtain ⟨la, ha1, ha2⟩ := h.adv
  obtain ⟨le, he1, he2⟩ := h.ent
  obtain ⟨lo_, ho1, ho2⟩ := h.own
  have HA := Lib.hid ha2
  have HE := Lib.hid he2
  have HO := Lib.hid ho2
  have R0 := Lib.hid (h.near.on hw0)
  have R1 := Lib.hid (ha1.on hw0)
  have R2 := Lib.hid (h.seen.on hw0)
  have R3 := Lib.hid (he1.on hw0)
  have R4 := Lib.hid (ho1.on hw0)
  have W0 := Lib.hid hw0
  have HP := Lib.hid hp
  have LL0 := Lib.hid hf.near
  have LL1 := Lib.hid (show la.length ≤ 900 by rw [ha2.len]; exact hf.adv)
  have LL2 := Lib.hid hf.seen
  have LL3 := Lib.hid (show le.length ≤ 900 by rw [he2.len]; exact hf.ent)
  have LL4 := Lib.hid (show lo_.length ≤ 900 by rw [ho2.len]; exact hf.own)
  obtain ⟨h0, h1, h2⟩ := two_new w #[.int .i64 b.me, .slice no nn nc, .slice ao an ac, .slice so sn sc, .slice eo en ec, .slice oo on_ oc] #[.int .i64 0, .slice none 0 0, .slice none 0 0, .slice none 0 0, .slice none 0 0, .slice none 0 0] 29 29
  have B0 := Lib.hid h0
  have XB := Lib.hid h1
  have ZB := Lib.hid h2
  clear h0 h1 h2 h hf hp hw0 ha1 ha2 he1 he2 ho1 ho2
  go_enter Tryz.func29, Tryz.ntmps29
  go_upto_region 1 with fail
  generalize (w.alloc (.cells #[.int .i64 b.me, .slice no nn nc, .slice ao an ac, .slice so sn sc, .slice eo en ec, .slice oo on_ oc] 29)).alloc (.cells #[.int .i64 0, .slice none 0 0, .slice none 0 0, .slice none 0 0, .slice none 0 0, .slice none 0 0] 29) = W at *
  refine cp1 _ W w.heap.size b.me (.slice ao an ac) (.slice eo en ec) (.slice oo on_ oc) no nn nc b.near so sn sc b.seen _ _ _ _ _ _ _ _ _ _ _ _ _ _ _ _ _ _ _ _ _ _ _ _ _ _ _ _ _ _ _ _ _ _ _ _ _ _ _ _ _ _ _ _ _ _ _ _ _ _ _ _ _ _ _ _ _ _ _ _ _ _ _ _ _ _ _ _ _ _ _ _ _ _ _ _ _ _ _ _ _ XB.out (R0.out.on B0.out) (R2.out.on B0.out) LL0.out LL2.out ?_
  intro x1 v6 v7 v8 v9 v10 v11 v12 v13 p1 q1 s1 p3 q3 s3 hb1 hn1 hs1 hbel1 hsame1
  have B1 := Lib.hid (B0.out.trans (hbel1 _ (Nat.le_refl _)))
  have S1 := Lib.hid (show W.heap.size ≤ x1.heap.size from (hbel1 _ (Nat.le_refl _)).size)
  have ZB1 := Lib.hid (show Box x1 (w.heap.size + 1) _ _ from (hsame1 _ ZB.out.lt (by omega)).trans ZB.out)
  have XB1 := Lib.hid hb1
  have N1 := Lib.hid (own_fewer hn1 B0.out.size)
  have J1 := Lib.hid (own_fewer hs1 B0.out.size)
  clear hb1 hn1 hs1 hbel1 hsame1 XB ZB
  go_upto_region 2 with fail
  refine cp2 _ x1 w.heap.size b.me (.slice p1 q1 s1) (.slice p3 q3 s3) ao an ac la eo en ec le oo on_ oc lo_ _ _ _ _ _ _ _ _ _ _ _ _ _ _ _ _ _ _ _ _ _ _ _ _ _ _ _ _ _ _ _ _ _ _ _ _ _ _ _ _ _ _ _ _ _ _ _ _ _ _ _ _ _ _ _ _ _ _ _ _ _ _ _ _ _ _ _ _ _ _ _ _ _ _ _ _ _ _ _ _ _ XB1.out (R1.out.on B1.out) (R3.out.on B1.out) (R4.out.on B1.out) LL1.out LL3.out LL4.out ?_
  intro x2 v14 v15 v16 v17 v18 v19 v20 v21 v22 v23 v24 v25 p2 q2 s2 p4 q4 s4 p5 q5 s5 hb2 ha2 he2 ho2 hbel2 hsame2
  have CS := Lib.hid (show Cs w0 w x2 b (p1, q1, s1) (p2, q2, s2) (p3, q3, s3) (p4, q4, s4) (p5, q5, s5) from {
    bel := B1.out.trans (hbel2 _ (Nat.le_refl _))
    bx := hb2
    bz := (hsame2 _ ZB1.out.lt (by omega)).trans ZB1.out
    near := But.own ⟨hsame2, (hbel2 _ (Nat.le_refl _)).size⟩ N1.out XB1.out (by decide)
    seen := But.own ⟨hsame2, (hbel2 _ (Nat.le_refl _)).size⟩ J1.out XB1.out (by decide)
    adv := ⟨la, own_fewer ha2 B1.out.size, HA.out.mono fun _ _ q => ⟨q.1, q.2.1, Or.inl q.2.2⟩⟩
    ent := ⟨le, own_fewer he2 B1.out.size, HE.out.mono fun _ _ q => ⟨q.1, q.2.1, q.2.2.1, q.2.2.2.1, Or.inl q.2.2.2.2⟩⟩
    own := ⟨lo_, own_fewer ho2 B1.out.size, HO.out.mono fun _ _ q => ⟨q.1, Or.inl q.2⟩⟩ })
  have Q2 := Lib.hid (show q2 ≤ 900 from by rw [← own_row_len ha2]; exact LL1.out)
  have Q4 := Lib.hid (show q4 ≤ 900 from by rw [← own_row_len he2]; exact LL3.out)
  have Q5 := Lib.hid (show q5 ≤ 900 from by rw [← own_row_len ho2]; exact LL4.out)
  clear hb2 ha2 he2 ho2 hbel2 hsame2 XB1 ZB1 N1 J1 B1 S1 R0 R1 R2 R3 R4 HA HE HO LL0 LL1 LL2 LL3 LL4 B0
  have cf2 := CS.out.bx.cell 2
  simp only [List.getElem?_toArray, List.getElem?_cons_zero, List.getElem?_cons_succ] at cf2
  go_wp2
  go_loopw [29] (fun i wr => ∃ k : Nat, k ≤ q2 ∧ i = .int .i64 k ∧ Cs w0 w wr b (p1, q1, s1) (p2, q2, s2) (p3, q3, s3) (p4, q4, s4) (p5, q5, s5)) (fun i _ => q2 - (intOf i).toNat)
  case atStart => exact ⟨0, Nat.zero_le _, rfl, CS.out⟩
  case round =>
    obtain ⟨k, hk, rfl, hcs⟩ := hrel
    have CS := Lib.hid hcs
    have hq := Q2.out
    clear hcs
    by_cases hlt : k < q2
    · obtain ⟨l, hl, hA⟩ := CS.out.adv
      have hln : l.length = q2 := own_row_len hl
      obtain ⟨g, rfl, hBg⟩ : ∃ g, p2 = some ⟨g, 0, none⟩ ∧ w.heap.size ≤ g := own_some hl (show 0 < q2 by omega)
      obtain ⟨y, hy⟩ : ∃ y, l[k]? = some y := ⟨_, List.getElem?_eq_getElem (by omega)⟩
      obtain ⟨a, ha⟩ : ∃ a, b.adv[k]? = some a := ⟨_, List.getElem?_eq_getElem (by have h := hA.len; have h2 : l.length = q2 := hln; omega)⟩
      obtain ⟨y', hy', hym⟩ := hA.at k a ha
      rw [hy] at hy'
      obtain rfl := Option.some.inj hy'
      obtain ⟨y1, y2, ⟨yo, yn, yc⟩, y4⟩ := y
      have HW := Lib.hid hl
      have HAA := Lib.hid hA
      have HYM := Lib.hid hym
      have HYY := Lib.hid hy
      have HAK := Lib.hid ha
      have HBG := Lib.hid hBg
      have hw3 : IntKind.i64.wrap ((k : Int) + 1) = (k : Int) + 1 := IntWalk.i64_in _ (by omega)
      clear hl hA hln hy ha hy' hym hBg cf2
      go_upto_region 6 with fail
      refine cp6 _ wr w.heap.size l w.heap.size b.me (.slice p1 q1 s1) (.slice p3 q3 s3) (.slice p4 q4 s4) (.slice p5 q5 s5) g q2 s2 k y1 y2 yo yn yc y4 a.p _ _ _ _ _ _ _ _ _ _ _ _ _ _ _ _ _ _ _ _ _ _ _ _ _ _ _ _ _ _ _ _ _ _ _ _ _ _ _ _ _ _ _ _ _ _ _ _ _ _ _ _ _ _ _ _ _ _ _ _ _ _ _ _ _ _ _ _ _ _ _ _ _ _ _ _ _ _ _ _ CS.out.bx HW.out HYY.out (HYM.out.2.2.row (W0.out.trans (CS.out.bel.mono W0.out.size))) (HP.out.adv a (List.mem_of_getElem? HAK.out)) ?_
      intro x v32 v33 v34 v35 v36 v37 v38 v39 v40 v41 t1 t2 t3 hC hO hBut hBel
      have CS2 := Lib.hid (show Cs w0 w x b (p1, q1, s1) (some ⟨g, 0, none⟩, q2, s2) (p3, q3, s3) (p4, q4, s4) (p5, q5, s5) from by
        obtain ⟨cur, hg⟩ := own_tag HW.out
        exact CS.out.setD HW.out hO hBut (CS.out.bel.trans (hBel _ HBG.out CS.out.bel.size)) (All2.set k _ a (HAA.out.mono fun _ _ q => q.but hBut hg (by decide)) HAK.out ⟨HYM.out.1, HYM.out.2.1, Or.inr (own_fewer hC CS.out.bel.size)⟩))
      clear hC hO hBut hBel CS HW HAA HYM HYY HAK HBG
      go_wp2
      go_roundw
      case rel => exact ⟨k + 1, by omega, by go_num, CS2.out⟩
      case measure => simp [intOf]; omega
    · obtain rfl : q2 = k := by omega
      have cf4 := CS.out.bx.cell 4
      simp only [List.getElem?_toArray, List.getElem?_cons_zero, List.getElem?_cons_succ] at cf4
      clear hlt
      go_wp2
      go_loopw [46] (fun i wr => ∃ k : Nat, k ≤ q4 ∧ i = .int .i64 k ∧ Cs w0 w wr b (p1, q1, s1) (p2, q2, s2) (p3, q3, s3) (p4, q4, s4) (p5, q5, s5)) (fun i _ => q4 - (intOf i).toNat)
      case atStart => exact ⟨0, Nat.zero_le _, rfl, CS.out⟩
      case round =>
        obtain ⟨k, hk, rfl, hcs⟩ := hrel
        have CS := Lib.hid hcs
        have hq := Q4.out
        clear hcs
        by_cases hlt : k < q4
        · obtain ⟨l, hl, hA⟩ := CS.out.ent
          have hln : l.length = q4 := own_row_len hl
          obtain ⟨g, rfl, hBg⟩ : ∃ g, p4 = some ⟨g, 0, none⟩ ∧ w.heap.size ≤ g := own_some hl (show 0 < q4 by omega)
          obtain ⟨y, hy⟩ : ∃ y, l[k]? = some y := ⟨_, List.getElem?_eq_getElem (by omega)⟩
          obtain ⟨a, ha⟩ : ∃ a, b.ent[k]? = some a := ⟨_, List.getElem?_eq_getElem (by have h := hA.len; have h2 : l.length = q4 := hln; omega)⟩
          obtain ⟨y', hy', hym⟩ := hA.at k a ha
          rw [hy] at hy'
          obtain rfl := Option.some.inj hy'
          obtain ⟨y1, y2, y3, y4, ⟨yo, yn, yc⟩, y6, y7⟩ := y
          have HW := Lib.hid hl
          have HAA := Lib.hid hA
          have HYM := Lib.hid hym
          have HYY := Lib.hid hy
          have HAK := Lib.hid ha
          have HBG := Lib.hid hBg
          have hw3 : IntKind.i64.wrap ((k : Int) + 1) = (k : Int) + 1 := IntWalk.i64_in _ (by omega)
          clear hl hA hln hy ha hy' hym hBg cf4
          go_upto_region 11 with fail
          refine cp11 _ wr w.heap.size l w.heap.size b.me (.slice p1 q1 s1) (.slice p2 q2 s2) (.slice p3 q3 s3) (.slice p5 q5 s5) g q4 s4 k y1 y2 y3 y4 yo yn yc y6 y7 a.p _ _ _ _ _ _ _ _ _ _ _ _ _ _ _ _ _ _ _ _ _ _ _ _ _ _ _ _ _ _ _ _ _ _ _ _ _ _ _ _ _ _ _ _ _ _ _ _ _ _ _ _ _ _ _ _ _ _ _ _ _ _ _ _ _ _ _ _ _ _ _ _ _ _ _ _ _ _ _ _ CS.out.bx HW.out HYY.out (HYM.out.2.2.2.2.row (W0.out.trans (CS.out.bel.mono W0.out.size))) (HP.out.ent a (List.mem_of_getElem? HAK.out)) ?_
          intro x v49 v50 v51 v52 v53 v54 v55 v56 v57 v58 v59 v60 t1 t2 t3 hC hO hBut hBel
          have CS2 := Lib.hid (show Cs w0 w x b (p1, q1, s1) (p2, q2, s2) (p3, q3, s3) (some ⟨g, 0, none⟩, q4, s4) (p5, q5, s5) from by
            obtain ⟨cur, hg⟩ := own_tag HW.out
            exact CS.out.setN HW.out hO hBut (CS.out.bel.trans (hBel _ HBG.out CS.out.bel.size)) (All2.set k _ a (HAA.out.mono fun _ _ q => q.but hBut hg (by decide)) HAK.out ⟨HYM.out.1, HYM.out.2.1, HYM.out.2.2.1, HYM.out.2.2.2.1, Or.inr (own_fewer hC CS.out.bel.size)⟩))
          clear hC hO hBut hBel CS HW HAA HYM HYY HAK HBG
          go_wp2
          go_roundw
          case rel => exact ⟨k + 1, by omega, by go_num, CS2.out⟩
          case measure => simp [intOf]; omega
        · obtain rfl : q4 = k := by omega
          have cf5 := CS.out.bx.cell 5
          simp only [List.getElem?_toArray, List.getElem?_cons_zero, List.getElem?_cons_succ] at cf5
          clear hlt
          go_wp2
          go_loopw [65] (fun i wr => ∃ k : Nat, k ≤ q5 ∧ i = .int .i64 k ∧ Cs w0 w wr b (p1, q1, s1) (p2, q2, s2) (p3, q3, s3) (p4, q4, s4) (p5, q5, s5)) (fun i _ => q5 - (intOf i).toNat)
          case atStart => exact ⟨0, Nat.zero_le _, rfl, CS.out⟩
          case round =>
            obtain ⟨k, hk, rfl, hcs⟩ := hrel
            have CS := Lib.hid hcs
            have hq := Q5.out
            clear hcs
            by_cases hlt : k < q5
            · obtain ⟨l, hl, hA⟩ := CS.out.own
              have hln : l.length = q5 := own_row_len hl
              obtain ⟨g, rfl, hBg⟩ : ∃ g, p5 = some ⟨g, 0, none⟩ ∧ w.heap.size ≤ g := own_some hl (show 0 < q5 by omega)
              obtain ⟨y, hy⟩ : ∃ y, l[k]? = some y := ⟨_, List.getElem?_eq_getElem (by omega)⟩
              obtain ⟨a, ha⟩ : ∃ a, b.own[k]? = some a := ⟨_, List.getElem?_eq_getElem (by have h := hA.len; have h2 : l.length = q5 := hln; omega)⟩
              obtain ⟨y', hy', hym⟩ := hA.at k a ha
              rw [hy] at hy'
              obtain rfl := Option.some.inj hy'
              obtain ⟨y1, y2, ⟨yo, yn, yc⟩⟩ := y
              have HW := Lib.hid hl
              have HAA := Lib.hid hA
              have HYM := Lib.hid hym
              have HYY := Lib.hid hy
              have HAK := Lib.hid ha
              have HBG := Lib.hid hBg
              have hw3 : IntKind.i64.wrap ((k : Int) + 1) = (k : Int) + 1 := IntWalk.i64_in _ (by omega)
              clear hl hA hln hy ha hy' hym hBg cf5
              go_upto_region 16 with fail
              refine cp16 _ wr w.heap.size l w.heap.size b.me (.slice p1 q1 s1) (.slice p2 q2 s2) (.slice p3 q3 s3) (.slice p4 q4 s4) g q5 s5 k y1 y2 yo yn yc a.p _ _ _ _ _ _ _ _ _ _ _ _ _ _ _ _ _ _ _ _ _ _ _ _ _ _ _ _ _ _ _ _ _ _ _ _ _ _ _ _ _ _ _ _ _ _ _ _ _ _ _ _ _ _ _ _ _ _ _ _ _ _ _ _ _ _ _ _ _ _ _ _ _ _ _ _ _ _ _ _ CS.out.bx HW.out HYY.out (HYM.out.2.row (W0.out.trans (CS.out.bel.mono W0.out.size))) (HP.out.own a (List.mem_of_getElem? HAK.out)) ?_
              intro x v68 v69 v70 v71 v72 v73 v74 v75 v76 v77 v78 v79 t1 t2 t3 hC hO hBut hBel
              have CS2 := Lib.hid (show Cs w0 w x b (p1, q1, s1) (p2, q2, s2) (p3, q3, s3) (p4, q4, s4) (some ⟨g, 0, none⟩, q5, s5) from by
                obtain ⟨cur, hg⟩ := own_tag HW.out
                exact CS.out.setW HW.out hO hBut (CS.out.bel.trans (hBel _ HBG.out CS.out.bel.size)) (All2.set k _ a (HAA.out.mono fun _ _ q => q.but hBut hg (by decide)) HAK.out ⟨HYM.out.1, Or.inr (own_fewer hC CS.out.bel.size)⟩))
              clear hC hO hBut hBel CS HW HAA HYM HYY HAK HBG
              go_wp2
              go_roundw
              case rel => exact ⟨k + 1, by omega, by go_num, CS2.out⟩
              case measure => simp [intOf]; omega
            · obtain rfl : q5 = k := by omega
              have X1 := CS.out.bx
              have Z1 := CS.out.bz
              have x0 := X1.cell 0
              have x1 := X1.cell 1
              have x2 := X1.cell 2
              have x3 := X1.cell 3
              have x4 := X1.cell 4
              have x5 := X1.cell 5
              have r0 := Z1.cell 0
              have r1 := Z1.cell 1
              have r2 := Z1.cell 2
              have r3 := Z1.cell 3
              have r4 := Z1.cell 4
              have r5 := Z1.cell 5
              have t0 := Z1.fr 0
              have t1 := Z1.fr 1
              have t2 := Z1.fr 2
              have t3 := Z1.fr 3
              have t4 := Z1.fr 4
              have t5 := Z1.fr 5
              simp only [List.getElem?_toArray, List.getElem?_cons_zero, List.getElem?_cons_succ] at x0 x1 x2 x3 x4 x5 r0 r1 r2 r3 r4 r5
              have zz := Z1.lt
              have FB := Lib.hid (setB_box Z1 (.int .i64 b.me) (.slice p1 q1 s1) (.slice p2 q2 s2) (.slice p3 q3 s3) (.slice p4 q4 s4) (.slice p5 q5 s5))
              have FD := Lib.hid (CS.out.done (.int .i64 b.me) (.slice p1 q1 s1) (.slice p2 q2 s2) (.slice p3 q3 s3) (.slice p4 q4 s4) (.slice p5 q5 s5))
              clear X1 Z1 CS
              go_wp2_with fail
              have v0 := FB.out.cell 0
              have v1 := FB.out.cell 1
              have v2 := FB.out.cell 2
              have v3 := FB.out.cell 3
              have v4 := FB.out.cell 4
              have v5 := FB.out.cell 5
              simp at v0 v1 v2 v3 v4 v5
              refine bodyPost_ret (v := .agg #[.int .i64 b.me, .slice p1 q1 s1, .slice p2 q2 s2, .slice p3 q3 s3, .slice p4 q4 s4, .slice p5 q5 s5]) (by simp [results, Tryz.results29, go_sem, v0, v1, v2, v3, v4, v5]) rfl ?_
              exact ⟨⟨(p1, q1, s1), (p2, q2, s2), (p3, q3, s3), (p4, q4, s4), (p5, q5, s5), rfl, FD.out.1⟩, FD.out.2⟩
end Go.Proofs.YtonoadjmglkhaaaGreat.Av
