/-
  A step of Copy: an entry's predicate copied. Condition: at most 900 constraints.
  A step of Copy: an own subscription's predicate copied. Condition: at most 900 constraints.
-/
import Derived.Test.YtonoadjmglkhaaaQ017
import Derived.Test.YtonoadjmglkhaaaQ015
import Derived.Test.YtonoadjmglkhaaaQ002
namespace Go.Proofs.Ytonoadjmglkhaaa.Av
open Go.RowKit Go.Sort Go.Proofs.Ytonoadjmglkhaaa Go.Proofs.Ytonoadjmglkhaaa.Rw Go.Proofs.Ytonoadjmglkhaaa.Nm Go.Proofs.Ytonoadjmglkhaaa.Pr Go.Proofs.Ytonoadjmglkhaaa.Bk

def cp11V (B : Nat) (b1 : Nat) (_me : Int) (_z1 _z2 _z3 _z5 : Value) (g n cap k : Nat) (_y1 _y2 _y3 _y4 : Int) (yo : Option Addr) (yn yc : Nat) (_y6 : Int) (_y7 : Bool) (p : List C5) (i : Nat) (v : Value) (x : World) : Prop :=
  match i with
  | 0 => v = .pointer (some ⟨b1, 4, none⟩)
  | 1 => v = .slice (some ⟨g, 0, none⟩) n cap
  | 2 => v = .int .i64 (k : Int)
  | 3 => v = .pointer (some ⟨b1, 4, none⟩)
  | 4 => v = .slice (some ⟨g, 0, none⟩) n cap
  | 5 => v = .int .i64 (k : Int)
  | 6 => v = .pointer (some ⟨g, k * 7, none⟩)
  | 7 => v = .pointer (some ⟨g, k * 7 + 4, none⟩)
  | 8 => v = .slice yo yn yc
  | 9 => ∃ s : Sl, v = slv s ∧ OwnC x B v p
  | 10 => v = .pointer (some ⟨g, k * 7, none⟩)
  | 11 => v = .pointer (some ⟨g, k * 7 + 4, none⟩)
  | _ => True
noncomputable def cp11C : Code := ((Try.f15.body.bind (findRegion 11)).getD .skip)
theorem cp11V_on (B : Nat) (b1 : Nat) (me : Int) (z1 z2 z3 z5 : Value) (g n cap k : Nat) (y1 y2 y3 y4 : Int) (yo : Option Addr) (yn yc : Nat) (y6 : Int) (y7 : Bool) (p : List C5) (i : Nat) (v : Value) (x x' : World) (h : cp11V B b1 me z1 z2 z3 z5 g n cap k y1 y2 y3 y4 yo yn yc y6 y7 p i v x) (hb : Below x.heap.size x x') : cp11V B b1 me z1 z2 z3 z5 g n cap k y1 y2 y3 y4 yo yn yc y6 y7 p i v x' := by
  by_cases hi : i < 12
  · rcases (by omega : i = 0 ∨ i = 1 ∨ i = 2 ∨ i = 3 ∨ i = 4 ∨ i = 5 ∨ i = 6 ∨ i = 7 ∨ i = 8 ∨ i = 9 ∨ i = 10 ∨ i = 11) with rfl | rfl | rfl | rfl | rfl | rfl | rfl | rfl | rfl | rfl | rfl | rfl
    · exact h
    · exact h
    · exact h
    · exact h
    · exact h
    · exact h
    · exact h
    · exact h
    · exact h
    · obtain ⟨s, h1, h2⟩ := h; exact ⟨s, h1, Bk.own_on h2 hb⟩
    · exact h
    · exact h
  · unfold cp11V
    split <;> first | omega | trivial
set_option maxRecDepth 100000 in
set_option maxHeartbeats 8000000 in
theorem cp11 (Q : Exit → Act → World → Prop) (W : World) (B0 : Nat) (l : List XEn) (b1 : Nat) (me : Int) (z1 z2 z3 z5 : Value) (g n cap k : Nat) (y1 y2 y3 y4 : Int) (yo : Option Addr) (yn yc : Nat) (y6 : Int) (y7 : Bool) (p : List C5) (u0 u2 u3 u5 u6 u7 u8 u9 u10 u11 u12 u13 u14 u15 u16 u17 u18 u19 u20 u21 u22 u23 u24 u25 u26 u27 u28 u29 u30 u31 u32 u33 u34 u35 u36 u37 u38 u39 u40 u41 u42 u43 u44 u45 u46 u47 u48 u49 u50 u51 u52 u53 u54 u55 u56 u57 u58 u59 u60 u61 u62 u63 u64 u65 u66 u67 u68 u69 u70 u71 u72 u73 u74 u75 u76 u77 u78 u79 u80 u81 : Value)
    (h1 : Box W b1 #[.int .i64 me, z1, z2, z3, .slice (some ⟨g, 0, none⟩) n cap, z5] 33) (ho : OwnN W B0 (.slice (some ⟨g, 0, none⟩) n cap) l) (hy : l[k]? = some (y1, y2, y3, y4, (yo, yn, yc), y6, y7)) (hp : RowC W (.slice yo yn yc) p) (lp : p.length ≤ 900)
    (hQ : ∀ (x : World) (v49 v50 v51 v52 v53 v54 v55 v56 v57 v58 v59 v60 : Value) (s1 : Option Addr) (s2 s3 : Nat), OwnC x W.heap.size (.slice s1 s2 s3) p → OwnN x B0 (.slice (some ⟨g, 0, none⟩) n cap) (l.set k (y1, y2, y3, y4, (s1, s2, s3), y6, y7)) → But g W x → (∀ B1, B1 ≤ g → B1 ≤ W.heap.size → Below B1 W x) → Q .normal ⟨(u0 :: .pointer (some ⟨b1, 0, none⟩) :: u2 :: u3 :: .int .i64 (k : Int) :: u5 :: u6 :: u7 :: u8 :: u9 :: u10 :: u11 :: u12 :: u13 :: u14 :: u15 :: u16 :: u17 :: u18 :: u19 :: u20 :: u21 :: u22 :: u23 :: u24 :: u25 :: u26 :: u27 :: u28 :: u29 :: u30 :: u31 :: u32 :: u33 :: u34 :: u35 :: u36 :: u37 :: u38 :: u39 :: u40 :: u41 :: u42 :: u43 :: u44 :: u45 :: u46 :: u47 :: u48 :: v49 :: v50 :: v51 :: v52 :: v53 :: v54 :: v55 :: v56 :: v57 :: v58 :: v59 :: v60 :: u61 :: u62 :: u63 :: u64 :: u65 :: u66 :: u67 :: u68 :: u69 :: u70 :: u71 :: u72 :: u73 :: u74 :: u75 :: u76 :: u77 :: u78 :: u79 :: u80 :: u81 :: []).toArray, []⟩ x) :
    Code.wp Try.prog cp11C Q ⟨(u0 :: .pointer (some ⟨b1, 0, none⟩) :: u2 :: u3 :: .int .i64 (k : Int) :: u5 :: u6 :: u7 :: u8 :: u9 :: u10 :: u11 :: u12 :: u13 :: u14 :: u15 :: u16 :: u17 :: u18 :: u19 :: u20 :: u21 :: u22 :: u23 :: u24 :: u25 :: u26 :: u27 :: u28 :: u29 :: u30 :: u31 :: u32 :: u33 :: u34 :: u35 :: u36 :: u37 :: u38 :: u39 :: u40 :: u41 :: u42 :: u43 :: u44 :: u45 :: u46 :: u47 :: u48 :: u49 :: u50 :: u51 :: u52 :: u53 :: u54 :: u55 :: u56 :: u57 :: u58 :: u59 :: u60 :: u61 :: u62 :: u63 :: u64 :: u65 :: u66 :: u67 :: u68 :: u69 :: u70 :: u71 :: u72 :: u73 :: u74 :: u75 :: u76 :: u77 :: u78 :: u79 :: u80 :: u81 :: []).toArray, []⟩ W := by
  have HQ := Lib.hid hQ
  have H1 := Lib.hid h1
  have HO := Lib.hid ho
  have HY := Lib.hid hy
  have HP := Lib.hid hp
  have LP := Lib.hid lp
  have IX := Lib.hid (index_own okN g k n cap (by obtain ⟨_, _, hv⟩ := (Row.of_own ho).len; have h := (List.getElem?_eq_some_iff.1 hy).1; simp at hv; omega))
  have EL := Lib.hid (own_row_at okN ho hy)
  clear hQ h1 ho hy hp lp
  have stab := cp11V_on W.heap.size b1 me z1 z2 z3 z5 g n cap k y1 y2 y3 y4 yo yn yc y6 y7 p
  unfold cp11C
  conv => arg 2; whnf
  have nd : ∀ j, (j < 49 ∨ 61 ≤ j) → ∀ i, i < 12 → (fun i => 49 + i) i ≠ j := by
    intro j hj i hi h
    simp only at h
    omega
  refine Rg.region_live 13 12 (fun i => 49 + i) (fun _ => 12) (cp11V W.heap.size b1 me z1 z2 z3 z5 g n cap k y1 y2 y3 y4 yo yn yc y6 y7 p) (by kernel_rfl) (by kernel_rfl) rfl (by decide) (fun i j _ _ h => by have h2 : 49 + i = 49 + j := h; omega) (fun i hi => by show 49 + i < 82; omega) ?_ (fun _ => Rg.hall_of 14 (by kernel_rfl)) ?_ ?_
  · intro i o hi ho a x D hnd hc hD hb seen K hK
    clear HQ
    rcases (by omega : i = 0 ∨ i = 1 ∨ i = 2 ∨ i = 3 ∨ i = 4 ∨ i = 5 ∨ i = 6 ∨ i = 7 ∨ i = 8 ∨ i = 9 ∨ i = 10 ∨ i = 11) with rfl | rfl | rfl | rfl | rfl | rfl | rfl | rfl | rfl | rfl | rfl | rfl
    · obtain rfl := Option.some.inj ho
      have e1 : a.eval (.tmp 1) = .pointer (some ⟨b1, 0, none⟩) := seen.kp 1 _ (nd 1 (by omega)) rfl
      exact Rg.op_value rfl rfl (Rg.ex_field a.eval _ 33 (.tmp 1) 4 rfl (by rw [e1]; simp [go_sem])) (hK _ _ rfl (Below.refl _ _) fun _ _ _ _ _ _ _ h => h)
    · obtain rfl := Option.some.inj ho
      have e49 : a.eval (.tmp 49) = .pointer (some ⟨b1, 4, none⟩) := seen.at_ ⟨0, .data⟩ (by simp) rfl (Or.inr (by decide))
      have y4 := (H1.out.on hb).cell 4
      simp only [List.getElem?_toArray, List.getElem?_cons_zero, List.getElem?_cons_succ] at y4
      exact Rg.op_value rfl rfl (Rg.ex_load a.eval _ 30 (.tmp 49) rfl (by rw [e49]; simp [go_sem, y4])) (hK _ _ rfl (Below.refl _ _) fun _ _ _ _ _ _ _ h => h)
    · obtain rfl := Option.some.inj ho
      have e4 : a.eval (.tmp 4) = .int .i64 (k : Int) := seen.kp 4 _ (nd 4 (by omega)) rfl
      exact Rg.op_value rfl rfl (Rg.ex_move a.eval _ (.tmp 4) rfl x) (hK _ _ e4 (Below.refl _ _) fun _ _ _ _ _ _ _ h => h)
    · obtain rfl := Option.some.inj ho
      have e1 : a.eval (.tmp 1) = .pointer (some ⟨b1, 0, none⟩) := seen.kp 1 _ (nd 1 (by omega)) rfl
      exact Rg.op_value rfl rfl (Rg.ex_field a.eval _ 33 (.tmp 1) 4 rfl (by rw [e1]; simp [go_sem])) (hK _ _ rfl (Below.refl _ _) fun _ _ _ _ _ _ _ h => h)
    · obtain rfl := Option.some.inj ho
      have e52 : a.eval (.tmp 52) = .pointer (some ⟨b1, 4, none⟩) := seen.at_ ⟨3, .data⟩ (by simp) rfl (Or.inr (by decide))
      have y4 := (H1.out.on hb).cell 4
      simp only [List.getElem?_toArray, List.getElem?_cons_zero, List.getElem?_cons_succ] at y4
      exact Rg.op_value rfl rfl (Rg.ex_load a.eval _ 30 (.tmp 52) rfl (by rw [e52]; simp [go_sem, y4])) (hK _ _ rfl (Below.refl _ _) fun _ _ _ _ _ _ _ h => h)
    · obtain rfl := Option.some.inj ho
      have e4 : a.eval (.tmp 4) = .int .i64 (k : Int) := seen.kp 4 _ (nd 4 (by omega)) rfl
      exact Rg.op_value rfl rfl (Rg.ex_move a.eval _ (.tmp 4) rfl x) (hK _ _ e4 (Below.refl _ _) fun _ _ _ _ _ _ _ h => h)
    · obtain rfl := Option.some.inj ho
      have e53 : a.eval (.tmp 53) = .slice (some ⟨g, 0, none⟩) n cap := seen.at_ ⟨4, .data⟩ (by simp) rfl (Or.inr (by decide))
      have e54 : a.eval (.tmp 54) = .int .i64 (k : Int) := seen.at_ ⟨5, .data⟩ (by simp) rfl (Or.inr (by decide))
      exact Rg.op_value rfl rfl (Rg.ex_index a.eval _ 30 (.tmp 53) (.tmp 54) rfl (by rw [e53, e54]; exact IX.out x)) (hK _ _ rfl (Below.refl _ _) fun _ _ _ _ _ _ _ h => h)
    · obtain rfl := Option.some.inj ho
      have e55 : a.eval (.tmp 55) = .pointer (some ⟨g, k * 7, none⟩) := seen.at_ ⟨6, .data⟩ (by simp) rfl (Or.inr (by decide))
      exact Rg.op_value rfl rfl (Rg.ex_field a.eval _ 63 (.tmp 55) 2 rfl (by rw [e55]; simp [go_sem])) (hK _ _ rfl (Below.refl _ _) fun _ _ _ _ _ _ _ h => h)
    · obtain rfl := Option.some.inj ho
      have e56 : a.eval (.tmp 56) = .pointer (some ⟨g, k * 7 + 4, none⟩) := seen.at_ ⟨7, .data⟩ (by simp) rfl (Or.inr (by decide))
      have y := EL.out x hb 4 _ rfl
      simp [Addr.add, EN] at y
      exact Rg.op_value rfl rfl (Rg.ex_load a.eval _ 24 (.tmp 56) rfl (by rw [e56]; simp [go_sem, y])) (hK _ _ rfl (Below.refl _ _) fun _ _ _ _ _ _ _ h => h)
    · obtain rfl := Option.some.inj ho
      have e57 : a.eval (.tmp 57) = .slice yo yn yc := seen.at_ ⟨8, .data⟩ (by simp) rfl (Or.inr (by decide))
      exact Rg.op_call rfl rfl (Rw.ex_call1 a.eval _ (.tmp 57) 24 53 rfl e57 rfl _ (call_fn Try.func53 rfl rfl _ _)) (cloneC_any (yo, yn, yc) p x (HP.out.on hb) LP.out) fun e w1 h => by
        obtain ⟨⟨s, rfl, h1⟩, h3⟩ := h
        exact ⟨_, rfl, hK _ _ ⟨s, rfl, own_fewer h1 hb.size⟩ (h3.mono hb.size) fun j u hj _ _ _ hne h => stab j u _ _ h h3⟩
    · obtain rfl := Option.some.inj ho
      have e50 : a.eval (.tmp 50) = .slice (some ⟨g, 0, none⟩) n cap := seen.at_ ⟨1, .data⟩ (by simp) rfl (Or.inr (by decide))
      have e51 : a.eval (.tmp 51) = .int .i64 (k : Int) := seen.at_ ⟨2, .data⟩ (by simp) rfl (Or.inr (by decide))
      exact Rg.op_value rfl rfl (Rg.ex_index a.eval _ 30 (.tmp 50) (.tmp 51) rfl (by rw [e50, e51]; exact IX.out x)) (hK _ _ rfl (Below.refl _ _) fun _ _ _ _ _ _ _ h => h)
    · obtain rfl := Option.some.inj ho
      have e59 : a.eval (.tmp 59) = .pointer (some ⟨g, k * 7, none⟩) := seen.at_ ⟨10, .data⟩ (by simp) rfl (Or.inr (by decide))
      exact Rg.op_value rfl rfl (Rg.ex_field a.eval _ 63 (.tmp 59) 2 rfl (by rw [e59]; simp [go_sem])) (hK _ _ rfl (Below.refl _ _) fun _ _ _ _ _ _ _ h => h)
  · intro kk o h1 h2 ho
    omega
  · intro a w' df sz kp ⟨vs, hv⟩ hb
    have sz' : a.tmps.size = 82 := sz
    have g60 : a.tmps[60]? = some (.pointer (some ⟨g, k * 7 + 4, none⟩)) := by
      have h : vs 11 = .pointer (some ⟨g, k * 7 + 4, none⟩) := (hv 11 (by omega)).2 (by decide)
      rw [← h]
      exact (hv 11 (by omega)).1
    obtain ⟨⟨s1, s2, s3⟩, hs, hc⟩ := (hv 9 (by omega)).2 (by decide)
    have g58 : a.tmps[58]? = some (.slice s1 s2 s3) := ((hv 9 (by omega)).1).trans (congrArg some hs)
    rw [hs] at hc
    obtain ⟨w2, hr, st1, st2, st3⟩ := storeN (k := k) s1 s2 s3 (Bk.own_on HO.out hb) HY.out
    obtain ⟨cur, hg⟩ := own_tag (Bk.own_on HO.out hb)
    show Rg.SeqFrom _ _ _ 1 12 a w'
    simp only [Rg.SeqFrom]
    refine Rg.op_store 24 (.tmp 60) (.tmp 58) rfl rfl rfl rfl (Rg.eval_some g60) (Rg.eval_some g58) (w' := w2) hr ?_
    have kp2 : ∀ j, (j < 49 ∨ 61 ≤ j) → (a).tmps[j]? = (u0 :: .pointer (some ⟨b1, 0, none⟩) :: u2 :: u3 :: .int .i64 (k : Int) :: u5 :: u6 :: u7 :: u8 :: u9 :: u10 :: u11 :: u12 :: u13 :: u14 :: u15 :: u16 :: u17 :: u18 :: u19 :: u20 :: u21 :: u22 :: u23 :: u24 :: u25 :: u26 :: u27 :: u28 :: u29 :: u30 :: u31 :: u32 :: u33 :: u34 :: u35 :: u36 :: u37 :: u38 :: u39 :: u40 :: u41 :: u42 :: u43 :: u44 :: u45 :: u46 :: u47 :: u48 :: u49 :: u50 :: u51 :: u52 :: u53 :: u54 :: u55 :: u56 :: u57 :: u58 :: u59 :: u60 :: u61 :: u62 :: u63 :: u64 :: u65 :: u66 :: u67 :: u68 :: u69 :: u70 :: u71 :: u72 :: u73 :: u74 :: u75 :: u76 :: u77 :: u78 :: u79 :: u80 :: u81 :: [])[j]? := fun j hj => (kp j (nd j (by omega))).trans List.getElem?_toArray
    obtain ⟨mid, hmid, hfr⟩ := Rg.frame_mid (a := a) (bl := (u0 :: .pointer (some ⟨b1, 0, none⟩) :: u2 :: u3 :: .int .i64 (k : Int) :: u5 :: u6 :: u7 :: u8 :: u9 :: u10 :: u11 :: u12 :: u13 :: u14 :: u15 :: u16 :: u17 :: u18 :: u19 :: u20 :: u21 :: u22 :: u23 :: u24 :: u25 :: u26 :: u27 :: u28 :: u29 :: u30 :: u31 :: u32 :: u33 :: u34 :: u35 :: u36 :: u37 :: u38 :: u39 :: u40 :: u41 :: u42 :: u43 :: u44 :: u45 :: u46 :: u47 :: u48 :: u49 :: u50 :: u51 :: u52 :: u53 :: u54 :: u55 :: u56 :: u57 :: u58 :: u59 :: u60 :: u61 :: u62 :: u63 :: u64 :: u65 :: u66 :: u67 :: u68 :: u69 :: u70 :: u71 :: u72 :: u73 :: u74 :: u75 :: u76 :: u77 :: u78 :: u79 :: u80 :: u81 :: [])) 49 12 df (by simp [sz']) (by simp) kp2
    show Q .normal (a) _
    rw [hfr]
    match mid, hmid with
    | [v49, v50, v51, v52, v53, v54, v55, v56, v57, v58, v59, v60], _ =>
      exact HQ.out _ _ _ _ _ _ _ _ _ _ _ _ _ s1 s2 s3 (st2.own hc hg (by decide)) st1 ((But.of_below hb).trans st2) fun B1 hB hl => st3 B1 W hB (hb.mono hl)
end Go.Proofs.Ytonoadjmglkhaaa.Av

namespace Go.Proofs.Ytonoadjmglkhaaa.Av
open Go.RowKit Go.Sort Go.Proofs.Ytonoadjmglkhaaa Go.Proofs.Ytonoadjmglkhaaa.Rw Go.Proofs.Ytonoadjmglkhaaa.Nm Go.Proofs.Ytonoadjmglkhaaa.Pr Go.Proofs.Ytonoadjmglkhaaa.Bk

def cp16V (B : Nat) (b1 : Nat) (_me : Int) (_z1 _z2 _z3 _z4 : Value) (g n cap k : Nat) (_y1 _y2 : Int) (yo : Option Addr) (yn yc : Nat) (p : List C5) (i : Nat) (v : Value) (x : World) : Prop :=
  match i with
  | 0 => v = .pointer (some ⟨b1, 5, none⟩)
  | 1 => v = .slice (some ⟨g, 0, none⟩) n cap
  | 2 => v = .int .i64 (k : Int)
  | 3 => v = .pointer (some ⟨b1, 5, none⟩)
  | 4 => v = .slice (some ⟨g, 0, none⟩) n cap
  | 5 => v = .int .i64 (k : Int)
  | 6 => v = .pointer (some ⟨g, k * 3, none⟩)
  | 7 => v = .pointer (some ⟨g, k * 3 + 2, none⟩)
  | 8 => v = .slice yo yn yc
  | 9 => ∃ s : Sl, v = slv s ∧ OwnC x B v p
  | 10 => v = .pointer (some ⟨g, k * 3, none⟩)
  | 11 => v = .pointer (some ⟨g, k * 3 + 2, none⟩)
  | _ => True
noncomputable def cp16C : Code := ((Try.f15.body.bind (findRegion 16)).getD .skip)
theorem cp16V_on (B : Nat) (b1 : Nat) (me : Int) (z1 z2 z3 z4 : Value) (g n cap k : Nat) (y1 y2 : Int) (yo : Option Addr) (yn yc : Nat) (p : List C5) (i : Nat) (v : Value) (x x' : World) (h : cp16V B b1 me z1 z2 z3 z4 g n cap k y1 y2 yo yn yc p i v x) (hb : Below x.heap.size x x') : cp16V B b1 me z1 z2 z3 z4 g n cap k y1 y2 yo yn yc p i v x' := by
  by_cases hi : i < 12
  · rcases (by omega : i = 0 ∨ i = 1 ∨ i = 2 ∨ i = 3 ∨ i = 4 ∨ i = 5 ∨ i = 6 ∨ i = 7 ∨ i = 8 ∨ i = 9 ∨ i = 10 ∨ i = 11) with rfl | rfl | rfl | rfl | rfl | rfl | rfl | rfl | rfl | rfl | rfl | rfl
    · exact h
    · exact h
    · exact h
    · exact h
    · exact h
    · exact h
    · exact h
    · exact h
    · exact h
    · obtain ⟨s, h1, h2⟩ := h; exact ⟨s, h1, Bk.own_on h2 hb⟩
    · exact h
    · exact h
  · unfold cp16V
    split <;> first | omega | trivial
set_option maxRecDepth 100000 in
set_option maxHeartbeats 8000000 in
theorem cp16 (Q : Exit → Act → World → Prop) (W : World) (B0 : Nat) (l : List XOw) (b1 : Nat) (me : Int) (z1 z2 z3 z4 : Value) (g n cap k : Nat) (y1 y2 : Int) (yo : Option Addr) (yn yc : Nat) (p : List C5) (u0 u2 u3 u4 u6 u7 u8 u9 u10 u11 u12 u13 u14 u15 u16 u17 u18 u19 u20 u21 u22 u23 u24 u25 u26 u27 u28 u29 u30 u31 u32 u33 u34 u35 u36 u37 u38 u39 u40 u41 u42 u43 u44 u45 u46 u47 u48 u49 u50 u51 u52 u53 u54 u55 u56 u57 u58 u59 u60 u61 u62 u63 u64 u65 u66 u67 u68 u69 u70 u71 u72 u73 u74 u75 u76 u77 u78 u79 u80 u81 : Value)
    (h1 : Box W b1 #[.int .i64 me, z1, z2, z3, z4, .slice (some ⟨g, 0, none⟩) n cap] 33) (ho : OwnW W B0 (.slice (some ⟨g, 0, none⟩) n cap) l) (hy : l[k]? = some (y1, y2, (yo, yn, yc))) (hp : RowC W (.slice yo yn yc) p) (lp : p.length ≤ 900)
    (hQ : ∀ (x : World) (v68 v69 v70 v71 v72 v73 v74 v75 v76 v77 v78 v79 : Value) (s1 : Option Addr) (s2 s3 : Nat), OwnC x W.heap.size (.slice s1 s2 s3) p → OwnW x B0 (.slice (some ⟨g, 0, none⟩) n cap) (l.set k (y1, y2, (s1, s2, s3))) → But g W x → (∀ B1, B1 ≤ g → B1 ≤ W.heap.size → Below B1 W x) → Q .normal ⟨(u0 :: .pointer (some ⟨b1, 0, none⟩) :: u2 :: u3 :: u4 :: .int .i64 (k : Int) :: u6 :: u7 :: u8 :: u9 :: u10 :: u11 :: u12 :: u13 :: u14 :: u15 :: u16 :: u17 :: u18 :: u19 :: u20 :: u21 :: u22 :: u23 :: u24 :: u25 :: u26 :: u27 :: u28 :: u29 :: u30 :: u31 :: u32 :: u33 :: u34 :: u35 :: u36 :: u37 :: u38 :: u39 :: u40 :: u41 :: u42 :: u43 :: u44 :: u45 :: u46 :: u47 :: u48 :: u49 :: u50 :: u51 :: u52 :: u53 :: u54 :: u55 :: u56 :: u57 :: u58 :: u59 :: u60 :: u61 :: u62 :: u63 :: u64 :: u65 :: u66 :: u67 :: v68 :: v69 :: v70 :: v71 :: v72 :: v73 :: v74 :: v75 :: v76 :: v77 :: v78 :: v79 :: u80 :: u81 :: []).toArray, []⟩ x) :
    Code.wp Try.prog cp16C Q ⟨(u0 :: .pointer (some ⟨b1, 0, none⟩) :: u2 :: u3 :: u4 :: .int .i64 (k : Int) :: u6 :: u7 :: u8 :: u9 :: u10 :: u11 :: u12 :: u13 :: u14 :: u15 :: u16 :: u17 :: u18 :: u19 :: u20 :: u21 :: u22 :: u23 :: u24 :: u25 :: u26 :: u27 :: u28 :: u29 :: u30 :: u31 :: u32 :: u33 :: u34 :: u35 :: u36 :: u37 :: u38 :: u39 :: u40 :: u41 :: u42 :: u43 :: u44 :: u45 :: u46 :: u47 :: u48 :: u49 :: u50 :: u51 :: u52 :: u53 :: u54 :: u55 :: u56 :: u57 :: u58 :: u59 :: u60 :: u61 :: u62 :: u63 :: u64 :: u65 :: u66 :: u67 :: u68 :: u69 :: u70 :: u71 :: u72 :: u73 :: u74 :: u75 :: u76 :: u77 :: u78 :: u79 :: u80 :: u81 :: []).toArray, []⟩ W := by
  have HQ := Lib.hid hQ
  have H1 := Lib.hid h1
  have HO := Lib.hid ho
  have HY := Lib.hid hy
  have HP := Lib.hid hp
  have LP := Lib.hid lp
  have IX := Lib.hid (index_own okW g k n cap (by obtain ⟨_, _, hv⟩ := (Row.of_own ho).len; have h := (List.getElem?_eq_some_iff.1 hy).1; simp at hv; omega))
  have EL := Lib.hid (own_row_at okW ho hy)
  clear hQ h1 ho hy hp lp
  have stab := cp16V_on W.heap.size b1 me z1 z2 z3 z4 g n cap k y1 y2 yo yn yc p
  unfold cp16C
  conv => arg 2; whnf
  have nd : ∀ j, (j < 68 ∨ 80 ≤ j) → ∀ i, i < 12 → (fun i => 68 + i) i ≠ j := by
    intro j hj i hi h
    simp only at h
    omega
  refine Rg.region_live 13 12 (fun i => 68 + i) (fun _ => 12) (cp16V W.heap.size b1 me z1 z2 z3 z4 g n cap k y1 y2 yo yn yc p) (by kernel_rfl) (by kernel_rfl) rfl (by decide) (fun i j _ _ h => by have h2 : 68 + i = 68 + j := h; omega) (fun i hi => by show 68 + i < 82; omega) ?_ (fun _ => Rg.hall_of 14 (by kernel_rfl)) ?_ ?_
  · intro i o hi ho a x D hnd hc hD hb seen K hK
    clear HQ
    rcases (by omega : i = 0 ∨ i = 1 ∨ i = 2 ∨ i = 3 ∨ i = 4 ∨ i = 5 ∨ i = 6 ∨ i = 7 ∨ i = 8 ∨ i = 9 ∨ i = 10 ∨ i = 11) with rfl | rfl | rfl | rfl | rfl | rfl | rfl | rfl | rfl | rfl | rfl | rfl
    · obtain rfl := Option.some.inj ho
      have e1 : a.eval (.tmp 1) = .pointer (some ⟨b1, 0, none⟩) := seen.kp 1 _ (nd 1 (by omega)) rfl
      exact Rg.op_value rfl rfl (Rg.ex_field a.eval _ 33 (.tmp 1) 5 rfl (by rw [e1]; simp [go_sem])) (hK _ _ rfl (Below.refl _ _) fun _ _ _ _ _ _ _ h => h)
    · obtain rfl := Option.some.inj ho
      have e68 : a.eval (.tmp 68) = .pointer (some ⟨b1, 5, none⟩) := seen.at_ ⟨0, .data⟩ (by simp) rfl (Or.inr (by decide))
      have y5 := (H1.out.on hb).cell 5
      simp only [List.getElem?_toArray, List.getElem?_cons_zero, List.getElem?_cons_succ] at y5
      exact Rg.op_value rfl rfl (Rg.ex_load a.eval _ 31 (.tmp 68) rfl (by rw [e68]; simp [go_sem, y5])) (hK _ _ rfl (Below.refl _ _) fun _ _ _ _ _ _ _ h => h)
    · obtain rfl := Option.some.inj ho
      have e5 : a.eval (.tmp 5) = .int .i64 (k : Int) := seen.kp 5 _ (nd 5 (by omega)) rfl
      exact Rg.op_value rfl rfl (Rg.ex_move a.eval _ (.tmp 5) rfl x) (hK _ _ e5 (Below.refl _ _) fun _ _ _ _ _ _ _ h => h)
    · obtain rfl := Option.some.inj ho
      have e1 : a.eval (.tmp 1) = .pointer (some ⟨b1, 0, none⟩) := seen.kp 1 _ (nd 1 (by omega)) rfl
      exact Rg.op_value rfl rfl (Rg.ex_field a.eval _ 33 (.tmp 1) 5 rfl (by rw [e1]; simp [go_sem])) (hK _ _ rfl (Below.refl _ _) fun _ _ _ _ _ _ _ h => h)
    · obtain rfl := Option.some.inj ho
      have e71 : a.eval (.tmp 71) = .pointer (some ⟨b1, 5, none⟩) := seen.at_ ⟨3, .data⟩ (by simp) rfl (Or.inr (by decide))
      have y5 := (H1.out.on hb).cell 5
      simp only [List.getElem?_toArray, List.getElem?_cons_zero, List.getElem?_cons_succ] at y5
      exact Rg.op_value rfl rfl (Rg.ex_load a.eval _ 31 (.tmp 71) rfl (by rw [e71]; simp [go_sem, y5])) (hK _ _ rfl (Below.refl _ _) fun _ _ _ _ _ _ _ h => h)
    · obtain rfl := Option.some.inj ho
      have e5 : a.eval (.tmp 5) = .int .i64 (k : Int) := seen.kp 5 _ (nd 5 (by omega)) rfl
      exact Rg.op_value rfl rfl (Rg.ex_move a.eval _ (.tmp 5) rfl x) (hK _ _ e5 (Below.refl _ _) fun _ _ _ _ _ _ _ h => h)
    · obtain rfl := Option.some.inj ho
      have e72 : a.eval (.tmp 72) = .slice (some ⟨g, 0, none⟩) n cap := seen.at_ ⟨4, .data⟩ (by simp) rfl (Or.inr (by decide))
      have e73 : a.eval (.tmp 73) = .int .i64 (k : Int) := seen.at_ ⟨5, .data⟩ (by simp) rfl (Or.inr (by decide))
      exact Rg.op_value rfl rfl (Rg.ex_index a.eval _ 31 (.tmp 72) (.tmp 73) rfl (by rw [e72, e73]; exact IX.out x)) (hK _ _ rfl (Below.refl _ _) fun _ _ _ _ _ _ _ h => h)
    · obtain rfl := Option.some.inj ho
      have e74 : a.eval (.tmp 74) = .pointer (some ⟨g, k * 3, none⟩) := seen.at_ ⟨6, .data⟩ (by simp) rfl (Or.inr (by decide))
      exact Rg.op_value rfl rfl (Rg.ex_field a.eval _ 74 (.tmp 74) 1 rfl (by rw [e74]; simp [go_sem])) (hK _ _ rfl (Below.refl _ _) fun _ _ _ _ _ _ _ h => h)
    · obtain rfl := Option.some.inj ho
      have e75 : a.eval (.tmp 75) = .pointer (some ⟨g, k * 3 + 2, none⟩) := seen.at_ ⟨7, .data⟩ (by simp) rfl (Or.inr (by decide))
      have y := EL.out x hb 2 _ rfl
      simp [Addr.add, EW] at y
      exact Rg.op_value rfl rfl (Rg.ex_load a.eval _ 24 (.tmp 75) rfl (by rw [e75]; simp [go_sem, y])) (hK _ _ rfl (Below.refl _ _) fun _ _ _ _ _ _ _ h => h)
    · obtain rfl := Option.some.inj ho
      have e76 : a.eval (.tmp 76) = .slice yo yn yc := seen.at_ ⟨8, .data⟩ (by simp) rfl (Or.inr (by decide))
      exact Rg.op_call rfl rfl (Rw.ex_call1 a.eval _ (.tmp 76) 24 53 rfl e76 rfl _ (call_fn Try.func53 rfl rfl _ _)) (cloneC_any (yo, yn, yc) p x (HP.out.on hb) LP.out) fun e w1 h => by
        obtain ⟨⟨s, rfl, h1⟩, h3⟩ := h
        exact ⟨_, rfl, hK _ _ ⟨s, rfl, own_fewer h1 hb.size⟩ (h3.mono hb.size) fun j u hj _ _ _ hne h => stab j u _ _ h h3⟩
    · obtain rfl := Option.some.inj ho
      have e69 : a.eval (.tmp 69) = .slice (some ⟨g, 0, none⟩) n cap := seen.at_ ⟨1, .data⟩ (by simp) rfl (Or.inr (by decide))
      have e70 : a.eval (.tmp 70) = .int .i64 (k : Int) := seen.at_ ⟨2, .data⟩ (by simp) rfl (Or.inr (by decide))
      exact Rg.op_value rfl rfl (Rg.ex_index a.eval _ 31 (.tmp 69) (.tmp 70) rfl (by rw [e69, e70]; exact IX.out x)) (hK _ _ rfl (Below.refl _ _) fun _ _ _ _ _ _ _ h => h)
    · obtain rfl := Option.some.inj ho
      have e78 : a.eval (.tmp 78) = .pointer (some ⟨g, k * 3, none⟩) := seen.at_ ⟨10, .data⟩ (by simp) rfl (Or.inr (by decide))
      exact Rg.op_value rfl rfl (Rg.ex_field a.eval _ 74 (.tmp 78) 1 rfl (by rw [e78]; simp [go_sem])) (hK _ _ rfl (Below.refl _ _) fun _ _ _ _ _ _ _ h => h)
  · intro kk o h1 h2 ho
    omega
  · intro a w' df sz kp ⟨vs, hv⟩ hb
    have sz' : a.tmps.size = 82 := sz
    have g79 : a.tmps[79]? = some (.pointer (some ⟨g, k * 3 + 2, none⟩)) := by
      have h : vs 11 = .pointer (some ⟨g, k * 3 + 2, none⟩) := (hv 11 (by omega)).2 (by decide)
      rw [← h]
      exact (hv 11 (by omega)).1
    obtain ⟨⟨s1, s2, s3⟩, hs, hc⟩ := (hv 9 (by omega)).2 (by decide)
    have g77 : a.tmps[77]? = some (.slice s1 s2 s3) := ((hv 9 (by omega)).1).trans (congrArg some hs)
    rw [hs] at hc
    obtain ⟨w2, hr, st1, st2, st3⟩ := storeW (k := k) s1 s2 s3 (Bk.own_on HO.out hb) HY.out
    obtain ⟨cur, hg⟩ := own_tag (Bk.own_on HO.out hb)
    show Rg.SeqFrom _ _ _ 1 12 a w'
    simp only [Rg.SeqFrom]
    refine Rg.op_store 24 (.tmp 79) (.tmp 77) rfl rfl rfl rfl (Rg.eval_some g79) (Rg.eval_some g77) (w' := w2) hr ?_
    have kp2 : ∀ j, (j < 68 ∨ 80 ≤ j) → (a).tmps[j]? = (u0 :: .pointer (some ⟨b1, 0, none⟩) :: u2 :: u3 :: u4 :: .int .i64 (k : Int) :: u6 :: u7 :: u8 :: u9 :: u10 :: u11 :: u12 :: u13 :: u14 :: u15 :: u16 :: u17 :: u18 :: u19 :: u20 :: u21 :: u22 :: u23 :: u24 :: u25 :: u26 :: u27 :: u28 :: u29 :: u30 :: u31 :: u32 :: u33 :: u34 :: u35 :: u36 :: u37 :: u38 :: u39 :: u40 :: u41 :: u42 :: u43 :: u44 :: u45 :: u46 :: u47 :: u48 :: u49 :: u50 :: u51 :: u52 :: u53 :: u54 :: u55 :: u56 :: u57 :: u58 :: u59 :: u60 :: u61 :: u62 :: u63 :: u64 :: u65 :: u66 :: u67 :: u68 :: u69 :: u70 :: u71 :: u72 :: u73 :: u74 :: u75 :: u76 :: u77 :: u78 :: u79 :: u80 :: u81 :: [])[j]? := fun j hj => (kp j (nd j (by omega))).trans List.getElem?_toArray
    obtain ⟨mid, hmid, hfr⟩ := Rg.frame_mid (a := a) (bl := (u0 :: .pointer (some ⟨b1, 0, none⟩) :: u2 :: u3 :: u4 :: .int .i64 (k : Int) :: u6 :: u7 :: u8 :: u9 :: u10 :: u11 :: u12 :: u13 :: u14 :: u15 :: u16 :: u17 :: u18 :: u19 :: u20 :: u21 :: u22 :: u23 :: u24 :: u25 :: u26 :: u27 :: u28 :: u29 :: u30 :: u31 :: u32 :: u33 :: u34 :: u35 :: u36 :: u37 :: u38 :: u39 :: u40 :: u41 :: u42 :: u43 :: u44 :: u45 :: u46 :: u47 :: u48 :: u49 :: u50 :: u51 :: u52 :: u53 :: u54 :: u55 :: u56 :: u57 :: u58 :: u59 :: u60 :: u61 :: u62 :: u63 :: u64 :: u65 :: u66 :: u67 :: u68 :: u69 :: u70 :: u71 :: u72 :: u73 :: u74 :: u75 :: u76 :: u77 :: u78 :: u79 :: u80 :: u81 :: [])) 68 12 df (by simp [sz']) (by simp) kp2
    show Q .normal (a) _
    rw [hfr]
    match mid, hmid with
    | [v68, v69, v70, v71, v72, v73, v74, v75, v76, v77, v78, v79], _ =>
      exact HQ.out _ _ _ _ _ _ _ _ _ _ _ _ _ s1 s2 s3 (st2.own hc hg (by decide)) st1 ((But.of_below hb).trans st2) fun B1 hB hl => st3 B1 W hB (hb.mono hl)
end Go.Proofs.Ytonoadjmglkhaaa.Av
