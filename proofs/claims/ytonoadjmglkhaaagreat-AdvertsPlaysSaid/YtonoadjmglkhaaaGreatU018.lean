/-
  The region of Forget that takes an advertisement out. Condition: at most 900 of them.
  Forget of broadsideref9: a broker without one advertisement and its entries, if it came from there. Condition: at most 900 of each.
  CopyBroker of broadsidekeep: the same in new memory. Condition: at most 900 of each.
-/
import Derived.Test.YtonoadjmglkhaaaGreatU003
import Derived.Test.YtonoadjmglkhaaaGreatU008
import Derived.Test.YtonoadjmglkhaaaGreatU016
namespace Go.Proofs.YtonoadjmglkhaaaGreat.Bk
open Go.RowKit Go.Proofs.YtonoadjmglkhaaaGreat Go.Proofs.YtonoadjmglkhaaaGreat.Rw Go.Proofs.YtonoadjmglkhaaaGreat.Nm Go.Proofs.YtonoadjmglkhaaaGreat.Pr

def cut4V (B b2 _b3 : Nat) (so : Option Addr) (sn sc at_ : Nat) (lo hiv : Value) (lt ld : List XAd) (i : Nat) (v : Value) (x : World) : Prop :=
  match i with
  | 0 => ∃ g, v = .slice (some ⟨g, 0, none⟩) 0 0 ∧ B ≤ g ∧ Box x g #[] 42
  | 1 => v = .pointer (some ⟨b2, 2, none⟩)
  | 2 => v = .slice so sn sc
  | 3 => v = .int .i64 (at_ : Int)
  | 4 => v = lo
  | 5 => OwnD x B v lt
  | 6 => v = .pointer (some ⟨b2, 2, none⟩)
  | 7 => v = .slice so sn sc
  | 8 => v = .int .i64 (at_ : Int)
  | 9 => v = .int .i64 ((at_ : Int) + 1)
  | 10 => v = hiv
  | 11 => OwnD x B v (lt ++ ld)
  | 12 => v = .pointer (some ⟨b2, 2, none⟩)
  | _ => True
noncomputable def cutR4 : Code := ((Tryz.f13.body.bind (findRegion 4)).getD .skip)
theorem cut4V_on (B b2 b3 : Nat) (so : Option Addr) (sn sc at_ : Nat) (lo hiv : Value) (lt ld : List XAd) (i : Nat) (v : Value) (x x' : World) (h : cut4V B b2 b3 so sn sc at_ lo hiv lt ld i v x) (hb : Below x.heap.size x x') : cut4V B b2 b3 so sn sc at_ lo hiv lt ld i v x' := by
  by_cases hi : i < 13
  · rcases (by omega : i = 0 ∨ i = 1 ∨ i = 2 ∨ i = 3 ∨ i = 4 ∨ i = 5 ∨ i = 6 ∨ i = 7 ∨ i = 8 ∨ i = 9 ∨ i = 10 ∨ i = 11 ∨ i = 12) with rfl | rfl | rfl | rfl | rfl | rfl | rfl | rfl | rfl | rfl | rfl | rfl | rfl
    · obtain ⟨g, h1, h2, h3⟩ := h
      exact ⟨g, h1, h2, h3.on hb⟩
    · exact h
    · exact h
    · exact h
    · exact h
    · exact own_on h hb
    · exact h
    · exact h
    · exact h
    · exact h
    · exact h
    · exact own_on h hb
    · exact h
  · unfold cut4V
    split <;> first | omega | trivial
set_option maxRecDepth 100000 in
set_option maxHeartbeats 8000000 in
theorem cut4 (Q : Exit → Act → World → Prop) (W : World) (b2 b3 : Nat) (me : Int) (y1 y3 y4 y5 : Value) (so : Option Addr) (sn sc at_ : Nat) (l : List XAd) (u0 u1 u2 u5 u6 u7 u9 u10 u11 u12 u13 u14 u15 u16 u17 u18 u19 u20 u21 u22 u23 u24 u25 u26 u27 u28 u29 u30 u31 u32 u33 u34 u35 u36 u37 u38 u39 u40 u41 u42 u43 u44 u45 u46 u47 u48 u49 u50 u51 u52 u53 u54 u55 u56 u57 u58 u59 : Value)
    (h2 : Box W b2 #[.int .i64 me, y1, .slice so sn sc, y3, y4, y5] 29) (hs : RowD W (.slice so sn sc) l) (hat : at_ + 1 ≤ l.length) (hlen : l.length ≤ 900)
    (hQ : ∀ (x : World) (v28 v29 v30 v31 v32 v33 v34 v35 v36 v37 v38 v39 v40 : Value), Box x b2 #[.int .i64 me, y1, v39, y3, y4, y5] 29 → OwnD x W.heap.size v39 (l.take at_ ++ l.drop (at_ + 1)) → (∀ B, B ≤ b2 → Below B W x) → (∀ c cs t, c ≠ b2 → Box W c cs t → Box x c cs t) → (∀ k, k < W.heap.size → k ≠ b2 → x.heap[k]? = W.heap[k]?) → Q .normal ⟨(u0 :: u1 :: u2 :: .pointer (some ⟨b2, 0, none⟩) :: .pointer (some ⟨b3, 0, none⟩) :: u5 :: u6 :: u7 :: .int .i64 (at_ : Int) :: u9 :: u10 :: u11 :: u12 :: u13 :: u14 :: u15 :: u16 :: u17 :: u18 :: u19 :: u20 :: u21 :: u22 :: u23 :: u24 :: u25 :: u26 :: u27 :: v28 :: v29 :: v30 :: v31 :: v32 :: v33 :: v34 :: v35 :: v36 :: v37 :: v38 :: v39 :: v40 :: u41 :: u42 :: u43 :: u44 :: u45 :: u46 :: u47 :: u48 :: u49 :: u50 :: u51 :: u52 :: u53 :: u54 :: u55 :: u56 :: u57 :: u58 :: u59 :: []).toArray, []⟩ x) :
    Code.wp Tryz.prog cutR4 Q ⟨(u0 :: u1 :: u2 :: .pointer (some ⟨b2, 0, none⟩) :: .pointer (some ⟨b3, 0, none⟩) :: u5 :: u6 :: u7 :: .int .i64 (at_ : Int) :: u9 :: u10 :: u11 :: u12 :: u13 :: u14 :: u15 :: u16 :: u17 :: u18 :: u19 :: u20 :: u21 :: u22 :: u23 :: u24 :: u25 :: u26 :: u27 :: u28 :: u29 :: u30 :: u31 :: u32 :: u33 :: u34 :: u35 :: u36 :: u37 :: u38 :: u39 :: u40 :: u41 :: u42 :: u43 :: u44 :: u45 :: u46 :: u47 :: u48 :: u49 :: u50 :: u51 :: u52 :: u53 :: u54 :: u55 :: u56 :: u57 :: u58 :: u59 :: []).toArray, []⟩ W := by
  have HQ := Lib.hid hQ
  have H2 := Lib.hid h2
  have AT1 := Lib.hid (show at_ ≤ 900 by omega)
  obtain ⟨lo, slo, rlo⟩ := row_lo okD hs at_ (by omega)
  obtain ⟨hiv, shi, rhi⟩ := row_hi okD hs (at_ + 1) hat
  have LT := Lib.hid (show (l.take at_).length ≤ 1000 by rw [List.length_take]; omega)
  have LTD := Lib.hid (show (l.take at_).length ≤ 900 by rw [List.length_take]; omega)
  have LD := Lib.hid (show (l.drop (at_ + 1)).length ≤ 1000 by rw [List.length_drop]; omega)
  generalize l.take at_ = lt at *
  generalize l.drop (at_ + 1) = ld at *
  have SL := Lib.hid slo
  have SH := Lib.hid (show ∀ w, (Instr.sliceAt 24 (.slice so sn sc) (some (.int .i64 ((at_ : Int) + 1))) none none).run Tryz.prog w = .ok hiv w from shi)
  have RL := Lib.hid rlo
  have RH := Lib.hid rhi
  clear hQ h2 hs slo shi rlo rhi hat hlen
  have stab := cut4V_on W.heap.size b2 b3 so sn sc at_ lo hiv lt ld
  unfold cutR4
  conv => arg 2; whnf
  have nd : ∀ j, (j < 28 ∨ 41 ≤ j) → ∀ i, i < 13 → (fun i => 28 + i) i ≠ j := by
    intro j hj i hi h
    simp only at h
    omega
  refine Rg.region_live 14 13 (fun i => 28 + i) (fun i => if i = 0 then 5 else if i = 5 then 11 else 13) (cut4V W.heap.size b2 b3 so sn sc at_ lo hiv lt ld) (by kernel_rfl) (by kernel_rfl) rfl (by decide) (fun i j _ _ h => by have h2 : 28 + i = 28 + j := h; omega) (fun i hi => by show 28 + i < 60; omega) ?_ (fun _ => Rg.hall_of 1 (by kernel_rfl)) (fun kk o h1 h2 => by omega) ?_
  · intro i o hi ho a x D hnd hc hD hb seen K hK
    clear HQ
    rcases (by omega : i = 0 ∨ i = 1 ∨ i = 2 ∨ i = 3 ∨ i = 4 ∨ i = 5 ∨ i = 6 ∨ i = 7 ∨ i = 8 ∨ i = 9 ∨ i = 10 ∨ i = 11 ∨ i = 12) with rfl | rfl | rfl | rfl | rfl | rfl | rfl | rfl | rfl | rfl | rfl | rfl | rfl
    · obtain rfl := Option.some.inj ho
      exact Rg.op_value rfl rfl (Rg.ex_build a.eval _ 24 0 #[] rfl rfl (by simp [go_sem])) (hK (.slice (some ⟨x.heap.size, 0, none⟩) 0 0) (x.alloc (.cells #[] 42)) ⟨x.heap.size, rfl, hb.size, box_new x #[] 42⟩ ((Below.refl _ _).alloc hb.size _) fun j u _ _ _ _ _ h => stab j u _ _ h ((Below.refl _ _).alloc (Nat.le_refl _) _))
    · obtain rfl := Option.some.inj ho
      have e3 : a.eval (.tmp 3) = .pointer (some ⟨b2, 0, none⟩) := seen.kp 3 _ (nd 3 (by omega)) rfl
      exact Rg.op_value rfl rfl (Rg.ex_field a.eval _ 29 (.tmp 3) 2 rfl (by rw [e3]; simp [go_sem])) (hK _ _ rfl (Below.refl _ _) fun _ _ _ _ _ _ _ h => h)
    · obtain rfl := Option.some.inj ho
      have e29 : a.eval (.tmp 29) = .pointer (some ⟨b2, 2, none⟩) := seen.at_ ⟨1, .data⟩ (by simp) rfl (Or.inr (by decide))
      have y := (H2.out.on hb).cell 2
      simp only [List.getElem?_toArray, List.getElem?_cons_zero, List.getElem?_cons_succ] at y
      exact Rg.op_value rfl rfl (Rg.ex_load a.eval _ 24 (.tmp 29) rfl (by rw [e29]; simp [go_sem, y])) (hK _ _ rfl (Below.refl _ _) fun _ _ _ _ _ _ _ h => h)
    · obtain rfl := Option.some.inj ho
      have e8 : a.eval (.tmp 8) = .int .i64 (at_ : Int) := seen.kp 8 _ (nd 8 (by omega)) rfl
      exact Rg.op_value rfl rfl (Rg.ex_move a.eval _ (.tmp 8) rfl x) (hK _ _ e8 (Below.refl _ _) fun _ _ _ _ _ _ _ h => h)
    · obtain rfl := Option.some.inj ho
      have e30 : a.eval (.tmp 30) = .slice so sn sc := seen.at_ ⟨2, .data⟩ (by simp) rfl (Or.inr (by decide))
      have e31 : a.eval (.tmp 31) = .int .i64 (at_ : Int) := seen.at_ ⟨3, .data⟩ (by simp) rfl (Or.inr (by decide))
      exact Rg.op_value rfl rfl (Rg.ex_slice a.eval _ 24 (.tmp 30) none (some (.tmp 31)) none rfl (by show (Instr.sliceAt 24 (a.eval (.tmp 30)) none (some (a.eval (.tmp 31))) none).run Tryz.prog x = .ok lo x; rw [e30, e31]; exact SL.out x)) (hK _ _ rfl (Below.refl _ _) fun _ _ _ _ _ _ _ h => h)
    · obtain rfl := Option.some.inj ho
      obtain ⟨g, q0, hBg, hbx⟩ := seen.at_ ⟨0, .data⟩ (by simp) rfl (Or.inl rfl)
      have q0 : a.eval (.tmp 28) = .slice (some ⟨g, 0, none⟩) 0 0 := q0
      have e32 : a.eval (.tmp 32) = lo := seen.at_ ⟨4, .data⟩ (by simp) rfl (Or.inr (by decide))
      obtain ⟨v', x', r, o', gr⟩ := app_fresh okD W.heap.size hbx hBg (RL.out.on hb) LT.out 24
      exact Rg.op_value rfl rfl (Rg.ex_append a.eval _ (.tmp 28) (.tmp 32) 24 rfl q0 e32 r) (hK v' x' o' (gr.mono hb.size) fun j u _ _ _ _ _ h => stab j u _ _ h gr)
    · obtain rfl := Option.some.inj ho
      have e3 : a.eval (.tmp 3) = .pointer (some ⟨b2, 0, none⟩) := seen.kp 3 _ (nd 3 (by omega)) rfl
      exact Rg.op_value rfl rfl (Rg.ex_field a.eval _ 29 (.tmp 3) 2 rfl (by rw [e3]; simp [go_sem])) (hK _ _ rfl (Below.refl _ _) fun _ _ _ _ _ _ _ h => h)
    · obtain rfl := Option.some.inj ho
      have e34 : a.eval (.tmp 34) = .pointer (some ⟨b2, 2, none⟩) := seen.at_ ⟨6, .data⟩ (by simp) rfl (Or.inr (by decide))
      have y := (H2.out.on hb).cell 2
      simp only [List.getElem?_toArray, List.getElem?_cons_zero, List.getElem?_cons_succ] at y
      exact Rg.op_value rfl rfl (Rg.ex_load a.eval _ 24 (.tmp 34) rfl (by rw [e34]; simp [go_sem, y])) (hK _ _ rfl (Below.refl _ _) fun _ _ _ _ _ _ _ h => h)
    · obtain rfl := Option.some.inj ho
      have e8 : a.eval (.tmp 8) = .int .i64 (at_ : Int) := seen.kp 8 _ (nd 8 (by omega)) rfl
      exact Rg.op_value rfl rfl (Rg.ex_move a.eval _ (.tmp 8) rfl x) (hK _ _ e8 (Below.refl _ _) fun _ _ _ _ _ _ _ h => h)
    · obtain rfl := Option.some.inj ho
      have e36 : a.eval (.tmp 36) = .int .i64 (at_ : Int) := seen.at_ ⟨8, .data⟩ (by simp) rfl (Or.inr (by decide))
      exact Rg.op_value rfl rfl (Rg.ex_bin a.eval _ .add 3 (.tmp 36) (.const (.int .i64 1)) 3 rfl (by rw [e36]; exact add_one _ _ _ _ at_ AT1.out)) (hK _ _ rfl (Below.refl _ _) fun _ _ _ _ _ _ _ h => h)
    · obtain rfl := Option.some.inj ho
      have e35 : a.eval (.tmp 35) = .slice so sn sc := seen.at_ ⟨7, .data⟩ (by simp) rfl (Or.inr (by decide))
      have e37 : a.eval (.tmp 37) = .int .i64 ((at_ : Int) + 1) := seen.at_ ⟨9, .data⟩ (by simp) rfl (Or.inr (by decide))
      exact Rg.op_value rfl rfl (Rg.ex_slice a.eval _ 24 (.tmp 35) (some (.tmp 37)) none none rfl (by show (Instr.sliceAt 24 (a.eval (.tmp 35)) (some (a.eval (.tmp 37))) none none).run Tryz.prog x = .ok hiv x; rw [e35, e37]; exact SH.out x)) (hK _ _ rfl (Below.refl _ _) fun _ _ _ _ _ _ _ h => h)
    · obtain rfl := Option.some.inj ho
      have o33 : OwnD x W.heap.size (a.eval (.tmp 33)) (lt) := seen.at_ ⟨5, .data⟩ (by simp) rfl (Or.inl rfl)
      have e38 : a.eval (.tmp 38) = hiv := seen.at_ ⟨10, .data⟩ (by simp) rfl (Or.inr (by decide))
      have ox : RowD x (a.eval (.tmp 38)) ld := by rw [e38]; exact RH.out.on hb
      obtain ⟨v', x', r, o', gr⟩ := app_row okD W.heap.size o33 ox (by have := LTD.out; omega) LD.out hb.size 24
      exact Rg.op_value rfl rfl (Rg.ex_append a.eval _ (.tmp 33) (.tmp 38) 24 rfl rfl rfl r) (hK v' x' o' ((Below.refl _ x).grown gr hb.size fun j hj => (o33.lt j hj).1) fun j u hj dj nl nx ni h => by
        rcases (by omega : j = 0 ∨ j = 1 ∨ j = 2 ∨ j = 3 ∨ j = 4 ∨ j = 5 ∨ j = 6 ∨ j = 7 ∨ j = 8 ∨ j = 9 ∨ j = 10 ∨ j = 11 ∨ j = 12) with rfl | rfl | rfl | rfl | rfl | rfl | rfl | rfl | rfl | rfl | rfl | rfl | rfl
        · exact absurd rfl (fun _ : (0 : Nat) = 0 => nl (hD ⟨5, .data⟩ (by simp) rfl))
        · exact h
        · exact h
        · exact h
        · exact h
        · exact absurd rfl (fun _ : (0 : Nat) = 0 => nx rfl)
        · exact h
        · exact h
        · exact h
        · exact h
        · exact h
        · exact absurd rfl (fun _ : (0 : Nat) = 0 => ni rfl)
        · exact h)
    · obtain rfl := Option.some.inj ho
      have e3 : a.eval (.tmp 3) = .pointer (some ⟨b2, 0, none⟩) := seen.kp 3 _ (nd 3 (by omega)) rfl
      exact Rg.op_value rfl rfl (Rg.ex_field a.eval _ 29 (.tmp 3) 2 rfl (by rw [e3]; simp [go_sem])) (hK _ _ rfl (Below.refl _ _) fun _ _ _ _ _ _ _ h => h)
  · intro a w' df sz kp ⟨vs, hv⟩ hb
    have gr : a.tmps[39]? = some (vs 11) := (hv 11 (by omega)).1
    have gp : a.tmps[40]? = some (.pointer (some ⟨b2, 2, none⟩)) := by
      have h : vs 12 = .pointer (some ⟨b2, 2, none⟩) := (hv 12 (by omega)).2 (by decide)
      rw [← h]
      exact (hv 12 (by omega)).1
    have oR : OwnD w' W.heap.size (vs 11) (lt ++ ld) := (hv 11 (by omega)).2 (by decide)
    generalize vs 11 = xR at *
    obtain ⟨ca, cp, eR⟩ := (Row.of_own oR).len
    have hbx := H2.out.on hb
    have hblt := H2.out.lt
    have c5 := hbx.cell 2
    have f5 := hbx.fr 2
    simp only [List.getElem?_toArray, List.getElem?_cons_zero, List.getElem?_cons_succ] at c5
    have hb1 := box_set (k := 2) hbx xR
    show Rg.SeqFrom _ _ _ 1 13 a w'
    simp only [Rg.SeqFrom]
    refine Rg.op_store 24 (.tmp 40) (.tmp 39) rfl rfl rfl rfl (Rg.eval_some gp) (Rg.eval_some gr) (w' := w'.setCell ⟨b2, 2, none⟩ xR) (by rw [eR]; simp [go_sem, c5, f5]) ?_
    have kp2 : ∀ j, (j < 28 ∨ 41 ≤ j) → a.tmps[j]? = (u0 :: u1 :: u2 :: .pointer (some ⟨b2, 0, none⟩) :: .pointer (some ⟨b3, 0, none⟩) :: u5 :: u6 :: u7 :: .int .i64 (at_ : Int) :: u9 :: u10 :: u11 :: u12 :: u13 :: u14 :: u15 :: u16 :: u17 :: u18 :: u19 :: u20 :: u21 :: u22 :: u23 :: u24 :: u25 :: u26 :: u27 :: u28 :: u29 :: u30 :: u31 :: u32 :: u33 :: u34 :: u35 :: u36 :: u37 :: u38 :: u39 :: u40 :: u41 :: u42 :: u43 :: u44 :: u45 :: u46 :: u47 :: u48 :: u49 :: u50 :: u51 :: u52 :: u53 :: u54 :: u55 :: u56 :: u57 :: u58 :: u59 :: [])[j]? := fun j hj => (kp j (nd j hj)).trans List.getElem?_toArray
    obtain ⟨mid, hmid, rfl⟩ := Rg.frame_mid (bl := (u0 :: u1 :: u2 :: .pointer (some ⟨b2, 0, none⟩) :: .pointer (some ⟨b3, 0, none⟩) :: u5 :: u6 :: u7 :: .int .i64 (at_ : Int) :: u9 :: u10 :: u11 :: u12 :: u13 :: u14 :: u15 :: u16 :: u17 :: u18 :: u19 :: u20 :: u21 :: u22 :: u23 :: u24 :: u25 :: u26 :: u27 :: u28 :: u29 :: u30 :: u31 :: u32 :: u33 :: u34 :: u35 :: u36 :: u37 :: u38 :: u39 :: u40 :: u41 :: u42 :: u43 :: u44 :: u45 :: u46 :: u47 :: u48 :: u49 :: u50 :: u51 :: u52 :: u53 :: u54 :: u55 :: u56 :: u57 :: u58 :: u59 :: [])) 28 13 df sz (by simp) kp2
    match mid, hmid with
    | [v28, v29, v30, v31, v32, v33, v34, v35, v36, v37, v38, v39, v40], _ =>
      have e1 : some v39 = some xR := gr
      obtain rfl := Option.some.inj e1
      refine HQ.out _ v28 v29 v30 v31 v32 v33 v34 v35 v36 v37 v38 v39 v40 ?_ ?_ ?_ ?_ ?_
      · simpa using hb1
      · exact own_cell oR b2 2 _ hblt
      · exact fun B hB => (hb.mono (Nat.le_of_lt (Nat.lt_of_le_of_lt hB hblt))).setCell hB _
      · intro c cs t hc hbc
        exact (RowKit.Below.heap_setCell _ _ _ _ hc).trans (hbc.on hb)
      · intro k hk hne
        exact (RowKit.Below.heap_setCell _ _ _ _ hne).trans (hb.block k hk)
end Go.Proofs.YtonoadjmglkhaaaGreat.Bk

namespace Go.Proofs.YtonoadjmglkhaaaGreat.Bk
open Go.RowKit Go.Sort Go.Proofs.YtonoadjmglkhaaaGreat Go.Proofs.YtonoadjmglkhaaaGreat.Rw Go.Proofs.YtonoadjmglkhaaaGreat.Nm Go.Proofs.YtonoadjmglkhaaaGreat.Pr

def cutAt {α : Type} (l : List α) (k : Nat) : List α := l.take k ++ l.drop (k + 1)
def forgetB (b : Br) (x : Id) (f : Int) : Br × Bool := match b.adv[(findI (b.adv.map Ad.id) x).toNat]? with
  | none => (b, false)
  | some a => if findI (b.adv.map Ad.id) x = -1 then (b, false) else if a.par = f then ({ b with adv := cutAt b.adv (findI (b.adv.map Ad.id) x).toNat, ent := b.ent.filter fun e => decide (e.tree ≠ x) }, true) else (b, false)
theorem find_or (l : List XAd) (x : Id) : findI (l.map fun y => (y.1, y.2.1)) x = -1 ∨ ∃ (k : Nat) (y : XAd), findI (l.map fun y => (y.1, y.2.1)) x = k ∧ l[k]? = some y := by
  induction l with
  | nil => exact Or.inl rfl
  | cons a l ih =>
    rw [List.map_cons, findI]
    by_cases h : (a.1, a.2.1) = x
    · rw [if_pos h]
      exact Or.inr ⟨0, a, rfl, rfl⟩
    · rw [if_neg h]
      rcases ih with h2 | ⟨k, y, h2, h3⟩
      · rw [if_pos h2]
        exact Or.inl rfl
      · rw [if_neg (by omega), h2]
        exact Or.inr ⟨k + 1, y, by omega, by simpa using h3⟩
theorem All2.fil {α β : Type} {R : α → β → Prop} (p : α → Bool) (q : β → Bool) (hpq : ∀ a b, R a b → p a = q b) : ∀ {l m}, All2 R l m → All2 R (l.filter p) (m.filter q)
  | _, _, .nil => .nil
  | _, _, .cons (a := a) (b := b) x t => by
    have h := hpq a b x
    cases hb : q b
    · rw [List.filter_cons_of_neg (by rw [h, hb]; simp), List.filter_cons_of_neg (by rw [hb]; simp)]
      exact t.fil p q hpq
    · rw [List.filter_cons_of_pos (by rw [h, hb]), List.filter_cons_of_pos (by rw [hb])]
      exact .cons x (t.fil p q hpq)
theorem neId (a b c d : Int) (r : Bool) (h : (!(a == c && b == d)) = r) (w : World) : (binOp .neq 37 (.agg #[.int .i64 a, .int .i64 b]) (.agg #[.int .i64 c, .int .i64 d])).run Tryz.prog w = .ok (.bool r) w := by
  have st := stoodId
  subst h
  by_cases h1 : a = c <;> by_cases h2 : b = d <;> simp [go_sem, Tryz.underlying37, Tryz.underlying3, st, h1, h2]
def keepN (x : Id) (e : XEn) : Bool := decide ((e.1, e.2.1) ≠ x)
theorem fil_snoc {α : Type} (l : List α) (k : Nat) (y : α) (p : α → Bool) (h : l[k]? = some y) : (l.take (k + 1)).filter p = (l.take k).filter p ++ (if p y then [y] else []) := by
  rw [List.take_add_one, h, List.filter_append]
  cases hp : p y <;> simp [hp]
set_option maxRecDepth 100000 in
set_option maxHeartbeats 16000000 in
theorem rforget_any (b : Br) (nv av sv ev ov : Sl) (x : Id) (f : Int) (w : World) (h : BrIn w b nv av sv ev ov) (l2 : b.adv.length ≤ 900) (l3 : b.ent.length ≤ 900) :
    Calls Tryz.prog 13 #[brv b.me nv av sv ev ov, idv x, .int .i64 f] w fun e w' => (∃ av' ev' : Sl, e = .returned (.tuple #[brv b.me nv av' sv ev' ov, .bool (forgetB b x f).2]) ∧ BrIn w' (forgetB b x f).1 nv av' sv ev' ov) ∧ Below w.heap.size w w' := by
  obtain ⟨no, nn, nc⟩ := nv
  obtain ⟨ao, an, ac⟩ := av
  obtain ⟨so, sn, sc⟩ := sv
  obtain ⟨eo, en, ec⟩ := ev
  obtain ⟨oo, on_, oc⟩ := ov
  obtain ⟨c, d⟩ := x
  obtain ⟨xs, hx1, hx2⟩ := h.adv
  obtain ⟨es, he1, he2⟩ := h.ent
  have IDS := Lib.hid (ids_eq hx2)
  have XL := Lib.hid (show xs.length ≤ 900 by rw [hx2.len]; exact l2)
  have EL := Lib.hid (show es.length ≤ 900 by rw [he2.len]; exact l3)
  have HA2 := Lib.hid hx2
  have HE2 := Lib.hid he2
  obtain ⟨q1, q2, hq⟩ := hx1.len
  obtain ⟨rfl, rfl, rfl⟩ : ao = q1 ∧ an = xs.length ∧ ac = q2 := by
    have : Value.slice ao an ac = .slice q1 xs.length q2 := hq
    simpa using this
  obtain ⟨q1, q2, hq⟩ := he1.len
  obtain ⟨rfl, rfl, rfl⟩ : eo = q1 ∧ en = es.length ∧ ec = q2 := by
    have : Value.slice eo en ec = .slice q1 es.length q2 := hq
    simpa using this
  have FD := rfind_any b.me (.slice no nn nc) (.slice eo es.length ec) (.slice so sn sc) (.slice oo on_ oc) (ao, xs.length, ac) xs (c, d)
  have HH := Lib.hid h
  obtain ⟨h0, h1, h2, h3⟩ := three_new w #[.int .i64 b.me, .slice no nn nc, .slice ao xs.length ac, .slice so sn sc, .slice eo es.length ec, .slice oo on_ oc] #[.int .i64 c, .int .i64 d] #[.int .i64 0, .slice none 0 0, .slice none 0 0, .slice none 0 0, .slice none 0 0, .slice none 0 0] 29 37 29
  obtain ⟨n2, hn2⟩ : ∃ n, n = xs.length := ⟨_, rfl⟩
  obtain ⟨n3, hn3⟩ : ∃ n, n = es.length := ⟨_, rfl⟩
  simp only [← hn2, ← hn3] at h0 h1 h2 h3 hx1 he1 HH FD ⊢
  have B0 := Lib.hid h0
  have X2 := Lib.hid h1
  have X3 := Lib.hid h2
  have X5 := Lib.hid h3
  have HS := Lib.hid hx1
  have HE := Lib.hid he1
  have N2 := Lib.hid hn2
  have N3 := Lib.hid hn3
  obtain ⟨me, hme⟩ : ∃ me, me = b.me := ⟨_, rfl⟩
  simp only [← hme] at X2 B0 X3 X5 FD ⊢
  clear h0 h1 h2 h3 hx1 he1 hx2 he2 h hq hn2 hn3 l2 l3 hme
  go_enter Tryz.func13, Tryz.ntmps13
  go_upto_region 1 with fail
  generalize (((w.alloc (.cells #[.int .i64 me, .slice no nn nc, .slice ao n2 ac, .slice so sn sc, .slice eo n3 ec, .slice oo on_ oc] 29)).alloc (.cells #[.int .i64 c, .int .i64 d] 37)).alloc (.cells #[.int .i64 0, .slice none 0 0, .slice none 0 0, .slice none 0 0, .slice none 0 0, .slice none 0 0] 29)) = W at *
  have SW := Lib.hid (FD W (HS.out.on B0.out))
  clear FD
  have x0 := X2.out.cell 0
  have x1 := X2.out.cell 1
  have x2 := X2.out.cell 2
  have x3 := X2.out.cell 3
  have x4 := X2.out.cell 4
  have x5 := X2.out.cell 5
  have y0 := X3.out.cell 0
  have y1 := X3.out.cell 1
  simp only [List.getElem?_toArray, List.getElem?_cons_zero, List.getElem?_cons_succ] at x0 x1 x2 x3 x4 x5 y0 y1
  rcases find_or xs (c, d) with hf | ⟨k, y, hf, hy⟩
  · have LB := Lib.hid (show forgetB b (c, d) f = (b, false) by
      have hf' := hf
      rw [IDS.out] at hf'
      unfold forgetB
      rw [hf']
      split
      · rfl
      · rw [if_pos rfl])
    rw [hf] at SW
    clear hf
    go_wp2_with fail
    refine SW.out.mono ?_
    rintro e1 w1 ⟨rfl, hb⟩
    have B1 := Lib.hid (B0.out.trans (hb.mono B0.out.size))
    have X2a := X2.out.on hb
    have X5a := X5.out.on hb
    clear SW hb x0 x1 x2 x3 x4 x5 y0 y1
    have x0 := X2a.cell 0
    have x1 := X2a.cell 1
    have x2 := X2a.cell 2
    have x3 := X2a.cell 3
    have x4 := X2a.cell 4
    have x5 := X2a.cell 5
    have r0 := X5a.cell 0
    have r1 := X5a.cell 1
    have r2 := X5a.cell 2
    have r3 := X5a.cell 3
    have r4 := X5a.cell 4
    have r5 := X5a.cell 5
    have t0 := X5a.fr 0
    have t1 := X5a.fr 1
    have t2 := X5a.fr 2
    have t3 := X5a.fr 3
    have t4 := X5a.fr 4
    have t5 := X5a.fr 5
    simp only [List.getElem?_toArray, List.getElem?_cons_zero, List.getElem?_cons_succ] at x0 x1 x2 x3 x4 x5 r0 r1 r2 r3 r4 r5
    have zz := X5a.lt
    have FB := Lib.hid (setB_box X5a (.int .i64 me) (.slice no nn nc) (.slice ao n2 ac) (.slice so sn sc) (.slice eo n3 ec) (.slice oo on_ oc))
    have BL := Lib.hid (setB_below (b := w.heap.size + 1 + 1) B1.out (by omega) (.int .i64 me) (.slice no nn nc) (.slice ao n2 ac) (.slice so sn sc) (.slice eo n3 ec) (.slice oo on_ oc))
    clear X2 X3 X5 X2a X5a HS HE
    go_wp2_with fail
    have v0 := FB.out.cell 0
    have v1 := FB.out.cell 1
    have v2 := FB.out.cell 2
    have v3 := FB.out.cell 3
    have v4 := FB.out.cell 4
    have v5 := FB.out.cell 5
    simp at v0 v1 v2 v3 v4 v5
    refine bodyPost_ret (v := .tuple #[.agg #[.int .i64 me, .slice no nn nc, .slice ao n2 ac, .slice so sn sc, .slice eo n3 ec, .slice oo on_ oc], .bool false]) (by simp [results, Tryz.results13, go_sem, v0, v1, v2, v3, v4, v5]) rfl ?_
    rw [LB.out]
    exact ⟨⟨(ao, n2, ac), (eo, n3, ec), rfl, HH.out.on BL.out⟩, BL.out⟩
  · rw [hf] at SW
    have hk := (List.getElem?_eq_some_iff.1 hy).1
    have XL2 := XL.out
    have hkn : k < n2 := by rw [N2.out]; exact hk
    have HF := Lib.hid hf
    have HY := Lib.hid hy
    obtain ⟨p, ix, px⟩ := elD HS.out rfl N2.out.symm hy
    have LB := Lib.hid (show ∀ a, b.adv[k]? = some a → forgetB b (c, d) f = if a.par = f then ({ b with adv := cutAt b.adv k, ent := b.ent.filter fun e => decide (e.tree ≠ (c, d)) }, true) else (b, false) from fun a ha => by
      have hf' := HF.out
      rw [IDS.out] at hf'
      unfold forgetB
      rw [hf', Int.toNat_natCast, ha]
      simp only
      rw [if_neg (by omega)])
    obtain ⟨z1, z2, ⟨zo, zn, zc⟩, par⟩ := y
    obtain ⟨a, hak⟩ : ∃ a, b.adv[k]? = some a := ⟨_, List.getElem?_eq_getElem (by rw [← HA2.out.len]; exact hk)⟩
    have hap : a.par = par := by
      obtain ⟨z, hz1, hz2⟩ := HA2.out.at k a hak
      rw [HY.out] at hz1
      obtain rfl := Option.some.inj hz1
      exact hz2.2.1.symm
    have LC := LB.out a hak
    rw [hap] at LC
    have hik : decide ((k : Int) < 0) = false := decide_eq_false (by omega)
    go_wp2_with fail
    refine SW.out.mono ?_
    rintro e1 w1 ⟨rfl, hb⟩
    have B1 := Lib.hid (B0.out.trans (hb.mono B0.out.size))
    have X2a := X2.out.on hb
    have X3a := X3.out.on hb
    have X5a := X5.out.on hb
    have px2 := px w1 B1.out

    obtain ⟨p0, p1, p2, p3⟩ := px2
    clear SW hb px HF LB hf hy hap hak x0 x1 x2 x3 x4 x5 y0 y1
    by_cases hpf : par = f
    · rw [if_pos hpf] at LC
      have LB := Lib.hid LC
      have hne : (par != f) = false := by simp [hpf]
      have HPF := Lib.hid hpf
      have Z2 := Lib.hid X2a
      have Z3 := Lib.hid X3a
      have Z5 := Lib.hid X5a
      have x0 := X2a.cell 0
      have x1 := X2a.cell 1
      have x2 := X2a.cell 2
      have x3 := X2a.cell 3
      have x4 := X2a.cell 4
      have x5 := X2a.cell 5
      have r0 := X5a.cell 0
      have r1 := X5a.cell 1
      have r2 := X5a.cell 2
      have r3 := X5a.cell 3
      have r4 := X5a.cell 4
      have r5 := X5a.cell 5
      have t0 := X5a.fr 0
      have t1 := X5a.fr 1
      have t2 := X5a.fr 2
      have t3 := X5a.fr 3
      have t4 := X5a.fr 4
      have t5 := X5a.fr 5
      simp only [List.getElem?_toArray, List.getElem?_cons_zero, List.getElem?_cons_succ] at x0 x1 x2 x3 x4 x5 r0 r1 r2 r3 r4 r5
      have zz := X5a.lt
      clear LC hpf X2 X3 X5 X2a X3a X5a
      have S1 := Lib.hid (HS.out.on B1.out)
      go_upto_region 4 with fail
      refine cut4 _ w1 w.heap.size (w.heap.size + 1) me _ _ _ _ ao n2 ac k xs _ _ _ _ _ _ _ _ _ _ _ _ _ _ _ _ _ _ _ _ _ _ _ _ _ _ _ _ _ _ _ _ _ _ _ _ _ _ _ _ _ _ _ _ _ _ _ _ _ _ _ _ _ _ _ _ _ Z2.out S1.out (by omega) XL.out ?_
      intro xw v28 v29 v30 v31 v32 v33 v34 v35 v36 v37 v38 v39 v40 hbx ho hbl hoth hblk
      obtain ⟨td1, td2, htv⟩ := (Row.of_own ho).len
      obtain ⟨tl, htl⟩ : ∃ n, n = (xs.take k ++ xs.drop (k + 1)).length := ⟨_, rfl⟩
      rw [← htl] at htv
      subst htv
      have B2 := Lib.hid (B1.out.trans (hbl _ (Nat.le_refl _)))
      have A2 := Lib.hid hbx
      have A3 := Lib.hid (hoth _ _ _ (by omega) Z3.out)
      have A5 := Lib.hid (hoth _ _ _ (by omega) Z5.out)
      have OD := Lib.hid (own_fewer ho (show w.heap.size + 3 ≤ w1.heap.size by have := Z5.out.lt; omega))
      have E3 := Lib.hid (HE.out.on B2.out)
      have a4 := hbx.cell 4
      simp only [List.getElem?_toArray, List.getElem?_cons_zero, List.getElem?_cons_succ] at a4
      have W3 := Lib.hid A5.out.lt
      have nb := EL.out
      rw [← N3.out] at nb
      clear hbx ho hbl hoth hblk htl B1 Z2 Z3 Z5 S1 HS HE x0 x1 x2 x3 x4 x5 r0 r1 r2 r3 r4 r5 t0 t1 t2 t3 t4 t5 zz ix p0 p1 p2 p3 hne hik
      go_wp2
      go_loopw [9, 44] (fun v i wr => ∃ q : Nat, q ≤ n3 ∧ i = .int .i64 q ∧ Below xw.heap.size xw wr ∧ OwnN wr xw.heap.size v ((es.take q).filter (keepN (c, d)))) (fun _ i _ => n3 - (intOf i).toNat)
      case atStart => exact ⟨0, Nat.zero_le _, rfl, Below.refl _ _, own_nil _ _⟩
      case round =>
        obtain ⟨q, hq, rfl, hbe, hown⟩ := hrel
        have BE := Lib.hid hbe
        have OE := Lib.hid hown
        clear hbe hown
        by_cases hlt : q < n3
        · obtain ⟨e, hy⟩ : ∃ e, es[q]? = some e := ⟨_, List.getElem?_eq_getElem (by rw [← N3.out]; exact hlt)⟩
          obtain ⟨p, ix, px⟩ := elN E3.out rfl N3.out.symm hy
          obtain ⟨p0, p1, p2, p3, p4, p5, p6⟩ := px wr BE.out
          have FS := Lib.hid (fil_snoc es q e (keepN (c, d)) hy)
          obtain ⟨y1, y2, y3, y4, ⟨yo, yn, yc⟩, y6, y7⟩ := e
          simp only at p0 p1 p2 p3 p4 p5 p6
          have NB := Lib.hid (newB wr (.cells #[.int .i64 y1, .int .i64 y2, .int .i64 y3, .int .i64 y4, .slice yo yn yc, .int .i64 y6, .bool y7] 58))
          have x0 := ((A3.out.on BE.out).on NB.out).cell 0
          have x1 := ((A3.out.on BE.out).on NB.out).cell 1
          simp only [List.getElem?_toArray, List.getElem?_cons_zero, List.getElem?_cons_succ] at x0 x1
          have hw3 : IntKind.i64.wrap ((q : Int) + 1) = (q : Int) + 1 := IntWalk.i64_in _ (by omega)
          obtain ⟨r, hr⟩ : ∃ r, (!(y1 == c && y2 == d)) = r := ⟨_, rfl⟩
          have he := neId y1 y2 c d r hr
          have KN := Lib.hid (show keepN (c, d) (y1, y2, y3, y4, (yo, yn, yc), y6, y7) = r by
            rw [← hr]
            unfold keepN
            by_cases h1 : y1 = c <;> by_cases h2 : y2 = d <;> simp [h1, h2])
          clear px hy hr
          cases r
          · go_wp2
            go_roundw
            case rel => exact ⟨q + 1, by omega, by go_num, BE.out.trans (NB.out.mono BE.out.size), by
              rw [FS.out, KN.out]
              simpa using own_on OE.out NB.out⟩
            case measure => simp [intOf]; omega
          · have NB2 := Lib.hid (newB (wr.alloc (.cells #[.int .i64 y1, .int .i64 y2, .int .i64 y3, .int .i64 y4, .slice yo yn yc, .int .i64 y6, .bool y7] 58)) (.cells #[.int .i64 y1, .int .i64 y2, .int .i64 y3, .int .i64 y4, .slice yo yn yc, .int .i64 y6, .bool y7] 58))
            have hlit := row_lit okN (wr.alloc (.cells #[.int .i64 y1, .int .i64 y2, .int .i64 y3, .int .i64 y4, .slice yo yn yc, .int .i64 y6, .bool y7] 58)) [(y1, y2, y3, y4, (yo, yn, yc), y6, y7)] 1 rfl (by simp) #[.int .i64 y1, .int .i64 y2, .int .i64 y3, .int .i64 y4, .slice yo yn yc, .int .i64 y6, .bool y7] rfl
            have o2 := own_on (own_on OE.out NB.out) NB2.out
            have hB : xw.heap.size ≤ ((wr.alloc (.cells #[.int .i64 y1, .int .i64 y2, .int .i64 y3, .int .i64 y4, .slice yo yn yc, .int .i64 y6, .bool y7] 58)).alloc (.cells #[.int .i64 y1, .int .i64 y2, .int .i64 y3, .int .i64 y4, .slice yo yn yc, .int .i64 y6, .bool y7] 58)).heap.size := by have h1 := BE.out.size; simp; omega
            obtain ⟨v', w', r', o', gr⟩ := app_row okN xw.heap.size o2 (Row.of_own hlit) (by have h1 := List.length_filter_le (keepN (c, d)) (es.take q); rw [List.length_take] at h1; omega) (by simp) hB 26
            have r' : (Builtin.append_ #[26, 26] 26 #[u9, .slice (some ⟨wr.heap.size + 1, 0, none⟩) 1 1]).run Tryz.prog ((wr.alloc (.cells #[.int .i64 y1, .int .i64 y2, .int .i64 y3, .int .i64 y4, .slice yo yn yc, .int .i64 y6, .bool y7] 58)).alloc (.cells #[.int .i64 y1, .int .i64 y2, .int .i64 y3, .int .i64 y4, .slice yo yn yc, .int .i64 y6, .bool y7] 58)) = .ok v' w' := by
              simpa [EN] using r'
            have BG := Lib.hid ((BE.out.trans ((NB.out.trans (NB2.out.mono NB.out.size)).mono BE.out.size)).grown gr hB fun j hj => (o2.lt j hj).1)
            have OG := Lib.hid o'
            clear hlit o2 hB o' gr OE
            go_wp2_with (first | (at_builtin; refine wpList_append_run rfl _ _ 26 rfl rfl rfl r' ?_) | fail)
            go_roundw
            case rel => exact ⟨q + 1, by omega, by go_num, BG.out, by
              rw [FS.out, KN.out]
              simpa using OG.out⟩
            case measure => simp [intOf]; omega
        · obtain rfl : q = n3 := by omega
          have e : es.take q = es := List.take_of_length_le (by have := N3.out; omega)
          rw [e] at OE
          obtain ⟨vo1, vo2, hv⟩ := (Row.of_own OE.out).len
          obtain ⟨vl, hvl⟩ : ∃ n, n = (es.filter (keepN (c, d))).length := ⟨_, rfl⟩
          rw [← hvl] at hv
          subst hv
          have G2 := A2.out.on BE.out
          have c4 := G2.cell 4
          have g4 := G2.fr 4
          have gl := G2.lt
          simp only [List.getElem?_toArray, List.getElem?_cons_zero, List.getElem?_cons_succ] at c4
          clear hvl e a4 hlt hq nb
          go_upto_region 13 with fail
          have X2a := box_set (k := 4) G2 (.slice vo1 vl vo2)
          simp only [List.setIfInBounds_toArray, List.set_cons_zero, List.set_cons_succ] at X2a
          have X5a : Box _ _ _ _ := (RowKit.Below.heap_setCell wr ⟨w.heap.size, 4, none⟩ (.slice vo1 vl vo2) _ (show w.heap.size + 1 + 1 ≠ w.heap.size by omega)).trans (A5.out.on BE.out)
          have OD2 := Lib.hid (own_cell (own_on OD.out BE.out) w.heap.size 4 (.slice vo1 vl vo2) (by omega))
          have OE2 := Lib.hid (own_cell OE.out w.heap.size 4 (.slice vo1 vl vo2) (by have := W3.out; omega))
          have BQ := Lib.hid ((B2.out.trans (BE.out.mono B2.out.size)).setCell (p := ⟨w.heap.size, 4, none⟩) (Nat.le_refl _) (.slice vo1 vl vo2))
          clear G2 c4 g4 gl OD OE B2 A2 A3 A5 E3
          generalize wr.setCell ⟨w.heap.size, 4, none⟩ (.slice vo1 vl vo2) = wq at *
          have x0 := X2a.cell 0
          have x1 := X2a.cell 1
          have x2 := X2a.cell 2
          have x3 := X2a.cell 3
          have x4 := X2a.cell 4
          have x5 := X2a.cell 5
          have r0 := X5a.cell 0
          have r1 := X5a.cell 1
          have r2 := X5a.cell 2
          have r3 := X5a.cell 3
          have r4 := X5a.cell 4
          have r5 := X5a.cell 5
          have t0 := X5a.fr 0
          have t1 := X5a.fr 1
          have t2 := X5a.fr 2
          have t3 := X5a.fr 3
          have t4 := X5a.fr 4
          have t5 := X5a.fr 5
          simp only [List.getElem?_toArray, List.getElem?_cons_zero, List.getElem?_cons_succ] at x0 x1 x2 x3 x4 x5 r0 r1 r2 r3 r4 r5
          have zz := X5a.lt
          have FB := Lib.hid (setB_box X5a (.int .i64 me) (.slice no nn nc) (.slice td1 tl td2) (.slice so sn sc) (.slice vo1 vl vo2) (.slice oo on_ oc))
          have BL := Lib.hid (setB_below (b := w.heap.size + 1 + 1) BQ.out (by omega) (.int .i64 me) (.slice no nn nc) (.slice td1 tl td2) (.slice so sn sc) (.slice vo1 vl vo2) (.slice oo on_ oc))
          have FD := Lib.hid (setB_ownA OD2.out (w.heap.size + 1 + 1) (by omega) (.int .i64 me) (.slice no nn nc) (.slice td1 tl td2) (.slice so sn sc) (.slice vo1 vl vo2) (.slice oo on_ oc))
          have FE := Lib.hid (setB_ownA OE2.out (w.heap.size + 1 + 1) (by have := W3.out; omega) (.int .i64 me) (.slice no nn nc) (.slice td1 tl td2) (.slice so sn sc) (.slice vo1 vl vo2) (.slice oo on_ oc))
          clear OD2 OE2 BQ X2a X5a
          go_wp2_with fail
          have v0 := FB.out.cell 0
          have v1 := FB.out.cell 1
          have v2 := FB.out.cell 2
          have v3 := FB.out.cell 3
          have v4 := FB.out.cell 4
          have v5 := FB.out.cell 5
          simp at v0 v1 v2 v3 v4 v5
          refine bodyPost_ret (v := .tuple #[.agg #[.int .i64 me, .slice no nn nc, .slice td1 tl td2, .slice so sn sc, .slice vo1 vl vo2, .slice oo on_ oc], .bool true]) (by simp [results, Tryz.results13, go_sem, v0, v1, v2, v3, v4, v5]) rfl ?_
          rw [LB.out]
          refine ⟨⟨(td1, tl, td2), (vo1, vl, vo2), rfl, ?_⟩, BL.out⟩
          have hI := HH.out.on BL.out
          refine ⟨hI.near, ⟨_, Row.of_own FD.out, ?_⟩, hI.seen, ⟨_, Row.of_own FE.out, ?_⟩, hI.own⟩
          · have hA := HA2.out.mono fun _ _ h => h.on BL.out
            exact (hA.take _).append (hA.drop _)
          · have hE := HE2.out.mono fun _ _ h => h.on BL.out
            exact hE.fil _ _ fun a b h => by unfold keepN; rw [h.1]
    · rw [if_neg hpf] at LC
      have LB := Lib.hid LC
      have hne : (par != f) = true := by simp [hpf]
      clear LC hpf
      have x0 := X2a.cell 0
      have x1 := X2a.cell 1
      have x2 := X2a.cell 2
      have x3 := X2a.cell 3
      have x4 := X2a.cell 4
      have x5 := X2a.cell 5
      have r0 := X5a.cell 0
      have r1 := X5a.cell 1
      have r2 := X5a.cell 2
      have r3 := X5a.cell 3
      have r4 := X5a.cell 4
      have r5 := X5a.cell 5
      have t0 := X5a.fr 0
      have t1 := X5a.fr 1
      have t2 := X5a.fr 2
      have t3 := X5a.fr 3
      have t4 := X5a.fr 4
      have t5 := X5a.fr 5
      simp only [List.getElem?_toArray, List.getElem?_cons_zero, List.getElem?_cons_succ] at x0 x1 x2 x3 x4 x5 r0 r1 r2 r3 r4 r5
      have zz := X5a.lt
      clear X3a
      have FB := Lib.hid (setB_box X5a (.int .i64 me) (.slice no nn nc) (.slice ao n2 ac) (.slice so sn sc) (.slice eo n3 ec) (.slice oo on_ oc))
      have BL := Lib.hid (setB_below (b := w.heap.size + 1 + 1) B1.out (by omega) (.int .i64 me) (.slice no nn nc) (.slice ao n2 ac) (.slice so sn sc) (.slice eo n3 ec) (.slice oo on_ oc))
      clear X2 X3 X5 X2a X5a HS HE
      go_wp2_with fail
      have v0 := FB.out.cell 0
      have v1 := FB.out.cell 1
      have v2 := FB.out.cell 2
      have v3 := FB.out.cell 3
      have v4 := FB.out.cell 4
      have v5 := FB.out.cell 5
      simp at v0 v1 v2 v3 v4 v5
      refine bodyPost_ret (v := .tuple #[.agg #[.int .i64 me, .slice no nn nc, .slice ao n2 ac, .slice so sn sc, .slice eo n3 ec, .slice oo on_ oc], .bool false]) (by simp [results, Tryz.results13, go_sem, v0, v1, v2, v3, v4, v5]) rfl ?_
      rw [LB.out]
      exact ⟨⟨(ao, n2, ac), (eo, n3, ec), rfl, HH.out.on BL.out⟩, BL.out⟩
end Go.Proofs.YtonoadjmglkhaaaGreat.Bk

namespace Go.Proofs.YtonoadjmglkhaaaGreat.Bk
open Go.RowKit Go.Sort Go.Proofs.YtonoadjmglkhaaaGreat Go.Proofs.YtonoadjmglkhaaaGreat.Rw Go.Proofs.YtonoadjmglkhaaaGreat.Nm Go.Proofs.YtonoadjmglkhaaaGreat.Pr

/-- A broker whose rows are one's own. -/
structure BrOwn (W : World) (B : Nat) (b : Br) (nv av sv ev ov : Sl) : Prop where
  near : OwnI W B (slv nv) b.near
  adv : ∃ l, OwnD W B (slv av) l ∧ All2 (AdIn W) l b.adv
  seen : OwnJ W B (slv sv) b.seen
  ent : ∃ l, OwnN W B (slv ev) l ∧ All2 (EnIn W) l b.ent
  own : ∃ l, OwnW W B (slv ov) l ∧ All2 (OwIn W) l b.own
theorem BrOwn.br {W : World} {B : Nat} {b : Br} {nv av sv ev ov : Sl} (h : BrOwn W B b nv av sv ev ov) : BrIn W b nv av sv ev ov where
  near := Row.of_own h.near
  adv := by obtain ⟨l, h1, h2⟩ := h.adv; exact ⟨l, Row.of_own h1, h2⟩
  seen := Row.of_own h.seen
  ent := by obtain ⟨l, h1, h2⟩ := h.ent; exact ⟨l, Row.of_own h1, h2⟩
  own := by obtain ⟨l, h1, h2⟩ := h.own; exact ⟨l, Row.of_own h1, h2⟩
/-- Each of a broker's rows is short. -/
structure Few (b : Br) : Prop where
  near : b.near.length ≤ 900
  adv : b.adv.length ≤ 900
  seen : b.seen.length ≤ 900
  ent : b.ent.length ≤ 900
  own : b.own.length ≤ 900
set_option maxRecDepth 100000 in
set_option maxHeartbeats 16000000 in
theorem copy_any (b : Br) (nv av sv ev ov : Sl) (w : World) (h : BrIn w b nv av sv ev ov) (hf : Few b) :
    Calls Tryz.prog 8 #[brv b.me nv av sv ev ov] w fun e w' => (∃ nv' av' sv' ev' ov' : Sl, e = .returned (brv b.me nv' av' sv' ev' ov') ∧ BrOwn w' w.heap.size b nv' av' sv' ev' ov') ∧ Below w.heap.size w w' := by
  obtain ⟨no, nn, nc⟩ := nv
  obtain ⟨ao, an, ac⟩ := av
  obtain ⟨so, sn, sc⟩ := sv
  obtain ⟨eo, en, ec⟩ := ev
  obtain ⟨oo, on_, oc⟩ := ov
  obtain ⟨la, ha1, ha2⟩ := h.adv
  obtain ⟨le, he1, he2⟩ := h.ent
  obtain ⟨lo_, ho1, ho2⟩ := h.own
  have HA := Lib.hid ha2
  have HE := Lib.hid he2
  have HO := Lib.hid ho2
  have R0 := Lib.hid h.near
  have R1 := Lib.hid ha1
  have R2 := Lib.hid h.seen
  have R3 := Lib.hid he1
  have R4 := Lib.hid ho1
  have LL0 := Lib.hid hf.near
  have LL1 := Lib.hid (show la.length ≤ 900 by rw [ha2.len]; exact hf.adv)
  have LL2 := Lib.hid hf.seen
  have LL3 := Lib.hid (show le.length ≤ 900 by rw [he2.len]; exact hf.ent)
  have LL4 := Lib.hid (show lo_.length ≤ 900 by rw [ho2.len]; exact hf.own)
  obtain ⟨h0, h1, h2⟩ := two_new w #[.int .i64 b.me, .slice no nn nc, .slice ao an ac, .slice so sn sc, .slice eo en ec, .slice oo on_ oc] #[.int .i64 0, .slice none 0 0, .slice none 0 0, .slice none 0 0, .slice none 0 0, .slice none 0 0] 29 29
  obtain ⟨me, hme⟩ : ∃ me, me = b.me := ⟨_, rfl⟩
  simp only [← hme] at h0 h1 h2 ⊢
  have B0 := Lib.hid h0
  have XB0 := Lib.hid h1
  have ZB0 := Lib.hid h2
  clear h0 h1 h2 h hf ha1 ha2 he1 he2 ho1 ho2 hme
  go_enter Tryz.func8, Tryz.ntmps8
  go_upto_region 1 with fail
  generalize (w.alloc (.cells #[.int .i64 me, .slice no nn nc, .slice ao an ac, .slice so sn sc, .slice eo en ec, .slice oo on_ oc] 29)).alloc (.cells #[.int .i64 0, .slice none 0 0, .slice none 0 0, .slice none 0 0, .slice none 0 0, .slice none 0 0] 29) = W at *
  obtain ⟨q0, w0, r0, o0, g0⟩ := app_fresh Nm.okI (w.heap.size + 2) (box_new W #[] 3) (by have := XB0.out.lt; have := ZB0.out.lt; omega) ((R0.out.on B0.out).on (newB W (.cells #[] 3))) (by have := LL0.out; omega) 23
  obtain ⟨a0, c0, hv0⟩ := (Row.of_own o0).len
  obtain ⟨l0, hl0⟩ : ∃ n, n = (b.near).length := ⟨_, rfl⟩
  rw [← hl0] at hv0
  subst hv0
  have G0 := (newB W (.cells #[] 3)).trans (g0.mono (newB W (.cells #[] 3)).size)
  have X0a := XB0.out.on G0
  have x0 := (XB0.out.on (newB W (.cells #[] 3))).cell 1
  have y0 := X0a.cell 1
  have f0 := X0a.fr 1
  have z0 := X0a.lt
  simp only [List.getElem?_toArray, List.getElem?_cons_zero, List.getElem?_cons_succ] at x0 y0
  have XB1 := Lib.hid (show Box _ _ #[.int .i64 me, .slice a0 l0 c0, .slice ao an ac, .slice so sn sc, .slice eo en ec, .slice oo on_ oc] _ from by simpa using box_set (k := 1) X0a (.slice a0 l0 c0))
  have ZB1 := Lib.hid (show Box _ _ _ _ from (RowKit.Below.heap_setCell w0 ⟨w.heap.size, 1, none⟩ (.slice a0 l0 c0) _ (show w.heap.size + 1 ≠ w.heap.size by omega)).trans (ZB0.out.on G0))
  have B1 := Lib.hid (((B0.out.trans (G0.mono B0.out.size)).setCell (p := ⟨w.heap.size, 1, none⟩) (Nat.le_refl _) (.slice a0 l0 c0)))
  have O1_0 := Lib.hid (own_cell o0 w.heap.size 1 (.slice a0 l0 c0) (by omega))
  clear X0a G0 o0 g0 hl0 XB0 ZB0 
  go_upto_region 2 with (first | (at_builtin; refine wpList_append_run rfl _ _ 23 rfl rfl rfl r0 ?_) | fail)
  clear r0 x0 y0 f0 z0
  generalize w0.setCell ⟨w.heap.size, 1, none⟩ (.slice a0 l0 c0) = W1 at *
  obtain ⟨q1, w1, r1, o1, g1⟩ := app_fresh okD (w.heap.size + 2) (box_new W1 #[] 42) (by have := XB1.out.lt; have := ZB1.out.lt; omega) ((R1.out.on B1.out).on (newB W1 (.cells #[] 42))) (by have := LL1.out; omega) 24
  obtain ⟨a1, c1, hv1⟩ := (Row.of_own o1).len
  obtain ⟨l1, hl1⟩ : ∃ n, n = (la).length := ⟨_, rfl⟩
  rw [← hl1] at hv1
  subst hv1
  have G1 := (newB W1 (.cells #[] 42)).trans (g1.mono (newB W1 (.cells #[] 42)).size)
  have X1a := XB1.out.on G1
  have x1 := (XB1.out.on (newB W1 (.cells #[] 42))).cell 2
  have y1 := X1a.cell 2
  have f1 := X1a.fr 2
  have z1 := X1a.lt
  simp only [List.getElem?_toArray, List.getElem?_cons_zero, List.getElem?_cons_succ] at x1 y1
  have XB2 := Lib.hid (show Box _ _ #[.int .i64 me, .slice a0 l0 c0, .slice a1 l1 c1, .slice so sn sc, .slice eo en ec, .slice oo on_ oc] _ from by simpa using box_set (k := 2) X1a (.slice a1 l1 c1))
  have ZB2 := Lib.hid (show Box _ _ _ _ from (RowKit.Below.heap_setCell w1 ⟨w.heap.size, 2, none⟩ (.slice a1 l1 c1) _ (show w.heap.size + 1 ≠ w.heap.size by omega)).trans (ZB1.out.on G1))
  have B2 := Lib.hid (((B1.out.trans (G1.mono B1.out.size)).setCell (p := ⟨w.heap.size, 2, none⟩) (Nat.le_refl _) (.slice a1 l1 c1)))
  have O2_0 := Lib.hid (own_cell (own_on O1_0.out G1) w.heap.size 2 (.slice a1 l1 c1) (by omega))
  have O2_1 := Lib.hid (own_cell o1 w.heap.size 2 (.slice a1 l1 c1) (by omega))
  clear X1a G1 o1 g1 hl1 XB1 ZB1 O1_0
  go_upto_region 3 with (first | (at_builtin; refine wpList_append_run rfl _ _ 24 rfl rfl rfl r1 ?_) | fail)
  clear r1 x1 y1 f1 z1
  generalize w1.setCell ⟨w.heap.size, 2, none⟩ (.slice a1 l1 c1) = W2 at *
  obtain ⟨q2, w2, r2, o2, g2⟩ := app_fresh okJ (w.heap.size + 2) (box_new W2 #[] 37) (by have := XB2.out.lt; have := ZB2.out.lt; omega) ((R2.out.on B2.out).on (newB W2 (.cells #[] 37))) (by have := LL2.out; omega) 25
  obtain ⟨a2, c2, hv2⟩ := (Row.of_own o2).len
  obtain ⟨l2, hl2⟩ : ∃ n, n = (b.seen).length := ⟨_, rfl⟩
  rw [← hl2] at hv2
  subst hv2
  have G2 := (newB W2 (.cells #[] 37)).trans (g2.mono (newB W2 (.cells #[] 37)).size)
  have X2a := XB2.out.on G2
  have x2 := (XB2.out.on (newB W2 (.cells #[] 37))).cell 3
  have y2 := X2a.cell 3
  have f2 := X2a.fr 3
  have z2 := X2a.lt
  simp only [List.getElem?_toArray, List.getElem?_cons_zero, List.getElem?_cons_succ] at x2 y2
  have XB3 := Lib.hid (show Box _ _ #[.int .i64 me, .slice a0 l0 c0, .slice a1 l1 c1, .slice a2 l2 c2, .slice eo en ec, .slice oo on_ oc] _ from by simpa using box_set (k := 3) X2a (.slice a2 l2 c2))
  have ZB3 := Lib.hid (show Box _ _ _ _ from (RowKit.Below.heap_setCell w2 ⟨w.heap.size, 3, none⟩ (.slice a2 l2 c2) _ (show w.heap.size + 1 ≠ w.heap.size by omega)).trans (ZB2.out.on G2))
  have B3 := Lib.hid (((B2.out.trans (G2.mono B2.out.size)).setCell (p := ⟨w.heap.size, 3, none⟩) (Nat.le_refl _) (.slice a2 l2 c2)))
  have O3_0 := Lib.hid (own_cell (own_on O2_0.out G2) w.heap.size 3 (.slice a2 l2 c2) (by omega))
  have O3_1 := Lib.hid (own_cell (own_on O2_1.out G2) w.heap.size 3 (.slice a2 l2 c2) (by omega))
  have O3_2 := Lib.hid (own_cell o2 w.heap.size 3 (.slice a2 l2 c2) (by omega))
  clear X2a G2 o2 g2 hl2 XB2 ZB2 O2_0 O2_1
  go_upto_region 4 with (first | (at_builtin; refine wpList_append_run rfl _ _ 25 rfl rfl rfl r2 ?_) | fail)
  clear r2 x2 y2 f2 z2
  generalize w2.setCell ⟨w.heap.size, 3, none⟩ (.slice a2 l2 c2) = W3 at *
  obtain ⟨q3, w3, r3, o3, g3⟩ := app_fresh okN (w.heap.size + 2) (box_new W3 #[] 58) (by have := XB3.out.lt; have := ZB3.out.lt; omega) ((R3.out.on B3.out).on (newB W3 (.cells #[] 58))) (by have := LL3.out; omega) 26
  obtain ⟨a3, c3, hv3⟩ := (Row.of_own o3).len
  obtain ⟨l3, hl3⟩ : ∃ n, n = (le).length := ⟨_, rfl⟩
  rw [← hl3] at hv3
  subst hv3
  have G3 := (newB W3 (.cells #[] 58)).trans (g3.mono (newB W3 (.cells #[] 58)).size)
  have X3a := XB3.out.on G3
  have x3 := (XB3.out.on (newB W3 (.cells #[] 58))).cell 4
  have y3 := X3a.cell 4
  have f3 := X3a.fr 4
  have z3 := X3a.lt
  simp only [List.getElem?_toArray, List.getElem?_cons_zero, List.getElem?_cons_succ] at x3 y3
  have XB4 := Lib.hid (show Box _ _ #[.int .i64 me, .slice a0 l0 c0, .slice a1 l1 c1, .slice a2 l2 c2, .slice a3 l3 c3, .slice oo on_ oc] _ from by simpa using box_set (k := 4) X3a (.slice a3 l3 c3))
  have ZB4 := Lib.hid (show Box _ _ _ _ from (RowKit.Below.heap_setCell w3 ⟨w.heap.size, 4, none⟩ (.slice a3 l3 c3) _ (show w.heap.size + 1 ≠ w.heap.size by omega)).trans (ZB3.out.on G3))
  have B4 := Lib.hid (((B3.out.trans (G3.mono B3.out.size)).setCell (p := ⟨w.heap.size, 4, none⟩) (Nat.le_refl _) (.slice a3 l3 c3)))
  have O4_0 := Lib.hid (own_cell (own_on O3_0.out G3) w.heap.size 4 (.slice a3 l3 c3) (by omega))
  have O4_1 := Lib.hid (own_cell (own_on O3_1.out G3) w.heap.size 4 (.slice a3 l3 c3) (by omega))
  have O4_2 := Lib.hid (own_cell (own_on O3_2.out G3) w.heap.size 4 (.slice a3 l3 c3) (by omega))
  have O4_3 := Lib.hid (own_cell o3 w.heap.size 4 (.slice a3 l3 c3) (by omega))
  clear X3a G3 o3 g3 hl3 XB3 ZB3 O3_0 O3_1 O3_2
  go_upto_region 5 with (first | (at_builtin; refine wpList_append_run rfl _ _ 26 rfl rfl rfl r3 ?_) | fail)
  clear r3 x3 y3 f3 z3
  generalize w3.setCell ⟨w.heap.size, 4, none⟩ (.slice a3 l3 c3) = W4 at *
  obtain ⟨q4, w4, r4, o4, g4⟩ := app_fresh okW (w.heap.size + 2) (box_new W4 #[] 60) (by have := XB4.out.lt; have := ZB4.out.lt; omega) ((R4.out.on B4.out).on (newB W4 (.cells #[] 60))) (by have := LL4.out; omega) 27
  obtain ⟨a4, c4, hv4⟩ := (Row.of_own o4).len
  obtain ⟨l4, hl4⟩ : ∃ n, n = (lo_).length := ⟨_, rfl⟩
  rw [← hl4] at hv4
  subst hv4
  have G4 := (newB W4 (.cells #[] 60)).trans (g4.mono (newB W4 (.cells #[] 60)).size)
  have X4a := XB4.out.on G4
  have x4 := (XB4.out.on (newB W4 (.cells #[] 60))).cell 5
  have y4 := X4a.cell 5
  have f4 := X4a.fr 5
  have z4 := X4a.lt
  simp only [List.getElem?_toArray, List.getElem?_cons_zero, List.getElem?_cons_succ] at x4 y4
  have XB5 := Lib.hid (show Box _ _ #[.int .i64 me, .slice a0 l0 c0, .slice a1 l1 c1, .slice a2 l2 c2, .slice a3 l3 c3, .slice a4 l4 c4] _ from by simpa using box_set (k := 5) X4a (.slice a4 l4 c4))
  have ZB5 := Lib.hid (show Box _ _ _ _ from (RowKit.Below.heap_setCell w4 ⟨w.heap.size, 5, none⟩ (.slice a4 l4 c4) _ (show w.heap.size + 1 ≠ w.heap.size by omega)).trans (ZB4.out.on G4))
  have B5 := Lib.hid (((B4.out.trans (G4.mono B4.out.size)).setCell (p := ⟨w.heap.size, 5, none⟩) (Nat.le_refl _) (.slice a4 l4 c4)))
  have O5_0 := Lib.hid (own_cell (own_on O4_0.out G4) w.heap.size 5 (.slice a4 l4 c4) (by omega))
  have O5_1 := Lib.hid (own_cell (own_on O4_1.out G4) w.heap.size 5 (.slice a4 l4 c4) (by omega))
  have O5_2 := Lib.hid (own_cell (own_on O4_2.out G4) w.heap.size 5 (.slice a4 l4 c4) (by omega))
  have O5_3 := Lib.hid (own_cell (own_on O4_3.out G4) w.heap.size 5 (.slice a4 l4 c4) (by omega))
  have O5_4 := Lib.hid (own_cell o4 w.heap.size 5 (.slice a4 l4 c4) (by omega))
  clear X4a G4 o4 g4 hl4 XB4 ZB4 O4_0 O4_1 O4_2 O4_3
  go_upto_region 6 with (first | (at_builtin; refine wpList_append_run rfl _ _ 27 rfl rfl rfl r4 ?_) | fail)
  clear r4 x4 y4 f4 z4
  generalize w4.setCell ⟨w.heap.size, 5, none⟩ (.slice a4 l4 c4) = W5 at *
  have X2a := XB5.out
  have X5a := ZB5.out
  have x0 := X2a.cell 0
  have x1 := X2a.cell 1
  have x2 := X2a.cell 2
  have x3 := X2a.cell 3
  have x4 := X2a.cell 4
  have x5 := X2a.cell 5
  have r0 := X5a.cell 0
  have r1 := X5a.cell 1
  have r2 := X5a.cell 2
  have r3 := X5a.cell 3
  have r4 := X5a.cell 4
  have r5 := X5a.cell 5
  have t0 := X5a.fr 0
  have t1 := X5a.fr 1
  have t2 := X5a.fr 2
  have t3 := X5a.fr 3
  have t4 := X5a.fr 4
  have t5 := X5a.fr 5
  simp only [List.getElem?_toArray, List.getElem?_cons_zero, List.getElem?_cons_succ] at x0 x1 x2 x3 x4 x5 r0 r1 r2 r3 r4 r5
  have zz := X5a.lt
  have FB := Lib.hid (setB_box X5a (.int .i64 me) (.slice a0 l0 c0) (.slice a1 l1 c1) (.slice a2 l2 c2) (.slice a3 l3 c3) (.slice a4 l4 c4))
  have BL := Lib.hid (setB_below (b := w.heap.size + 1) B5.out (by omega) (.int .i64 me) (.slice a0 l0 c0) (.slice a1 l1 c1) (.slice a2 l2 c2) (.slice a3 l3 c3) (.slice a4 l4 c4))
  have F0 := Lib.hid (setB_ownA O5_0.out (w.heap.size + 1) (by omega) (.int .i64 me) (.slice a0 l0 c0) (.slice a1 l1 c1) (.slice a2 l2 c2) (.slice a3 l3 c3) (.slice a4 l4 c4))
  have F1 := Lib.hid (setB_ownA O5_1.out (w.heap.size + 1) (by omega) (.int .i64 me) (.slice a0 l0 c0) (.slice a1 l1 c1) (.slice a2 l2 c2) (.slice a3 l3 c3) (.slice a4 l4 c4))
  have F2 := Lib.hid (setB_ownA O5_2.out (w.heap.size + 1) (by omega) (.int .i64 me) (.slice a0 l0 c0) (.slice a1 l1 c1) (.slice a2 l2 c2) (.slice a3 l3 c3) (.slice a4 l4 c4))
  have F3 := Lib.hid (setB_ownA O5_3.out (w.heap.size + 1) (by omega) (.int .i64 me) (.slice a0 l0 c0) (.slice a1 l1 c1) (.slice a2 l2 c2) (.slice a3 l3 c3) (.slice a4 l4 c4))
  have F4 := Lib.hid (setB_ownA O5_4.out (w.heap.size + 1) (by omega) (.int .i64 me) (.slice a0 l0 c0) (.slice a1 l1 c1) (.slice a2 l2 c2) (.slice a3 l3 c3) (.slice a4 l4 c4))
  clear X2a X5a
  go_wp2_with fail
  have v0 := FB.out.cell 0
  have v1 := FB.out.cell 1
  have v2 := FB.out.cell 2
  have v3 := FB.out.cell 3
  have v4 := FB.out.cell 4
  have v5 := FB.out.cell 5
  simp at v0 v1 v2 v3 v4 v5
  refine bodyPost_ret (v := .agg #[.int .i64 me, .slice a0 l0 c0, .slice a1 l1 c1, .slice a2 l2 c2, .slice a3 l3 c3, .slice a4 l4 c4]) (by simp [results, Tryz.results8, go_sem, v0, v1, v2, v3, v4, v5]) rfl ?_
  exact ⟨⟨(a0, l0, c0), (a1, l1, c1), (a2, l2, c2), (a3, l3, c3), (a4, l4, c4), rfl, own_fewer F0.out (by omega), ⟨la, own_fewer F1.out (by omega), HA.out.mono fun _ _ h => h.on BL.out⟩, own_fewer F2.out (by omega), ⟨le, own_fewer F3.out (by omega), HE.out.mono fun _ _ h => h.on BL.out⟩, ⟨lo_, own_fewer F4.out (by omega), HO.out.mono fun _ _ h => h.on BL.out⟩⟩, BL.out⟩
end Go.Proofs.YtonoadjmglkhaaaGreat.Bk
