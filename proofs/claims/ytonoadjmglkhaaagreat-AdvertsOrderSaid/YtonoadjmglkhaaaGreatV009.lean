/-
  The two loops of Learn that look for a place. Condition: at most a million elements.
  The region of Learn that puts an ID into its place. Condition: at most 900 of them.
  The region of Learn that puts an advertisement into its place. Condition: at most 900 of them.
-/
import Derived.Test.YtonoadjmglkhaaaGreatV008
import Derived.Lib.QuietBelow
import Derived.BigQuiet
import Derived.Test.YtonoadjmglkhaaaGreatV005
namespace Go.Proofs.YtonoadjmglkhaaaGreat.Bk
open Go.RowKit Go.Sort Go.Proofs.YtonoadjmglkhaaaGreat Go.Proofs.YtonoadjmglkhaaaGreat.Rw Go.Proofs.YtonoadjmglkhaaaGreat.Nm Go.Proofs.YtonoadjmglkhaaaGreat.Pr

noncomputable def learnB2 : Code := ((Tryz.f11.body.bind (findBlock 2)).getD .skip)
set_option maxRecDepth 100000 in
set_option maxHeartbeats 8000000 in
theorem learn_b2 (Q : Exit → Act → World → Prop) (W : World) (b2 b3 : Nat) (me c d : Int) (y1 y3 y4 y5 p3 q3 : Value) (so : Option Addr) (n sc : Nat) (l : List XAd) (u0 u1 u4 u5 u7 u8 u9 u10 u11 u12 u13 u14 u15 u16 u17 u18 u19 u20 u21 u22 u23 u24 u25 u26 u27 u28 u29 u30 u31 u32 u33 u34 u35 u36 u37 u38 u39 u40 u41 u42 u43 u44 u45 u46 u47 u48 u49 u50 u51 u52 u53 u54 u55 u56 u57 u58 u59 u60 u61 u62 u63 u64 u65 u66 u67 u68 u69 u70 u71 u72 u73 u74 u75 u76 u77 u78 : Value)
    (h2 : Box W b2 #[.int .i64 me, y1, .slice so n sc, y3, y4, y5] 29) (h3 : Box W b3 #[.int .i64 c, .int .i64 d, p3, q3] 42) (hs : RowD W (.slice so n sc) l) (hn : n = l.length) (hm : n ≤ 1000000)
    (hQ : ∀ (wr : World) (v45 v46 v47 v48 v49 v50 v51 v52 v53 v54 v55 v56 v57 v58 v59 v60 v61 v62 : Value), Below W.heap.size W wr → Q .normal ⟨(u0 :: u1 :: .pointer (some ⟨b2, 0, none⟩) :: .pointer (some ⟨b3, 0, none⟩) :: u4 :: u5 :: .int .i64 (placeI (l.map fun y => (y.1, y.2.1)) (c, d) : Nat) :: u7 :: u8 :: u9 :: u10 :: u11 :: u12 :: u13 :: u14 :: u15 :: u16 :: u17 :: u18 :: u19 :: u20 :: u21 :: u22 :: u23 :: u24 :: u25 :: u26 :: u27 :: u28 :: u29 :: u30 :: u31 :: u32 :: u33 :: u34 :: u35 :: u36 :: u37 :: u38 :: u39 :: u40 :: u41 :: u42 :: u43 :: u44 :: v45 :: v46 :: v47 :: v48 :: v49 :: v50 :: v51 :: v52 :: v53 :: v54 :: v55 :: v56 :: v57 :: v58 :: v59 :: v60 :: v61 :: v62 :: u63 :: u64 :: u65 :: u66 :: u67 :: u68 :: u69 :: u70 :: u71 :: u72 :: u73 :: u74 :: u75 :: u76 :: u77 :: u78 :: []).toArray, []⟩ wr) :
    Code.wp Tryz.prog learnB2 Q ⟨(u0 :: u1 :: .pointer (some ⟨b2, 0, none⟩) :: .pointer (some ⟨b3, 0, none⟩) :: u4 :: u5 :: .int .i64 0 :: u7 :: u8 :: u9 :: u10 :: u11 :: u12 :: u13 :: u14 :: u15 :: u16 :: u17 :: u18 :: u19 :: u20 :: u21 :: u22 :: u23 :: u24 :: u25 :: u26 :: u27 :: u28 :: u29 :: u30 :: u31 :: u32 :: u33 :: u34 :: u35 :: u36 :: u37 :: u38 :: u39 :: u40 :: u41 :: u42 :: u43 :: u44 :: u45 :: u46 :: u47 :: u48 :: u49 :: u50 :: u51 :: u52 :: u53 :: u54 :: u55 :: u56 :: u57 :: u58 :: u59 :: u60 :: u61 :: u62 :: u63 :: u64 :: u65 :: u66 :: u67 :: u68 :: u69 :: u70 :: u71 :: u72 :: u73 :: u74 :: u75 :: u76 :: u77 :: u78 :: []).toArray, []⟩ W := by
  have HQ := Lib.hid hQ
  have H2 := Lib.hid h2
  have H3 := Lib.hid h3
  have HS := Lib.hid hs
  have HN := Lib.hid hn
  clear hQ h2 h3 hs hn
  conv => arg 2; whnf
  go_wp2
  go_loopw [6] (fun i wr => ∃ k : Nat, k ≤ n ∧ i = .int .i64 k ∧ Below W.heap.size W wr ∧ ∀ (j : Nat) (y : Id), j < k → (l.map fun y => (y.1, y.2.1))[j]? = some y → lessI y (c, d) = true) (fun i _ => n - (intOf i).toNat)
  case atStart => exact ⟨0, Nat.zero_le _, rfl, Below.refl _ _, fun j y h => by omega⟩
  case round =>
    obtain ⟨k, hk, rfl, hbe, hall⟩ := hrel
    have BE := Lib.hid hbe
    have AL := Lib.hid hall
    clear hbe hall
    have q0 := cell_regrown (show wr.cell? ⟨b2, 2, none⟩ = some (.slice so n sc) from (H2.out.on BE.out).cell 2)
    have r0 := cell_regrown (show wr.cell? ⟨b3, 0, none⟩ = some (.int .i64 c) from (H3.out.on BE.out).cell 0)
    have r1 := cell_regrown (show wr.cell? ⟨b3, 1, none⟩ = some (.int .i64 d) from (H3.out.on BE.out).cell 1)
    have hw3 : IntKind.i64.wrap ((k : Int) + 1) = (k : Int) + 1 := IntWalk.i64_in _ (by omega)
    by_cases hlt : k < n
    · obtain ⟨y, hy⟩ : ∃ y, l[k]? = some y := ⟨_, List.getElem?_eq_getElem (by rw [← HN.out]; exact hlt)⟩
      obtain ⟨p, ix, px⟩ := elD HS.out rfl HN.out.symm hy
      have px2 := px wr BE.out
      obtain ⟨y1, y2, ⟨y3o, y3n, y3c⟩, y4⟩ := y
      simp only at px2
      have p0 := cell_regrown px2.1
      have p1 := cell_regrown px2.2.1
      have dlt : decide ((k : Int) < (n : Int)) = true := decide_eq_true (by omega)
      have dln : decide (k < n) = true := decide_eq_true hlt
      obtain ⟨r, hr⟩ : ∃ r, lessI (y1, y2) (c, d) = r := ⟨_, rfl⟩
      have LS := Lib.hid (fun d' os => Calls.regrown_of (d := d') (os := os) ((less_any (y1, y2) (c, d) (grow (redrawn wr d') os)).mono fun _ _ h => ⟨by rw [h.1, hr], h.2⟩))
      have HY := Lib.hid (show (l.map fun y => (y.1, y.2.1))[k]? = some (y1, y2) by rw [List.getElem?_map, hy]; rfl)
      have HR := Lib.hid hr
      clear px px2 hy hr
      cases r
      · go_wp2_with fail
        refine wp_region_quiet_below (by kernel_rfl) (by kernel_rfl) ?_
        repeat (go_big_quiet_step (first | (with_reducible exact LS.out _ _)))
        refine wpQuiet_nil ?_
        intro _ hw'
        obtain ⟨⟨dq, osq⟩, hw''⟩ := hw'
        subst hw''
        have Z6 := below_regrown wr dq osq
        have HF := Lib.hid (fun v45 v46 v47 v48 v49 v50 v51 v52 v53 v54 v55 v56 v57 v58 v59 v60 v61 v62 => HQ.out (grow (redrawn wr dq) osq) v45 v46 v47 v48 v49 v50 v51 v52 v53 v54 v55 v56 v57 v58 v59 v60 v61 v62 (BE.out.trans (Z6.mono BE.out.size)))
        rw [place_is (l.map fun y => (y.1, y.2.1)) (c, d) k AL.out (Or.inr ⟨_, HY.out, HR.out⟩)] at HF
        clear ix HQ q0 r0 r1 LS dlt dln p0 p1
        go_wp2
        exact HF.out _ _ _ _ _ _ _ _ _ _ _ _ _ _ _ _ _ _
      · go_wp2_with fail
        refine wp_region_quiet_below (by kernel_rfl) (by kernel_rfl) ?_
        repeat (go_big_quiet_step (first | (with_reducible exact LS.out _ _)))
        refine wpQuiet_nil ?_
        intro _ hw'
        obtain ⟨⟨dq, osq⟩, hw''⟩ := hw'
        subst hw''
        have Z6 := Lib.hid (below_regrown wr dq osq)
        clear ix q0 r0 r1 LS dlt dln p0 p1
        go_wp2
        go_roundw
        case rel => exact ⟨k + 1, by omega, by go_num, BE.out.trans (Z6.out.mono BE.out.size), fun j y' hj h1 => by
          rcases Nat.lt_or_ge j k with h3 | h3
          · exact AL.out j y' h3 h1
          · obtain rfl : j = k := by omega
            have e1 := HY.out
            rw [h1] at e1
            rw [Option.some.inj e1]
            exact HR.out⟩
        case measure => simp [intOf]; omega
    · obtain rfl : k = n := by omega
      have dlt : decide ((k : Int) < (k : Int)) = false := by simp
      have dln : decide (k < k) = false := by simp
      go_wp2_with fail
      refine wp_region_quiet_below (by kernel_rfl) (by kernel_rfl) ?_
      repeat (go_big_quiet_step (fail))
      refine wpQuiet_nil ?_
      intro _ hw'
      obtain ⟨⟨dq, osq⟩, hw''⟩ := hw'
      subst hw''
      have Z6 := below_regrown wr dq osq
      have HF := Lib.hid (fun v45 v46 v47 v48 v49 v50 v51 v52 v53 v54 v55 v56 v57 v58 v59 v60 v61 v62 => HQ.out (grow (redrawn wr dq) osq) v45 v46 v47 v48 v49 v50 v51 v52 v53 v54 v55 v56 v57 v58 v59 v60 v61 v62 (BE.out.trans (Z6.mono BE.out.size)))
      rw [place_is (l.map fun y => (y.1, y.2.1)) (c, d) k AL.out (Or.inl (by simpa using HN.out))] at HF
      clear HQ q0 r0 r1 dlt dln
      go_wp2
      exact HF.out _ _ _ _ _ _ _ _ _ _ _ _ _ _ _ _ _ _
end Go.Proofs.YtonoadjmglkhaaaGreat.Bk

namespace Go.Proofs.YtonoadjmglkhaaaGreat.Bk
open Go.RowKit Go.Proofs.YtonoadjmglkhaaaGreat Go.Proofs.YtonoadjmglkhaaaGreat.Rw Go.Proofs.YtonoadjmglkhaaaGreat.Nm Go.Proofs.YtonoadjmglkhaaaGreat.Pr

def ins6V (B b2 b3 : Nat) (so : Option Addr) (sn sc at_ : Nat) (lo hiv : Value) (z : XID) (lt ld : List XID) (i : Nat) (v : Value) (x : World) : Prop :=
  match i with
  | 0 => ∃ g, v = .slice (some ⟨g, 0, none⟩) 0 0 ∧ B ≤ g ∧ Box x g #[] 37
  | 1 => v = .pointer (some ⟨b2, 3, none⟩)
  | 2 => v = .slice so sn sc
  | 3 => v = .int .i64 (at_ : Int)
  | 4 => v = lo
  | 5 => OwnJ x B v lt
  | 6 => v = .pointer (some ⟨b3, 0, none⟩)
  | 7 => v = valJ z
  | 8 => OwnJ x B v [z]
  | 9 => OwnJ x B v (lt ++ [z])
  | 10 => v = .pointer (some ⟨b2, 3, none⟩)
  | 11 => v = .slice so sn sc
  | 12 => v = .int .i64 (at_ : Int)
  | 13 => v = hiv
  | 14 => OwnJ x B v (lt ++ [z] ++ ld)
  | 15 => v = .pointer (some ⟨b2, 3, none⟩)
  | _ => True
noncomputable def insR6 : Code := ((Tryz.f11.body.bind (findRegion 6)).getD .skip)
theorem ins6V_on (B b2 b3 : Nat) (so : Option Addr) (sn sc at_ : Nat) (lo hiv : Value) (z : XID) (lt ld : List XID) (i : Nat) (v : Value) (x x' : World) (h : ins6V B b2 b3 so sn sc at_ lo hiv z lt ld i v x) (hb : Below x.heap.size x x') : ins6V B b2 b3 so sn sc at_ lo hiv z lt ld i v x' := by
  by_cases hi : i < 16
  · rcases (by omega : i = 0 ∨ i = 1 ∨ i = 2 ∨ i = 3 ∨ i = 4 ∨ i = 5 ∨ i = 6 ∨ i = 7 ∨ i = 8 ∨ i = 9 ∨ i = 10 ∨ i = 11 ∨ i = 12 ∨ i = 13 ∨ i = 14 ∨ i = 15) with rfl | rfl | rfl | rfl | rfl | rfl | rfl | rfl | rfl | rfl | rfl | rfl | rfl | rfl | rfl | rfl
    · obtain ⟨g, h1, h2, h3⟩ := h
      exact ⟨g, h1, h2, h3.on hb⟩
    · exact h
    · exact h
    · exact h
    · exact h
    · exact own_on h hb
    · exact h
    · exact h
    · exact own_on h hb
    · exact own_on h hb
    · exact h
    · exact h
    · exact h
    · exact h
    · exact own_on h hb
    · exact h
  · unfold ins6V
    split <;> first | omega | trivial
set_option maxRecDepth 100000 in
set_option maxHeartbeats 8000000 in
theorem ins6 (Q : Exit → Act → World → Prop) (W : World) (b2 b3 : Nat) (me : Int) (y1 y2 y4 y5 : Value) (so : Option Addr) (sn sc at_ : Nat) (l : List XID) (z : XID) (u0 u1 u4 u5 u7 u8 u9 u10 u11 u12 u13 u14 u15 u16 u17 u18 u19 u20 u21 u22 u23 u24 u25 u26 u27 u28 u29 u30 u31 u32 u33 u34 u35 u36 u37 u38 u39 u40 u41 u42 u43 u44 u45 u46 u47 u48 u49 u50 u51 u52 u53 u54 u55 u56 u57 u58 u59 u60 u61 u62 u63 u64 u65 u66 u67 u68 u69 u70 u71 u72 u73 u74 u75 u76 u77 u78 : Value)
    (h2 : Box W b2 #[.int .i64 me, y1, y2, .slice so sn sc, y4, y5] 29) (hx : ∀ x, Below W.heap.size W x → ∀ j u, (cellsJ z)[j]? = some u → x.cell? ((⟨b3, 0, none⟩ : Addr).add j) = some u) (hs : RowJ W (.slice so sn sc) l) (hat : at_ ≤ l.length) (hlen : l.length ≤ 900)
    (hQ : ∀ (x : World) (v29 v30 v31 v32 v33 v34 v35 v36 v37 v38 v39 v40 v41 v42 v43 v44 : Value), Box x b2 #[.int .i64 me, y1, y2, v43, y4, y5] 29 → OwnJ x W.heap.size v43 (l.take at_ ++ [z] ++ l.drop at_) → (∀ B, B ≤ b2 → Below B W x) → (∀ c cs t, c ≠ b2 → Box W c cs t → Box x c cs t) → (∀ k, k < W.heap.size → k ≠ b2 → x.heap[k]? = W.heap[k]?) → Q .normal ⟨(u0 :: u1 :: .pointer (some ⟨b2, 0, none⟩) :: .pointer (some ⟨b3, 0, none⟩) :: u4 :: u5 :: .int .i64 (at_ : Int) :: u7 :: u8 :: u9 :: u10 :: u11 :: u12 :: u13 :: u14 :: u15 :: u16 :: u17 :: u18 :: u19 :: u20 :: u21 :: u22 :: u23 :: u24 :: u25 :: u26 :: u27 :: u28 :: v29 :: v30 :: v31 :: v32 :: v33 :: v34 :: v35 :: v36 :: v37 :: v38 :: v39 :: v40 :: v41 :: v42 :: v43 :: v44 :: u45 :: u46 :: u47 :: u48 :: u49 :: u50 :: u51 :: u52 :: u53 :: u54 :: u55 :: u56 :: u57 :: u58 :: u59 :: u60 :: u61 :: u62 :: u63 :: u64 :: u65 :: u66 :: u67 :: u68 :: u69 :: u70 :: u71 :: u72 :: u73 :: u74 :: u75 :: u76 :: u77 :: u78 :: []).toArray, []⟩ x) :
    Code.wp Tryz.prog insR6 Q ⟨(u0 :: u1 :: .pointer (some ⟨b2, 0, none⟩) :: .pointer (some ⟨b3, 0, none⟩) :: u4 :: u5 :: .int .i64 (at_ : Int) :: u7 :: u8 :: u9 :: u10 :: u11 :: u12 :: u13 :: u14 :: u15 :: u16 :: u17 :: u18 :: u19 :: u20 :: u21 :: u22 :: u23 :: u24 :: u25 :: u26 :: u27 :: u28 :: u29 :: u30 :: u31 :: u32 :: u33 :: u34 :: u35 :: u36 :: u37 :: u38 :: u39 :: u40 :: u41 :: u42 :: u43 :: u44 :: u45 :: u46 :: u47 :: u48 :: u49 :: u50 :: u51 :: u52 :: u53 :: u54 :: u55 :: u56 :: u57 :: u58 :: u59 :: u60 :: u61 :: u62 :: u63 :: u64 :: u65 :: u66 :: u67 :: u68 :: u69 :: u70 :: u71 :: u72 :: u73 :: u74 :: u75 :: u76 :: u77 :: u78 :: []).toArray, []⟩ W := by
  have HQ := Lib.hid hQ
  have H2 := Lib.hid h2
  have LX := Lib.hid hx
  obtain ⟨lo, slo, rlo⟩ := row_lo okJ hs at_ (by omega)
  obtain ⟨hiv, shi, rhi⟩ := row_hi okJ hs (at_) hat
  have LT := Lib.hid (show (l.take at_).length ≤ 1000 by rw [List.length_take]; omega)
  have LTD := Lib.hid (show (l.take at_).length ≤ 900 by rw [List.length_take]; omega)
  have LD := Lib.hid (show (l.drop (at_)).length ≤ 1000 by rw [List.length_drop]; omega)
  generalize l.take at_ = lt at *
  generalize l.drop (at_) = ld at *
  have SL := Lib.hid slo
  have SH := Lib.hid shi
  have RL := Lib.hid rlo
  have RH := Lib.hid rhi
  clear hQ h2 hx hs slo shi rlo rhi hat hlen
  have stab := ins6V_on W.heap.size b2 b3 so sn sc at_ lo hiv z lt ld
  unfold insR6
  conv => arg 2; whnf
  have nd : ∀ j, (j < 29 ∨ 45 ≤ j) → ∀ i, i < 16 → (fun i => 29 + i) i ≠ j := by
    intro j hj i hi h
    simp only at h
    omega
  refine Rg.region_live 17 16 (fun i => 29 + i) (fun i => if i = 0 then 5 else if i = 5 then 9 else if i = 8 then 9 else if i = 9 then 14 else 16) (ins6V W.heap.size b2 b3 so sn sc at_ lo hiv z lt ld) (by kernel_rfl) (by kernel_rfl) rfl (by decide) (fun i j _ _ h => by have h2 : 29 + i = 29 + j := h; omega) (fun i hi => by show 29 + i < 79; omega) ?_ (fun _ => Rg.hall_of 1 (by kernel_rfl)) (fun kk o h1 h2 => by omega) ?_
  · intro i o hi ho a x D hnd hc hD hb seen K hK
    clear HQ
    rcases (by omega : i = 0 ∨ i = 1 ∨ i = 2 ∨ i = 3 ∨ i = 4 ∨ i = 5 ∨ i = 6 ∨ i = 7 ∨ i = 8 ∨ i = 9 ∨ i = 10 ∨ i = 11 ∨ i = 12 ∨ i = 13 ∨ i = 14 ∨ i = 15) with rfl | rfl | rfl | rfl | rfl | rfl | rfl | rfl | rfl | rfl | rfl | rfl | rfl | rfl | rfl | rfl
    · obtain rfl := Option.some.inj ho
      exact Rg.op_value rfl rfl (Rg.ex_build a.eval _ 25 0 #[] rfl rfl (by simp [go_sem])) (hK (.slice (some ⟨x.heap.size, 0, none⟩) 0 0) (x.alloc (.cells #[] 37)) ⟨x.heap.size, rfl, hb.size, box_new x #[] 37⟩ ((Below.refl _ _).alloc hb.size _) fun j u _ _ _ _ _ h => stab j u _ _ h ((Below.refl _ _).alloc (Nat.le_refl _) _))
    · obtain rfl := Option.some.inj ho
      have e2 : a.eval (.tmp 2) = .pointer (some ⟨b2, 0, none⟩) := seen.kp 2 _ (nd 2 (by omega)) rfl
      exact Rg.op_value rfl rfl (Rg.ex_field a.eval _ 29 (.tmp 2) 3 rfl (by rw [e2]; simp [go_sem])) (hK _ _ rfl (Below.refl _ _) fun _ _ _ _ _ _ _ h => h)
    · obtain rfl := Option.some.inj ho
      have e30 : a.eval (.tmp 30) = .pointer (some ⟨b2, 3, none⟩) := seen.at_ ⟨1, .data⟩ (by simp) rfl (Or.inr (by decide))
      have y := (H2.out.on hb).cell 3
      simp only [List.getElem?_toArray, List.getElem?_cons_zero, List.getElem?_cons_succ] at y
      exact Rg.op_value rfl rfl (Rg.ex_load a.eval _ 25 (.tmp 30) rfl (by rw [e30]; simp [go_sem, y])) (hK _ _ rfl (Below.refl _ _) fun _ _ _ _ _ _ _ h => h)
    · obtain rfl := Option.some.inj ho
      have e6 : a.eval (.tmp 6) = .int .i64 (at_ : Int) := seen.kp 6 _ (nd 6 (by omega)) rfl
      exact Rg.op_value rfl rfl (Rg.ex_move a.eval _ (.tmp 6) rfl x) (hK _ _ e6 (Below.refl _ _) fun _ _ _ _ _ _ _ h => h)
    · obtain rfl := Option.some.inj ho
      have e31 : a.eval (.tmp 31) = .slice so sn sc := seen.at_ ⟨2, .data⟩ (by simp) rfl (Or.inr (by decide))
      have e32 : a.eval (.tmp 32) = .int .i64 (at_ : Int) := seen.at_ ⟨3, .data⟩ (by simp) rfl (Or.inr (by decide))
      exact Rg.op_value rfl rfl (Rg.ex_slice a.eval _ 25 (.tmp 31) none (some (.tmp 32)) none rfl (by show (Instr.sliceAt 25 (a.eval (.tmp 31)) none (some (a.eval (.tmp 32))) none).run Tryz.prog x = .ok lo x; rw [e31, e32]; exact SL.out x)) (hK _ _ rfl (Below.refl _ _) fun _ _ _ _ _ _ _ h => h)
    · obtain rfl := Option.some.inj ho
      obtain ⟨g, q0, hBg, hbx⟩ := seen.at_ ⟨0, .data⟩ (by simp) rfl (Or.inl rfl)
      have q0 : a.eval (.tmp 29) = .slice (some ⟨g, 0, none⟩) 0 0 := q0
      have e33 : a.eval (.tmp 33) = lo := seen.at_ ⟨4, .data⟩ (by simp) rfl (Or.inr (by decide))
      obtain ⟨v', x', r, o', gr⟩ := app_fresh okJ W.heap.size hbx hBg (RL.out.on hb) LT.out 25
      exact Rg.op_value rfl rfl (Rg.ex_append a.eval _ (.tmp 29) (.tmp 33) 25 rfl q0 e33 r) (hK v' x' o' (gr.mono hb.size) fun j u _ _ _ _ _ h => stab j u _ _ h gr)
    · obtain rfl := Option.some.inj ho
      have e3 : a.eval (.tmp 3) = .pointer (some ⟨b3, 0, none⟩) := seen.kp 3 _ (nd 3 (by omega)) rfl
      exact Rg.op_value rfl rfl (Rg.ex_field a.eval _ 42 (.tmp 3) 0 rfl (by rw [e3]; simp [go_sem])) (hK _ _ rfl (Below.refl _ _) fun _ _ _ _ _ _ _ h => h)
    · obtain rfl := Option.some.inj ho
      have e35 : a.eval (.tmp 35) = .pointer (some ⟨b3, 0, none⟩) := seen.at_ ⟨6, .data⟩ (by simp) rfl (Or.inr (by decide))
      exact Rg.op_value rfl rfl (Rg.ex_load a.eval _ 37 (.tmp 35) rfl (by rw [e35]; exact loadJ x _ z (LX.out x hb))) (hK _ _ rfl (Below.refl _ _) fun _ _ _ _ _ _ _ h => h)
    · obtain rfl := Option.some.inj ho
      have e36 : a.eval (.tmp 36) = valJ z := seen.at_ ⟨7, .data⟩ (by simp) rfl (Or.inr (by decide))
      have hl := row_lit okJ x [z] 1 rfl (by simp) (cellsJ z).toArray (by simp [flat, EJ])
      have hl : OwnJ (x.alloc (.cells (cellsJ z).toArray 37)) x.heap.size (.slice (some ⟨x.heap.size, 0, none⟩) 1 1) [z] := hl
      exact Rg.op_value rfl rfl (Rg.ex_build a.eval _ 25 1 #[(0, .tmp 36)] rfl (ps := #[(0, valJ z)]) (by simp [e36]) (by simp [go_sem])) (hK (.slice (some ⟨x.heap.size, 0, none⟩) 1 1) (x.alloc (.cells (cellsJ z).toArray 37)) (own_fewer hl hb.size) ((Below.refl _ _).alloc hb.size _) fun j u _ _ _ _ _ h => stab j u _ _ h ((Below.refl _ _).alloc (Nat.le_refl _) _))
    · obtain rfl := Option.some.inj ho
      have o34 : OwnJ x W.heap.size (a.eval (.tmp 34)) (lt) := seen.at_ ⟨5, .data⟩ (by simp) rfl (Or.inl rfl)
      have o37 : OwnJ x W.heap.size (a.eval (.tmp 37)) ([z]) := seen.at_ ⟨8, .data⟩ (by simp) rfl (Or.inl rfl)
      have ox := Row.of_own o37
      obtain ⟨v', x', r, o', gr⟩ := app_row okJ W.heap.size o34 ox (by have := LT.out; omega) (by simp) hb.size 25
      exact Rg.op_value rfl rfl (Rg.ex_append a.eval _ (.tmp 34) (.tmp 37) 25 rfl rfl rfl r) (hK v' x' o' ((Below.refl _ x).grown gr hb.size fun j hj => (o34.lt j hj).1) fun j u hj dj nl nx ni h => by
        rcases (by omega : j = 0 ∨ j = 1 ∨ j = 2 ∨ j = 3 ∨ j = 4 ∨ j = 5 ∨ j = 6 ∨ j = 7 ∨ j = 8 ∨ j = 9 ∨ j = 10 ∨ j = 11 ∨ j = 12 ∨ j = 13 ∨ j = 14 ∨ j = 15) with rfl | rfl | rfl | rfl | rfl | rfl | rfl | rfl | rfl | rfl | rfl | rfl | rfl | rfl | rfl | rfl
        · exact absurd rfl (fun _ : (0 : Nat) = 0 => nl (hc 5 _ (hD ⟨5, .data⟩ (by simp) rfl) rfl ⟨0, .data⟩ (by simp) rfl |> fun _ => hD ⟨5, .data⟩ (by simp) rfl))
        · exact h
        · exact h
        · exact h
        · exact h
        · exact absurd rfl (fun _ : (0 : Nat) = 0 => nx rfl)
        · exact h
        · exact h
        · exact absurd rfl (fun _ : (0 : Nat) = 0 => nx rfl)
        · exact absurd rfl (fun _ : (0 : Nat) = 0 => ni rfl)
        · exact h
        · exact h
        · exact h
        · exact h
        · exact absurd rfl (fun _ : (0 : Nat) = 0 => hnd (hc 14 _ dj rfl ⟨9, .data⟩ (by simp) rfl))
        · exact h)
    · obtain rfl := Option.some.inj ho
      have e2 : a.eval (.tmp 2) = .pointer (some ⟨b2, 0, none⟩) := seen.kp 2 _ (nd 2 (by omega)) rfl
      exact Rg.op_value rfl rfl (Rg.ex_field a.eval _ 29 (.tmp 2) 3 rfl (by rw [e2]; simp [go_sem])) (hK _ _ rfl (Below.refl _ _) fun _ _ _ _ _ _ _ h => h)
    · obtain rfl := Option.some.inj ho
      have e39 : a.eval (.tmp 39) = .pointer (some ⟨b2, 3, none⟩) := seen.at_ ⟨10, .data⟩ (by simp) rfl (Or.inr (by decide))
      have y := (H2.out.on hb).cell 3
      simp only [List.getElem?_toArray, List.getElem?_cons_zero, List.getElem?_cons_succ] at y
      exact Rg.op_value rfl rfl (Rg.ex_load a.eval _ 25 (.tmp 39) rfl (by rw [e39]; simp [go_sem, y])) (hK _ _ rfl (Below.refl _ _) fun _ _ _ _ _ _ _ h => h)
    · obtain rfl := Option.some.inj ho
      have e6 : a.eval (.tmp 6) = .int .i64 (at_ : Int) := seen.kp 6 _ (nd 6 (by omega)) rfl
      exact Rg.op_value rfl rfl (Rg.ex_move a.eval _ (.tmp 6) rfl x) (hK _ _ e6 (Below.refl _ _) fun _ _ _ _ _ _ _ h => h)
    · obtain rfl := Option.some.inj ho
      have e40 : a.eval (.tmp 40) = .slice so sn sc := seen.at_ ⟨11, .data⟩ (by simp) rfl (Or.inr (by decide))
      have e41 : a.eval (.tmp 41) = .int .i64 (at_ : Int) := seen.at_ ⟨12, .data⟩ (by simp) rfl (Or.inr (by decide))
      exact Rg.op_value rfl rfl (Rg.ex_slice a.eval _ 25 (.tmp 40) (some (.tmp 41)) none none rfl (by show (Instr.sliceAt 25 (a.eval (.tmp 40)) (some (a.eval (.tmp 41))) none none).run Tryz.prog x = .ok hiv x; rw [e40, e41]; exact SH.out x)) (hK _ _ rfl (Below.refl _ _) fun _ _ _ _ _ _ _ h => h)
    · obtain rfl := Option.some.inj ho
      have o38 : OwnJ x W.heap.size (a.eval (.tmp 38)) ((lt ++ [z])) := seen.at_ ⟨9, .data⟩ (by simp) rfl (Or.inl rfl)
      have e42 : a.eval (.tmp 42) = hiv := seen.at_ ⟨13, .data⟩ (by simp) rfl (Or.inr (by decide))
      have ox : RowJ x (a.eval (.tmp 42)) ld := by rw [e42]; exact RH.out.on hb
      obtain ⟨v', x', r, o', gr⟩ := app_row okJ W.heap.size o38 ox (by have := LTD.out; rw [List.length_append, List.length_singleton]; omega) LD.out hb.size 25
      exact Rg.op_value rfl rfl (Rg.ex_append a.eval _ (.tmp 38) (.tmp 42) 25 rfl rfl rfl r) (hK v' x' o' ((Below.refl _ x).grown gr hb.size fun j hj => (o38.lt j hj).1) fun j u hj dj nl nx ni h => by
        rcases (by omega : j = 0 ∨ j = 1 ∨ j = 2 ∨ j = 3 ∨ j = 4 ∨ j = 5 ∨ j = 6 ∨ j = 7 ∨ j = 8 ∨ j = 9 ∨ j = 10 ∨ j = 11 ∨ j = 12 ∨ j = 13 ∨ j = 14 ∨ j = 15) with rfl | rfl | rfl | rfl | rfl | rfl | rfl | rfl | rfl | rfl | rfl | rfl | rfl | rfl | rfl | rfl
        · exact absurd rfl (fun _ : (0 : Nat) = 0 => nl (hc 9 _ (hD ⟨9, .data⟩ (by simp) rfl) rfl ⟨5, .data⟩ (by simp) rfl))
        · exact h
        · exact h
        · exact h
        · exact h
        · exact absurd rfl (fun _ : (0 : Nat) = 0 => nl (hD ⟨9, .data⟩ (by simp) rfl))
        · exact h
        · exact h
        · exact absurd rfl (fun _ : (0 : Nat) = 0 => nl (hD ⟨9, .data⟩ (by simp) rfl))
        · exact absurd rfl (fun _ : (0 : Nat) = 0 => nx rfl)
        · exact h
        · exact h
        · exact h
        · exact h
        · exact absurd rfl (fun _ : (0 : Nat) = 0 => ni rfl)
        · exact h)
    · obtain rfl := Option.some.inj ho
      have e2 : a.eval (.tmp 2) = .pointer (some ⟨b2, 0, none⟩) := seen.kp 2 _ (nd 2 (by omega)) rfl
      exact Rg.op_value rfl rfl (Rg.ex_field a.eval _ 29 (.tmp 2) 3 rfl (by rw [e2]; simp [go_sem])) (hK _ _ rfl (Below.refl _ _) fun _ _ _ _ _ _ _ h => h)
  · intro a w' df sz kp ⟨vs, hv⟩ hb
    have gr : a.tmps[43]? = some (vs 14) := (hv 14 (by omega)).1
    have gp : a.tmps[44]? = some (.pointer (some ⟨b2, 3, none⟩)) := by
      have h : vs 15 = .pointer (some ⟨b2, 3, none⟩) := (hv 15 (by omega)).2 (by decide)
      rw [← h]
      exact (hv 15 (by omega)).1
    have oR : OwnJ w' W.heap.size (vs 14) (lt ++ [z] ++ ld) := (hv 14 (by omega)).2 (by decide)
    generalize vs 14 = xR at *
    obtain ⟨ca, cp, eR⟩ := (Row.of_own oR).len
    have hbx := H2.out.on hb
    have hblt := H2.out.lt
    have c5 := hbx.cell 3
    have f5 := hbx.fr 3
    simp only [List.getElem?_toArray, List.getElem?_cons_zero, List.getElem?_cons_succ] at c5
    have hb1 := box_set (k := 3) hbx xR
    show Rg.SeqFrom _ _ _ 1 16 a w'
    simp only [Rg.SeqFrom]
    refine Rg.op_store 25 (.tmp 44) (.tmp 43) rfl rfl rfl rfl (Rg.eval_some gp) (Rg.eval_some gr) (w' := w'.setCell ⟨b2, 3, none⟩ xR) (by rw [eR]; simp [go_sem, c5, f5]) ?_
    have kp2 : ∀ j, (j < 29 ∨ 45 ≤ j) → a.tmps[j]? = (u0 :: u1 :: .pointer (some ⟨b2, 0, none⟩) :: .pointer (some ⟨b3, 0, none⟩) :: u4 :: u5 :: .int .i64 (at_ : Int) :: u7 :: u8 :: u9 :: u10 :: u11 :: u12 :: u13 :: u14 :: u15 :: u16 :: u17 :: u18 :: u19 :: u20 :: u21 :: u22 :: u23 :: u24 :: u25 :: u26 :: u27 :: u28 :: u29 :: u30 :: u31 :: u32 :: u33 :: u34 :: u35 :: u36 :: u37 :: u38 :: u39 :: u40 :: u41 :: u42 :: u43 :: u44 :: u45 :: u46 :: u47 :: u48 :: u49 :: u50 :: u51 :: u52 :: u53 :: u54 :: u55 :: u56 :: u57 :: u58 :: u59 :: u60 :: u61 :: u62 :: u63 :: u64 :: u65 :: u66 :: u67 :: u68 :: u69 :: u70 :: u71 :: u72 :: u73 :: u74 :: u75 :: u76 :: u77 :: u78 :: [])[j]? := fun j hj => (kp j (nd j hj)).trans List.getElem?_toArray
    obtain ⟨mid, hmid, rfl⟩ := Rg.frame_mid (bl := (u0 :: u1 :: .pointer (some ⟨b2, 0, none⟩) :: .pointer (some ⟨b3, 0, none⟩) :: u4 :: u5 :: .int .i64 (at_ : Int) :: u7 :: u8 :: u9 :: u10 :: u11 :: u12 :: u13 :: u14 :: u15 :: u16 :: u17 :: u18 :: u19 :: u20 :: u21 :: u22 :: u23 :: u24 :: u25 :: u26 :: u27 :: u28 :: u29 :: u30 :: u31 :: u32 :: u33 :: u34 :: u35 :: u36 :: u37 :: u38 :: u39 :: u40 :: u41 :: u42 :: u43 :: u44 :: u45 :: u46 :: u47 :: u48 :: u49 :: u50 :: u51 :: u52 :: u53 :: u54 :: u55 :: u56 :: u57 :: u58 :: u59 :: u60 :: u61 :: u62 :: u63 :: u64 :: u65 :: u66 :: u67 :: u68 :: u69 :: u70 :: u71 :: u72 :: u73 :: u74 :: u75 :: u76 :: u77 :: u78 :: [])) 29 16 df sz (by simp) kp2
    match mid, hmid with
    | [v29, v30, v31, v32, v33, v34, v35, v36, v37, v38, v39, v40, v41, v42, v43, v44], _ =>
      have e1 : some v43 = some xR := gr
      obtain rfl := Option.some.inj e1
      refine HQ.out _ v29 v30 v31 v32 v33 v34 v35 v36 v37 v38 v39 v40 v41 v42 v43 v44 ?_ ?_ ?_ ?_ ?_
      · simpa using hb1
      · exact own_cell oR b2 3 _ hblt
      · exact fun B hB => (hb.mono (Nat.le_of_lt (Nat.lt_of_le_of_lt hB hblt))).setCell hB _
      · intro c cs t hc hbc
        exact (RowKit.Below.heap_setCell _ _ _ _ hc).trans (hbc.on hb)
      · intro k hk hne
        exact (RowKit.Below.heap_setCell _ _ _ _ hne).trans (hb.block k hk)
end Go.Proofs.YtonoadjmglkhaaaGreat.Bk

namespace Go.Proofs.YtonoadjmglkhaaaGreat.Bk
open Go.RowKit Go.Proofs.YtonoadjmglkhaaaGreat Go.Proofs.YtonoadjmglkhaaaGreat.Rw Go.Proofs.YtonoadjmglkhaaaGreat.Nm Go.Proofs.YtonoadjmglkhaaaGreat.Pr

def ins10V (B b2 _b3 : Nat) (so : Option Addr) (sn sc at_ : Nat) (lo hiv : Value) (z : XAd) (lt ld : List XAd) (i : Nat) (v : Value) (x : World) : Prop :=
  match i with
  | 0 => ∃ g, v = .slice (some ⟨g, 0, none⟩) 0 0 ∧ B ≤ g ∧ Box x g #[] 42
  | 1 => v = .pointer (some ⟨b2, 2, none⟩)
  | 2 => v = .slice so sn sc
  | 3 => v = .int .i64 (at_ : Int)
  | 4 => v = lo
  | 5 => OwnD x B v lt
  | 6 => v = valD z
  | 7 => OwnD x B v [z]
  | 8 => OwnD x B v (lt ++ [z])
  | 9 => v = .pointer (some ⟨b2, 2, none⟩)
  | 10 => v = .slice so sn sc
  | 11 => v = .int .i64 (at_ : Int)
  | 12 => v = hiv
  | 13 => OwnD x B v (lt ++ [z] ++ ld)
  | 14 => v = .pointer (some ⟨b2, 2, none⟩)
  | _ => True
noncomputable def insR10 : Code := ((Tryz.f11.body.bind (findRegion 10)).getD .skip)
theorem ins10V_on (B b2 b3 : Nat) (so : Option Addr) (sn sc at_ : Nat) (lo hiv : Value) (z : XAd) (lt ld : List XAd) (i : Nat) (v : Value) (x x' : World) (h : ins10V B b2 b3 so sn sc at_ lo hiv z lt ld i v x) (hb : Below x.heap.size x x') : ins10V B b2 b3 so sn sc at_ lo hiv z lt ld i v x' := by
  by_cases hi : i < 15
  · rcases (by omega : i = 0 ∨ i = 1 ∨ i = 2 ∨ i = 3 ∨ i = 4 ∨ i = 5 ∨ i = 6 ∨ i = 7 ∨ i = 8 ∨ i = 9 ∨ i = 10 ∨ i = 11 ∨ i = 12 ∨ i = 13 ∨ i = 14) with rfl | rfl | rfl | rfl | rfl | rfl | rfl | rfl | rfl | rfl | rfl | rfl | rfl | rfl | rfl
    · obtain ⟨g, h1, h2, h3⟩ := h
      exact ⟨g, h1, h2, h3.on hb⟩
    · exact h
    · exact h
    · exact h
    · exact h
    · exact own_on h hb
    · exact h
    · exact own_on h hb
    · exact own_on h hb
    · exact h
    · exact h
    · exact h
    · exact h
    · exact own_on h hb
    · exact h
  · unfold ins10V
    split <;> first | omega | trivial
set_option maxRecDepth 100000 in
set_option maxHeartbeats 8000000 in
theorem ins10 (Q : Exit → Act → World → Prop) (W : World) (b2 b3 : Nat) (me : Int) (y1 y3 y4 y5 : Value) (so : Option Addr) (sn sc at_ : Nat) (l : List XAd) (z : XAd) (u0 u1 u4 u5 u7 u8 u9 u10 u11 u12 u13 u14 u15 u16 u17 u18 u19 u20 u21 u22 u23 u24 u25 u26 u27 u28 u29 u30 u31 u32 u33 u34 u35 u36 u37 u38 u39 u40 u41 u42 u43 u44 u45 u46 u47 u48 u49 u50 u51 u52 u53 u54 u55 u56 u57 u58 u59 u60 u61 u62 u63 u64 u65 u66 u67 u68 u69 u70 u71 u72 u73 u74 u75 u76 u77 u78 : Value)
    (h2 : Box W b2 #[.int .i64 me, y1, .slice so sn sc, y3, y4, y5] 29) (hx : ∀ x, Below W.heap.size W x → ∀ j u, (cellsD z)[j]? = some u → x.cell? ((⟨b3, 0, none⟩ : Addr).add j) = some u) (hs : RowD W (.slice so sn sc) l) (hat : at_ ≤ l.length) (hlen : l.length ≤ 900)
    (hQ : ∀ (x : World) (v63 v64 v65 v66 v67 v68 v69 v70 v71 v72 v73 v74 v75 v76 v77 : Value), Box x b2 #[.int .i64 me, y1, v76, y3, y4, y5] 29 → OwnD x W.heap.size v76 (l.take at_ ++ [z] ++ l.drop at_) → (∀ B, B ≤ b2 → Below B W x) → (∀ c cs t, c ≠ b2 → Box W c cs t → Box x c cs t) → (∀ k, k < W.heap.size → k ≠ b2 → x.heap[k]? = W.heap[k]?) → Q .normal ⟨(u0 :: u1 :: .pointer (some ⟨b2, 0, none⟩) :: .pointer (some ⟨b3, 0, none⟩) :: u4 :: u5 :: .int .i64 (at_ : Int) :: u7 :: u8 :: u9 :: u10 :: u11 :: u12 :: u13 :: u14 :: u15 :: u16 :: u17 :: u18 :: u19 :: u20 :: u21 :: u22 :: u23 :: u24 :: u25 :: u26 :: u27 :: u28 :: u29 :: u30 :: u31 :: u32 :: u33 :: u34 :: u35 :: u36 :: u37 :: u38 :: u39 :: u40 :: u41 :: u42 :: u43 :: u44 :: u45 :: u46 :: u47 :: u48 :: u49 :: u50 :: u51 :: u52 :: u53 :: u54 :: u55 :: u56 :: u57 :: u58 :: u59 :: u60 :: u61 :: u62 :: v63 :: v64 :: v65 :: v66 :: v67 :: v68 :: v69 :: v70 :: v71 :: v72 :: v73 :: v74 :: v75 :: v76 :: v77 :: u78 :: []).toArray, []⟩ x) :
    Code.wp Tryz.prog insR10 Q ⟨(u0 :: u1 :: .pointer (some ⟨b2, 0, none⟩) :: .pointer (some ⟨b3, 0, none⟩) :: u4 :: u5 :: .int .i64 (at_ : Int) :: u7 :: u8 :: u9 :: u10 :: u11 :: u12 :: u13 :: u14 :: u15 :: u16 :: u17 :: u18 :: u19 :: u20 :: u21 :: u22 :: u23 :: u24 :: u25 :: u26 :: u27 :: u28 :: u29 :: u30 :: u31 :: u32 :: u33 :: u34 :: u35 :: u36 :: u37 :: u38 :: u39 :: u40 :: u41 :: u42 :: u43 :: u44 :: u45 :: u46 :: u47 :: u48 :: u49 :: u50 :: u51 :: u52 :: u53 :: u54 :: u55 :: u56 :: u57 :: u58 :: u59 :: u60 :: u61 :: u62 :: u63 :: u64 :: u65 :: u66 :: u67 :: u68 :: u69 :: u70 :: u71 :: u72 :: u73 :: u74 :: u75 :: u76 :: u77 :: u78 :: []).toArray, []⟩ W := by
  have HQ := Lib.hid hQ
  have H2 := Lib.hid h2
  have LX := Lib.hid hx
  obtain ⟨lo, slo, rlo⟩ := row_lo okD hs at_ (by omega)
  obtain ⟨hiv, shi, rhi⟩ := row_hi okD hs (at_) hat
  have LT := Lib.hid (show (l.take at_).length ≤ 1000 by rw [List.length_take]; omega)
  have LTD := Lib.hid (show (l.take at_).length ≤ 900 by rw [List.length_take]; omega)
  have LD := Lib.hid (show (l.drop (at_)).length ≤ 1000 by rw [List.length_drop]; omega)
  generalize l.take at_ = lt at *
  generalize l.drop (at_) = ld at *
  have SL := Lib.hid slo
  have SH := Lib.hid shi
  have RL := Lib.hid rlo
  have RH := Lib.hid rhi
  clear hQ h2 hx hs slo shi rlo rhi hat hlen
  have stab := ins10V_on W.heap.size b2 b3 so sn sc at_ lo hiv z lt ld
  unfold insR10
  conv => arg 2; whnf
  have nd : ∀ j, (j < 63 ∨ 78 ≤ j) → ∀ i, i < 15 → (fun i => 63 + i) i ≠ j := by
    intro j hj i hi h
    simp only at h
    omega
  refine Rg.region_live 16 15 (fun i => 63 + i) (fun i => if i = 0 then 5 else if i = 5 then 8 else if i = 7 then 8 else if i = 8 then 13 else 15) (ins10V W.heap.size b2 b3 so sn sc at_ lo hiv z lt ld) (by kernel_rfl) (by kernel_rfl) rfl (by decide) (fun i j _ _ h => by have h2 : 63 + i = 63 + j := h; omega) (fun i hi => by show 63 + i < 79; omega) ?_ (fun _ => Rg.hall_of 1 (by kernel_rfl)) (fun kk o h1 h2 => by omega) ?_
  · intro i o hi ho a x D hnd hc hD hb seen K hK
    clear HQ
    rcases (by omega : i = 0 ∨ i = 1 ∨ i = 2 ∨ i = 3 ∨ i = 4 ∨ i = 5 ∨ i = 6 ∨ i = 7 ∨ i = 8 ∨ i = 9 ∨ i = 10 ∨ i = 11 ∨ i = 12 ∨ i = 13 ∨ i = 14) with rfl | rfl | rfl | rfl | rfl | rfl | rfl | rfl | rfl | rfl | rfl | rfl | rfl | rfl | rfl
    · obtain rfl := Option.some.inj ho
      exact Rg.op_value rfl rfl (Rg.ex_build a.eval _ 24 0 #[] rfl rfl (by simp [go_sem])) (hK (.slice (some ⟨x.heap.size, 0, none⟩) 0 0) (x.alloc (.cells #[] 42)) ⟨x.heap.size, rfl, hb.size, box_new x #[] 42⟩ ((Below.refl _ _).alloc hb.size _) fun j u _ _ _ _ _ h => stab j u _ _ h ((Below.refl _ _).alloc (Nat.le_refl _) _))
    · obtain rfl := Option.some.inj ho
      have e2 : a.eval (.tmp 2) = .pointer (some ⟨b2, 0, none⟩) := seen.kp 2 _ (nd 2 (by omega)) rfl
      exact Rg.op_value rfl rfl (Rg.ex_field a.eval _ 29 (.tmp 2) 2 rfl (by rw [e2]; simp [go_sem])) (hK _ _ rfl (Below.refl _ _) fun _ _ _ _ _ _ _ h => h)
    · obtain rfl := Option.some.inj ho
      have e64 : a.eval (.tmp 64) = .pointer (some ⟨b2, 2, none⟩) := seen.at_ ⟨1, .data⟩ (by simp) rfl (Or.inr (by decide))
      have y := (H2.out.on hb).cell 2
      simp only [List.getElem?_toArray, List.getElem?_cons_zero, List.getElem?_cons_succ] at y
      exact Rg.op_value rfl rfl (Rg.ex_load a.eval _ 24 (.tmp 64) rfl (by rw [e64]; simp [go_sem, y])) (hK _ _ rfl (Below.refl _ _) fun _ _ _ _ _ _ _ h => h)
    · obtain rfl := Option.some.inj ho
      have e6 : a.eval (.tmp 6) = .int .i64 (at_ : Int) := seen.kp 6 _ (nd 6 (by omega)) rfl
      exact Rg.op_value rfl rfl (Rg.ex_move a.eval _ (.tmp 6) rfl x) (hK _ _ e6 (Below.refl _ _) fun _ _ _ _ _ _ _ h => h)
    · obtain rfl := Option.some.inj ho
      have e65 : a.eval (.tmp 65) = .slice so sn sc := seen.at_ ⟨2, .data⟩ (by simp) rfl (Or.inr (by decide))
      have e66 : a.eval (.tmp 66) = .int .i64 (at_ : Int) := seen.at_ ⟨3, .data⟩ (by simp) rfl (Or.inr (by decide))
      exact Rg.op_value rfl rfl (Rg.ex_slice a.eval _ 24 (.tmp 65) none (some (.tmp 66)) none rfl (by show (Instr.sliceAt 24 (a.eval (.tmp 65)) none (some (a.eval (.tmp 66))) none).run Tryz.prog x = .ok lo x; rw [e65, e66]; exact SL.out x)) (hK _ _ rfl (Below.refl _ _) fun _ _ _ _ _ _ _ h => h)
    · obtain rfl := Option.some.inj ho
      obtain ⟨g, q0, hBg, hbx⟩ := seen.at_ ⟨0, .data⟩ (by simp) rfl (Or.inl rfl)
      have q0 : a.eval (.tmp 63) = .slice (some ⟨g, 0, none⟩) 0 0 := q0
      have e67 : a.eval (.tmp 67) = lo := seen.at_ ⟨4, .data⟩ (by simp) rfl (Or.inr (by decide))
      obtain ⟨v', x', r, o', gr⟩ := app_fresh okD W.heap.size hbx hBg (RL.out.on hb) LT.out 24
      exact Rg.op_value rfl rfl (Rg.ex_append a.eval _ (.tmp 63) (.tmp 67) 24 rfl q0 e67 r) (hK v' x' o' (gr.mono hb.size) fun j u _ _ _ _ _ h => stab j u _ _ h gr)
    · obtain rfl := Option.some.inj ho
      have e3 : a.eval (.tmp 3) = .pointer (some ⟨b3, 0, none⟩) := seen.kp 3 _ (nd 3 (by omega)) rfl
      exact Rg.op_value rfl rfl (Rg.ex_load a.eval _ 42 (.tmp 3) rfl (by rw [e3]; exact loadD x _ z (LX.out x hb))) (hK _ _ rfl (Below.refl _ _) fun _ _ _ _ _ _ _ h => h)
    · obtain rfl := Option.some.inj ho
      have e69 : a.eval (.tmp 69) = valD z := seen.at_ ⟨6, .data⟩ (by simp) rfl (Or.inr (by decide))
      have hl := row_lit okD x [z] 1 rfl (by simp) (cellsD z).toArray (by simp [flat, ED])
      have hl : OwnD (x.alloc (.cells (cellsD z).toArray 42)) x.heap.size (.slice (some ⟨x.heap.size, 0, none⟩) 1 1) [z] := hl
      exact Rg.op_value rfl rfl (Rg.ex_build a.eval _ 24 1 #[(0, .tmp 69)] rfl (ps := #[(0, valD z)]) (by simp [e69]) (by simp [go_sem])) (hK (.slice (some ⟨x.heap.size, 0, none⟩) 1 1) (x.alloc (.cells (cellsD z).toArray 42)) (own_fewer hl hb.size) ((Below.refl _ _).alloc hb.size _) fun j u _ _ _ _ _ h => stab j u _ _ h ((Below.refl _ _).alloc (Nat.le_refl _) _))
    · obtain rfl := Option.some.inj ho
      have o68 : OwnD x W.heap.size (a.eval (.tmp 68)) (lt) := seen.at_ ⟨5, .data⟩ (by simp) rfl (Or.inl rfl)
      have o70 : OwnD x W.heap.size (a.eval (.tmp 70)) ([z]) := seen.at_ ⟨7, .data⟩ (by simp) rfl (Or.inl rfl)
      have ox := Row.of_own o70
      obtain ⟨v', x', r, o', gr⟩ := app_row okD W.heap.size o68 ox (by have := LT.out; omega) (by simp) hb.size 24
      exact Rg.op_value rfl rfl (Rg.ex_append a.eval _ (.tmp 68) (.tmp 70) 24 rfl rfl rfl r) (hK v' x' o' ((Below.refl _ x).grown gr hb.size fun j hj => (o68.lt j hj).1) fun j u hj dj nl nx ni h => by
        rcases (by omega : j = 0 ∨ j = 1 ∨ j = 2 ∨ j = 3 ∨ j = 4 ∨ j = 5 ∨ j = 6 ∨ j = 7 ∨ j = 8 ∨ j = 9 ∨ j = 10 ∨ j = 11 ∨ j = 12 ∨ j = 13 ∨ j = 14) with rfl | rfl | rfl | rfl | rfl | rfl | rfl | rfl | rfl | rfl | rfl | rfl | rfl | rfl | rfl
        · exact absurd rfl (fun _ : (0 : Nat) = 0 => nl (hc 5 _ (hD ⟨5, .data⟩ (by simp) rfl) rfl ⟨0, .data⟩ (by simp) rfl |> fun _ => hD ⟨5, .data⟩ (by simp) rfl))
        · exact h
        · exact h
        · exact h
        · exact h
        · exact absurd rfl (fun _ : (0 : Nat) = 0 => nx rfl)
        · exact h
        · exact absurd rfl (fun _ : (0 : Nat) = 0 => nx rfl)
        · exact absurd rfl (fun _ : (0 : Nat) = 0 => ni rfl)
        · exact h
        · exact h
        · exact h
        · exact h
        · exact absurd rfl (fun _ : (0 : Nat) = 0 => hnd (hc 13 _ dj rfl ⟨8, .data⟩ (by simp) rfl))
        · exact h)
    · obtain rfl := Option.some.inj ho
      have e2 : a.eval (.tmp 2) = .pointer (some ⟨b2, 0, none⟩) := seen.kp 2 _ (nd 2 (by omega)) rfl
      exact Rg.op_value rfl rfl (Rg.ex_field a.eval _ 29 (.tmp 2) 2 rfl (by rw [e2]; simp [go_sem])) (hK _ _ rfl (Below.refl _ _) fun _ _ _ _ _ _ _ h => h)
    · obtain rfl := Option.some.inj ho
      have e72 : a.eval (.tmp 72) = .pointer (some ⟨b2, 2, none⟩) := seen.at_ ⟨9, .data⟩ (by simp) rfl (Or.inr (by decide))
      have y := (H2.out.on hb).cell 2
      simp only [List.getElem?_toArray, List.getElem?_cons_zero, List.getElem?_cons_succ] at y
      exact Rg.op_value rfl rfl (Rg.ex_load a.eval _ 24 (.tmp 72) rfl (by rw [e72]; simp [go_sem, y])) (hK _ _ rfl (Below.refl _ _) fun _ _ _ _ _ _ _ h => h)
    · obtain rfl := Option.some.inj ho
      have e6 : a.eval (.tmp 6) = .int .i64 (at_ : Int) := seen.kp 6 _ (nd 6 (by omega)) rfl
      exact Rg.op_value rfl rfl (Rg.ex_move a.eval _ (.tmp 6) rfl x) (hK _ _ e6 (Below.refl _ _) fun _ _ _ _ _ _ _ h => h)
    · obtain rfl := Option.some.inj ho
      have e73 : a.eval (.tmp 73) = .slice so sn sc := seen.at_ ⟨10, .data⟩ (by simp) rfl (Or.inr (by decide))
      have e74 : a.eval (.tmp 74) = .int .i64 (at_ : Int) := seen.at_ ⟨11, .data⟩ (by simp) rfl (Or.inr (by decide))
      exact Rg.op_value rfl rfl (Rg.ex_slice a.eval _ 24 (.tmp 73) (some (.tmp 74)) none none rfl (by show (Instr.sliceAt 24 (a.eval (.tmp 73)) (some (a.eval (.tmp 74))) none none).run Tryz.prog x = .ok hiv x; rw [e73, e74]; exact SH.out x)) (hK _ _ rfl (Below.refl _ _) fun _ _ _ _ _ _ _ h => h)
    · obtain rfl := Option.some.inj ho
      have o71 : OwnD x W.heap.size (a.eval (.tmp 71)) ((lt ++ [z])) := seen.at_ ⟨8, .data⟩ (by simp) rfl (Or.inl rfl)
      have e75 : a.eval (.tmp 75) = hiv := seen.at_ ⟨12, .data⟩ (by simp) rfl (Or.inr (by decide))
      have ox : RowD x (a.eval (.tmp 75)) ld := by rw [e75]; exact RH.out.on hb
      obtain ⟨v', x', r, o', gr⟩ := app_row okD W.heap.size o71 ox (by have := LTD.out; rw [List.length_append, List.length_singleton]; omega) LD.out hb.size 24
      exact Rg.op_value rfl rfl (Rg.ex_append a.eval _ (.tmp 71) (.tmp 75) 24 rfl rfl rfl r) (hK v' x' o' ((Below.refl _ x).grown gr hb.size fun j hj => (o71.lt j hj).1) fun j u hj dj nl nx ni h => by
        rcases (by omega : j = 0 ∨ j = 1 ∨ j = 2 ∨ j = 3 ∨ j = 4 ∨ j = 5 ∨ j = 6 ∨ j = 7 ∨ j = 8 ∨ j = 9 ∨ j = 10 ∨ j = 11 ∨ j = 12 ∨ j = 13 ∨ j = 14) with rfl | rfl | rfl | rfl | rfl | rfl | rfl | rfl | rfl | rfl | rfl | rfl | rfl | rfl | rfl
        · exact absurd rfl (fun _ : (0 : Nat) = 0 => nl (hc 8 _ (hD ⟨8, .data⟩ (by simp) rfl) rfl ⟨5, .data⟩ (by simp) rfl))
        · exact h
        · exact h
        · exact h
        · exact h
        · exact absurd rfl (fun _ : (0 : Nat) = 0 => nl (hD ⟨8, .data⟩ (by simp) rfl))
        · exact h
        · exact absurd rfl (fun _ : (0 : Nat) = 0 => nl (hD ⟨8, .data⟩ (by simp) rfl))
        · exact absurd rfl (fun _ : (0 : Nat) = 0 => nx rfl)
        · exact h
        · exact h
        · exact h
        · exact h
        · exact absurd rfl (fun _ : (0 : Nat) = 0 => ni rfl)
        · exact h)
    · obtain rfl := Option.some.inj ho
      have e2 : a.eval (.tmp 2) = .pointer (some ⟨b2, 0, none⟩) := seen.kp 2 _ (nd 2 (by omega)) rfl
      exact Rg.op_value rfl rfl (Rg.ex_field a.eval _ 29 (.tmp 2) 2 rfl (by rw [e2]; simp [go_sem])) (hK _ _ rfl (Below.refl _ _) fun _ _ _ _ _ _ _ h => h)
  · intro a w' df sz kp ⟨vs, hv⟩ hb
    have gr : a.tmps[76]? = some (vs 13) := (hv 13 (by omega)).1
    have gp : a.tmps[77]? = some (.pointer (some ⟨b2, 2, none⟩)) := by
      have h : vs 14 = .pointer (some ⟨b2, 2, none⟩) := (hv 14 (by omega)).2 (by decide)
      rw [← h]
      exact (hv 14 (by omega)).1
    have oR : OwnD w' W.heap.size (vs 13) (lt ++ [z] ++ ld) := (hv 13 (by omega)).2 (by decide)
    generalize vs 13 = xR at *
    obtain ⟨ca, cp, eR⟩ := (Row.of_own oR).len
    have hbx := H2.out.on hb
    have hblt := H2.out.lt
    have c5 := hbx.cell 2
    have f5 := hbx.fr 2
    simp only [List.getElem?_toArray, List.getElem?_cons_zero, List.getElem?_cons_succ] at c5
    have hb1 := box_set (k := 2) hbx xR
    show Rg.SeqFrom _ _ _ 1 15 a w'
    simp only [Rg.SeqFrom]
    refine Rg.op_store 24 (.tmp 77) (.tmp 76) rfl rfl rfl rfl (Rg.eval_some gp) (Rg.eval_some gr) (w' := w'.setCell ⟨b2, 2, none⟩ xR) (by rw [eR]; simp [go_sem, c5, f5]) ?_
    have kp2 : ∀ j, (j < 63 ∨ 78 ≤ j) → a.tmps[j]? = (u0 :: u1 :: .pointer (some ⟨b2, 0, none⟩) :: .pointer (some ⟨b3, 0, none⟩) :: u4 :: u5 :: .int .i64 (at_ : Int) :: u7 :: u8 :: u9 :: u10 :: u11 :: u12 :: u13 :: u14 :: u15 :: u16 :: u17 :: u18 :: u19 :: u20 :: u21 :: u22 :: u23 :: u24 :: u25 :: u26 :: u27 :: u28 :: u29 :: u30 :: u31 :: u32 :: u33 :: u34 :: u35 :: u36 :: u37 :: u38 :: u39 :: u40 :: u41 :: u42 :: u43 :: u44 :: u45 :: u46 :: u47 :: u48 :: u49 :: u50 :: u51 :: u52 :: u53 :: u54 :: u55 :: u56 :: u57 :: u58 :: u59 :: u60 :: u61 :: u62 :: u63 :: u64 :: u65 :: u66 :: u67 :: u68 :: u69 :: u70 :: u71 :: u72 :: u73 :: u74 :: u75 :: u76 :: u77 :: u78 :: [])[j]? := fun j hj => (kp j (nd j hj)).trans List.getElem?_toArray
    obtain ⟨mid, hmid, rfl⟩ := Rg.frame_mid (bl := (u0 :: u1 :: .pointer (some ⟨b2, 0, none⟩) :: .pointer (some ⟨b3, 0, none⟩) :: u4 :: u5 :: .int .i64 (at_ : Int) :: u7 :: u8 :: u9 :: u10 :: u11 :: u12 :: u13 :: u14 :: u15 :: u16 :: u17 :: u18 :: u19 :: u20 :: u21 :: u22 :: u23 :: u24 :: u25 :: u26 :: u27 :: u28 :: u29 :: u30 :: u31 :: u32 :: u33 :: u34 :: u35 :: u36 :: u37 :: u38 :: u39 :: u40 :: u41 :: u42 :: u43 :: u44 :: u45 :: u46 :: u47 :: u48 :: u49 :: u50 :: u51 :: u52 :: u53 :: u54 :: u55 :: u56 :: u57 :: u58 :: u59 :: u60 :: u61 :: u62 :: u63 :: u64 :: u65 :: u66 :: u67 :: u68 :: u69 :: u70 :: u71 :: u72 :: u73 :: u74 :: u75 :: u76 :: u77 :: u78 :: [])) 63 15 df sz (by simp) kp2
    match mid, hmid with
    | [v63, v64, v65, v66, v67, v68, v69, v70, v71, v72, v73, v74, v75, v76, v77], _ =>
      have e1 : some v76 = some xR := gr
      obtain rfl := Option.some.inj e1
      refine HQ.out _ v63 v64 v65 v66 v67 v68 v69 v70 v71 v72 v73 v74 v75 v76 v77 ?_ ?_ ?_ ?_ ?_
      · simpa using hb1
      · exact own_cell oR b2 2 _ hblt
      · exact fun B hB => (hb.mono (Nat.le_of_lt (Nat.lt_of_le_of_lt hB hblt))).setCell hB _
      · intro c cs t hc hbc
        exact (RowKit.Below.heap_setCell _ _ _ _ hc).trans (hbc.on hb)
      · intro k hk hne
        exact (RowKit.Below.heap_setCell _ _ _ _ hne).trans (hb.block k hk)
end Go.Proofs.YtonoadjmglkhaaaGreat.Bk
