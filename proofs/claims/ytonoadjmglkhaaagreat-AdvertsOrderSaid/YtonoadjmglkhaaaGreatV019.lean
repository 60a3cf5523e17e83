/-
  The region of Learn that puts the advertisement in its place. Conditions: they rise; at most 900 of them.
  slices.Index and slices.Contains of IDs, adverts.Seen. Condition: rows no longer than a machine holds.
-/
import Derived.Test.YtonoadjmglkhaaaGreatV018
import Derived.Test.YtonoadjmglkhaaaGreatV013
import Derived.Test.YtonoadjmglkhaaaGreatV001
import Derived.Test.YtonoadjmglkhaaaGreatV008
import Derived.Deep.RegionLaw
import Derived.Lib.QuietBelow
import Derived.BigQuiet
namespace Go.Proofs.YtonoadjmglkhaaaGreat.Av
open Go.RowKit Go.Sort Go.Proofs.YtonoadjmglkhaaaGreat Go.Proofs.YtonoadjmglkhaaaGreat.Rw Go.Proofs.YtonoadjmglkhaaaGreat.Nm Go.Proofs.YtonoadjmglkhaaaGreat.Pr Go.Proofs.YtonoadjmglkhaaaGreat.Bk

def lrn4V (B : Nat) (b1 _b2 : Nat) (_me : Int) (_z1 : Value) (o2 : Option Addr) (n2 c2 : Nat) (_z3 _z4 _z5 : Value) (y1 y2 : Int) (yo : Option Addr) (yn yc : Nat) (y4 : Int) (p : List C5) (i : Nat) (v : Value) (x : World) : Prop :=
  match i with
  | 0 => v = .pointer (some ⟨b1, 2, none⟩)
  | 1 => v = .slice o2 n2 c2
  | 2 => v = .agg #[.int .i64 y1, .int .i64 y2, .slice yo yn yc, .int .i64 y4]
  | 3 => ∃ s : Sl, v = valD (y1, y2, s, y4) ∧ OwnC x B (slv s) p
  | _ => True
noncomputable def lrn4C : Code := ((Tryz.f10.body.bind (findRegion 4)).getD .skip)
theorem lrn4V_on (B : Nat) (b1 b2 : Nat) (me : Int) (z1 : Value) (o2 : Option Addr) (n2 c2 : Nat) (z3 z4 z5 : Value) (y1 y2 : Int) (yo : Option Addr) (yn yc : Nat) (y4 : Int) (p : List C5) (i : Nat) (v : Value) (x x' : World) (h : lrn4V B b1 b2 me z1 o2 n2 c2 z3 z4 z5 y1 y2 yo yn yc y4 p i v x) (hb : Below x.heap.size x x') : lrn4V B b1 b2 me z1 o2 n2 c2 z3 z4 z5 y1 y2 yo yn yc y4 p i v x' := by
  by_cases hi : i < 4
  · rcases (by omega : i = 0 ∨ i = 1 ∨ i = 2 ∨ i = 3) with rfl | rfl | rfl | rfl
    · exact h
    · exact h
    · exact h
    · obtain ⟨s, h1, h2⟩ := h; exact ⟨s, h1, Bk.own_on h2 hb⟩
  · unfold lrn4V
    split <;> first | omega | trivial
set_option maxRecDepth 100000 in
set_option maxHeartbeats 8000000 in
theorem lrn4 (Q : Exit → Act → World → Prop) (W : World) (B0 : Nat) (l : List XAd) (b1 b2 : Nat) (me : Int) (z1 : Value) (o2 : Option Addr) (n2 c2 : Nat) (z3 z4 z5 : Value) (y1 y2 : Int) (yo : Option Addr) (yn yc : Nat) (y4 : Int) (p : List C5) (u0 u1 u4 u5 u6 u7 u8 u9 u10 u11 u12 u13 u14 u15 u16 u17 u18 u19 u20 u21 u22 u23 u24 u25 : Value)
    (h1 : Box W b1 #[.int .i64 me, z1, .slice o2 n2 c2, z3, z4, z5] 29) (h2 : Box W b2 #[.int .i64 y1, .int .i64 y2, .slice yo yn yc, .int .i64 y4] 42) (ho : OwnD W B0 (.slice o2 n2 c2) l) (hr : RiseK keyD l) (hl : l.length ≤ 900) (hB : B0 ≤ W.heap.size) (hb0 : b1 < B0) (hp : RowC W (.slice yo yn yc) p) (lp : p.length ≤ 900)
    (hQ : ∀ (w1 : World) (v13 v14 v15 v16 v17 v18 : Value) (s1 : Option Addr) (s2 s3 : Nat) (t1 : Option Addr) (t2 t3 : Nat), Box w1 b1 #[.int .i64 me, z1, .slice o2 n2 c2, z3, z4, z5] 29 → OwnD w1 B0 (.slice t1 t2 t3) (insAt l (placeK keyD l (y1, y2)) (y1, y2, (s1, s2, s3), y4)) → OwnC w1 W.heap.size (.slice s1 s2 s3) p → Off (slv (o2, n2, c2)).ownBlock W w1 → Below B0 W w1 → Q .normal ⟨(u0 :: u1 :: .pointer (some ⟨b1, 0, none⟩) :: .pointer (some ⟨b2, 0, none⟩) :: u4 :: u5 :: u6 :: u7 :: u8 :: u9 :: u10 :: u11 :: u12 :: v13 :: v14 :: v15 :: v16 :: v17 :: v18 :: u19 :: u20 :: u21 :: u22 :: u23 :: u24 :: u25 :: []).toArray, []⟩ (w1.setCell ⟨b1, 2, none⟩ (.slice t1 t2 t3))) :
    Code.wp Tryz.prog lrn4C Q ⟨(u0 :: u1 :: .pointer (some ⟨b1, 0, none⟩) :: .pointer (some ⟨b2, 0, none⟩) :: u4 :: u5 :: u6 :: u7 :: u8 :: u9 :: u10 :: u11 :: u12 :: u13 :: u14 :: u15 :: u16 :: u17 :: u18 :: u19 :: u20 :: u21 :: u22 :: u23 :: u24 :: u25 :: []).toArray, []⟩ W := by
  have HQ := Lib.hid hQ
  have H1 := Lib.hid h1
  have H2 := Lib.hid h2
  have HO := Lib.hid ho
  have HR := Lib.hid hr
  have HL := Lib.hid hl
  have HB := Lib.hid hB
  have H0 := Lib.hid hb0
  have HP := Lib.hid hp
  have LP := Lib.hid lp
  clear hQ h1 h2 ho hr hl hB hb0 hp lp
  have stab := lrn4V_on W.heap.size b1 b2 me z1 o2 n2 c2 z3 z4 z5 y1 y2 yo yn yc y4 p
  unfold lrn4C
  conv => arg 2; whnf
  have nd : ∀ j, (j < 13 ∨ 17 ≤ j) → ∀ i, i < 4 → (fun i => 13 + i) i ≠ j := by
    intro j hj i hi h
    simp only at h
    omega
  refine Rg.region_live 7 4 (fun i => 13 + i) (fun _ => 4) (lrn4V W.heap.size b1 b2 me z1 o2 n2 c2 z3 z4 z5 y1 y2 yo yn yc y4 p) (by kernel_rfl) (by kernel_rfl) rfl (by decide) (fun i j _ _ h => by have h2 : 13 + i = 13 + j := h; omega) (fun i hi => by show 13 + i < 26; omega) ?_ (fun _ => Rg.hall_of 14 (by kernel_rfl)) ?_ ?_
  · intro i o hi ho a x D hnd hc hD hb seen K hK
    clear HQ
    rcases (by omega : i = 0 ∨ i = 1 ∨ i = 2 ∨ i = 3) with rfl | rfl | rfl | rfl
    · obtain rfl := Option.some.inj ho
      have e2 : a.eval (.tmp 2) = .pointer (some ⟨b1, 0, none⟩) := seen.kp 2 _ (nd 2 (by omega)) rfl
      exact Rg.op_value rfl rfl (Rg.ex_field a.eval _ 29 (.tmp 2) 2 rfl (by rw [e2]; simp [go_sem])) (hK _ _ rfl (Below.refl _ _) fun _ _ _ _ _ _ _ h => h)
    · obtain rfl := Option.some.inj ho
      have e13 : a.eval (.tmp 13) = .pointer (some ⟨b1, 2, none⟩) := seen.at_ ⟨0, .data⟩ (by simp) rfl (Or.inr (by decide))
      have y2 := (H1.out.on hb).cell 2
      simp only [List.getElem?_toArray, List.getElem?_cons_zero, List.getElem?_cons_succ] at y2
      exact Rg.op_value rfl rfl (Rg.ex_load a.eval _ 24 (.tmp 13) rfl (by rw [e13]; simp [go_sem, y2])) (hK _ _ rfl (Below.refl _ _) fun _ _ _ _ _ _ _ h => h)
    · obtain rfl := Option.some.inj ho
      have e3 : a.eval (.tmp 3) = .pointer (some ⟨b2, 0, none⟩) := seen.kp 3 _ (nd 3 (by omega)) rfl
      have y0 := (H2.out.on hb).cell 0
      have y1 := (H2.out.on hb).cell 1
      have y2 := (H2.out.on hb).cell 2
      have y3 := (H2.out.on hb).cell 3
      simp only [List.getElem?_toArray, List.getElem?_cons_zero, List.getElem?_cons_succ] at y0 y1 y2 y3
      exact Rg.op_value rfl rfl (Rg.ex_load a.eval _ 42 (.tmp 3) rfl (by rw [e3]; simp [go_sem, y0, y1, y2, y3])) (hK _ _ rfl (Below.refl _ _) fun _ _ _ _ _ _ _ h => h)
    · obtain rfl := Option.some.inj ho
      have e15 : a.eval (.tmp 15) = .agg #[.int .i64 y1, .int .i64 y2, .slice yo yn yc, .int .i64 y4] := seen.at_ ⟨2, .data⟩ (by simp) rfl (Or.inr (by decide))
      exact Rg.op_call rfl rfl (Rw.ex_call1 a.eval _ (.tmp 15) 42 31 rfl e15 rfl _ (call_fn Tryz.func31 rfl rfl _ _)) (cpAd_any (y1, y2, (yo, yn, yc), y4) p x (HP.out.on hb) LP.out) fun e w1 h => by
        obtain ⟨⟨s, rfl, h1⟩, h3⟩ := h
        exact ⟨_, rfl, hK _ _ ⟨s, rfl, own_fewer h1 hb.size⟩ (h3.mono hb.size) fun j u hj _ _ _ hne h => stab j u _ _ h h3⟩
  · intro kk o h1 h2 ho
    rcases (by omega : kk = 5 ∨ kk = 6) with rfl | rfl
    · obtain rfl := Option.some.inj ho
      exact ⟨⟨4, .phase⟩, by simp, rfl, rfl⟩
    · obtain rfl := Option.some.inj ho
      exact ⟨⟨5, .data⟩, by simp, rfl, rfl⟩
  · intro a w' df sz kp ⟨vs, hv⟩ hb
    have sz' : a.tmps.size = 26 := sz
    have g2 : a.tmps[2]? = some (.pointer (some ⟨b1, 0, none⟩)) := (kp 2 (nd 2 (by omega))).trans rfl
    have g14 : a.tmps[14]? = some (.slice o2 n2 c2) := by
      have h : vs 1 = .slice o2 n2 c2 := (hv 1 (by omega)).2 (by decide)
      rw [← h]
      exact (hv 1 (by omega)).1
    obtain ⟨⟨s1, s2, s3⟩, hs, hc⟩ := (hv 3 (by omega)).2 (by decide)
    have g16 : a.tmps[16]? = some (valD (y1, y2, (s1, s2, s3), y4)) := ((hv 3 (by omega)).1).trans (congrArg some hs)
    have B1 := H1.out.on hb
    show Rg.SeqFrom _ _ _ 3 4 a w'
    simp only [Rg.SeqFrom]
    refine Rg.op_call rfl rfl (ex_call3g a.eval _ (.tmp 14) (.tmp 16) (.func 32) 24 42 76 30 rfl (Rg.eval_some g14) (Rg.eval_some g16) rfl rfl _ (call_fn Tryz.func30 rfl rfl _ _)) (putD_any B0 (o2, n2, c2) l (y1, y2, (s1, s2, s3), y4) w' (Bk.own_on HO.out hb) HR.out HL.out (Nat.le_trans HB.out hb.size)) fun e w1 h => ?_
    obtain ⟨⟨⟨t1, t2, t3⟩, rfl, hown⟩, hbel, hoth⟩ := h
    refine ⟨_, rfl, ?_⟩
    have hp17 : (a.put (some 17) (.slice t1 t2 t3)).tmps[17]? = some (.slice t1 t2 t3) := by simp [Act.put, sz']
    show Go.wpOp _ _ _ 5 _ (a.put (some 17) (.slice t1 t2 t3)) _
    refine Rg.op_value rfl rfl (Rg.ex_field _ _ 29 (.tmp 2) 2 rfl (v := .pointer (some ⟨b1, 2, none⟩)) (by rw [Rg.eval_some ((Rg.get_put _ 17 _ 2 (by decide)).trans g2)]; simp [go_sem])) ?_
    have hp18 : ((a.put (some 17) (.slice t1 t2 t3)).put (some 18) (.pointer (some ⟨b1, 2, none⟩))).tmps[18]? = some (.pointer (some ⟨b1, 2, none⟩)) := by simp [Act.put, sz']
    show Go.wpOp _ _ _ 6 _ ((a.put (some 17) (.slice t1 t2 t3)).put (some 18) (.pointer (some ⟨b1, 2, none⟩))) _
    have B2 : Box w1 b1 _ _ := (hbel.block b1 H0.out).trans B1
    have cx := B2.cell 2
    have fx := B2.fr 2
    simp only [List.getElem?_toArray, List.getElem?_cons_zero, List.getElem?_cons_succ] at cx
    refine Rg.op_store 24 (.tmp 18) (.tmp 17) rfl rfl rfl rfl (Rg.eval_some hp18) (Rg.eval_some ((Rg.get_put _ 18 _ 17 (by decide)).trans hp17)) (w' := w1.setCell ⟨b1, 2, none⟩ (.slice t1 t2 t3)) (by simp [go_sem, cx, fx]) ?_
    have of1 : Off (slv (o2, n2, c2)).ownBlock w' w1 := ⟨hoth, hbel.size⟩
    have of2 : Off (slv (o2, n2, c2)).ownBlock W w1 := ⟨fun j hj hne => (hoth j (Nat.lt_of_lt_of_le hj hb.size) hne).trans (hb.block j hj), Nat.le_trans hb.size hbel.size⟩
    have kp2 : ∀ j, (j < 13 ∨ 19 ≤ j) → ((a.put (some 17) (.slice t1 t2 t3)).put (some 18) (.pointer (some ⟨b1, 2, none⟩))).tmps[j]? = (u0 :: u1 :: .pointer (some ⟨b1, 0, none⟩) :: .pointer (some ⟨b2, 0, none⟩) :: u4 :: u5 :: u6 :: u7 :: u8 :: u9 :: u10 :: u11 :: u12 :: u13 :: u14 :: u15 :: u16 :: u17 :: u18 :: u19 :: u20 :: u21 :: u22 :: u23 :: u24 :: u25 :: [])[j]? := fun j hj => (Rg.get_put _ 18 _ j (by omega)).trans ((Rg.get_put _ 17 _ j (by omega)).trans ((kp j (nd j (by omega))).trans List.getElem?_toArray))
    obtain ⟨mid, hmid, hfr⟩ := Rg.frame_mid (a := (a.put (some 17) (.slice t1 t2 t3)).put (some 18) (.pointer (some ⟨b1, 2, none⟩))) (bl := (u0 :: u1 :: .pointer (some ⟨b1, 0, none⟩) :: .pointer (some ⟨b2, 0, none⟩) :: u4 :: u5 :: u6 :: u7 :: u8 :: u9 :: u10 :: u11 :: u12 :: u13 :: u14 :: u15 :: u16 :: u17 :: u18 :: u19 :: u20 :: u21 :: u22 :: u23 :: u24 :: u25 :: [])) 13 6 df (by simp [Rg.size_put, sz']) (by simp) kp2
    show Q .normal ((a.put (some 17) (.slice t1 t2 t3)).put (some 18) (.pointer (some ⟨b1, 2, none⟩))) _
    rw [hfr]
    match mid, hmid with
    | [v13, v14, v15, v16, v17, v18], _ =>
      exact HQ.out w1 _ _ _ _ _ _ s1 s2 s3 t1 t2 t3 B2 hown (of1.own hc (tag_own (Bk.own_on HO.out hb)) (by decide)) of2 ((hb.mono HB.out).trans hbel)
end Go.Proofs.YtonoadjmglkhaaaGreat.Av

namespace Go.Proofs.YtonoadjmglkhaaaGreat.Av
open Go.RowKit Go.Proofs.YtonoadjmglkhaaaGreat Go.Proofs.YtonoadjmglkhaaaGreat.Rw Go.Proofs.YtonoadjmglkhaaaGreat.Nm Go.Proofs.YtonoadjmglkhaaaGreat.Pr Go.Proofs.YtonoadjmglkhaaaGreat.Bk

theorem findI_none (l : List XID) (x : XID) (h : ∀ (j : Nat) (y : XID), l[j]? = some y → y ≠ x) : findI l x = -1 := by
  induction l with
  | nil => rfl
  | cons a l ih =>
    rw [findI, if_neg (h 0 a rfl), ih fun j y hj => h (j + 1) y (by simpa using hj), if_pos rfl]
theorem findI_at (l : List XID) (k : Nat) (x : XID) (h : l[k]? = some x) (hall : ∀ (j : Nat) (z : XID), j < k → l[j]? = some z → z ≠ x) : findI l x = k := by
  induction l generalizing k with
  | nil => simp at h
  | cons a l ih =>
    cases k with
    | zero =>
      obtain rfl : a = x := by simpa using h
      rw [findI, if_pos rfl]
      rfl
    | succ k =>
      have h2 := ih k (by simpa using h) fun j z hj hz => hall (j + 1) z (by omega) (by simpa using hz)
      rw [findI, if_neg (hall 0 a (by omega) rfl), h2, if_neg (by omega)]
      omega
theorem findI_in (l : List XID) (x : XID) : decide ((0 : Int) ≤ findI l x) = decide (x ∈ l) := by
  induction l with
  | nil => simp [findI]
  | cons a l ih =>
    have hb := findI_bd l x
    rw [findI]
    by_cases h : a = x
    · rw [if_pos h]; simp [h]
    · rw [if_neg h]
      have h' : ¬ x = a := fun e => h e.symm
      simp only [List.mem_cons, h', false_or]
      rw [← ih]
      by_cases h2 : findI l x = -1
      · rw [if_pos h2, h2]
      · rw [if_neg h2]
        have h3 : 0 ≤ findI l x := by omega
        have h4 : 0 ≤ findI l x + 1 := by omega
        simp [h3, h4]
set_option maxRecDepth 100000 in
set_option maxHeartbeats 8000000 in
theorem index_any (sv : Sl) (l : List XID) (x : XID) (w : World) (hs : RowJ w (slv sv) l) :
    Calls Tryz.prog 115 #[slv sv, idv x] w fun e w' => e = .returned (.int .i64 (findI l x)) ∧ Below w.heap.size w w' := by
  obtain ⟨c, d⟩ := x
  obtain ⟨so, sn, sc⟩ := sv
  obtain ⟨ao, ac, hv⟩ := hs.len
  have hv : Value.slice so sn sc = .slice ao l.length ac := hv
  obtain ⟨rfl, rfl, rfl⟩ : so = ao ∧ sn = l.length ∧ sc = ac := by simpa using hv
  have h0 := newB w (.cells #[.int .i64 c, .int .i64 d] 37)
  have h2 := box_new w #[.int .i64 c, .int .i64 d] 37
  have B := Lib.hid h0
  have HS := Lib.hid (hs.on h0)
  have X3 := Lib.hid h2
  have lm := hs.most
  unfold maxLen at lm
  obtain ⟨n, hn⟩ : ∃ n, n = l.length := ⟨_, rfl⟩
  rw [← hn] at HS lm ⊢
  have HN := Lib.hid hn.symm
  clear h0 h2 hs hv hn
  go_enter Tryz.func115, Tryz.ntmps115
  go_upto_region 1 with fail
  generalize w.alloc (.cells #[.int .i64 c, .int .i64 d] 37) = W at *
  go_wp2
  go_loopw [8] (fun i wr => ∃ k : Nat, k ≤ n ∧ i = .int .i64 k ∧ Below W.heap.size W wr ∧ ∀ (j : Nat) (y : XID), j < k → l[j]? = some y → y ≠ (c, d)) (fun i _ => n - (intOf i).toNat)
  case atStart => exact ⟨0, Nat.zero_le _, rfl, Below.refl _ _, fun j y h => by omega⟩
  case round =>
    obtain ⟨k, hk, rfl, hbe, hall⟩ := hrel
    have BE := Lib.hid hbe
    have AL := Lib.hid hall
    clear hbe hall
    by_cases hlt : k < n
    · obtain ⟨y, hy⟩ : ∃ y, l[k]? = some y := ⟨_, List.getElem?_eq_getElem (by rw [HN.out]; exact hlt)⟩
      obtain ⟨p, ix, px⟩ := elJ HS.out rfl HN.out hy
      have DD : Below W.heap.size W wr.drew := BE.out.drew
      obtain ⟨p0, p1⟩ := px wr BE.out
      obtain ⟨y1, y2⟩ := y
      simp only at p0 p1
      have x0 := (X3.out.on BE.out).cell 0
      have x1 := (X3.out.on BE.out).cell 1
      simp only [List.getElem?_toArray, List.getElem?_cons_zero, List.getElem?_cons_succ] at x0 x1
      have hw3 : IntKind.i64.wrap ((k : Int) + 1) = (k : Int) + 1 := IntWalk.i64_in _ (by omega)
      obtain ⟨r, hr⟩ : ∃ r, (c == y1 && d == y2) = r := ⟨_, rfl⟩
      have he := eqId c d y1 y2 r hr
      have DB := Lib.hid DD
      have HY := Lib.hid hy
      have HR := Lib.hid hr
      clear px hy hr DD
      cases r
      · go_wp2_with fail
        go_quiet (fail)
        go_wp2
        go_roundw
        case rel => exact ⟨k + 1, by omega, by go_num, ⟨BE.out.os, BE.out.tape, BE.out.output, BE.out.size, BE.out.block⟩, fun j y' hj h1 => by
          rcases Nat.lt_or_ge j k with h3 | h3
          · exact AL.out j y' h3 h1
          · obtain rfl : j = k := by omega
            have e1 := HY.out
            rw [h1] at e1
            rw [Option.some.inj e1]
            intro e
            obtain ⟨rfl, rfl⟩ : y1 = c ∧ y2 = d := by simpa using e
            have := HR.out
            simp at this⟩
        case measure => simp [intOf]; omega
      · go_wp2_with fail
        go_quiet (fail)
        go_wp2
        go_ret
        have h8 := HR.out
        obtain ⟨rfl, rfl⟩ : c = y1 ∧ d = y2 := by simpa using h8
        exact ⟨by rw [findI_at l k (c, d) HY.out AL.out]; rfl, B.out.trans (Below.mono ⟨BE.out.os, BE.out.tape, BE.out.output, BE.out.size, BE.out.block⟩ B.out.size)⟩
    · obtain rfl : k = n := by omega
      go_wp2
      go_ret
      have hd : findI l (c, d) = -1 := findI_none l (c, d) fun j y hj => AL.out j y (by rw [← HN.out]; exact (List.getElem?_eq_some_iff.1 hj).1) hj
      exact ⟨by rw [hd]; rfl, B.out.trans (BE.out.mono B.out.size)⟩
set_option maxRecDepth 100000 in
theorem contains_any (sv : Sl) (l : List XID) (x : XID) (w : World) (hs : RowJ w (slv sv) l) :
    Calls Tryz.prog 78 #[slv sv, idv x] w fun e w' => e = .returned (.bool (decide (x ∈ l))) ∧ Below w.heap.size w w' := by
  have h0 := newB w (.cells #[.int .i64 x.1, .int .i64 x.2] 37)
  have h2 := box_new w #[.int .i64 x.1, .int .i64 x.2] 37
  have C := index_any sv l x _ (hs.on h0)
  have R := Lib.hid (findI_in l x)
  obtain ⟨c, d⟩ := x
  obtain ⟨so, sn, sc⟩ := sv
  have B := Lib.hid h0
  have x0 := h2.cell 0
  have x1 := h2.cell 1
  simp only [List.getElem?_toArray, List.getElem?_cons_zero, List.getElem?_cons_succ] at x0 x1
  generalize findI l (c, d) = r at *
  generalize decide ((c, d) ∈ l) = s at *
  clear h0 h2 hs
  go_enter Tryz.func78, Tryz.ntmps78
  go_wp2_with fail
  refine C.mono ?_
  rintro e w1 ⟨rfl, hb⟩
  go_wp2
  go_ret
  exact ⟨by have h := R.out; subst h; rfl, B.out.trans (hb.mono B.out.size)⟩
set_option maxRecDepth 100000 in
theorem aseen_any (me : Int) (nv av ev ov : Value) (sv : Sl) (l : List XID) (x : XID) (w : World) (hs : RowJ w (slv sv) l) :
    Calls Tryz.prog 28 #[.agg #[.int .i64 me, nv, av, slv sv, ev, ov], idv x] w fun e w' => e = .returned (.bool (decide (x ∈ l))) ∧ Below w.heap.size w w' := by
  obtain ⟨h0, h1, h2⟩ := two_new w #[.int .i64 me, nv, av, slv sv, ev, ov] #[.int .i64 x.1, .int .i64 x.2] 29 37
  have C := contains_any sv l x _ (hs.on h0)
  obtain ⟨c, d⟩ := x
  obtain ⟨so, sn, sc⟩ := sv
  have B := Lib.hid h0
  have b3 := h1.cell 3
  have x0 := h2.cell 0
  have x1 := h2.cell 1
  simp only [List.getElem?_toArray, List.getElem?_cons_zero, List.getElem?_cons_succ] at x0 x1 b3
  generalize decide ((c, d) ∈ l) = s at *
  clear h0 h1 h2 hs
  go_enter Tryz.func28, Tryz.ntmps28
  go_wp2_with fail
  refine C.mono ?_
  rintro e w1 ⟨rfl, hb⟩
  go_wp2
  go_ret
  exact ⟨rfl, B.out.trans (hb.mono B.out.size)⟩
end Go.Proofs.YtonoadjmglkhaaaGreat.Av
