/-
  GraphNear's last region: the answers known of as memory grows. Conditions: as the theorem states them.
-/
import Derived.Test.YtbnfndcbhnjnaaaDoorGsBase
import Derived.Test.YtbnfndcbhnjnaaaDoorGsNearP
import Derived.Test.YtbnfndcbhnjnaaaDoorBj
namespace Go.Proofs.YtbnfndcbhnjnaaaDoor.Gr
open Go.RowKit Go.Sort Go.Proofs.YtbnfndcbhnjnaaaDoor Go.Proofs.YtbnfndcbhnjnaaaDoor.Rw

theorem boxG_cells {W w' : World} {b : Nat} {n : Int} {v : Value} (h : Box W b #[.int .i64 n, v] 25) (hb : Below W.heap.size W w') : w'.cell? ⟨b, 0, none⟩ = some (.int .i64 n) ∧ w'.cell? ⟨b, 1, none⟩ = some v := ⟨(h.on hb).cell 0, (h.on hb).cell 1⟩
theorem ways_at {W : World} {n : Int} {vo : Option Addr} {m vc sb : Nat} {l ls : List Lk} (hl : RowK W (.slice vo m vc) ls) (hr : RightG n l) (hs : SameG n l ls) (hsb : sb = 2 * l.length) (w' : World) (hb : Below W.heap.size W w') :
    Calls Tryd.prog 12 #[gv n (.slice vo m vc)] w' fun e w'' => (∃ go gc r, e = .returned (.slice go sb gc) ∧ RowK w'' (.slice go sb gc) r ∧ WaysIs l r) ∧ Below W.heap.size W w'' ∧ Below w'.heap.size w' w'' :=
  (ways_ok n _ ls w' (hl.on hb) ⟨hs.right.ok, hs.right.simp⟩ (by have := hs.right.few; omega)).mono fun _ _ ⟨⟨v, r, h1, h2, h3⟩, h4⟩ => by
    have h5 : WaysIs l r := ⟨h3.1, fun p => (h3.2 p).trans (hs.adj _ _)⟩
    have h6 := Row.of_own h2
    obtain ⟨go, gc, rfl⟩ := h6.len
    have e : r.length = sb := by rw [h5.len hr.simp, hsb]
    rw [e] at h1 h6
    exact ⟨⟨go, gc, r, h1, h6, h5⟩, hb.trans (h4.mono hb.size), h4⟩
theorem check_at {W : World} {n : Int} {v : Value} {l : List Lk} (hl : RowK W v l) (hr : RightG n l) (w' : World) (hb : Below W.heap.size W w') :
    Calls Tryd.prog 9 #[gv n v] w' fun e w'' => e = .returned .nilIface ∧ Below W.heap.size W w'' ∧ Below w'.heap.size w' w'' := (check_nil (hl.on hb) hr).mono fun _ _ h => ⟨h.1, hb.trans (h.2.mono hb.size), h.2⟩
theorem runs_at {W : World} (hg : GE W) (w' : World) (hb : Below W.heap.size W w') :
    Calls Tryd.prog 3 #[] w' fun e w'' => e = .returned (.bool true) ∧ Below W.heap.size W w'' ∧ Below w'.heap.size w' w'' := (runs_any w' (hg.on hb).eg).mono fun _ _ h => ⟨h.1, hb.trans (h.2.mono hb.size), h.2⟩
theorem call_ways (args : Array Value) (w : World) : (callFunc 12 args).run Tryd.prog w = .ok (.enter 12 args) w := call_fn Tryd.func12 rfl rfl args w
theorem call_check (args : Array Value) (w : World) : (callFunc 9 args).run Tryd.prog w = .ok (.enter 9 args) w := call_fn Tryd.func9 rfl rfl args w
theorem call_sameK (args : Array Value) (w : World) : (callFunc 24 args).run Tryd.prog w = .ok (.enter 24 args) w := call_fn Tryd.func24 rfl rfl args w
theorem call_runs (args : Array Value) (w : World) : (callFunc 3 args).run Tryd.prog w = .ok (.enter 3 args) w := call_fn Tryd.func3 rfl rfl args w
noncomputable def nearR25 : Code := ((Tryd.f8.body.bind (findRegion 25)).getD .skip)
set_option maxRecDepth 100000 in
set_option maxHeartbeats 8000000 in
theorem near_r25 (Q : Exit → Act → World → Prop) (W : World) (gb ob sb : Nat) (n : Int) (l ls : List Lk) (lo vo : Option Addr) (m lc vc : Nat) (u0 u1 u2 u3 u4 u7 u8 u9 u11 u12 u13 u14 u15 u16 u17 u18 u19 u20 u21 u22 u23 u24 u25 u26 u27 u28 u29 u30 u31 u32 u33 u34 u35 u36 u37 u38 u39 u40 u41 u42 u43 u44 u45 u46 u47 u48 u49 u50 u51 u52 u53 u54 u55 u56 u57 u58 u59 u60 u61 u62 u63 u64 u65 u66 u67 u68 u69 u70 u71 u72 u73 u74 u75 u76 u77 u78 u79 u80 u81 u82 u83 u84 u85 u86 u87 u88 u89 u90 u91 u92 u93 u94 u95 u96 u97 u98 u99 u100 u101 u102 u103 u104 u105 u106 u107 u108 u109 u110 u111 u112 u113 u114 u115 u116 u117 u118 u119 u120 u121 u122 u123 u124 u125 u126 u127 u128 u129 u130 u131 u132 u133 u134 u135 u136 : Value)
    (hx : Box W gb #[.int .i64 n, .slice lo m lc] 25) (hy : Box W ob #[.int .i64 n, .slice vo m vc] 25) (hr : RowK W (.slice lo m lc) l) (hq : RowK W (.slice vo m vc) ls) (hri : RightG n l) (hsm : SameG n l ls) (hg : GE W) (hsb : sb = 2 * l.length)
    (hQ : ∀ (a : Act) (w' : World), a.defers = [] → a.tmps[4]? = some (.bool true) → Below W.heap.size W w' → Q .normal a w') :
    Code.wp Tryd.prog nearR25 Q ⟨(u0 :: u1 :: u2 :: u3 :: u4 :: .pointer (some ⟨gb, 0, none⟩) :: .pointer (some ⟨ob, 0, none⟩) :: u7 :: u8 :: u9 :: .int .i64 sb :: u11 :: u12 :: u13 :: u14 :: u15 :: u16 :: u17 :: u18 :: u19 :: u20 :: u21 :: u22 :: u23 :: u24 :: u25 :: u26 :: u27 :: u28 :: u29 :: u30 :: u31 :: u32 :: u33 :: u34 :: u35 :: u36 :: u37 :: u38 :: u39 :: u40 :: u41 :: u42 :: u43 :: u44 :: u45 :: u46 :: u47 :: u48 :: u49 :: u50 :: u51 :: u52 :: u53 :: u54 :: u55 :: u56 :: u57 :: u58 :: u59 :: u60 :: u61 :: u62 :: u63 :: u64 :: u65 :: u66 :: u67 :: u68 :: u69 :: u70 :: u71 :: u72 :: u73 :: u74 :: u75 :: u76 :: u77 :: u78 :: u79 :: u80 :: u81 :: u82 :: u83 :: u84 :: u85 :: u86 :: u87 :: u88 :: u89 :: u90 :: u91 :: u92 :: u93 :: u94 :: u95 :: u96 :: u97 :: u98 :: u99 :: u100 :: u101 :: u102 :: u103 :: u104 :: u105 :: u106 :: u107 :: u108 :: u109 :: u110 :: u111 :: u112 :: u113 :: u114 :: u115 :: u116 :: u117 :: u118 :: u119 :: u120 :: u121 :: u122 :: u123 :: u124 :: u125 :: u126 :: u127 :: u128 :: u129 :: u130 :: u131 :: u132 :: u133 :: u134 :: u135 :: u136 :: []).toArray, []⟩ W := by
  have HQ := Lib.hid hQ
  have CE := Lib.hid (fun (w' : World) (hb : Below W.heap.size W w') => And.intro (boxG_cells hx hb) (boxG_cells hy hb))
  have WG := Lib.hid (ways_at hr hri (SameG.refl hri) hsb)
  have WO := Lib.hid (ways_at hq hri hsm hsb)
  have CC := Lib.hid (check_at hq hsm.right)
  have RU := Lib.hid (runs_at hg)
  have hn := @run_eql_nil_nil
  have hsi := hri.simp
  have hfew := hri.few
  clear hQ hx hy hr hq hri hsm hg
  obtain ⟨dst, hdd⟩ : ∃ d : Nat → Nat, d = fun i => if i = 20 then 4 else 117 + i := ⟨_, rfl⟩
  obtain ⟨eqv, hev⟩ : ∃ e : Nat → Option Value, e = fun i => ([some (gv n (.slice vo m vc)), some (.nilIface), some (.bool true), some (.bool true), some (gv n (.slice vo m vc)), none, some (gv n (.slice lo m lc)), none, some (.bool true), some (.bool true), some (.bool true), some (.int .i64 sb), some (gv n (.slice lo m lc)), none, some (.int .i64 sb), some (.bool true), some (.bool true), some (.bool true), some (.bool true), some (.bool true), some (.bool true)] : List (Option Value)).getD i none := ⟨_, rfl⟩
  change Code.wp Tryd.prog nearR25 Q ⟨_, []⟩ W
  unfold nearR25
  conv => arg 2; whnf
  refine Rg.region_rel 21 dst (fun i v w => (i = 5 ∨ i = 7 ∨ i = 13 → ∃ go gc r, v = .slice go sb gc ∧ RowK w v r ∧ WaysIs l r) ∧ ∀ u, eqv i = some u → v = u) (by kernel_rfl) (by kernel_rfl) rfl ?_ ?_ ?_ ?_ ?_ ?_
  · subst hdd
    intro i o ho
    have hi := (List.getElem?_eq_some_iff.1 ho).1
    have hi : i < 21 := hi
    rcases (by omega : i = 0 ∨ i = 1 ∨ i = 2 ∨ i = 3 ∨ i = 4 ∨ i = 5 ∨ i = 6 ∨ i = 7 ∨ i = 8 ∨ i = 9 ∨ i = 10 ∨ i = 11 ∨ i = 12 ∨ i = 13 ∨ i = 14 ∨ i = 15 ∨ i = 16 ∨ i = 17 ∨ i = 18 ∨ i = 19 ∨ i = 20) with rfl | rfl | rfl | rfl | rfl | rfl | rfl | rfl | rfl | rfl | rfl | rfl | rfl | rfl | rfl | rfl | rfl | rfl | rfl | rfl | rfl <;> (obtain rfl := Option.some.inj ho; rfl)
  · subst hdd
    intro i j hi hj h
    simp only at h
    split at h <;> split at h <;> omega
  · subst hdd
    intro i hi
    show (if i = 20 then 4 else 117 + i) < 137
    split <;> omega
  · intro i v w' w'' h hb
    refine ⟨fun hi => ?_, h.2⟩
    obtain ⟨go, gc, r, rfl, h1, h2⟩ := h.1 hi
    exact ⟨go, gc, r, rfl, h1.on hb, h2⟩
  · subst hdd
    subst hev
    intro i o hi ho a w' hb seen K hK
    clear HQ
    have u5e : a.eval (.tmp 5) = .pointer (some ⟨gb, 0, none⟩) := seen.kp 5 _ (fun i hi => by show (if i = 20 then 4 else 117 + i) ≠ 5; split <;> omega) rfl
    have u6e : a.eval (.tmp 6) = .pointer (some ⟨ob, 0, none⟩) := seen.kp 6 _ (fun i hi => by show (if i = 20 then 4 else 117 + i) ≠ 6; split <;> omega) rfl
    have u10e : a.eval (.tmp 10) = .int .i64 sb := seen.kp 10 _ (fun i hi => by show (if i = 20 then 4 else 117 + i) ≠ 10; split <;> omega) rfl
    rcases (by omega : i = 0 ∨ i = 1 ∨ i = 2 ∨ i = 3 ∨ i = 4 ∨ i = 5 ∨ i = 6 ∨ i = 7 ∨ i = 8 ∨ i = 9 ∨ i = 10 ∨ i = 11 ∨ i = 12 ∨ i = 13 ∨ i = 14 ∨ i = 15 ∨ i = 16 ∨ i = 17 ∨ i = 18 ∨ i = 19 ∨ i = 20) with rfl | rfl | rfl | rfl | rfl | rfl | rfl | rfl | rfl | rfl | rfl | rfl | rfl | rfl | rfl | rfl | rfl | rfl | rfl | rfl | rfl
    · obtain rfl := Option.some.inj ho
      obtain ⟨⟨g0, g1⟩, o0, o1⟩ := CE.out w' hb
      exact Rg.op_value_w rfl (Rg.wanted_none rfl) (Rg.ex_load a.eval _ 25 (.tmp 6) rfl (by rw [u6e]; simp [go_sem, o0, o1])) (hK _ _ ⟨fun h => by omega, fun u hu => Option.some.inj hu⟩ (Below.refl _ _))
    · obtain rfl := Option.some.inj ho
      have e0 : a.eval (.tmp 117) = gv n (.slice vo m vc) := (seen.at_ ⟨0, .data⟩ (by simp) rfl).2 _ rfl
      refine Rg.op_call_w rfl (Rg.wanted_none rfl) (ex_call1 _ _ (.tmp 117) 25 9 rfl e0 rfl _ (call_check _ _)) (CC.out _ hb) ?_
      rintro e z ⟨rfl, _, hz⟩
      exact ⟨_, rfl, hK _ _ ⟨fun h => by omega, fun u hu => Option.some.inj hu⟩ hz⟩
    · obtain rfl := Option.some.inj ho
      have e0 : a.eval (.tmp 118) = .nilIface := (seen.at_ ⟨1, .data⟩ (by simp) rfl).2 _ rfl
      exact Rg.op_value_w rfl (Rg.wanted_none rfl) (Rg.ex_bin a.eval _ .eql 27 (.tmp 118) (.const .nilIface) 27 rfl (by rw [e0]; show (do eqGuard .eql 27 (.tmp 118) (.const .nilIface) .nilIface .nilIface; binOp .eql 27 .nilIface .nilIface : Sem Value).run Tryd.prog _ = _; simp [go_sem, hn])) (hK _ _ ⟨fun h => by omega, fun u hu => Option.some.inj hu⟩ (Below.refl _ _))
    · obtain rfl := Option.some.inj ho
      have e0 : a.eval (.tmp 119) = .bool true := (seen.at_ ⟨2, .data⟩ (by simp) rfl).2 _ rfl
      exact Rg.op_value_w rfl (Rg.wanted_none rfl) (by simp [execOp, e0]) (hK _ _ ⟨fun h => by omega, fun u hu => Option.some.inj hu⟩ (Below.refl _ _))
    · obtain rfl := Option.some.inj ho
      have hgd : a.eval (.tmp 120) = .bool true := (seen.at_ ⟨3, .guard⟩ (by simp) rfl).2 _ rfl
      have hgt := seen.got ⟨3, .guard⟩ (by simp) rfl
      have hgt : a.tmps[120]? = some (a.eval (.tmp 120)) := hgt
      rw [hgd] at hgt
      obtain ⟨⟨g0, g1⟩, o0, o1⟩ := CE.out w' hb
      exact Rg.op_value_w rfl (Rg.wanted_of rfl rfl rfl hgt) (Rg.ex_load a.eval _ 25 (.tmp 6) rfl (by rw [u6e]; simp [go_sem, o0, o1])) (hK _ _ ⟨fun h => by omega, fun u hu => Option.some.inj hu⟩ (Below.refl _ _))
    · obtain rfl := Option.some.inj ho
      have hgd : a.eval (.tmp 120) = .bool true := (seen.at_ ⟨3, .guard⟩ (by simp) rfl).2 _ rfl
      have hgt := seen.got ⟨3, .guard⟩ (by simp) rfl
      have hgt : a.tmps[120]? = some (a.eval (.tmp 120)) := hgt
      rw [hgd] at hgt
      have e0 : a.eval (.tmp 121) = gv n (.slice vo m vc) := (seen.at_ ⟨4, .data⟩ (by simp) rfl).2 _ rfl
      refine Rg.op_call_w rfl (Rg.wanted_of rfl rfl rfl hgt) (ex_call1 _ _ (.tmp 121) 25 12 rfl e0 rfl _ (call_ways _ _)) (WO.out _ hb) ?_
      rintro e z ⟨⟨go, gc, r, rfl, hr, hw⟩, _, hz⟩
      exact ⟨_, rfl, hK _ _ ⟨fun _ => ⟨go, gc, r, rfl, hr, hw⟩, fun u hu => (by cases hu)⟩ hz⟩
    · obtain rfl := Option.some.inj ho
      have hgd : a.eval (.tmp 120) = .bool true := (seen.at_ ⟨3, .guard⟩ (by simp) rfl).2 _ rfl
      have hgt := seen.got ⟨3, .guard⟩ (by simp) rfl
      have hgt : a.tmps[120]? = some (a.eval (.tmp 120)) := hgt
      rw [hgd] at hgt
      obtain ⟨⟨g0, g1⟩, o0, o1⟩ := CE.out w' hb
      exact Rg.op_value_w rfl (Rg.wanted_of rfl rfl rfl hgt) (Rg.ex_load a.eval _ 25 (.tmp 5) rfl (by rw [u5e]; simp [go_sem, g0, g1])) (hK _ _ ⟨fun h => by omega, fun u hu => Option.some.inj hu⟩ (Below.refl _ _))
    · obtain rfl := Option.some.inj ho
      have hgd : a.eval (.tmp 120) = .bool true := (seen.at_ ⟨3, .guard⟩ (by simp) rfl).2 _ rfl
      have hgt := seen.got ⟨3, .guard⟩ (by simp) rfl
      have hgt : a.tmps[120]? = some (a.eval (.tmp 120)) := hgt
      rw [hgd] at hgt
      have e0 : a.eval (.tmp 123) = gv n (.slice lo m lc) := (seen.at_ ⟨6, .data⟩ (by simp) rfl).2 _ rfl
      refine Rg.op_call_w rfl (Rg.wanted_of rfl rfl rfl hgt) (ex_call1 _ _ (.tmp 123) 25 12 rfl e0 rfl _ (call_ways _ _)) (WG.out _ hb) ?_
      rintro e z ⟨⟨go, gc, r, rfl, hr, hw⟩, _, hz⟩
      exact ⟨_, rfl, hK _ _ ⟨fun _ => ⟨go, gc, r, rfl, hr, hw⟩, fun u hu => (by cases hu)⟩ hz⟩
    · obtain rfl := Option.some.inj ho
      have hgd : a.eval (.tmp 120) = .bool true := (seen.at_ ⟨3, .guard⟩ (by simp) rfl).2 _ rfl
      have hgt := seen.got ⟨3, .guard⟩ (by simp) rfl
      have hgt : a.tmps[120]? = some (a.eval (.tmp 120)) := hgt
      rw [hgd] at hgt
      have e0 := seen.at_ ⟨5, .data⟩ (by simp) rfl
      have e1 := seen.at_ ⟨7, .data⟩ (by simp) rfl
      obtain ⟨go1, gc1, r1, h1, q1, w1⟩ := e0.1 (Or.inl rfl)
      obtain ⟨go2, gc2, r2, h2, q2, w2⟩ := e1.1 (Or.inr (Or.inl rfl))
      have h1 : a.eval (.tmp 122) = _ := h1
      have h2 : a.eval (.tmp 124) = _ := h2
      obtain rfl := w1.uniq w2 (fun _ _ => Iff.rfl)
      have hq1 : RowK w' (.slice go1 sb gc1) r1 := by rw [← h1]; exact q1
      have hq2 : RowK w' (.slice go2 sb gc2) r1 := by rw [← h2]; exact q2
      refine Rg.op_call_w rfl (Rg.wanted_of rfl rfl rfl hgt) (ex_call2 _ _ (.tmp 122) (.tmp 124) 23 23 24 rfl h1 h2 rfl _ (call_sameK _ _)) (sameK_any _ _ r1 w' hq1 hq2 (by have := hq1.most; have := w1.len hsi; omega)) ?_
      rintro e z ⟨rfl, hz⟩
      exact ⟨_, rfl, hK _ _ ⟨fun h => by omega, fun u hu => Option.some.inj hu⟩ hz⟩
    · obtain rfl := Option.some.inj ho
      have e0 : a.eval (.tmp 120) = .bool true := (seen.at_ ⟨3, .data⟩ (by simp) rfl).2 _ rfl
      have e1 : a.eval (.tmp 125) = .bool true := (seen.at_ ⟨8, .data⟩ (by simp) rfl).2 _ rfl
      exact Rg.op_value_w rfl (Rg.wanted_none rfl) (Rg.ex_pick_t a.eval _ (.tmp 120) (.tmp 125) (.const (.bool false)) rfl e0 e1 w') (hK _ _ ⟨fun h => by omega, fun u hu => Option.some.inj hu⟩ (Below.refl _ _))
    · obtain rfl := Option.some.inj ho
      have e0 : a.eval (.tmp 126) = .bool true := (seen.at_ ⟨9, .data⟩ (by simp) rfl).2 _ rfl
      exact Rg.op_value_w rfl (Rg.wanted_none rfl) (by simp [execOp, e0]) (hK _ _ ⟨fun h => by omega, fun u hu => Option.some.inj hu⟩ (Below.refl _ _))
    · obtain rfl := Option.some.inj ho
      have hgd : a.eval (.tmp 127) = .bool true := (seen.at_ ⟨10, .guard⟩ (by simp) rfl).2 _ rfl
      have hgt := seen.got ⟨10, .guard⟩ (by simp) rfl
      have hgt : a.tmps[127]? = some (a.eval (.tmp 127)) := hgt
      rw [hgd] at hgt
      exact Rg.op_value_w rfl (Rg.wanted_of rfl rfl rfl hgt) (by simp [execOp, u10e]) (hK _ _ ⟨fun h => by omega, fun u hu => Option.some.inj hu⟩ (Below.refl _ _))
    · obtain rfl := Option.some.inj ho
      have hgd : a.eval (.tmp 127) = .bool true := (seen.at_ ⟨10, .guard⟩ (by simp) rfl).2 _ rfl
      have hgt := seen.got ⟨10, .guard⟩ (by simp) rfl
      have hgt : a.tmps[127]? = some (a.eval (.tmp 127)) := hgt
      rw [hgd] at hgt
      obtain ⟨⟨g0, g1⟩, o0, o1⟩ := CE.out w' hb
      exact Rg.op_value_w rfl (Rg.wanted_of rfl rfl rfl hgt) (Rg.ex_load a.eval _ 25 (.tmp 5) rfl (by rw [u5e]; simp [go_sem, g0, g1])) (hK _ _ ⟨fun h => by omega, fun u hu => Option.some.inj hu⟩ (Below.refl _ _))
    · obtain rfl := Option.some.inj ho
      have hgd : a.eval (.tmp 127) = .bool true := (seen.at_ ⟨10, .guard⟩ (by simp) rfl).2 _ rfl
      have hgt := seen.got ⟨10, .guard⟩ (by simp) rfl
      have hgt : a.tmps[127]? = some (a.eval (.tmp 127)) := hgt
      rw [hgd] at hgt
      have e0 : a.eval (.tmp 129) = gv n (.slice lo m lc) := (seen.at_ ⟨12, .data⟩ (by simp) rfl).2 _ rfl
      refine Rg.op_call_w rfl (Rg.wanted_of rfl rfl rfl hgt) (ex_call1 _ _ (.tmp 129) 25 12 rfl e0 rfl _ (call_ways _ _)) (WG.out _ hb) ?_
      rintro e z ⟨⟨go, gc, r, rfl, hr, hw⟩, _, hz⟩
      exact ⟨_, rfl, hK _ _ ⟨fun _ => ⟨go, gc, r, rfl, hr, hw⟩, fun u hu => (by cases hu)⟩ hz⟩
    · obtain rfl := Option.some.inj ho
      have hgd : a.eval (.tmp 127) = .bool true := (seen.at_ ⟨10, .guard⟩ (by simp) rfl).2 _ rfl
      have hgt := seen.got ⟨10, .guard⟩ (by simp) rfl
      have hgt : a.tmps[127]? = some (a.eval (.tmp 127)) := hgt
      rw [hgd] at hgt
      have e0 := seen.at_ ⟨13, .data⟩ (by simp) rfl
      obtain ⟨go1, gc1, r1, h1, q1, w1⟩ := e0.1 (Or.inr (Or.inr rfl))
      have h1 : a.eval (.tmp 130) = _ := h1
      exact Rg.op_value_w rfl (Rg.wanted_of rfl rfl rfl hgt) (Rg.ex_len a.eval _ (.tmp 130) 23 rfl h1 (by simp [go_sem, Tryd.underlying23])) (hK _ _ ⟨fun h => by omega, fun u hu => Option.some.inj hu⟩ (Below.refl _ _))
    · obtain rfl := Option.some.inj ho
      have hgd : a.eval (.tmp 127) = .bool true := (seen.at_ ⟨10, .guard⟩ (by simp) rfl).2 _ rfl
      have hgt := seen.got ⟨10, .guard⟩ (by simp) rfl
      have hgt : a.tmps[127]? = some (a.eval (.tmp 127)) := hgt
      rw [hgd] at hgt
      have e0 : a.eval (.tmp 128) = .int .i64 sb := (seen.at_ ⟨11, .data⟩ (by simp) rfl).2 _ rfl
      have e1 : a.eval (.tmp 131) = .int .i64 sb := (seen.at_ ⟨14, .data⟩ (by simp) rfl).2 _ rfl
      exact Rg.op_value_w rfl (Rg.wanted_of rfl rfl rfl hgt) (Rg.ex_bin a.eval _ .eql 3 (.tmp 128) (.tmp 131) 3 rfl (by rw [e0, e1]; simp [go_sem])) (hK _ _ ⟨fun h => by omega, fun u hu => Option.some.inj hu⟩ (Below.refl _ _))
    · obtain rfl := Option.some.inj ho
      have e0 : a.eval (.tmp 127) = .bool true := (seen.at_ ⟨10, .data⟩ (by simp) rfl).2 _ rfl
      have e1 : a.eval (.tmp 132) = .bool true := (seen.at_ ⟨15, .data⟩ (by simp) rfl).2 _ rfl
      exact Rg.op_value_w rfl (Rg.wanted_none rfl) (Rg.ex_pick_t a.eval _ (.tmp 127) (.tmp 132) (.const (.bool false)) rfl e0 e1 w') (hK _ _ ⟨fun h => by omega, fun u hu => Option.some.inj hu⟩ (Below.refl _ _))
    · obtain rfl := Option.some.inj ho
      have e0 : a.eval (.tmp 133) = .bool true := (seen.at_ ⟨16, .data⟩ (by simp) rfl).2 _ rfl
      exact Rg.op_value_w rfl (Rg.wanted_none rfl) (by simp [execOp, e0]) (hK _ _ ⟨fun h => by omega, fun u hu => Option.some.inj hu⟩ (Below.refl _ _))
    · obtain rfl := Option.some.inj ho
      have hgd : a.eval (.tmp 134) = .bool true := (seen.at_ ⟨17, .guard⟩ (by simp) rfl).2 _ rfl
      have hgt := seen.got ⟨17, .guard⟩ (by simp) rfl
      have hgt : a.tmps[134]? = some (a.eval (.tmp 134)) := hgt
      rw [hgd] at hgt
      refine Rg.op_call_w rfl (Rg.wanted_of rfl rfl rfl hgt) (Rg.ex_call0 _ _ 3 rfl rfl _ (call_runs _ _)) (RU.out _ hb) ?_
      rintro e z ⟨rfl, _, hz⟩
      exact ⟨_, rfl, hK _ _ ⟨fun h => by omega, fun u hu => Option.some.inj hu⟩ hz⟩
    · obtain rfl := Option.some.inj ho
      have e0 : a.eval (.tmp 134) = .bool true := (seen.at_ ⟨17, .data⟩ (by simp) rfl).2 _ rfl
      have e1 : a.eval (.tmp 135) = .bool true := (seen.at_ ⟨18, .data⟩ (by simp) rfl).2 _ rfl
      exact Rg.op_value_w rfl (Rg.wanted_none rfl) (Rg.ex_pick_t a.eval _ (.tmp 134) (.tmp 135) (.const (.bool false)) rfl e0 e1 w') (hK _ _ ⟨fun h => by omega, fun u hu => Option.some.inj hu⟩ (Below.refl _ _))
    · obtain rfl := Option.some.inj ho
      have e0 : a.eval (.tmp 136) = .bool true := (seen.at_ ⟨19, .data⟩ (by simp) rfl).2 _ rfl
      exact Rg.op_value_w rfl (Rg.wanted_none rfl) (by simp [execOp, e0]) (hK _ _ ⟨fun h => by omega, fun u hu => Option.some.inj hu⟩ (Below.refl _ _))
  · intro a w' h1 _ _ h4 hb
    obtain ⟨v, q1, q2⟩ := h4 20 (by omega)
    subst hdd
    subst hev
    obtain rfl := q2.2 (.bool true) rfl
    exact HQ.out a w' h1 q1 hb
end Go.Proofs.YtbnfndcbhnjnaaaDoor.Gr
