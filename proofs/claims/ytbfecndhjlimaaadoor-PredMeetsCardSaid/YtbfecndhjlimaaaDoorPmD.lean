/-
  The law PredMeets: its loop over four values. Condition: the contracts of package pred; at most four constraints.
-/
import Derived.Test.YtbfecndhjlimaaaDoorPmC
import Derived.Test.YtbfecndhjlimaaaDoorPnBs2
namespace Go.Proofs.YtbfecndhjlimaaaDoor.Pr
open Go.RowKit Go.Sort Go.Proofs.YtbfecndhjlimaaaDoor Go.Proofs.YtbfecndhjlimaaaDoor.Pu Go.Proofs.YtbfecndhjlimaaaDoor.Rw Go.Proofs.YtbfecndhjlimaaaDoor.Va Go.Proofs.YtbfecndhjlimaaaDoor.Kp Go.Proofs.YtbfecndhjlimaaaDoor.In

def cellsV3 (v : V3) : List Value := [.bool v.1, .int .i64 v.2.1, .string v.2.2]
def EV : Ek V3 := ⟨48, 59, 3, 32, .agg #[.bool false, .int .i64 0, .string ⟨#[]⟩], fun v => vl v.1 v.2.1 v.2.2, cellsV3⟩
theorem infoV0 : (Tryd.prog.info? 48).map (fun i => (i.zero, i.size, i.bytes)) = some (some (.agg #[.bool false, .int .i64 0, .string ⟨#[]⟩]), 3, 32) := by kernel_rfl
theorem load_runV (w : World) (p : Addr) (c : V3) (h : ∀ j u, (cellsV3 c)[j]? = some u → w.cell? (p.add j) = some u) : (Instr.loadAt 48 (.pointer (some p))).run Tryd.prog w = .ok (vl c.1 c.2.1 c.2.2) w := by
  have h0 := h 0 _ rfl
  have h1 := h 1 _ rfl
  have h2 := h 2 _ rfl
  simp [Addr.add] at h0 h1 h2
  simp [go_sem, h0, h1, h2]
theorem okV : EV.Ok where
  hu := Tryd.underlying59
  info := by
    have h := infoV0
    cases hi : Tryd.prog.info? 48 with
    | none => rw [hi] at h; cases h
    | some i =>
      rw [hi] at h
      simp only [Option.map_some, Option.some.injEq, Prod.mk.injEq] at h
      exact ⟨i, hi, h.1, h.2.1, h.2.2⟩
  zs := rfl
  len := fun _ => rfl
  one := fun x u hu => by
    simp only [EV, cellsV3, List.mem_cons, List.not_mem_nil, or_false] at hu
    rcases hu with rfl | rfl | rfl <;> rfl
  pos := by decide
  few := by decide
  load := fun w p x h => load_runV w p x h
/-- Where a value lies, and its cells. -/
theorem elV {W : World} {l : List V3} {ao : Option Addr} {n c k : Nat} {x : V3} (h : Row EV W (.slice ao n c) l) (hn : l.length = n) (hk : l[k]? = some x) :
    ∃ p : Addr, (∀ w, (Instr.indexAt 59 (.slice ao n c) (.int .i64 k)).run Tryd.prog w = .ok (.pointer (some p)) w) ∧ ∀ w, Below W.heap.size W w →
      w.cell? p = some (.bool x.1) ∧ w.cell? ⟨p.block, p.off + 1, none⟩ = some (.int .i64 x.2.1) ∧ w.cell? ⟨p.block, p.off + 2, none⟩ = some (.string x.2.2) := by
  obtain ⟨p, h1, _, h2⟩ := row_el okV h rfl hn hk
  refine ⟨p, h1, fun w hw => ?_⟩
  have h0 := h2 w hw 0 _ rfl
  rw [add_zero] at h0
  have g : ∀ j u, j ≠ 0 → (EV.cells x)[j]? = some u → w.cell? ⟨p.block, p.off + j, none⟩ = some u := fun j u hj hu => by
    rw [← add_pos p j hj]; exact h2 w hw j u hu
  exact ⟨h0, g 1 _ (by decide) rfl, g 2 _ (by decide) rfl⟩
theorem holdsM_re (c : Cn) (t : Bool) (m : Int) (s : ByteArray) (r : Bool) (hr : holdsK c.2 (t, m, s) = r) (w : World) (d : Nat) (os : Array Obj) :
    Calls Tryd.prog 20 #[cv (r5 c), vl t m s] (grow (redrawn w d) os) fun e w'' => e = .returned (.bool r) ∧ ∃ p : Regrown, w'' = grow (redrawn w p.d) p.os := by
  subst hr
  exact Calls.regrown_of (holds_any c t m s _)

set_option maxRecDepth 100000 in
set_option maxHeartbeats 4000000 in
theorem meet_loop3_nil (Q : Exit → Act → World → Prop) (W : World) (lo : Option Addr) (lc n : Nat) (l : List Cn) (hn : n = l.length) (h4 : n ≤ 4) (hl : RowC W (.slice lo n lc) (l.map r5)) (pv : Value) (vb : Nat) (vs : List V3) (hv4 : vs.length = 4) (hvs : Row EV W (.slice (some ⟨vb, 0, none⟩) 4 4) vs) (h0 : n = 0) (u0 u1 u2 u3 u4 u5 u6 u8 u9 u10 u11 u13 u14 u15 u16 u17 u18 u19 u20 u21 u22 u23 u24 u25 u26 u27 u28 u29 u30 u31 u32 u33 u34 u35 u36 u37 u38 u39 u40 u41 u42 u43 u44 u45 u46 u47 u48 u49 u50 u51 u52 u53 u54 u55 u56 u57 u58 u59 u60 u61 u62 u63 u64 u65 u66 u67 u68 u69 u70 u71 u72 u73 u74 u75 u76 u77 u78 u79 u80 u81 u82 u83 u84 u85 u86 u87 u88 u89 u90 u91 u92 u93 u94 u95 u96 u97 u98 u99 u100 u101 u102 u103 u104 u105 u106 u107 u108 u109 u110 u111 u112 u113 u117 u118 u119 u120 u121 u122 u123 u124 u125 u126 u127 u128 u129 u130 u131 u132 u133 u134 u135 u136 u137 u138 u139 u140 u141 u142 u143 u144 u145 u146 u147 u148 u149 u150 u151 u152 u153 u154 : Value)
    (hQ : ∀ (w' : World) (u6 u17 u18 u20 u116 u117 u118 u119 u120 u121 u122 u123 u124 u125 u126 u127 u128 u129 u130 u131 u132 u133 u134 u135 u136 u137 u138 u139 u140 u141 u142 u143 u144 u145 u146 u147 u148 u149 u150 u151 u152 u153 : Value), Below W.heap.size W w' → Q .normal ⟨(u0 :: u1 :: u2 :: u3 :: u4 :: u5 :: u6 :: .slice lo n lc :: u8 :: u9 :: u10 :: u11 :: pv :: u13 :: u14 :: u15 :: u16 :: u17 :: u18 :: u19 :: u20 :: u21 :: u22 :: u23 :: u24 :: u25 :: u26 :: u27 :: u28 :: u29 :: u30 :: u31 :: u32 :: u33 :: u34 :: u35 :: u36 :: u37 :: u38 :: u39 :: u40 :: u41 :: u42 :: u43 :: u44 :: u45 :: u46 :: u47 :: u48 :: u49 :: u50 :: u51 :: u52 :: u53 :: u54 :: u55 :: u56 :: u57 :: u58 :: u59 :: u60 :: u61 :: u62 :: u63 :: u64 :: u65 :: u66 :: u67 :: u68 :: u69 :: u70 :: u71 :: u72 :: u73 :: u74 :: u75 :: u76 :: u77 :: u78 :: u79 :: u80 :: u81 :: u82 :: u83 :: u84 :: u85 :: u86 :: u87 :: u88 :: u89 :: u90 :: u91 :: u92 :: u93 :: u94 :: u95 :: u96 :: u97 :: u98 :: u99 :: u100 :: u101 :: u102 :: u103 :: u104 :: u105 :: u106 :: u107 :: u108 :: u109 :: u110 :: u111 :: u112 :: u113 :: .slice (some ⟨vb, 0, none⟩) 4 4 :: .int .i64 4 :: u116 :: u117 :: u118 :: u119 :: u120 :: u121 :: u122 :: u123 :: u124 :: u125 :: u126 :: u127 :: u128 :: u129 :: u130 :: u131 :: u132 :: u133 :: u134 :: u135 :: u136 :: u137 :: u138 :: u139 :: u140 :: u141 :: u142 :: u143 :: u144 :: u145 :: u146 :: u147 :: u148 :: u149 :: u150 :: u151 :: u152 :: u153 :: u154 :: []).toArray, []⟩ w') :
    Code.wp Tryd.prog meetB4 Q ⟨(u0 :: u1 :: u2 :: u3 :: u4 :: u5 :: u6 :: .slice lo n lc :: u8 :: u9 :: u10 :: u11 :: pv :: u13 :: u14 :: u15 :: u16 :: u17 :: u18 :: u19 :: u20 :: u21 :: u22 :: u23 :: u24 :: u25 :: u26 :: u27 :: u28 :: u29 :: u30 :: u31 :: u32 :: u33 :: u34 :: u35 :: u36 :: u37 :: u38 :: u39 :: u40 :: u41 :: u42 :: u43 :: u44 :: u45 :: u46 :: u47 :: u48 :: u49 :: u50 :: u51 :: u52 :: u53 :: u54 :: u55 :: u56 :: u57 :: u58 :: u59 :: u60 :: u61 :: u62 :: u63 :: u64 :: u65 :: u66 :: u67 :: u68 :: u69 :: u70 :: u71 :: u72 :: u73 :: u74 :: u75 :: u76 :: u77 :: u78 :: u79 :: u80 :: u81 :: u82 :: u83 :: u84 :: u85 :: u86 :: u87 :: u88 :: u89 :: u90 :: u91 :: u92 :: u93 :: u94 :: u95 :: u96 :: u97 :: u98 :: u99 :: u100 :: u101 :: u102 :: u103 :: u104 :: u105 :: u106 :: u107 :: u108 :: u109 :: u110 :: u111 :: u112 :: u113 :: .slice (some ⟨vb, 0, none⟩) 4 4 :: .int .i64 4 :: .int .i64 0 :: u117 :: u118 :: u119 :: u120 :: u121 :: u122 :: u123 :: u124 :: u125 :: u126 :: u127 :: u128 :: u129 :: u130 :: u131 :: u132 :: u133 :: u134 :: u135 :: u136 :: u137 :: u138 :: u139 :: u140 :: u141 :: u142 :: u143 :: u144 :: u145 :: u146 :: u147 :: u148 :: u149 :: u150 :: u151 :: u152 :: u153 :: u154 :: []).toArray, []⟩ W := by
  have HQ := Lib.hid hQ
  have HL := Lib.hid hl
  have HV := Lib.hid hvs
  have HN := Lib.hid hn
  have V4 := Lib.hid hv4
  subst h0
  clear hQ hl hvs hv4 hn
  conv => arg 2; whnf
  go_wp2
  go_loopw [116] (fun i wr => ∃ j : Nat, j ≤ 4 ∧ i = .int .i64 j ∧ Below W.heap.size W wr) (fun i _ => 4 - (intOf i).toNat)
  case atStart => exact ⟨0, Nat.zero_le _, rfl, Below.refl _ _⟩
  case round =>
    obtain ⟨j, hj, rfl, hb⟩ := hrel
    have HB := Lib.hid hb
    clear hb
    by_cases hlt : j < 4
    · have g0 : decide ((j : Int) < 4) = true := by simp; omega
      obtain ⟨⟨t, m, s⟩, hx⟩ : ∃ x, vs[j]? = some x := ⟨_, List.getElem?_eq_getElem (by rw [V4.out]; exact hlt)⟩
      obtain ⟨p, ix, px⟩ := elV HV.out V4.out hx
      obtain ⟨p0, p1, p2⟩ := px _ HB.out
      have B4 := Lib.hid (HB.out.alloc HB.out.size (.cells (cellsV t m s) 48))
      have X4 := Lib.hid (box_new wr (cellsV t m s) 48)
      clear hx px
      simp only at p0 p1 p2
      go_upto_block 6 with (fail)
      clear p0 p1 p2 ix
      change Code.wp _ _ _ _ (wr.alloc (.cells (cellsV t m s) 48))
      generalize wr.alloc (.cells (cellsV t m s) 48) = W4 at *
      refine meet_loop4 _ W4 lo lc _ l HN.out h4 (HL.out.on B4.out) wr.heap.size t m s X4.out false _ _ _ _ _ _ _ _ _ _ _ _ _ _ _ _ _ _ _ _ _ _ _ _ _ _ _ _ _ _ _ _ _ _ _ _ _ _ _ _ _ _ _ _ _ _ _ _ _ _ _ _ _ _ _ _ _ _ _ _ _ _ _ _ _ _ _ _ _ _ _ _ _ _ _ _ _ _ _ _ _ _ _ _ _ _ _ _ _ _ _ _ _ _ _ _ _ _ _ _ _ _ _ _ _ _ _ _ _ _ _ _ _ _ _ _ _ _ _ _ _ _ _ _ _ _ _ _ _ _ _ _ _ _ _ _ _ _ _ _ _ _ _ _ _ _ _ _ _ _ ?_
      intro w5 u20 u125 u126 u127 u128 u129 u130 u131 u132 u133 u134 u135 hb5
      have B5 := Lib.hid (B4.out.trans (hb5.mono B4.out.size))
      have X5 := Lib.hid (X4.out.on hb5)
      clear hb5 B4 X4
      simp only [Exit.then]
      apply_assumption
      rw [Bool.false_and]
      go_wp2
      refine wp_region_quiet_below (by kernel_rfl) (by kernel_rfl) ?_
      repeat (go_big_quiet_step (fail))
      refine wpQuiet_nil ?_
      intro _ hw'
      obtain ⟨⟨dq, osq⟩, hw''⟩ := hw'
      subst hw''
      have BZ := Lib.hid (B5.out.trans ((below_regrown w5 dq osq).mono B5.out.size))
      go_wp2
      go_roundw
      case rel => exact ⟨j + 1, by omega, by go_num, BZ.out⟩
      case measure => simp [intOf]; omega
    · obtain rfl : j = 4 := by omega
      go_wp2
      exact HQ.out _ _ _ _ _ _ _ _ _ _ _ _ _ _ _ _ _ _ _ _ _ _ _ _ _ _ _ _ _ _ _ _ _ _ _ _ _ _ _ _ _ _ _ HB.out

set_option maxRecDepth 100000 in
set_option maxHeartbeats 4000000 in
theorem meet_loop3_ok (Q : Exit → Act → World → Prop) (W : World) (lo : Option Addr) (lc n : Nat) (l : List Cn) (hn : n = l.length) (h4 : n ≤ 4) (hl : RowC W (.slice lo n lc) (l.map r5)) (pv : Value) (vb : Nat) (vs : List V3) (hv4 : vs.length = 4) (hvs : Row EV W (.slice (some ⟨vb, 0, none⟩) 4 4) vs) (h0 : 0 < n) (c : Kd) (hc : RowC W pv [r5 (nM, c)]) (hall : ∀ v, holdsK c v = l.all fun x => holdsK x.2 v) (u0 u1 u2 u3 u4 u5 u6 u8 u9 u10 u11 u13 u14 u15 u16 u17 u18 u19 u20 u21 u22 u23 u24 u25 u26 u27 u28 u29 u30 u31 u32 u33 u34 u35 u36 u37 u38 u39 u40 u41 u42 u43 u44 u45 u46 u47 u48 u49 u50 u51 u52 u53 u54 u55 u56 u57 u58 u59 u60 u61 u62 u63 u64 u65 u66 u67 u68 u69 u70 u71 u72 u73 u74 u75 u76 u77 u78 u79 u80 u81 u82 u83 u84 u85 u86 u87 u88 u89 u90 u91 u92 u93 u94 u95 u96 u97 u98 u99 u100 u101 u102 u103 u104 u105 u106 u107 u108 u109 u110 u111 u112 u113 u117 u118 u119 u120 u121 u122 u123 u124 u125 u126 u127 u128 u129 u130 u131 u132 u133 u134 u135 u136 u137 u138 u139 u140 u141 u142 u143 u144 u145 u146 u147 u148 u149 u150 u151 u152 u153 u154 : Value)
    (hQ : ∀ (w' : World) (u6 u17 u18 u20 u116 u117 u118 u119 u120 u121 u122 u123 u124 u125 u126 u127 u128 u129 u130 u131 u132 u133 u134 u135 u136 u137 u138 u139 u140 u141 u142 u143 u144 u145 u146 u147 u148 u149 u150 u151 u152 u153 : Value), Below W.heap.size W w' → Q .normal ⟨(u0 :: u1 :: u2 :: u3 :: u4 :: u5 :: u6 :: .slice lo n lc :: u8 :: u9 :: u10 :: u11 :: pv :: u13 :: u14 :: u15 :: u16 :: u17 :: u18 :: u19 :: u20 :: u21 :: u22 :: u23 :: u24 :: u25 :: u26 :: u27 :: u28 :: u29 :: u30 :: u31 :: u32 :: u33 :: u34 :: u35 :: u36 :: u37 :: u38 :: u39 :: u40 :: u41 :: u42 :: u43 :: u44 :: u45 :: u46 :: u47 :: u48 :: u49 :: u50 :: u51 :: u52 :: u53 :: u54 :: u55 :: u56 :: u57 :: u58 :: u59 :: u60 :: u61 :: u62 :: u63 :: u64 :: u65 :: u66 :: u67 :: u68 :: u69 :: u70 :: u71 :: u72 :: u73 :: u74 :: u75 :: u76 :: u77 :: u78 :: u79 :: u80 :: u81 :: u82 :: u83 :: u84 :: u85 :: u86 :: u87 :: u88 :: u89 :: u90 :: u91 :: u92 :: u93 :: u94 :: u95 :: u96 :: u97 :: u98 :: u99 :: u100 :: u101 :: u102 :: u103 :: u104 :: u105 :: u106 :: u107 :: u108 :: u109 :: u110 :: u111 :: u112 :: u113 :: .slice (some ⟨vb, 0, none⟩) 4 4 :: .int .i64 4 :: u116 :: u117 :: u118 :: u119 :: u120 :: u121 :: u122 :: u123 :: u124 :: u125 :: u126 :: u127 :: u128 :: u129 :: u130 :: u131 :: u132 :: u133 :: u134 :: u135 :: u136 :: u137 :: u138 :: u139 :: u140 :: u141 :: u142 :: u143 :: u144 :: u145 :: u146 :: u147 :: u148 :: u149 :: u150 :: u151 :: u152 :: u153 :: u154 :: []).toArray, []⟩ w') :
    Code.wp Tryd.prog meetB4 Q ⟨(u0 :: u1 :: u2 :: u3 :: u4 :: u5 :: u6 :: .slice lo n lc :: u8 :: u9 :: u10 :: u11 :: pv :: u13 :: u14 :: u15 :: u16 :: u17 :: u18 :: u19 :: u20 :: u21 :: u22 :: u23 :: u24 :: u25 :: u26 :: u27 :: u28 :: u29 :: u30 :: u31 :: u32 :: u33 :: u34 :: u35 :: u36 :: u37 :: u38 :: u39 :: u40 :: u41 :: u42 :: u43 :: u44 :: u45 :: u46 :: u47 :: u48 :: u49 :: u50 :: u51 :: u52 :: u53 :: u54 :: u55 :: u56 :: u57 :: u58 :: u59 :: u60 :: u61 :: u62 :: u63 :: u64 :: u65 :: u66 :: u67 :: u68 :: u69 :: u70 :: u71 :: u72 :: u73 :: u74 :: u75 :: u76 :: u77 :: u78 :: u79 :: u80 :: u81 :: u82 :: u83 :: u84 :: u85 :: u86 :: u87 :: u88 :: u89 :: u90 :: u91 :: u92 :: u93 :: u94 :: u95 :: u96 :: u97 :: u98 :: u99 :: u100 :: u101 :: u102 :: u103 :: u104 :: u105 :: u106 :: u107 :: u108 :: u109 :: u110 :: u111 :: u112 :: u113 :: .slice (some ⟨vb, 0, none⟩) 4 4 :: .int .i64 4 :: .int .i64 0 :: u117 :: u118 :: u119 :: u120 :: u121 :: u122 :: u123 :: u124 :: u125 :: u126 :: u127 :: u128 :: u129 :: u130 :: u131 :: u132 :: u133 :: u134 :: u135 :: u136 :: u137 :: u138 :: u139 :: u140 :: u141 :: u142 :: u143 :: u144 :: u145 :: u146 :: u147 :: u148 :: u149 :: u150 :: u151 :: u152 :: u153 :: u154 :: []).toArray, []⟩ W := by
  have HQ := Lib.hid hQ
  have HL := Lib.hid hl
  have HV := Lib.hid hvs
  have HN := Lib.hid hn
  have V4 := Lib.hid hv4
  have HA := Lib.hid hall
  have HP := Lib.hid hc
  obtain ⟨po, pc, hpv⟩ := hc.len
  replace hpv : pv = .slice po 1 pc := hpv
  subst hpv
  have g1 : decide ((0 : Int) < (n : Int)) = true := by simp; omega
  clear hc hall
  clear hQ hl hvs hv4 hn
  conv => arg 2; whnf
  go_wp2
  go_loopw [116] (fun i wr => ∃ j : Nat, j ≤ 4 ∧ i = .int .i64 j ∧ Below W.heap.size W wr) (fun i _ => 4 - (intOf i).toNat)
  case atStart => exact ⟨0, Nat.zero_le _, rfl, Below.refl _ _⟩
  case round =>
    obtain ⟨j, hj, rfl, hb⟩ := hrel
    have HB := Lib.hid hb
    clear hb
    by_cases hlt : j < 4
    · have g0 : decide ((j : Int) < 4) = true := by simp; omega
      obtain ⟨⟨t, m, s⟩, hx⟩ : ∃ x, vs[j]? = some x := ⟨_, List.getElem?_eq_getElem (by rw [V4.out]; exact hlt)⟩
      obtain ⟨p, ix, px⟩ := elV HV.out V4.out hx
      obtain ⟨p0, p1, p2⟩ := px _ HB.out
      have B4 := Lib.hid (HB.out.alloc HB.out.size (.cells (cellsV t m s) 48))
      have X4 := Lib.hid (box_new wr (cellsV t m s) 48)
      clear hx px
      simp only at p0 p1 p2
      go_upto_block 6 with (fail)
      clear p0 p1 p2 ix
      change Code.wp _ _ _ _ (wr.alloc (.cells (cellsV t m s) 48))
      generalize wr.alloc (.cells (cellsV t m s) 48) = W4 at *
      refine meet_loop4 _ W4 lo lc _ l HN.out h4 (HL.out.on B4.out) wr.heap.size t m s X4.out true _ _ _ _ _ _ _ _ _ _ _ _ _ _ _ _ _ _ _ _ _ _ _ _ _ _ _ _ _ _ _ _ _ _ _ _ _ _ _ _ _ _ _ _ _ _ _ _ _ _ _ _ _ _ _ _ _ _ _ _ _ _ _ _ _ _ _ _ _ _ _ _ _ _ _ _ _ _ _ _ _ _ _ _ _ _ _ _ _ _ _ _ _ _ _ _ _ _ _ _ _ _ _ _ _ _ _ _ _ _ _ _ _ _ _ _ _ _ _ _ _ _ _ _ _ _ _ _ _ _ _ _ _ _ _ _ _ _ _ _ _ _ _ _ _ _ _ _ _ _ ?_
      intro w5 u20 u125 u126 u127 u128 u129 u130 u131 u132 u133 u134 u135 hb5
      have B5 := Lib.hid (B4.out.trans (hb5.mono B4.out.size))
      have X5 := Lib.hid (X4.out.on hb5)
      clear hb5 B4 X4
      simp only [Exit.then]
      apply_assumption
      rw [Bool.true_and]
      obtain ⟨r, hr⟩ : ∃ r, (l.all fun x => holdsK x.2 (t, m, s)) = r := ⟨_, rfl⟩
      rw [hr]
      have CH := holdsM_re (nM, c) t m s r ((HA.out _).trans hr) w5
      obtain ⟨q, iq, q0, q1, q2, q3, q4⟩ := el_regrown (x := r5 (nM, c)) (k := 0) HP.out rfl rfl rfl B5.out
      have x0 := cell_regrown (show w5.cell? ⟨wr.heap.size, 0, none⟩ = some (.bool t) from X5.out.cell 0)
      have x1 := cell_regrown (show w5.cell? ⟨wr.heap.size, 1, none⟩ = some (.int .i64 m) from X5.out.cell 1)
      have x2 := cell_regrown (show w5.cell? ⟨wr.heap.size, 2, none⟩ = some (.string s) from X5.out.cell 2)
      rw [show ((0 : Nat) : Int) = 0 from rfl] at iq
      simp only [r5] at q0 q1 q2 q3 q4 CH
      clear hr X5
      go_wp2
      refine wp_region_quiet_below (by kernel_rfl) (by kernel_rfl) ?_
      repeat (go_big_quiet_step (first | (with_reducible exact CH _ _) | fail))
      refine wpQuiet_nil ?_
      intro _ hw'
      obtain ⟨⟨dq, osq⟩, hw''⟩ := hw'
      subst hw''
      have BZ := Lib.hid (B5.out.trans ((below_regrown w5 dq osq).mono B5.out.size))
      clear CH iq q0 q1 q2 q3 q4 x0 x1 x2
      go_wp2
      go_roundw
      case rel => exact ⟨j + 1, by omega, by go_num, BZ.out⟩
      case measure => simp [intOf]; omega
    · obtain rfl : j = 4 := by omega
      go_wp2
      exact HQ.out _ _ _ _ _ _ _ _ _ _ _ _ _ _ _ _ _ _ _ _ _ _ _ _ _ _ _ _ _ _ _ _ _ _ _ _ _ _ _ _ _ _ _ HB.out

set_option maxRecDepth 100000 in
set_option maxHeartbeats 4000000 in
theorem meet_loop3_err (Q : Exit → Act → World → Prop) (W : World) (lo : Option Addr) (lc n : Nat) (l : List Cn) (hn : n = l.length) (h4 : n ≤ 4) (hl : RowC W (.slice lo n lc) (l.map r5)) (pv : Value) (vb : Nat) (vs : List V3) (hv4 : vs.length = 4) (hvs : Row EV W (.slice (some ⟨vb, 0, none⟩) 4 4) vs) (h0 : 0 < n) (hp : pv = .slice none 0 0) (hall : ∀ v, (l.all fun x => holdsK x.2 v) = false) (u0 u1 u2 u3 u4 u5 u6 u8 u9 u10 u11 u13 u14 u15 u16 u17 u18 u19 u20 u21 u22 u23 u24 u25 u26 u27 u28 u29 u30 u31 u32 u33 u34 u35 u36 u37 u38 u39 u40 u41 u42 u43 u44 u45 u46 u47 u48 u49 u50 u51 u52 u53 u54 u55 u56 u57 u58 u59 u60 u61 u62 u63 u64 u65 u66 u67 u68 u69 u70 u71 u72 u73 u74 u75 u76 u77 u78 u79 u80 u81 u82 u83 u84 u85 u86 u87 u88 u89 u90 u91 u92 u93 u94 u95 u96 u97 u98 u99 u100 u101 u102 u103 u104 u105 u106 u107 u108 u109 u110 u111 u112 u113 u117 u118 u119 u120 u121 u122 u123 u124 u125 u126 u127 u128 u129 u130 u131 u132 u133 u134 u135 u136 u137 u138 u139 u140 u141 u142 u143 u144 u145 u146 u147 u148 u149 u150 u151 u152 u153 u154 : Value)
    (hQ : ∀ (w' : World) (u6 u17 u18 u20 u116 u117 u118 u119 u120 u121 u122 u123 u124 u125 u126 u127 u128 u129 u130 u131 u132 u133 u134 u135 u136 u137 u138 u139 u140 u141 u142 u143 u144 u145 u146 u147 u148 u149 u150 u151 u152 u153 : Value), Below W.heap.size W w' → Q .normal ⟨(u0 :: u1 :: u2 :: u3 :: u4 :: u5 :: u6 :: .slice lo n lc :: u8 :: u9 :: u10 :: u11 :: pv :: u13 :: u14 :: u15 :: u16 :: u17 :: u18 :: u19 :: u20 :: u21 :: u22 :: u23 :: u24 :: u25 :: u26 :: u27 :: u28 :: u29 :: u30 :: u31 :: u32 :: u33 :: u34 :: u35 :: u36 :: u37 :: u38 :: u39 :: u40 :: u41 :: u42 :: u43 :: u44 :: u45 :: u46 :: u47 :: u48 :: u49 :: u50 :: u51 :: u52 :: u53 :: u54 :: u55 :: u56 :: u57 :: u58 :: u59 :: u60 :: u61 :: u62 :: u63 :: u64 :: u65 :: u66 :: u67 :: u68 :: u69 :: u70 :: u71 :: u72 :: u73 :: u74 :: u75 :: u76 :: u77 :: u78 :: u79 :: u80 :: u81 :: u82 :: u83 :: u84 :: u85 :: u86 :: u87 :: u88 :: u89 :: u90 :: u91 :: u92 :: u93 :: u94 :: u95 :: u96 :: u97 :: u98 :: u99 :: u100 :: u101 :: u102 :: u103 :: u104 :: u105 :: u106 :: u107 :: u108 :: u109 :: u110 :: u111 :: u112 :: u113 :: .slice (some ⟨vb, 0, none⟩) 4 4 :: .int .i64 4 :: u116 :: u117 :: u118 :: u119 :: u120 :: u121 :: u122 :: u123 :: u124 :: u125 :: u126 :: u127 :: u128 :: u129 :: u130 :: u131 :: u132 :: u133 :: u134 :: u135 :: u136 :: u137 :: u138 :: u139 :: u140 :: u141 :: u142 :: u143 :: u144 :: u145 :: u146 :: u147 :: u148 :: u149 :: u150 :: u151 :: u152 :: u153 :: u154 :: []).toArray, []⟩ w') :
    Code.wp Tryd.prog meetB4 Q ⟨(u0 :: u1 :: u2 :: u3 :: u4 :: u5 :: u6 :: .slice lo n lc :: u8 :: u9 :: u10 :: u11 :: pv :: u13 :: u14 :: u15 :: u16 :: u17 :: u18 :: u19 :: u20 :: u21 :: u22 :: u23 :: u24 :: u25 :: u26 :: u27 :: u28 :: u29 :: u30 :: u31 :: u32 :: u33 :: u34 :: u35 :: u36 :: u37 :: u38 :: u39 :: u40 :: u41 :: u42 :: u43 :: u44 :: u45 :: u46 :: u47 :: u48 :: u49 :: u50 :: u51 :: u52 :: u53 :: u54 :: u55 :: u56 :: u57 :: u58 :: u59 :: u60 :: u61 :: u62 :: u63 :: u64 :: u65 :: u66 :: u67 :: u68 :: u69 :: u70 :: u71 :: u72 :: u73 :: u74 :: u75 :: u76 :: u77 :: u78 :: u79 :: u80 :: u81 :: u82 :: u83 :: u84 :: u85 :: u86 :: u87 :: u88 :: u89 :: u90 :: u91 :: u92 :: u93 :: u94 :: u95 :: u96 :: u97 :: u98 :: u99 :: u100 :: u101 :: u102 :: u103 :: u104 :: u105 :: u106 :: u107 :: u108 :: u109 :: u110 :: u111 :: u112 :: u113 :: .slice (some ⟨vb, 0, none⟩) 4 4 :: .int .i64 4 :: .int .i64 0 :: u117 :: u118 :: u119 :: u120 :: u121 :: u122 :: u123 :: u124 :: u125 :: u126 :: u127 :: u128 :: u129 :: u130 :: u131 :: u132 :: u133 :: u134 :: u135 :: u136 :: u137 :: u138 :: u139 :: u140 :: u141 :: u142 :: u143 :: u144 :: u145 :: u146 :: u147 :: u148 :: u149 :: u150 :: u151 :: u152 :: u153 :: u154 :: []).toArray, []⟩ W := by
  have HQ := Lib.hid hQ
  have HL := Lib.hid hl
  have HV := Lib.hid hvs
  have HN := Lib.hid hn
  have V4 := Lib.hid hv4
  have HA := Lib.hid hall
  subst hp
  have g1 : decide ((0 : Int) < (n : Int)) = true := by simp; omega
  clear hall
  clear hQ hl hvs hv4 hn
  conv => arg 2; whnf
  go_wp2
  go_loopw [116] (fun i wr => ∃ j : Nat, j ≤ 4 ∧ i = .int .i64 j ∧ Below W.heap.size W wr) (fun i _ => 4 - (intOf i).toNat)
  case atStart => exact ⟨0, Nat.zero_le _, rfl, Below.refl _ _⟩
  case round =>
    obtain ⟨j, hj, rfl, hb⟩ := hrel
    have HB := Lib.hid hb
    clear hb
    by_cases hlt : j < 4
    · have g0 : decide ((j : Int) < 4) = true := by simp; omega
      obtain ⟨⟨t, m, s⟩, hx⟩ : ∃ x, vs[j]? = some x := ⟨_, List.getElem?_eq_getElem (by rw [V4.out]; exact hlt)⟩
      obtain ⟨p, ix, px⟩ := elV HV.out V4.out hx
      obtain ⟨p0, p1, p2⟩ := px _ HB.out
      have B4 := Lib.hid (HB.out.alloc HB.out.size (.cells (cellsV t m s) 48))
      have X4 := Lib.hid (box_new wr (cellsV t m s) 48)
      clear hx px
      simp only at p0 p1 p2
      go_upto_block 6 with (fail)
      clear p0 p1 p2 ix
      change Code.wp _ _ _ _ (wr.alloc (.cells (cellsV t m s) 48))
      generalize wr.alloc (.cells (cellsV t m s) 48) = W4 at *
      refine meet_loop4 _ W4 lo lc _ l HN.out h4 (HL.out.on B4.out) wr.heap.size t m s X4.out true _ _ _ _ _ _ _ _ _ _ _ _ _ _ _ _ _ _ _ _ _ _ _ _ _ _ _ _ _ _ _ _ _ _ _ _ _ _ _ _ _ _ _ _ _ _ _ _ _ _ _ _ _ _ _ _ _ _ _ _ _ _ _ _ _ _ _ _ _ _ _ _ _ _ _ _ _ _ _ _ _ _ _ _ _ _ _ _ _ _ _ _ _ _ _ _ _ _ _ _ _ _ _ _ _ _ _ _ _ _ _ _ _ _ _ _ _ _ _ _ _ _ _ _ _ _ _ _ _ _ _ _ _ _ _ _ _ _ _ _ _ _ _ _ _ _ _ _ _ _ ?_
      intro w5 u20 u125 u126 u127 u128 u129 u130 u131 u132 u133 u134 u135 hb5
      have B5 := Lib.hid (B4.out.trans (hb5.mono B4.out.size))
      have X5 := Lib.hid (X4.out.on hb5)
      clear hb5 B4 X4
      simp only [Exit.then]
      apply_assumption
      rw [Bool.true_and, HA.out]
      go_wp2
      refine wp_region_quiet_below (by kernel_rfl) (by kernel_rfl) ?_
      repeat (go_big_quiet_step (fail))
      refine wpQuiet_nil ?_
      intro _ hw'
      obtain ⟨⟨dq, osq⟩, hw''⟩ := hw'
      subst hw''
      have BZ := Lib.hid (B5.out.trans ((below_regrown w5 dq osq).mono B5.out.size))
      go_wp2
      go_roundw
      case rel => exact ⟨j + 1, by omega, by go_num, BZ.out⟩
      case measure => simp [intOf]; omega
    · obtain rfl : j = 4 := by omega
      go_wp2
      exact HQ.out _ _ _ _ _ _ _ _ _ _ _ _ _ _ _ _ _ _ _ _ _ _ _ _ _ _ _ _ _ _ _ _ _ _ _ _ _ _ _ _ _ _ _ HB.out

end Go.Proofs.YtbfecndhjlimaaaDoor.Pr
