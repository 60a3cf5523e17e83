/-
  The law PredMeets: it answers true. Conditions: the contracts of package pred; numbers of 64 bits.
-/
import Derived.Test.YtbfecndhjlimaaaDoorPmD
namespace Go.Proofs.YtbfecndhjlimaaaDoor.Pr
open Go.RowKit Go.Sort Go.Proofs.YtbfecndhjlimaaaDoor Go.Proofs.YtbfecndhjlimaaaDoor.Pu Go.Proofs.YtbfecndhjlimaaaDoor.Rw Go.Proofs.YtbfecndhjlimaaaDoor.Va Go.Proofs.YtbfecndhjlimaaaDoor.Kp Go.Proofs.YtbfecndhjlimaaaDoor.In

theorem nm_all : ∀ (l : List Cn), (∀ c ∈ l, c.1 = nM) → l = (l.map (·.2)).map fun k => (nM, k)
  | [], _ => rfl
  | x :: r, h => by
    have e := nm_all r (fun c hc => h c (List.mem_cons_of_mem _ hc))
    have e2 := h x (List.mem_cons_self ..)
    simp only [List.map_cons]
    rw [← e, ← e2]
theorem make_pair (l own : List Cn) (hp : own.Perm l) (hn : ∀ c ∈ l, c.1 = nM) (hg : ∀ c ∈ l, goodK c.2 = true) :
    (l = [] ∧ own = []) ∨ (0 < l.length ∧ ∃ c, makeC l = .ok [(nM, c)] ∧ makeC own = .ok [(nM, c)] ∧ ∀ v, holdsK c v = l.all fun x => holdsK x.2 v) ∨ (0 < l.length ∧ ∃ i j, makeC l = .error (5, i) ∧ makeC own = .error (5, j) ∧ ∀ v, (l.all fun x => holdsK x.2 v) = false) := by
  cases l with
  | nil => exact Or.inl ⟨rfl, hp.eq_nil⟩
  | cons x r =>
    cases own with
    | nil => have := hp.length_eq; simp at this
    | cons y s =>
      have hpk : (y.2 :: s.map (·.2)).Perm (x.2 :: r.map (·.2)) := hp.map (fun c : Cn => c.2)
      have ga : goodK x.2 = true := hg x (List.mem_cons_self ..)
      have gr : ∀ k ∈ r.map (·.2), goodK k = true := fun k hk => by
        obtain ⟨c, hc, rfl⟩ := List.mem_map.1 hk
        exact hg c (List.mem_cons_of_mem _ hc)
      have gl : ∀ k ∈ x.2 :: r.map (·.2), goodK k = true := fun k hk => by
        rcases List.mem_cons.1 hk with rfl | hk
        · exact ga
        · exact gr k hk
      have gb : goodK y.2 = true := gl _ (hpk.mem_iff.1 (List.mem_cons_self ..))
      have gs : ∀ k ∈ s.map (·.2), goodK k = true := fun k hk => gl _ (hpk.mem_iff.1 (List.mem_cons_of_mem _ hk))
      have e := all_perm y.2 x.2 (s.map (·.2)) (r.map (·.2)) gb ga gs gr hpk
      have nl : x :: r = (nM, x.2) :: (r.map (·.2)).map fun k => (nM, k) := nm_all (x :: r) hn
      have no : y :: s = (nM, y.2) :: (s.map (·.2)).map fun k => (nM, k) := nm_all (y :: s) fun c hc => hn c (hp.mem_iff.1 hc)
      have ml := make_one nM x.2 (r.map (·.2))
      have mo := make_one nM y.2 (s.map (·.2))
      rw [← nl] at ml
      rw [← no] at mo
      have al : ∀ v, ((x :: r).all fun c => holdsK c.2 v) = (holdsK x.2 v && (r.map (·.2)).all fun b => holdsK b v) := fun v => by
        rw [List.all_cons, List.all_map]
        rfl
      cases hc : allK x.2 (r.map (·.2)) with
      | some c =>
        rw [hc] at e
        refine Or.inr (Or.inl ⟨by simp, c, ml.1 c hc, mo.1 c e, fun v => ?_⟩)
        rw [al]
        exact (all_some _ _ _ ga gr hc).2 v
      | none =>
        rw [hc] at e
        obtain ⟨i, hi⟩ := ml.2 hc
        obtain ⟨j, hj⟩ := mo.2 e
        refine Or.inr (Or.inr ⟨by simp, i, j, hi, hj, fun v => ?_⟩)
        rw [al]
        exact all_none _ _ ga gr hc v
/-- What the loop over the values wants. -/
def Fin3 (W : World) (pv : Value) (l : List Cn) : Prop :=
  l.length = 0 ∨ (0 < l.length ∧ ∃ c, RowC W pv [r5 (nM, c)] ∧ ∀ v, holdsK c v = l.all fun x => holdsK x.2 v) ∨ (0 < l.length ∧ pv = .slice none 0 0 ∧ ∀ v, (l.all fun x => holdsK x.2 v) = false)
theorem fin_on {W W' : World} {pv : Value} {l : List Cn} (h : Fin3 W pv l) (hb : Below W.heap.size W W') : Fin3 W' pv l := by
  rcases h with h | ⟨h0, c, hc, ha⟩ | h
  · exact Or.inl h
  · exact Or.inr (Or.inl ⟨h0, c, hc.on hb, ha⟩)
  · exact Or.inr (Or.inr h)
noncomputable def meet9 : Code := afterN 9 (Tryd.f7.body.getD .skip)
noncomputable def meet8 : Code := afterN 8 (Tryd.f7.body.getD .skip)
noncomputable def meet7 : Code := afterN 7 (Tryd.f7.body.getD .skip)
noncomputable def meetP (k : Nat) : Code := headN k (Tryd.f7.body.getD .skip)
noncomputable def meet5 : Code := .seq (meetP 5) (.seq (meetP 6) meet7)

set_option maxRecDepth 100000 in
set_option maxHeartbeats 4000000 in
theorem meet_9 {G : World → Prop} (K : POks G) (w W : World) (hg : G w) (hb : Below w.heap.size w W) (u0 u1 u2 u3 u4 u5 u6 u7 u8 u9 u10 u11 u12 u13 u14 u15 u16 u17 u18 u19 u20 u21 u22 u23 u24 u25 u26 u27 u28 u29 u30 u31 u32 u33 u34 u35 u36 u37 u38 u39 u40 u41 u42 u43 u44 u45 u46 u47 u48 u49 u50 u51 u52 u53 u54 u55 u56 u57 u58 u59 u60 u61 u62 u63 u64 u65 u66 u67 u68 u69 u70 u71 u72 u73 u74 u75 u76 u77 u78 u79 u80 u81 u82 u83 u84 u85 u86 u87 u88 u89 u90 u91 u92 u93 u94 u95 u96 u97 u98 u99 u100 u101 u102 u103 u104 u105 u106 u107 u108 u109 u110 u111 u112 u113 u114 u115 u116 u117 u118 u119 u120 u121 u122 u123 u124 u125 u126 u127 u128 u129 u130 u131 u132 u133 u134 u135 u136 u137 u138 u139 u140 u141 u142 u143 u144 u145 u146 u147 u148 u149 u150 u151 u152 u153 u154 : Value) :
    Code.wp Tryd.prog meet9 (bodyPost Tryd.prog Tryd.f7 (PFQ w)) ⟨(u0 :: u1 :: u2 :: u3 :: u4 :: u5 :: u6 :: u7 :: u8 :: u9 :: u10 :: u11 :: u12 :: u13 :: u14 :: u15 :: u16 :: u17 :: u18 :: u19 :: u20 :: u21 :: u22 :: u23 :: u24 :: u25 :: u26 :: u27 :: u28 :: u29 :: u30 :: u31 :: u32 :: u33 :: u34 :: u35 :: u36 :: u37 :: u38 :: u39 :: u40 :: u41 :: u42 :: u43 :: u44 :: u45 :: u46 :: u47 :: u48 :: u49 :: u50 :: u51 :: u52 :: u53 :: u54 :: u55 :: u56 :: u57 :: u58 :: u59 :: u60 :: u61 :: u62 :: u63 :: u64 :: u65 :: u66 :: u67 :: u68 :: u69 :: u70 :: u71 :: u72 :: u73 :: u74 :: u75 :: u76 :: u77 :: u78 :: u79 :: u80 :: u81 :: u82 :: u83 :: u84 :: u85 :: u86 :: u87 :: u88 :: u89 :: u90 :: u91 :: u92 :: u93 :: u94 :: u95 :: u96 :: u97 :: u98 :: u99 :: u100 :: u101 :: u102 :: u103 :: u104 :: u105 :: u106 :: u107 :: u108 :: u109 :: u110 :: u111 :: u112 :: u113 :: u114 :: u115 :: u116 :: u117 :: u118 :: u119 :: u120 :: u121 :: u122 :: u123 :: u124 :: u125 :: u126 :: u127 :: u128 :: u129 :: u130 :: u131 :: u132 :: u133 :: u134 :: u135 :: u136 :: u137 :: u138 :: u139 :: u140 :: u141 :: u142 :: u143 :: u144 :: u145 :: u146 :: u147 :: u148 :: u149 :: u150 :: u151 :: u152 :: u153 :: u154 :: []).toArray, []⟩ W := by
  have B0 := Lib.hid hb
  have C := Lib.hid (pruns_any K W (K.bel _ _ hg hb))
  clear hg hb
  conv => arg 2; whnf
  go_wp2_with fail
  refine C.out.mono ?_
  rintro e1 w1 ⟨rfl, hb⟩
  have B1 := Lib.hid (B0.out.trans (hb.mono B0.out.size))
  clear hb
  go_wp2
  go_ret
  exact ⟨rfl, B1.out⟩
def x2V : V3 := (false, 3, ⟨#[]⟩)
def x3V : V3 := (true, 0, ⟨#[120, 121]⟩)
def vK (n : Int) : V3 := (!(evn n), kvN n, kvS n)
set_option maxRecDepth 100000 in
set_option maxHeartbeats 4000000 in
theorem meet_8 {G : World → Prop} (K : POks G) (w W : World) (hg : G w) (hb : Below w.heap.size w W) (v : Int) (h1 : -9223372036854775808 ≤ v) (h2 : v ≤ 9223372036854775807) (lo : Option Addr) (lc n : Nat) (l : List Cn) (hn : n = l.length) (h4 : n ≤ 4) (hl : RowC W (.slice lo n lc) (l.map r5)) (pv : Value) (hf : Fin3 W pv l) (u0 u2 u3 u4 u5 u6 u8 u9 u10 u11 u13 u14 u15 u16 u17 u18 u19 u20 u21 u22 u23 u24 u25 u26 u27 u28 u29 u30 u31 u32 u33 u34 u35 u36 u37 u38 u39 u40 u41 u42 u43 u44 u45 u46 u47 u48 u49 u50 u51 u52 u53 u54 u55 u56 u57 u58 u59 u60 u61 u62 u63 u64 u65 u66 u67 u68 u69 u70 u71 u72 u73 u74 u75 u76 u77 u78 u79 u80 u81 u82 u83 u84 u85 u86 u87 u88 u89 u90 u91 u92 u93 u94 u95 u96 u97 u98 u99 u100 u101 u102 u103 u104 u105 u106 u107 u108 u109 u110 u111 u112 u113 u114 u115 u116 u117 u118 u119 u120 u121 u122 u123 u124 u125 u126 u127 u128 u129 u130 u131 u132 u133 u134 u135 u136 u137 u138 u139 u140 u141 u142 u143 u144 u145 u146 u147 u148 u149 u150 u151 u152 u153 u154 : Value) :
    Code.wp Tryd.prog meet8 (bodyPost Tryd.prog Tryd.f7 (PFQ w)) ⟨(u0 :: .int .i64 v :: u2 :: u3 :: u4 :: u5 :: u6 :: .slice lo n lc :: u8 :: u9 :: u10 :: u11 :: pv :: u13 :: u14 :: u15 :: u16 :: u17 :: u18 :: u19 :: u20 :: u21 :: u22 :: u23 :: u24 :: u25 :: u26 :: u27 :: u28 :: u29 :: u30 :: u31 :: u32 :: u33 :: u34 :: u35 :: u36 :: u37 :: u38 :: u39 :: u40 :: u41 :: u42 :: u43 :: u44 :: u45 :: u46 :: u47 :: u48 :: u49 :: u50 :: u51 :: u52 :: u53 :: u54 :: u55 :: u56 :: u57 :: u58 :: u59 :: u60 :: u61 :: u62 :: u63 :: u64 :: u65 :: u66 :: u67 :: u68 :: u69 :: u70 :: u71 :: u72 :: u73 :: u74 :: u75 :: u76 :: u77 :: u78 :: u79 :: u80 :: u81 :: u82 :: u83 :: u84 :: u85 :: u86 :: u87 :: u88 :: u89 :: u90 :: u91 :: u92 :: u93 :: u94 :: u95 :: u96 :: u97 :: u98 :: u99 :: u100 :: u101 :: u102 :: u103 :: u104 :: u105 :: u106 :: u107 :: u108 :: u109 :: u110 :: u111 :: u112 :: u113 :: u114 :: u115 :: u116 :: u117 :: u118 :: u119 :: u120 :: u121 :: u122 :: u123 :: u124 :: u125 :: u126 :: u127 :: u128 :: u129 :: u130 :: u131 :: u132 :: u133 :: u134 :: u135 :: u136 :: u137 :: u138 :: u139 :: u140 :: u141 :: u142 :: u143 :: u144 :: u145 :: u146 :: u147 :: u148 :: u149 :: u150 :: u151 :: u152 :: u153 :: u154 :: []).toArray, []⟩ W := by
  have HG := Lib.hid hg
  have B0 := Lib.hid hb
  have HL := Lib.hid hl
  have HN := Lib.hid hn
  have H4 := Lib.hid h4
  have HF := Lib.hid hf
  obtain ⟨u, hu⟩ : ∃ u, IntKind.i64.wrap (v + 1) = u := ⟨_, rfl⟩
  have hub : -9223372036854775808 ≤ u ∧ u ≤ 9223372036854775807 := by rw [← hu, IntKind.wrap_i64]; omega
  have C1 := Lib.hid (fun wx => kvalue_any v wx h1 h2)
  have C2 := Lib.hid (fun wx => kvalue_any u wx hub.1 hub.2)
  clear hg hb hl hn h4 hf h1 h2 hub
  conv => arg 2; whnf
  go_wp2_with fail
  refine (C1.out W).mono ?_
  rintro e1 w1 ⟨rfl, hb1⟩
  go_wp2_with fail
  refine (C2.out w1).mono ?_
  rintro e2 w2 ⟨rfl, hb2⟩
  have B2 := Lib.hid (hb1.trans (hb2.mono hb1.size))
  have B4 := Lib.hid (B2.out.alloc B2.out.size (.cells #[.bool (!(evn v)), .int .i64 (kvN v), .string (kvS v), .bool (!(evn u)), .int .i64 (kvN u), .string (kvS u), .bool false, .int .i64 3, .string ⟨#[]⟩, .bool true, .int .i64 0, .string ⟨#[120, 121]⟩] 48))
  have RV := Lib.hid (show Row EV (w2.alloc (.cells #[.bool (!(evn v)), .int .i64 (kvN v), .string (kvS v), .bool (!(evn u)), .int .i64 (kvN u), .string (kvS u), .bool false, .int .i64 3, .string ⟨#[]⟩, .bool true, .int .i64 0, .string ⟨#[120, 121]⟩] 48)) (.slice (some ⟨w2.heap.size, 0, none⟩) 4 4) [vK v, vK u, x2V, x3V] from
    Row.of_own (row_lit okV w2 [vK v, vK u, x2V, x3V] 4 rfl (by simp) _ (by simp [flat, EV, cellsV3, vK, x2V, x3V])))
  clear hb1 hb2 C1 C2
  go_upto_block 4 with (fail)
  generalize w2.alloc (.cells #[.bool (!(evn v)), .int .i64 (kvN v), .string (kvS v), .bool (!(evn u)), .int .i64 (kvN u), .string (kvS u), .bool false, .int .i64 3, .string ⟨#[]⟩, .bool true, .int .i64 0, .string ⟨#[120, 121]⟩] 48) = W4 at *
  have BW := Lib.hid (B0.out.trans (B4.out.mono B0.out.size))
  have L4 := Lib.hid (HL.out.on B4.out)
  rcases HF.out with h0 | ⟨h0, c, hc, hall⟩ | ⟨h0, hp, hall⟩
  · refine meet_loop3_nil _ W4 lo lc n l HN.out H4.out L4.out pv w2.heap.size [vK v, vK u, x2V, x3V] rfl RV.out (HN.out.trans h0) _ _ _ _ _ _ _ _ _ _ _ _ _ _ _ _ _ _ _ _ _ _ _ _ _ _ _ _ _ _ _ _ _ _ _ _ _ _ _ _ _ _ _ _ _ _ _ _ _ _ _ _ _ _ _ _ _ _ _ _ _ _ _ _ _ _ _ _ _ _ _ _ _ _ _ _ _ _ _ _ _ _ _ _ _ _ _ _ _ _ _ _ _ _ _ _ _ _ _ _ _ _ _ _ _ _ _ _ _ _ _ _ _ _ _ _ _ _ _ _ _ _ _ _ _ _ _ _ _ _ _ _ _ _ _ _ _ _ _ _ _ _ _ _ _ _ _ _ _ _ ?_
    intro w5 u6 u17 u18 u20 u116 u117 u118 u119 u120 u121 u122 u123 u124 u125 u126 u127 u128 u129 u130 u131 u132 u133 u134 u135 u136 u137 u138 u139 u140 u141 u142 u143 u144 u145 u146 u147 u148 u149 u150 u151 u152 u153 hb5
    simp only [Exit.then]
    apply_assumption
    exact meet_9 K w w5 HG.out (BW.out.trans (hb5.mono BW.out.size)) _ _ _ _ _ _ _ _ _ _ _ _ _ _ _ _ _ _ _ _ _ _ _ _ _ _ _ _ _ _ _ _ _ _ _ _ _ _ _ _ _ _ _ _ _ _ _ _ _ _ _ _ _ _ _ _ _ _ _ _ _ _ _ _ _ _ _ _ _ _ _ _ _ _ _ _ _ _ _ _ _ _ _ _ _ _ _ _ _ _ _ _ _ _ _ _ _ _ _ _ _ _ _ _ _ _ _ _ _ _ _ _ _ _ _ _ _ _ _ _ _ _ _ _ _ _ _ _ _ _ _ _ _ _ _ _ _ _ _ _ _ _ _ _ _ _ _ _ _ _ _ _ _ _ _ 
  · refine meet_loop3_ok _ W4 lo lc n l HN.out H4.out L4.out pv w2.heap.size [vK v, vK u, x2V, x3V] rfl RV.out (by rw [HN.out]; exact h0) c (hc.on B4.out) hall _ _ _ _ _ _ _ _ _ _ _ _ _ _ _ _ _ _ _ _ _ _ _ _ _ _ _ _ _ _ _ _ _ _ _ _ _ _ _ _ _ _ _ _ _ _ _ _ _ _ _ _ _ _ _ _ _ _ _ _ _ _ _ _ _ _ _ _ _ _ _ _ _ _ _ _ _ _ _ _ _ _ _ _ _ _ _ _ _ _ _ _ _ _ _ _ _ _ _ _ _ _ _ _ _ _ _ _ _ _ _ _ _ _ _ _ _ _ _ _ _ _ _ _ _ _ _ _ _ _ _ _ _ _ _ _ _ _ _ _ _ _ _ _ _ _ _ _ _ _ ?_
    intro w5 u6 u17 u18 u20 u116 u117 u118 u119 u120 u121 u122 u123 u124 u125 u126 u127 u128 u129 u130 u131 u132 u133 u134 u135 u136 u137 u138 u139 u140 u141 u142 u143 u144 u145 u146 u147 u148 u149 u150 u151 u152 u153 hb5
    simp only [Exit.then]
    apply_assumption
    exact meet_9 K w w5 HG.out (BW.out.trans (hb5.mono BW.out.size)) _ _ _ _ _ _ _ _ _ _ _ _ _ _ _ _ _ _ _ _ _ _ _ _ _ _ _ _ _ _ _ _ _ _ _ _ _ _ _ _ _ _ _ _ _ _ _ _ _ _ _ _ _ _ _ _ _ _ _ _ _ _ _ _ _ _ _ _ _ _ _ _ _ _ _ _ _ _ _ _ _ _ _ _ _ _ _ _ _ _ _ _ _ _ _ _ _ _ _ _ _ _ _ _ _ _ _ _ _ _ _ _ _ _ _ _ _ _ _ _ _ _ _ _ _ _ _ _ _ _ _ _ _ _ _ _ _ _ _ _ _ _ _ _ _ _ _ _ _ _ _ _ _ _ _ 
  · refine meet_loop3_err _ W4 lo lc n l HN.out H4.out L4.out pv w2.heap.size [vK v, vK u, x2V, x3V] rfl RV.out (by rw [HN.out]; exact h0) hp hall _ _ _ _ _ _ _ _ _ _ _ _ _ _ _ _ _ _ _ _ _ _ _ _ _ _ _ _ _ _ _ _ _ _ _ _ _ _ _ _ _ _ _ _ _ _ _ _ _ _ _ _ _ _ _ _ _ _ _ _ _ _ _ _ _ _ _ _ _ _ _ _ _ _ _ _ _ _ _ _ _ _ _ _ _ _ _ _ _ _ _ _ _ _ _ _ _ _ _ _ _ _ _ _ _ _ _ _ _ _ _ _ _ _ _ _ _ _ _ _ _ _ _ _ _ _ _ _ _ _ _ _ _ _ _ _ _ _ _ _ _ _ _ _ _ _ _ _ _ _ ?_
    intro w5 u6 u17 u18 u20 u116 u117 u118 u119 u120 u121 u122 u123 u124 u125 u126 u127 u128 u129 u130 u131 u132 u133 u134 u135 u136 u137 u138 u139 u140 u141 u142 u143 u144 u145 u146 u147 u148 u149 u150 u151 u152 u153 hb5
    simp only [Exit.then]
    apply_assumption
    exact meet_9 K w w5 HG.out (BW.out.trans (hb5.mono BW.out.size)) _ _ _ _ _ _ _ _ _ _ _ _ _ _ _ _ _ _ _ _ _ _ _ _ _ _ _ _ _ _ _ _ _ _ _ _ _ _ _ _ _ _ _ _ _ _ _ _ _ _ _ _ _ _ _ _ _ _ _ _ _ _ _ _ _ _ _ _ _ _ _ _ _ _ _ _ _ _ _ _ _ _ _ _ _ _ _ _ _ _ _ _ _ _ _ _ _ _ _ _ _ _ _ _ _ _ _ _ _ _ _ _ _ _ _ _ _ _ _ _ _ _ _ _ _ _ _ _ _ _ _ _ _ _ _ _ _ _ _ _ _ _ _ _ _ _ _ _ _ _ _ _ _ _ _ 
end Go.Proofs.YtbfecndhjlimaaaDoor.Pr
