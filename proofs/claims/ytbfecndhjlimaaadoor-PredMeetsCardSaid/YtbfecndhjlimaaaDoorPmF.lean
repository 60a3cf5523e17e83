/-
  The law PredMeets: its question whether both orders come out alike. Condition: the contracts of package pred.
-/
import Derived.Test.YtbfecndhjlimaaaDoorPmE
namespace Go.Proofs.YtbfecndhjlimaaaDoor.Pr
open Go.RowKit Go.Sort Go.Proofs.YtbfecndhjlimaaaDoor Go.Proofs.YtbfecndhjlimaaaDoor.Pu Go.Proofs.YtbfecndhjlimaaaDoor.Rw Go.Proofs.YtbfecndhjlimaaaDoor.Va Go.Proofs.YtbfecndhjlimaaaDoor.Kp Go.Proofs.YtbfecndhjlimaaaDoor.In

theorem fallsM (b : Nat) (n : ByteArray) (i : Int) : Fa.Falls [(b, n, i)] := List.pairwise_singleton _ _
theorem makeM_err {G : World → Prop} (K : POks G) (lv : Value) (l : List Cn) (k : Int) (at_ : Nat) (w : World) (hm : makeC l = .error (k, at_)) (hg : G w) (hl : RowC w lv (l.map r5)) (hs : SmallP l) (hgd : ∀ c ∈ l, goodC c = true) :
    Calls Tryd.prog 9 #[lv] w fun e w' => ∃ b v, e = .returned (.tuple #[.slice none 0 0, v]) ∧ Fa.Ch w' [(b, predTxt, (at_ : Int))] v (.iface 32 (.int .i64 k)) ∧ Below w.heap.size w w' :=
  (K.make lv l w hg hl hs hgd).mono fun e w' ⟨hb, h⟩ => by
    rw [hm] at h
    obtain ⟨b, v, h1, h2⟩ := h
    exact ⟨b, v, h1, h2, hb⟩
theorem sameM_re (pv qv : Value) (l : List C5) (w : World) (hp : RowC w pv l) (hq : RowC w qv l) (h : l.length ≤ 1000) (d : Nat) (os : Array Obj) :
    Calls Tryd.prog 15 #[pv, qv] (grow (redrawn w d) os) fun e w'' => e = .returned (.bool true) ∧ ∃ p : Regrown, w'' = grow (redrawn w p.d) p.os := by
  have h2 := sameC_any pv qv l l (grow (redrawn w d) os) (hp.on (below_regrown w d os)) (hq.on (below_regrown w d os)) (by omega) (by omega)
  rw [sameC_refl] at h2
  exact Calls.regrown_of h2
theorem kindM_re {G : World → Prop} (K : POks G) (b : Nat) (i : Int) (ev : Value) (w : World) (hg : G w) (hc : Fa.Ch w [(b, predTxt, i)] ev (.iface 32 (.int .i64 5))) (d : Nat) (os : Array Obj) :
    Calls Tryd.prog 19 #[ev] (grow (redrawn w d) os) fun e w'' => e = .returned (.int .i64 5) ∧ ∃ p : Regrown, w'' = grow (redrawn w p.d) p.os :=
  Calls.regrown_of (Fa.Kind_E _ _ 5 _ (K.eg _ (K.bel _ _ hg (below_regrown w d os))) (hc.bel (below_regrown w d os)) (fallsM _ _ _) (by simp))

set_option maxRecDepth 100000 in
set_option maxHeartbeats 4000000 in
theorem meet_7ok {G : World → Prop} (K : POks G) (w W : World) (hg : G w) (hb : Below w.heap.size w W) (v : Int) (h1 : -9223372036854775808 ≤ v) (h2 : v ≤ 9223372036854775807) (lo : Option Addr) (lc n : Nat) (l : List Cn) (hn : n = l.length) (h4 : n ≤ 4) (hl : RowC W (.slice lo n lc) (l.map r5)) (pv qv : Value) (m : List C5) (hm : m.length ≤ 1000) (hp : RowC W pv m) (hq : RowC W qv m) (hf : Fin3 W pv l) (u0 u2 u3 u4 u5 u6 u8 u9 u10 u11 u16 u17 u18 u19 u20 u21 u22 u23 u24 u25 u26 u27 u28 u29 u30 u31 u32 u33 u34 u35 u36 u37 u38 u39 u40 u41 u42 u43 u44 u45 u46 u47 u48 u49 u50 u51 u52 u53 u54 u55 u56 u57 u58 u59 u60 u61 u62 u63 u64 u65 u66 u67 u68 u69 u70 u71 u72 u73 u74 u75 u76 u77 u78 u79 u80 u81 u82 u83 u84 u85 u86 u87 u88 u89 u90 u91 u92 u93 u94 u95 u96 u97 u98 u99 u100 u101 u102 u103 u104 u105 u106 u107 u108 u109 u110 u111 u112 u113 u114 u115 u116 u117 u118 u119 u120 u121 u122 u123 u124 u125 u126 u127 u128 u129 u130 u131 u132 u133 u134 u135 u136 u137 u138 u139 u140 u141 u142 u143 u144 u145 u146 u147 u148 u149 u150 u151 u152 u153 u154 : Value) :
    Code.wp Tryd.prog meet7 (bodyPost Tryd.prog Tryd.f7 (PFQ w)) ⟨(u0 :: .int .i64 v :: u2 :: u3 :: u4 :: u5 :: u6 :: .slice lo n lc :: u8 :: u9 :: u10 :: u11 :: pv :: .nilIface :: qv :: .nilIface :: u16 :: u17 :: u18 :: u19 :: u20 :: u21 :: u22 :: u23 :: u24 :: u25 :: u26 :: u27 :: u28 :: u29 :: u30 :: u31 :: u32 :: u33 :: u34 :: u35 :: u36 :: u37 :: u38 :: u39 :: u40 :: u41 :: u42 :: u43 :: u44 :: u45 :: u46 :: u47 :: u48 :: u49 :: u50 :: u51 :: u52 :: u53 :: u54 :: u55 :: u56 :: u57 :: u58 :: u59 :: u60 :: u61 :: u62 :: u63 :: u64 :: u65 :: u66 :: u67 :: u68 :: u69 :: u70 :: u71 :: u72 :: u73 :: u74 :: u75 :: u76 :: u77 :: u78 :: u79 :: u80 :: u81 :: u82 :: u83 :: u84 :: u85 :: u86 :: u87 :: u88 :: u89 :: u90 :: u91 :: u92 :: u93 :: u94 :: u95 :: u96 :: u97 :: u98 :: u99 :: u100 :: u101 :: u102 :: u103 :: u104 :: u105 :: u106 :: u107 :: u108 :: u109 :: u110 :: u111 :: u112 :: u113 :: u114 :: u115 :: u116 :: u117 :: u118 :: u119 :: u120 :: u121 :: u122 :: u123 :: u124 :: u125 :: u126 :: u127 :: u128 :: u129 :: u130 :: u131 :: u132 :: u133 :: u134 :: u135 :: u136 :: u137 :: u138 :: u139 :: u140 :: u141 :: u142 :: u143 :: u144 :: u145 :: u146 :: u147 :: u148 :: u149 :: u150 :: u151 :: u152 :: u153 :: u154 :: []).toArray, []⟩ W := by
  have HG := Lib.hid hg
  have B0 := Lib.hid hb
  have HL := Lib.hid hl
  have HF := Lib.hid hf
  have H1 := Lib.hid h1
  have H2 := Lib.hid h2
  have C := Lib.hid (sameM_re pv qv m W hp hq hm)
  clear hg hb hl hf hp hq hm h1 h2
  conv => arg 2; whnf
  go_wp2_with fail
  refine wp_region_quiet_below (by kernel_rfl) (by kernel_rfl) ?_
  repeat (go_big_quiet_step (first | (with_reducible exact C.out _ _) | fail))
  refine wpQuiet_nil ?_
  intro _ hw'
  obtain ⟨⟨dq, osq⟩, hw''⟩ := hw'
  subst hw''
  have BR := below_regrown W dq osq
  have BZ := Lib.hid (B0.out.trans (BR.mono B0.out.size))
  have LZ := Lib.hid (HL.out.on BR)
  have FZ := Lib.hid (fin_on HF.out BR)
  clear BR
  go_upto_if 106 with (fail)
  refine wp_cond_false rfl ?_
  refine wp_skip ?_
  simp only [Exit.then]
  apply_assumption
  exact meet_8 K w _ HG.out BZ.out v H1.out H2.out lo lc n l hn h4 LZ.out pv FZ.out _ _ _ _ _ _ _ _ _ _ _ _ _ _ _ _ _ _ _ _ _ _ _ _ _ _ _ _ _ _ _ _ _ _ _ _ _ _ _ _ _ _ _ _ _ _ _ _ _ _ _ _ _ _ _ _ _ _ _ _ _ _ _ _ _ _ _ _ _ _ _ _ _ _ _ _ _ _ _ _ _ _ _ _ _ _ _ _ _ _ _ _ _ _ _ _ _ _ _ _ _ _ _ _ _ _ _ _ _ _ _ _ _ _ _ _ _ _ _ _ _ _ _ _ _ _ _ _ _ _ _ _ _ _ _ _ _ _ _ _ _ _ _ _ _ _ _ _ _ _ _ _ 

set_option maxRecDepth 100000 in
set_option maxHeartbeats 4000000 in
theorem meet_7err {G : World → Prop} (K : POks G) (w W : World) (hg : G w) (hb : Below w.heap.size w W) (v : Int) (h1 : -9223372036854775808 ≤ v) (h2 : v ≤ 9223372036854775807) (lo : Option Addr) (lc n : Nat) (l : List Cn) (hn : n = l.length) (h4 : n ≤ 4) (hl : RowC W (.slice lo n lc) (l.map r5)) (b c : Nat) (i : Int) (hc : Fa.Ch W [(b, predTxt, i)] (.iface 76 (.pointer (some ⟨b, 0, none⟩))) (.iface 32 (.int .i64 5))) (hf : Fin3 W (.slice none 0 0) l) (u0 u2 u3 u4 u5 u6 u8 u9 u10 u11 u16 u17 u18 u19 u20 u21 u22 u23 u24 u25 u26 u27 u28 u29 u30 u31 u32 u33 u34 u35 u36 u37 u38 u39 u40 u41 u42 u43 u44 u45 u46 u47 u48 u49 u50 u51 u52 u53 u54 u55 u56 u57 u58 u59 u60 u61 u62 u63 u64 u65 u66 u67 u68 u69 u70 u71 u72 u73 u74 u75 u76 u77 u78 u79 u80 u81 u82 u83 u84 u85 u86 u87 u88 u89 u90 u91 u92 u93 u94 u95 u96 u97 u98 u99 u100 u101 u102 u103 u104 u105 u106 u107 u108 u109 u110 u111 u112 u113 u114 u115 u116 u117 u118 u119 u120 u121 u122 u123 u124 u125 u126 u127 u128 u129 u130 u131 u132 u133 u134 u135 u136 u137 u138 u139 u140 u141 u142 u143 u144 u145 u146 u147 u148 u149 u150 u151 u152 u153 u154 : Value) :
    Code.wp Tryd.prog meet7 (bodyPost Tryd.prog Tryd.f7 (PFQ w)) ⟨(u0 :: .int .i64 v :: u2 :: u3 :: u4 :: u5 :: u6 :: .slice lo n lc :: u8 :: u9 :: u10 :: u11 :: .slice none 0 0 :: .iface 76 (.pointer (some ⟨b, 0, none⟩)) :: .slice none 0 0 :: .iface 76 (.pointer (some ⟨c, 0, none⟩)) :: u16 :: u17 :: u18 :: u19 :: u20 :: u21 :: u22 :: u23 :: u24 :: u25 :: u26 :: u27 :: u28 :: u29 :: u30 :: u31 :: u32 :: u33 :: u34 :: u35 :: u36 :: u37 :: u38 :: u39 :: u40 :: u41 :: u42 :: u43 :: u44 :: u45 :: u46 :: u47 :: u48 :: u49 :: u50 :: u51 :: u52 :: u53 :: u54 :: u55 :: u56 :: u57 :: u58 :: u59 :: u60 :: u61 :: u62 :: u63 :: u64 :: u65 :: u66 :: u67 :: u68 :: u69 :: u70 :: u71 :: u72 :: u73 :: u74 :: u75 :: u76 :: u77 :: u78 :: u79 :: u80 :: u81 :: u82 :: u83 :: u84 :: u85 :: u86 :: u87 :: u88 :: u89 :: u90 :: u91 :: u92 :: u93 :: u94 :: u95 :: u96 :: u97 :: u98 :: u99 :: u100 :: u101 :: u102 :: u103 :: u104 :: u105 :: u106 :: u107 :: u108 :: u109 :: u110 :: u111 :: u112 :: u113 :: u114 :: u115 :: u116 :: u117 :: u118 :: u119 :: u120 :: u121 :: u122 :: u123 :: u124 :: u125 :: u126 :: u127 :: u128 :: u129 :: u130 :: u131 :: u132 :: u133 :: u134 :: u135 :: u136 :: u137 :: u138 :: u139 :: u140 :: u141 :: u142 :: u143 :: u144 :: u145 :: u146 :: u147 :: u148 :: u149 :: u150 :: u151 :: u152 :: u153 :: u154 :: []).toArray, []⟩ W := by
  have HG := Lib.hid hg
  have B0 := Lib.hid hb
  have HL := Lib.hid hl
  have HF := Lib.hid hf
  have H1 := Lib.hid h1
  have H2 := Lib.hid h2
  have C := Lib.hid (sameM_re (.slice none 0 0) (.slice none 0 0) [] W (row_nil _) (row_nil _) (by simp))
  have CK := Lib.hid (kindM_re K b i _ W (K.bel _ _ hg hb) hc)
  clear hg hb hl hf hc h1 h2
  conv => arg 2; whnf
  go_wp2_with fail
  refine wp_region_quiet_below (by kernel_rfl) (by kernel_rfl) ?_
  repeat (go_big_quiet_step (first | (with_reducible exact C.out _ _) | (with_reducible exact CK.out _ _) | fail))
  refine wpQuiet_nil ?_
  intro _ hw'
  obtain ⟨⟨dq, osq⟩, hw''⟩ := hw'
  subst hw''
  have BR := below_regrown W dq osq
  have BZ := Lib.hid (B0.out.trans (BR.mono B0.out.size))
  have LZ := Lib.hid (HL.out.on BR)
  have FZ := Lib.hid (fin_on HF.out BR)
  clear BR
  go_upto_if 106 with (fail)
  refine wp_cond_false rfl ?_
  refine wp_skip ?_
  simp only [Exit.then]
  apply_assumption
  exact meet_8 K w _ HG.out BZ.out v H1.out H2.out lo lc n l hn h4 LZ.out _ FZ.out _ _ _ _ _ _ _ _ _ _ _ _ _ _ _ _ _ _ _ _ _ _ _ _ _ _ _ _ _ _ _ _ _ _ _ _ _ _ _ _ _ _ _ _ _ _ _ _ _ _ _ _ _ _ _ _ _ _ _ _ _ _ _ _ _ _ _ _ _ _ _ _ _ _ _ _ _ _ _ _ _ _ _ _ _ _ _ _ _ _ _ _ _ _ _ _ _ _ _ _ _ _ _ _ _ _ _ _ _ _ _ _ _ _ _ _ _ _ _ _ _ _ _ _ _ _ _ _ _ _ _ _ _ _ _ _ _ _ _ _ _ _ _ _ _ _ _ _ _ _ _ _ 

end Go.Proofs.YtbfecndhjlimaaaDoor.Pr
