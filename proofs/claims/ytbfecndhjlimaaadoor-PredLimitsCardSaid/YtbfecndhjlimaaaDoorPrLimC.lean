/-
  The law PredLimits: its last part. Condition: the contracts of package pred.
-/
import Derived.Test.YtbfecndhjlimaaaDoorPrLimB
namespace Go.Proofs.YtbfecndhjlimaaaDoor.Pr
open Go.RowKit Go.Sort Go.Proofs.YtbfecndhjlimaaaDoor Go.Proofs.YtbfecndhjlimaaaDoor.Pu Go.Proofs.YtbfecndhjlimaaaDoor.Rw Go.Proofs.YtbfecndhjlimaaaDoor.Va Go.Proofs.YtbfecndhjlimaaaDoor.Kp

noncomputable def lim13 : Code := afterN 13 (Tryd.f5.body.getD .skip)
theorem make_err {G : World → Prop} (K : POks G) (lv : Value) (l : List Cn) (k : Int) (at_ : Nat) (w : World) (hm : makeC l = .error (k, at_)) (hg : G w) (hl : RowC w lv (l.map r5)) (hs : SmallP l) (hgd : ∀ c ∈ l, goodC c = true) :
    Calls Tryd.prog 9 #[lv] w fun e w' => ∃ b v, e = .returned (.tuple #[.slice none 0 0, v]) ∧ Fa.Ch w' [(b, predTxt, (at_ : Int))] v (.iface 32 (.int .i64 k)) ∧ Below w.heap.size w w' :=
  (K.make lv l w hg hl hs hgd).mono fun e w' ⟨hb, h⟩ => by
    rw [hm] at h
    obtain ⟨b, v, h1, h2⟩ := h
    exact ⟨b, v, h1, h2, hb⟩
theorem falls1 (b : Nat) (n : ByteArray) (i : Int) : Fa.Falls [(b, n, i)] := List.pairwise_singleton _ _
set_option maxRecDepth 100000 in
set_option maxHeartbeats 4000000 in
theorem lim_13 {G : World → Prop} (K : POks G) (w W : World) (pv : Value) (c : Nat) (hc : c ≤ 4) (hg : G w) (hb : Below w.heap.size w W) (hp : RowC W pv ((many c 6).map r5)) (u0 u1 u2 u3 u4 u5 u6 u7 u8 u9 u10 u11 u12 u13 u14 u15 u16 u17 u18 u21 u22 u23 u24 u25 u26 u27 u28 u29 u30 u31 u32 u33 u34 u35 u36 u37 u38 u39 u40 u41 u42 u43 u44 u45 u46 u47 u48 u49 u50 u51 u52 u53 u54 u55 u56 u57 u58 u59 u60 u61 u62 u63 u64 u65 u66 u67 u68 u69 u70 u71 u72 u73 u74 u75 u76 u77 u78 u79 u80 u81 u82 u83 u84 u85 u86 u87 u88 u89 u90 u91 u92 u93 u94 u95 u96 u97 u98 u99 u100 u101 u102 u103 u104 u105 u106 u107 u108 u109 u110 u111 u112 u113 u114 u115 u116 u117 u118 u119 u120 u121 u122 u123 u124 u125 u126 u127 u128 u129 u130 u131 u132 u133 u134 u135 u136 u137 u138 u139 u140 u141 u142 u143 u144 u145 u146 u147 u148 u149 u150 u151 u152 u153 u154 u155 u156 u157 u158 u159 u160 u161 u162 u163 u164 u165 u166 : Value) :
    Code.wp Tryd.prog lim13 (bodyPost Tryd.prog Tryd.f5 (PFQ w)) ⟨(u0 :: u1 :: u2 :: u3 :: u4 :: u5 :: u6 :: u7 :: u8 :: u9 :: u10 :: u11 :: u12 :: u13 :: u14 :: u15 :: u16 :: u17 :: u18 :: pv :: .int .i64 (c : Nat) :: u21 :: u22 :: u23 :: u24 :: u25 :: u26 :: u27 :: u28 :: u29 :: u30 :: u31 :: u32 :: u33 :: u34 :: u35 :: u36 :: u37 :: u38 :: u39 :: u40 :: u41 :: u42 :: u43 :: u44 :: u45 :: u46 :: u47 :: u48 :: u49 :: u50 :: u51 :: u52 :: u53 :: u54 :: u55 :: u56 :: u57 :: u58 :: u59 :: u60 :: u61 :: u62 :: u63 :: u64 :: u65 :: u66 :: u67 :: u68 :: u69 :: u70 :: u71 :: u72 :: u73 :: u74 :: u75 :: u76 :: u77 :: u78 :: u79 :: u80 :: u81 :: u82 :: u83 :: u84 :: u85 :: u86 :: u87 :: u88 :: u89 :: u90 :: u91 :: u92 :: u93 :: u94 :: u95 :: u96 :: u97 :: u98 :: u99 :: u100 :: u101 :: u102 :: u103 :: u104 :: u105 :: u106 :: u107 :: u108 :: u109 :: u110 :: u111 :: u112 :: u113 :: u114 :: u115 :: u116 :: u117 :: u118 :: u119 :: u120 :: u121 :: u122 :: u123 :: u124 :: u125 :: u126 :: u127 :: u128 :: u129 :: u130 :: u131 :: u132 :: u133 :: u134 :: u135 :: u136 :: u137 :: u138 :: u139 :: u140 :: u141 :: u142 :: u143 :: u144 :: u145 :: u146 :: u147 :: u148 :: u149 :: u150 :: u151 :: u152 :: u153 :: u154 :: u155 :: u156 :: u157 :: u158 :: u159 :: u160 :: u161 :: u162 :: u163 :: u164 :: u165 :: u166 :: []).toArray, []⟩ W := by
  have HG := Lib.hid hg
  have B0 := Lib.hid hb
  have CM := Lib.hid (make_err K pv (many c 6) 5 (c + 1) W (many_err c hc) (K.bel _ _ hg hb) hp ⟨by rw [many_len]; decide, many_small (by decide)⟩ many_good)
  clear hg hb hp
  conv => arg 2; whnf
  go_wp2_with fail
  refine CM.out.mono ?_
  rintro e1 w1 ⟨b, v, rfl, hch, hb⟩
  rw [show ((c + 1 : Nat) : Int) = (c : Int) + 1 from rfl] at hch
  have B1 := Lib.hid (B0.out.trans (hb.mono B0.out.size))
  have C1 := Lib.hid hch
  have hch2 := hch
  obtain ⟨rfl, v', hv', _⟩ := hch2
  have CV := Lib.hid hv'
  clear hb hch hv' CM B0
  have CK := Fa.Kind_E _ _ 5 w1 (K.eg _ (K.bel _ _ HG.out B1.out)) C1.out (falls1 _ _ _) (by simp)
  go_wp2_with fail
  refine CK.mono ?_
  clear CK
  rintro e2 w2 ⟨rfl, hb⟩
  have B2 := Lib.hid (B1.out.trans (hb.mono B1.out.size))
  have C2 := Lib.hid (C1.out.bel hb)
  clear hb CV
  obtain ⟨_, v2, hv2, _⟩ := C2.out
  have CP := Fa.Place_F b predTxt ((c : Int) + 1) v2 w2 (K.eg _ (K.bel _ _ HG.out B2.out)) hv2
  clear hv2
  go_wp2_with fail
  refine CP.mono ?_
  clear CP
  rintro e3 w3 ⟨rfl, hb⟩
  have B3 := Lib.hid (B2.out.trans (hb.mono B2.out.size))
  have C3 := Lib.hid (C2.out.bel hb)
  clear hb B1 C1 B2 C2
  have CT := Fa.Trace_E _ _ 5 w3 (K.eg _ (K.bel _ _ HG.out B3.out)) C3.out (falls1 _ _ _) (by simp)
  go_wp2_with fail
  refine CT.mono ?_
  clear CT
  rintro e4 w4 ⟨s, rfl, hown, hb⟩
  have B4 := Lib.hid (B3.out.trans (hb.mono B3.out.size))
  clear hb B3 C3
  obtain ⟨g, cap, hs⟩ : ∃ g cap, s = .slice (some ⟨g, 0, none⟩) 1 cap := by
    rcases hown.2 with ⟨_, h0⟩ | ⟨g, cap, cur, hv, _⟩
    · simp at h0
    · exact ⟨g, cap, by simpa using hv⟩
  subst hs
  have k0 : w4.cell? ⟨g, 0, none⟩ = some (.string predTxt) := by
    have h := hown.cells (g := g) rfl 0 (.string predTxt) rfl
    rwa [add_zero] at h
  have S4 := Lib.hid (Fa.Same_true [predTxt] g w4.heap.size cap 1 (w4.alloc (.cells #[.string predTxt] 9)) (by decide)
    (fun j hj => by
      obtain rfl : j = 0 := by simpa using hj
      rw [World.cell?_alloc_lt _ _ _ (Fa.lt_of_cell k0)]; exact k0)
    (fun j hj => by
      obtain rfl : j = 0 := by simpa using hj
      rw [World.cell?_alloc_at _ _ _ _ rfl]; rfl))
  have B5 := Lib.hid (B4.out.alloc B4.out.size (.cells #[.string predTxt] 9))
  clear hown k0
  go_wp2_with fail
  refine S4.out.mono ?_
  rintro e6 w6 ⟨rfl, hb⟩
  have B6 := Lib.hid (B5.out.trans (hb.mono B5.out.size))
  clear hb
  have CR := pruns_any K w6 (K.bel _ _ HG.out B6.out)
  go_wp2_with fail
  refine CR.mono ?_
  clear CR
  rintro e7 w7 ⟨rfl, hb⟩
  have B7 := Lib.hid (B6.out.trans (hb.mono B6.out.size))
  clear hb
  go_wp2
  go_ret
  exact ⟨rfl, B7.out⟩
end Go.Proofs.YtbfecndhjlimaaaDoor.Pr
