/-
  GraphTells behind its graph: may it be, or where it does wrong; who is near, how far. Conditions: as the theorem states them.
-/
import Derived.Test.YtbnfndcbhnjnaaaDoorGsTells15
namespace Go.Proofs.YtbnfndcbhnjnaaaDoor.Gr
open Go.RowKit Go.Sort Go.Proofs.YtbnfndcbhnjnaaaDoor Go.Proofs.YtbnfndcbhnjnaaaDoor.Rw Go.Proofs.YtbnfndcbhnjnaaaDoor.Wi

theorem few_of {n : Int} {l : List Lk} (h : l.length ≤ 20) (hn : 1 ≤ n ∧ n ≤ 64) : Few n l := ⟨hn.1, hn.2, by omega⟩
/-- The place that the law finds. -/
def AtIs (n : Int) (l : List Lk) (k : Nat) (z : Int) : Prop := (z = -1 ∧ Good n (l.take k)) ∨ ∃ j : Nat, j < k ∧ z = j ∧ FirstBad n l j
theorem AtIs.bad {n : Int} {l : List Lk} {z r : Int} (h : AtIs n l l.length z) (hb : BadAt n l r) : r = z ∨ ¬ Few n l := by
  rcases h with ⟨rfl, h1⟩ | ⟨j, _, rfl, h1⟩
  · rw [List.take_length] at h1
    exact Or.inl (hb.far h1)
  · by_cases hf : Few n l
    · exact Or.inl (hb.first hf h1)
    · exact Or.inr hf
/-- The brokers ahead of v that a link joins with x. -/
def nrL (l : List Lk) (x : Int) : Nat → List Int
  | 0 => []
  | v + 1 => nrL l x v ++ (if adjB l x (v : Int) = true then [(v : Int)] else [])
theorem nr_mem {l : List Lk} {x : Int} : ∀ {v : Nat} {u : Int}, u ∈ nrL l x v ↔ (0 ≤ u ∧ u < (v : Int)) ∧ Adj l x u
  | 0, u => by simp [nrL]; omega
  | v + 1, u => by
    unfold nrL
    rw [List.mem_append, nr_mem]
    by_cases h : adjB l x (v : Int) = true
    · rw [if_pos h]
      simp only [List.mem_singleton]
      constructor
      · rintro (⟨h1, h2⟩ | rfl)
        · exact ⟨by omega, h2⟩
        · exact ⟨by omega, adjB_iff.1 h⟩
      · rintro ⟨h1, h2⟩
        by_cases e : u = (v : Int)
        · exact Or.inr e
        · exact Or.inl ⟨by omega, h2⟩
    · rw [if_neg h]
      simp only [List.not_mem_nil, or_false]
      constructor
      · rintro ⟨h1, h2⟩
        exact ⟨by omega, h2⟩
      · rintro ⟨h1, h2⟩
        refine ⟨⟨h1.1, ?_⟩, h2⟩
        by_cases e : u = (v : Int)
        · rw [e] at h2
          exact absurd (adjB_iff.2 h2) h
        · omega
theorem nr_rise (l : List Lk) (x : Int) : ∀ v : Nat, (nrL l x v).Pairwise (· < ·)
  | 0 => List.Pairwise.nil
  | v + 1 => by
    unfold nrL
    refine List.pairwise_append.2 ⟨nr_rise l x v, by split <;> simp, fun a ha b hb => ?_⟩
    have h1 := (nr_mem.1 ha).1
    split at hb
    · obtain rfl : b = (v : Int) := by simpa using hb
      omega
    · simp at hb
theorem nr_near {N : Nat} {l : List Lk} (hok : Lok N l) (x : Int) : NearIs l x (nrL l x N) := ⟨nr_rise l x N, fun u => by
  rw [nr_mem]
  exact ⟨fun h => h.2, fun h => ⟨(hok.adj h).2, h⟩⟩⟩
theorem nr_len (l : List Lk) (x : Int) : ∀ v : Nat, (nrL l x v).length ≤ v
  | 0 => Nat.le_refl _
  | v + 1 => by
    have := nr_len l x v
    unfold nrL
    split <;> simp <;> omega
theorem near_none {n : Int} {l : List Lk} (hok : Lok n l) {r : List Int} (h : NearIs l (-1) r) : r = [] := by
  cases r with
  | nil => rfl
  | cons y t =>
    have h1 := (h.2 y).1 (List.mem_cons_self ..)
    have h2 := (hok.adj h1).1
    omega
theorem reach_near {N : Nat} {l : List Lk} {a : Nat} {w w' : World} {e : Ending} (h : ReachQ w N l a e w') {y : Nat} (hy : y < N) {z : Int} (hz : FarIs N l a y z) : (∃ g p, e = .returned (.slice (some ⟨g, 0, none⟩) N N) ∧ (∀ w2, (Instr.indexAt 30 (.slice (some ⟨g, 0, none⟩) N N) (.int .i64 y)).run Tryd.prog w2 = .ok (.pointer (some p)) w2) ∧ w'.cell? p = some (.int .i64 z)) ∧ Below w.heap.size w w' := by
  obtain ⟨⟨g, r, rfl, _, hr, hl, hf⟩, hb⟩ := h
  obtain ⟨z', h1, h2⟩ := hf y hy
  obtain rfl := h2.uniq hz
  obtain ⟨p, ix, _, px⟩ := elI hr rfl hl h1
  exact ⟨⟨g, p, rfl, ix, px _ (Below.refl _ _)⟩, hb⟩

theorem twice_snoc {pre : List Lk} {x y : Lk} : twiceB (pre ++ [x]) y = (twiceB pre y || (decide (x = y) || decide (x = (y.2, y.1)))) := by
  rw [Bool.eq_iff_iff]
  unfold twiceB
  simp only [Bool.or_eq_true, decide_eq_true_eq, List.mem_append, List.mem_singleton]
  constructor
  · rintro ((h | h) | (h | h))
    · exact Or.inl (Or.inl h)
    · exact Or.inr (Or.inl h.symm)
    · exact Or.inl (Or.inr h)
    · exact Or.inr (Or.inr h.symm)
  · rintro ((h | h) | (h | h))
    · exact Or.inl (Or.inl h)
    · exact Or.inr (Or.inl h)
    · exact Or.inl (Or.inr h.symm)
    · exact Or.inr (Or.inr h.symm)
theorem adjB_snoc {l : List Lk} {j : Nat} {z : Lk} (hz : l[j]? = some z) {x v : Int} : adjB (l.take (j + 1)) x v = (adjB (l.take j) x v || (decide (z = (x, v)) || decide (z = (v, x)))) := by
  rw [take_succ_of hz, Bool.eq_iff_iff, adjB_iff]
  simp only [Bool.or_eq_true, decide_eq_true_eq, adjB_iff, Adj, List.mem_append, List.mem_singleton]
  constructor
  · rintro ((h | h) | (h | h))
    · exact Or.inl (Or.inl h)
    · exact Or.inr (Or.inl h.symm)
    · exact Or.inl (Or.inr h)
    · exact Or.inr (Or.inr h.symm)
  · rintro ((h | h) | (h | h))
    · exact Or.inl (Or.inl h)
    · exact Or.inr (Or.inl h)
    · exact Or.inl (Or.inr h.symm)
    · exact Or.inr (Or.inr h.symm)
noncomputable def tells5 : Code := afterN 5 (Tryd.f4.body.getD .skip)
set_option maxRecDepth 100000 in
set_option maxHeartbeats 8000000 in
theorem tells_5 (w W : World) (n : Int) (l : List Lk) (lo : Option Addr) (lc gb : Nat) (own : Bool) (a b : Int) (u0 u1 u5 u6 u7 u8 u9 u10 u12 u13 u14 u15 u16 u17 u18 u19 u20 u21 u22 u23 u24 u25 u26 u27 u28 u29 u30 u31 u32 u33 u34 u35 u36 u37 u38 u39 u40 u41 u42 u43 u44 u45 u46 u47 u48 u49 u50 u51 u52 u53 u54 u55 u56 u57 u58 u59 u60 u61 u62 u63 u64 u65 u66 u67 u68 u69 u70 u71 u72 u73 u74 u75 u76 u77 u78 u79 u80 u81 u82 u83 u84 u85 u86 u87 u88 u89 u90 u91 u92 u93 u94 u95 u96 u97 u98 u99 u100 u101 u102 u103 u104 u105 u106 u107 u108 u109 u110 u111 u112 u113 u114 u115 u116 u117 u118 u119 u120 u121 u122 u123 u124 u125 u126 u127 u128 u129 u130 u131 u132 u133 u134 u135 u136 u137 u138 u139 u140 u141 u142 u143 u144 u145 u146 u147 u148 u149 u150 u151 u152 u153 u154 u155 u156 u157 u158 u159 u160 u161 u162 u163 u164 u165 u166 u167 u168 u169 u170 u171 u172 u173 u174 u175 u176 u177 u178 u179 u180 u181 u182 u183 u184 u185 u186 u187 u188 u189 u190 u191 u192 u193 u194 u195 u196 u197 u198 u199 u200 u201 u202 u203 u204 u205 u206 u207 u208 u209 u210 u211 u212 u213 u214 u215 u216 u217 u218 u219 u220 u221 u222 u223 u224 u225 u226 u227 u228 u229 u230 u231 u232 u233 u234 u235 u236 u237 u238 : Value)
    (hb : Below w.heap.size w W) (hg : GE W) (hx : Box W gb #[.int .i64 n, .slice lo l.length lc] 25) (hr : RowK W (.slice lo l.length lc) l) (h20 : l.length ≤ 20) (hn64 : I64 n) (hown : own = true → RightG n l) (ha : I64 a) (hbb : I64 b) :
    Code.wp Tryd.prog tells5 (bodyPost Tryd.prog Tryd.f4 fun e w' => e = .returned (.bool true) ∧ Below w.heap.size w w') ⟨(u0 :: u1 :: .bool own :: .int .i64 a :: .int .i64 b :: u5 :: u6 :: u7 :: u8 :: u9 :: u10 :: .pointer (some ⟨gb, 0, none⟩) :: u12 :: u13 :: u14 :: u15 :: u16 :: u17 :: u18 :: u19 :: u20 :: u21 :: u22 :: u23 :: u24 :: u25 :: u26 :: u27 :: u28 :: u29 :: u30 :: u31 :: u32 :: u33 :: u34 :: u35 :: u36 :: u37 :: u38 :: u39 :: u40 :: u41 :: u42 :: u43 :: u44 :: u45 :: u46 :: u47 :: u48 :: u49 :: u50 :: u51 :: u52 :: u53 :: u54 :: u55 :: u56 :: u57 :: u58 :: u59 :: u60 :: u61 :: u62 :: u63 :: u64 :: u65 :: u66 :: u67 :: u68 :: u69 :: u70 :: u71 :: u72 :: u73 :: u74 :: u75 :: u76 :: u77 :: u78 :: u79 :: u80 :: u81 :: u82 :: u83 :: u84 :: u85 :: u86 :: u87 :: u88 :: u89 :: u90 :: u91 :: u92 :: u93 :: u94 :: u95 :: u96 :: u97 :: u98 :: u99 :: u100 :: u101 :: u102 :: u103 :: u104 :: u105 :: u106 :: u107 :: u108 :: u109 :: u110 :: u111 :: u112 :: u113 :: u114 :: u115 :: u116 :: u117 :: u118 :: u119 :: u120 :: u121 :: u122 :: u123 :: u124 :: u125 :: u126 :: u127 :: u128 :: u129 :: u130 :: u131 :: u132 :: u133 :: u134 :: u135 :: u136 :: u137 :: u138 :: u139 :: u140 :: u141 :: u142 :: u143 :: u144 :: u145 :: u146 :: u147 :: u148 :: u149 :: u150 :: u151 :: u152 :: u153 :: u154 :: u155 :: u156 :: u157 :: u158 :: u159 :: u160 :: u161 :: u162 :: u163 :: u164 :: u165 :: u166 :: u167 :: u168 :: u169 :: u170 :: u171 :: u172 :: u173 :: u174 :: u175 :: u176 :: u177 :: u178 :: u179 :: u180 :: u181 :: u182 :: u183 :: u184 :: u185 :: u186 :: u187 :: u188 :: u189 :: u190 :: u191 :: u192 :: u193 :: u194 :: u195 :: u196 :: u197 :: u198 :: u199 :: u200 :: u201 :: u202 :: u203 :: u204 :: u205 :: u206 :: u207 :: u208 :: u209 :: u210 :: u211 :: u212 :: u213 :: u214 :: u215 :: u216 :: u217 :: u218 :: u219 :: u220 :: u221 :: u222 :: u223 :: u224 :: u225 :: u226 :: u227 :: u228 :: u229 :: u230 :: u231 :: u232 :: u233 :: u234 :: u235 :: u236 :: u237 :: u238 :: []).toArray, []⟩ W := by
  obtain ⟨m, hm⟩ : ∃ m, m = l.length := ⟨_, rfl⟩
  rw [← hm] at hr hx
  have B0 := Lib.hid hb
  have E0 := Lib.hid hg
  have X0 := Lib.hid hx
  have R0 := Lib.hid hr
  have HM := Lib.hid hm
  have OW := Lib.hid hown
  have h20' : m ≤ 20 := by omega
  have CK := Lib.hid (check_ok n (.slice lo m lc) l W hr hn64)
  have a0 := hx.cell 0
  have a1 := hx.cell 1
  simp only [List.getElem?_toArray, List.getElem?_cons_zero, List.getElem?_cons_succ] at a0 a1
  have hq1 := @run_eql_held_nil Tryd.prog
  have hq2 := @run_eql_nil_nil
  have IA := Lib.hid ha
  have IB := Lib.hid hbb
  have NN := Lib.hid hn64
  have L20 := Lib.hid h20
  clear hb hg hx hr hm hown ha hbb hn64 h20
  conv => arg 2; whnf
  go_wp2_with fail
  refine CK.out.mono ?_
  rintro e1 w1 ⟨hb, hcase⟩
  have B1 := Lib.hid (B0.out.trans (hb.mono B0.out.size))
  have E1 := Lib.hid (E0.out.on hb)
  have X1 := Lib.hid (X0.out.on hb)
  have R1 := Lib.hid (R0.out.on hb)
  have RK := Lib.hid (right_any n (.slice lo m lc) l w1 R1.out NN.out)
  clear hb CK a0 a1 B0 E0 X0 R0
  have a0 := X1.out.cell 0
  have a1 := X1.out.cell 1
  simp only [List.getElem?_toArray, List.getElem?_cons_zero, List.getElem?_cons_succ] at a0 a1
  rcases hcase with ⟨hri, rfl⟩ | ⟨r, bb, v, hbad, rfl, hch⟩
  · have HRI := Lib.hid hri
    clear hri
    go_wp2_with fail
    refine RK.out.mono ?_
    rintro e2 w2 ⟨⟨bo, rfl, hbo⟩, hb⟩
    obtain rfl : bo = true := hbo.2 HRI.out
    have B2 := Lib.hid (B1.out.trans (hb.mono B1.out.size))
    have E2 := Lib.hid (E1.out.on hb)
    have X2 := Lib.hid (X1.out.on hb)
    have R2 := Lib.hid (R1.out.on hb)
    clear hb hbo RK a0 a1 B1 E1 X1 R1 OW
    have a0 := cell_regrown (X2.out.cell 0)
    have a1 := cell_regrown (X2.out.cell 1)
    obtain ⟨N, rfl⟩ : ∃ N : Nat, n = N := ⟨n.toNat, by have := HRI.out.lo; omega⟩
    have hN1 : 1 ≤ N := by have := HRI.out.lo; omega
    have hN64 : N ≤ 64 := by have := HRI.out.hi; omega
    have W1 := Lib.hid (within_re a 0 ((N : Int) - 1) w2 (by omega) (by omega) (by omega) IA.out)
    have W2 := Lib.hid (within_re b (-1) N w2 (by omega) (by omega) (by omega) IB.out)
    have hwn : IntKind.i64.wrap ((N : Int) - 1) = (N : Int) - 1 := IntWalk.i64_in _ (by omega)
    have bx := within_bd a 0 ((N : Int) - 1) (by omega)
    have by_ := within_bd b (-1) N (by omega)
    obtain ⟨x, hxx⟩ : ∃ x : Nat, within a 0 ((N : Int) - 1) = x := ⟨(within a 0 ((N : Int) - 1)).toNat, by omega⟩
    rw [hxx] at W1 bx
    generalize within b (-1) N = y at *
    clear hxx
    rcases own with _ | _
    all_goals
      go_upto_region 25 with fail
      refine wp_region_quiet_below (by kernel_rfl) (by kernel_rfl) ?_
      repeat (go_big_quiet_step (first | (with_reducible exact W1.out _ _) | (with_reducible exact W2.out _ _)))
      refine wpQuiet_nil ?_
      intro _ hw'
      obtain ⟨⟨dq, osq⟩, hw''⟩ := hw'
      subst hw'' 
      have HR := Lib.hid (below_regrown w2 dq osq)
      have B3 := Lib.hid (B2.out.trans (HR.out.mono B2.out.size))
      have E3 := Lib.hid (E2.out.on HR.out)
      have X3 := Lib.hid (X2.out.on HR.out)
      have R3 := Lib.hid (R2.out.on HR.out)
      clear HR B2 E2 X2 R2 W1 W2 hwn a0 a1
      generalize grow (redrawn w2 dq) osq = w3 at *
      have a0 := X3.out.cell 0
      have a1 := X3.out.cell 1
      simp only [List.getElem?_toArray, List.getElem?_cons_zero, List.getElem?_cons_succ] at a0 a1
      go_wp2
      clear a0 a1
      go_loopw [22, 165] (fun nv i wr => ∃ v : Nat, v ≤ N ∧ i = .int .i64 v ∧ Below w3.heap.size w3 wr ∧ OwnI wr w3.heap.size nv (nrL l x v)) (fun _ i _ => N - (intOf i).toNat)
      case atStart => exact ⟨0, Nat.zero_le _, rfl, Below.refl _ _, own_nil _ _⟩
      case round =>
        obtain ⟨v, hv, rfl, hb, ho⟩ := hrel
        have HB := Lib.hid hb
        have HO := Lib.hid ho
        have X4 := Lib.hid (X3.out.on hb)
        have R4 := Lib.hid (R3.out.on hb)
        have a0 := X4.out.cell 0
        have a1 := X4.out.cell 1
        simp only [List.getElem?_toArray, List.getElem?_cons_zero, List.getElem?_cons_succ] at a0 a1
        clear hb ho
        by_cases hltv : v < N
        · go_wp2
          obtain ⟨wo, rfl⟩ : ∃ wo : World, wo = wr := ⟨_, rfl⟩
          clear a0 a1
          go_loopw [24, 171] (fun iv i wr => ∃ j : Nat, j ≤ m ∧ iv = .bool (adjB (l.take j) x v) ∧ i = .int .i64 j ∧ Below wo.heap.size wo wr) (fun _ i _ => m - (intOf i).toNat)
          case atStart => exact ⟨0, Nat.zero_le _, by simp [adjB], rfl, Below.refl _ _⟩
          case round =>
            obtain ⟨j, hj, rfl, rfl, hb⟩ := hrel
            have HC := Lib.hid hb
            clear hb
            by_cases hltj : j < m
            · obtain ⟨z, hz⟩ : ∃ z, l[j]? = some z := ⟨_, List.getElem?_eq_getElem (by rw [← HM.out]; exact hltj)⟩
              obtain ⟨pp, ix, px⟩ := elK (R4.out.on HC.out) rfl HM.out.symm hz
              obtain ⟨p0, p1⟩ := px _ (Below.refl _ _)
              have BN := Lib.hid (HC.out.alloc HC.out.size (.cells #[.int .i64 z.1, .int .i64 z.2] 22))
              obtain ⟨o1, ho1⟩ : ∃ o, adjB (l.take j) x v = o := ⟨_, rfl⟩
              obtain ⟨r1, hr1⟩ : ∃ r, decide (z = ((x : Int), (v : Int))) = r := ⟨_, rfl⟩
              obtain ⟨r2, hr2⟩ : ∃ r, decide (z = ((v : Int), (x : Int))) = r := ⟨_, rfl⟩
              have e1 := eqlK z (x, v) r1 hr1
              have e2 := eqlK z (v, x) r2 hr2
              have NX := Lib.hid (show adjB (l.take (j + 1)) x v = (o1 || (r1 || r2)) by
                rw [← ho1, ← hr1, ← hr2]
                exact adjB_snoc hz)
              rw [ho1]
              clear px hz ho1 hr1 hr2
              rcases o1 with _ | _
              · rcases r1 with _ | _
                · rcases r2 with _ | _
                  all_goals
                    go_wp2
                    go_roundw
                    case rel => exact ⟨j + 1, by omega, by rw [NX.out]; rfl, by go_num, BN.out⟩
                    case measure => simp [intOf]; omega
                · go_wp2
                  go_roundw
                  case rel => exact ⟨j + 1, by omega, by rw [NX.out]; rfl, by go_num, BN.out⟩
                  case measure => simp [intOf]; omega
              · go_wp2
                go_roundw
                case rel => exact ⟨j + 1, by omega, by rw [NX.out]; rfl, by go_num, BN.out⟩
                case measure => simp [intOf]; omega
            · obtain rfl : j = m := by omega
              rw [List.take_of_length_le (by rw [HM.out]; exact Nat.le_refl _)]
              obtain ⟨o1, ho1⟩ : ∃ o, adjB l x v = o := ⟨_, rfl⟩
              have NX := Lib.hid (show nrL l x (v + 1) = nrL l x v ++ (if o1 = true then [(v : Int)] else []) by rw [← ho1]; rfl)
              have B5 := Lib.hid (HB.out.trans (HC.out.mono HB.out.size))
              have O5 := Lib.hid (own_on HO.out HC.out)
              have X5 := Lib.hid (X4.out.on HC.out)
              have R5 := Lib.hid (R4.out.on HC.out)
              have LE := Lib.hid (nr_len l x v)
              rw [ho1]
              have HO1 := Lib.hid ho1
              clear ho1 HO X4 R4 HB
              rcases o1 with _ | _
              · have a0 := X5.out.cell 0
                have a1 := X5.out.cell 1
                simp only [List.getElem?_toArray, List.getElem?_cons_zero, List.getElem?_cons_succ] at a0 a1
                have CL := Lib.hid (linked_any N (.slice lo j lc) l x v wr R5.out HRI.out.ok)
                rw [HO1.out] at CL
                go_wp2_with fail
                refine CL.out.mono ?_
                rintro e6 w6 ⟨rfl, hb6⟩
                have B6 := Lib.hid (B5.out.trans (hb6.mono B5.out.size))
                have O6 := Lib.hid (show OwnI w6 w3.heap.size u22 (nrL l x (v + 1)) by rw [NX.out]; simpa using own_on O5.out hb6)
                clear hb6 a0 a1 CL
                go_wp2
                go_roundw
                case rel => exact ⟨v + 1, by omega, by go_num, B6.out, O6.out⟩
                case measure => simp [intOf]; omega
              · have O5' := own_on O5.out ((Below.refl wr.heap.size wr).alloc (Nat.le_refl _) (.cells #[.int .i64 v] 3))
                obtain ⟨v7, w7, r7, o7, g7⟩ := appI w3.heap.size O5' (row_oneI wr v) (by have := LE.out; omega) (by simp) (by have := B5.out.size; simp; omega)
                have B7 := Lib.hid ((B5.out.alloc B5.out.size (.cells #[.int .i64 v] 3)).grown g7 (by have := B5.out.size; simp; omega) (fun i hi => (O5'.lt i hi).1))
                have X7 := Lib.hid (X3.out.on B7.out)
                have R7 := Lib.hid (R3.out.on B7.out)
                have O7 := Lib.hid o7
                have a0 := X7.out.cell 0
                have a1 := X7.out.cell 1
                simp only [List.getElem?_toArray, List.getElem?_cons_zero, List.getElem?_cons_succ] at a0 a1
                have CL := Lib.hid (linked_any N (.slice lo j lc) l x v w7 R7.out HRI.out.ok)
                rw [HO1.out] at CL
                clear O5' o7 g7
                go_wp2_with (first | (at_builtin; refine wpList_append_run rfl _ _ 30 rfl rfl rfl r7 ?_) | fail)
                refine CL.out.mono ?_
                rintro e6 w6 ⟨rfl, hb6⟩
                have B6 := Lib.hid (B7.out.trans (hb6.mono B7.out.size))
                have O6 := Lib.hid (show OwnI w6 w3.heap.size v7 (nrL l x (v + 1)) by rw [NX.out]; exact own_on O7.out hb6)
                clear hb6 a0 a1 CL r7
                go_wp2
                go_roundw
                case rel => exact ⟨v + 1, by omega, by go_num, B6.out, O6.out⟩
                case measure => simp [intOf]; omega
        · obtain rfl : v = N := by omega
          have NR := Lib.hid (nr_near HRI.out.ok (x : Int))
          have NW := Lib.hid (Row.of_own HO.out)
          have B4 := Lib.hid (B3.out.trans (HB.out.mono B3.out.size))
          have E4 := Lib.hid (E3.out.on HB.out)
          have LE := Lib.hid (nr_len l x v)
          generalize nrL l x v = nl at *
          clear HO B3 E3 X3 R3 HB
          obtain ⟨z, hz⟩ := far_ex v l x y
          have FZ := Lib.hid hz
          clear hz
          by_cases hy : 0 ≤ y ∧ y < (v : Int)
          · have d1 : decide (y ≥ 0) = true := decide_eq_true hy.1
            have d2 : decide (y < (v : Int)) = true := decide_eq_true hy.2
            obtain ⟨yn, rfl⟩ : ∃ yn : Nat, y = yn := ⟨y.toNat, by omega⟩
            have RC := Lib.hid ((reach_any v (.slice lo m lc) l x wr R4.out (by have := L20.out; omega) HRI.out.ok hN64 (by omega)).mono fun _ _ h => reach_near h (y := yn) (by omega) FZ.out)
            go_wp2_with fail
            refine RC.out.mono ?_
            rintro e5 w5 ⟨⟨rg, rp, rfl, ixr, cr⟩, hb5⟩
            have X5 := Lib.hid (X4.out.on hb5)
            have R5 := Lib.hid (R4.out.on hb5)
            have E5 := Lib.hid (E4.out.on hb5)
            have N5 := Lib.hid (NW.out.on hb5)
            have B5 := Lib.hid (B4.out.trans (hb5.mono B4.out.size))
            clear RC hb5 a0 a1 X4 R4 E4 NW B4 d1 d2
            have a0 := X5.out.cell 0
            have a1 := X5.out.cell 1
            simp only [List.getElem?_toArray, List.getElem?_cons_zero, List.getElem?_cons_succ] at a0 a1
            have C5 := Lib.hid (near_ok v (.slice lo m lc) l x w5 R5.out ⟨HRI.out.ok, HRI.out.simp⟩ (by have := L20.out; omega))
            go_wp2_with fail
            refine C5.out.mono ?_
            rintro e6 w6 ⟨⟨nv6, r6, rfl, hr6, hn6⟩, hb6⟩
            obtain rfl := hn6.uniq NR.out
            have M6 := Lib.hid (Row.of_own hr6)
            have N6 := Lib.hid (N5.out.on hb6)
            have X6 := Lib.hid (X5.out.on hb6)
            have R6 := Lib.hid (R5.out.on hb6)
            have E6 := Lib.hid (E5.out.on hb6)
            have B6 := Lib.hid (B5.out.trans (hb6.mono B5.out.size))
            clear a0 a1 C5 hr6 hn6 hb6 X5 R5 E5 N5 B5
            have C6 := Lib.hid (sameI_any nv6 _ r6 w6 M6.out N6.out (by have := LE.out; omega))
            go_wp2_with fail
            refine C6.out.mono ?_
            rintro e7 w7 ⟨rfl, hb7⟩
            have X7 := Lib.hid (X6.out.on hb7)
            have R7 := Lib.hid (R6.out.on hb7)
            have E7 := Lib.hid (E6.out.on hb7)
            have B7 := Lib.hid (B6.out.trans (hb7.mono B6.out.size))
            clear C6 hb7 X6 R6 E6 B6 M6 N6
            have a0 := X7.out.cell 0
            have a1 := X7.out.cell 1
            simp only [List.getElem?_toArray, List.getElem?_cons_zero, List.getElem?_cons_succ] at a0 a1
            have C7 := Lib.hid (far_val FZ.out HRI.out ⟨by omega, by omega⟩ w7 R7.out)
            go_wp2_with fail
            refine C7.out.mono ?_
            rintro e8 w8 ⟨rfl, hb8⟩
            have X8 := Lib.hid (X7.out.on hb8)
            have R8 := Lib.hid (R7.out.on hb8)
            have E8 := Lib.hid (E7.out.on hb8)
            have B8 := Lib.hid (B7.out.trans (hb8.mono B7.out.size))
            clear C7 hb8 a0 a1 X7 R7 E7 B7
            have a0 := X8.out.cell 0
            have a1 := X8.out.cell 1
            simp only [List.getElem?_toArray, List.getElem?_cons_zero, List.getElem?_cons_succ] at a0 a1
            have C8 := Lib.hid (near_ok v (.slice lo m lc) l (-1) w8 R8.out ⟨HRI.out.ok, HRI.out.simp⟩ (by have := L20.out; omega))
            go_wp2_with fail
            refine C8.out.mono ?_
            rintro e9 w9 ⟨⟨nv9, r9, rfl, hr9, hn9⟩, hb9⟩
            obtain rfl := near_none HRI.out.ok hn9
            obtain ⟨no, nc, rfl⟩ := (Row.of_own hr9).len
            have E9 := Lib.hid (E8.out.on hb9)
            have B9 := Lib.hid (B8.out.trans (hb9.mono B8.out.size))
            clear C8 hr9 hn9 hb9 a0 a1 X8 R8 E8 B8
            go_wp2_with fail
            refine (runs_any w9 E9.out.eg).mono ?_
            rintro e10 w10 ⟨rfl, hb10⟩
            have B10 := Lib.hid (B9.out.trans (hb10.mono B9.out.size))
            clear hb10
            go_wp2
            go_ret
            exact ⟨rfl, B10.out⟩
          · have EZ : z = -1 := FZ.out.uniq (not_range HRI.out.ok hy)
            subst EZ
            have dd : decide (y ≥ 0) = false ∨ (decide (y ≥ 0) = true ∧ decide (y < (v : Int)) = false) := by
              by_cases h1 : 0 ≤ y
              · exact Or.inr ⟨decide_eq_true h1, decide_eq_false (fun h2 => hy ⟨h1, h2⟩)⟩
              · exact Or.inl (decide_eq_false h1)
            have X5 := Lib.hid X4.out
            have R5 := Lib.hid R4.out
            have E5 := Lib.hid E4.out
            have N5 := Lib.hid NW.out
            have B5 := Lib.hid B4.out
            obtain ⟨w5, rfl⟩ : ∃ w5 : World, w5 = wr := ⟨_, rfl⟩
            clear a0 a1 X4 R4 E4 NW B4
            rcases dd with d1 | ⟨d1, d2⟩
            all_goals
              have a0 := X5.out.cell 0
              have a1 := X5.out.cell 1
              simp only [List.getElem?_toArray, List.getElem?_cons_zero, List.getElem?_cons_succ] at a0 a1
              have C5 := Lib.hid (near_ok v (.slice lo m lc) l x w5 R5.out ⟨HRI.out.ok, HRI.out.simp⟩ (by have := L20.out; omega))
              go_wp2_with fail
              refine C5.out.mono ?_
              rintro e6 w6 ⟨⟨nv6, r6, rfl, hr6, hn6⟩, hb6⟩
              obtain rfl := hn6.uniq NR.out
              have M6 := Lib.hid (Row.of_own hr6)
              have N6 := Lib.hid (N5.out.on hb6)
              have X6 := Lib.hid (X5.out.on hb6)
              have R6 := Lib.hid (R5.out.on hb6)
              have E6 := Lib.hid (E5.out.on hb6)
              have B6 := Lib.hid (B5.out.trans (hb6.mono B5.out.size))
              clear a0 a1 C5 hr6 hn6 hb6 X5 R5 E5 N5 B5
              have C6 := Lib.hid (sameI_any nv6 _ r6 w6 M6.out N6.out (by have := LE.out; omega))
              go_wp2_with fail
              refine C6.out.mono ?_
              rintro e7 w7 ⟨rfl, hb7⟩
              have X7 := Lib.hid (X6.out.on hb7)
              have R7 := Lib.hid (R6.out.on hb7)
              have E7 := Lib.hid (E6.out.on hb7)
              have B7 := Lib.hid (B6.out.trans (hb7.mono B6.out.size))
              clear C6 hb7 X6 R6 E6 B6 M6 N6
              have a0 := X7.out.cell 0
              have a1 := X7.out.cell 1
              simp only [List.getElem?_toArray, List.getElem?_cons_zero, List.getElem?_cons_succ] at a0 a1
              have C7 := Lib.hid (far_val FZ.out HRI.out ⟨by omega, by omega⟩ w7 R7.out)
              go_wp2_with fail
              refine C7.out.mono ?_
              rintro e8 w8 ⟨rfl, hb8⟩
              have X8 := Lib.hid (X7.out.on hb8)
              have R8 := Lib.hid (R7.out.on hb8)
              have E8 := Lib.hid (E7.out.on hb8)
              have B8 := Lib.hid (B7.out.trans (hb8.mono B7.out.size))
              clear C7 hb8 a0 a1 X7 R7 E7 B7
              have a0 := X8.out.cell 0
              have a1 := X8.out.cell 1
              simp only [List.getElem?_toArray, List.getElem?_cons_zero, List.getElem?_cons_succ] at a0 a1
              have C8 := Lib.hid (near_ok v (.slice lo m lc) l (-1) w8 R8.out ⟨HRI.out.ok, HRI.out.simp⟩ (by have := L20.out; omega))
              go_wp2_with fail
              refine C8.out.mono ?_
              rintro e9 w9 ⟨⟨nv9, r9, rfl, hr9, hn9⟩, hb9⟩
              obtain rfl := near_none HRI.out.ok hn9
              obtain ⟨no, nc, rfl⟩ := (Row.of_own hr9).len
              have E9 := Lib.hid (E8.out.on hb9)
              have B9 := Lib.hid (B8.out.trans (hb9.mono B8.out.size))
              clear C8 hr9 hn9 hb9 a0 a1 X8 R8 E8 B8
              go_wp2_with fail
              refine (runs_any w9 E9.out.eg).mono ?_
              rintro e10 w10 ⟨rfl, hb10⟩
              have B10 := Lib.hid (B9.out.trans (hb10.mono B9.out.size))
              clear hb10
              go_wp2
              go_ret
              exact ⟨rfl, B10.out⟩
  · have FA := Lib.hid (show GFault w1 v r from ⟨⟨bb, hch⟩⟩)
    have BD := Lib.hid hbad
    obtain ⟨rfl, _⟩ := hch
    have NOW : own = false := by
      cases ho : own with
      | false => rfl
      | true => exact absurd (OW.out ho) hbad.not
    subst NOW
    clear hbad OW
    go_wp2_with fail
    refine RK.out.mono ?_
    rintro e2 w2 ⟨⟨bo, rfl, hbo⟩, hb⟩
    obtain rfl : bo = false := by
      cases hb0 : bo with
      | false => rfl
      | true => exact absurd (hbo.1 hb0) BD.out.not
    have B2 := Lib.hid (B1.out.trans (hb.mono B1.out.size))
    have E2 := Lib.hid (E1.out.on hb)
    have X2 := Lib.hid (X1.out.on hb)
    have R2 := Lib.hid (R1.out.on hb)
    have F2 := Lib.hid (FA.out.on hb)
    clear hb hbo RK a0 a1 B1 E1 X1 R1 FA
    have a0 := X2.out.cell 0
    have a1 := X2.out.cell 1
    simp only [List.getElem?_toArray, List.getElem?_cons_zero, List.getElem?_cons_succ] at a0 a1
    go_wp2
    clear a0 a1
    go_loopw [14, 66] (fun zv i wr => ∃ (k : Nat) (z : Int), k ≤ m ∧ zv = .int .i64 z ∧ i = .int .i64 k ∧ Below w2.heap.size w2 wr ∧ AtIs n l k z) (fun _ i _ => m - (intOf i).toNat)
    case atStart => exact ⟨0, -1, Nat.zero_le _, rfl, rfl, Below.refl _ _, Or.inl ⟨rfl, by simpa using good_nil n⟩⟩
    case round =>
      obtain ⟨k, z, hk, rfl, rfl, hb, hat⟩ := hrel
      have HB := Lib.hid hb
      have AT := Lib.hid hat
      clear hb hat
      by_cases hlt : k < m
      · obtain ⟨y, hy⟩ : ∃ y, l[k]? = some y := ⟨_, List.getElem?_eq_getElem (by rw [← HM.out]; exact hlt)⟩
        have RW_ := R2.out.on HB.out
        obtain ⟨p, ix, px⟩ := elK RW_ rfl HM.out.symm hy
        obtain ⟨p0, p1⟩ := px _ (Below.refl _ _)
        obtain ⟨pl, sl, hlo⟩ := row_lo okK RW_ k (by rw [← HM.out]; exact hk)
        obtain ⟨so, sc, rfl⟩ := hlo.len
        rw [List.length_take, Nat.min_eq_left (by rw [← HM.out]; exact hk)] at sl hlo
        have sl : ∀ w, (Instr.sliceAt 23 (.slice lo m lc) none (some (.int .i64 k)) none).run Tryd.prog w = .ok (.slice so k sc) w := sl
        have HY := Lib.hid hy
        have BO := Lib.hid ((Below.refl wr.heap.size wr).alloc (Nat.le_refl _) (.cells #[.int .i64 y.1, .int .i64 y.2] 22))
        have NB := Lib.hid (box_new wr #[.int .i64 y.1, .int .i64 y.2] 22)
        have B3 := Lib.hid (HB.out.trans (BO.out.mono HB.out.size))
        have HLO := Lib.hid (hlo.on BO.out)
        have X3 := Lib.hid (X2.out.on B3.out)
        clear px hy RW_ hlo
        have SL := Lib.hid sl
        clear sl
        go_upto_region 15 with fail
        clear p0 p1 ix
        generalize wr.alloc (.cells #[.int .i64 y.1, .int .i64 y.2] 22) = w3 at *
        have a0 := X3.out.cell 0
        have a1 := X3.out.cell 1
        have n0 := NB.out.cell 0
        have n1 := NB.out.cell 1
        simp only [List.getElem?_toArray, List.getElem?_cons_zero, List.getElem?_cons_succ] at a0 a1 n0 n1
        refine tells_r15 _ w3 gb wr.heap.size n y _ _ _ _ _ _ _ _ _ _ _ _ _ _ _ _ _ _ _ _ _ _ _ _ _ _ _ _ _ _ _ _ _ _ _ _ _ _ _ _ _ _ _ _ _ _ _ _ _ _ _ _ _ _ _ _ _ _ _ _ _ _ _ _ _ _ _ _ _ _ _ _ _ _ _ _ _ _ _ _ _ _ _ _ _ _ _ _ _ _ _ _ _ _ _ _ _ _ _ _ _ _ _ _ _ _ _ _ _ _ _ _ _ _ _ _ _ _ _ _ _ _ _ _ _ _ _ _ _ _ _ _ _ _ _ _ _ _ _ _ _ _ _ _ _ _ _ _ _ _ _ _ _ _ _ _ _ _ _ _ _ _ _ _ _ _ _ _ _ _ _ _ _ _ _ _ _ _ _ _ _ _ _ _ _ _ _ _ _ _ _ _ _ _ _ _ _ _ _ _ _ _ _ _ _ _ _ _ _ _ _ _ _ _ _ _ _ _ _ _ _ _ _ _ _ _ _ _ _ _ _ _ _ _ _ _ _ a0 n0 n1 ?_
        intro v71 v72 v73 v74 v75 v76 v77 v78 v79 v80 v81 v82 v83 v84 v85 v86 v87 v88 v89 v90 v91 v92 v93 v94 v95 v96 v97 v98 v99
        obtain ⟨c, hc⟩ : ∃ c, (!inL n y || decide (y.1 = y.2)) = c := ⟨_, rfl⟩
        rw [hc]
        have HC := Lib.hid hc
        have sl := SL.out
        clear hc n0 n1
        go_wp2
        clear a0 a1 sl
        obtain ⟨wo, rfl⟩ : ∃ wo : World, wo = wr := ⟨_, rfl⟩
        go_loopw [17, 105] (fun ov i wr => ∃ j : Nat, j ≤ k ∧ ov = .bool (c || twiceB ((l.take k).take j) y) ∧ i = .int .i64 j ∧ Below w3.heap.size w3 wr) (fun _ i _ => k - (intOf i).toNat)
        case atStart => exact ⟨0, Nat.zero_le _, by simp [twiceB], rfl, Below.refl _ _⟩
        case round =>
          obtain ⟨j, hj, rfl, rfl, hb⟩ := hrel
          have HC3 := Lib.hid hb
          clear hb
          by_cases hltj : j < k
          · obtain ⟨x, hx⟩ : ∃ x, (l.take k)[j]? = some x := ⟨_, List.getElem?_eq_getElem (by simp; have := HM.out; omega)⟩
            obtain ⟨pp, ix, px⟩ := elK (HLO.out.on HC3.out) rfl (by simp; have := HM.out; omega) hx
            obtain ⟨p0, p1⟩ := px _ (Below.refl _ _)
            have NB3 := NB.out.on HC3.out
            have n0 := NB3.cell 0
            have n1 := NB3.cell 1
            have nl := NB3.lt
            simp only [List.getElem?_toArray, List.getElem?_cons_zero, List.getElem?_cons_succ] at n0 n1
            have BN := Lib.hid (HC3.out.alloc HC3.out.size (.cells #[.int .i64 x.1, .int .i64 x.2] 22))
            obtain ⟨o1, ho1⟩ : ∃ o, (c || twiceB ((l.take k).take j) y) = o := ⟨_, rfl⟩
            obtain ⟨r1, hr1⟩ : ∃ r, decide (x = y) = r := ⟨_, rfl⟩
            obtain ⟨r2, hr2⟩ : ∃ r, decide (x = (y.2, y.1)) = r := ⟨_, rfl⟩
            have e1 := eqlK x y r1 hr1
            have e2 := eqlK x (y.2, y.1) r2 hr2
            have NX := Lib.hid (show (c || twiceB ((l.take k).take (j + 1)) y) = (o1 || (r1 || r2)) by
              rw [← ho1, ← hr1, ← hr2, take_succ_of hx, twice_snoc, Bool.or_assoc])
            rw [ho1]
            clear px hx ho1 hr1 hr2 NB3
            rcases o1 with _ | _
            · rcases r1 with _ | _
              · rcases r2 with _ | _
                all_goals
                  go_wp2
                  go_roundw
                  case rel => exact ⟨j + 1, by omega, by rw [NX.out]; rfl, by go_num, BN.out⟩
                  case measure => simp [intOf]; omega
              · go_wp2
                go_roundw
                case rel => exact ⟨j + 1, by omega, by rw [NX.out]; rfl, by go_num, BN.out⟩
                case measure => simp [intOf]; omega
            · go_wp2
              go_roundw
              case rel => exact ⟨j + 1, by omega, by rw [NX.out]; rfl, by go_num, BN.out⟩
              case measure => simp [intOf]; omega
          · obtain rfl : j = k := by omega
            rw [show (l.take j).take j = l.take j by rw [List.take_take, Nat.min_self]]
            obtain ⟨o1, ho1⟩ : ∃ o, (c || twiceB (l.take j) y) = o := ⟨_, rfl⟩
            have OB := Lib.hid (show badB n (l.take j) y = o1 by
              unfold badB
              rw [← ho1, ← HC.out, Bool.or_assoc])
            rw [ho1]
            have B5 := Lib.hid (B3.out.trans (HC3.out.mono B3.out.size))
            clear ho1
            rcases o1 with _ | _
            · have A5 := Lib.hid (show AtIs n l (j + 1) z from by
                rcases AT.out with ⟨h1, h2⟩ | ⟨i, h1, h2⟩
                · exact Or.inl ⟨h1, by rw [take_succ_of HY.out]; exact good_snoc.2 ⟨h2, OB.out⟩⟩
                · exact Or.inr ⟨i, by omega, h2⟩)
              go_wp2
              go_roundw
              case rel => exact ⟨j + 1, z, by omega, rfl, by go_num, B5.out, A5.out⟩
              case measure => simp [intOf]; omega
            · rcases AT.out with ⟨hz, h2⟩ | ⟨i, h1, hz, h2⟩
              · have A5 := Lib.hid (show AtIs n l (j + 1) (j : Int) from Or.inr ⟨j, by omega, rfl, y, HY.out, h2, OB.out⟩)
                have dz : decide (z < 0) = true := decide_eq_true (by omega)
                clear h2 hz
                go_wp2
                go_roundw
                case rel => exact ⟨j + 1, (j : Int), by omega, rfl, by go_num, B5.out, A5.out⟩
                case measure => simp [intOf]; omega
              · have A5 := Lib.hid (show AtIs n l (j + 1) z from Or.inr ⟨i, by omega, hz, h2⟩)
                have dz : decide (z < 0) = false := decide_eq_false (by omega)
                clear h2 hz h1
                go_wp2
                go_roundw
                case rel => exact ⟨j + 1, z, by omega, rfl, by go_num, B5.out, A5.out⟩
                case measure => simp [intOf]; omega
      · obtain rfl : k = m := by omega
        have RB := Lib.hid (show r = z ∨ ¬ Few n l from by
          have h := AT.out
          rw [HM.out] at h
          exact h.bad BD.out)
        have X5 := Lib.hid (X2.out.on HB.out)
        have E5 := Lib.hid (E2.out.on HB.out)
        have F5 := Lib.hid (F2.out.on HB.out)
        have B5 := Lib.hid (B2.out.trans (HB.out.mono B2.out.size))
        have q2 := eqE2 2 2
        clear X2 E2 F2 R2 B2 HB
        go_wp2_with fail
        refine (kind_ok F5.out E5.out).mono ?_
        rintro e6 w6 ⟨rfl, hb6⟩
        have X6 := Lib.hid (X5.out.on hb6)
        have E6 := Lib.hid (E5.out.on hb6)
        have F6 := Lib.hid (F5.out.on hb6)
        have B6 := Lib.hid (B5.out.trans (hb6.mono B5.out.size))
        clear hb6 X5 E5 F5 B5
        go_wp2_with fail
        refine (place_ok F6.out E6.out).mono ?_
        rintro e7 w7 ⟨rfl, hb7⟩
        have X7 := Lib.hid (X6.out.on hb7)
        have E7 := Lib.hid (E6.out.on hb7)
        have B7 := Lib.hid (B6.out.trans (hb7.mono B6.out.size))
        clear hb7 X6 E6 F6 B6
        have a0 := X7.out.cell 0
        have a1 := X7.out.cell 1
        simp only [List.getElem?_toArray, List.getElem?_cons_zero, List.getElem?_cons_succ] at a0 a1
        have cases_ : (r == z) = true ∨ ((r == z) = false ∧ decide (n < 1) = true) ∨ ((r == z) = false ∧ decide (n < 1) = false ∧ decide (n > 64) = true) := by
          by_cases h1 : r = z
          · exact Or.inl (by simpa using h1)
          · have h2 : (r == z) = false := by simpa using h1
            by_cases h3 : n < 1
            · exact Or.inr (Or.inl ⟨h2, decide_eq_true h3⟩)
            · by_cases h4 : n > 64
              · exact Or.inr (Or.inr ⟨h2, decide_eq_false h3, decide_eq_true h4⟩)
              · exact absurd (few_of L20.out ⟨by omega, by omega⟩) (RB.out.resolve_left h1)
        have RU := Lib.hid (runs_any w7 E7.out.eg)
        rcases cases_ with d1 | ⟨d1, d2⟩ | ⟨d1, d2, d3⟩
        all_goals
          go_wp2_with fail
          refine RU.out.mono ?_
          rintro e8 w8 ⟨rfl, hb8⟩
          have B8 := Lib.hid (B7.out.trans (hb8.mono B7.out.size))
          clear hb8
          go_wp2
          go_ret
          exact ⟨rfl, B8.out⟩
end Go.Proofs.YtbnfndcbhnjnaaaDoor.Gr
