/-
  AdvertsOrder's loop that makes the neighbours. Conditions as the theorem states them.
  AdvertsOrder's region ahead of the loop that makes the neighbours. Conditions as the theorem states them.
-/
import Derived.Test.YtonoadjmglkhaaaGreatV041
namespace Go.Proofs.YtonoadjmglkhaaaGreat.Av
open Go.RowKit Go.Sort Go.Proofs.YtonoadjmglkhaaaGreat Go.Proofs.YtonoadjmglkhaaaGreat.Rw Go.Proofs.YtonoadjmglkhaaaGreat.Nm Go.Proofs.YtonoadjmglkhaaaGreat.Pr Go.Proofs.YtonoadjmglkhaaaGreat.Bk

noncomputable def order_17C : Code := .seq (headN 7 (Tryz.f5.body.getD .skip)) (order_21C)
set_option maxRecDepth 100000 in
set_option maxHeartbeats 16000000 in
theorem order_17 (w W : World) (n : Nat) (rs : List Int) (p : List C5) (q t : List XID) (l1 : Option Addr) (l3 : Nat) (t1 : Option Addr) (t3 : Nat) (o3 : Option Addr) (c3 : Nat) (lx tx : List XAd)
    (gb : Below w.heap.size w W) (ir : In.InInts W (.slice o3 rs.length c3) rs) (al : AdR W n (.slice l1 q.length l3) lx (q.map (mkA p))) (at_ : AdR W n (.slice t1 t.length t3) tx (t.map (mkA p))) (qn : q.Nodup) (tn : t.Nodup) (tq : t.length = q.length) (mem : ∀ x, x ∈ q ↔ x ∈ t) (ql : q.length ≤ 8) (pl : p.length ≤ 900) (pr : Wr.rightP p = true)
    (u0 u1 u3 u4 u5 u6 u7 u8 u10 u11 u12 u14 u15 u17 u18 u19 u20 u21 u22 u23 u24 u25 u26 u27 u28 u29 u30 u31 u32 u33 u34 u35 u36 u37 u38 u39 u40 u41 u42 u43 u44 u45 u46 u47 u48 u49 u50 u51 u52 u53 u54 u55 u56 u57 u58 u59 u60 u61 u62 u63 u64 u65 u66 u67 u68 u69 u70 u71 u72 u73 u74 u75 u76 u77 u78 u79 u80 u81 u82 u83 u84 u85 u86 u87 u88 u89 u90 u91 u92 u93 u94 u95 u96 u97 u98 u99 u100 u101 u102 u103 u104 u105 u106 u107 u108 u109 u110 u111 u112 u113 u114 u115 u116 u117 u118 u119 u120 u121 u122 u123 u124 u125 u126 u127 u128 u129 u130 u131 u132 u133 u134 u135 u136 u137 u138 u139 u140 u141 u142 u143 u144 u145 u146 u147 u148 u149 u150 u151 u152 u153 u154 u155 u156 u157 u158 u159 u160 u161 u162 u163 u164 u165 u166 u167 u168 u169 u170 u171 u172 u173 u174 u175 u176 u177 u178 u179 u180 u181 u182 u183 u184 u185 u186 u187 u188 u189 u190 u191 u192 u193 : Value) :
    Code.wp Tryz.prog order_17C (bodyPost Tryz.prog Tryz.f5 (OrdQ w)) ⟨(u0 :: u1 :: .slice o3 rs.length c3 :: u3 :: u4 :: u5 :: u6 :: u7 :: u8 :: .slice l1 q.length l3 :: u10 :: u11 :: u12 :: .slice t1 t.length t3 :: u14 :: u15 :: .slice none 0 0 :: u17 :: u18 :: u19 :: u20 :: u21 :: u22 :: u23 :: u24 :: u25 :: u26 :: u27 :: u28 :: u29 :: u30 :: u31 :: u32 :: u33 :: u34 :: u35 :: u36 :: u37 :: u38 :: u39 :: u40 :: u41 :: u42 :: u43 :: u44 :: u45 :: u46 :: u47 :: u48 :: u49 :: u50 :: u51 :: u52 :: u53 :: u54 :: u55 :: u56 :: u57 :: u58 :: u59 :: u60 :: u61 :: u62 :: u63 :: u64 :: u65 :: u66 :: u67 :: u68 :: u69 :: u70 :: u71 :: u72 :: u73 :: u74 :: u75 :: u76 :: u77 :: u78 :: u79 :: u80 :: u81 :: u82 :: u83 :: u84 :: u85 :: u86 :: u87 :: u88 :: u89 :: u90 :: u91 :: u92 :: u93 :: u94 :: u95 :: u96 :: u97 :: u98 :: u99 :: u100 :: u101 :: u102 :: u103 :: u104 :: u105 :: u106 :: u107 :: u108 :: u109 :: u110 :: u111 :: u112 :: u113 :: u114 :: u115 :: u116 :: u117 :: u118 :: u119 :: u120 :: u121 :: u122 :: u123 :: u124 :: u125 :: u126 :: u127 :: u128 :: u129 :: u130 :: u131 :: u132 :: u133 :: u134 :: u135 :: u136 :: u137 :: u138 :: u139 :: u140 :: u141 :: u142 :: u143 :: u144 :: u145 :: u146 :: u147 :: u148 :: u149 :: u150 :: u151 :: u152 :: u153 :: u154 :: u155 :: u156 :: u157 :: u158 :: u159 :: u160 :: u161 :: u162 :: u163 :: u164 :: u165 :: u166 :: u167 :: u168 :: u169 :: u170 :: u171 :: u172 :: u173 :: u174 :: u175 :: u176 :: u177 :: u178 :: u179 :: u180 :: u181 :: u182 :: u183 :: u184 :: u185 :: u186 :: u187 :: u188 :: u189 :: u190 :: u191 :: u192 :: u193 :: []).toArray, []⟩ W := by
  have GB_1 := Lib.hid (gb)
  have IR_2 := Lib.hid (ir)
  have AL_3 := Lib.hid (al)
  have AT_4 := Lib.hid (at_)
  clear gb ir al at_
  have QN := Lib.hid qn
  have TN := Lib.hid tn
  have TQ := Lib.hid tq
  have ME := Lib.hid mem
  have PLN := Lib.hid pl
  have PR := Lib.hid pr
  have QL := Lib.hid ql
  clear qn tn tq mem pl pr ql
  unfold order_17C
  conv => enter [2, 1]; whnf
  go_wp2_with fail
  go_loopw [16, 17] (fun rv i wr => ∃ (k : Nat) (m : List Int) (a : Option Addr) (c : Nat), k ≤ 6 ∧ k ≤ rs.length ∧ i = .int .i64 k ∧ m.length = k ∧ rv = .slice a k c ∧ OwnI wr W.heap.size rv m ∧ Below W.heap.size W wr) (fun _ i _ => 6 - (intOf i).toNat)
  case atStart => exact ⟨0, [], none, 0, Nat.zero_le _, Nat.zero_le _, rfl, rfl, rfl, own_nil _ _, Below.refl _ _⟩
  case round =>
    obtain ⟨k, m, a, c, hk, hkr, rfl, hml, rfl, hown, hbel⟩ := hrel
    have ML := Lib.hid hml
    have OW := Lib.hid hown
    have BE := Lib.hid hbel
    clear hml hown hbel
    by_cases hlt : k < rs.length ∧ k < 6
    · obtain ⟨hc, h6⟩ := hlt
      have hc' : (k : Int) < (rs.length : Int) := by omega
      have h6' : (k : Int) < 6 := by omega
      have hw : IntKind.i64.wrap ((k : Int) + 1) = (k : Int) + 1 := IntWalk.i64_in _ (by omega)
      obtain ⟨z, hz⟩ : ∃ z, rs[k]? = some z := ⟨_, List.getElem?_eq_getElem hc⟩
      obtain ⟨d1, p1, _, ix, px⟩ := (IR_2.out.on BE.out).at_ k z hz
      have WI := Wi.within_any z 0 9 wr (by decide) (by decide) (by decide) d1.1 d1.2
      go_wp2_with fail
      refine WI.mono ?_
      rintro e2 w2 ⟨rfl, rfl⟩
      clear WI px ix d1
      generalize Wi.within z 0 9 = y at *
      have hl := row_lit Nm.okI wr [y] 1 rfl (by simp) #[.int .i64 y] (by rfl)
      have NB := newB wr (.cells #[.int .i64 y] 3)
      obtain ⟨va, x1, q1, oa, ga⟩ := app_row Nm.okI W.heap.size (Bk.own_on OW.out NB) (Row.of_own hl) (by have := ML.out; omega) (by simp) (Nat.le_trans BE.out.size NB.size) 23
      have BX := Lib.hid ((BE.out.trans (NB.mono BE.out.size)).grown ga (Nat.le_trans BE.out.size NB.size) (fun j hj => ((Bk.own_on OW.out NB).lt j hj).1))
      obtain ⟨a2, c2, rfl⟩ := (Row.of_own oa).len
      have ML2 := Lib.hid (show (m ++ [y]).length = k + 1 from by rw [List.length_append, List.length_singleton, ML.out])
      rw [ML2.out] at oa q1
      have OA := Lib.hid oa
      clear hl NB ga oa
      go_wp2_with (first | (at_builtin; refine wpList_append_run rfl _ _ 23 rfl rfl rfl q1 ?_) | fail)
      go_roundw
      case rel => exact ⟨k + 1, m ++ [y], a2, c2, h6, hc, by go_num, ML2.out, rfl, OA.out, BX.out⟩
      case measure => simp [intOf]; omega
    · have hx : rs.length ≤ k ∨ (k < rs.length ∧ 6 ≤ k) := by omega
      obtain rfl : k = m.length := ML.out.symm
      rcases hx with hx | ⟨hx, hy⟩
      all_goals
        first | (have q1 : ¬ ((m.length : Int) < (rs.length : Int)) := (by omega)) | (have q1 : (m.length : Int) < (rs.length : Int) := (by omega); have q2 : ¬ ((m.length : Int) < 6) := (by omega))
        go_wp2_with fail
        exact order_21 w wr n m p q t l1 l3 t1 t3 a c lx tx (GB_1.out.trans (BE.out.mono GB_1.out.size)) (Row.of_own OW.out) (AL_3.out.on BE.out) (AT_4.out.on BE.out) QN.out TN.out TQ.out ME.out QL.out hk PLN.out PR.out _ _ _ _ _ _ _ _ _ _ _ _ _ _ _ _ _ _ _ _ _ _ _ _ _ _ _ _ _ _ _ _ _ _ _ _ _ _ _ _ _ _ _ _ _ _ _ _ _ _ _ _ _ _ _ _ _ _ _ _ _ _ _ _ _ _ _ _ _ _ _ _ _ _ _ _ _ _ _ _ _ _ _ _ _ _ _ _ _ _ _ _ _ _ _ _ _ _ _ _ _ _ _ _ _ _ _ _ _ _ _ _ _ _ _ _ _ _ _ _ _ _ _ _ _ _ _ _ _ _ _ _ _ _ _ _ _ _ _ _ _ _ _ _ _ _ _ _ _ _ _ _ _ _ _ _ _ _ _ _ _ _ _ _ _ _ _ _ _ _ _ _ _ _ _ _ _ _ _ _ _ _ _ _ _ _ _ _ _ _ _
end Go.Proofs.YtonoadjmglkhaaaGreat.Av

namespace Go.Proofs.YtonoadjmglkhaaaGreat.Av
open Go.RowKit Go.Sort Go.Proofs.YtonoadjmglkhaaaGreat Go.Proofs.YtonoadjmglkhaaaGreat.Rw Go.Proofs.YtonoadjmglkhaaaGreat.Nm Go.Proofs.YtonoadjmglkhaaaGreat.Pr Go.Proofs.YtonoadjmglkhaaaGreat.Bk

noncomputable def order_16C : Code := .seq (headN 6 (Tryz.f5.body.getD .skip)) (order_17C)
set_option maxRecDepth 100000 in
set_option maxHeartbeats 16000000 in
theorem order_16 (w W : World) (n : Nat) (rs : List Int) (p : List C5) (q t : List XID) (l1 : Option Addr) (l3 : Nat) (t1 : Option Addr) (t3 : Nat) (o3 : Option Addr) (c3 : Nat) (lx tx : List XAd)
    (gb : Below w.heap.size w W) (ir : In.InInts W (.slice o3 rs.length c3) rs) (al : AdR W n (.slice l1 q.length l3) lx (q.map (mkA p))) (at_ : AdR W n (.slice t1 t.length t3) tx (t.map (mkA p))) (qn : q.Nodup) (tn : t.Nodup) (tq : t.length = q.length) (mem : ∀ x, x ∈ q ↔ x ∈ t) (ql : q.length ≤ 8) (pl : p.length ≤ 900) (pr : Wr.rightP p = true)
    (u0 u1 u3 u4 u5 u6 u7 u8 u10 u11 u12 u14 u15 u16 u17 u18 u19 u20 u21 u22 u23 u24 u25 u26 u27 u28 u29 u30 u31 u32 u33 u34 u35 u36 u37 u38 u39 u40 u41 u42 u43 u44 u45 u46 u47 u48 u49 u50 u51 u52 u53 u54 u55 u56 u57 u58 u59 u60 u61 u62 u63 u64 u65 u66 u67 u68 u69 u70 u71 u72 u73 u74 u75 u76 u77 u78 u79 u80 u81 u82 u83 u84 u85 u86 u87 u88 u89 u90 u91 u92 u93 u94 u95 u96 u97 u98 u99 u100 u101 u102 u103 u104 u105 u106 u107 u108 u109 u110 u111 u112 u113 u114 u115 u116 u117 u118 u119 u120 u121 u122 u123 u124 u125 u126 u127 u128 u129 u130 u131 u132 u133 u134 u135 u136 u137 u138 u139 u140 u141 u142 u143 u144 u145 u146 u147 u148 u149 u150 u151 u152 u153 u154 u155 u156 u157 u158 u159 u160 u161 u162 u163 u164 u165 u166 u167 u168 u169 u170 u171 u172 u173 u174 u175 u176 u177 u178 u179 u180 u181 u182 u183 u184 u185 u186 u187 u188 u189 u190 u191 u192 u193 : Value) :
    Code.wp Tryz.prog order_16C (bodyPost Tryz.prog Tryz.f5 (OrdQ w)) ⟨(u0 :: u1 :: .slice o3 rs.length c3 :: u3 :: u4 :: u5 :: u6 :: u7 :: u8 :: .slice l1 q.length l3 :: u10 :: u11 :: u12 :: .slice t1 t.length t3 :: u14 :: u15 :: u16 :: u17 :: u18 :: u19 :: u20 :: u21 :: u22 :: u23 :: u24 :: u25 :: u26 :: u27 :: u28 :: u29 :: u30 :: u31 :: u32 :: u33 :: u34 :: u35 :: u36 :: u37 :: u38 :: u39 :: u40 :: u41 :: u42 :: u43 :: u44 :: u45 :: u46 :: u47 :: u48 :: u49 :: u50 :: u51 :: u52 :: u53 :: u54 :: u55 :: u56 :: u57 :: u58 :: u59 :: u60 :: u61 :: u62 :: u63 :: u64 :: u65 :: u66 :: u67 :: u68 :: u69 :: u70 :: u71 :: u72 :: u73 :: u74 :: u75 :: u76 :: u77 :: u78 :: u79 :: u80 :: u81 :: u82 :: u83 :: u84 :: u85 :: u86 :: u87 :: u88 :: u89 :: u90 :: u91 :: u92 :: u93 :: u94 :: u95 :: u96 :: u97 :: u98 :: u99 :: u100 :: u101 :: u102 :: u103 :: u104 :: u105 :: u106 :: u107 :: u108 :: u109 :: u110 :: u111 :: u112 :: u113 :: u114 :: u115 :: u116 :: u117 :: u118 :: u119 :: u120 :: u121 :: u122 :: u123 :: u124 :: u125 :: u126 :: u127 :: u128 :: u129 :: u130 :: u131 :: u132 :: u133 :: u134 :: u135 :: u136 :: u137 :: u138 :: u139 :: u140 :: u141 :: u142 :: u143 :: u144 :: u145 :: u146 :: u147 :: u148 :: u149 :: u150 :: u151 :: u152 :: u153 :: u154 :: u155 :: u156 :: u157 :: u158 :: u159 :: u160 :: u161 :: u162 :: u163 :: u164 :: u165 :: u166 :: u167 :: u168 :: u169 :: u170 :: u171 :: u172 :: u173 :: u174 :: u175 :: u176 :: u177 :: u178 :: u179 :: u180 :: u181 :: u182 :: u183 :: u184 :: u185 :: u186 :: u187 :: u188 :: u189 :: u190 :: u191 :: u192 :: u193 :: []).toArray, []⟩ W := by
  unfold order_16C
  conv => enter [2, 1]; whnf
  go_wp2_with fail
  exact order_17 w W n rs p q t l1 l3 t1 t3 o3 c3 lx tx gb ir al at_ qn tn tq mem ql pl pr _ _ _ _ _ _ _ _ _ _ _ _ _ _ _ _ _ _ _ _ _ _ _ _ _ _ _ _ _ _ _ _ _ _ _ _ _ _ _ _ _ _ _ _ _ _ _ _ _ _ _ _ _ _ _ _ _ _ _ _ _ _ _ _ _ _ _ _ _ _ _ _ _ _ _ _ _ _ _ _ _ _ _ _ _ _ _ _ _ _ _ _ _ _ _ _ _ _ _ _ _ _ _ _ _ _ _ _ _ _ _ _ _ _ _ _ _ _ _ _ _ _ _ _ _ _ _ _ _ _ _ _ _ _ _ _ _ _ _ _ _ _ _ _ _ _ _ _ _ _ _ _ _ _ _ _ _ _ _ _ _ _ _ _ _ _ _ _ _ _ _ _ _ _ _ _ _ _ _ _ _ _ _ _ _ _ _ _ _ _
end Go.Proofs.YtonoadjmglkhaaaGreat.Av
