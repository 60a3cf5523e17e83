/-
  AdvertsPlays' check of a call: both brokers are the same, right, and what was there before stays. Conditions: at most 900 of each.
  Arguments of a row: a value of package api opened into its three fields; arguments that read as they read before, where a call has only added memory. No other condition.
-/
import Derived.Test.YtonoadjmglkhaaaGreatU038
import Derived.Test.YtonoadjmglkhaaaGreatU040
import Derived.Test.YtonoadjmglkhaaaGreatU037
import Derived.Test.YtonoadjmglkhaaaGreatU042
import Derived.Test.YtonoadjmglkhaaaGreatU039
import Derived.Test.YtonoadjmglkhaaaGreatProg
import Derived.WalkKit
import Derived.ProofKit
import Derived.OpenShut
import Derived.Carry
import Derived.ChangeMaps5
import Derived.ChangeArms
namespace Go.Proofs.YtonoadjmglkhaaaGreat.Av
open Go.RowKit Go.Sort Go.Proofs.YtonoadjmglkhaaaGreat Go.Proofs.YtonoadjmglkhaaaGreat.Rw Go.Proofs.YtonoadjmglkhaaaGreat.Nm Go.Proofs.YtonoadjmglkhaaaGreat.Pr Go.Proofs.YtonoadjmglkhaaaGreat.Bk

def play21nV (_B : Nat) (_b3 _b4 _b9 _b10 : Nat) (g : Bool) (b b0 : Br) (s1 : Option Addr) (s2 s3 : Nat) (s4 : Option Addr) (s5 s6 : Nat) (s7 : Option Addr) (s8 s9 : Nat) (s10 : Option Addr) (s11 s12 : Nat) (s13 : Option Addr) (s14 s15 : Nat) (o1 : Option Addr) (o2 o3 : Nat) (o4 : Option Addr) (o5 o6 : Nat) (o7 : Option Addr) (o8 o9 : Nat) (o10 : Option Addr) (o11 o12 : Nat) (o13 : Option Addr) (o14 o15 : Nat) (w1 : Option Addr) (w2 w3 : Nat) (w4 : Option Addr) (w5 w6 : Nat) (w7 : Option Addr) (w8 w9 : Nat) (w10 : Option Addr) (w11 w12 : Nat) (w13 : Option Addr) (w14 w15 : Nat) (e1 : Option Addr) (e2 e3 : Nat) (e4 : Option Addr) (e5 e6 : Nat) (e7 : Option Addr) (e8 e9 : Nat) (e10 : Option Addr) (e11 e12 : Nat) (e13 : Option Addr) (e14 e15 : Nat) (i : Nat) (v : Value) (_x : World) : Prop :=
  match i with
  | 0 => v = .bool g
  | 1 => v = .bool g
  | 2 => v = .bool false
  | 3 => v = .bool false
  | 4 => v = .agg #[.int .i64 b.me, .slice s1 s2 s3, .slice s4 s5 s6, .slice s7 s8 s9, .slice s10 s11 s12, .slice s13 s14 s15]
  | 5 => v = .agg #[.int .i64 b.me, .slice o1 o2 o3, .slice o4 o5 o6, .slice o7 o8 o9, .slice o10 o11 o12, .slice o13 o14 o15]
  | 6 => v = .bool true
  | 7 => v = .bool false
  | 8 => v = .bool false
  | 9 => v = .bool false
  | 10 => v = .agg #[.int .i64 b.me, .slice s1 s2 s3, .slice s4 s5 s6, .slice s7 s8 s9, .slice s10 s11 s12, .slice s13 s14 s15]
  | 11 => v = .agg #[.int .i64 b.me, .slice o1 o2 o3, .slice o4 o5 o6, .slice o7 o8 o9, .slice o10 o11 o12, .slice o13 o14 o15]
  | 12 => v = .bool true
  | 13 => v = .bool false
  | 14 => v = .bool false
  | 15 => v = .bool false
  | 16 => v = .agg #[.int .i64 b.me, .slice s1 s2 s3, .slice s4 s5 s6, .slice s7 s8 s9, .slice s10 s11 s12, .slice s13 s14 s15]
  | 17 => v = .bool true
  | 18 => v = .bool false
  | 19 => v = .bool false
  | 20 => v = .bool false
  | 21 => v = .bool false
  | 22 => v = .int .i64 (-1)
  | 23 => v = .bool false
  | 24 => v = .bool false
  | 25 => v = .bool false
  | 26 => v = .bool false
  | 27 => v = .bool false
  | 28 => v = .bool false
  | 29 => v = undef
  | 30 => v = undef
  | 31 => v = undef
  | 32 => v = undef
  | 33 => v = undef
  | 34 => v = undef
  | 35 => v = undef
  | 36 => v = undef
  | 37 => v = undef
  | 38 => v = undef
  | 39 => v = undef
  | 40 => v = undef
  | 41 => v = undef
  | 42 => v = undef
  | 43 => v = undef
  | 44 => v = .bool false
  | 45 => v = .bool false
  | 46 => v = .bool false
  | 47 => v = .agg #[.int .i64 b0.me, .slice e1 e2 e3, .slice e4 e5 e6, .slice e7 e8 e9, .slice e10 e11 e12, .slice e13 e14 e15]
  | 48 => v = .agg #[.int .i64 b0.me, .slice w1 w2 w3, .slice w4 w5 w6, .slice w7 w8 w9, .slice w10 w11 w12, .slice w13 w14 w15]
  | 49 => v = .bool true
  | 50 => v = .bool false
  | 51 => v = .bool false
  | _ => True
noncomputable def play21nC : Code := ((Tryz.f3.body.bind (findRegion 21)).getD .skip)
set_option maxRecDepth 100000 in
set_option maxHeartbeats 8000000 in
theorem play21n (Q : Exit → Act → World → Prop) (W : World) (b3 b4 b9 b10 : Nat) (g : Bool) (b b0 : Br) (s1 : Option Addr) (s2 s3 : Nat) (s4 : Option Addr) (s5 s6 : Nat) (s7 : Option Addr) (s8 s9 : Nat) (s10 : Option Addr) (s11 s12 : Nat) (s13 : Option Addr) (s14 s15 : Nat) (o1 : Option Addr) (o2 o3 : Nat) (o4 : Option Addr) (o5 o6 : Nat) (o7 : Option Addr) (o8 o9 : Nat) (o10 : Option Addr) (o11 o12 : Nat) (o13 : Option Addr) (o14 o15 : Nat) (w1 : Option Addr) (w2 w3 : Nat) (w4 : Option Addr) (w5 w6 : Nat) (w7 : Option Addr) (w8 w9 : Nat) (w10 : Option Addr) (w11 w12 : Nat) (w13 : Option Addr) (w14 w15 : Nat) (e1 : Option Addr) (e2 e3 : Nat) (e4 : Option Addr) (e5 e6 : Nat) (e7 : Option Addr) (e8 e9 : Nat) (e10 : Option Addr) (e11 e12 : Nat) (e13 : Option Addr) (e14 e15 : Nat) (u0 u1 u2 u5 u6 u7 u8 u13 u14 u17 u18 u19 u20 u21 u22 u23 u24 u25 u26 u27 u28 u29 u30 u31 u32 u33 u34 u35 u36 u37 u38 u39 u40 u41 u42 u43 u44 u45 u46 u47 u48 u49 u50 u51 u52 u53 u54 u55 u56 u57 u58 u59 u60 u61 u62 u63 u64 u65 u66 u67 u68 u69 u70 u71 u72 u73 u74 u75 u76 u77 u78 u79 u80 u81 u82 u83 u84 u85 u86 u87 u88 u89 u90 u91 u92 u93 u94 u95 u96 u97 u98 u99 u100 u101 u102 u103 u104 u105 u106 u107 u108 u109 u110 u111 u112 u113 u114 u115 u116 u117 u118 u119 u120 u121 u122 u123 u124 u125 u126 u127 u128 u129 u130 u131 u132 u133 u134 u135 u136 u137 u138 u139 u140 u141 u142 u143 u144 u145 u146 u147 : Value)
    (x3 : Box W b3 #[.int .i64 b.me, .slice s1 s2 s3, .slice s4 s5 s6, .slice s7 s8 s9, .slice s10 s11 s12, .slice s13 s14 s15] 29) (x4 : Box W b4 #[.int .i64 b.me, .slice o1 o2 o3, .slice o4 o5 o6, .slice o7 o8 o9, .slice o10 o11 o12, .slice o13 o14 o15] 29) (x9 : Box W b9 #[.int .i64 b0.me, .slice w1 w2 w3, .slice w4 w5 w6, .slice w7 w8 w9, .slice w10 w11 w12, .slice w13 w14 w15] 29) (x10 : Box W b10 #[.int .i64 b0.me, .slice e1 e2 e3, .slice e4 e5 e6, .slice e7 e8 e9, .slice e10 e11 e12, .slice e13 e14 e15] 29) (n3 : BrN W b (s1, s2, s3) (s4, s5, s6) (s7, s8, s9) (s10, s11, s12) (s13, s14, s15)) (n4 : BrN W b (o1, o2, o3) (o4, o5, o6) (o7, o8, o9) (o10, o11, o12) (o13, o14, o15)) (n9 : BrN W b0 (w1, w2, w3) (w4, w5, w6) (w7, w8, w9) (w10, w11, w12) (w13, w14, w15)) (n10 : BrN W b0 (e1, e2, e3) (e4, e5, e6) (e7, e8, e9) (e10, e11, e12) (e13, e14, e15)) (fw : Few b) (fp : FewP b) (tb : TameB b) (ok : okBr b = true) (fw0 : Few b0) (fp0 : FewP b0)
    (hQ : ∀ (x : World) (v95 v96 v97 v98 v99 v100 v101 v102 v103 v104 v105 v106 v107 v108 v109 v110 v111 v112 v113 v114 v115 v116 v117 v118 v119 v120 v121 v122 v123 v124 v125 v126 v127 v128 v129 v130 v131 v132 v133 v134 v135 v136 v137 v138 v139 v140 v141 v142 v143 v144 v145 : Value), Below W.heap.size W x → Q .normal ⟨(u0 :: u1 :: u2 :: .pointer (some ⟨b3, 0, none⟩) :: .pointer (some ⟨b4, 0, none⟩) :: u5 :: u6 :: u7 :: u8 :: .pointer (some ⟨b9, 0, none⟩) :: .pointer (some ⟨b10, 0, none⟩) :: .bool g :: .bool g :: u13 :: u14 :: .bool false :: .int .i64 (-1) :: u17 :: u18 :: u19 :: u20 :: u21 :: u22 :: u23 :: u24 :: u25 :: u26 :: u27 :: u28 :: u29 :: u30 :: u31 :: u32 :: u33 :: u34 :: u35 :: u36 :: u37 :: u38 :: u39 :: u40 :: u41 :: u42 :: u43 :: u44 :: u45 :: u46 :: u47 :: u48 :: u49 :: u50 :: u51 :: u52 :: u53 :: u54 :: u55 :: u56 :: u57 :: u58 :: u59 :: u60 :: u61 :: u62 :: u63 :: u64 :: u65 :: u66 :: u67 :: u68 :: u69 :: u70 :: u71 :: u72 :: u73 :: u74 :: u75 :: u76 :: u77 :: u78 :: u79 :: u80 :: u81 :: u82 :: u83 :: u84 :: u85 :: u86 :: u87 :: u88 :: u89 :: u90 :: u91 :: u92 :: u93 :: u94 :: v95 :: v96 :: v97 :: v98 :: v99 :: v100 :: v101 :: v102 :: v103 :: v104 :: v105 :: v106 :: v107 :: v108 :: v109 :: v110 :: v111 :: v112 :: v113 :: v114 :: v115 :: v116 :: v117 :: v118 :: v119 :: v120 :: v121 :: v122 :: v123 :: v124 :: v125 :: v126 :: v127 :: v128 :: v129 :: v130 :: v131 :: v132 :: v133 :: v134 :: v135 :: v136 :: v137 :: v138 :: v139 :: v140 :: v141 :: v142 :: v143 :: v144 :: v145 :: .bool false :: u147 :: []).toArray, []⟩ x) :
    Code.wp Tryz.prog play21nC Q ⟨(u0 :: u1 :: u2 :: .pointer (some ⟨b3, 0, none⟩) :: .pointer (some ⟨b4, 0, none⟩) :: u5 :: u6 :: u7 :: u8 :: .pointer (some ⟨b9, 0, none⟩) :: .pointer (some ⟨b10, 0, none⟩) :: .bool g :: .bool g :: u13 :: u14 :: .bool false :: .int .i64 (-1) :: u17 :: u18 :: u19 :: u20 :: u21 :: u22 :: u23 :: u24 :: u25 :: u26 :: u27 :: u28 :: u29 :: u30 :: u31 :: u32 :: u33 :: u34 :: u35 :: u36 :: u37 :: u38 :: u39 :: u40 :: u41 :: u42 :: u43 :: u44 :: u45 :: u46 :: u47 :: u48 :: u49 :: u50 :: u51 :: u52 :: u53 :: u54 :: u55 :: u56 :: u57 :: u58 :: u59 :: u60 :: u61 :: u62 :: u63 :: u64 :: u65 :: u66 :: u67 :: u68 :: u69 :: u70 :: u71 :: u72 :: u73 :: u74 :: u75 :: u76 :: u77 :: u78 :: u79 :: u80 :: u81 :: u82 :: u83 :: u84 :: u85 :: u86 :: u87 :: u88 :: u89 :: u90 :: u91 :: u92 :: u93 :: u94 :: u95 :: u96 :: u97 :: u98 :: u99 :: u100 :: u101 :: u102 :: u103 :: u104 :: u105 :: u106 :: u107 :: u108 :: u109 :: u110 :: u111 :: u112 :: u113 :: u114 :: u115 :: u116 :: u117 :: u118 :: u119 :: u120 :: u121 :: u122 :: u123 :: u124 :: u125 :: u126 :: u127 :: u128 :: u129 :: u130 :: u131 :: u132 :: u133 :: u134 :: u135 :: u136 :: u137 :: u138 :: u139 :: u140 :: u141 :: u142 :: u143 :: u144 :: u145 :: u146 :: u147 :: []).toArray, []⟩ W := by
  have HQ := Lib.hid hQ
  have X3 := Lib.hid x3
  have X4 := Lib.hid x4
  have X9 := Lib.hid x9
  have X10 := Lib.hid x10
  have B3 := Lib.hid n3
  have B4 := Lib.hid n4
  have B9 := Lib.hid n9
  have B10 := Lib.hid n10
  have FW := Lib.hid fw
  have FP := Lib.hid fp
  have TB := Lib.hid tb
  have OK := Lib.hid ok
  have FW0 := Lib.hid fw0
  have FP0 := Lib.hid fp0
  clear hQ x3 x4 x9 x10 n3 n4 n9 n10 fw fp tb ok fw0 fp0
  unfold play21nC
  conv => arg 2; whnf
  have nd : ∀ j, (j < 95 ∨ 147 ≤ j) → ∀ i, i < 52 → (fun i => 95 + i) i ≠ j := by
    intro j hj i hi h
    simp only at h
    omega
  refine Rg.region_rel 52 (fun i => 95 + i) (play21nV W.heap.size b3 b4 b9 b10 g b b0 s1 s2 s3 s4 s5 s6 s7 s8 s9 s10 s11 s12 s13 s14 s15 o1 o2 o3 o4 o5 o6 o7 o8 o9 o10 o11 o12 o13 o14 o15 w1 w2 w3 w4 w5 w6 w7 w8 w9 w10 w11 w12 w13 w14 w15 e1 e2 e3 e4 e5 e6 e7 e8 e9 e10 e11 e12 e13 e14 e15) (by kernel_rfl) (by kernel_rfl) rfl ?_ (fun i j _ _ h => by have h2 : 95 + i = 95 + j := h; omega) (fun i hi => by show 95 + i < 148; omega) ?_ ?_ ?_
  · intro i o ho
    have hi : i < 52 := (List.getElem?_eq_some_iff.1 ho).1
    rcases (by omega : i = 0 ∨ i = 1 ∨ i = 2 ∨ i = 3 ∨ i = 4 ∨ i = 5 ∨ i = 6 ∨ i = 7 ∨ i = 8 ∨ i = 9 ∨ i = 10 ∨ i = 11 ∨ i = 12 ∨ i = 13 ∨ i = 14 ∨ i = 15 ∨ i = 16 ∨ i = 17 ∨ i = 18 ∨ i = 19 ∨ i = 20 ∨ i = 21 ∨ i = 22 ∨ i = 23 ∨ i = 24 ∨ i = 25 ∨ i = 26 ∨ i = 27 ∨ i = 28 ∨ i = 29 ∨ i = 30 ∨ i = 31 ∨ i = 32 ∨ i = 33 ∨ i = 34 ∨ i = 35 ∨ i = 36 ∨ i = 37 ∨ i = 38 ∨ i = 39 ∨ i = 40 ∨ i = 41 ∨ i = 42 ∨ i = 43 ∨ i = 44 ∨ i = 45 ∨ i = 46 ∨ i = 47 ∨ i = 48 ∨ i = 49 ∨ i = 50 ∨ i = 51) with rfl | rfl | rfl | rfl | rfl | rfl | rfl | rfl | rfl | rfl | rfl | rfl | rfl | rfl | rfl | rfl | rfl | rfl | rfl | rfl | rfl | rfl | rfl | rfl | rfl | rfl | rfl | rfl | rfl | rfl | rfl | rfl | rfl | rfl | rfl | rfl | rfl | rfl | rfl | rfl | rfl | rfl | rfl | rfl | rfl | rfl | rfl | rfl | rfl | rfl | rfl | rfl
    all_goals (obtain rfl := Option.some.inj ho; rfl)
  · intro i v x x' h hb
    by_cases hi : i < 52
    · rcases (by omega : i = 0 ∨ i = 1 ∨ i = 2 ∨ i = 3 ∨ i = 4 ∨ i = 5 ∨ i = 6 ∨ i = 7 ∨ i = 8 ∨ i = 9 ∨ i = 10 ∨ i = 11 ∨ i = 12 ∨ i = 13 ∨ i = 14 ∨ i = 15 ∨ i = 16 ∨ i = 17 ∨ i = 18 ∨ i = 19 ∨ i = 20 ∨ i = 21 ∨ i = 22 ∨ i = 23 ∨ i = 24 ∨ i = 25 ∨ i = 26 ∨ i = 27 ∨ i = 28 ∨ i = 29 ∨ i = 30 ∨ i = 31 ∨ i = 32 ∨ i = 33 ∨ i = 34 ∨ i = 35 ∨ i = 36 ∨ i = 37 ∨ i = 38 ∨ i = 39 ∨ i = 40 ∨ i = 41 ∨ i = 42 ∨ i = 43 ∨ i = 44 ∨ i = 45 ∨ i = 46 ∨ i = 47 ∨ i = 48 ∨ i = 49 ∨ i = 50 ∨ i = 51) with rfl | rfl | rfl | rfl | rfl | rfl | rfl | rfl | rfl | rfl | rfl | rfl | rfl | rfl | rfl | rfl | rfl | rfl | rfl | rfl | rfl | rfl | rfl | rfl | rfl | rfl | rfl | rfl | rfl | rfl | rfl | rfl | rfl | rfl | rfl | rfl | rfl | rfl | rfl | rfl | rfl | rfl | rfl | rfl | rfl | rfl | rfl | rfl | rfl | rfl | rfl | rfl
      · exact h
      · exact h
      · exact h
      · exact h
      · exact h
      · exact h
      · exact h
      · exact h
      · exact h
      · exact h
      · exact h
      · exact h
      · exact h
      · exact h
      · exact h
      · exact h
      · exact h
      · exact h
      · exact h
      · exact h
      · exact h
      · exact h
      · exact h
      · exact h
      · exact h
      · exact h
      · exact h
      · exact h
      · exact h
      · exact h
      · exact h
      · exact h
      · exact h
      · exact h
      · exact h
      · exact h
      · exact h
      · exact h
      · exact h
      · exact h
      · exact h
      · exact h
      · exact h
      · exact h
      · exact h
      · exact h
      · exact h
      · exact h
      · exact h
      · exact h
      · exact h
      · exact h
    · unfold play21nV
      split <;> first | omega | trivial
  · intro i o hi ho a x hb seen K hK
    clear HQ
    rcases (by omega : i = 0 ∨ i = 1 ∨ i = 2 ∨ i = 3 ∨ i = 4 ∨ i = 5 ∨ i = 6 ∨ i = 7 ∨ i = 8 ∨ i = 9 ∨ i = 10 ∨ i = 11 ∨ i = 12 ∨ i = 13 ∨ i = 14 ∨ i = 15 ∨ i = 16 ∨ i = 17 ∨ i = 18 ∨ i = 19 ∨ i = 20 ∨ i = 21 ∨ i = 22 ∨ i = 23 ∨ i = 24 ∨ i = 25 ∨ i = 26 ∨ i = 27 ∨ i = 28 ∨ i = 29 ∨ i = 30 ∨ i = 31 ∨ i = 32 ∨ i = 33 ∨ i = 34 ∨ i = 35 ∨ i = 36 ∨ i = 37 ∨ i = 38 ∨ i = 39 ∨ i = 40 ∨ i = 41 ∨ i = 42 ∨ i = 43 ∨ i = 44 ∨ i = 45 ∨ i = 46 ∨ i = 47 ∨ i = 48 ∨ i = 49 ∨ i = 50 ∨ i = 51) with rfl | rfl | rfl | rfl | rfl | rfl | rfl | rfl | rfl | rfl | rfl | rfl | rfl | rfl | rfl | rfl | rfl | rfl | rfl | rfl | rfl | rfl | rfl | rfl | rfl | rfl | rfl | rfl | rfl | rfl | rfl | rfl | rfl | rfl | rfl | rfl | rfl | rfl | rfl | rfl | rfl | rfl | rfl | rfl | rfl | rfl | rfl | rfl | rfl | rfl | rfl | rfl
    · obtain rfl := Option.some.inj ho
      have e11 : a.eval (.tmp 11) = .bool g := seen.kp 11 _ (nd 11 (by omega)) rfl
      exact Rg.op_value rfl rfl (Rg.ex_move a.eval _ (.tmp 11) rfl x) (hK _ x e11 (Below.refl _ _))
    · obtain rfl := Option.some.inj ho
      have e12 : a.eval (.tmp 12) = .bool g := seen.kp 12 _ (nd 12 (by omega)) rfl
      exact Rg.op_value rfl rfl (Rg.ex_move a.eval _ (.tmp 12) rfl x) (hK _ x e12 (Below.refl _ _))
    · obtain rfl := Option.some.inj ho
      have e95 : a.eval (.tmp 95) = .bool g := seen.at_ ⟨0, .data⟩ (by simp) rfl
      have e96 : a.eval (.tmp 96) = .bool g := seen.at_ ⟨1, .data⟩ (by simp) rfl
      exact Rg.op_value rfl rfl (Rg.ex_bin a.eval _ .neq 4 (.tmp 95) (.tmp 96) 4 rfl (by rw [e95, e96]; exact Rg.neq_bool _ _ g x)) (hK _ x rfl (Below.refl _ _))
    · obtain rfl := Option.some.inj ho
      have e97 : a.eval (.tmp 97) = .bool false := seen.at_ ⟨2, .data⟩ (by simp) rfl
      exact Rg.op_value rfl rfl (Rg.ex_move a.eval _ (.tmp 97) rfl x) (hK _ x e97 (Below.refl _ _))
    · obtain rfl := Option.some.inj ho
      have eG : a.eval (.tmp 98) = .bool false := seen.at_ ⟨3, .guard⟩ (by simp) rfl
      have tG : a.tmps[98]? = some (a.eval (.tmp 98)) := seen.got ⟨3, .guard⟩ (by simp) rfl
      rw [eG] at tG
      have e3 : a.eval (.tmp 3) = .pointer (some ⟨b3, 0, none⟩) := seen.kp 3 _ (nd 3 (by omega)) rfl
      have y0 := (X3.out.on hb).cell 0
      have y1 := (X3.out.on hb).cell 1
      have y2 := (X3.out.on hb).cell 2
      have y3 := (X3.out.on hb).cell 3
      have y4 := (X3.out.on hb).cell 4
      have y5 := (X3.out.on hb).cell 5
      simp only [List.getElem?_toArray, List.getElem?_cons_zero, List.getElem?_cons_succ] at y0 y1 y2 y3 y4 y5
      exact Rg.op_value_w rfl (Rg.wanted_of rfl rfl rfl tG) (Rg.ex_load a.eval _ 29 (.tmp 3) rfl (by rw [e3]; simp [go_sem, y0, y1, y2, y3, y4, y5])) (hK _ x rfl (Below.refl _ _))
    · obtain rfl := Option.some.inj ho
      have eG : a.eval (.tmp 98) = .bool false := seen.at_ ⟨3, .guard⟩ (by simp) rfl
      have tG : a.tmps[98]? = some (a.eval (.tmp 98)) := seen.got ⟨3, .guard⟩ (by simp) rfl
      rw [eG] at tG
      have e4 : a.eval (.tmp 4) = .pointer (some ⟨b4, 0, none⟩) := seen.kp 4 _ (nd 4 (by omega)) rfl
      have y0 := (X4.out.on hb).cell 0
      have y1 := (X4.out.on hb).cell 1
      have y2 := (X4.out.on hb).cell 2
      have y3 := (X4.out.on hb).cell 3
      have y4 := (X4.out.on hb).cell 4
      have y5 := (X4.out.on hb).cell 5
      simp only [List.getElem?_toArray, List.getElem?_cons_zero, List.getElem?_cons_succ] at y0 y1 y2 y3 y4 y5
      exact Rg.op_value_w rfl (Rg.wanted_of rfl rfl rfl tG) (Rg.ex_load a.eval _ 29 (.tmp 4) rfl (by rw [e4]; simp [go_sem, y0, y1, y2, y3, y4, y5])) (hK _ x rfl (Below.refl _ _))
    · obtain rfl := Option.some.inj ho
      have eG : a.eval (.tmp 98) = .bool false := seen.at_ ⟨3, .guard⟩ (by simp) rfl
      have tG : a.tmps[98]? = some (a.eval (.tmp 98)) := seen.got ⟨3, .guard⟩ (by simp) rfl
      rw [eG] at tG
      have e99 : a.eval (.tmp 99) = .agg #[.int .i64 b.me, .slice s1 s2 s3, .slice s4 s5 s6, .slice s7 s8 s9, .slice s10 s11 s12, .slice s13 s14 s15] := seen.at_ ⟨4, .data⟩ (by simp) rfl
      have e100 : a.eval (.tmp 100) = .agg #[.int .i64 b.me, .slice o1 o2 o3, .slice o4 o5 o6, .slice o7 o8 o9, .slice o10 o11 o12, .slice o13 o14 o15] := seen.at_ ⟨5, .data⟩ (by simp) rfl
      exact Rg.op_call_w rfl (Rg.wanted_of rfl rfl rfl tG) (Rw.ex_call2 a.eval _ (.tmp 99) (.tmp 100) 29 29 16 rfl e99 e100 rfl _ (call_fn Tryz.func16 rfl rfl _ _)) (brokers_any b b (s1, s2, s3) (s4, s5, s6) (s7, s8, s9) (s10, s11, s12) (s13, s14, s15) (o1, o2, o3) (o4, o5, o6) (o7, o8, o9) (o10, o11, o12) (o13, o14, o15) x (B3.out.on hb).br (B4.out.on hb).br FP.out.shr FP.out.shr FW.out) fun e w1 h => by
        obtain ⟨rfl, hb1⟩ := h
        rw [same_self]
        exact ⟨_, rfl, hK _ _ rfl hb1⟩
    · obtain rfl := Option.some.inj ho
      have eG : a.eval (.tmp 98) = .bool false := seen.at_ ⟨3, .guard⟩ (by simp) rfl
      have tG : a.tmps[98]? = some (a.eval (.tmp 98)) := seen.got ⟨3, .guard⟩ (by simp) rfl
      rw [eG] at tG
      have e101 : a.eval (.tmp 101) = .bool true := seen.at_ ⟨6, .data⟩ (by simp) rfl
      exact Rg.op_value_w rfl (Rg.wanted_of rfl rfl rfl tG) (Rg.ex_not a.eval _ 4 (.tmp 101) rfl e101 x) (hK _ x rfl (Below.refl _ _))
    · obtain rfl := Option.some.inj ho
      have e98 : a.eval (.tmp 98) = .bool false := seen.at_ ⟨3, .data⟩ (by simp) rfl
      have e102 : a.eval (.tmp 102) = .bool false := seen.at_ ⟨7, .data⟩ (by simp) rfl
      exact Rg.op_value rfl rfl (Rg.ex_pick_f a.eval _ (.tmp 98) (.const (.bool true)) (.tmp 102) rfl e98 e102 x) (hK _ x rfl (Below.refl _ _))
    · obtain rfl := Option.some.inj ho
      have e103 : a.eval (.tmp 103) = .bool false := seen.at_ ⟨8, .data⟩ (by simp) rfl
      exact Rg.op_value rfl rfl (Rg.ex_move a.eval _ (.tmp 103) rfl x) (hK _ x e103 (Below.refl _ _))
    · obtain rfl := Option.some.inj ho
      have eG : a.eval (.tmp 104) = .bool false := seen.at_ ⟨9, .guard⟩ (by simp) rfl
      have tG : a.tmps[104]? = some (a.eval (.tmp 104)) := seen.got ⟨9, .guard⟩ (by simp) rfl
      rw [eG] at tG
      have e3 : a.eval (.tmp 3) = .pointer (some ⟨b3, 0, none⟩) := seen.kp 3 _ (nd 3 (by omega)) rfl
      have y0 := (X3.out.on hb).cell 0
      have y1 := (X3.out.on hb).cell 1
      have y2 := (X3.out.on hb).cell 2
      have y3 := (X3.out.on hb).cell 3
      have y4 := (X3.out.on hb).cell 4
      have y5 := (X3.out.on hb).cell 5
      simp only [List.getElem?_toArray, List.getElem?_cons_zero, List.getElem?_cons_succ] at y0 y1 y2 y3 y4 y5
      exact Rg.op_value_w rfl (Rg.wanted_of rfl rfl rfl tG) (Rg.ex_load a.eval _ 29 (.tmp 3) rfl (by rw [e3]; simp [go_sem, y0, y1, y2, y3, y4, y5])) (hK _ x rfl (Below.refl _ _))
    · obtain rfl := Option.some.inj ho
      have eG : a.eval (.tmp 104) = .bool false := seen.at_ ⟨9, .guard⟩ (by simp) rfl
      have tG : a.tmps[104]? = some (a.eval (.tmp 104)) := seen.got ⟨9, .guard⟩ (by simp) rfl
      rw [eG] at tG
      have e4 : a.eval (.tmp 4) = .pointer (some ⟨b4, 0, none⟩) := seen.kp 4 _ (nd 4 (by omega)) rfl
      have y0 := (X4.out.on hb).cell 0
      have y1 := (X4.out.on hb).cell 1
      have y2 := (X4.out.on hb).cell 2
      have y3 := (X4.out.on hb).cell 3
      have y4 := (X4.out.on hb).cell 4
      have y5 := (X4.out.on hb).cell 5
      simp only [List.getElem?_toArray, List.getElem?_cons_zero, List.getElem?_cons_succ] at y0 y1 y2 y3 y4 y5
      exact Rg.op_value_w rfl (Rg.wanted_of rfl rfl rfl tG) (Rg.ex_load a.eval _ 29 (.tmp 4) rfl (by rw [e4]; simp [go_sem, y0, y1, y2, y3, y4, y5])) (hK _ x rfl (Below.refl _ _))
    · obtain rfl := Option.some.inj ho
      have eG : a.eval (.tmp 104) = .bool false := seen.at_ ⟨9, .guard⟩ (by simp) rfl
      have tG : a.tmps[104]? = some (a.eval (.tmp 104)) := seen.got ⟨9, .guard⟩ (by simp) rfl
      rw [eG] at tG
      have e105 : a.eval (.tmp 105) = .agg #[.int .i64 b.me, .slice s1 s2 s3, .slice s4 s5 s6, .slice s7 s8 s9, .slice s10 s11 s12, .slice s13 s14 s15] := seen.at_ ⟨10, .data⟩ (by simp) rfl
      have e106 : a.eval (.tmp 106) = .agg #[.int .i64 b.me, .slice o1 o2 o3, .slice o4 o5 o6, .slice o7 o8 o9, .slice o10 o11 o12, .slice o13 o14 o15] := seen.at_ ⟨11, .data⟩ (by simp) rfl
      exact Rg.op_call_w rfl (Rg.wanted_of rfl rfl rfl tG) (Rw.ex_call2 a.eval _ (.tmp 105) (.tmp 106) 29 29 17 rfl e105 e106 rfl _ (call_fn Tryz.func17 rfl rfl _ _)) (asame_any b b (s1, s2, s3) (s4, s5, s6) (s7, s8, s9) (s10, s11, s12) (s13, s14, s15) (o1, o2, o3) (o4, o5, o6) (o7, o8, o9) (o10, o11, o12) (o13, o14, o15) x (B3.out.on hb).br (B4.out.on hb).br FW.out FP.out.pa) fun e w1 h => by
        obtain ⟨rfl, hb1⟩ := h
        rw [same_self]
        exact ⟨_, rfl, hK _ _ rfl hb1⟩
    · obtain rfl := Option.some.inj ho
      have eG : a.eval (.tmp 104) = .bool false := seen.at_ ⟨9, .guard⟩ (by simp) rfl
      have tG : a.tmps[104]? = some (a.eval (.tmp 104)) := seen.got ⟨9, .guard⟩ (by simp) rfl
      rw [eG] at tG
      have e107 : a.eval (.tmp 107) = .bool true := seen.at_ ⟨12, .data⟩ (by simp) rfl
      exact Rg.op_value_w rfl (Rg.wanted_of rfl rfl rfl tG) (Rg.ex_not a.eval _ 4 (.tmp 107) rfl e107 x) (hK _ x rfl (Below.refl _ _))
    · obtain rfl := Option.some.inj ho
      have e104 : a.eval (.tmp 104) = .bool false := seen.at_ ⟨9, .data⟩ (by simp) rfl
      have e108 : a.eval (.tmp 108) = .bool false := seen.at_ ⟨13, .data⟩ (by simp) rfl
      exact Rg.op_value rfl rfl (Rg.ex_pick_f a.eval _ (.tmp 104) (.const (.bool true)) (.tmp 108) rfl e104 e108 x) (hK _ x rfl (Below.refl _ _))
    · obtain rfl := Option.some.inj ho
      have e109 : a.eval (.tmp 109) = .bool false := seen.at_ ⟨14, .data⟩ (by simp) rfl
      exact Rg.op_value rfl rfl (Rg.ex_move a.eval _ (.tmp 109) rfl x) (hK _ x e109 (Below.refl _ _))
    · obtain rfl := Option.some.inj ho
      have eG : a.eval (.tmp 110) = .bool false := seen.at_ ⟨15, .guard⟩ (by simp) rfl
      have tG : a.tmps[110]? = some (a.eval (.tmp 110)) := seen.got ⟨15, .guard⟩ (by simp) rfl
      rw [eG] at tG
      have e3 : a.eval (.tmp 3) = .pointer (some ⟨b3, 0, none⟩) := seen.kp 3 _ (nd 3 (by omega)) rfl
      have y0 := (X3.out.on hb).cell 0
      have y1 := (X3.out.on hb).cell 1
      have y2 := (X3.out.on hb).cell 2
      have y3 := (X3.out.on hb).cell 3
      have y4 := (X3.out.on hb).cell 4
      have y5 := (X3.out.on hb).cell 5
      simp only [List.getElem?_toArray, List.getElem?_cons_zero, List.getElem?_cons_succ] at y0 y1 y2 y3 y4 y5
      exact Rg.op_value_w rfl (Rg.wanted_of rfl rfl rfl tG) (Rg.ex_load a.eval _ 29 (.tmp 3) rfl (by rw [e3]; simp [go_sem, y0, y1, y2, y3, y4, y5])) (hK _ x rfl (Below.refl _ _))
    · obtain rfl := Option.some.inj ho
      have eG : a.eval (.tmp 110) = .bool false := seen.at_ ⟨15, .guard⟩ (by simp) rfl
      have tG : a.tmps[110]? = some (a.eval (.tmp 110)) := seen.got ⟨15, .guard⟩ (by simp) rfl
      rw [eG] at tG
      have e111 : a.eval (.tmp 111) = .agg #[.int .i64 b.me, .slice s1 s2 s3, .slice s4 s5 s6, .slice s7 s8 s9, .slice s10 s11 s12, .slice s13 s14 s15] := seen.at_ ⟨16, .data⟩ (by simp) rfl
      exact Rg.op_call_w rfl (Rg.wanted_of rfl rfl rfl tG) (Rw.ex_call1 a.eval _ (.tmp 111) 29 18 rfl e111 rfl _ (call_fn Tryz.func18 rfl rfl _ _)) (aright_any b (s1, s2, s3) (s4, s5, s6) (s7, s8, s9) (s10, s11, s12) (s13, s14, s15) x (B3.out.on hb).br FW.out TB.out) fun e w1 h => by
        obtain ⟨rfl, hb1⟩ := h
        rw [OK.out]
        exact ⟨_, rfl, hK _ _ rfl hb1⟩
    · obtain rfl := Option.some.inj ho
      have eG : a.eval (.tmp 110) = .bool false := seen.at_ ⟨15, .guard⟩ (by simp) rfl
      have tG : a.tmps[110]? = some (a.eval (.tmp 110)) := seen.got ⟨15, .guard⟩ (by simp) rfl
      rw [eG] at tG
      have e112 : a.eval (.tmp 112) = .bool true := seen.at_ ⟨17, .data⟩ (by simp) rfl
      exact Rg.op_value_w rfl (Rg.wanted_of rfl rfl rfl tG) (Rg.ex_not a.eval _ 4 (.tmp 112) rfl e112 x) (hK _ x rfl (Below.refl _ _))
    · obtain rfl := Option.some.inj ho
      have e110 : a.eval (.tmp 110) = .bool false := seen.at_ ⟨15, .data⟩ (by simp) rfl
      have e113 : a.eval (.tmp 113) = .bool false := seen.at_ ⟨18, .data⟩ (by simp) rfl
      exact Rg.op_value rfl rfl (Rg.ex_pick_f a.eval _ (.tmp 110) (.const (.bool true)) (.tmp 113) rfl e110 e113 x) (hK _ x rfl (Below.refl _ _))
    · obtain rfl := Option.some.inj ho
      have e114 : a.eval (.tmp 114) = .bool false := seen.at_ ⟨19, .data⟩ (by simp) rfl
      exact Rg.op_value rfl rfl (Rg.ex_move a.eval _ (.tmp 114) rfl x) (hK _ x e114 (Below.refl _ _))
    · obtain rfl := Option.some.inj ho
      have eG : a.eval (.tmp 115) = .bool false := seen.at_ ⟨20, .guard⟩ (by simp) rfl
      have tG : a.tmps[115]? = some (a.eval (.tmp 115)) := seen.got ⟨20, .guard⟩ (by simp) rfl
      rw [eG] at tG
      have e15 : a.eval (.tmp 15) = .bool false := seen.kp 15 _ (nd 15 (by omega)) rfl
      exact Rg.op_value_w rfl (Rg.wanted_of rfl rfl rfl tG) (Rg.ex_move a.eval _ (.tmp 15) rfl x) (hK _ x e15 (Below.refl _ _))
    · obtain rfl := Option.some.inj ho
      have eG : a.eval (.tmp 115) = .bool false := seen.at_ ⟨20, .guard⟩ (by simp) rfl
      have tG : a.tmps[115]? = some (a.eval (.tmp 115)) := seen.got ⟨20, .guard⟩ (by simp) rfl
      rw [eG] at tG
      have e16 : a.eval (.tmp 16) = .int .i64 (-1) := seen.kp 16 _ (nd 16 (by omega)) rfl
      exact Rg.op_value_w rfl (Rg.wanted_of rfl rfl rfl tG) (Rg.ex_move a.eval _ (.tmp 16) rfl x) (hK _ x e16 (Below.refl _ _))
    · obtain rfl := Option.some.inj ho
      have eG : a.eval (.tmp 115) = .bool false := seen.at_ ⟨20, .guard⟩ (by simp) rfl
      have tG : a.tmps[115]? = some (a.eval (.tmp 115)) := seen.got ⟨20, .guard⟩ (by simp) rfl
      rw [eG] at tG
      have e117 : a.eval (.tmp 117) = .int .i64 (-1) := seen.at_ ⟨22, .data⟩ (by simp) rfl
      exact Rg.op_value_w rfl (Rg.wanted_of rfl rfl rfl tG) (Rg.ex_bin a.eval _ .geq 3 (.tmp 117) (.const (.int .i64 0)) 3 rfl (by rw [e117]; exact Rg.geq_neg _ _ x)) (hK _ x rfl (Below.refl _ _))
    · obtain rfl := Option.some.inj ho
      have eG : a.eval (.tmp 115) = .bool false := seen.at_ ⟨20, .guard⟩ (by simp) rfl
      have tG : a.tmps[115]? = some (a.eval (.tmp 115)) := seen.got ⟨20, .guard⟩ (by simp) rfl
      rw [eG] at tG
      have e116 : a.eval (.tmp 116) = .bool false := seen.at_ ⟨21, .data⟩ (by simp) rfl
      have e118 : a.eval (.tmp 118) = .bool false := seen.at_ ⟨23, .data⟩ (by simp) rfl
      exact Rg.op_value_w rfl (Rg.wanted_of rfl rfl rfl tG) (Rg.ex_bin a.eval _ .neq 4 (.tmp 116) (.tmp 118) 4 rfl (by rw [e116, e118]; exact Rg.neq_bool _ _ _ x)) (hK _ x rfl (Below.refl _ _))
    · obtain rfl := Option.some.inj ho
      have e115 : a.eval (.tmp 115) = .bool false := seen.at_ ⟨20, .data⟩ (by simp) rfl
      have e119 : a.eval (.tmp 119) = .bool false := seen.at_ ⟨24, .data⟩ (by simp) rfl
      exact Rg.op_value rfl rfl (Rg.ex_pick_f a.eval _ (.tmp 115) (.const (.bool true)) (.tmp 119) rfl e115 e119 x) (hK _ x rfl (Below.refl _ _))
    · obtain rfl := Option.some.inj ho
      have e120 : a.eval (.tmp 120) = .bool false := seen.at_ ⟨25, .data⟩ (by simp) rfl
      exact Rg.op_value rfl rfl (Rg.ex_move a.eval _ (.tmp 120) rfl x) (hK _ x e120 (Below.refl _ _))
    · obtain rfl := Option.some.inj ho
      have eG : a.eval (.tmp 121) = .bool false := seen.at_ ⟨26, .guard⟩ (by simp) rfl
      have tG : a.tmps[121]? = some (a.eval (.tmp 121)) := seen.got ⟨26, .guard⟩ (by simp) rfl
      rw [eG] at tG
      have e15 : a.eval (.tmp 15) = .bool false := seen.kp 15 _ (nd 15 (by omega)) rfl
      exact Rg.op_value_w rfl (Rg.wanted_of rfl rfl rfl tG) (Rg.ex_move a.eval _ (.tmp 15) rfl x) (hK _ x e15 (Below.refl _ _))
    · obtain rfl := Option.some.inj ho
      have eG : a.eval (.tmp 121) = .bool false := seen.at_ ⟨26, .guard⟩ (by simp) rfl
      have tG : a.tmps[121]? = some (a.eval (.tmp 121)) := seen.got ⟨26, .guard⟩ (by simp) rfl
      rw [eG] at tG
      have e122 : a.eval (.tmp 122) = .bool false := seen.at_ ⟨27, .data⟩ (by simp) rfl
      exact Rg.op_value_w rfl (Rg.wanted_of rfl rfl rfl tG) (Rg.ex_move a.eval _ (.tmp 122) rfl x) (hK _ x e122 (Below.refl _ _))
    · obtain rfl := Option.some.inj ho
      have eG : a.eval (.tmp 123) = .bool false := seen.at_ ⟨28, .guard⟩ (by simp) rfl
      have tG : a.tmps[123]? = some (a.eval (.tmp 123)) := seen.got ⟨28, .guard⟩ (by simp) rfl
      rw [eG] at tG
      exact Rg.op_unwanted rfl (Rg.unwanted_of rfl rfl rfl tG (by decide)) (hK _ x rfl (Below.refl _ _))
    · obtain rfl := Option.some.inj ho
      have eG : a.eval (.tmp 123) = .bool false := seen.at_ ⟨28, .guard⟩ (by simp) rfl
      have tG : a.tmps[123]? = some (a.eval (.tmp 123)) := seen.got ⟨28, .guard⟩ (by simp) rfl
      rw [eG] at tG
      exact Rg.op_unwanted rfl (Rg.unwanted_of rfl rfl rfl tG (by decide)) (hK _ x rfl (Below.refl _ _))
    · obtain rfl := Option.some.inj ho
      have eG : a.eval (.tmp 123) = .bool false := seen.at_ ⟨28, .guard⟩ (by simp) rfl
      have tG : a.tmps[123]? = some (a.eval (.tmp 123)) := seen.got ⟨28, .guard⟩ (by simp) rfl
      rw [eG] at tG
      exact Rg.op_unwanted rfl (Rg.unwanted_of rfl rfl rfl tG (by decide)) (hK _ x rfl (Below.refl _ _))
    · obtain rfl := Option.some.inj ho
      have eG : a.eval (.tmp 123) = .bool false := seen.at_ ⟨28, .guard⟩ (by simp) rfl
      have tG : a.tmps[123]? = some (a.eval (.tmp 123)) := seen.got ⟨28, .guard⟩ (by simp) rfl
      rw [eG] at tG
      exact Rg.op_unwanted rfl (Rg.unwanted_of rfl rfl rfl tG (by decide)) (hK _ x rfl (Below.refl _ _))
    · obtain rfl := Option.some.inj ho
      have eG : a.eval (.tmp 123) = .bool false := seen.at_ ⟨28, .guard⟩ (by simp) rfl
      have tG : a.tmps[123]? = some (a.eval (.tmp 123)) := seen.got ⟨28, .guard⟩ (by simp) rfl
      rw [eG] at tG
      exact Rg.op_unwanted rfl (Rg.unwanted_of rfl rfl rfl tG (by decide)) (hK _ x rfl (Below.refl _ _))
    · obtain rfl := Option.some.inj ho
      have eG : a.eval (.tmp 128) = undef := seen.at_ ⟨33, .guard⟩ (by simp) rfl
      have tG : a.tmps[128]? = some (a.eval (.tmp 128)) := seen.got ⟨33, .guard⟩ (by simp) rfl
      rw [eG] at tG
      exact Rg.op_unwanted rfl (Rg.unwanted_undef rfl rfl rfl tG) (hK _ x rfl (Below.refl _ _))
    · obtain rfl := Option.some.inj ho
      have eG : a.eval (.tmp 128) = undef := seen.at_ ⟨33, .guard⟩ (by simp) rfl
      have tG : a.tmps[128]? = some (a.eval (.tmp 128)) := seen.got ⟨33, .guard⟩ (by simp) rfl
      rw [eG] at tG
      exact Rg.op_unwanted rfl (Rg.unwanted_undef rfl rfl rfl tG) (hK _ x rfl (Below.refl _ _))
    · obtain rfl := Option.some.inj ho
      have eG : a.eval (.tmp 128) = undef := seen.at_ ⟨33, .guard⟩ (by simp) rfl
      have tG : a.tmps[128]? = some (a.eval (.tmp 128)) := seen.got ⟨33, .guard⟩ (by simp) rfl
      rw [eG] at tG
      exact Rg.op_unwanted rfl (Rg.unwanted_undef rfl rfl rfl tG) (hK _ x rfl (Below.refl _ _))
    · obtain rfl := Option.some.inj ho
      have eG : a.eval (.tmp 128) = undef := seen.at_ ⟨33, .guard⟩ (by simp) rfl
      have tG : a.tmps[128]? = some (a.eval (.tmp 128)) := seen.got ⟨33, .guard⟩ (by simp) rfl
      rw [eG] at tG
      exact Rg.op_unwanted rfl (Rg.unwanted_undef rfl rfl rfl tG) (hK _ x rfl (Below.refl _ _))
    · obtain rfl := Option.some.inj ho
      have eG : a.eval (.tmp 128) = undef := seen.at_ ⟨33, .guard⟩ (by simp) rfl
      have tG : a.tmps[128]? = some (a.eval (.tmp 128)) := seen.got ⟨33, .guard⟩ (by simp) rfl
      rw [eG] at tG
      exact Rg.op_unwanted rfl (Rg.unwanted_undef rfl rfl rfl tG) (hK _ x rfl (Below.refl _ _))
    · obtain rfl := Option.some.inj ho
      have eG : a.eval (.tmp 128) = undef := seen.at_ ⟨33, .guard⟩ (by simp) rfl
      have tG : a.tmps[128]? = some (a.eval (.tmp 128)) := seen.got ⟨33, .guard⟩ (by simp) rfl
      rw [eG] at tG
      exact Rg.op_unwanted rfl (Rg.unwanted_undef rfl rfl rfl tG) (hK _ x rfl (Below.refl _ _))
    · obtain rfl := Option.some.inj ho
      have eG : a.eval (.tmp 128) = undef := seen.at_ ⟨33, .guard⟩ (by simp) rfl
      have tG : a.tmps[128]? = some (a.eval (.tmp 128)) := seen.got ⟨33, .guard⟩ (by simp) rfl
      rw [eG] at tG
      exact Rg.op_unwanted rfl (Rg.unwanted_undef rfl rfl rfl tG) (hK _ x rfl (Below.refl _ _))
    · obtain rfl := Option.some.inj ho
      have eG : a.eval (.tmp 128) = undef := seen.at_ ⟨33, .guard⟩ (by simp) rfl
      have tG : a.tmps[128]? = some (a.eval (.tmp 128)) := seen.got ⟨33, .guard⟩ (by simp) rfl
      rw [eG] at tG
      exact Rg.op_unwanted rfl (Rg.unwanted_undef rfl rfl rfl tG) (hK _ x rfl (Below.refl _ _))
    · obtain rfl := Option.some.inj ho
      have eG : a.eval (.tmp 128) = undef := seen.at_ ⟨33, .guard⟩ (by simp) rfl
      have tG : a.tmps[128]? = some (a.eval (.tmp 128)) := seen.got ⟨33, .guard⟩ (by simp) rfl
      rw [eG] at tG
      exact Rg.op_unwanted rfl (Rg.unwanted_undef rfl rfl rfl tG) (hK _ x rfl (Below.refl _ _))
    · obtain rfl := Option.some.inj ho
      have eG : a.eval (.tmp 123) = .bool false := seen.at_ ⟨28, .guard⟩ (by simp) rfl
      have tG : a.tmps[123]? = some (a.eval (.tmp 123)) := seen.got ⟨28, .guard⟩ (by simp) rfl
      rw [eG] at tG
      exact Rg.op_unwanted rfl (Rg.unwanted_of rfl rfl rfl tG (by decide)) (hK _ x rfl (Below.refl _ _))
    · obtain rfl := Option.some.inj ho
      have eG : a.eval (.tmp 121) = .bool false := seen.at_ ⟨26, .guard⟩ (by simp) rfl
      have tG : a.tmps[121]? = some (a.eval (.tmp 121)) := seen.got ⟨26, .guard⟩ (by simp) rfl
      rw [eG] at tG
      have e123 : a.eval (.tmp 123) = .bool false := seen.at_ ⟨28, .data⟩ (by simp) rfl
      have e138 : a.eval (.tmp 138) = undef := seen.at_ ⟨43, .data⟩ (by simp) rfl
      exact Rg.op_value_w rfl (Rg.wanted_of rfl rfl rfl tG) (Rg.ex_pick_f a.eval _ (.tmp 123) (.tmp 138) (.const (.bool false)) rfl e123 rfl x) (hK _ x rfl (Below.refl _ _))
    · obtain rfl := Option.some.inj ho
      have e121 : a.eval (.tmp 121) = .bool false := seen.at_ ⟨26, .data⟩ (by simp) rfl
      have e139 : a.eval (.tmp 139) = .bool false := seen.at_ ⟨44, .data⟩ (by simp) rfl
      exact Rg.op_value rfl rfl (Rg.ex_pick_f a.eval _ (.tmp 121) (.const (.bool true)) (.tmp 139) rfl e121 e139 x) (hK _ x rfl (Below.refl _ _))
    · obtain rfl := Option.some.inj ho
      have e140 : a.eval (.tmp 140) = .bool false := seen.at_ ⟨45, .data⟩ (by simp) rfl
      exact Rg.op_value rfl rfl (Rg.ex_move a.eval _ (.tmp 140) rfl x) (hK _ x e140 (Below.refl _ _))
    · obtain rfl := Option.some.inj ho
      have eG : a.eval (.tmp 141) = .bool false := seen.at_ ⟨46, .guard⟩ (by simp) rfl
      have tG : a.tmps[141]? = some (a.eval (.tmp 141)) := seen.got ⟨46, .guard⟩ (by simp) rfl
      rw [eG] at tG
      have e10 : a.eval (.tmp 10) = .pointer (some ⟨b10, 0, none⟩) := seen.kp 10 _ (nd 10 (by omega)) rfl
      have y0 := (X10.out.on hb).cell 0
      have y1 := (X10.out.on hb).cell 1
      have y2 := (X10.out.on hb).cell 2
      have y3 := (X10.out.on hb).cell 3
      have y4 := (X10.out.on hb).cell 4
      have y5 := (X10.out.on hb).cell 5
      simp only [List.getElem?_toArray, List.getElem?_cons_zero, List.getElem?_cons_succ] at y0 y1 y2 y3 y4 y5
      exact Rg.op_value_w rfl (Rg.wanted_of rfl rfl rfl tG) (Rg.ex_load a.eval _ 29 (.tmp 10) rfl (by rw [e10]; simp [go_sem, y0, y1, y2, y3, y4, y5])) (hK _ x rfl (Below.refl _ _))
    · obtain rfl := Option.some.inj ho
      have eG : a.eval (.tmp 141) = .bool false := seen.at_ ⟨46, .guard⟩ (by simp) rfl
      have tG : a.tmps[141]? = some (a.eval (.tmp 141)) := seen.got ⟨46, .guard⟩ (by simp) rfl
      rw [eG] at tG
      have e9 : a.eval (.tmp 9) = .pointer (some ⟨b9, 0, none⟩) := seen.kp 9 _ (nd 9 (by omega)) rfl
      have y0 := (X9.out.on hb).cell 0
      have y1 := (X9.out.on hb).cell 1
      have y2 := (X9.out.on hb).cell 2
      have y3 := (X9.out.on hb).cell 3
      have y4 := (X9.out.on hb).cell 4
      have y5 := (X9.out.on hb).cell 5
      simp only [List.getElem?_toArray, List.getElem?_cons_zero, List.getElem?_cons_succ] at y0 y1 y2 y3 y4 y5
      exact Rg.op_value_w rfl (Rg.wanted_of rfl rfl rfl tG) (Rg.ex_load a.eval _ 29 (.tmp 9) rfl (by rw [e9]; simp [go_sem, y0, y1, y2, y3, y4, y5])) (hK _ x rfl (Below.refl _ _))
    · obtain rfl := Option.some.inj ho
      have eG : a.eval (.tmp 141) = .bool false := seen.at_ ⟨46, .guard⟩ (by simp) rfl
      have tG : a.tmps[141]? = some (a.eval (.tmp 141)) := seen.got ⟨46, .guard⟩ (by simp) rfl
      rw [eG] at tG
      have e142 : a.eval (.tmp 142) = .agg #[.int .i64 b0.me, .slice e1 e2 e3, .slice e4 e5 e6, .slice e7 e8 e9, .slice e10 e11 e12, .slice e13 e14 e15] := seen.at_ ⟨47, .data⟩ (by simp) rfl
      have e143 : a.eval (.tmp 143) = .agg #[.int .i64 b0.me, .slice w1 w2 w3, .slice w4 w5 w6, .slice w7 w8 w9, .slice w10 w11 w12, .slice w13 w14 w15] := seen.at_ ⟨48, .data⟩ (by simp) rfl
      exact Rg.op_call_w rfl (Rg.wanted_of rfl rfl rfl tG) (Rw.ex_call2 a.eval _ (.tmp 142) (.tmp 143) 29 29 16 rfl e142 e143 rfl _ (call_fn Tryz.func16 rfl rfl _ _)) (brokers_any b0 b0 (e1, e2, e3) (e4, e5, e6) (e7, e8, e9) (e10, e11, e12) (e13, e14, e15) (w1, w2, w3) (w4, w5, w6) (w7, w8, w9) (w10, w11, w12) (w13, w14, w15) x (B10.out.on hb).br (B9.out.on hb).br FP0.out.shr FP0.out.shr FW0.out) fun e w1 h => by
        obtain ⟨rfl, hb1⟩ := h
        rw [same_self]
        exact ⟨_, rfl, hK _ _ rfl hb1⟩
    · obtain rfl := Option.some.inj ho
      have eG : a.eval (.tmp 141) = .bool false := seen.at_ ⟨46, .guard⟩ (by simp) rfl
      have tG : a.tmps[141]? = some (a.eval (.tmp 141)) := seen.got ⟨46, .guard⟩ (by simp) rfl
      rw [eG] at tG
      have e144 : a.eval (.tmp 144) = .bool true := seen.at_ ⟨49, .data⟩ (by simp) rfl
      exact Rg.op_value_w rfl (Rg.wanted_of rfl rfl rfl tG) (Rg.ex_not a.eval _ 4 (.tmp 144) rfl e144 x) (hK _ x rfl (Below.refl _ _))
    · obtain rfl := Option.some.inj ho
      have e141 : a.eval (.tmp 141) = .bool false := seen.at_ ⟨46, .data⟩ (by simp) rfl
      have e145 : a.eval (.tmp 145) = .bool false := seen.at_ ⟨50, .data⟩ (by simp) rfl
      exact Rg.op_value rfl rfl (Rg.ex_pick_f a.eval _ (.tmp 141) (.const (.bool true)) (.tmp 145) rfl e141 e145 x) (hK _ x rfl (Below.refl _ _))
  · intro a x df sz kp hv hbel
    have g146 : a.tmps[146]? = some (.bool false) := by
      obtain ⟨v, h1, h2⟩ := hv 51 (by decide)
      have h3 : v = .bool false := h2
      rw [← h3]
      exact h1
    have kp2 : ∀ j, (j < 95 ∨ 147 ≤ j) → a.tmps[j]? = (u0 :: u1 :: u2 :: .pointer (some ⟨b3, 0, none⟩) :: .pointer (some ⟨b4, 0, none⟩) :: u5 :: u6 :: u7 :: u8 :: .pointer (some ⟨b9, 0, none⟩) :: .pointer (some ⟨b10, 0, none⟩) :: .bool g :: .bool g :: u13 :: u14 :: .bool false :: .int .i64 (-1) :: u17 :: u18 :: u19 :: u20 :: u21 :: u22 :: u23 :: u24 :: u25 :: u26 :: u27 :: u28 :: u29 :: u30 :: u31 :: u32 :: u33 :: u34 :: u35 :: u36 :: u37 :: u38 :: u39 :: u40 :: u41 :: u42 :: u43 :: u44 :: u45 :: u46 :: u47 :: u48 :: u49 :: u50 :: u51 :: u52 :: u53 :: u54 :: u55 :: u56 :: u57 :: u58 :: u59 :: u60 :: u61 :: u62 :: u63 :: u64 :: u65 :: u66 :: u67 :: u68 :: u69 :: u70 :: u71 :: u72 :: u73 :: u74 :: u75 :: u76 :: u77 :: u78 :: u79 :: u80 :: u81 :: u82 :: u83 :: u84 :: u85 :: u86 :: u87 :: u88 :: u89 :: u90 :: u91 :: u92 :: u93 :: u94 :: u95 :: u96 :: u97 :: u98 :: u99 :: u100 :: u101 :: u102 :: u103 :: u104 :: u105 :: u106 :: u107 :: u108 :: u109 :: u110 :: u111 :: u112 :: u113 :: u114 :: u115 :: u116 :: u117 :: u118 :: u119 :: u120 :: u121 :: u122 :: u123 :: u124 :: u125 :: u126 :: u127 :: u128 :: u129 :: u130 :: u131 :: u132 :: u133 :: u134 :: u135 :: u136 :: u137 :: u138 :: u139 :: u140 :: u141 :: u142 :: u143 :: u144 :: u145 :: u146 :: u147 :: [])[j]? := fun j hj => (kp j (nd j hj)).trans List.getElem?_toArray
    obtain ⟨mid, hmid, rfl⟩ := Rg.frame_mid (bl := (u0 :: u1 :: u2 :: .pointer (some ⟨b3, 0, none⟩) :: .pointer (some ⟨b4, 0, none⟩) :: u5 :: u6 :: u7 :: u8 :: .pointer (some ⟨b9, 0, none⟩) :: .pointer (some ⟨b10, 0, none⟩) :: .bool g :: .bool g :: u13 :: u14 :: .bool false :: .int .i64 (-1) :: u17 :: u18 :: u19 :: u20 :: u21 :: u22 :: u23 :: u24 :: u25 :: u26 :: u27 :: u28 :: u29 :: u30 :: u31 :: u32 :: u33 :: u34 :: u35 :: u36 :: u37 :: u38 :: u39 :: u40 :: u41 :: u42 :: u43 :: u44 :: u45 :: u46 :: u47 :: u48 :: u49 :: u50 :: u51 :: u52 :: u53 :: u54 :: u55 :: u56 :: u57 :: u58 :: u59 :: u60 :: u61 :: u62 :: u63 :: u64 :: u65 :: u66 :: u67 :: u68 :: u69 :: u70 :: u71 :: u72 :: u73 :: u74 :: u75 :: u76 :: u77 :: u78 :: u79 :: u80 :: u81 :: u82 :: u83 :: u84 :: u85 :: u86 :: u87 :: u88 :: u89 :: u90 :: u91 :: u92 :: u93 :: u94 :: u95 :: u96 :: u97 :: u98 :: u99 :: u100 :: u101 :: u102 :: u103 :: u104 :: u105 :: u106 :: u107 :: u108 :: u109 :: u110 :: u111 :: u112 :: u113 :: u114 :: u115 :: u116 :: u117 :: u118 :: u119 :: u120 :: u121 :: u122 :: u123 :: u124 :: u125 :: u126 :: u127 :: u128 :: u129 :: u130 :: u131 :: u132 :: u133 :: u134 :: u135 :: u136 :: u137 :: u138 :: u139 :: u140 :: u141 :: u142 :: u143 :: u144 :: u145 :: u146 :: u147 :: [])) 95 52 df sz (by simp) kp2
    match mid, hmid with
    | v95 :: v96 :: v97 :: v98 :: v99 :: v100 :: v101 :: v102 :: v103 :: v104 :: v105 :: v106 :: v107 :: v108 :: v109 :: v110 :: v111 :: v112 :: v113 :: v114 :: v115 :: v116 :: v117 :: v118 :: v119 :: v120 :: v121 :: v122 :: v123 :: v124 :: v125 :: v126 :: v127 :: v128 :: v129 :: v130 :: v131 :: v132 :: v133 :: v134 :: v135 :: v136 :: v137 :: v138 :: v139 :: v140 :: v141 :: v142 :: v143 :: v144 :: v145 :: v146 :: [], _ =>
      obtain rfl : v146 = .bool false := Option.some.inj g146
      exact HQ.out x _ _ _ _ _ _ _ _ _ _ _ _ _ _ _ _ _ _ _ _ _ _ _ _ _ _ _ _ _ _ _ _ _ _ _ _ _ _ _ _ _ _ _ _ _ _ _ _ _ _ _ hbel
def play21sV (_B : Nat) (_b3 b4 _b7 _b9 _b10 b14 : Nat) (g : Bool) (b b0 : Br) (n : Nat) (i1 i2 par : Int) (p : Addr) (_y1 : Option Addr) (_y2 _y3 : Nat) (s1 : Option Addr) (s2 s3 : Nat) (s4 : Option Addr) (s5 s6 : Nat) (s7 : Option Addr) (s8 s9 : Nat) (s10 : Option Addr) (s11 s12 : Nat) (s13 : Option Addr) (s14 s15 : Nat) (o1 : Option Addr) (o2 o3 : Nat) (o4 : Option Addr) (o5 o6 : Nat) (o7 : Option Addr) (o8 o9 : Nat) (o10 : Option Addr) (o11 o12 : Nat) (o13 : Option Addr) (o14 o15 : Nat) (w1 : Option Addr) (w2 w3 : Nat) (w4 : Option Addr) (w5 w6 : Nat) (w7 : Option Addr) (w8 w9 : Nat) (w10 : Option Addr) (w11 w12 : Nat) (w13 : Option Addr) (w14 w15 : Nat) (e1 : Option Addr) (e2 e3 : Nat) (e4 : Option Addr) (e5 e6 : Nat) (e7 : Option Addr) (e8 e9 : Nat) (e10 : Option Addr) (e11 e12 : Nat) (e13 : Option Addr) (e14 e15 : Nat) (i : Nat) (v : Value) (_x : World) : Prop :=
  match i with
  | 0 => v = .bool g
  | 1 => v = .bool g
  | 2 => v = .bool false
  | 3 => v = .bool false
  | 4 => v = .agg #[.int .i64 b.me, .slice s1 s2 s3, .slice s4 s5 s6, .slice s7 s8 s9, .slice s10 s11 s12, .slice s13 s14 s15]
  | 5 => v = .agg #[.int .i64 b.me, .slice o1 o2 o3, .slice o4 o5 o6, .slice o7 o8 o9, .slice o10 o11 o12, .slice o13 o14 o15]
  | 6 => v = .bool true
  | 7 => v = .bool false
  | 8 => v = .bool false
  | 9 => v = .bool false
  | 10 => v = .agg #[.int .i64 b.me, .slice s1 s2 s3, .slice s4 s5 s6, .slice s7 s8 s9, .slice s10 s11 s12, .slice s13 s14 s15]
  | 11 => v = .agg #[.int .i64 b.me, .slice o1 o2 o3, .slice o4 o5 o6, .slice o7 o8 o9, .slice o10 o11 o12, .slice o13 o14 o15]
  | 12 => v = .bool true
  | 13 => v = .bool false
  | 14 => v = .bool false
  | 15 => v = .bool false
  | 16 => v = .agg #[.int .i64 b.me, .slice s1 s2 s3, .slice s4 s5 s6, .slice s7 s8 s9, .slice s10 s11 s12, .slice s13 s14 s15]
  | 17 => v = .bool true
  | 18 => v = .bool false
  | 19 => v = .bool false
  | 20 => v = .bool false
  | 21 => v = .bool true
  | 22 => v = .int .i64 (n : Int)
  | 23 => v = .bool true
  | 24 => v = .bool false
  | 25 => v = .bool false
  | 26 => v = .bool false
  | 27 => v = .bool true
  | 28 => v = .bool true
  | 29 => v = .pointer (some ⟨b14, 0, none⟩)
  | 30 => v = .agg #[.int .i64 i1, .int .i64 i2]
  | 31 => v = .agg #[.int .i64 i1, .int .i64 i2]
  | 32 => v = .bool false
  | 33 => v = .bool false
  | 34 => v = .pointer (some ⟨b14, 3, none⟩)
  | 35 => v = .int .i64 par
  | 36 => v = .pointer (some ⟨b4, 2, none⟩)
  | 37 => v = .slice o4 o5 o6
  | 38 => v = .int .i64 (n : Int)
  | 39 => v = .pointer (some p)
  | 40 => v = .pointer (some (p.add 3))
  | 41 => v = .int .i64 par
  | 42 => v = .bool false
  | 43 => v = .bool false
  | 44 => v = .bool false
  | 45 => v = .bool false
  | 46 => v = .bool false
  | 47 => v = .agg #[.int .i64 b0.me, .slice e1 e2 e3, .slice e4 e5 e6, .slice e7 e8 e9, .slice e10 e11 e12, .slice e13 e14 e15]
  | 48 => v = .agg #[.int .i64 b0.me, .slice w1 w2 w3, .slice w4 w5 w6, .slice w7 w8 w9, .slice w10 w11 w12, .slice w13 w14 w15]
  | 49 => v = .bool true
  | 50 => v = .bool false
  | 51 => v = .bool false
  | _ => True
noncomputable def play21sC : Code := ((Tryz.f3.body.bind (findRegion 21)).getD .skip)
set_option maxRecDepth 100000 in
set_option maxHeartbeats 8000000 in
theorem play21s (Q : Exit → Act → World → Prop) (W : World) (b3 b4 b7 b9 b10 b14 : Nat) (g : Bool) (b b0 : Br) (n : Nat) (i1 i2 par : Int) (p : Addr) (y1 : Option Addr) (y2 y3 : Nat) (s1 : Option Addr) (s2 s3 : Nat) (s4 : Option Addr) (s5 s6 : Nat) (s7 : Option Addr) (s8 s9 : Nat) (s10 : Option Addr) (s11 s12 : Nat) (s13 : Option Addr) (s14 s15 : Nat) (o1 : Option Addr) (o2 o3 : Nat) (o4 : Option Addr) (o5 o6 : Nat) (o7 : Option Addr) (o8 o9 : Nat) (o10 : Option Addr) (o11 o12 : Nat) (o13 : Option Addr) (o14 o15 : Nat) (w1 : Option Addr) (w2 w3 : Nat) (w4 : Option Addr) (w5 w6 : Nat) (w7 : Option Addr) (w8 w9 : Nat) (w10 : Option Addr) (w11 w12 : Nat) (w13 : Option Addr) (w14 w15 : Nat) (e1 : Option Addr) (e2 e3 : Nat) (e4 : Option Addr) (e5 e6 : Nat) (e7 : Option Addr) (e8 e9 : Nat) (e10 : Option Addr) (e11 e12 : Nat) (e13 : Option Addr) (e14 e15 : Nat) (u0 u1 u2 u5 u6 u8 u13 u17 u18 u19 u20 u21 u22 u23 u24 u25 u26 u27 u28 u29 u30 u31 u32 u33 u34 u35 u36 u37 u38 u39 u40 u41 u42 u43 u44 u45 u46 u47 u48 u49 u50 u51 u52 u53 u54 u55 u56 u57 u58 u59 u60 u61 u62 u63 u64 u65 u66 u67 u68 u69 u70 u71 u72 u73 u74 u75 u76 u77 u78 u79 u80 u81 u82 u83 u84 u85 u86 u87 u88 u89 u90 u91 u92 u93 u94 u95 u96 u97 u98 u99 u100 u101 u102 u103 u104 u105 u106 u107 u108 u109 u110 u111 u112 u113 u114 u115 u116 u117 u118 u119 u120 u121 u122 u123 u124 u125 u126 u127 u128 u129 u130 u131 u132 u133 u134 u135 u136 u137 u138 u139 u140 u141 u142 u143 u144 u145 u146 u147 : Value)
    (x3 : Box W b3 #[.int .i64 b.me, .slice s1 s2 s3, .slice s4 s5 s6, .slice s7 s8 s9, .slice s10 s11 s12, .slice s13 s14 s15] 29) (x4 : Box W b4 #[.int .i64 b.me, .slice o1 o2 o3, .slice o4 o5 o6, .slice o7 o8 o9, .slice o10 o11 o12, .slice o13 o14 o15] 29) (x9 : Box W b9 #[.int .i64 b0.me, .slice w1 w2 w3, .slice w4 w5 w6, .slice w7 w8 w9, .slice w10 w11 w12, .slice w13 w14 w15] 29) (x10 : Box W b10 #[.int .i64 b0.me, .slice e1 e2 e3, .slice e4 e5 e6, .slice e7 e8 e9, .slice e10 e11 e12, .slice e13 e14 e15] 29) (n3 : BrN W b (s1, s2, s3) (s4, s5, s6) (s7, s8, s9) (s10, s11, s12) (s13, s14, s15)) (n4 : BrN W b (o1, o2, o3) (o4, o5, o6) (o7, o8, o9) (o10, o11, o12) (o13, o14, o15)) (n9 : BrN W b0 (w1, w2, w3) (w4, w5, w6) (w7, w8, w9) (w10, w11, w12) (w13, w14, w15)) (n10 : BrN W b0 (e1, e2, e3) (e4, e5, e6) (e7, e8, e9) (e10, e11, e12) (e13, e14, e15)) (fw : Few b) (fp : FewP b) (tb : TameB b) (ok : okBr b = true) (fw0 : Few b0) (fp0 : FewP b0) (x7 : Box W b7 #[.int .i64 i1, .int .i64 i2] 37) (x14 : Box W b14 #[.int .i64 i1, .int .i64 i2, .slice y1 y2 y3, .int .i64 par] 42) (ix : ∀ w, (Instr.indexAt 24 (.slice o4 o5 o6) (.int .i64 n)).run Tryz.prog w = .ok (.pointer (some p)) w) (px : ∀ x, Below W.heap.size W x → x.cell? ⟨p.block, p.off + 3, none⟩ = some (.int .i64 par))
    (hQ : ∀ (x : World) (v95 v96 v97 v98 v99 v100 v101 v102 v103 v104 v105 v106 v107 v108 v109 v110 v111 v112 v113 v114 v115 v116 v117 v118 v119 v120 v121 v122 v123 v124 v125 v126 v127 v128 v129 v130 v131 v132 v133 v134 v135 v136 v137 v138 v139 v140 v141 v142 v143 v144 v145 : Value), Below W.heap.size W x → Q .normal ⟨(u0 :: u1 :: u2 :: .pointer (some ⟨b3, 0, none⟩) :: .pointer (some ⟨b4, 0, none⟩) :: u5 :: u6 :: .pointer (some ⟨b7, 0, none⟩) :: u8 :: .pointer (some ⟨b9, 0, none⟩) :: .pointer (some ⟨b10, 0, none⟩) :: .bool g :: .bool g :: u13 :: .pointer (some ⟨b14, 0, none⟩) :: .bool true :: .int .i64 (n : Int) :: u17 :: u18 :: u19 :: u20 :: u21 :: u22 :: u23 :: u24 :: u25 :: u26 :: u27 :: u28 :: u29 :: u30 :: u31 :: u32 :: u33 :: u34 :: u35 :: u36 :: u37 :: u38 :: u39 :: u40 :: u41 :: u42 :: u43 :: u44 :: u45 :: u46 :: u47 :: u48 :: u49 :: u50 :: u51 :: u52 :: u53 :: u54 :: u55 :: u56 :: u57 :: u58 :: u59 :: u60 :: u61 :: u62 :: u63 :: u64 :: u65 :: u66 :: u67 :: u68 :: u69 :: u70 :: u71 :: u72 :: u73 :: u74 :: u75 :: u76 :: u77 :: u78 :: u79 :: u80 :: u81 :: u82 :: u83 :: u84 :: u85 :: u86 :: u87 :: u88 :: u89 :: u90 :: u91 :: u92 :: u93 :: u94 :: v95 :: v96 :: v97 :: v98 :: v99 :: v100 :: v101 :: v102 :: v103 :: v104 :: v105 :: v106 :: v107 :: v108 :: v109 :: v110 :: v111 :: v112 :: v113 :: v114 :: v115 :: v116 :: v117 :: v118 :: v119 :: v120 :: v121 :: v122 :: v123 :: v124 :: v125 :: v126 :: v127 :: v128 :: v129 :: v130 :: v131 :: v132 :: v133 :: v134 :: v135 :: v136 :: v137 :: v138 :: v139 :: v140 :: v141 :: v142 :: v143 :: v144 :: v145 :: .bool false :: u147 :: []).toArray, []⟩ x) :
    Code.wp Tryz.prog play21sC Q ⟨(u0 :: u1 :: u2 :: .pointer (some ⟨b3, 0, none⟩) :: .pointer (some ⟨b4, 0, none⟩) :: u5 :: u6 :: .pointer (some ⟨b7, 0, none⟩) :: u8 :: .pointer (some ⟨b9, 0, none⟩) :: .pointer (some ⟨b10, 0, none⟩) :: .bool g :: .bool g :: u13 :: .pointer (some ⟨b14, 0, none⟩) :: .bool true :: .int .i64 (n : Int) :: u17 :: u18 :: u19 :: u20 :: u21 :: u22 :: u23 :: u24 :: u25 :: u26 :: u27 :: u28 :: u29 :: u30 :: u31 :: u32 :: u33 :: u34 :: u35 :: u36 :: u37 :: u38 :: u39 :: u40 :: u41 :: u42 :: u43 :: u44 :: u45 :: u46 :: u47 :: u48 :: u49 :: u50 :: u51 :: u52 :: u53 :: u54 :: u55 :: u56 :: u57 :: u58 :: u59 :: u60 :: u61 :: u62 :: u63 :: u64 :: u65 :: u66 :: u67 :: u68 :: u69 :: u70 :: u71 :: u72 :: u73 :: u74 :: u75 :: u76 :: u77 :: u78 :: u79 :: u80 :: u81 :: u82 :: u83 :: u84 :: u85 :: u86 :: u87 :: u88 :: u89 :: u90 :: u91 :: u92 :: u93 :: u94 :: u95 :: u96 :: u97 :: u98 :: u99 :: u100 :: u101 :: u102 :: u103 :: u104 :: u105 :: u106 :: u107 :: u108 :: u109 :: u110 :: u111 :: u112 :: u113 :: u114 :: u115 :: u116 :: u117 :: u118 :: u119 :: u120 :: u121 :: u122 :: u123 :: u124 :: u125 :: u126 :: u127 :: u128 :: u129 :: u130 :: u131 :: u132 :: u133 :: u134 :: u135 :: u136 :: u137 :: u138 :: u139 :: u140 :: u141 :: u142 :: u143 :: u144 :: u145 :: u146 :: u147 :: []).toArray, []⟩ W := by
  have HQ := Lib.hid hQ
  have X3 := Lib.hid x3
  have X4 := Lib.hid x4
  have X9 := Lib.hid x9
  have X10 := Lib.hid x10
  have B3 := Lib.hid n3
  have B4 := Lib.hid n4
  have B9 := Lib.hid n9
  have B10 := Lib.hid n10
  have FW := Lib.hid fw
  have FP := Lib.hid fp
  have TB := Lib.hid tb
  have OK := Lib.hid ok
  have FW0 := Lib.hid fw0
  have FP0 := Lib.hid fp0
  have X7 := Lib.hid x7
  have X14 := Lib.hid x14
  have IX := Lib.hid ix
  have PX := Lib.hid px
  clear hQ x3 x4 x9 x10 n3 n4 n9 n10 fw fp tb ok fw0 fp0 x7 x14 ix px
  unfold play21sC
  conv => arg 2; whnf
  have nd : ∀ j, (j < 95 ∨ 147 ≤ j) → ∀ i, i < 52 → (fun i => 95 + i) i ≠ j := by
    intro j hj i hi h
    simp only at h
    omega
  refine Rg.region_rel 52 (fun i => 95 + i) (play21sV W.heap.size b3 b4 b7 b9 b10 b14 g b b0 n i1 i2 par p y1 y2 y3 s1 s2 s3 s4 s5 s6 s7 s8 s9 s10 s11 s12 s13 s14 s15 o1 o2 o3 o4 o5 o6 o7 o8 o9 o10 o11 o12 o13 o14 o15 w1 w2 w3 w4 w5 w6 w7 w8 w9 w10 w11 w12 w13 w14 w15 e1 e2 e3 e4 e5 e6 e7 e8 e9 e10 e11 e12 e13 e14 e15) (by kernel_rfl) (by kernel_rfl) rfl ?_ (fun i j _ _ h => by have h2 : 95 + i = 95 + j := h; omega) (fun i hi => by show 95 + i < 148; omega) ?_ ?_ ?_
  · intro i o ho
    have hi : i < 52 := (List.getElem?_eq_some_iff.1 ho).1
    rcases (by omega : i = 0 ∨ i = 1 ∨ i = 2 ∨ i = 3 ∨ i = 4 ∨ i = 5 ∨ i = 6 ∨ i = 7 ∨ i = 8 ∨ i = 9 ∨ i = 10 ∨ i = 11 ∨ i = 12 ∨ i = 13 ∨ i = 14 ∨ i = 15 ∨ i = 16 ∨ i = 17 ∨ i = 18 ∨ i = 19 ∨ i = 20 ∨ i = 21 ∨ i = 22 ∨ i = 23 ∨ i = 24 ∨ i = 25 ∨ i = 26 ∨ i = 27 ∨ i = 28 ∨ i = 29 ∨ i = 30 ∨ i = 31 ∨ i = 32 ∨ i = 33 ∨ i = 34 ∨ i = 35 ∨ i = 36 ∨ i = 37 ∨ i = 38 ∨ i = 39 ∨ i = 40 ∨ i = 41 ∨ i = 42 ∨ i = 43 ∨ i = 44 ∨ i = 45 ∨ i = 46 ∨ i = 47 ∨ i = 48 ∨ i = 49 ∨ i = 50 ∨ i = 51) with rfl | rfl | rfl | rfl | rfl | rfl | rfl | rfl | rfl | rfl | rfl | rfl | rfl | rfl | rfl | rfl | rfl | rfl | rfl | rfl | rfl | rfl | rfl | rfl | rfl | rfl | rfl | rfl | rfl | rfl | rfl | rfl | rfl | rfl | rfl | rfl | rfl | rfl | rfl | rfl | rfl | rfl | rfl | rfl | rfl | rfl | rfl | rfl | rfl | rfl | rfl | rfl
    all_goals (obtain rfl := Option.some.inj ho; rfl)
  · intro i v x x' h hb
    by_cases hi : i < 52
    · rcases (by omega : i = 0 ∨ i = 1 ∨ i = 2 ∨ i = 3 ∨ i = 4 ∨ i = 5 ∨ i = 6 ∨ i = 7 ∨ i = 8 ∨ i = 9 ∨ i = 10 ∨ i = 11 ∨ i = 12 ∨ i = 13 ∨ i = 14 ∨ i = 15 ∨ i = 16 ∨ i = 17 ∨ i = 18 ∨ i = 19 ∨ i = 20 ∨ i = 21 ∨ i = 22 ∨ i = 23 ∨ i = 24 ∨ i = 25 ∨ i = 26 ∨ i = 27 ∨ i = 28 ∨ i = 29 ∨ i = 30 ∨ i = 31 ∨ i = 32 ∨ i = 33 ∨ i = 34 ∨ i = 35 ∨ i = 36 ∨ i = 37 ∨ i = 38 ∨ i = 39 ∨ i = 40 ∨ i = 41 ∨ i = 42 ∨ i = 43 ∨ i = 44 ∨ i = 45 ∨ i = 46 ∨ i = 47 ∨ i = 48 ∨ i = 49 ∨ i = 50 ∨ i = 51) with rfl | rfl | rfl | rfl | rfl | rfl | rfl | rfl | rfl | rfl | rfl | rfl | rfl | rfl | rfl | rfl | rfl | rfl | rfl | rfl | rfl | rfl | rfl | rfl | rfl | rfl | rfl | rfl | rfl | rfl | rfl | rfl | rfl | rfl | rfl | rfl | rfl | rfl | rfl | rfl | rfl | rfl | rfl | rfl | rfl | rfl | rfl | rfl | rfl | rfl | rfl | rfl
      · exact h
      · exact h
      · exact h
      · exact h
      · exact h
      · exact h
      · exact h
      · exact h
      · exact h
      · exact h
      · exact h
      · exact h
      · exact h
      · exact h
      · exact h
      · exact h
      · exact h
      · exact h
      · exact h
      · exact h
      · exact h
      · exact h
      · exact h
      · exact h
      · exact h
      · exact h
      · exact h
      · exact h
      · exact h
      · exact h
      · exact h
      · exact h
      · exact h
      · exact h
      · exact h
      · exact h
      · exact h
      · exact h
      · exact h
      · exact h
      · exact h
      · exact h
      · exact h
      · exact h
      · exact h
      · exact h
      · exact h
      · exact h
      · exact h
      · exact h
      · exact h
      · exact h
    · unfold play21sV
      split <;> first | omega | trivial
  · intro i o hi ho a x hb seen K hK
    clear HQ
    rcases (by omega : i = 0 ∨ i = 1 ∨ i = 2 ∨ i = 3 ∨ i = 4 ∨ i = 5 ∨ i = 6 ∨ i = 7 ∨ i = 8 ∨ i = 9 ∨ i = 10 ∨ i = 11 ∨ i = 12 ∨ i = 13 ∨ i = 14 ∨ i = 15 ∨ i = 16 ∨ i = 17 ∨ i = 18 ∨ i = 19 ∨ i = 20 ∨ i = 21 ∨ i = 22 ∨ i = 23 ∨ i = 24 ∨ i = 25 ∨ i = 26 ∨ i = 27 ∨ i = 28 ∨ i = 29 ∨ i = 30 ∨ i = 31 ∨ i = 32 ∨ i = 33 ∨ i = 34 ∨ i = 35 ∨ i = 36 ∨ i = 37 ∨ i = 38 ∨ i = 39 ∨ i = 40 ∨ i = 41 ∨ i = 42 ∨ i = 43 ∨ i = 44 ∨ i = 45 ∨ i = 46 ∨ i = 47 ∨ i = 48 ∨ i = 49 ∨ i = 50 ∨ i = 51) with rfl | rfl | rfl | rfl | rfl | rfl | rfl | rfl | rfl | rfl | rfl | rfl | rfl | rfl | rfl | rfl | rfl | rfl | rfl | rfl | rfl | rfl | rfl | rfl | rfl | rfl | rfl | rfl | rfl | rfl | rfl | rfl | rfl | rfl | rfl | rfl | rfl | rfl | rfl | rfl | rfl | rfl | rfl | rfl | rfl | rfl | rfl | rfl | rfl | rfl | rfl | rfl
    · obtain rfl := Option.some.inj ho
      have e11 : a.eval (.tmp 11) = .bool g := seen.kp 11 _ (nd 11 (by omega)) rfl
      exact Rg.op_value rfl rfl (Rg.ex_move a.eval _ (.tmp 11) rfl x) (hK _ x e11 (Below.refl _ _))
    · obtain rfl := Option.some.inj ho
      have e12 : a.eval (.tmp 12) = .bool g := seen.kp 12 _ (nd 12 (by omega)) rfl
      exact Rg.op_value rfl rfl (Rg.ex_move a.eval _ (.tmp 12) rfl x) (hK _ x e12 (Below.refl _ _))
    · obtain rfl := Option.some.inj ho
      have e95 : a.eval (.tmp 95) = .bool g := seen.at_ ⟨0, .data⟩ (by simp) rfl
      have e96 : a.eval (.tmp 96) = .bool g := seen.at_ ⟨1, .data⟩ (by simp) rfl
      exact Rg.op_value rfl rfl (Rg.ex_bin a.eval _ .neq 4 (.tmp 95) (.tmp 96) 4 rfl (by rw [e95, e96]; exact Rg.neq_bool _ _ g x)) (hK _ x rfl (Below.refl _ _))
    · obtain rfl := Option.some.inj ho
      have e97 : a.eval (.tmp 97) = .bool false := seen.at_ ⟨2, .data⟩ (by simp) rfl
      exact Rg.op_value rfl rfl (Rg.ex_move a.eval _ (.tmp 97) rfl x) (hK _ x e97 (Below.refl _ _))
    · obtain rfl := Option.some.inj ho
      have eG : a.eval (.tmp 98) = .bool false := seen.at_ ⟨3, .guard⟩ (by simp) rfl
      have tG : a.tmps[98]? = some (a.eval (.tmp 98)) := seen.got ⟨3, .guard⟩ (by simp) rfl
      rw [eG] at tG
      have e3 : a.eval (.tmp 3) = .pointer (some ⟨b3, 0, none⟩) := seen.kp 3 _ (nd 3 (by omega)) rfl
      have y0 := (X3.out.on hb).cell 0
      have y1 := (X3.out.on hb).cell 1
      have y2 := (X3.out.on hb).cell 2
      have y3 := (X3.out.on hb).cell 3
      have y4 := (X3.out.on hb).cell 4
      have y5 := (X3.out.on hb).cell 5
      simp only [List.getElem?_toArray, List.getElem?_cons_zero, List.getElem?_cons_succ] at y0 y1 y2 y3 y4 y5
      exact Rg.op_value_w rfl (Rg.wanted_of rfl rfl rfl tG) (Rg.ex_load a.eval _ 29 (.tmp 3) rfl (by rw [e3]; simp [go_sem, y0, y1, y2, y3, y4, y5])) (hK _ x rfl (Below.refl _ _))
    · obtain rfl := Option.some.inj ho
      have eG : a.eval (.tmp 98) = .bool false := seen.at_ ⟨3, .guard⟩ (by simp) rfl
      have tG : a.tmps[98]? = some (a.eval (.tmp 98)) := seen.got ⟨3, .guard⟩ (by simp) rfl
      rw [eG] at tG
      have e4 : a.eval (.tmp 4) = .pointer (some ⟨b4, 0, none⟩) := seen.kp 4 _ (nd 4 (by omega)) rfl
      have y0 := (X4.out.on hb).cell 0
      have y1 := (X4.out.on hb).cell 1
      have y2 := (X4.out.on hb).cell 2
      have y3 := (X4.out.on hb).cell 3
      have y4 := (X4.out.on hb).cell 4
      have y5 := (X4.out.on hb).cell 5
      simp only [List.getElem?_toArray, List.getElem?_cons_zero, List.getElem?_cons_succ] at y0 y1 y2 y3 y4 y5
      exact Rg.op_value_w rfl (Rg.wanted_of rfl rfl rfl tG) (Rg.ex_load a.eval _ 29 (.tmp 4) rfl (by rw [e4]; simp [go_sem, y0, y1, y2, y3, y4, y5])) (hK _ x rfl (Below.refl _ _))
    · obtain rfl := Option.some.inj ho
      have eG : a.eval (.tmp 98) = .bool false := seen.at_ ⟨3, .guard⟩ (by simp) rfl
      have tG : a.tmps[98]? = some (a.eval (.tmp 98)) := seen.got ⟨3, .guard⟩ (by simp) rfl
      rw [eG] at tG
      have e99 : a.eval (.tmp 99) = .agg #[.int .i64 b.me, .slice s1 s2 s3, .slice s4 s5 s6, .slice s7 s8 s9, .slice s10 s11 s12, .slice s13 s14 s15] := seen.at_ ⟨4, .data⟩ (by simp) rfl
      have e100 : a.eval (.tmp 100) = .agg #[.int .i64 b.me, .slice o1 o2 o3, .slice o4 o5 o6, .slice o7 o8 o9, .slice o10 o11 o12, .slice o13 o14 o15] := seen.at_ ⟨5, .data⟩ (by simp) rfl
      exact Rg.op_call_w rfl (Rg.wanted_of rfl rfl rfl tG) (Rw.ex_call2 a.eval _ (.tmp 99) (.tmp 100) 29 29 16 rfl e99 e100 rfl _ (call_fn Tryz.func16 rfl rfl _ _)) (brokers_any b b (s1, s2, s3) (s4, s5, s6) (s7, s8, s9) (s10, s11, s12) (s13, s14, s15) (o1, o2, o3) (o4, o5, o6) (o7, o8, o9) (o10, o11, o12) (o13, o14, o15) x (B3.out.on hb).br (B4.out.on hb).br FP.out.shr FP.out.shr FW.out) fun e w1 h => by
        obtain ⟨rfl, hb1⟩ := h
        rw [same_self]
        exact ⟨_, rfl, hK _ _ rfl hb1⟩
    · obtain rfl := Option.some.inj ho
      have eG : a.eval (.tmp 98) = .bool false := seen.at_ ⟨3, .guard⟩ (by simp) rfl
      have tG : a.tmps[98]? = some (a.eval (.tmp 98)) := seen.got ⟨3, .guard⟩ (by simp) rfl
      rw [eG] at tG
      have e101 : a.eval (.tmp 101) = .bool true := seen.at_ ⟨6, .data⟩ (by simp) rfl
      exact Rg.op_value_w rfl (Rg.wanted_of rfl rfl rfl tG) (Rg.ex_not a.eval _ 4 (.tmp 101) rfl e101 x) (hK _ x rfl (Below.refl _ _))
    · obtain rfl := Option.some.inj ho
      have e98 : a.eval (.tmp 98) = .bool false := seen.at_ ⟨3, .data⟩ (by simp) rfl
      have e102 : a.eval (.tmp 102) = .bool false := seen.at_ ⟨7, .data⟩ (by simp) rfl
      exact Rg.op_value rfl rfl (Rg.ex_pick_f a.eval _ (.tmp 98) (.const (.bool true)) (.tmp 102) rfl e98 e102 x) (hK _ x rfl (Below.refl _ _))
    · obtain rfl := Option.some.inj ho
      have e103 : a.eval (.tmp 103) = .bool false := seen.at_ ⟨8, .data⟩ (by simp) rfl
      exact Rg.op_value rfl rfl (Rg.ex_move a.eval _ (.tmp 103) rfl x) (hK _ x e103 (Below.refl _ _))
    · obtain rfl := Option.some.inj ho
      have eG : a.eval (.tmp 104) = .bool false := seen.at_ ⟨9, .guard⟩ (by simp) rfl
      have tG : a.tmps[104]? = some (a.eval (.tmp 104)) := seen.got ⟨9, .guard⟩ (by simp) rfl
      rw [eG] at tG
      have e3 : a.eval (.tmp 3) = .pointer (some ⟨b3, 0, none⟩) := seen.kp 3 _ (nd 3 (by omega)) rfl
      have y0 := (X3.out.on hb).cell 0
      have y1 := (X3.out.on hb).cell 1
      have y2 := (X3.out.on hb).cell 2
      have y3 := (X3.out.on hb).cell 3
      have y4 := (X3.out.on hb).cell 4
      have y5 := (X3.out.on hb).cell 5
      simp only [List.getElem?_toArray, List.getElem?_cons_zero, List.getElem?_cons_succ] at y0 y1 y2 y3 y4 y5
      exact Rg.op_value_w rfl (Rg.wanted_of rfl rfl rfl tG) (Rg.ex_load a.eval _ 29 (.tmp 3) rfl (by rw [e3]; simp [go_sem, y0, y1, y2, y3, y4, y5])) (hK _ x rfl (Below.refl _ _))
    · obtain rfl := Option.some.inj ho
      have eG : a.eval (.tmp 104) = .bool false := seen.at_ ⟨9, .guard⟩ (by simp) rfl
      have tG : a.tmps[104]? = some (a.eval (.tmp 104)) := seen.got ⟨9, .guard⟩ (by simp) rfl
      rw [eG] at tG
      have e4 : a.eval (.tmp 4) = .pointer (some ⟨b4, 0, none⟩) := seen.kp 4 _ (nd 4 (by omega)) rfl
      have y0 := (X4.out.on hb).cell 0
      have y1 := (X4.out.on hb).cell 1
      have y2 := (X4.out.on hb).cell 2
      have y3 := (X4.out.on hb).cell 3
      have y4 := (X4.out.on hb).cell 4
      have y5 := (X4.out.on hb).cell 5
      simp only [List.getElem?_toArray, List.getElem?_cons_zero, List.getElem?_cons_succ] at y0 y1 y2 y3 y4 y5
      exact Rg.op_value_w rfl (Rg.wanted_of rfl rfl rfl tG) (Rg.ex_load a.eval _ 29 (.tmp 4) rfl (by rw [e4]; simp [go_sem, y0, y1, y2, y3, y4, y5])) (hK _ x rfl (Below.refl _ _))
    · obtain rfl := Option.some.inj ho
      have eG : a.eval (.tmp 104) = .bool false := seen.at_ ⟨9, .guard⟩ (by simp) rfl
      have tG : a.tmps[104]? = some (a.eval (.tmp 104)) := seen.got ⟨9, .guard⟩ (by simp) rfl
      rw [eG] at tG
      have e105 : a.eval (.tmp 105) = .agg #[.int .i64 b.me, .slice s1 s2 s3, .slice s4 s5 s6, .slice s7 s8 s9, .slice s10 s11 s12, .slice s13 s14 s15] := seen.at_ ⟨10, .data⟩ (by simp) rfl
      have e106 : a.eval (.tmp 106) = .agg #[.int .i64 b.me, .slice o1 o2 o3, .slice o4 o5 o6, .slice o7 o8 o9, .slice o10 o11 o12, .slice o13 o14 o15] := seen.at_ ⟨11, .data⟩ (by simp) rfl
      exact Rg.op_call_w rfl (Rg.wanted_of rfl rfl rfl tG) (Rw.ex_call2 a.eval _ (.tmp 105) (.tmp 106) 29 29 17 rfl e105 e106 rfl _ (call_fn Tryz.func17 rfl rfl _ _)) (asame_any b b (s1, s2, s3) (s4, s5, s6) (s7, s8, s9) (s10, s11, s12) (s13, s14, s15) (o1, o2, o3) (o4, o5, o6) (o7, o8, o9) (o10, o11, o12) (o13, o14, o15) x (B3.out.on hb).br (B4.out.on hb).br FW.out FP.out.pa) fun e w1 h => by
        obtain ⟨rfl, hb1⟩ := h
        rw [same_self]
        exact ⟨_, rfl, hK _ _ rfl hb1⟩
    · obtain rfl := Option.some.inj ho
      have eG : a.eval (.tmp 104) = .bool false := seen.at_ ⟨9, .guard⟩ (by simp) rfl
      have tG : a.tmps[104]? = some (a.eval (.tmp 104)) := seen.got ⟨9, .guard⟩ (by simp) rfl
      rw [eG] at tG
      have e107 : a.eval (.tmp 107) = .bool true := seen.at_ ⟨12, .data⟩ (by simp) rfl
      exact Rg.op_value_w rfl (Rg.wanted_of rfl rfl rfl tG) (Rg.ex_not a.eval _ 4 (.tmp 107) rfl e107 x) (hK _ x rfl (Below.refl _ _))
    · obtain rfl := Option.some.inj ho
      have e104 : a.eval (.tmp 104) = .bool false := seen.at_ ⟨9, .data⟩ (by simp) rfl
      have e108 : a.eval (.tmp 108) = .bool false := seen.at_ ⟨13, .data⟩ (by simp) rfl
      exact Rg.op_value rfl rfl (Rg.ex_pick_f a.eval _ (.tmp 104) (.const (.bool true)) (.tmp 108) rfl e104 e108 x) (hK _ x rfl (Below.refl _ _))
    · obtain rfl := Option.some.inj ho
      have e109 : a.eval (.tmp 109) = .bool false := seen.at_ ⟨14, .data⟩ (by simp) rfl
      exact Rg.op_value rfl rfl (Rg.ex_move a.eval _ (.tmp 109) rfl x) (hK _ x e109 (Below.refl _ _))
    · obtain rfl := Option.some.inj ho
      have eG : a.eval (.tmp 110) = .bool false := seen.at_ ⟨15, .guard⟩ (by simp) rfl
      have tG : a.tmps[110]? = some (a.eval (.tmp 110)) := seen.got ⟨15, .guard⟩ (by simp) rfl
      rw [eG] at tG
      have e3 : a.eval (.tmp 3) = .pointer (some ⟨b3, 0, none⟩) := seen.kp 3 _ (nd 3 (by omega)) rfl
      have y0 := (X3.out.on hb).cell 0
      have y1 := (X3.out.on hb).cell 1
      have y2 := (X3.out.on hb).cell 2
      have y3 := (X3.out.on hb).cell 3
      have y4 := (X3.out.on hb).cell 4
      have y5 := (X3.out.on hb).cell 5
      simp only [List.getElem?_toArray, List.getElem?_cons_zero, List.getElem?_cons_succ] at y0 y1 y2 y3 y4 y5
      exact Rg.op_value_w rfl (Rg.wanted_of rfl rfl rfl tG) (Rg.ex_load a.eval _ 29 (.tmp 3) rfl (by rw [e3]; simp [go_sem, y0, y1, y2, y3, y4, y5])) (hK _ x rfl (Below.refl _ _))
    · obtain rfl := Option.some.inj ho
      have eG : a.eval (.tmp 110) = .bool false := seen.at_ ⟨15, .guard⟩ (by simp) rfl
      have tG : a.tmps[110]? = some (a.eval (.tmp 110)) := seen.got ⟨15, .guard⟩ (by simp) rfl
      rw [eG] at tG
      have e111 : a.eval (.tmp 111) = .agg #[.int .i64 b.me, .slice s1 s2 s3, .slice s4 s5 s6, .slice s7 s8 s9, .slice s10 s11 s12, .slice s13 s14 s15] := seen.at_ ⟨16, .data⟩ (by simp) rfl
      exact Rg.op_call_w rfl (Rg.wanted_of rfl rfl rfl tG) (Rw.ex_call1 a.eval _ (.tmp 111) 29 18 rfl e111 rfl _ (call_fn Tryz.func18 rfl rfl _ _)) (aright_any b (s1, s2, s3) (s4, s5, s6) (s7, s8, s9) (s10, s11, s12) (s13, s14, s15) x (B3.out.on hb).br FW.out TB.out) fun e w1 h => by
        obtain ⟨rfl, hb1⟩ := h
        rw [OK.out]
        exact ⟨_, rfl, hK _ _ rfl hb1⟩
    · obtain rfl := Option.some.inj ho
      have eG : a.eval (.tmp 110) = .bool false := seen.at_ ⟨15, .guard⟩ (by simp) rfl
      have tG : a.tmps[110]? = some (a.eval (.tmp 110)) := seen.got ⟨15, .guard⟩ (by simp) rfl
      rw [eG] at tG
      have e112 : a.eval (.tmp 112) = .bool true := seen.at_ ⟨17, .data⟩ (by simp) rfl
      exact Rg.op_value_w rfl (Rg.wanted_of rfl rfl rfl tG) (Rg.ex_not a.eval _ 4 (.tmp 112) rfl e112 x) (hK _ x rfl (Below.refl _ _))
    · obtain rfl := Option.some.inj ho
      have e110 : a.eval (.tmp 110) = .bool false := seen.at_ ⟨15, .data⟩ (by simp) rfl
      have e113 : a.eval (.tmp 113) = .bool false := seen.at_ ⟨18, .data⟩ (by simp) rfl
      exact Rg.op_value rfl rfl (Rg.ex_pick_f a.eval _ (.tmp 110) (.const (.bool true)) (.tmp 113) rfl e110 e113 x) (hK _ x rfl (Below.refl _ _))
    · obtain rfl := Option.some.inj ho
      have e114 : a.eval (.tmp 114) = .bool false := seen.at_ ⟨19, .data⟩ (by simp) rfl
      exact Rg.op_value rfl rfl (Rg.ex_move a.eval _ (.tmp 114) rfl x) (hK _ x e114 (Below.refl _ _))
    · obtain rfl := Option.some.inj ho
      have eG : a.eval (.tmp 115) = .bool false := seen.at_ ⟨20, .guard⟩ (by simp) rfl
      have tG : a.tmps[115]? = some (a.eval (.tmp 115)) := seen.got ⟨20, .guard⟩ (by simp) rfl
      rw [eG] at tG
      have e15 : a.eval (.tmp 15) = .bool true := seen.kp 15 _ (nd 15 (by omega)) rfl
      exact Rg.op_value_w rfl (Rg.wanted_of rfl rfl rfl tG) (Rg.ex_move a.eval _ (.tmp 15) rfl x) (hK _ x e15 (Below.refl _ _))
    · obtain rfl := Option.some.inj ho
      have eG : a.eval (.tmp 115) = .bool false := seen.at_ ⟨20, .guard⟩ (by simp) rfl
      have tG : a.tmps[115]? = some (a.eval (.tmp 115)) := seen.got ⟨20, .guard⟩ (by simp) rfl
      rw [eG] at tG
      have e16 : a.eval (.tmp 16) = .int .i64 (n : Int) := seen.kp 16 _ (nd 16 (by omega)) rfl
      exact Rg.op_value_w rfl (Rg.wanted_of rfl rfl rfl tG) (Rg.ex_move a.eval _ (.tmp 16) rfl x) (hK _ x e16 (Below.refl _ _))
    · obtain rfl := Option.some.inj ho
      have eG : a.eval (.tmp 115) = .bool false := seen.at_ ⟨20, .guard⟩ (by simp) rfl
      have tG : a.tmps[115]? = some (a.eval (.tmp 115)) := seen.got ⟨20, .guard⟩ (by simp) rfl
      rw [eG] at tG
      have e117 : a.eval (.tmp 117) = .int .i64 (n : Int) := seen.at_ ⟨22, .data⟩ (by simp) rfl
      exact Rg.op_value_w rfl (Rg.wanted_of rfl rfl rfl tG) (Rg.ex_bin a.eval _ .geq 3 (.tmp 117) (.const (.int .i64 0)) 3 rfl (by rw [e117]; exact Rg.geq_nat _ _ x n)) (hK _ x rfl (Below.refl _ _))
    · obtain rfl := Option.some.inj ho
      have eG : a.eval (.tmp 115) = .bool false := seen.at_ ⟨20, .guard⟩ (by simp) rfl
      have tG : a.tmps[115]? = some (a.eval (.tmp 115)) := seen.got ⟨20, .guard⟩ (by simp) rfl
      rw [eG] at tG
      have e116 : a.eval (.tmp 116) = .bool true := seen.at_ ⟨21, .data⟩ (by simp) rfl
      have e118 : a.eval (.tmp 118) = .bool true := seen.at_ ⟨23, .data⟩ (by simp) rfl
      exact Rg.op_value_w rfl (Rg.wanted_of rfl rfl rfl tG) (Rg.ex_bin a.eval _ .neq 4 (.tmp 116) (.tmp 118) 4 rfl (by rw [e116, e118]; exact Rg.neq_bool _ _ _ x)) (hK _ x rfl (Below.refl _ _))
    · obtain rfl := Option.some.inj ho
      have e115 : a.eval (.tmp 115) = .bool false := seen.at_ ⟨20, .data⟩ (by simp) rfl
      have e119 : a.eval (.tmp 119) = .bool false := seen.at_ ⟨24, .data⟩ (by simp) rfl
      exact Rg.op_value rfl rfl (Rg.ex_pick_f a.eval _ (.tmp 115) (.const (.bool true)) (.tmp 119) rfl e115 e119 x) (hK _ x rfl (Below.refl _ _))
    · obtain rfl := Option.some.inj ho
      have e120 : a.eval (.tmp 120) = .bool false := seen.at_ ⟨25, .data⟩ (by simp) rfl
      exact Rg.op_value rfl rfl (Rg.ex_move a.eval _ (.tmp 120) rfl x) (hK _ x e120 (Below.refl _ _))
    · obtain rfl := Option.some.inj ho
      have eG : a.eval (.tmp 121) = .bool false := seen.at_ ⟨26, .guard⟩ (by simp) rfl
      have tG : a.tmps[121]? = some (a.eval (.tmp 121)) := seen.got ⟨26, .guard⟩ (by simp) rfl
      rw [eG] at tG
      have e15 : a.eval (.tmp 15) = .bool true := seen.kp 15 _ (nd 15 (by omega)) rfl
      exact Rg.op_value_w rfl (Rg.wanted_of rfl rfl rfl tG) (Rg.ex_move a.eval _ (.tmp 15) rfl x) (hK _ x e15 (Below.refl _ _))
    · obtain rfl := Option.some.inj ho
      have eG : a.eval (.tmp 121) = .bool false := seen.at_ ⟨26, .guard⟩ (by simp) rfl
      have tG : a.tmps[121]? = some (a.eval (.tmp 121)) := seen.got ⟨26, .guard⟩ (by simp) rfl
      rw [eG] at tG
      have e122 : a.eval (.tmp 122) = .bool true := seen.at_ ⟨27, .data⟩ (by simp) rfl
      exact Rg.op_value_w rfl (Rg.wanted_of rfl rfl rfl tG) (Rg.ex_move a.eval _ (.tmp 122) rfl x) (hK _ x e122 (Below.refl _ _))
    · obtain rfl := Option.some.inj ho
      have eG : a.eval (.tmp 123) = .bool true := seen.at_ ⟨28, .guard⟩ (by simp) rfl
      have tG : a.tmps[123]? = some (a.eval (.tmp 123)) := seen.got ⟨28, .guard⟩ (by simp) rfl
      rw [eG] at tG
      have e14 : a.eval (.tmp 14) = .pointer (some ⟨b14, 0, none⟩) := seen.kp 14 _ (nd 14 (by omega)) rfl
      exact Rg.op_value_w rfl (Rg.wanted_of rfl rfl rfl tG) (Rg.ex_field a.eval _ 42 (.tmp 14) 0 rfl (by rw [e14]; simp [go_sem])) (hK _ x rfl (Below.refl _ _))
    · obtain rfl := Option.some.inj ho
      have eG : a.eval (.tmp 123) = .bool true := seen.at_ ⟨28, .guard⟩ (by simp) rfl
      have tG : a.tmps[123]? = some (a.eval (.tmp 123)) := seen.got ⟨28, .guard⟩ (by simp) rfl
      rw [eG] at tG
      have e124 : a.eval (.tmp 124) = .pointer (some ⟨b14, 0, none⟩) := seen.at_ ⟨29, .data⟩ (by simp) rfl
      have y0 := (X14.out.on hb).cell 0
      have y1 := (X14.out.on hb).cell 1
      simp only [List.getElem?_toArray, List.getElem?_cons_zero, List.getElem?_cons_succ] at y0 y1
      exact Rg.op_value_w rfl (Rg.wanted_of rfl rfl rfl tG) (Rg.ex_load a.eval _ 37 (.tmp 124) rfl (by rw [e124]; simp [go_sem, y0, y1])) (hK _ x rfl (Below.refl _ _))
    · obtain rfl := Option.some.inj ho
      have eG : a.eval (.tmp 123) = .bool true := seen.at_ ⟨28, .guard⟩ (by simp) rfl
      have tG : a.tmps[123]? = some (a.eval (.tmp 123)) := seen.got ⟨28, .guard⟩ (by simp) rfl
      rw [eG] at tG
      have e7 : a.eval (.tmp 7) = .pointer (some ⟨b7, 0, none⟩) := seen.kp 7 _ (nd 7 (by omega)) rfl
      have y0 := (X7.out.on hb).cell 0
      have y1 := (X7.out.on hb).cell 1
      simp only [List.getElem?_toArray, List.getElem?_cons_zero, List.getElem?_cons_succ] at y0 y1
      exact Rg.op_value_w rfl (Rg.wanted_of rfl rfl rfl tG) (Rg.ex_load a.eval _ 37 (.tmp 7) rfl (by rw [e7]; simp [go_sem, y0, y1])) (hK _ x rfl (Below.refl _ _))
    · obtain rfl := Option.some.inj ho
      have eG : a.eval (.tmp 123) = .bool true := seen.at_ ⟨28, .guard⟩ (by simp) rfl
      have tG : a.tmps[123]? = some (a.eval (.tmp 123)) := seen.got ⟨28, .guard⟩ (by simp) rfl
      rw [eG] at tG
      have e125 : a.eval (.tmp 125) = .agg #[.int .i64 i1, .int .i64 i2] := seen.at_ ⟨30, .data⟩ (by simp) rfl
      have e126 : a.eval (.tmp 126) = .agg #[.int .i64 i1, .int .i64 i2] := seen.at_ ⟨31, .data⟩ (by simp) rfl
      exact Rg.op_value_w rfl (Rg.wanted_of rfl rfl rfl tG) (Rg.ex_bin a.eval _ .neq 37 (.tmp 125) (.tmp 126) 37 rfl (by rw [e125, e126]; exact Rg.neq_id _ _ i1 i2 x)) (hK _ x rfl (Below.refl _ _))
    · obtain rfl := Option.some.inj ho
      have eG : a.eval (.tmp 123) = .bool true := seen.at_ ⟨28, .guard⟩ (by simp) rfl
      have tG : a.tmps[123]? = some (a.eval (.tmp 123)) := seen.got ⟨28, .guard⟩ (by simp) rfl
      rw [eG] at tG
      have e127 : a.eval (.tmp 127) = .bool false := seen.at_ ⟨32, .data⟩ (by simp) rfl
      exact Rg.op_value_w rfl (Rg.wanted_of rfl rfl rfl tG) (Rg.ex_move a.eval _ (.tmp 127) rfl x) (hK _ x e127 (Below.refl _ _))
    · obtain rfl := Option.some.inj ho
      have eG : a.eval (.tmp 128) = .bool false := seen.at_ ⟨33, .guard⟩ (by simp) rfl
      have tG : a.tmps[128]? = some (a.eval (.tmp 128)) := seen.got ⟨33, .guard⟩ (by simp) rfl
      rw [eG] at tG
      have e14 : a.eval (.tmp 14) = .pointer (some ⟨b14, 0, none⟩) := seen.kp 14 _ (nd 14 (by omega)) rfl
      exact Rg.op_value_w rfl (Rg.wanted_of rfl rfl rfl tG) (Rg.ex_field a.eval _ 42 (.tmp 14) 2 rfl (by rw [e14]; simp [go_sem])) (hK _ x rfl (Below.refl _ _))
    · obtain rfl := Option.some.inj ho
      have eG : a.eval (.tmp 128) = .bool false := seen.at_ ⟨33, .guard⟩ (by simp) rfl
      have tG : a.tmps[128]? = some (a.eval (.tmp 128)) := seen.got ⟨33, .guard⟩ (by simp) rfl
      rw [eG] at tG
      have e129 : a.eval (.tmp 129) = .pointer (some ⟨b14, 3, none⟩) := seen.at_ ⟨34, .data⟩ (by simp) rfl
      have y3 := (X14.out.on hb).cell 3
      simp only [List.getElem?_toArray, List.getElem?_cons_zero, List.getElem?_cons_succ] at y3
      exact Rg.op_value_w rfl (Rg.wanted_of rfl rfl rfl tG) (Rg.ex_load a.eval _ 3 (.tmp 129) rfl (by rw [e129]; simp [go_sem, y3])) (hK _ x rfl (Below.refl _ _))
    · obtain rfl := Option.some.inj ho
      have eG : a.eval (.tmp 128) = .bool false := seen.at_ ⟨33, .guard⟩ (by simp) rfl
      have tG : a.tmps[128]? = some (a.eval (.tmp 128)) := seen.got ⟨33, .guard⟩ (by simp) rfl
      rw [eG] at tG
      have e4 : a.eval (.tmp 4) = .pointer (some ⟨b4, 0, none⟩) := seen.kp 4 _ (nd 4 (by omega)) rfl
      exact Rg.op_value_w rfl (Rg.wanted_of rfl rfl rfl tG) (Rg.ex_field a.eval _ 29 (.tmp 4) 2 rfl (by rw [e4]; simp [go_sem])) (hK _ x rfl (Below.refl _ _))
    · obtain rfl := Option.some.inj ho
      have eG : a.eval (.tmp 128) = .bool false := seen.at_ ⟨33, .guard⟩ (by simp) rfl
      have tG : a.tmps[128]? = some (a.eval (.tmp 128)) := seen.got ⟨33, .guard⟩ (by simp) rfl
      rw [eG] at tG
      have e131 : a.eval (.tmp 131) = .pointer (some ⟨b4, 2, none⟩) := seen.at_ ⟨36, .data⟩ (by simp) rfl
      have y2 := (X4.out.on hb).cell 2
      simp only [List.getElem?_toArray, List.getElem?_cons_zero, List.getElem?_cons_succ] at y2
      exact Rg.op_value_w rfl (Rg.wanted_of rfl rfl rfl tG) (Rg.ex_load a.eval _ 24 (.tmp 131) rfl (by rw [e131]; simp [go_sem, y2])) (hK _ x rfl (Below.refl _ _))
    · obtain rfl := Option.some.inj ho
      have eG : a.eval (.tmp 128) = .bool false := seen.at_ ⟨33, .guard⟩ (by simp) rfl
      have tG : a.tmps[128]? = some (a.eval (.tmp 128)) := seen.got ⟨33, .guard⟩ (by simp) rfl
      rw [eG] at tG
      have e16 : a.eval (.tmp 16) = .int .i64 (n : Int) := seen.kp 16 _ (nd 16 (by omega)) rfl
      exact Rg.op_value_w rfl (Rg.wanted_of rfl rfl rfl tG) (Rg.ex_move a.eval _ (.tmp 16) rfl x) (hK _ x e16 (Below.refl _ _))
    · obtain rfl := Option.some.inj ho
      have eG : a.eval (.tmp 128) = .bool false := seen.at_ ⟨33, .guard⟩ (by simp) rfl
      have tG : a.tmps[128]? = some (a.eval (.tmp 128)) := seen.got ⟨33, .guard⟩ (by simp) rfl
      rw [eG] at tG
      have e132 : a.eval (.tmp 132) = .slice o4 o5 o6 := seen.at_ ⟨37, .data⟩ (by simp) rfl
      have e133 : a.eval (.tmp 133) = .int .i64 (n : Int) := seen.at_ ⟨38, .data⟩ (by simp) rfl
      exact Rg.op_value_w rfl (Rg.wanted_of rfl rfl rfl tG) (Rg.ex_index a.eval _ 24 (.tmp 132) (.tmp 133) rfl (by rw [e132, e133]; exact IX.out x)) (hK _ x rfl (Below.refl _ _))
    · obtain rfl := Option.some.inj ho
      have eG : a.eval (.tmp 128) = .bool false := seen.at_ ⟨33, .guard⟩ (by simp) rfl
      have tG : a.tmps[128]? = some (a.eval (.tmp 128)) := seen.got ⟨33, .guard⟩ (by simp) rfl
      rw [eG] at tG
      have e134 : a.eval (.tmp 134) = .pointer (some p) := seen.at_ ⟨39, .data⟩ (by simp) rfl
      exact Rg.op_value_w rfl (Rg.wanted_of rfl rfl rfl tG) (Rg.ex_field a.eval _ 42 (.tmp 134) 2 rfl (by rw [e134]; simp [go_sem])) (hK _ x rfl (Below.refl _ _))
    · obtain rfl := Option.some.inj ho
      have eG : a.eval (.tmp 128) = .bool false := seen.at_ ⟨33, .guard⟩ (by simp) rfl
      have tG : a.tmps[128]? = some (a.eval (.tmp 128)) := seen.got ⟨33, .guard⟩ (by simp) rfl
      rw [eG] at tG
      have e135 : a.eval (.tmp 135) = .pointer (some (p.add 3)) := seen.at_ ⟨40, .data⟩ (by simp) rfl
      have y := PX.out x hb
      exact Rg.op_value_w rfl (Rg.wanted_of rfl rfl rfl tG) (Rg.ex_load a.eval _ 3 (.tmp 135) rfl (by rw [e135]; simp [go_sem, y])) (hK _ x rfl (Below.refl _ _))
    · obtain rfl := Option.some.inj ho
      have eG : a.eval (.tmp 128) = .bool false := seen.at_ ⟨33, .guard⟩ (by simp) rfl
      have tG : a.tmps[128]? = some (a.eval (.tmp 128)) := seen.got ⟨33, .guard⟩ (by simp) rfl
      rw [eG] at tG
      have e130 : a.eval (.tmp 130) = .int .i64 par := seen.at_ ⟨35, .data⟩ (by simp) rfl
      have e136 : a.eval (.tmp 136) = .int .i64 par := seen.at_ ⟨41, .data⟩ (by simp) rfl
      exact Rg.op_value_w rfl (Rg.wanted_of rfl rfl rfl tG) (Rg.ex_bin a.eval _ .neq 3 (.tmp 130) (.tmp 136) 3 rfl (by rw [e130, e136]; exact Rg.neq_int _ _ par x)) (hK _ x rfl (Below.refl _ _))
    · obtain rfl := Option.some.inj ho
      have eG : a.eval (.tmp 123) = .bool true := seen.at_ ⟨28, .guard⟩ (by simp) rfl
      have tG : a.tmps[123]? = some (a.eval (.tmp 123)) := seen.got ⟨28, .guard⟩ (by simp) rfl
      rw [eG] at tG
      have e128 : a.eval (.tmp 128) = .bool false := seen.at_ ⟨33, .data⟩ (by simp) rfl
      have e137 : a.eval (.tmp 137) = .bool false := seen.at_ ⟨42, .data⟩ (by simp) rfl
      exact Rg.op_value_w rfl (Rg.wanted_of rfl rfl rfl tG) (Rg.ex_pick_f a.eval _ (.tmp 128) (.const (.bool true)) (.tmp 137) rfl e128 e137 x) (hK _ x rfl (Below.refl _ _))
    · obtain rfl := Option.some.inj ho
      have eG : a.eval (.tmp 121) = .bool false := seen.at_ ⟨26, .guard⟩ (by simp) rfl
      have tG : a.tmps[121]? = some (a.eval (.tmp 121)) := seen.got ⟨26, .guard⟩ (by simp) rfl
      rw [eG] at tG
      have e123 : a.eval (.tmp 123) = .bool true := seen.at_ ⟨28, .data⟩ (by simp) rfl
      have e138 : a.eval (.tmp 138) = .bool false := seen.at_ ⟨43, .data⟩ (by simp) rfl
      exact Rg.op_value_w rfl (Rg.wanted_of rfl rfl rfl tG) (Rg.ex_pick_t a.eval _ (.tmp 123) (.tmp 138) (.const (.bool false)) rfl e123 e138 x) (hK _ x rfl (Below.refl _ _))
    · obtain rfl := Option.some.inj ho
      have e121 : a.eval (.tmp 121) = .bool false := seen.at_ ⟨26, .data⟩ (by simp) rfl
      have e139 : a.eval (.tmp 139) = .bool false := seen.at_ ⟨44, .data⟩ (by simp) rfl
      exact Rg.op_value rfl rfl (Rg.ex_pick_f a.eval _ (.tmp 121) (.const (.bool true)) (.tmp 139) rfl e121 e139 x) (hK _ x rfl (Below.refl _ _))
    · obtain rfl := Option.some.inj ho
      have e140 : a.eval (.tmp 140) = .bool false := seen.at_ ⟨45, .data⟩ (by simp) rfl
      exact Rg.op_value rfl rfl (Rg.ex_move a.eval _ (.tmp 140) rfl x) (hK _ x e140 (Below.refl _ _))
    · obtain rfl := Option.some.inj ho
      have eG : a.eval (.tmp 141) = .bool false := seen.at_ ⟨46, .guard⟩ (by simp) rfl
      have tG : a.tmps[141]? = some (a.eval (.tmp 141)) := seen.got ⟨46, .guard⟩ (by simp) rfl
      rw [eG] at tG
      have e10 : a.eval (.tmp 10) = .pointer (some ⟨b10, 0, none⟩) := seen.kp 10 _ (nd 10 (by omega)) rfl
      have y0 := (X10.out.on hb).cell 0
      have y1 := (X10.out.on hb).cell 1
      have y2 := (X10.out.on hb).cell 2
      have y3 := (X10.out.on hb).cell 3
      have y4 := (X10.out.on hb).cell 4
      have y5 := (X10.out.on hb).cell 5
      simp only [List.getElem?_toArray, List.getElem?_cons_zero, List.getElem?_cons_succ] at y0 y1 y2 y3 y4 y5
      exact Rg.op_value_w rfl (Rg.wanted_of rfl rfl rfl tG) (Rg.ex_load a.eval _ 29 (.tmp 10) rfl (by rw [e10]; simp [go_sem, y0, y1, y2, y3, y4, y5])) (hK _ x rfl (Below.refl _ _))
    · obtain rfl := Option.some.inj ho
      have eG : a.eval (.tmp 141) = .bool false := seen.at_ ⟨46, .guard⟩ (by simp) rfl
      have tG : a.tmps[141]? = some (a.eval (.tmp 141)) := seen.got ⟨46, .guard⟩ (by simp) rfl
      rw [eG] at tG
      have e9 : a.eval (.tmp 9) = .pointer (some ⟨b9, 0, none⟩) := seen.kp 9 _ (nd 9 (by omega)) rfl
      have y0 := (X9.out.on hb).cell 0
      have y1 := (X9.out.on hb).cell 1
      have y2 := (X9.out.on hb).cell 2
      have y3 := (X9.out.on hb).cell 3
      have y4 := (X9.out.on hb).cell 4
      have y5 := (X9.out.on hb).cell 5
      simp only [List.getElem?_toArray, List.getElem?_cons_zero, List.getElem?_cons_succ] at y0 y1 y2 y3 y4 y5
      exact Rg.op_value_w rfl (Rg.wanted_of rfl rfl rfl tG) (Rg.ex_load a.eval _ 29 (.tmp 9) rfl (by rw [e9]; simp [go_sem, y0, y1, y2, y3, y4, y5])) (hK _ x rfl (Below.refl _ _))
    · obtain rfl := Option.some.inj ho
      have eG : a.eval (.tmp 141) = .bool false := seen.at_ ⟨46, .guard⟩ (by simp) rfl
      have tG : a.tmps[141]? = some (a.eval (.tmp 141)) := seen.got ⟨46, .guard⟩ (by simp) rfl
      rw [eG] at tG
      have e142 : a.eval (.tmp 142) = .agg #[.int .i64 b0.me, .slice e1 e2 e3, .slice e4 e5 e6, .slice e7 e8 e9, .slice e10 e11 e12, .slice e13 e14 e15] := seen.at_ ⟨47, .data⟩ (by simp) rfl
      have e143 : a.eval (.tmp 143) = .agg #[.int .i64 b0.me, .slice w1 w2 w3, .slice w4 w5 w6, .slice w7 w8 w9, .slice w10 w11 w12, .slice w13 w14 w15] := seen.at_ ⟨48, .data⟩ (by simp) rfl
      exact Rg.op_call_w rfl (Rg.wanted_of rfl rfl rfl tG) (Rw.ex_call2 a.eval _ (.tmp 142) (.tmp 143) 29 29 16 rfl e142 e143 rfl _ (call_fn Tryz.func16 rfl rfl _ _)) (brokers_any b0 b0 (e1, e2, e3) (e4, e5, e6) (e7, e8, e9) (e10, e11, e12) (e13, e14, e15) (w1, w2, w3) (w4, w5, w6) (w7, w8, w9) (w10, w11, w12) (w13, w14, w15) x (B10.out.on hb).br (B9.out.on hb).br FP0.out.shr FP0.out.shr FW0.out) fun e w1 h => by
        obtain ⟨rfl, hb1⟩ := h
        rw [same_self]
        exact ⟨_, rfl, hK _ _ rfl hb1⟩
    · obtain rfl := Option.some.inj ho
      have eG : a.eval (.tmp 141) = .bool false := seen.at_ ⟨46, .guard⟩ (by simp) rfl
      have tG : a.tmps[141]? = some (a.eval (.tmp 141)) := seen.got ⟨46, .guard⟩ (by simp) rfl
      rw [eG] at tG
      have e144 : a.eval (.tmp 144) = .bool true := seen.at_ ⟨49, .data⟩ (by simp) rfl
      exact Rg.op_value_w rfl (Rg.wanted_of rfl rfl rfl tG) (Rg.ex_not a.eval _ 4 (.tmp 144) rfl e144 x) (hK _ x rfl (Below.refl _ _))
    · obtain rfl := Option.some.inj ho
      have e141 : a.eval (.tmp 141) = .bool false := seen.at_ ⟨46, .data⟩ (by simp) rfl
      have e145 : a.eval (.tmp 145) = .bool false := seen.at_ ⟨50, .data⟩ (by simp) rfl
      exact Rg.op_value rfl rfl (Rg.ex_pick_f a.eval _ (.tmp 141) (.const (.bool true)) (.tmp 145) rfl e141 e145 x) (hK _ x rfl (Below.refl _ _))
  · intro a x df sz kp hv hbel
    have g146 : a.tmps[146]? = some (.bool false) := by
      obtain ⟨v, h1, h2⟩ := hv 51 (by decide)
      have h3 : v = .bool false := h2
      rw [← h3]
      exact h1
    have kp2 : ∀ j, (j < 95 ∨ 147 ≤ j) → a.tmps[j]? = (u0 :: u1 :: u2 :: .pointer (some ⟨b3, 0, none⟩) :: .pointer (some ⟨b4, 0, none⟩) :: u5 :: u6 :: .pointer (some ⟨b7, 0, none⟩) :: u8 :: .pointer (some ⟨b9, 0, none⟩) :: .pointer (some ⟨b10, 0, none⟩) :: .bool g :: .bool g :: u13 :: .pointer (some ⟨b14, 0, none⟩) :: .bool true :: .int .i64 (n : Int) :: u17 :: u18 :: u19 :: u20 :: u21 :: u22 :: u23 :: u24 :: u25 :: u26 :: u27 :: u28 :: u29 :: u30 :: u31 :: u32 :: u33 :: u34 :: u35 :: u36 :: u37 :: u38 :: u39 :: u40 :: u41 :: u42 :: u43 :: u44 :: u45 :: u46 :: u47 :: u48 :: u49 :: u50 :: u51 :: u52 :: u53 :: u54 :: u55 :: u56 :: u57 :: u58 :: u59 :: u60 :: u61 :: u62 :: u63 :: u64 :: u65 :: u66 :: u67 :: u68 :: u69 :: u70 :: u71 :: u72 :: u73 :: u74 :: u75 :: u76 :: u77 :: u78 :: u79 :: u80 :: u81 :: u82 :: u83 :: u84 :: u85 :: u86 :: u87 :: u88 :: u89 :: u90 :: u91 :: u92 :: u93 :: u94 :: u95 :: u96 :: u97 :: u98 :: u99 :: u100 :: u101 :: u102 :: u103 :: u104 :: u105 :: u106 :: u107 :: u108 :: u109 :: u110 :: u111 :: u112 :: u113 :: u114 :: u115 :: u116 :: u117 :: u118 :: u119 :: u120 :: u121 :: u122 :: u123 :: u124 :: u125 :: u126 :: u127 :: u128 :: u129 :: u130 :: u131 :: u132 :: u133 :: u134 :: u135 :: u136 :: u137 :: u138 :: u139 :: u140 :: u141 :: u142 :: u143 :: u144 :: u145 :: u146 :: u147 :: [])[j]? := fun j hj => (kp j (nd j hj)).trans List.getElem?_toArray
    obtain ⟨mid, hmid, rfl⟩ := Rg.frame_mid (bl := (u0 :: u1 :: u2 :: .pointer (some ⟨b3, 0, none⟩) :: .pointer (some ⟨b4, 0, none⟩) :: u5 :: u6 :: .pointer (some ⟨b7, 0, none⟩) :: u8 :: .pointer (some ⟨b9, 0, none⟩) :: .pointer (some ⟨b10, 0, none⟩) :: .bool g :: .bool g :: u13 :: .pointer (some ⟨b14, 0, none⟩) :: .bool true :: .int .i64 (n : Int) :: u17 :: u18 :: u19 :: u20 :: u21 :: u22 :: u23 :: u24 :: u25 :: u26 :: u27 :: u28 :: u29 :: u30 :: u31 :: u32 :: u33 :: u34 :: u35 :: u36 :: u37 :: u38 :: u39 :: u40 :: u41 :: u42 :: u43 :: u44 :: u45 :: u46 :: u47 :: u48 :: u49 :: u50 :: u51 :: u52 :: u53 :: u54 :: u55 :: u56 :: u57 :: u58 :: u59 :: u60 :: u61 :: u62 :: u63 :: u64 :: u65 :: u66 :: u67 :: u68 :: u69 :: u70 :: u71 :: u72 :: u73 :: u74 :: u75 :: u76 :: u77 :: u78 :: u79 :: u80 :: u81 :: u82 :: u83 :: u84 :: u85 :: u86 :: u87 :: u88 :: u89 :: u90 :: u91 :: u92 :: u93 :: u94 :: u95 :: u96 :: u97 :: u98 :: u99 :: u100 :: u101 :: u102 :: u103 :: u104 :: u105 :: u106 :: u107 :: u108 :: u109 :: u110 :: u111 :: u112 :: u113 :: u114 :: u115 :: u116 :: u117 :: u118 :: u119 :: u120 :: u121 :: u122 :: u123 :: u124 :: u125 :: u126 :: u127 :: u128 :: u129 :: u130 :: u131 :: u132 :: u133 :: u134 :: u135 :: u136 :: u137 :: u138 :: u139 :: u140 :: u141 :: u142 :: u143 :: u144 :: u145 :: u146 :: u147 :: [])) 95 52 df sz (by simp) kp2
    match mid, hmid with
    | v95 :: v96 :: v97 :: v98 :: v99 :: v100 :: v101 :: v102 :: v103 :: v104 :: v105 :: v106 :: v107 :: v108 :: v109 :: v110 :: v111 :: v112 :: v113 :: v114 :: v115 :: v116 :: v117 :: v118 :: v119 :: v120 :: v121 :: v122 :: v123 :: v124 :: v125 :: v126 :: v127 :: v128 :: v129 :: v130 :: v131 :: v132 :: v133 :: v134 :: v135 :: v136 :: v137 :: v138 :: v139 :: v140 :: v141 :: v142 :: v143 :: v144 :: v145 :: v146 :: [], _ =>
      obtain rfl : v146 = .bool false := Option.some.inj g146
      exact HQ.out x _ _ _ _ _ _ _ _ _ _ _ _ _ _ _ _ _ _ _ _ _ _ _ _ _ _ _ _ _ _ _ _ _ _ _ _ _ _ _ _ _ _ _ _ _ _ _ _ _ _ _ hbel
end Go.Proofs.YtonoadjmglkhaaaGreat.Av

namespace Go.Proofs.YtonoadjmglkhaaaGreat.Ar
open Go.ChangeShapes Go.WideShapes Go.RowKit

/-- Are these types readable rows of the program? -/
def readable (P : Program) (ts : List TypeId) : Bool := ts.all fun t => P.readableRec t && decide (t < P.types.size)
theorem carry {H : Type} {enc : TypeId × Value → H} {P : Program} (hl : laidOutB P = true) {W W' : World} (hb : Below W.heap.size W W') :
    ∀ (ts : List TypeId) (vs : List Value) (ds : List (DataW H)) (ps : List MemPlace), readable P ts = true → DataW.TrodAll enc P W 0 (fun _ => true) true ts vs ds ps → (∀ x ∈ ps, x.block < W.heap.size) →
      DataW.TrodAll enc P W' 0 (fun b => decide (b < W.heap.size)) true ts vs ds ps
  | [], vs, ds, ps, _, h, _ => by
    obtain ⟨rfl, rfl, rfl⟩ := trodAll_nil h
    exact trodAll_mk0
  | t :: ts, vs, ds, ps, hr, h, hlt => by
    obtain ⟨v, vs', d, ds', p, q, rfl, rfl, rfl, h1, h2⟩ := trodAll_cons h
    simp only [readable, List.all_cons, Bool.and_eq_true, decide_eq_true_eq] at hr
    exact trodAll_cons_mk (Below.trod hl hr.1.1 hr.1.2 h1 hb (fun x hx => hlt x (List.mem_append_left _ hx)))
      (carry hl hb ts vs' ds' q hr.2 h2 (fun x hx => hlt x (List.mem_append_right _ hx)))

theorem cellsV : Tryz.prog.cellsOf 188 = 3 := by kernel_rfl
theorem cellsBool : Tryz.prog.cellsOf 4 = 1 := by kernel_rfl
theorem cellsInt : Tryz.prog.cellsOf 3 = 1 := by kernel_rfl
theorem cellsStr : Tryz.prog.cellsOf 9 = 1 := by kernel_rfl
set_option maxRecDepth 100000 in
theorem open_value {H : Type} {enc : TypeId × Value → H} {W : World} {r : Reach} {b0 base : Nat} {sp : Nat → Bool} {held : Bool} {v : Value} {d : DataW H} {ps : List MemPlace}
    (hval : Value.okWide Tryz.prog W r b0 188 v) (hd : DataW.Trod enc Tryz.prog W base sp held 188 v d ps) :
    ∃ (t : Bool) (n : Int) (s : ByteArray), v = .agg #[.bool t, .int .i64 n, .string s] ∧ (Lit.int .i64 n).wf = true ∧ s.size ≤ maxLen := by
  obtain ⟨cs, rfl, hsz⟩ := okWide_struct Tryz.underlying188 hval
  obtain ⟨fuel, hf⟩ := hd
  obtain ⟨xs, n, _, _, _, hxl, hx⟩ := DataW.trod_struct Tryz.underlying188 hf
  rw [cellsV] at hsz
  obtain ⟨l⟩ := cs
  match l, hsz with
  | [c0, c1, c2], _ =>
    have f0 : DataW.trod enc Tryz.prog W base sp held n 4 (([c0, c1, c2].drop 0).take (Tryz.prog.cellsOf 4)) = xs[0]? := hx 0 _ rfl
    have f1 : DataW.trod enc Tryz.prog W base sp held n 3 (([c0, c1, c2].drop 1).take (Tryz.prog.cellsOf 3)) = xs[1]? := hx 1 _ rfl
    have f2 : DataW.trod enc Tryz.prog W base sp held n 9 (([c0, c1, c2].drop 2).take (Tryz.prog.cellsOf 9)) = xs[2]? := hx 2 _ rfl
    have hxl' : xs.length = 3 := hxl
    simp only [cellsBool, cellsInt, cellsStr, List.drop_zero, List.drop_succ_cons, List.take_succ_cons, List.take_zero] at f0 f1 f2
    rw [List.getElem?_eq_getElem (by omega)] at f0 f1 f2
    obtain ⟨b, e0, _⟩ := DataW.trod_bool Tryz.underlying4 f0
    obtain ⟨m, e1, _, hw⟩ := DataW.trod_int Tryz.underlying3 f1
    obtain ⟨s, e2, _, hs⟩ := DataW.trod_string Tryz.underlying9 f2
    simp only [List.cons.injEq, and_true] at e0 e1 e2
    subst e0 e1 e2
    exact ⟨b, m, s, rfl, hw, hs⟩
end Go.Proofs.YtonoadjmglkhaaaGreat.Ar
