/-
  errors.Is at a target that is an Errno, over a chain of faults that ends in an Errno or in an errors.New; New, Unwrap. No condition.
  Region 1 of Bytes of the statements' own package: the kind and the tree. No condition.
-/
import Derived.Test.YtfcgfnmokbbcaaaDoorU029
import Derived.Deep.LoopGhost
import Derived.Test.YtfcgfnmokbbcaaaDoorU019
import Derived.Test.YtfcgfnmokbbcaaaDoorU025
namespace Go.Proofs.YtfcgfnmokbbcaaaDoor.Fa
open Go.RowKit Go.Extern.Stop Go.Stop Go.Extern

theorem run_equalIn_iface_int {P : Program} (w : World) (d : Nat) {ti tn : TypeId} {ms : Array (String × TypeId)} {i : TypeInfo} {k : IntKind} (a b : Int)
    (hi : P.underlying ti = some (.interface ms)) (hn : P.underlying tn = some (.int k)) (hinfo : P.info? tn = some i) (hcomp : i.comparable = true) :
    (Op.equalIn (d + 2) ti (.iface tn (.int k a)) (.iface tn (.int k b))).run P w = .ok (a == b) w := by
  simp [Op.equalIn, run_underlying hi, run_underlying hn, typeInfo, hinfo, hcomp]
theorem run_eql_iface_int {P : Program} (w : World) {ti tn : TypeId} {ms : Array (String × TypeId)} {i : TypeInfo} {k : IntKind} (a b : Int)
    (hi : P.underlying ti = some (.interface ms)) (hn : P.underlying tn = some (.int k)) (hinfo : P.info? tn = some i) (hcomp : i.comparable = true) :
    (binOp .eql ti (.iface tn (.int k a)) (.iface tn (.int k b))).run P w = .ok (.bool (a == b)) w := by
  simp only [binOp]
  simp [Op.equal, Op.maxDepth, run_equalIn_iface_int w 9998 a b hi hn hinfo hcomp]

theorem compE : (Tryd.prog.info? 34).map (·.comparable) = some true := by kernel_rfl
theorem compF : (Tryd.prog.info? 82).map (·.comparable) = some true := by kernel_rfl
theorem sizeFS : (Tryd.prog.info? 84).map (·.size) = some 3 := by kernel_rfl
theorem eqE (a b : Int) (w : World) : (binOp .eql 24 (.iface 34 (.int .i64 a)) (.iface 34 (.int .i64 b))).run Tryd.prog w = .ok (.bool (a == b)) w := by
  obtain ⟨i, hi, hcmp⟩ := Option.map_eq_some_iff.1 compE
  exact run_eql_iface_int w a b Tryd.underlying24 Tryd.underlying34 hi hcmp
theorem eqTypes (tx ty_ : Nat) (x y : Value) (hne : tx ≠ ty_) (w : World) : (binOp .eql 24 (.iface tx x) (.iface ty_ y)).run Tryd.prog w = .ok (.bool false) w :=
  run_eql_iface_types tx ty_ x y Tryd.underlying24 hne w
theorem eqF_same (a : Addr) (w : World) : (binOp .eql 24 (.iface 82 (.pointer (some a))) (.iface 82 (.pointer (some a)))).run Tryd.prog w = .ok (.bool true) w := by
  obtain ⟨i, hi, hcmp⟩ := Option.map_eq_some_iff.1 compF
  obtain ⟨j, hj, _⟩ := Option.map_eq_some_iff.1 sizeFS
  exact run_eql_iface_ptr_same w a Tryd.underlying24 Tryd.underlying82 hi hcmp hj
theorem eqF_other {a b : Nat} {ca cb : Array Value} {ta tb : TypeId} (w : World) (hne : a ≠ b) (ha : w.heap[a]? = some (.cells ca ta (0, 0))) (hb : w.heap[b]? = some (.cells cb tb (0, 0))) :
    (binOp .eql 24 (.iface 82 (.pointer (some ⟨a, 0, none⟩))) (.iface 82 (.pointer (some ⟨b, 0, none⟩)))).run Tryd.prog w = .ok (.bool false) w := by
  obtain ⟨i, hi, hcmp⟩ := Option.map_eq_some_iff.1 compF
  obtain ⟨j, hj, hjs⟩ := Option.map_eq_some_iff.1 sizeFS
  exact run_eql_iface_ptr_other w Tryd.underlying24 Tryd.underlying82 hi hcmp hj (by rw [hjs]; decide) (fun h => hne (congrArg Addr.block h)) ha hb
theorem Ch.isIface {w : World} {l : List (Nat × ByteArray × Int)} {v u : Value} (h : Ch w l v u) (hu : ∃ tx x, u = .iface tx x) : ∃ tx x, v = .iface tx x := by
  cases l with
  | nil => cases h; exact hu
  | cons y r => exact ⟨_, _, h.1⟩

/-- New of an error that is not nil: a new fault. -/
theorem New_some (op : ByteArray) (at_ : Int) (tx : Nat) (x : Value) (w : World) :
    Calls Tryd.prog 25 #[.string op, .int .i64 at_, .iface tx x] w fun e w' => e = .returned (.iface 82 (.pointer (some ⟨w.heap.size, 0, none⟩))) ∧ w' = w.alloc (.cells #[.string op, .int .i64 at_, .iface tx x] 84) := by
  go_enter Tryd.func25, Tryd.ntmps25
  go_wp2
  go_ret
  exact ⟨rfl, rfl⟩
theorem New_nil (op : ByteArray) (at_ : Int) (w : World) :
    Calls Tryd.prog 25 #[.string op, .int .i64 at_, .nilIface] w fun e w' => e = .returned .nilIface ∧ w = w' := by
  go_enter Tryd.func25, Tryd.ntmps25
  go_wp2
  go_ret
  exact ⟨rfl, rfl⟩
/-- What New makes, as a chain. -/
theorem Ch.new {w : World} {l : List (Nat × ByteArray × Int)} {v u : Value} (h : Ch w l v u) (op : ByteArray) (at_ : Int) :
    Ch (w.alloc (.cells #[.string op, .int .i64 at_, v] 84)) ((w.heap.size, op, at_) :: l) (.iface 82 (.pointer (some ⟨w.heap.size, 0, none⟩))) u :=
  ⟨rfl, v, by show (w.heap.push _)[w.heap.size]? = _; simp, h.bel ((Below.refl _ _).alloc (Nat.le_refl _) _)⟩
end Go.Proofs.YtfcgfnmokbbcaaaDoor.Fa

namespace Go.Proofs.YtfcgfnmokbbcaaaDoor.Wr
open Go.RowKit Go.Proofs.YtfcgfnmokbbcaaaDoor Go.Proofs.YtfcgfnmokbbcaaaDoor.Rw Go.Proofs.YtfcgfnmokbbcaaaDoor.Nm Go.Proofs.YtfcgfnmokbbcaaaDoor.At Go.Proofs.YtfcgfnmokbbcaaaDoor.Pr

def by1S (B _mb : Nat) (_kd tc ts _ic _is : Int) (_pV _lV : Value) (cb : UInt8) : Nat → (Nat → Value) → World → Prop
  | 0, _, _ => True
  | 1, v, w => RowB w (v 6) (numB tc ++ numB ts)
  | 2, v, w => OwnB w B (v 7) ([cb] ++ (numB tc ++ numB ts))
  | _ + 3, v, w => OwnB w B (v 8) ([cb] ++ (numB tc ++ numB ts))
structure by1C (B mb : Nat) (kd tc ts ic is : Int) (pV lV : Value) (cb : UInt8) (W : World) (k : Nat) (b : Bool) (v : Nat → Value) (w : World) : Prop where
  bel : Below B W w
  bx0 : Box w mb #[.int .i64 kd, .int .i64 tc, .int .i64 ts, .int .i64 ic, .int .i64 is, pV, lV] 32
  lit : b = true → k ≤ 1 → LitB B (v 3) cb w
  st : by1S B mb kd tc ts ic is pV lV cb k v w
noncomputable def by1R : Code := ((Tryd.f19.body.bind (findRegion 1)).getD .skip)
set_option maxRecDepth 100000 in
set_option maxHeartbeats 8000000 in
theorem by1 (B mb : Nat) (kd tc ts ic is : Int) (pV lV : Value) (cb : UInt8) (Q : Exit → Act → World → Prop) (W : World) (u0 u2 u3 u4 u5 u6 u7 u8 u9 u10 u11 u12 u13 u14 u15 u16 u17 u18 u19 u20 u21 u22 u23 u24 u25 u26 u27 u28 u29 u30 u31 u32 u33 u34 u35 u36 u37 u38 u39 u40 u41 u42 u43 u44 u45 u46 u47 u48 u49 u50 u51 u52 u53 u54 u55 u56 u57 u58 u59 u60 u61 u62 u63 u64 u65 u66 u67 u68 u69 u70 u71 u72 u73 u74 u75 u76 u77 u78 u79 u80 u81 u82 u83 u84 u85 u86 u87 u88 u89 u90 u91 u92 u93 u94 u95 u96 u97 u98 u99 u100 u101 u102 u103 u104 u105 u106 u107 u108 u109 u110 u111 u112 u113 u114 u115 u116 : Value)
    (hB : B ≤ W.heap.size) (hx0 : Box W mb #[.int .i64 kd, .int .i64 tc, .int .i64 ts, .int .i64 ic, .int .i64 is, pV, lV] 32)  (hw : IntKind.u8.wrap kd = (cb.toNat : Int))
    (hQ : ∀ (w' : World) (v n8 n9 n10 n11 n12 n13 n14 n15 : Value), OwnB w' B v ([cb] ++ (numB tc ++ numB ts)) → Below B W w' → Box w' mb #[.int .i64 kd, .int .i64 tc, .int .i64 ts, .int .i64 ic, .int .i64 is, pV, lV] 32 → Q .normal ⟨(u0 :: .pointer (some ⟨mb, 0, none⟩) :: u2 :: v :: u4 :: u5 :: u6 :: u7 :: n8 :: n9 :: n10 :: n11 :: n12 :: n13 :: n14 :: n15 :: u16 :: u17 :: u18 :: u19 :: u20 :: u21 :: u22 :: u23 :: u24 :: u25 :: u26 :: u27 :: u28 :: u29 :: u30 :: u31 :: u32 :: u33 :: u34 :: u35 :: u36 :: u37 :: u38 :: u39 :: u40 :: u41 :: u42 :: u43 :: u44 :: u45 :: u46 :: u47 :: u48 :: u49 :: u50 :: u51 :: u52 :: u53 :: u54 :: u55 :: u56 :: u57 :: u58 :: u59 :: u60 :: u61 :: u62 :: u63 :: u64 :: u65 :: u66 :: u67 :: u68 :: u69 :: u70 :: u71 :: u72 :: u73 :: u74 :: u75 :: u76 :: u77 :: u78 :: u79 :: u80 :: u81 :: u82 :: u83 :: u84 :: u85 :: u86 :: u87 :: u88 :: u89 :: u90 :: u91 :: u92 :: u93 :: u94 :: u95 :: u96 :: u97 :: u98 :: u99 :: u100 :: u101 :: u102 :: u103 :: u104 :: u105 :: u106 :: u107 :: u108 :: u109 :: u110 :: u111 :: u112 :: u113 :: u114 :: u115 :: u116 :: []).toArray, []⟩ w') :
    Code.wp Tryd.prog by1R Q ⟨(u0 :: .pointer (some ⟨mb, 0, none⟩) :: u2 :: u3 :: u4 :: u5 :: u6 :: u7 :: u8 :: u9 :: u10 :: u11 :: u12 :: u13 :: u14 :: u15 :: u16 :: u17 :: u18 :: u19 :: u20 :: u21 :: u22 :: u23 :: u24 :: u25 :: u26 :: u27 :: u28 :: u29 :: u30 :: u31 :: u32 :: u33 :: u34 :: u35 :: u36 :: u37 :: u38 :: u39 :: u40 :: u41 :: u42 :: u43 :: u44 :: u45 :: u46 :: u47 :: u48 :: u49 :: u50 :: u51 :: u52 :: u53 :: u54 :: u55 :: u56 :: u57 :: u58 :: u59 :: u60 :: u61 :: u62 :: u63 :: u64 :: u65 :: u66 :: u67 :: u68 :: u69 :: u70 :: u71 :: u72 :: u73 :: u74 :: u75 :: u76 :: u77 :: u78 :: u79 :: u80 :: u81 :: u82 :: u83 :: u84 :: u85 :: u86 :: u87 :: u88 :: u89 :: u90 :: u91 :: u92 :: u93 :: u94 :: u95 :: u96 :: u97 :: u98 :: u99 :: u100 :: u101 :: u102 :: u103 :: u104 :: u105 :: u106 :: u107 :: u108 :: u109 :: u110 :: u111 :: u112 :: u113 :: u114 :: u115 :: u116 :: []).toArray, []⟩ W := by
  have HQ := Lib.hid hQ
  have HX0 := Lib.hid hx0
  clear hQ hx0
  obtain ⟨dst, hdd⟩ : ∃ d : Nat → Nat, d = fun i => [8, 9, 10, 11, 12, 13, 14, 15, 3].getD i 3 := ⟨_, rfl⟩
  obtain ⟨mk, hmk⟩ : ∃ d : Nat → Nat, d = fun j => [6, 7, 8].getD j 999 := ⟨_, rfl⟩
  obtain ⟨pv, hpv⟩ : ∃ e : Nat → Option Value, e = fun i => ([some (.pointer (some ⟨mb, 0, none⟩)), some (.int .i64 kd), some (.int .u8 cb.toNat), none, some (.pointer (some ⟨mb, 1, none⟩)), some (.agg #[.int .i64 tc, .int .i64 ts]), none, none, none] : List (Option Value)).getD i none := ⟨_, rfl⟩
  obtain ⟨base, hbase⟩ : ∃ b : Act, b = ⟨(u0 :: .pointer (some ⟨mb, 0, none⟩) :: u2 :: u3 :: u4 :: u5 :: u6 :: u7 :: u8 :: u9 :: u10 :: u11 :: u12 :: u13 :: u14 :: u15 :: u16 :: u17 :: u18 :: u19 :: u20 :: u21 :: u22 :: u23 :: u24 :: u25 :: u26 :: u27 :: u28 :: u29 :: u30 :: u31 :: u32 :: u33 :: u34 :: u35 :: u36 :: u37 :: u38 :: u39 :: u40 :: u41 :: u42 :: u43 :: u44 :: u45 :: u46 :: u47 :: u48 :: u49 :: u50 :: u51 :: u52 :: u53 :: u54 :: u55 :: u56 :: u57 :: u58 :: u59 :: u60 :: u61 :: u62 :: u63 :: u64 :: u65 :: u66 :: u67 :: u68 :: u69 :: u70 :: u71 :: u72 :: u73 :: u74 :: u75 :: u76 :: u77 :: u78 :: u79 :: u80 :: u81 :: u82 :: u83 :: u84 :: u85 :: u86 :: u87 :: u88 :: u89 :: u90 :: u91 :: u92 :: u93 :: u94 :: u95 :: u96 :: u97 :: u98 :: u99 :: u100 :: u101 :: u102 :: u103 :: u104 :: u105 :: u106 :: u107 :: u108 :: u109 :: u110 :: u111 :: u112 :: u113 :: u114 :: u115 :: u116 :: []).toArray, []⟩ := ⟨_, rfl⟩
  rw [← hbase]
  unfold by1R
  conv => arg 2; whnf
  have nd : ∀ j, (j ≠ 8 ∧ j ≠ 9 ∧ j ≠ 10 ∧ j ≠ 11 ∧ j ≠ 12 ∧ j ≠ 13 ∧ j ≠ 14 ∧ j ≠ 15 ∧ j ≠ 3) → ∀ i, i < 9 → dst i ≠ j := by
    rw [hdd]
    intro j hj i hi
    rcases (by omega : i = 0 ∨ i = 1 ∨ i = 2 ∨ i = 3 ∨ i = 4 ∨ i = 5 ∨ i = 6 ∨ i = 7 ∨ i = 8) with rfl | rfl | rfl | rfl | rfl | rfl | rfl | rfl | rfl <;> simp <;> omega
  refine Rg.region_chain 9 dst pv mk 3 3 1 (by1C B mb kd tc ts ic is pV lV cb W) (by kernel_rfl) (by kernel_rfl) rfl ?_ ?_ ?_ ?_ (by decide) ?_ ?_ (by subst hpv; rfl) ?_ ?_ ?_ ?_ ?_ ?_ ?_ ?_
  · subst hdd
    intro i j hi hj h
    rcases (by omega : i = 0 ∨ i = 1 ∨ i = 2 ∨ i = 3 ∨ i = 4 ∨ i = 5 ∨ i = 6 ∨ i = 7 ∨ i = 8) with rfl | rfl | rfl | rfl | rfl | rfl | rfl | rfl | rfl <;> rcases (by omega : j = 0 ∨ j = 1 ∨ j = 2 ∨ j = 3 ∨ j = 4 ∨ j = 5 ∨ j = 6 ∨ j = 7 ∨ j = 8) with rfl | rfl | rfl | rfl | rfl | rfl | rfl | rfl | rfl <;> first | rfl | (exfalso; revert h; decide)
  · subst hdd hbase
    intro i hi
    rcases (by omega : i = 0 ∨ i = 1 ∨ i = 2 ∨ i = 3 ∨ i = 4 ∨ i = 5 ∨ i = 6 ∨ i = 7 ∨ i = 8) with rfl | rfl | rfl | rfl | rfl | rfl | rfl | rfl | rfl <;> (show _ < 117; decide)
  · subst hmk
    intro i j hi hj h
    rcases (by omega : i = 0 ∨ i = 1 ∨ i = 2) with rfl | rfl | rfl <;> rcases (by omega : j = 0 ∨ j = 1 ∨ j = 2) with rfl | rfl | rfl <;> first | rfl | (exfalso; revert h; decide)
  · subst hmk
    intro j hj
    rcases (by omega : j = 0 ∨ j = 1 ∨ j = 2) with rfl | rfl | rfl <;> decide
  · subst hmk
    intro j hj
    rcases (by omega : j = 0 ∨ j = 1 ∨ j = 2) with rfl | rfl | rfl <;> decide
  · subst hmk hpv
    intro j hj
    rcases (by omega : j = 0 ∨ j = 1 ∨ j = 2) with rfl | rfl | rfl <;> rfl
  · subst hmk
    intro j o hj ho
    rcases (by omega : j = 0 ∨ j = 1) with rfl | rfl
    · obtain rfl := Option.some.inj ho
      exact ⟨⟨6, .data⟩, by simp, rfl, rfl⟩
    · obtain rfl := Option.some.inj ho
      exact ⟨⟨7, .data⟩, by simp, rfl, rfl⟩
  · subst hmk
    intro o _ ho
    obtain rfl := Option.some.inj ho
    exact ⟨⟨3, .data⟩, by simp, rfl, rfl⟩
  · intro v
    exact ⟨(Below.refl _ _).drew, HX0.out, (fun h => by cases h), trivial⟩
  · subst hmk
    intro k b v v' z h1 h2 hc
    refine ⟨hc.bel, hc.bx0, fun e hk => by rw [h2 e]; exact hc.lit e hk, ?_⟩
    have hm := hc.st
    rcases k with _ | _ | _ | k
    · trivial
    · have e6 : v' 6 = v 6 := h1 0 (by omega)
      simp only [by1S, e6] at hm ⊢
      exact hm
    · have e7 : v' 7 = v 7 := h1 1 (by omega)
      simp only [by1S, e7] at hm ⊢
      exact hm
    · have e8 : v' 8 = v 8 := h1 2 (by omega)
      simp only [by1S, e8] at hm ⊢
      exact hm
  · subst hdd hmk hpv hbase
    intro i o hi ho hnm hnq
    rcases (by omega : i = 0 ∨ i = 1 ∨ i = 2 ∨ i = 3 ∨ i = 4 ∨ i = 5 ∨ i = 6 ∨ i = 7 ∨ i = 8) with rfl | rfl | rfl | rfl | rfl | rfl | rfl | rfl | rfl
    · obtain rfl := Option.some.inj ho
      refine ⟨_, rfl, fun k b val z a hc seen K hK => ?_⟩
      have e1 : a.eval (.tmp 1) = .pointer (some ⟨mb, 0, none⟩) := seen.kp 1 _ (nd 1 (by decide)) rfl
      exact Rg.op_value_w rfl (Rg.wanted_none rfl) (Rg.ex_field a.eval _ 32 (.tmp 1) 0 rfl (by rw [e1]; simp [go_sem])) hK
    · obtain rfl := Option.some.inj ho
      refine ⟨_, rfl, fun k b val z a hc seen K hK => ?_⟩
      have e8 : a.eval (.tmp 8) = .pointer (some ⟨mb, 0, none⟩) := seen.pl ⟨0, .data⟩ (by simp) rfl _ rfl
      have y0_0 := hc.bx0.cell 0
      have y0_1 := hc.bx0.cell 1
      have y0_2 := hc.bx0.cell 2
      have y0_3 := hc.bx0.cell 3
      have y0_4 := hc.bx0.cell 4
      have y0_5 := hc.bx0.cell 5
      have y0_6 := hc.bx0.cell 6
      simp only [List.getElem?_toArray, List.getElem?_cons_zero, List.getElem?_cons_succ] at y0_0 y0_1 y0_2 y0_3 y0_4 y0_5 y0_6
      exact Rg.op_value_w rfl (Rg.wanted_none rfl) (Rg.ex_load a.eval _ 3 (.tmp 8) rfl (by rw [e8]; simp [go_sem, y0_0])) hK
    · obtain rfl := Option.some.inj ho
      refine ⟨_, rfl, fun k b val z a hc seen K hK => ?_⟩
      have e9 : a.eval (.tmp 9) = .int .i64 kd := seen.pl ⟨1, .data⟩ (by simp) rfl _ rfl
      exact Rg.op_value_w rfl (Rg.wanted_none rfl) (Rg.ex_conv a.eval _ 3 5 (.tmp 9) rfl (by rw [e9]; simp [go_sem, hw])) hK
    · exact absurd rfl hnq
    · obtain rfl := Option.some.inj ho
      refine ⟨_, rfl, fun k b val z a hc seen K hK => ?_⟩
      have e1 : a.eval (.tmp 1) = .pointer (some ⟨mb, 0, none⟩) := seen.kp 1 _ (nd 1 (by decide)) rfl
      exact Rg.op_value_w rfl (Rg.wanted_none rfl) (Rg.ex_field a.eval _ 32 (.tmp 1) 1 rfl (by rw [e1]; simp [go_sem])) hK
    · obtain rfl := Option.some.inj ho
      refine ⟨_, rfl, fun k b val z a hc seen K hK => ?_⟩
      have e12 : a.eval (.tmp 12) = .pointer (some ⟨mb, 1, none⟩) := seen.pl ⟨4, .data⟩ (by simp) rfl _ rfl
      have y0_0 := hc.bx0.cell 0
      have y0_1 := hc.bx0.cell 1
      have y0_2 := hc.bx0.cell 2
      have y0_3 := hc.bx0.cell 3
      have y0_4 := hc.bx0.cell 4
      have y0_5 := hc.bx0.cell 5
      have y0_6 := hc.bx0.cell 6
      simp only [List.getElem?_toArray, List.getElem?_cons_zero, List.getElem?_cons_succ] at y0_0 y0_1 y0_2 y0_3 y0_4 y0_5 y0_6
      exact Rg.op_value_w rfl (Rg.wanted_none rfl) (Rg.ex_load a.eval _ 28 (.tmp 12) rfl (by rw [e12]; simp [go_sem, y0_1, y0_2])) hK
    · exact absurd rfl (hnm 0 (by decide))
    · exact absurd rfl (hnm 1 (by decide))
    · exact absurd rfl (hnm 2 (by decide))
  · subst hdd hmk hpv hbase
    intro j o b val z a hj ho hc hcb seen K hK
    have hm := hc.st
    rcases (by omega : j = 0 ∨ j = 1 ∨ j = 2) with rfl | rfl | rfl
    · obtain rfl := Option.some.inj ho
      have e13 : a.eval (.tmp 13) = .agg #[.int .i64 tc, .int .i64 ts] := seen.pl ⟨5, .data⟩ (by simp) rfl _ rfl
      have C1 := ridb_any tc ts z
      refine Rg.op_call_w rfl (Rg.wanted_none rfl) (ex_call1 _ _ (.tmp 13) 28 47 rfl e13 rfl _ (call_fn Tryd.func47 rfl rfl _ _)) C1 ?_
      rintro e z1 ⟨⟨v1, rfl, ho1⟩, hz⟩
      have ho2 := Rw.own_less (B' := B) (Nat.le_trans hB hc.bel.size) ho1
      refine ⟨v1, rfl, hK _ _ ⟨hc.bel.trans (hz.mono (Nat.le_trans hB hc.bel.size)), hc.bx0.on hz, (fun e _ => (show LitB B (Rg.upd val 6 _ 3) cb _ from by rw [Rg.upd_other _ _ (by decide)]; exact (hc.lit e (by omega)).on hz)), (show RowB _ (Rg.upd val 6 _ 6) (numB tc ++ numB ts) from by rw [Rg.upd_same]; exact Row.of_own ho2)⟩⟩
    · obtain rfl := Option.some.inj ho
      have e11 : a.eval (.tmp 11) = val 3 := seen.at_ ⟨3, .data⟩ (by simp) rfl
      have e14 : a.eval (.tmp 14) = val 6 := seen.at_ ⟨6, .data⟩ (by simp) rfl
      obtain ⟨v1, z1, r, ho1, hg, hb1⟩ := app_nextB (l := [cb]) (m := numB tc ++ numB ts) hB hc.bel (hc.lit (hcb (by omega)) (by omega)).own hm (by rw [List.length_append, numB_len, numB_len]; simp)
      have ho0 := (hc.lit (hcb (by omega)) (by omega)).own
      refine Rg.op_value_w rfl (Rg.wanted_none rfl) (Rg.ex_append a.eval _ (.tmp 11) (.tmp 14) 22 rfl e11 e14 r) (hK _ _ ⟨hb1, box_grown hc.bx0 hg (own_neB ho0 hc.bx0 (by decide)), (fun _ he => absurd he (by omega)), (show OwnB _ B (Rg.upd val 7 _ 7) ([cb] ++ (numB tc ++ numB ts)) from by rw [Rg.upd_same]; exact ho1)⟩)
    · obtain rfl := Option.some.inj ho
      have e15 : a.eval (.tmp 15) = val 7 := seen.at_ ⟨7, .data⟩ (by simp) rfl
      refine Rg.op_value_w rfl (Rg.wanted_none rfl) (Rg.ex_assign a.eval _ (.tmp 15) rfl _) (hK _ _ ⟨hc.bel, hc.bx0, (fun _ he => absurd he (by omega)), ?_⟩)
      show OwnB _ B (Rg.upd val 8 _ 8) ([cb] ++ (numB tc ++ numB ts))
      rw [Rg.upd_same, e15]
      exact hm
  · subst hdd hmk hpv hbase
    intro o k val z a hk ho hc seen K hK
    obtain rfl := Option.some.inj ho
    have hm := hc.st
    have e10 : a.eval (.tmp 10) = .int .u8 cb.toNat := seen.pl ⟨2, .data⟩ (by simp) rfl _ rfl
    have hz := new_below z (.cells #[.int .u8 cb.toNat] 5)
    refine Rg.op_value_w rfl (Rg.wanted_none rfl) (Rg.ex_build a.eval _ 22 1 #[(0, .tmp 10)] rfl (by simp only [List.map_toArray, List.map_cons, List.map_nil, e10]) (lit_byteB z cb)) (hK _ _ ⟨hc.bel.alloc (Nat.le_trans hB hc.bel.size) _, hc.bx0.on hz, (fun _ _ => (show LitB B (Rg.upd val 3 _ 3) cb _ from by rw [Rg.upd_same]; exact LitB.made B z cb (Nat.le_trans hB hc.bel.size))), ?_⟩)
    rcases (by omega : k = 0 ∨ k = 1) with rfl | rfl
    · trivial
    · simp only [by1S, Rg.upd, show (6 : Nat) ≠ 3 by decide, if_false] at hm ⊢
      exact hm.on hz
  · subst hdd hbase
    intro a b val z hc hd hsz hk hv
    have hm := hc.st
    have hk2 : ∀ j, (j < 8 ∨ 8 + 8 ≤ j) → a.tmps[j]? = (u0 :: .pointer (some ⟨mb, 0, none⟩) :: u2 :: val 8 :: u4 :: u5 :: u6 :: u7 :: u8 :: u9 :: u10 :: u11 :: u12 :: u13 :: u14 :: u15 :: u16 :: u17 :: u18 :: u19 :: u20 :: u21 :: u22 :: u23 :: u24 :: u25 :: u26 :: u27 :: u28 :: u29 :: u30 :: u31 :: u32 :: u33 :: u34 :: u35 :: u36 :: u37 :: u38 :: u39 :: u40 :: u41 :: u42 :: u43 :: u44 :: u45 :: u46 :: u47 :: u48 :: u49 :: u50 :: u51 :: u52 :: u53 :: u54 :: u55 :: u56 :: u57 :: u58 :: u59 :: u60 :: u61 :: u62 :: u63 :: u64 :: u65 :: u66 :: u67 :: u68 :: u69 :: u70 :: u71 :: u72 :: u73 :: u74 :: u75 :: u76 :: u77 :: u78 :: u79 :: u80 :: u81 :: u82 :: u83 :: u84 :: u85 :: u86 :: u87 :: u88 :: u89 :: u90 :: u91 :: u92 :: u93 :: u94 :: u95 :: u96 :: u97 :: u98 :: u99 :: u100 :: u101 :: u102 :: u103 :: u104 :: u105 :: u106 :: u107 :: u108 :: u109 :: u110 :: u111 :: u112 :: u113 :: u114 :: u115 :: u116 :: [] : List Value)[j]? := fun j hj => by
      by_cases e : j = 3
      · subst e
        exact hv 8 (by decide)
      · have h1 := (hk j (nd j (by omega))).trans List.getElem?_toArray
        rw [h1]
        rw [show (u0 :: .pointer (some ⟨mb, 0, none⟩) :: u2 :: val 8 :: u4 :: u5 :: u6 :: u7 :: u8 :: u9 :: u10 :: u11 :: u12 :: u13 :: u14 :: u15 :: u16 :: u17 :: u18 :: u19 :: u20 :: u21 :: u22 :: u23 :: u24 :: u25 :: u26 :: u27 :: u28 :: u29 :: u30 :: u31 :: u32 :: u33 :: u34 :: u35 :: u36 :: u37 :: u38 :: u39 :: u40 :: u41 :: u42 :: u43 :: u44 :: u45 :: u46 :: u47 :: u48 :: u49 :: u50 :: u51 :: u52 :: u53 :: u54 :: u55 :: u56 :: u57 :: u58 :: u59 :: u60 :: u61 :: u62 :: u63 :: u64 :: u65 :: u66 :: u67 :: u68 :: u69 :: u70 :: u71 :: u72 :: u73 :: u74 :: u75 :: u76 :: u77 :: u78 :: u79 :: u80 :: u81 :: u82 :: u83 :: u84 :: u85 :: u86 :: u87 :: u88 :: u89 :: u90 :: u91 :: u92 :: u93 :: u94 :: u95 :: u96 :: u97 :: u98 :: u99 :: u100 :: u101 :: u102 :: u103 :: u104 :: u105 :: u106 :: u107 :: u108 :: u109 :: u110 :: u111 :: u112 :: u113 :: u114 :: u115 :: u116 :: [] : List Value) = (u0 :: .pointer (some ⟨mb, 0, none⟩) :: u2 :: u3 :: u4 :: u5 :: u6 :: u7 :: u8 :: u9 :: u10 :: u11 :: u12 :: u13 :: u14 :: u15 :: u16 :: u17 :: u18 :: u19 :: u20 :: u21 :: u22 :: u23 :: u24 :: u25 :: u26 :: u27 :: u28 :: u29 :: u30 :: u31 :: u32 :: u33 :: u34 :: u35 :: u36 :: u37 :: u38 :: u39 :: u40 :: u41 :: u42 :: u43 :: u44 :: u45 :: u46 :: u47 :: u48 :: u49 :: u50 :: u51 :: u52 :: u53 :: u54 :: u55 :: u56 :: u57 :: u58 :: u59 :: u60 :: u61 :: u62 :: u63 :: u64 :: u65 :: u66 :: u67 :: u68 :: u69 :: u70 :: u71 :: u72 :: u73 :: u74 :: u75 :: u76 :: u77 :: u78 :: u79 :: u80 :: u81 :: u82 :: u83 :: u84 :: u85 :: u86 :: u87 :: u88 :: u89 :: u90 :: u91 :: u92 :: u93 :: u94 :: u95 :: u96 :: u97 :: u98 :: u99 :: u100 :: u101 :: u102 :: u103 :: u104 :: u105 :: u106 :: u107 :: u108 :: u109 :: u110 :: u111 :: u112 :: u113 :: u114 :: u115 :: u116 :: []).set 3 (val 8) from rfl, List.getElem?_set_ne (fun e2 => e e2.symm)]
    obtain ⟨mid, hmid, rfl⟩ := Rg.frame_mid (bl := (u0 :: .pointer (some ⟨mb, 0, none⟩) :: u2 :: val 8 :: u4 :: u5 :: u6 :: u7 :: u8 :: u9 :: u10 :: u11 :: u12 :: u13 :: u14 :: u15 :: u16 :: u17 :: u18 :: u19 :: u20 :: u21 :: u22 :: u23 :: u24 :: u25 :: u26 :: u27 :: u28 :: u29 :: u30 :: u31 :: u32 :: u33 :: u34 :: u35 :: u36 :: u37 :: u38 :: u39 :: u40 :: u41 :: u42 :: u43 :: u44 :: u45 :: u46 :: u47 :: u48 :: u49 :: u50 :: u51 :: u52 :: u53 :: u54 :: u55 :: u56 :: u57 :: u58 :: u59 :: u60 :: u61 :: u62 :: u63 :: u64 :: u65 :: u66 :: u67 :: u68 :: u69 :: u70 :: u71 :: u72 :: u73 :: u74 :: u75 :: u76 :: u77 :: u78 :: u79 :: u80 :: u81 :: u82 :: u83 :: u84 :: u85 :: u86 :: u87 :: u88 :: u89 :: u90 :: u91 :: u92 :: u93 :: u94 :: u95 :: u96 :: u97 :: u98 :: u99 :: u100 :: u101 :: u102 :: u103 :: u104 :: u105 :: u106 :: u107 :: u108 :: u109 :: u110 :: u111 :: u112 :: u113 :: u114 :: u115 :: u116 :: [])) 8 8 hd hsz (by show 8 + 8 ≤ 117; decide) hk2
    match mid, hmid with
    | n8 :: n9 :: n10 :: n11 :: n12 :: n13 :: n14 :: n15 :: [], _ => exact HQ.out z (val 8) n8 n9 n10 n11 n12 n13 n14 n15 hm hc.bel hc.bx0
end Go.Proofs.YtfcgfnmokbbcaaaDoor.Wr
