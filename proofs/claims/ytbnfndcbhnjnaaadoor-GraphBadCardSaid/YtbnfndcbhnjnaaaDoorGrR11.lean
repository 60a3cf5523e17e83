/-
  broadsidekeep's Graph: one of the other links put in. Conditions: as the theorem states them.
-/
import Derived.Test.YtbnfndcbhnjnaaaDoorBj
import Derived.Test.YtbnfndcbhnjnaaaDoorGrPut
import Derived.Test.YtbnfndcbhnjnaaaDoorBc
namespace Go.Proofs.YtbnfndcbhnjnaaaDoor.Gr
open Go.RowKit Go.Proofs.YtbnfndcbhnjnaaaDoor Go.Proofs.YtbnfndcbhnjnaaaDoor.Rw

theorem call_within (args : Array Value) (w : World) : (callFunc 16 args).run Tryd.prog w = .ok (.enter 16 args) w := call_fn Tryd.func16 rfl rfl args w
theorem call_put (args : Array Value) (w : World) : (callFunc 40 args).run Tryd.prog w = .ok (.enter 40 args) w := call_fn Tryd.func40 rfl rfl args w
noncomputable def graphR11 : Code := ((Tryd.f17.body.bind (findRegion 11)).getD .skip)
set_option maxRecDepth 100000 in
set_option maxHeartbeats 8000000 in
theorem graph_r11 (Q : Exit → Act → World → Prop) (W : World) (w0 gb ib : Nat) (ma : Option Addr) (ml mc : Nat) (j : Nat) (p : Addr) (y n wa wb : Int) (R : World → Prop) (u0 u2 u4 u6 u8 u9 u10 u11 u12 u13 u14 u15 u16 u17 u18 u19 u20 u21 u22 u23 u24 u25 u26 u27 u28 u29 u30 u31 u32 u33 u34 u35 u36 u37 u38 u39 u40 u41 u42 u43 u44 u45 u46 u47 u48 u49 u50 u51 u52 u53 u54 u55 u56 u57 u58 u59 u60 u61 u62 : Value)
    (hk : W.cell? ⟨w0, 2, none⟩ = some (.slice ma ml mc)) (hg : W.cell? ⟨gb, 0, none⟩ = some (.int .i64 n)) (hix : ∀ w, (Instr.indexAt 30 (.slice ma ml mc) (.int .i64 j)).run Tryd.prog w = .ok (.pointer (some p)) w) (hp : W.cell? p = some (.int .i64 y))
    (hn : 1 ≤ n ∧ n ≤ 7) (hy : -9223372036854775808 ≤ y.tdiv 8 ∧ y.tdiv 8 ≤ 9223372036854775807)
    (hWA : ∀ w, Calls Tryd.prog 16 #[.int .i64 y, .int .i64 0, .int .i64 (n - 1)] w fun e w' => e = .returned (.int .i64 wa) ∧ w = w')
    (hWB : ∀ w, Calls Tryd.prog 16 #[.int .i64 (y.tdiv 8), .int .i64 0, .int .i64 (n - 1)] w fun e w' => e = .returned (.int .i64 wb) ∧ w = w')
    (hP : Calls Tryd.prog 40 #[.int .i64 wa, .int .i64 wb, .pointer (some ⟨ib, 0, none⟩), .pointer (some ⟨gb, 0, none⟩)] W.drew fun e w' => e = .returned (.tuple #[]) ∧ R w')
    (hQ : ∀ (w' : World) (v41 v42 v43 v44 v45 v46 v47 v48 v49 v50 v51 v52 v53 v54 v55 v56 v57 v58 v59 v60 v61 : Value), R w' → Q .normal ⟨(u0 :: .pointer (some ⟨w0, 0, none⟩) :: u2 :: .pointer (some ⟨gb, 0, none⟩) :: u4 :: .func (.func 40) #[] #[.pointer (some ⟨ib, 0, none⟩), .pointer (some ⟨gb, 0, none⟩)] :: u6 :: .int .i64 j :: u8 :: u9 :: u10 :: u11 :: u12 :: u13 :: u14 :: u15 :: u16 :: u17 :: u18 :: u19 :: u20 :: u21 :: u22 :: u23 :: u24 :: u25 :: u26 :: u27 :: u28 :: u29 :: u30 :: u31 :: u32 :: u33 :: u34 :: u35 :: u36 :: u37 :: u38 :: u39 :: u40 :: v41 :: v42 :: v43 :: v44 :: v45 :: v46 :: v47 :: v48 :: v49 :: v50 :: v51 :: v52 :: v53 :: v54 :: v55 :: v56 :: v57 :: v58 :: v59 :: v60 :: v61 :: u62 :: []).toArray, []⟩ w') :
    Code.wp Tryd.prog graphR11 Q ⟨(u0 :: .pointer (some ⟨w0, 0, none⟩) :: u2 :: .pointer (some ⟨gb, 0, none⟩) :: u4 :: .func (.func 40) #[] #[.pointer (some ⟨ib, 0, none⟩), .pointer (some ⟨gb, 0, none⟩)] :: u6 :: .int .i64 j :: u8 :: u9 :: u10 :: u11 :: u12 :: u13 :: u14 :: u15 :: u16 :: u17 :: u18 :: u19 :: u20 :: u21 :: u22 :: u23 :: u24 :: u25 :: u26 :: u27 :: u28 :: u29 :: u30 :: u31 :: u32 :: u33 :: u34 :: u35 :: u36 :: u37 :: u38 :: u39 :: u40 :: u41 :: u42 :: u43 :: u44 :: u45 :: u46 :: u47 :: u48 :: u49 :: u50 :: u51 :: u52 :: u53 :: u54 :: u55 :: u56 :: u57 :: u58 :: u59 :: u60 :: u61 :: u62 :: []).toArray, []⟩ W := by
  have HQ := Lib.hid hQ
  clear hQ
  have hwn : IntKind.i64.wrap (n - 1) = n - 1 := IntWalk.i64_in _ (by omega)
  have hwz : IntKind.i64.wrap (y.tdiv 8) = y.tdiv 8 := IntWalk.i64_in _ (by omega)
  change Code.wp Tryd.prog graphR11 Q ⟨_, []⟩ W
  unfold graphR11
  conv => arg 2; whnf
  refine Rg.region_vals 41 20 [.func (.func 40) #[] #[.pointer (some ⟨ib, 0, none⟩), .pointer (some ⟨gb, 0, none⟩)], .pointer (some ⟨w0, 2, none⟩), .slice ma ml mc, .int .i64 j, .pointer (some p), .int .i64 y, .pointer (some ⟨gb, 0, none⟩), .int .i64 n, .int .i64 (n - 1), .int .i64 wa, .pointer (some ⟨w0, 2, none⟩), .slice ma ml mc, .int .i64 j, .pointer (some p), .int .i64 y, .int .i64 (y.tdiv 8), .pointer (some ⟨gb, 0, none⟩), .int .i64 n, .int .i64 (n - 1), .int .i64 wb, .tuple #[]] R (by kernel_rfl) (by kernel_rfl) (by kernel_rfl) rfl rfl ?_ ?_ ?_ ?_
  · simp
  · intro i o v hi ho hv a seen K hK
    clear HQ
    have u1e : a.eval (.tmp 1) = .pointer (some ⟨w0, 0, none⟩) := seen.kp 1 _ (by decide) rfl
    have u3e : a.eval (.tmp 3) = .pointer (some ⟨gb, 0, none⟩) := seen.kp 3 _ (by decide) rfl
    have u5e : a.eval (.tmp 5) = .func (.func 40) #[] #[.pointer (some ⟨ib, 0, none⟩), .pointer (some ⟨gb, 0, none⟩)] := seen.kp 5 _ (by decide) rfl
    have u7e : a.eval (.tmp 7) = .int .i64 j := seen.kp 7 _ (by decide) rfl
    rcases (by omega : i = 0 ∨ i = 1 ∨ i = 2 ∨ i = 3 ∨ i = 4 ∨ i = 5 ∨ i = 6 ∨ i = 7 ∨ i = 8 ∨ i = 9 ∨ i = 10 ∨ i = 11 ∨ i = 12 ∨ i = 13 ∨ i = 14 ∨ i = 15 ∨ i = 16 ∨ i = 17 ∨ i = 18 ∨ i = 19) with rfl | rfl | rfl | rfl | rfl | rfl | rfl | rfl | rfl | rfl | rfl | rfl | rfl | rfl | rfl | rfl | rfl | rfl | rfl | rfl
    · obtain rfl := Option.some.inj ho
      obtain rfl := Option.some.inj hv
      exact Rg.op_value rfl rfl (by simp [execOp, u5e]) hK
    · obtain rfl := Option.some.inj ho
      obtain rfl := Option.some.inj hv
      exact Rg.op_value rfl rfl (Rg.ex_field a.eval _ 39 (.tmp 1) 2 rfl (by rw [u1e]; simp [go_sem])) hK
    · obtain rfl := Option.some.inj ho
      obtain rfl := Option.some.inj hv
      have e0 : a.eval (.tmp 42) = .pointer (some ⟨w0, 2, none⟩) := seen.at_ ⟨1, .data⟩ (by simp) rfl _ rfl
      exact Rg.op_value rfl rfl (Rg.ex_load a.eval _ 30 (.tmp 42) rfl (by rw [e0]; simp [go_sem, hk])) hK
    · obtain rfl := Option.some.inj ho
      obtain rfl := Option.some.inj hv
      exact Rg.op_value rfl rfl (by simp [execOp, u7e]) hK
    · obtain rfl := Option.some.inj ho
      obtain rfl := Option.some.inj hv
      have e0 : a.eval (.tmp 43) = .slice ma ml mc := seen.at_ ⟨2, .data⟩ (by simp) rfl _ rfl
      have e1 : a.eval (.tmp 44) = .int .i64 j := seen.at_ ⟨3, .data⟩ (by simp) rfl _ rfl
      exact Rg.op_value rfl rfl (Rg.ex_index a.eval _ 30 (.tmp 43) (.tmp 44) rfl (by rw [e0, e1]; exact hix _)) hK
    · obtain rfl := Option.some.inj ho
      obtain rfl := Option.some.inj hv
      have e0 : a.eval (.tmp 45) = .pointer (some p) := seen.at_ ⟨4, .data⟩ (by simp) rfl _ rfl
      exact Rg.op_value rfl rfl (Rg.ex_load a.eval _ 3 (.tmp 45) rfl (by rw [e0]; simp [go_sem, hp])) hK
    · obtain rfl := Option.some.inj ho
      obtain rfl := Option.some.inj hv
      exact Rg.op_value rfl rfl (Rg.ex_field a.eval _ 25 (.tmp 3) 0 rfl (by rw [u3e]; simp [go_sem])) hK
    · obtain rfl := Option.some.inj ho
      obtain rfl := Option.some.inj hv
      have e0 : a.eval (.tmp 47) = .pointer (some ⟨gb, 0, none⟩) := seen.at_ ⟨6, .data⟩ (by simp) rfl _ rfl
      exact Rg.op_value rfl rfl (Rg.ex_load a.eval _ 3 (.tmp 47) rfl (by rw [e0]; simp [go_sem, hg])) hK
    · obtain rfl := Option.some.inj ho
      obtain rfl := Option.some.inj hv
      have e0 : a.eval (.tmp 48) = .int .i64 n := seen.at_ ⟨7, .data⟩ (by simp) rfl _ rfl
      exact Rg.op_value rfl rfl (Rg.ex_bin a.eval _ .sub 3 (.tmp 48) (.const (.int .i64 1)) 3 rfl (by rw [e0]; show (do eqGuard .sub 3 (.tmp 48) (.const (.int .i64 1)) _ (.int .i64 1); binOp .sub 3 _ (.int .i64 1) : Sem Value).run Tryd.prog _ = _; simp [go_sem, hwn])) hK
    · obtain rfl := Option.some.inj ho
      obtain rfl := Option.some.inj hv
      have e0 : a.eval (.tmp 46) = .int .i64 y := seen.at_ ⟨5, .data⟩ (by simp) rfl _ rfl
      have e1 : a.eval (.tmp 49) = .int .i64 (n - 1) := seen.at_ ⟨8, .data⟩ (by simp) rfl _ rfl
      exact Rg.op_call rfl rfl (Rg.ex_call3 _ _ (.tmp 46) (.const (.int .i64 0)) (.tmp 49) 3 16 rfl e0 rfl e1 rfl _ (call_within _ _)) (hWA _) (fun e w' h => ⟨_, h.1, by rw [← h.2]; exact hK⟩)
    · obtain rfl := Option.some.inj ho
      obtain rfl := Option.some.inj hv
      exact Rg.op_value rfl rfl (Rg.ex_field a.eval _ 39 (.tmp 1) 2 rfl (by rw [u1e]; simp [go_sem])) hK
    · obtain rfl := Option.some.inj ho
      obtain rfl := Option.some.inj hv
      have e0 : a.eval (.tmp 51) = .pointer (some ⟨w0, 2, none⟩) := seen.at_ ⟨10, .data⟩ (by simp) rfl _ rfl
      exact Rg.op_value rfl rfl (Rg.ex_load a.eval _ 30 (.tmp 51) rfl (by rw [e0]; simp [go_sem, hk])) hK
    · obtain rfl := Option.some.inj ho
      obtain rfl := Option.some.inj hv
      exact Rg.op_value rfl rfl (by simp [execOp, u7e]) hK
    · obtain rfl := Option.some.inj ho
      obtain rfl := Option.some.inj hv
      have e0 : a.eval (.tmp 52) = .slice ma ml mc := seen.at_ ⟨11, .data⟩ (by simp) rfl _ rfl
      have e1 : a.eval (.tmp 53) = .int .i64 j := seen.at_ ⟨12, .data⟩ (by simp) rfl _ rfl
      exact Rg.op_value rfl rfl (Rg.ex_index a.eval _ 30 (.tmp 52) (.tmp 53) rfl (by rw [e0, e1]; exact hix _)) hK
    · obtain rfl := Option.some.inj ho
      obtain rfl := Option.some.inj hv
      have e0 : a.eval (.tmp 54) = .pointer (some p) := seen.at_ ⟨13, .data⟩ (by simp) rfl _ rfl
      exact Rg.op_value rfl rfl (Rg.ex_load a.eval _ 3 (.tmp 54) rfl (by rw [e0]; simp [go_sem, hp])) hK
    · obtain rfl := Option.some.inj ho
      obtain rfl := Option.some.inj hv
      have e0 : a.eval (.tmp 55) = .int .i64 y := seen.at_ ⟨14, .data⟩ (by simp) rfl _ rfl
      exact Rg.op_value rfl rfl (Rg.ex_bin a.eval _ .quo 3 (.tmp 55) (.const (.int .i64 8)) 3 rfl (by rw [e0]; show (do eqGuard .quo 3 (.tmp 55) (.const (.int .i64 8)) _ (.int .i64 8); binOp .quo 3 _ (.int .i64 8) : Sem Value).run Tryd.prog _ = _; simp [go_sem, hwz])) hK
    · obtain rfl := Option.some.inj ho
      obtain rfl := Option.some.inj hv
      exact Rg.op_value rfl rfl (Rg.ex_field a.eval _ 25 (.tmp 3) 0 rfl (by rw [u3e]; simp [go_sem])) hK
    · obtain rfl := Option.some.inj ho
      obtain rfl := Option.some.inj hv
      have e0 : a.eval (.tmp 57) = .pointer (some ⟨gb, 0, none⟩) := seen.at_ ⟨16, .data⟩ (by simp) rfl _ rfl
      exact Rg.op_value rfl rfl (Rg.ex_load a.eval _ 3 (.tmp 57) rfl (by rw [e0]; simp [go_sem, hg])) hK
    · obtain rfl := Option.some.inj ho
      obtain rfl := Option.some.inj hv
      have e0 : a.eval (.tmp 58) = .int .i64 n := seen.at_ ⟨17, .data⟩ (by simp) rfl _ rfl
      exact Rg.op_value rfl rfl (Rg.ex_bin a.eval _ .sub 3 (.tmp 58) (.const (.int .i64 1)) 3 rfl (by rw [e0]; show (do eqGuard .sub 3 (.tmp 58) (.const (.int .i64 1)) _ (.int .i64 1); binOp .sub 3 _ (.int .i64 1) : Sem Value).run Tryd.prog _ = _; simp [go_sem, hwn])) hK
    · obtain rfl := Option.some.inj ho
      obtain rfl := Option.some.inj hv
      have e0 : a.eval (.tmp 56) = .int .i64 (y.tdiv 8) := seen.at_ ⟨15, .data⟩ (by simp) rfl _ rfl
      have e1 : a.eval (.tmp 59) = .int .i64 (n - 1) := seen.at_ ⟨18, .data⟩ (by simp) rfl _ rfl
      exact Rg.op_call rfl rfl (Rg.ex_call3 _ _ (.tmp 56) (.const (.int .i64 0)) (.tmp 59) 3 16 rfl e0 rfl e1 rfl _ (call_within _ _)) (hWB _) (fun e w' h => ⟨_, h.1, by rw [← h.2]; exact hK⟩)
  · intro o v ho hv a seen K hK
    obtain rfl := Option.some.inj ho
    obtain rfl := Option.some.inj hv
    have e0 : a.eval (.tmp 41) = .func (.func 40) #[] #[.pointer (some ⟨ib, 0, none⟩), .pointer (some ⟨gb, 0, none⟩)] := seen.at_ ⟨0, .data⟩ (by simp) rfl _ rfl
    have e1 : a.eval (.tmp 50) = .int .i64 wa := seen.at_ ⟨9, .data⟩ (by simp) rfl _ rfl
    have e2 : a.eval (.tmp 60) = .int .i64 wb := seen.at_ ⟨19, .data⟩ (by simp) rfl _ rfl
    exact Rg.op_call rfl rfl (Rg.ex_callv2 _ _ (.tmp 41) (.tmp 50) (.tmp 60) 3 3 40 _ _ rfl e1 e2 e0 _ (call_put _ _)) hP (fun e w' h => ⟨_, h.1, hK w' h.2⟩)
  · intro a w' h1 h2 h3 h4 hR
    obtain ⟨mid, hm, rfl⟩ := Rg.frame_mid (bl := (u0 :: .pointer (some ⟨w0, 0, none⟩) :: u2 :: .pointer (some ⟨gb, 0, none⟩) :: u4 :: .func (.func 40) #[] #[.pointer (some ⟨ib, 0, none⟩), .pointer (some ⟨gb, 0, none⟩)] :: u6 :: .int .i64 j :: u8 :: u9 :: u10 :: u11 :: u12 :: u13 :: u14 :: u15 :: u16 :: u17 :: u18 :: u19 :: u20 :: u21 :: u22 :: u23 :: u24 :: u25 :: u26 :: u27 :: u28 :: u29 :: u30 :: u31 :: u32 :: u33 :: u34 :: u35 :: u36 :: u37 :: u38 :: u39 :: u40 :: u41 :: u42 :: u43 :: u44 :: u45 :: u46 :: u47 :: u48 :: u49 :: u50 :: u51 :: u52 :: u53 :: u54 :: u55 :: u56 :: u57 :: u58 :: u59 :: u60 :: u61 :: u62 :: [])) 41 21 h1 (by rw [h2]; rfl) (by simp) (fun j hj => by rw [h3 j hj]; exact List.getElem?_toArray)
    match mid, hm with
    | [v41, v42, v43, v44, v45, v46, v47, v48, v49, v50, v51, v52, v53, v54, v55, v56, v57, v58, v59, v60, v61], _ => exact HQ.out w' v41 v42 v43 v44 v45 v46 v47 v48 v49 v50 v51 v52 v53 v54 v55 v56 v57 v58 v59 v60 v61 hR
end Go.Proofs.YtbnfndcbhnjnaaaDoor.Gr
