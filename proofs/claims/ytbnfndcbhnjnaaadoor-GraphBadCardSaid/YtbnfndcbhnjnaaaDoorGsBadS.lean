/-
  GraphBad's two regions that make a variable: the first bad graph, one link of the good one. Conditions: as each theorem states them.
-/
import Derived.Test.YtbnfndcbhnjnaaaDoorGsBadC
import Derived.Test.YtbnfndcbhnjnaaaDoorGsBase
import Derived.Test.YtbnfndcbhnjnaaaDoorGrR11
import Derived.Test.YtbnfndcbhnjnaaaDoorRgB
namespace Go.Proofs.YtbnfndcbhnjnaaaDoor.Rg
open Go.RowKit
theorem ex_callv1 {P : Program} (ρ : Operand → Value) (o : Oper) (c x : Operand) (t : TypeId) (f : FuncId) (p q : Value) (ho : o.op = .call { callee := .value c, args := #[x], argTypes := #[t] }) {v : Value} (hx : ρ x = v) (hc : ρ c = .func (.func f) #[] #[p, q]) (w : World)
    (hcall : (callFunc f #[v, p, q]).run P w = .ok (.enter f #[v, p, q]) w) : (execOp ρ o).run P w = .ok (.enter f #[v, p, q]) w := by
  simp [execOp, ho, resolve, invoke, hx, hc, Deferred.ofValue, hcall]
end Go.Proofs.YtbnfndcbhnjnaaaDoor.Rg
namespace Go.Proofs.YtbnfndcbhnjnaaaDoor.Gr
open Go.RowKit Go.Sort Go.Proofs.YtbnfndcbhnjnaaaDoor Go.Proofs.YtbnfndcbhnjnaaaDoor.Rw Go.Proofs.YtbnfndcbhnjnaaaDoor.Wi

def cofV : Value → Array Value
  | .agg cs => cs
  | _ => #[]
theorem call_badput (args : Array Value) (w : World) : (callFunc 21 args).run Tryd.prog w = .ok (.enter 21 args) w := call_fn Tryd.func21 rfl rfl args w
noncomputable def badR6 : Code := ((Tryd.f6.body.bind (findRegion 6)).getD .skip)
set_option maxRecDepth 100000 in
set_option maxHeartbeats 8000000 in
theorem bad_r6 (Q : Exit → Act → World → Prop) (W : World) (gb ib : Nat) (vi i n : Int) (ls : List Lk) (u0 u1 u2 u3 u4 u5 u6 u7 u8 u9 u10 u14 u15 u16 u17 u18 u19 u20 u21 u22 u23 u24 u25 u26 u27 u28 u29 u30 u31 u32 u33 u34 u35 u36 u37 u38 u39 u40 u41 u42 u43 u44 u45 u46 u47 u48 u49 u50 u51 u52 u53 u54 u55 u56 u57 u58 u59 u60 u61 u62 u63 u64 u65 u66 u67 u68 u69 u70 u71 u72 u73 u74 u75 u76 u77 u78 u79 u80 u81 u82 u83 u84 u85 u86 u87 u88 u89 u90 u91 u92 u93 u94 u95 u96 u97 u98 u99 u100 u101 u102 u103 u104 u105 u106 : Value)
    (hi : ∀ x, Below W.heap.size W x → x.cell? ⟨ib, 0, none⟩ = some (.int .i64 i))
    (hC : ∀ x, Below W.heap.size W x → Calls Tryd.prog 21 #[kv (vi, vi), .pointer (some ⟨gb, 0, none⟩), .pointer (some ⟨ib, 0, none⟩)] x fun e w' => (∃ g k c, e = .returned (gv n (.slice (some ⟨g, 0, none⟩) k c)) ∧ OwnK w' W.heap.size (.slice (some ⟨g, 0, none⟩) k c) ls ∧ k = ls.length) ∧ Below x.heap.size x w')
    (hQ : ∀ (x : World) (bb g k c : Nat) (v16 v17 v18 v19 v20 v21 v22 v23 v24 v25 v26 v27 v28 v29 v30 v31 v32 v33 v34 v35 v36 v37 : Value), Box x bb #[.int .i64 n, .slice (some ⟨g, 0, none⟩) k c] 25 → OwnK x W.heap.size (.slice (some ⟨g, 0, none⟩) k c) ls → k = ls.length → W.heap.size ≤ bb → Below W.heap.size W x → Q .normal ⟨(u0 :: u1 :: u2 :: u3 :: u4 :: u5 :: u6 :: u7 :: u8 :: u9 :: u10 :: .pointer (some ⟨ib, 0, none⟩) :: .int .i64 vi :: .func (.func 21) #[] #[.pointer (some ⟨gb, 0, none⟩), .pointer (some ⟨ib, 0, none⟩)] :: .pointer (some ⟨bb, 0, none⟩) :: .int .i64 i :: v16 :: v17 :: v18 :: v19 :: v20 :: v21 :: v22 :: v23 :: v24 :: v25 :: v26 :: v27 :: v28 :: v29 :: v30 :: v31 :: v32 :: v33 :: v34 :: v35 :: v36 :: v37 :: u38 :: u39 :: u40 :: u41 :: u42 :: u43 :: u44 :: u45 :: u46 :: u47 :: u48 :: u49 :: u50 :: u51 :: u52 :: u53 :: u54 :: u55 :: u56 :: u57 :: u58 :: u59 :: u60 :: u61 :: u62 :: u63 :: u64 :: u65 :: u66 :: u67 :: u68 :: u69 :: u70 :: u71 :: u72 :: u73 :: u74 :: u75 :: u76 :: u77 :: u78 :: u79 :: u80 :: u81 :: u82 :: u83 :: u84 :: u85 :: u86 :: u87 :: u88 :: u89 :: u90 :: u91 :: u92 :: u93 :: u94 :: u95 :: u96 :: u97 :: u98 :: u99 :: u100 :: u101 :: u102 :: u103 :: u104 :: u105 :: u106 :: []).toArray, []⟩ x) :
    Code.wp Tryd.prog badR6 Q ⟨(u0 :: u1 :: u2 :: u3 :: u4 :: u5 :: u6 :: u7 :: u8 :: u9 :: u10 :: .pointer (some ⟨ib, 0, none⟩) :: .int .i64 vi :: .func (.func 21) #[] #[.pointer (some ⟨gb, 0, none⟩), .pointer (some ⟨ib, 0, none⟩)] :: u14 :: u15 :: u16 :: u17 :: u18 :: u19 :: u20 :: u21 :: u22 :: u23 :: u24 :: u25 :: u26 :: u27 :: u28 :: u29 :: u30 :: u31 :: u32 :: u33 :: u34 :: u35 :: u36 :: u37 :: u38 :: u39 :: u40 :: u41 :: u42 :: u43 :: u44 :: u45 :: u46 :: u47 :: u48 :: u49 :: u50 :: u51 :: u52 :: u53 :: u54 :: u55 :: u56 :: u57 :: u58 :: u59 :: u60 :: u61 :: u62 :: u63 :: u64 :: u65 :: u66 :: u67 :: u68 :: u69 :: u70 :: u71 :: u72 :: u73 :: u74 :: u75 :: u76 :: u77 :: u78 :: u79 :: u80 :: u81 :: u82 :: u83 :: u84 :: u85 :: u86 :: u87 :: u88 :: u89 :: u90 :: u91 :: u92 :: u93 :: u94 :: u95 :: u96 :: u97 :: u98 :: u99 :: u100 :: u101 :: u102 :: u103 :: u104 :: u105 :: u106 :: []).toArray, []⟩ W := by
  have HQ := Lib.hid hQ
  clear hQ
  change Code.wp Tryd.prog badR6 Q ⟨_, []⟩ W
  unfold badR6
  conv => arg 2; whnf
  obtain ⟨d, hd⟩ : ∃ d : Nat → Nat, d = fun | 0 => 32 | 1 => 33 | 2 => 34 | 3 => 35 | 4 => 36 | 5 => 37 | 6 => 14 | 7 => 32 | _ => 15 := ⟨_, rfl⟩
  obtain ⟨cv, hcv⟩ : ∃ cv : Nat → Option Value, cv = fun | 0 => some (.func (.func 21) #[] #[.pointer (some ⟨gb, 0, none⟩), .pointer (some ⟨ib, 0, none⟩)]) | 1 => some (.int .i64 vi) | 2 => some (.int .i64 vi) | 3 => some (kv (vi, vi)) | 4 => none | 5 => some (.int .i64 i) | 6 => none | 7 => none | _ => some (.int .i64 i) := ⟨_, rfl⟩
  have nd : ∀ j, (j < 14 ∨ 38 ≤ j) → ∀ i, i < 9 → d i ≠ j := by
    rw [hd]
    intro j hj i hi
    rcases (by omega : i = 0 ∨ i = 1 ∨ i = 2 ∨ i = 3 ∨ i = 4 ∨ i = 5 ∨ i = 6 ∨ i = 7 ∨ i = 8) with rfl | rfl | rfl | rfl | rfl | rfl | rfl | rfl | rfl <;> simp <;> omega
  refine Rg.region_box 9 6 7 4 d cv (fun u x => ∃ g k c, u = gv n (.slice (some ⟨g, 0, none⟩) k c) ∧ OwnK x W.heap.size (.slice (some ⟨g, 0, none⟩) k c) ls ∧ k = ls.length) 25 #[.int .i64 0, .slice none 0 0] cofV (by kernel_rfl) (by kernel_rfl) rfl (by decide) (by decide) (by decide) (by decide) (by decide) (by decide) (congrFun hcv 6) (congrFun hcv 4) (congrFun hcv 7) ?_ ?_ ?_ ?_ ?_ ?_ ?_ ?_ ?_ ?_
  · subst hd
    intro i j hi hj hiS hjS h
    rcases (by omega : i = 0 ∨ i = 1 ∨ i = 2 ∨ i = 3 ∨ i = 4 ∨ i = 5 ∨ i = 6 ∨ i = 8) with rfl | rfl | rfl | rfl | rfl | rfl | rfl | rfl <;> rcases (by omega : j = 0 ∨ j = 1 ∨ j = 2 ∨ j = 3 ∨ j = 4 ∨ j = 5 ∨ j = 6 ∨ j = 8) with rfl | rfl | rfl | rfl | rfl | rfl | rfl | rfl <;> simp at h ⊢
  · subst hd
    intro i hi
    rcases (by omega : i = 0 ∨ i = 1 ∨ i = 2 ∨ i = 3 ∨ i = 4 ∨ i = 5 ∨ i = 6 ∨ i = 7 ∨ i = 8) with rfl | rfl | rfl | rfl | rfl | rfl | rfl | rfl | rfl <;> simp
  · subst hcv
    intro i hi h1 h2 h3
    rcases (by omega : i = 0 ∨ i = 1 ∨ i = 2 ∨ i = 3 ∨ i = 5 ∨ i = 8) with rfl | rfl | rfl | rfl | rfl | rfl <;> exact ⟨_, rfl⟩
  · rintro v x x' ⟨g, k, c, h1, h2, h3⟩ hb
    exact ⟨g, k, c, h1, own_on h2 hb, h3⟩
  · intro o ho
    obtain rfl := Option.some.inj ho
    exact ⟨⟨⟨6, .data⟩, by simp, rfl, rfl⟩, ⟨4, .data⟩, by simp, rfl, rfl⟩
  · subst hd hcv
    intro i o v hiN h1 h2 h3 ho hv a x hb seen K hK
    clear HQ
    have u11e : a.eval (.tmp 11) = .pointer (some ⟨ib, 0, none⟩) := seen.kp 11 _ (nd 11 (by omega)) rfl
    have u12e : a.eval (.tmp 12) = .int .i64 vi := seen.kp 12 _ (nd 12 (by omega)) rfl
    have u13e : a.eval (.tmp 13) = .func (.func 21) #[] #[.pointer (some ⟨gb, 0, none⟩), .pointer (some ⟨ib, 0, none⟩)] := seen.kp 13 _ (nd 13 (by omega)) rfl
    rcases (by omega : i = 0 ∨ i = 1 ∨ i = 2 ∨ i = 3 ∨ i = 5 ∨ i = 8) with rfl | rfl | rfl | rfl | rfl | rfl
    · obtain rfl := Option.some.inj ho
      obtain rfl := Option.some.inj hv
      exact Rg.op_value rfl rfl (by simp [execOp, u13e]) hK
    · obtain rfl := Option.some.inj ho
      obtain rfl := Option.some.inj hv
      exact Rg.op_value rfl rfl (by simp [execOp, u12e]) hK
    · obtain rfl := Option.some.inj ho
      obtain rfl := Option.some.inj hv
      exact Rg.op_value rfl rfl (by simp [execOp, u12e]) hK
    · obtain rfl := Option.some.inj ho
      obtain rfl := Option.some.inj hv
      have e0 : a.eval (.tmp 33) = _ := seen.at_ ⟨1, .data⟩ (by simp) rfl _ rfl
      have e1 : a.eval (.tmp 34) = _ := seen.at_ ⟨2, .data⟩ (by simp) rfl _ rfl
      exact Rg.op_value rfl rfl (Rg.ex_buildS a.eval _ 22 #[(0, .tmp 33), (1, .tmp 34)] rfl (by simp only [List.map_toArray, List.map_cons, List.map_nil, e0, e1]; rfl) (by simp [go_sem])) hK
    · obtain rfl := Option.some.inj ho
      obtain rfl := Option.some.inj hv
      have y := hi x hb
      exact Rg.op_value rfl rfl (Rg.ex_load a.eval _ 3 (.tmp 11) rfl (by rw [u11e]; simp [go_sem, y])) hK
    · obtain rfl := Option.some.inj ho
      obtain rfl := Option.some.inj hv
      have e0 : a.eval (.tmp 37) = _ := seen.at_ ⟨5, .data⟩ (by simp) rfl _ rfl
      exact Rg.op_value rfl rfl (by simp [execOp, e0]) hK
  · subst hd hcv
    intro o ho a x hb seen K hK
    clear HQ
    obtain rfl := Option.some.inj ho
    have e0 : a.eval (.tmp 32) = _ := seen.at_ ⟨0, .data⟩ (by simp) rfl _ rfl
    have e1 : a.eval (.tmp 35) = _ := seen.at_ ⟨3, .data⟩ (by simp) rfl _ rfl
    exact Rg.op_call rfl rfl (Rg.ex_callv1 _ _ (.tmp 32) (.tmp 35) 22 21 _ _ rfl e1 e0 _ (call_badput _ _)) (hC x hb) (fun e w1 h => by
      obtain ⟨⟨g, k, c, rfl, hR⟩, hb1⟩ := h
      exact ⟨_, rfl, hK _ _ ⟨g, k, c, rfl, hR⟩ hb1⟩)
  · subst hd
    intro o ho a x K hK
    obtain rfl := Option.some.inj ho
    exact Rg.op_value rfl rfl (by simp [execOp, go_sem]) hK
  · subst hd
    intro o ho a x bb v hb e0 e1 hv hbb hx K hK
    clear HQ
    obtain rfl := Option.some.inj ho
    obtain ⟨g, k, c, rfl, hR⟩ := hv
    have c0 := hx.cell 0
    have c1 := hx.cell 1
    have f0 := hx.fr 0
    have f1 := hx.fr 1
    simp only [List.getElem?_toArray, List.getElem?_cons_zero, List.getElem?_cons_succ] at c0 c1
    have x2 := heap_setCell_same x bb 0 #[.int .i64 0, .slice none 0 0] 25 (.int .i64 n) hx
    have x3 := heap_setCell_same _ bb 1 _ 25 (.slice (some ⟨g, 0, none⟩) k c) x2
    have ne := own_ne hR.1 hx (by decide)
    refine Rg.op_skip rfl rfl (Rg.ex_store a.eval _ 25 (.tmp 14) (.tmp 36) rfl (w' := (x.setCell ⟨bb, 0, none⟩ (.int .i64 n)).setCell ⟨bb, 1, none⟩ (.slice (some ⟨g, 0, none⟩) k c)) (by
      have e0' : a.eval (.tmp 14) = .pointer (some ⟨bb, 0, none⟩) := e0
      have e1' : a.eval (.tmp 36) = gv n (.slice (some ⟨g, 0, none⟩) k c) := e1
      rw [e0', e1']
      simp [go_sem, c0, c1, f0, f1])) (hK _ ((hb.setCell hbb _).setCell hbb _) x3 ⟨g, k, c, rfl, ownsRow_setCell_other (ownsRow_setCell_other hR.1 ne _) ne _, hR.2⟩)
  · subst hd
    intro a x bb v h1 h2 h3 h4 h5 h6 h7 hb h8
    obtain ⟨mid, hm, rfl⟩ := Rg.frame_mid (bl := (u0 :: u1 :: u2 :: u3 :: u4 :: u5 :: u6 :: u7 :: u8 :: u9 :: u10 :: .pointer (some ⟨ib, 0, none⟩) :: .int .i64 vi :: .func (.func 21) #[] #[.pointer (some ⟨gb, 0, none⟩), .pointer (some ⟨ib, 0, none⟩)] :: u14 :: u15 :: u16 :: u17 :: u18 :: u19 :: u20 :: u21 :: u22 :: u23 :: u24 :: u25 :: u26 :: u27 :: u28 :: u29 :: u30 :: u31 :: u32 :: u33 :: u34 :: u35 :: u36 :: u37 :: u38 :: u39 :: u40 :: u41 :: u42 :: u43 :: u44 :: u45 :: u46 :: u47 :: u48 :: u49 :: u50 :: u51 :: u52 :: u53 :: u54 :: u55 :: u56 :: u57 :: u58 :: u59 :: u60 :: u61 :: u62 :: u63 :: u64 :: u65 :: u66 :: u67 :: u68 :: u69 :: u70 :: u71 :: u72 :: u73 :: u74 :: u75 :: u76 :: u77 :: u78 :: u79 :: u80 :: u81 :: u82 :: u83 :: u84 :: u85 :: u86 :: u87 :: u88 :: u89 :: u90 :: u91 :: u92 :: u93 :: u94 :: u95 :: u96 :: u97 :: u98 :: u99 :: u100 :: u101 :: u102 :: u103 :: u104 :: u105 :: u106 :: [])) 14 24 h1 (by rw [h2]; rfl) (by simp) (fun j hj => by rw [h3 j (nd j hj)]; exact List.getElem?_toArray)
    match mid, hm with
    | v14 :: v15 :: v16 :: v17 :: v18 :: v19 :: v20 :: v21 :: v22 :: v23 :: v24 :: v25 :: v26 :: v27 :: v28 :: v29 :: v30 :: v31 :: v32 :: v33 :: v34 :: v35 :: v36 :: v37 :: [], _ =>
      obtain rfl : v14 = _ := Option.some.inj h4
      obtain rfl : v15 = _ := Option.some.inj (h8 8 (.int .i64 i) (by decide) (by decide) (congrFun hcv 8))
      obtain ⟨g, k, c, rfl, hR⟩ := h7
      exact HQ.out x bb g k c v16 v17 v18 v19 v20 v21 v22 v23 v24 v25 v26 v27 v28 v29 v30 v31 v32 v33 v34 v35 v36 v37 h6 hR.1 hR.2 h5 hb
noncomputable def badR14 : Code := ((Tryd.f6.body.bind (findRegion 14)).getD .skip)
set_option maxRecDepth 100000 in
set_option maxHeartbeats 8000000 in
theorem bad_r14 (Q : Exit → Act → World → Prop) (W : World) (gb m j : Nat) (ai : Int) (z : Lk) (p : Addr) (lo : Option Addr) (lc : Nat) (u0 u1 u2 u4 u5 u6 u7 u8 u11 u12 u13 u14 u15 u16 u17 u18 u19 u20 u21 u22 u23 u24 u25 u26 u27 u28 u29 u30 u31 u32 u33 u34 u35 u36 u37 u38 u39 u40 u41 u42 u43 u44 u45 u46 u47 u48 u49 u50 u51 u52 u53 u54 u55 u56 u57 u58 u59 u60 u61 u62 u63 u64 u65 u66 u67 u68 u69 u70 u71 u72 u73 u74 u75 u76 u77 u78 u79 u80 u81 u82 u83 u84 u85 u86 u87 u88 u89 u90 u91 u92 u93 u94 u95 u96 u97 u98 u99 u100 u101 u102 u103 u104 u105 u106 : Value)
    (hg : ∀ x, Below W.heap.size W x → x.cell? ⟨gb, 1, none⟩ = some (.slice lo m lc)) (hix : ∀ w, (Instr.indexAt 23 (.slice lo m lc) (.int .i64 j)).run Tryd.prog w = .ok (.pointer (some p)) w) (hp : ∀ x, Below W.heap.size W x → ∀ j u, (cells2 z)[j]? = some u → x.cell? (p.add j) = some u) (hm : 1 ≤ m ∧ m ≤ 1000)
    (hW : ∀ w, Calls Tryd.prog 16 #[.int .i64 ai, .int .i64 0, .int .i64 ((m : Int) - 1)] w fun e w' => e = .returned (.int .i64 j) ∧ w = w')
    (hQ : ∀ (x : World) (bb : Nat) (v17 v18 v19 v20 v21 v22 v23 v24 v25 v26 v27 v28 v29 v30 v31 v32 v33 v34 v35 v36 v37 v38 v39 v40 v41 v42 v43 v44 v45 v46 v47 v48 v49 v50 v51 v52 v53 v54 v55 v56 v57 v58 v59 v60 v61 v62 : Value), Box x bb #[.int .i64 z.1, .int .i64 z.2] 22 → W.heap.size ≤ bb → Below W.heap.size W x → Q .normal ⟨(u0 :: u1 :: u2 :: .int .i64 ai :: u4 :: u5 :: u6 :: u7 :: u8 :: .pointer (some ⟨gb, 0, none⟩) :: .int .i64 m :: u11 :: u12 :: u13 :: u14 :: u15 :: .pointer (some ⟨bb, 0, none⟩) :: v17 :: v18 :: v19 :: v20 :: v21 :: v22 :: v23 :: v24 :: v25 :: v26 :: v27 :: v28 :: v29 :: v30 :: v31 :: v32 :: v33 :: v34 :: v35 :: v36 :: v37 :: v38 :: v39 :: v40 :: v41 :: v42 :: v43 :: v44 :: v45 :: v46 :: v47 :: v48 :: v49 :: v50 :: v51 :: v52 :: v53 :: v54 :: v55 :: v56 :: v57 :: v58 :: v59 :: v60 :: v61 :: v62 :: u63 :: u64 :: u65 :: u66 :: u67 :: u68 :: u69 :: u70 :: u71 :: u72 :: u73 :: u74 :: u75 :: u76 :: u77 :: u78 :: u79 :: u80 :: u81 :: u82 :: u83 :: u84 :: u85 :: u86 :: u87 :: u88 :: u89 :: u90 :: u91 :: u92 :: u93 :: u94 :: u95 :: u96 :: u97 :: u98 :: u99 :: u100 :: u101 :: u102 :: u103 :: u104 :: u105 :: u106 :: []).toArray, []⟩ x) :
    Code.wp Tryd.prog badR14 Q ⟨(u0 :: u1 :: u2 :: .int .i64 ai :: u4 :: u5 :: u6 :: u7 :: u8 :: .pointer (some ⟨gb, 0, none⟩) :: .int .i64 m :: u11 :: u12 :: u13 :: u14 :: u15 :: u16 :: u17 :: u18 :: u19 :: u20 :: u21 :: u22 :: u23 :: u24 :: u25 :: u26 :: u27 :: u28 :: u29 :: u30 :: u31 :: u32 :: u33 :: u34 :: u35 :: u36 :: u37 :: u38 :: u39 :: u40 :: u41 :: u42 :: u43 :: u44 :: u45 :: u46 :: u47 :: u48 :: u49 :: u50 :: u51 :: u52 :: u53 :: u54 :: u55 :: u56 :: u57 :: u58 :: u59 :: u60 :: u61 :: u62 :: u63 :: u64 :: u65 :: u66 :: u67 :: u68 :: u69 :: u70 :: u71 :: u72 :: u73 :: u74 :: u75 :: u76 :: u77 :: u78 :: u79 :: u80 :: u81 :: u82 :: u83 :: u84 :: u85 :: u86 :: u87 :: u88 :: u89 :: u90 :: u91 :: u92 :: u93 :: u94 :: u95 :: u96 :: u97 :: u98 :: u99 :: u100 :: u101 :: u102 :: u103 :: u104 :: u105 :: u106 :: []).toArray, []⟩ W := by
  have HQ := Lib.hid hQ
  have hwn : IntKind.i64.wrap ((m : Int) - 1) = (m : Int) - 1 := IntWalk.i64_in _ (by omega)
  clear hQ
  change Code.wp Tryd.prog badR14 Q ⟨_, []⟩ W
  unfold badR14
  conv => arg 2; whnf
  obtain ⟨d, hd⟩ : ∃ d : Nat → Nat, d = fun | 0 => 55 | 1 => 56 | 2 => 57 | 3 => 58 | 4 => 59 | 5 => 60 | 6 => 61 | 7 => 62 | 8 => 16 | _ => 55 := ⟨_, rfl⟩
  obtain ⟨cv, hcv⟩ : ∃ cv : Nat → Option Value, cv = fun | 0 => some (.pointer (some ⟨gb, 1, none⟩)) | 1 => some (.slice lo m lc) | 2 => some (.int .i64 ai) | 3 => some (.int .i64 m) | 4 => some (.int .i64 ((m : Int) - 1)) | 5 => some (.int .i64 j) | 6 => some (.pointer (some p)) | 7 => none | 8 => none | _ => none := ⟨_, rfl⟩
  have nd : ∀ j, (j < 16 ∨ 63 ≤ j) → ∀ i, i < 10 → d i ≠ j := by
    rw [hd]
    intro j hj i hi
    rcases (by omega : i = 0 ∨ i = 1 ∨ i = 2 ∨ i = 3 ∨ i = 4 ∨ i = 5 ∨ i = 6 ∨ i = 7 ∨ i = 8 ∨ i = 9) with rfl | rfl | rfl | rfl | rfl | rfl | rfl | rfl | rfl | rfl <;> simp <;> omega
  refine Rg.region_box 10 8 9 7 d cv (fun u _ => u = kv z) 22 #[.int .i64 0, .int .i64 0] cofV (by kernel_rfl) (by kernel_rfl) rfl (by decide) (by decide) (by decide) (by decide) (by decide) (by decide) (congrFun hcv 8) (congrFun hcv 7) (congrFun hcv 9) ?_ ?_ ?_ ?_ ?_ ?_ ?_ ?_ ?_ ?_
  · subst hd
    intro i j hi hj hiS hjS h
    rcases (by omega : i = 0 ∨ i = 1 ∨ i = 2 ∨ i = 3 ∨ i = 4 ∨ i = 5 ∨ i = 6 ∨ i = 7 ∨ i = 8) with rfl | rfl | rfl | rfl | rfl | rfl | rfl | rfl | rfl <;> rcases (by omega : j = 0 ∨ j = 1 ∨ j = 2 ∨ j = 3 ∨ j = 4 ∨ j = 5 ∨ j = 6 ∨ j = 7 ∨ j = 8) with rfl | rfl | rfl | rfl | rfl | rfl | rfl | rfl | rfl <;> simp at h ⊢
  · subst hd
    intro i hi
    rcases (by omega : i = 0 ∨ i = 1 ∨ i = 2 ∨ i = 3 ∨ i = 4 ∨ i = 5 ∨ i = 6 ∨ i = 7 ∨ i = 8 ∨ i = 9) with rfl | rfl | rfl | rfl | rfl | rfl | rfl | rfl | rfl | rfl <;> simp
  · subst hcv
    intro i hi h1 h2 h3
    rcases (by omega : i = 0 ∨ i = 1 ∨ i = 2 ∨ i = 3 ∨ i = 4 ∨ i = 5 ∨ i = 6) with rfl | rfl | rfl | rfl | rfl | rfl | rfl <;> exact ⟨_, rfl⟩
  · intro v x x' h _
    exact h
  · intro o ho
    obtain rfl := Option.some.inj ho
    exact ⟨⟨⟨8, .data⟩, by simp, rfl, rfl⟩, ⟨7, .data⟩, by simp, rfl, rfl⟩
  · subst hd hcv
    intro i o v hiN h1 h2 h3 ho hv a x hb seen K hK
    clear HQ
    have u3e : a.eval (.tmp 3) = .int .i64 ai := seen.kp 3 _ (nd 3 (by omega)) rfl
    have u9e : a.eval (.tmp 9) = .pointer (some ⟨gb, 0, none⟩) := seen.kp 9 _ (nd 9 (by omega)) rfl
    have u10e : a.eval (.tmp 10) = .int .i64 m := seen.kp 10 _ (nd 10 (by omega)) rfl
    rcases (by omega : i = 0 ∨ i = 1 ∨ i = 2 ∨ i = 3 ∨ i = 4 ∨ i = 5 ∨ i = 6) with rfl | rfl | rfl | rfl | rfl | rfl | rfl
    · obtain rfl := Option.some.inj ho
      obtain rfl := Option.some.inj hv
      exact Rg.op_value rfl rfl (Rg.ex_field a.eval _ 25 (.tmp 9) 1 rfl (by rw [u9e]; simp [go_sem])) hK
    · obtain rfl := Option.some.inj ho
      obtain rfl := Option.some.inj hv
      have e0 : a.eval (.tmp 55) = _ := seen.at_ ⟨0, .data⟩ (by simp) rfl _ rfl
      have y := hg x hb
      exact Rg.op_value rfl rfl (Rg.ex_load a.eval _ 23 (.tmp 55) rfl (by rw [e0]; simp [go_sem, y])) hK
    · obtain rfl := Option.some.inj ho
      obtain rfl := Option.some.inj hv
      exact Rg.op_value rfl rfl (by simp [execOp, u3e]) hK
    · obtain rfl := Option.some.inj ho
      obtain rfl := Option.some.inj hv
      exact Rg.op_value rfl rfl (by simp [execOp, u10e]) hK
    · obtain rfl := Option.some.inj ho
      obtain rfl := Option.some.inj hv
      have e0 : a.eval (.tmp 58) = _ := seen.at_ ⟨3, .data⟩ (by simp) rfl _ rfl
      exact Rg.op_value rfl rfl (Rg.ex_bin a.eval _ .sub 3 (.tmp 58) (.const (.int .i64 1)) 3 rfl (by rw [e0]; show (do eqGuard .sub 3 (.tmp 58) (.const (.int .i64 1)) _ (.int .i64 1); binOp .sub 3 _ (.int .i64 1) : Sem Value).run Tryd.prog _ = _; simp [go_sem, hwn])) hK
    · obtain rfl := Option.some.inj ho
      obtain rfl := Option.some.inj hv
      have e0 : a.eval (.tmp 57) = _ := seen.at_ ⟨2, .data⟩ (by simp) rfl _ rfl
      have e1 : a.eval (.tmp 59) = _ := seen.at_ ⟨4, .data⟩ (by simp) rfl _ rfl
      exact Rg.op_call rfl rfl (Rg.ex_call3 _ _ (.tmp 57) (.const (.int .i64 0)) (.tmp 59) 3 16 rfl e0 rfl e1 rfl _ (call_within _ _)) (hW _) (fun e w1 h => ⟨_, h.1, by rw [← h.2]; exact hK⟩)
    · obtain rfl := Option.some.inj ho
      obtain rfl := Option.some.inj hv
      have e0 : a.eval (.tmp 56) = _ := seen.at_ ⟨1, .data⟩ (by simp) rfl _ rfl
      have e1 : a.eval (.tmp 60) = _ := seen.at_ ⟨5, .data⟩ (by simp) rfl _ rfl
      exact Rg.op_value rfl rfl (Rg.ex_index a.eval _ 23 (.tmp 56) (.tmp 60) rfl (by rw [e0, e1]; exact hix _)) hK
  · subst hd hcv
    intro o ho a x hb seen K hK
    clear HQ
    obtain rfl := Option.some.inj ho
    have e0 : a.eval (.tmp 61) = _ := seen.at_ ⟨6, .data⟩ (by simp) rfl _ rfl
    have y := hp x hb
    exact Rg.op_value rfl rfl (Rg.ex_load a.eval _ 22 (.tmp 61) rfl (by rw [e0]; exact load_runL _ _ z y)) (hK _ _ rfl (Below.refl _ _))
  · subst hd
    intro o ho a x K hK
    obtain rfl := Option.some.inj ho
    exact Rg.op_value rfl rfl (by simp [execOp, go_sem]) hK
  · subst hd
    intro o ho a x bb v hb e0 e1 hv hbb hx K hK
    clear HQ
    obtain rfl := Option.some.inj ho
    obtain rfl := hv
    have c0 := hx.cell 0
    have c1 := hx.cell 1
    have f0 := hx.fr 0
    have f1 := hx.fr 1
    simp only [List.getElem?_toArray, List.getElem?_cons_zero, List.getElem?_cons_succ] at c0 c1
    have x2 := heap_setCell_same x bb 0 #[.int .i64 0, .int .i64 0] 22 (.int .i64 z.1) hx
    have x3 := heap_setCell_same _ bb 1 _ 22 (.int .i64 z.2) x2
    refine Rg.op_skip rfl rfl (Rg.ex_store a.eval _ 22 (.tmp 16) (.tmp 62) rfl (w' := (x.setCell ⟨bb, 0, none⟩ (.int .i64 z.1)).setCell ⟨bb, 1, none⟩ (.int .i64 z.2)) (by
      have e0' : a.eval (.tmp 16) = .pointer (some ⟨bb, 0, none⟩) := e0
      have e1' : a.eval (.tmp 62) = kv z := e1
      rw [e0', e1']
      simp [go_sem, c0, c1, f0, f1])) (hK _ ((hb.setCell hbb _).setCell hbb _) x3 rfl)
  · subst hd
    intro a x bb v h1 h2 h3 h4 h5 h6 h7 hb h8
    obtain ⟨mid, hm, rfl⟩ := Rg.frame_mid (bl := (u0 :: u1 :: u2 :: .int .i64 ai :: u4 :: u5 :: u6 :: u7 :: u8 :: .pointer (some ⟨gb, 0, none⟩) :: .int .i64 m :: u11 :: u12 :: u13 :: u14 :: u15 :: u16 :: u17 :: u18 :: u19 :: u20 :: u21 :: u22 :: u23 :: u24 :: u25 :: u26 :: u27 :: u28 :: u29 :: u30 :: u31 :: u32 :: u33 :: u34 :: u35 :: u36 :: u37 :: u38 :: u39 :: u40 :: u41 :: u42 :: u43 :: u44 :: u45 :: u46 :: u47 :: u48 :: u49 :: u50 :: u51 :: u52 :: u53 :: u54 :: u55 :: u56 :: u57 :: u58 :: u59 :: u60 :: u61 :: u62 :: u63 :: u64 :: u65 :: u66 :: u67 :: u68 :: u69 :: u70 :: u71 :: u72 :: u73 :: u74 :: u75 :: u76 :: u77 :: u78 :: u79 :: u80 :: u81 :: u82 :: u83 :: u84 :: u85 :: u86 :: u87 :: u88 :: u89 :: u90 :: u91 :: u92 :: u93 :: u94 :: u95 :: u96 :: u97 :: u98 :: u99 :: u100 :: u101 :: u102 :: u103 :: u104 :: u105 :: u106 :: [])) 16 47 h1 (by rw [h2]; rfl) (by simp) (fun j hj => by rw [h3 j (nd j hj)]; exact List.getElem?_toArray)
    match mid, hm with
    | v16 :: v17 :: v18 :: v19 :: v20 :: v21 :: v22 :: v23 :: v24 :: v25 :: v26 :: v27 :: v28 :: v29 :: v30 :: v31 :: v32 :: v33 :: v34 :: v35 :: v36 :: v37 :: v38 :: v39 :: v40 :: v41 :: v42 :: v43 :: v44 :: v45 :: v46 :: v47 :: v48 :: v49 :: v50 :: v51 :: v52 :: v53 :: v54 :: v55 :: v56 :: v57 :: v58 :: v59 :: v60 :: v61 :: v62 :: [], _ =>
      obtain rfl : v16 = _ := Option.some.inj h4
      obtain rfl := h7
      exact HQ.out x bb v17 v18 v19 v20 v21 v22 v23 v24 v25 v26 v27 v28 v29 v30 v31 v32 v33 v34 v35 v36 v37 v38 v39 v40 v41 v42 v43 v44 v45 v46 v47 v48 v49 v50 v51 v52 v53 v54 v55 v56 v57 v58 v59 v60 v61 v62 h6 h5 hb
end Go.Proofs.YtbnfndcbhnjnaaaDoor.Gr
