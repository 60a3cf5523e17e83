/-
  Attributes of package api: as values, as cells, as lists in memory. Conditions as told.
-/
import Derived.Test.YtncogjpmboglhaaGreatQ013
import Derived.Test.YtncogjpmboglhaaGreatQ001
import Derived.Laws.AppendOwn
import Derived.Laws.OwnMore
import Derived.Deep.Slices
import Derived.Test.YtncogjpmboglhaaGreatQ007
import Derived.Test.YtncogjpmboglhaaGreatQ012
import Derived.Lib.QuietBelow
import Derived.BigQuiet
import Derived.Test.YtncogjpmboglhaaGreatQ011
import Derived.Test.YtncogjpmboglhaaGreatQ010
import Derived.Test.YtncogjpmboglhaaGreatQ000
set_option maxRecDepth 100000
set_option maxHeartbeats 64000000
namespace Go.Proofs.YtncogjpmboglhaaGreat.At
open Go.RowKit Va
end Go.Proofs.YtncogjpmboglhaaGreat.At
namespace Go.Proofs.YtncogjpmboglhaaGreat.Bk
open Go.RowKit Go.Sort Rw YtncogjpmboglhaaGreat.Nm Pr
theorem place_is (l : List Id) (x : Id) (k : Nat) (hall : ∀ (j : Nat) (y : Id),j < k → l[j]? = some y → lessI y x = true) (hend : k = l.length ∨ ∃ y,l[k]? = some y ∧ lessI y x = false) : placeI l x = k := by
 unfold placeI
 induction l generalizing k with
 | nil =>
  rcases hend with h | ⟨y,h,_⟩
  ·rw [h]; rfl
  ·simp at h
 | cons a l ih =>
  cases k with
  | zero =>
   rcases hend with h | ⟨y,h,h2⟩
   ·simp at h
   ·obtain rfl : a = y := by simpa using h
    rw [List.takeWhile_cons,h2]
    rfl
  | succ k =>
   have h0 := hall 0 a (by omega) rfl
   rw [List.takeWhile_cons,h0]
   simp only [if_true,List.length_cons]
   rw [ih k (fun j y hj hy => hall (j + 1) y (by omega) (by simpa using hy)) (by
    rcases hend with h | ⟨y,h,h2⟩
    ·exact Or.inl (by simpa using h)
    ·exact Or.inr ⟨y,by simpa using h,h2⟩)]
noncomputable def learnB0 : Code := ((Tryz.f22.body.bind (findBlock 0)).getD .skip)
theorem learn_b0 (Q : Exit → Act → World → Prop) (W : World) (b2 b3 : Nat) (me c d : Int) (y1 y2 y4 y5 p3 q3 : Value) (so : Option Addr) (n sc : Nat) (l : List XID) (u0 u1 u4 u5 u7 u8 u9 u10 u11 u12 u13 u14 u15 u16 u17 u18 u19 u20 u21 u22 u23 u24 u25 u26 u27 u28 u29 u30 u31 u32 u33 u34 u35 u36 u37 u38 u39 u40 u41 u42 u43 u44 u45 u46 u47 u48 u49 u50 u51 u52 u53 u54 u55 u56 u57 u58 u59 u60 u61 u62 u63 u64 u65 u66 u67 u68 u69 u70 u71 u72 u73 u74 u75 u76 u77 u78 : Value)
  (h2 : Box W b2 #[.int .i64 me,y1,y2,.slice so n sc,y4,y5] 31) (h3 : Box W b3 #[.int .i64 c,.int .i64 d,p3,q3] 41) (hs : RowJ W (.slice so n sc) l) (hn : n = l.length) (hm : n ≤ 1000000)
  (hQ : ∀ (wr : World) (v12 v13 v14 v15 v16 v17 v18 v19 v20 v21 v22 v23 v24 v25 v26 v27 v28 : Value),Below W.heap.size W wr → Q .normal ⟨(u0 :: u1 :: .pointer (some ⟨b2,0,none⟩) :: .pointer (some ⟨b3,0,none⟩) :: u4 :: u5 :: .int .i64 (placeI l (c,d) : Nat) :: u7 :: u8 :: u9 :: u10 :: u11 :: v12 :: v13 :: v14 :: v15 :: v16 :: v17 :: v18 :: v19 :: v20 :: v21 :: v22 :: v23 :: v24 :: v25 :: v26 :: v27 :: v28 :: u29 :: u30 :: u31 :: u32 :: u33 :: u34 :: u35 :: u36 :: u37 :: u38 :: u39 :: u40 :: u41 :: u42 :: u43 :: u44 :: u45 :: u46 :: u47 :: u48 :: u49 :: u50 :: u51 :: u52 :: u53 :: u54 :: u55 :: u56 :: u57 :: u58 :: u59 :: u60 :: u61 :: u62 :: u63 :: u64 :: u65 :: u66 :: u67 :: u68 :: u69 :: u70 :: u71 :: u72 :: u73 :: u74 :: u75 :: u76 :: u77 :: u78 :: []).toArray,[]⟩ wr) :
  Code.wp Tryz.prog learnB0 Q ⟨(u0 :: u1 :: .pointer (some ⟨b2,0,none⟩) :: .pointer (some ⟨b3,0,none⟩) :: u4 :: u5 :: .int .i64 0 :: u7 :: u8 :: u9 :: u10 :: u11 :: u12 :: u13 :: u14 :: u15 :: u16 :: u17 :: u18 :: u19 :: u20 :: u21 :: u22 :: u23 :: u24 :: u25 :: u26 :: u27 :: u28 :: u29 :: u30 :: u31 :: u32 :: u33 :: u34 :: u35 :: u36 :: u37 :: u38 :: u39 :: u40 :: u41 :: u42 :: u43 :: u44 :: u45 :: u46 :: u47 :: u48 :: u49 :: u50 :: u51 :: u52 :: u53 :: u54 :: u55 :: u56 :: u57 :: u58 :: u59 :: u60 :: u61 :: u62 :: u63 :: u64 :: u65 :: u66 :: u67 :: u68 :: u69 :: u70 :: u71 :: u72 :: u73 :: u74 :: u75 :: u76 :: u77 :: u78 :: []).toArray,[]⟩ W := by
 have HQ := Lib.hid hQ
 have H2 := Lib.hid h2
 have H3 := Lib.hid h3
 have HS := Lib.hid hs
 have HN := Lib.hid hn
 clear hQ h2 h3 hs hn
 conv => arg 2; whnf
 go_wp2
 go_loopw [6] (fun i wr => ∃ k : Nat,k ≤ n ∧ i = .int .i64 k ∧ Below W.heap.size W wr ∧ ∀ (j : Nat) (y : Id),j < k → l[j]? = some y → lessI y (c,d) = true) (fun i _ => n - (intOf i).toNat)
 case atStart => exact ⟨0,Nat.zero_le _,rfl,Below.refl _ _,fun j y h => by omega⟩
 case round =>
  obtain ⟨k,hk,rfl,hbe,hall⟩ := hrel
  have BE := Lib.hid hbe
  have AL := Lib.hid hall
  clear hbe hall
  have q0 := cell_regrown (show wr.cell? ⟨b2,3,none⟩ = some (.slice so n sc) from (H2.out.on BE.out).cell 3)
  have r0 := cell_regrown (show wr.cell? ⟨b3,0,none⟩ = some (.int .i64 c) from (H3.out.on BE.out).cell 0)
  have r1 := cell_regrown (show wr.cell? ⟨b3,1,none⟩ = some (.int .i64 d) from (H3.out.on BE.out).cell 1)
  have hw3 : IntKind.i64.wrap ((k : Int) + 1) = (k : Int) + 1 := IntWalk.i64_in _ (by omega)
  by_cases hlt : k < n
  ·obtain ⟨y,hy⟩ : ∃ y,l[k]? = some y := ⟨_,List.getElem?_eq_getElem (by rw [← HN.out]; exact hlt)⟩
   obtain ⟨p,ix,px⟩ := elJ HS.out rfl HN.out.symm hy
   have px2 := px wr BE.out
   obtain ⟨y1,y2⟩ := y
   simp only at px2
   have p0 := cell_regrown px2.1
   have p1 := cell_regrown px2.2
   have dlt : decide ((k : Int) < (n : Int)) = true := decide_eq_true (by omega)
   have dln : decide (k < n) = true := decide_eq_true hlt
   obtain ⟨r,hr⟩ : ∃ r,lessI (y1,y2) (c,d) = r := ⟨_,rfl⟩
   have LS := Lib.hid (fun d' os => Calls.regrown_of (d := d') (os := os) ((less_any (y1,y2) (c,d) (grow (redrawn wr d') os)).mono fun _ _ h => ⟨by rw [h.1,hr],h.2⟩))
   have HY := Lib.hid (show l[k]? = some (y1,y2) by exact hy)
   have HR := Lib.hid hr
   clear px px2 hy hr
   cases r
   ·go_wp2_with fail
    refine wp_region_quiet_below (by kernel_rfl) (by kernel_rfl) ?_
    repeat (go_big_quiet_step (first | (with_reducible exact LS.out _ _)))
    refine wpQuiet_nil ?_
    intro _ hw'
    obtain ⟨⟨dq,osq⟩,hw''⟩ := hw'
    subst hw''
    have Z6 := below_regrown wr dq osq
    have HF := Lib.hid (fun v12 v13 v14 v15 v16 v17 v18 v19 v20 v21 v22 v23 v24 v25 v26 v27 v28 => HQ.out (grow (redrawn wr dq) osq) v12 v13 v14 v15 v16 v17 v18 v19 v20 v21 v22 v23 v24 v25 v26 v27 v28 (BE.out.trans (Z6.mono BE.out.size)))
    rw [place_is l (c,d) k AL.out (Or.inr ⟨_,HY.out,HR.out⟩)] at HF
    clear ix HQ q0 r0 r1 LS dlt dln p0 p1
    go_wp2
    exact HF.out _ _ _ _ _ _ _ _ _ _ _ _ _ _ _ _ _
   ·go_wp2_with fail
    refine wp_region_quiet_below (by kernel_rfl) (by kernel_rfl) ?_
    repeat (go_big_quiet_step (first | (with_reducible exact LS.out _ _)))
    refine wpQuiet_nil ?_
    intro _ hw'
    obtain ⟨⟨dq,osq⟩,hw''⟩ := hw'
    subst hw''
    have Z6 := Lib.hid (below_regrown wr dq osq)
    clear ix q0 r0 r1 LS dlt dln p0 p1
    go_wp2
    go_roundw
    case rel => exact ⟨k + 1,by omega,by go_num,BE.out.trans (Z6.out.mono BE.out.size),fun j y' hj h1 => by
     rcases Nat.lt_or_ge j k with h3 | h3
     ·exact AL.out j y' h3 h1
     ·obtain rfl : j = k := by omega
      have e1 := HY.out
      rw [h1] at e1
      rw [Option.some.inj e1]
      exact HR.out⟩
    case measure => simp [intOf]; omega
  ·obtain rfl : k = n := by omega
   have dlt : decide ((k : Int) < (k : Int)) = false := by simp
   have dln : decide (k < k) = false := by simp
   go_wp2_with fail
   refine wp_region_quiet_below (by kernel_rfl) (by kernel_rfl) ?_
   repeat (go_big_quiet_step (fail))
   refine wpQuiet_nil ?_
   intro _ hw'
   obtain ⟨⟨dq,osq⟩,hw''⟩ := hw'
   subst hw''
   have Z6 := below_regrown wr dq osq
   have HF := Lib.hid (fun v12 v13 v14 v15 v16 v17 v18 v19 v20 v21 v22 v23 v24 v25 v26 v27 v28 => HQ.out (grow (redrawn wr dq) osq) v12 v13 v14 v15 v16 v17 v18 v19 v20 v21 v22 v23 v24 v25 v26 v27 v28 (BE.out.trans (Z6.mono BE.out.size)))
   rw [place_is l (c,d) k AL.out (Or.inl (by simpa using HN.out))] at HF
   clear HQ q0 r0 r1 dlt dln
   go_wp2
   exact HF.out _ _ _ _ _ _ _ _ _ _ _ _ _ _ _ _ _
def cut4V (B b2 _b3 : Nat) (so : Option Addr) (sn sc at_ : Nat) (lo hiv : Value) (lt ld : List XAd) (i : Nat) (v : Value) (x : World) : Prop :=
 match i with
 | 0 => ∃ g,v = .slice (some ⟨g,0,none⟩) 0 0 ∧ B ≤ g ∧ Box x g #[] 41
 | 1 => v = .pointer (some ⟨b2,2,none⟩)
 | 2 => v = .slice so sn sc
 | 3 => v = .int .i64 (at_ : Int)
 | 4 => v = lo
 | 5 => OwnD x B v lt
 | 6 => v = .pointer (some ⟨b2,2,none⟩)
 | 7 => v = .slice so sn sc
 | 8 => v = .int .i64 (at_ : Int)
 | 9 => v = .int .i64 ((at_ : Int) + 1)
 | 10 => v = hiv
 | 11 => OwnD x B v (lt ++ ld)
 | 12 => v = .pointer (some ⟨b2,2,none⟩)
 | _ => True
noncomputable def cutR4 : Code := ((Tryz.f24.body.bind (findRegion 4)).getD .skip)
theorem cut4V_on (B b2 b3 : Nat) (so : Option Addr) (sn sc at_ : Nat) (lo hiv : Value) (lt ld : List XAd) (i : Nat) (v : Value) (x x' : World) (h : cut4V B b2 b3 so sn sc at_ lo hiv lt ld i v x) (hb : Below x.heap.size x x') : cut4V B b2 b3 so sn sc at_ lo hiv lt ld i v x' := by
 by_cases hi : i < 13
 ·rcases (by omega : i = 0 ∨ i = 1 ∨ i = 2 ∨ i = 3 ∨ i = 4 ∨ i = 5 ∨ i = 6 ∨ i = 7 ∨ i = 8 ∨ i = 9 ∨ i = 10 ∨ i = 11 ∨ i = 12) with rfl | rfl | rfl | rfl | rfl | rfl | rfl | rfl | rfl | rfl | rfl | rfl | rfl
  ·obtain ⟨g,h1,h2,h3⟩ := h
   exact ⟨g,h1,h2,h3.on hb⟩
  ·exact h
  ·exact h
  ·exact h
  ·exact h
  ·exact own_on h hb
  ·exact h
  ·exact h
  ·exact h
  ·exact h
  ·exact h
  ·exact own_on h hb
  ·exact h
 ·unfold cut4V
  split <;> first | omega | trivial
theorem cut4 (Q : Exit → Act → World → Prop) (W : World) (b2 b3 : Nat) (me : Int) (y1 y3 y4 y5 : Value) (so : Option Addr) (sn sc at_ : Nat) (l : List XAd) (u0 u1 u2 u5 u6 u7 u9 u10 u11 u12 u13 u14 u15 u16 u17 u18 u19 u20 u21 u22 u23 u24 u25 u26 u27 u28 u29 u30 u31 u32 u33 u34 u35 u36 u37 u38 u39 u40 u41 u42 u43 u44 u45 u46 u47 u48 u49 u50 u51 u52 u53 u54 u55 u56 u57 u58 u59 : Value)
  (h2 : Box W b2 #[.int .i64 me,y1,.slice so sn sc,y3,y4,y5] 31) (hs : RowD W (.slice so sn sc) l) (hat : at_ + 1 ≤ l.length) (hlen : l.length ≤ 900)
  (hQ : ∀ (x : World) (v28 v29 v30 v31 v32 v33 v34 v35 v36 v37 v38 v39 v40 : Value),Box x b2 #[.int .i64 me,y1,v39,y3,y4,y5] 31 → OwnD x W.heap.size v39 (l.take at_ ++ l.drop (at_ + 1)) → (∀ B,B ≤ b2 → Below B W x) → (∀ c cs t,c ≠ b2 → Box W c cs t → Box x c cs t) → (∀ k,k < W.heap.size → k ≠ b2 → x.heap[k]? = W.heap[k]?) → Q .normal ⟨(u0 :: u1 :: u2 :: .pointer (some ⟨b2,0,none⟩) :: .pointer (some ⟨b3,0,none⟩) :: u5 :: u6 :: u7 :: .int .i64 (at_ : Int) :: u9 :: u10 :: u11 :: u12 :: u13 :: u14 :: u15 :: u16 :: u17 :: u18 :: u19 :: u20 :: u21 :: u22 :: u23 :: u24 :: u25 :: u26 :: u27 :: v28 :: v29 :: v30 :: v31 :: v32 :: v33 :: v34 :: v35 :: v36 :: v37 :: v38 :: v39 :: v40 :: u41 :: u42 :: u43 :: u44 :: u45 :: u46 :: u47 :: u48 :: u49 :: u50 :: u51 :: u52 :: u53 :: u54 :: u55 :: u56 :: u57 :: u58 :: u59 :: []).toArray,[]⟩ x) :
  Code.wp Tryz.prog cutR4 Q ⟨(u0 :: u1 :: u2 :: .pointer (some ⟨b2,0,none⟩) :: .pointer (some ⟨b3,0,none⟩) :: u5 :: u6 :: u7 :: .int .i64 (at_ : Int) :: u9 :: u10 :: u11 :: u12 :: u13 :: u14 :: u15 :: u16 :: u17 :: u18 :: u19 :: u20 :: u21 :: u22 :: u23 :: u24 :: u25 :: u26 :: u27 :: u28 :: u29 :: u30 :: u31 :: u32 :: u33 :: u34 :: u35 :: u36 :: u37 :: u38 :: u39 :: u40 :: u41 :: u42 :: u43 :: u44 :: u45 :: u46 :: u47 :: u48 :: u49 :: u50 :: u51 :: u52 :: u53 :: u54 :: u55 :: u56 :: u57 :: u58 :: u59 :: []).toArray,[]⟩ W := by
 have HQ := Lib.hid hQ
 have H2 := Lib.hid h2
 have AT1 := Lib.hid (show at_ ≤ 900 by omega)
 obtain ⟨lo,slo,rlo⟩ := row_lo okD hs at_ (by omega)
 obtain ⟨hiv,shi,rhi⟩ := row_hi okD hs (at_ + 1) hat
 have LT := Lib.hid (show (l.take at_).length ≤ 1000 by rw [List.length_take]; omega)
 have LTD := Lib.hid (show (l.take at_).length ≤ 900 by rw [List.length_take]; omega)
 have LD := Lib.hid (show (l.drop (at_ + 1)).length ≤ 1000 by rw [List.length_drop]; omega)
 generalize l.take at_ = lt at *
 generalize l.drop (at_ + 1) = ld at *
 have SL := Lib.hid slo
 have SH := Lib.hid (show ∀ w,(Instr.sliceAt 26 (.slice so sn sc) (some (.int .i64 ((at_ : Int) + 1))) none none).run Tryz.prog w = .ok hiv w from shi)
 have RL := Lib.hid rlo
 have RH := Lib.hid rhi
 clear hQ h2 hs slo shi rlo rhi hat hlen
 have stab := cut4V_on W.heap.size b2 b3 so sn sc at_ lo hiv lt ld
 unfold cutR4
 conv => arg 2; whnf
 have nd : ∀ j,(j < 28 ∨ 41 ≤ j) → ∀ i,i < 13 → (fun i => 28 + i) i ≠ j := by
  intro j hj i hi h
  simp only at h
  omega
 refine Rg.region_live 14 13 (fun i => 28 + i) (fun i => if i = 0 then 5 else if i = 5 then 11 else 13) (cut4V W.heap.size b2 b3 so sn sc at_ lo hiv lt ld) (by kernel_rfl) (by kernel_rfl) rfl (by decide) (fun i j _ _ h => by have h2 : 28 + i = 28 + j := h; omega) (fun i hi => by show 28 + i < 60; omega) ?_ (fun _ => Rg.hall_of 1 (by kernel_rfl)) (fun kk o h1 h2 => by omega) ?_
 ·intro i o hi ho a x D hnd hc hD hb seen K hK
  clear HQ
  rcases (by omega : i = 0 ∨ i = 1 ∨ i = 2 ∨ i = 3 ∨ i = 4 ∨ i = 5 ∨ i = 6 ∨ i = 7 ∨ i = 8 ∨ i = 9 ∨ i = 10 ∨ i = 11 ∨ i = 12) with rfl | rfl | rfl | rfl | rfl | rfl | rfl | rfl | rfl | rfl | rfl | rfl | rfl
  ·obtain rfl := Option.some.inj ho
   exact Rg.op_value rfl rfl (Rg.ex_build a.eval _ 26 0 #[] rfl rfl (by simp [go_sem])) (hK (.slice (some ⟨x.heap.size,0,none⟩) 0 0) (x.alloc (.cells #[] 41)) ⟨x.heap.size,rfl,hb.size,box_new x #[] 41⟩ ((Below.refl _ _).alloc hb.size _) fun j u _ _ _ _ _ h => stab j u _ _ h ((Below.refl _ _).alloc (Nat.le_refl _) _))
  ·obtain rfl := Option.some.inj ho
   have e3 : a.eval (.tmp 3) = .pointer (some ⟨b2,0,none⟩) := seen.kp 3 _ (nd 3 (by omega)) rfl
   exact Rg.op_value rfl rfl (Rg.ex_field a.eval _ 31 (.tmp 3) 2 rfl (by rw [e3]; simp [go_sem])) (hK _ _ rfl (Below.refl _ _) fun _ _ _ _ _ _ _ h => h)
  ·obtain rfl := Option.some.inj ho
   have e29 : a.eval (.tmp 29) = .pointer (some ⟨b2,2,none⟩) := seen.at_ ⟨1,.data⟩ (by simp) rfl (Or.inr (by decide))
   have y := (H2.out.on hb).cell 2
   simp only [List.getElem?_toArray,List.getElem?_cons_zero,List.getElem?_cons_succ] at y
   exact Rg.op_value rfl rfl (Rg.ex_load a.eval _ 26 (.tmp 29) rfl (by rw [e29]; simp [go_sem,y])) (hK _ _ rfl (Below.refl _ _) fun _ _ _ _ _ _ _ h => h)
  ·obtain rfl := Option.some.inj ho
   have e8 : a.eval (.tmp 8) = .int .i64 (at_ : Int) := seen.kp 8 _ (nd 8 (by omega)) rfl
   exact Rg.op_value rfl rfl (Rg.ex_move a.eval _ (.tmp 8) rfl x) (hK _ _ e8 (Below.refl _ _) fun _ _ _ _ _ _ _ h => h)
  ·obtain rfl := Option.some.inj ho
   have e30 : a.eval (.tmp 30) = .slice so sn sc := seen.at_ ⟨2,.data⟩ (by simp) rfl (Or.inr (by decide))
   have e31 : a.eval (.tmp 31) = .int .i64 (at_ : Int) := seen.at_ ⟨3,.data⟩ (by simp) rfl (Or.inr (by decide))
   exact Rg.op_value rfl rfl (Rg.ex_slice a.eval _ 26 (.tmp 30) none (some (.tmp 31)) none rfl (by show (Instr.sliceAt 26 (a.eval (.tmp 30)) none (some (a.eval (.tmp 31))) none).run Tryz.prog x = .ok lo x; rw [e30,e31]; exact SL.out x)) (hK _ _ rfl (Below.refl _ _) fun _ _ _ _ _ _ _ h => h)
  ·obtain rfl := Option.some.inj ho
   obtain ⟨g,q0,hBg,hbx⟩ := seen.at_ ⟨0,.data⟩ (by simp) rfl (Or.inl rfl)
   have q0 : a.eval (.tmp 28) = .slice (some ⟨g,0,none⟩) 0 0 := q0
   have e32 : a.eval (.tmp 32) = lo := seen.at_ ⟨4,.data⟩ (by simp) rfl (Or.inr (by decide))
   obtain ⟨v',x',r,o',gr⟩ := app_fresh okD W.heap.size hbx hBg (RL.out.on hb) LT.out 26
   exact Rg.op_value rfl rfl (Rg.ex_append a.eval _ (.tmp 28) (.tmp 32) 26 rfl q0 e32 r) (hK v' x' o' (gr.mono hb.size) fun j u _ _ _ _ _ h => stab j u _ _ h gr)
  ·obtain rfl := Option.some.inj ho
   have e3 : a.eval (.tmp 3) = .pointer (some ⟨b2,0,none⟩) := seen.kp 3 _ (nd 3 (by omega)) rfl
   exact Rg.op_value rfl rfl (Rg.ex_field a.eval _ 31 (.tmp 3) 2 rfl (by rw [e3]; simp [go_sem])) (hK _ _ rfl (Below.refl _ _) fun _ _ _ _ _ _ _ h => h)
  ·obtain rfl := Option.some.inj ho
   have e34 : a.eval (.tmp 34) = .pointer (some ⟨b2,2,none⟩) := seen.at_ ⟨6,.data⟩ (by simp) rfl (Or.inr (by decide))
   have y := (H2.out.on hb).cell 2
   simp only [List.getElem?_toArray,List.getElem?_cons_zero,List.getElem?_cons_succ] at y
   exact Rg.op_value rfl rfl (Rg.ex_load a.eval _ 26 (.tmp 34) rfl (by rw [e34]; simp [go_sem,y])) (hK _ _ rfl (Below.refl _ _) fun _ _ _ _ _ _ _ h => h)
  ·obtain rfl := Option.some.inj ho
   have e8 : a.eval (.tmp 8) = .int .i64 (at_ : Int) := seen.kp 8 _ (nd 8 (by omega)) rfl
   exact Rg.op_value rfl rfl (Rg.ex_move a.eval _ (.tmp 8) rfl x) (hK _ _ e8 (Below.refl _ _) fun _ _ _ _ _ _ _ h => h)
  ·obtain rfl := Option.some.inj ho
   have e36 : a.eval (.tmp 36) = .int .i64 (at_ : Int) := seen.at_ ⟨8,.data⟩ (by simp) rfl (Or.inr (by decide))
   exact Rg.op_value rfl rfl (Rg.ex_bin a.eval _ .add 3 (.tmp 36) (.const (.int .i64 1)) 3 rfl (by rw [e36]; exact add_one _ _ _ _ at_ AT1.out)) (hK _ _ rfl (Below.refl _ _) fun _ _ _ _ _ _ _ h => h)
  ·obtain rfl := Option.some.inj ho
   have e35 : a.eval (.tmp 35) = .slice so sn sc := seen.at_ ⟨7,.data⟩ (by simp) rfl (Or.inr (by decide))
   have e37 : a.eval (.tmp 37) = .int .i64 ((at_ : Int) + 1) := seen.at_ ⟨9,.data⟩ (by simp) rfl (Or.inr (by decide))
   exact Rg.op_value rfl rfl (Rg.ex_slice a.eval _ 26 (.tmp 35) (some (.tmp 37)) none none rfl (by show (Instr.sliceAt 26 (a.eval (.tmp 35)) (some (a.eval (.tmp 37))) none none).run Tryz.prog x = .ok hiv x; rw [e35,e37]; exact SH.out x)) (hK _ _ rfl (Below.refl _ _) fun _ _ _ _ _ _ _ h => h)
  ·obtain rfl := Option.some.inj ho
   have o33 : OwnD x W.heap.size (a.eval (.tmp 33)) (lt) := seen.at_ ⟨5,.data⟩ (by simp) rfl (Or.inl rfl)
   have e38 : a.eval (.tmp 38) = hiv := seen.at_ ⟨10,.data⟩ (by simp) rfl (Or.inr (by decide))
   have ox : RowD x (a.eval (.tmp 38)) ld := by rw [e38]; exact RH.out.on hb
   obtain ⟨v',x',r,o',gr⟩ := app_row okD W.heap.size o33 ox (by have := LTD.out; omega) LD.out hb.size 26
   exact Rg.op_value rfl rfl (Rg.ex_append a.eval _ (.tmp 33) (.tmp 38) 26 rfl rfl rfl r) (hK v' x' o' ((Below.refl _ x).grown gr hb.size fun j hj => (o33.lt j hj).1) fun j u hj dj nl nx ni h => by
    rcases (by omega : j = 0 ∨ j = 1 ∨ j = 2 ∨ j = 3 ∨ j = 4 ∨ j = 5 ∨ j = 6 ∨ j = 7 ∨ j = 8 ∨ j = 9 ∨ j = 10 ∨ j = 11 ∨ j = 12) with rfl | rfl | rfl | rfl | rfl | rfl | rfl | rfl | rfl | rfl | rfl | rfl | rfl
    ·exact absurd rfl (fun _ : (0 : Nat) = 0 => nl (hD ⟨5,.data⟩ (by simp) rfl))
    ·exact h
    ·exact h
    ·exact h
    ·exact h
    ·exact absurd rfl (fun _ : (0 : Nat) = 0 => nx rfl)
    ·exact h
    ·exact h
    ·exact h
    ·exact h
    ·exact h
    ·exact absurd rfl (fun _ : (0 : Nat) = 0 => ni rfl)
    ·exact h)
  ·obtain rfl := Option.some.inj ho
   have e3 : a.eval (.tmp 3) = .pointer (some ⟨b2,0,none⟩) := seen.kp 3 _ (nd 3 (by omega)) rfl
   exact Rg.op_value rfl rfl (Rg.ex_field a.eval _ 31 (.tmp 3) 2 rfl (by rw [e3]; simp [go_sem])) (hK _ _ rfl (Below.refl _ _) fun _ _ _ _ _ _ _ h => h)
 ·intro a w' df sz kp ⟨vs,hv⟩ hb
  have gr : a.tmps[39]? = some (vs 11) := (hv 11 (by omega)).1
  have gp : a.tmps[40]? = some (.pointer (some ⟨b2,2,none⟩)) := by
   have h : vs 12 = .pointer (some ⟨b2,2,none⟩) := (hv 12 (by omega)).2 (by decide)
   rw [← h]
   exact (hv 12 (by omega)).1
  have oR : OwnD w' W.heap.size (vs 11) (lt ++ ld) := (hv 11 (by omega)).2 (by decide)
  generalize vs 11 = xR at *
  obtain ⟨ca,cp,eR⟩ := (Row.of_own oR).len
  have hbx := H2.out.on hb
  have hblt := H2.out.lt
  have c5 := hbx.cell 2
  have f5 := hbx.fr 2
  simp only [List.getElem?_toArray,List.getElem?_cons_zero,List.getElem?_cons_succ] at c5
  have hb1 := box_set (k := 2) hbx xR
  show Rg.SeqFrom _ _ _ 1 13 a w'
  simp only [Rg.SeqFrom]
  refine Rg.op_store 26 (.tmp 40) (.tmp 39) rfl rfl rfl rfl (Rg.eval_some gp) (Rg.eval_some gr) (w' := w'.setCell ⟨b2,2,none⟩ xR) (by rw [eR]; simp [go_sem,c5,f5]) ?_
  have kp2 : ∀ j,(j < 28 ∨ 41 ≤ j) → a.tmps[j]? = (u0 :: u1 :: u2 :: .pointer (some ⟨b2,0,none⟩) :: .pointer (some ⟨b3,0,none⟩) :: u5 :: u6 :: u7 :: .int .i64 (at_ : Int) :: u9 :: u10 :: u11 :: u12 :: u13 :: u14 :: u15 :: u16 :: u17 :: u18 :: u19 :: u20 :: u21 :: u22 :: u23 :: u24 :: u25 :: u26 :: u27 :: u28 :: u29 :: u30 :: u31 :: u32 :: u33 :: u34 :: u35 :: u36 :: u37 :: u38 :: u39 :: u40 :: u41 :: u42 :: u43 :: u44 :: u45 :: u46 :: u47 :: u48 :: u49 :: u50 :: u51 :: u52 :: u53 :: u54 :: u55 :: u56 :: u57 :: u58 :: u59 :: [])[j]? := fun j hj => (kp j (nd j hj)).trans List.getElem?_toArray
  obtain ⟨mid,hmid,rfl⟩ := Rg.frame_mid 28 13 df sz (by simp) kp2
  match mid,hmid with
  | [v28,v29,v30,v31,v32,v33,v34,v35,v36,v37,v38,v39,v40],_ =>
   have e1 : some v39 = some xR := gr
   obtain rfl := Option.some.inj e1
   refine HQ.out _ v28 v29 v30 v31 v32 v33 v34 v35 v36 v37 v38 v39 v40 ?_ ?_ ?_ ?_ ?_
   ·simpa using hb1
   ·exact own_cell oR b2 2 _ hblt
   ·exact fun B hB => (hb.mono (Nat.le_of_lt (Nat.lt_of_le_of_lt hB hblt))).setCell hB _
   ·intro c cs t hc hbc
    exact (RowKit.Below.heap_setCell _ _ _ _ hc).trans (hbc.on hb)
   ·intro k hk hne
    exact (RowKit.Below.heap_setCell _ _ _ _ hne).trans (hb.block k hk)
end Go.Proofs.YtncogjpmboglhaaGreat.Bk
namespace Go.Proofs.YtncogjpmboglhaaGreat.Av
open Go.RowKit Rw YtncogjpmboglhaaGreat.Nm Pr Bk Go.Sort
theorem put_take {α : Type} [Inhabited α] (enc : α → Value) (d : Array α) (cur : Array Value) (h : d.size ≤ cur.size) : (putCells enc 0 d cur).toList.take d.size = d.toList.map enc := by
 apply List.ext_getElem?
 intro j
 rw [List.getElem?_take]
 by_cases hj : j < d.size
 ·have hc : j < cur.size := by omega
  simp [putCells,hj,hc]
 ·simp [hj]
theorem own_sorted {α β : Type} [Inhabited β] {E : Ek α} (K : E.Ok) {w : World} {B g cap : Nat} {l l' : List α} (h : Own E w B (.slice (some ⟨g,0,none⟩) l.length cap) l) (enc : β → Value) (d : Array β) (hd : d.toList.map enc = flat E l') (hl : l'.length = l.length) (n : Nat) (os : Array Obj) :
  Own E (grow (putRow enc (Sort.ahead w n) g 0 d) os) B (.slice (some ⟨g,0,none⟩) l.length cap) l' ∧ w.grownBy (grow (putRow enc (Sort.ahead w n) g 0 d) os) (some g) := by
 have hds : d.size = l.length * E.n := by
  rw [← hl,← flat_length K l',← hd]
  simp
 rcases own_open h with ⟨e,_⟩ | ⟨g',cap',cur,e,h1,h2,h3,h4,h5,h6⟩
 ·cases e
 obtain ⟨rfl,rfl⟩ : g = g' ∧ cap = cap' := by simpa using e
 have hlt := lt_of_heap h2
 have hb : (grow (putRow enc (Sort.ahead w n) g 0 d) os).heap[g]? = some (.cells (putCells enc 0 d cur) E.t (0,0)) := by
  rw [heap_grow_old _ _ (by simp [putRow,mapBlock,Sort.ahead]; exact hlt)]
  unfold Box at h2
  simp only [putRow,mapBlock,Sort.ahead,Array.getElem?_modify,if_true,h2]
  rfl
 have hfit : d.size ≤ cur.size := by
  rw [hds,h5]
  exact Nat.mul_le_mul_right _ h3
 refine ⟨⟨by rw [flat_length K],Or.inr ⟨g,cap,_,by rw [hl],h1,hb,by rw [hl]; exact h3,h4,by simp [putCells]; exact h5,?_⟩⟩,⟨rfl,rfl,rfl,by simp [putRow,mapBlock,Sort.ahead],fun k hk hne => ?_⟩⟩
 ·rw [hl,← hds,put_take enc d cur hfit,hd]
 ·rw [heap_grow_old _ _ (by simp [putRow,mapBlock,Sort.ahead]; exact hk)]
  have hkg : g ≠ k := fun e => hne (by rw [e])
  simp [putRow,mapBlock,Sort.ahead,Array.getElem?_modify,hkg]
theorem holds_own {α : Type} {E : Ek α} {w : World} {B g cap : Nat} {l : List α} (K : E.Ok) {β : Type} [Inhabited β] (enc : β → Value) (d : Array β) (hd : d.toList.map enc = flat E l) (h : Own E w B (.slice (some ⟨g,0,none⟩) l.length cap) l) : Holds enc w g 0 d ∧ g < w.heap.size := by
 rcases own_open h with ⟨e,_⟩ | ⟨g',cap',cur,e,h1,h2,h3,h4,h5,h6⟩
 ·cases e
 obtain ⟨rfl,rfl⟩ : g = g' ∧ cap = cap' := by simpa using e
 refine ⟨fun j hj => ?_,h2.lt⟩
 rw [Nat.zero_add]
 refine ⟨?_,h2.fr j⟩
 rw [h2.cell j]
 have hsz : d.size = l.length * E.n := by
  rw [← flat_length K l,← hd]
  simp
 have h7 : (cur.toList.take (l.length * E.n))[j]? = (d.toList.map enc)[j]? := by rw [h6,hd]
 rw [List.getElem?_take,if_pos (by omega)] at h7
 rw [Array.getElem?_toList] at h7
 rw [h7,List.getElem?_map,Array.getElem?_toList,getElem!_pos d j hj,Array.getElem?_eq_getElem hj]
 rfl
theorem sortI_any (w : World) (B : Nat) (v : Value) (l : List Int) (h : OwnI w B v l) (hlen : l.length ≤ 900) : Calls Tryz.prog 66 #[v] w fun e w' => e = .returned (.tuple #[]) ∧ ∃ l' : List Int,OwnI w' B v l' ∧ l'.Perm l ∧ l'.Pairwise (· ≤ ·) ∧ w.grownBy w' v.ownBlock := by
 rcases own_open h with ⟨rfl,rfl⟩ | ⟨g,cap,cur,rfl,h1,h2,h3,h4,h5,h6⟩
 ·have hc := Any.slices_Sort_int_none Tryz.sortI none 0 w
  refine Calls.mono hc ?_
  rintro e w' ⟨rfl,rfl⟩
  exact ⟨rfl,[],h,List.Perm.refl _,List.Pairwise.nil,Rw.grown_refl _ _⟩
 ·obtain ⟨hh,hlt⟩ := holds_own Nm.okI (Value.int .i64) l.toArray (by rw [flatI]) h
  have hc := Any.slices_Sort_int Tryz.sortI g 0 cap l w hh hlt (by omega)
  refine Calls.mono hc ?_
  rintro e w' ⟨rfl,n,os,rfl⟩
  have hs := own_sorted Nm.okI (l' := l.mergeSort fun x y => decide (x ≤ y)) h (Value.int .i64) (l.mergeSort fun x y => decide (x ≤ y)).toArray (by rw [flatI]) (List.length_mergeSort l) n os
  refine ⟨rfl,_,hs.1,List.mergeSort_perm _ _,?_,hs.2⟩
  have hp := List.pairwise_mergeSort (le := fun x y : Int => decide (x ≤ y)) (fun a b c h1 h2 => by simp at h1 h2 ⊢; omega) (fun a b => by simp; omega) l
  exact hp.imp (fun {a b} hab => by simpa using hab)
theorem cpt_step (d : Array Int) (n : Nat) (hs : ∀ i j,i ≤ j → j < n → d[i]! ≤ d[j]!) : ∀ m,m ≤ n → (∀ x ∈ Lib.compactUpTo d m,∃ j,j < m ∧ d[j]! = x) ∧ (∀ j,j < m → d[j]! ∈ Lib.compactUpTo d m) ∧ (Lib.compactUpTo d m).Pairwise (· < ·)
 | 0,_ => ⟨fun x h => by simp [Lib.compactUpTo] at h,fun j h => by omega,by simp [Lib.compactUpTo]⟩
 | m + 1,hm => by
  obtain ⟨h1,h2,h3⟩ := cpt_step d n hs m (by omega)
  rw [Lib.compactUpTo_succ]
  cases hk : Lib.keeps d m with
  | false =>
   simp only [Bool.false_eq_true,if_false,List.append_nil]
   have hk' : m ≠ 0 ∧ d[m]! = d[m - 1]! := by
    have h := of_decide_eq_false hk
    rw [not_or] at h
    exact ⟨h.1,Classical.not_not.1 h.2⟩
   refine ⟨fun x hx => ?_,fun j hj => ?_,h3⟩
   ·obtain ⟨j,hj,e⟩ := h1 x hx
    exact ⟨j,by omega,e⟩
   ·rcases Nat.lt_or_ge j m with h | h
    ·exact h2 j h
    ·obtain rfl : j = m := by omega
     rw [hk'.2]
     exact h2 _ (by omega)
  | true =>
   simp only [if_true]
   have hk' : m = 0 ∨ d[m]! ≠ d[m - 1]! := of_decide_eq_true hk
   refine ⟨fun x hx => ?_,fun j hj => ?_,?_⟩
   ·rcases List.mem_append.1 hx with h | h
    ·obtain ⟨j,hj,e⟩ := h1 x h
     exact ⟨j,by omega,e⟩
    ·exact ⟨m,by omega,(List.mem_singleton.1 h).symm⟩
   ·rcases Nat.lt_or_ge j m with h | h
    ·exact List.mem_append_left _ (h2 j h)
    ·obtain rfl : j = m := by omega
     exact List.mem_append_right _ (by simp)
   ·rw [List.pairwise_append]
    refine ⟨h3,List.pairwise_singleton _ _,fun a ha b hb => ?_⟩
    obtain ⟨j,hj,rfl⟩ := h1 a ha
    rw [List.mem_singleton.1 hb]
    have a1 := hs j (m - 1) (by omega) (by omega)
    have a2 := hs (m - 1) m (by omega) (by omega)
    rcases hk' with h | h
    ·omega
    ·omega
theorem compact_is (l : List Int) (hs : l.Pairwise (· ≤ ·)) : (Lib.compact l).Pairwise (· < ·) ∧ (∀ x,x ∈ Lib.compact l ↔ x ∈ l) ∧ (Lib.compact l).length ≤ l.length := by
 have hd : ∀ i j,i ≤ j → j < l.length → l.toArray[i]! ≤ l.toArray[j]! := by
  intro i j hij hj
  rw [getElem!_pos l.toArray i (by simp; omega),getElem!_pos l.toArray j (by simpa using hj)]
  rcases Nat.lt_or_ge i j with h | h
  ·have := List.pairwise_iff_getElem.1 hs i j (by omega) hj h
   simpa using this
  ·obtain rfl : i = j := by omega
   exact Int.le_refl _
 obtain ⟨h1,h2,h3⟩ := cpt_step l.toArray l.length hd l.length (Nat.le_refl _)
 refine ⟨h3,fun x => ⟨fun hx => ?_,fun hx => ?_⟩,?_⟩
 ·obtain ⟨j,hj,rfl⟩ := h1 x hx
  rw [getElem!_pos l.toArray j (by simpa using hj)]
  simp
 ·obtain ⟨j,hj,rfl⟩ := List.mem_iff_getElem.1 hx
  have := h2 j hj
  rw [getElem!_pos l.toArray j (by simpa using hj)] at this
  simpa [Lib.compact] using this
 ·unfold Lib.compact Lib.compactUpTo
  rw [List.length_map]
  exact Nat.le_trans (List.length_filter_le _ _) (by simp)
theorem cptI_any (w : World) (B : Nat) (v : Sl) (l : List Int) (h : OwnI w B (slv v) l) (hs : l.Pairwise (· ≤ ·)) (hlen : l.length ≤ 900) : Calls Tryz.prog 67 #[slv v] w fun e w' => (∃ v' : Sl,e = .returned (slv v') ∧ ∃ l' : List Int,OwnI w' B (slv v') l' ∧ l'.Pairwise (· < ·) ∧ ∀ x,x ∈ l' ↔ x ∈ l) ∧ w.grownBy w' (slv v).ownBlock := by
 obtain ⟨vo,vn,vc⟩ := v
 rcases own_open h with ⟨h0,rfl⟩ | ⟨g,cap,cur,h0,h1,h2,h3,h4,h5,h6⟩
 ·obtain ⟨rfl,rfl,rfl⟩ : vo = none ∧ vn = 0 ∧ vc = 0 := by simpa using h0
  have hc := Any.slices_Compact_int_empty Tryz.cptI none 0 w
  refine Calls.mono hc ?_
  rintro e w' ⟨rfl,rfl⟩
  exact ⟨⟨(none,0,0),rfl,[],h,List.Pairwise.nil,fun _ => Iff.rfl⟩,Rw.grown_refl _ _⟩
 ·obtain ⟨rfl,rfl,rfl⟩ : vo = some ⟨g,0,none⟩ ∧ vn = l.length ∧ vc = cap := by simpa using h0
  obtain ⟨hh,hlt⟩ := holds_own Nm.okI (Value.int .i64) l.toArray (by rw [flatI]) h
  have hc := Any.slices_Compact_int Tryz.cptI g 0 vc l w hh (by omega) h3
  obtain ⟨c1,c2,c3⟩ := compact_is l hs
  refine Calls.mono hc ?_
  rintro e w' ⟨rfl,n,rfl⟩
  have ht := own_sorted Nm.okI (l' := Lib.compact l ++ List.replicate (l.length - (Lib.compact l).length) 0) h (Value.int .i64) (Lib.compact l ++ List.replicate (l.length - (Lib.compact l).length) 0).toArray (by rw [flatI]) (by rw [List.length_append,List.length_replicate]; omega) n #[]
  have hg : grow (putRow (Value.int .i64) (Sort.ahead w n) g 0 (Lib.compact l ++ List.replicate (l.length - (Lib.compact l).length) 0).toArray) #[] = putRow (Value.int .i64) (Sort.ahead w n) g 0 (Lib.compact l ++ List.replicate (l.length - (Lib.compact l).length) 0).toArray := grow_empty _
  rw [hg] at ht
  refine ⟨⟨(some ⟨g,0,none⟩,(Lib.compact l).length,vc),rfl,Lib.compact l,?_,c1,c2⟩,ht.2⟩
  rcases own_open ht.1 with ⟨e,_⟩ | ⟨g',cap',cur',e,k1,k2,k3,k4,k5,k6⟩
  ·cases e
  ·obtain ⟨rfl,_,rfl⟩ : g = g' ∧ l.length = _ ∧ vc = cap' := by simpa using e
   refine own_shut Nm.okI rfl k1 k2 (Nat.le_trans c3 h3) k4 k5 ?_
   have k7 := congrArg (List.take ((Lib.compact l).length * EI.n)) k6
   rw [List.take_take,flat_take Nm.okI,Nat.min_eq_left (Nat.mul_le_mul_right _ (by rw [List.length_append]; omega)),List.take_left'] at k7
   ·exact k7
   ·rfl
end Go.Proofs.YtncogjpmboglhaaGreat.Av
namespace Go.Proofs.YtncogjpmboglhaaGreat.Rl
open Go.RowKit Pu Pr
end Go.Proofs.YtncogjpmboglhaaGreat.Rl
namespace Go.Proofs.YtncogjpmboglhaaGreat.Rl
open Go.RowKit Pu Pr
def foldR : List Cn → List Cn → Option (List Cn)
 | m,[] => some m
 | m,c :: r => match insC m c with
  | none => none
  | some n => foldR n r
theorem foldR_len : ∀ (r m p : List Cn),RiseC m → foldR m r = some p → m.length ≤ p.length ∧ RiseC p
 | [],m,p,hm,h => by
  obtain rfl := Option.some.inj h
  exact ⟨Nat.le_refl _,hm⟩
 | c :: r,m,p,hm,h => by
  simp only [foldR] at h
  cases hi : insC m c with
  | none => rw [hi] at h; cases h
  | some n =>
   rw [hi] at h
   have e1 := ins_length m c n hm hi
   obtain ⟨e2,e3⟩ := foldR_len r n p (ins_rise m c n hm hi).1 h
   exact ⟨by omega,e3⟩
theorem foldC_R : ∀ (r m p : List Cn) (at_ : Nat),RiseC m → m.length ≤ 5 → (foldC at_ m r = .ok p ↔ foldR m r = some p ∧ p.length ≤ 5)
 | [],m,p,at_,_,h5 => by
  simp only [foldC,foldR]
  constructor
  ·intro h
   injection h with h
   subst h
   exact ⟨rfl,h5⟩
  ·rintro ⟨h,_⟩
   rw [Option.some.inj h]
 | c :: r,m,p,at_,hm,h5 => by
  simp only [foldC,foldR]
  cases hi : insC m c with
  | none =>
   constructor
   ·intro h; cases h
   ·rintro ⟨h,_⟩; cases h
  | some n =>
   simp only
   have hn := (ins_rise m c n hm hi).1
   by_cases h6 : 5 < n.length
   ·rw [if_pos h6]
    constructor
    ·intro h; cases h
    ·rintro ⟨h,h7⟩
     have := (foldR_len r n p hn h).1
     omega
   ·rw [if_neg h6]
    exact foldC_R r n p (at_ + 1) hn (by omega)
theorem foldR_append : ∀ (a b m m' : List Cn),foldR m a = some m' → foldR m (a ++ b) = foldR m' b
 | [],b,m,m',h => by
  obtain rfl := Option.some.inj h
  rfl
 | c :: r,b,m,m',h => by
  simp only [List.cons_append,foldR] at h ⊢
  cases hi : insC m c with
  | none => rw [hi] at h; cases h
  | some n =>
   rw [hi] at h
   exact foldR_append r b n m' h
theorem foldR_end : ∀ (p m : List Cn),RiseC (m ++ p) → foldR m p = some (m ++ p)
 | [],m,_ => by simp [foldR]
 | c :: r,m,h => by
  have h1 : ∀ x ∈ m,Op.bytesLess x.1.toList c.1.toList = true := fun x hx => (List.pairwise_append.1 h).2.2 x hx c (List.mem_cons_self ..)
  simp only [foldR]
  rw [ins_end m c h1]
  simp only
  rw [foldR_end r (m ++ [c]) (by simpa using h)]
  simp
theorem ref_both {a b : List Cn} (ha : RiseC a) : foldR [] (a ++ b) = foldR a b := foldR_append a b [] a (by simpa using foldR_end a [] (by simpa using ha))
theorem meetsB_R {a b : List Cn} (ha : RiseC a) (h5 : a.length ≤ 5) : meetsB a b = match foldR a b with
  | some p => decide (p.length ≤ 5)
  | none => false := by
 unfold meetsB
 cases h : foldR a b with
 | none =>
  cases h2 : foldC a.length a b with
  | ok p =>
   have := (foldC_R b a p a.length ha h5).1 h2
   rw [h] at this
   cases this.1
  | error e => rfl
 | some p =>
  by_cases h6 : p.length ≤ 5
  ·rw [(foldC_R b a p a.length ha h5).2 ⟨h,h6⟩]
   simp [h6]
  ·cases h2 : foldC a.length a b with
   | ok q =>
    have h3 := (foldC_R b a q a.length ha h5).1 h2
    rw [h] at h3
    obtain rfl := Option.some.inj h3.1
    exact absurd h3.2 h6
   | error e => simp [h6]
end Go.Proofs.YtncogjpmboglhaaGreat.Rl
namespace Go.Proofs.YtncogjpmboglhaaGreat.Rg
open Go.RowKit
end Go.Proofs.YtncogjpmboglhaaGreat.Rg
namespace Go.Proofs.YtncogjpmboglhaaGreat.Rg
open Go.RowKit Rw
structure SeenX (i N A S : Nat) (d last : Nat → Nat) (V : Nat → Value → World → Prop) (base : Act) (o : Oper) (a : Act) (x : World) : Prop where
 kp : ∀ j u,(∀ i,i < N → d i ≠ j) → base.tmps[j]? = some u → a.eval (.tmp j) = u
 at_ : ∀ e ∈ o.after,Region.binds .any e = true → e.on ≠ A → e.on ≠ S → (last e.on = i ∨ N ≤ last e.on) → V e.on (a.eval (.tmp (d e.on))) x
structure InX (l : List Oper) (N A S C : Nat) (d last : Nat → Nat) (V : Nat → Value → World → Prop) (t : TypeId) (zero : Array Value) (cof : Value → Array Value) (base : Act) (W : World) (L : Array Bool) (a : Act) (x : World) : Prop where
 cl : ∀ i o,done L i → l[i]? = some o → ∀ e ∈ o.after,Region.binds .any e = true → done L e.on
 no : ∀ i,N ≤ i → ¬ done L i
 df : a.defers = base.defers
 sz : a.tmps.size = base.tmps.size
 kp : ∀ j,(∀ i,i < N → d i ≠ j) → a.tmps[j]? = base.tmps[j]?
 bel : Below W.heap.size W x
 val : ∃ vs : Nat → Value,∀ i,i < N → i ≠ S → done L i → a.tmps[d i]? = some (vs i) ∧ (i ≠ A → ¬ done L (last i) → V i (vs i) x)
 box : done L A → ¬ done L S → ∃ bb,a.tmps[d A]? = some (.pointer (some ⟨bb,0,none⟩)) ∧ W.heap.size ≤ bb ∧ Box x bb zero t
 fin : done L S → ∃ bb v,a.tmps[d A]? = some (.pointer (some ⟨bb,0,none⟩)) ∧ a.tmps[d C]? = some v ∧ W.heap.size ≤ bb ∧ Box x bb (cof v) t ∧ V C v x
theorem region_mk {P : Program} {Q : Exit → Act → World → Prop} {id : Nat} {base : Act} {W : World} {l : List Oper} (N A S C : Nat) (d last : Nat → Nat) (V : Nat → Value → World → Prop) (t : TypeId) (zero : Array Value) (cof : Value → Array Value)
  (hm : P.follows .mixedOrders = true) (hf : fore l.toArray = true) (hN : l.length = N) (hA : A < N) (hS : S < N) (hC : C < N) (hAS : A ≠ S) (hCS : C ≠ S) (hAC : A ≠ C) (hlC : N ≤ last C)
  (hinj : ∀ i j,i < N → j < N → i ≠ S → j ≠ S → d i = d j → i = j) (hs : ∀ i,i < N → d i < base.tmps.size)
  (hV : ∀ i v x x',i < N → V i v x → Below x.heap.size x x' → V i v x')
  (hw : ∀ o,l[S]? = some o → (∃ e ∈ o.after,Region.binds .any e = true ∧ e.on = A) ∧ ∃ e ∈ o.after,Region.binds .any e = true ∧ e.on = C)
  (hop : ∀ i o,i < N → i ≠ A → i ≠ S → l[i]? = some o → ∀ a x,Below W.heap.size W x → SeenX i N A S d last V base o a x → ∀ K : Act → World → Prop,(∀ v x',V i v x' → Below x.heap.size x x' → K (a.put (some (d i)) v) x') → wpOp P l.toArray Q i K a x)
  (hoA : ∀ o,l[A]? = some o → ∀ a x,∀ K : Act → World → Prop,K (a.put (some (d A)) (.pointer (some ⟨x.heap.size,0,none⟩))) (x.alloc (.cells zero t)) → wpOp P l.toArray Q A K a x)
  (hoS : ∀ o,l[S]? = some o → ∀ a x bb v (D : Nat → Prop),(∀ j oj,D j → l[j]? = some oj → ∀ e ∈ oj.after,Region.binds .any e = true → D e.on) → (∀ e ∈ o.after,Region.binds .any e = true → D e.on) → Below W.heap.size W x → a.eval (.tmp (d A)) = .pointer (some ⟨bb,0,none⟩) → a.eval (.tmp (d C)) = v → V C v x → W.heap.size ≤ bb → Box x bb zero t → ∀ K : Act → World → Prop,(∀ x',Below W.heap.size W x' → Box x' bb (cof v) t → (∀ j u,j < N → j ≠ A → j ≠ S → D j → ¬ D (last j) → last j ≠ S → V j u x → V j u x') → K a x') → wpOp P l.toArray Q S K a x)
  (hend : ∀ a x bb v,a.defers = base.defers → a.tmps.size = base.tmps.size → (∀ j,(∀ i,i < N → d i ≠ j) → a.tmps[j]? = base.tmps[j]?) → a.tmps[d A]? = some (.pointer (some ⟨bb,0,none⟩)) → a.tmps[d C]? = some v → W.heap.size ≤ bb → Box x bb (cof v) t → V C v x → Below W.heap.size W x → (∃ vs : Nat → Value,∀ i,i < N → i ≠ S → i ≠ A → a.tmps[d i]? = some (vs i) ∧ (N ≤ last i → V i (vs i) x)) → Q .normal a x) : (Code.region id l.toArray true).wp P Q base W := by
 refine region_inv (fun L a x => InX l N A S C d last V t zero cof base W L a x) hm hf ?_ ?_ ?_
 ·exact ⟨fun i o h => absurd h (none_done _ _),fun i _ => none_done _ _,rfl,rfl,fun _ _ => rfl,(Below.refl _ _).drew,⟨fun _ => .bool true,fun i _ _ h => absurd h (none_done _ _)⟩,fun h => absurd h (none_done _ _),fun h => absurd h (none_done _ _)⟩
 ·intro L a x i o hsz I ho hnd hdep
  have hi : i < l.length := (List.getElem?_eq_some_iff.1 ho).1
  have hiN : i < N := by omega
  have hiL : i < L.size := by omega
  obtain ⟨vs,hvs⟩ := I.val
  have hon : ∀ e ∈ o.after,Region.binds .any e = true → e.on < i := fun e he hb => by
   have h7 := List.all_eq_true.1 hf i (List.mem_range.2 (by simpa using hi))
   have ho' : (l.toArray)[i]? = some o := by simpa using ho
   rw [ho'] at h7
   have h8 := Array.all_eq_true'.1 h7 e he
   rw [hb] at h8
   simpa using h8
  have dd : ∀ {k},k ≠ i → done (L.setIfInBounds i true) k → done L k := fun {k} h h5 => ((done_set hiL k).1 h5).resolve_left h
  have du : ∀ {k},done L k → done (L.setIfInBounds i true) k := fun {k} h => (done_set hiL k).2 (Or.inr h)
  have cl' : ∀ k q,done (L.setIfInBounds i true) k → l[k]? = some q → ∀ e ∈ q.after,Region.binds .any e = true → done (L.setIfInBounds i true) e.on := fun k q hk hq e he hb => by
   by_cases e2 : k = i
   ·subst e2
    rw [hq] at ho
    cases ho
    exact du (hdep e he hb)
   ·exact du (I.cl k q (dd e2 hk) hq e he hb)
  have no' : ∀ k,N ≤ k → ¬ done (L.setIfInBounds i true) k := fun k hk h => I.no k hk (dd (by omega) h)
  have seen : SeenX i N A S d last V base o a x := ⟨fun j u hj hu => eval_some (by rw [I.kp j hj]; exact hu),fun e he hb hA' hS' hl => by
   obtain ⟨h1,h2⟩ := hvs e.on (by have := hon e he hb; omega) hS' (hdep e he hb)
   rw [eval_some h1]
   refine h2 hA' ?_
   rcases hl with hl | hl
   ·rw [hl]; exact hnd
   ·exact I.no _ hl⟩
  have putI : i ≠ S → ∀ v x',Below x.heap.size x x' → (i ≠ A → V i v x') → (i = A → ∃ bb,v = .pointer (some ⟨bb,0,none⟩) ∧ W.heap.size ≤ bb ∧ Box x' bb zero t) → InX l N A S C d last V t zero cof base W (L.setIfInBounds i true) (a.put (some (d i)) v) x' := by
   intro hiS v x' hb hpv hpa
   have self : (a.put (some (d i)) v).tmps[d i]? = some v := by
    have h5 : d i < a.tmps.size := by rw [I.sz]; exact hs i hiN
    simp [Act.put,h5]
   have keep : ∀ k,k < N → k ≠ S → k ≠ i → (a.put (some (d i)) v).tmps[d k]? = a.tmps[d k]? := fun k hk hkS hki => get_put _ _ _ _ (fun e => hki (hinj _ _ hk hiN hkS hiS e))
   refine ⟨cl',no',I.df,by rw [size_put]; exact I.sz,fun j hj => ?_,I.bel.trans (hb.mono I.bel.size),⟨fun k => if k = i then v else vs k,fun k hk hkS hdn => ?_⟩,fun h1 h2 => ?_,fun h1 => ?_⟩
   ·rw [get_put _ _ _ _ (fun e => hj i hiN e.symm)]
    exact I.kp j hj
   ·by_cases e : k = i
    ·subst e
     simp only [if_true]
     exact ⟨self,fun h3 _ => hpv h3⟩
    ·simp only [if_neg e]
     obtain ⟨h3,h4⟩ := hvs k hk hkS (dd e hdn)
     exact ⟨by rw [keep k hk hkS e]; exact h3,fun h5 h6 => hV k _ _ _ hk (h4 h5 (fun h => h6 (du h))) hb⟩
   ·by_cases e : A = i
    ·subst e
     obtain ⟨bb,rfl,h4,h5⟩ := hpa rfl
     exact ⟨bb,self,h4,h5⟩
    ·obtain ⟨bb,h3,h4,h5⟩ := I.box (dd e h1) (fun h => h2 (du h))
     exact ⟨bb,by rw [keep A hA hAS e]; exact h3,h4,h5.on hb⟩
   ·have h2 := dd (Ne.symm hiS) h1
    obtain ⟨bb,u,h5,h6,h7,h8,h9⟩ := I.fin h2
    obtain ⟨oS,hoS'⟩ : ∃ oS,l[S]? = some oS := ⟨_,List.getElem?_eq_getElem (by omega)⟩
    obtain ⟨⟨ea,k1,k2,k3⟩,ec,k4,k5,k6⟩ := hw oS hoS'
    have dA := I.cl S oS h2 hoS' ea k1 k2
    have dC := I.cl S oS h2 hoS' ec k4 k5
    rw [k3] at dA
    rw [k6] at dC
    have eA : A ≠ i := fun e => hnd (e ▸ dA)
    have eC : C ≠ i := fun e => hnd (e ▸ dC)
    exact ⟨bb,u,by rw [keep A hA hAS eA]; exact h5,by rw [keep C hC hCS eC]; exact h6,h7,h8.on hb,hV C _ _ _ hC h9 hb⟩
  by_cases hiS : i = S
  ·subst hiS
   obtain ⟨⟨ea,h1,h2,h3⟩,ec,h4,h5,h6⟩ := hw o ho
   have dA := hdep ea h1 h2
   have dC := hdep ec h4 h5
   rw [h3] at dA
   rw [h6] at dC
   obtain ⟨v1,v2⟩ := hvs C hC hCS dC
   obtain ⟨bb,b1,b2,b3⟩ := I.box dA hnd
   have vC := v2 (Ne.symm hAC) (I.no _ hlC)
   refine hoS o ho a x bb (vs C) (done L) I.cl hdep I.bel (eval_some b1) (eval_some v1) vC b2 b3 _ (fun x' q1 q2 q3 => ⟨cl',no',I.df,I.sz,I.kp,q1,⟨vs,fun k hk hkS hdn => ?_⟩,fun _ hn => absurd ((done_set hiL _).2 (Or.inl rfl)) hn,fun _ => ⟨bb,vs C,b1,v1,b2,q2,?_⟩⟩)
   ·obtain ⟨w1,w2⟩ := hvs k hk hkS (dd hkS hdn)
    refine ⟨w1,fun hkA hnl => ?_⟩
    have n1 : last k ≠ i := fun e => hnl ((done_set hiL _).2 (Or.inl e))
    have n2 : ¬ done L (last k) := fun e => hnl (du e)
    exact q3 k _ hk hkA hkS (dd hkS hdn) n2 n1 (w2 hkA n2)
   ·exact q3 C _ hC (Ne.symm hAC) hCS dC (I.no _ hlC) (by omega) vC
  ·by_cases hiA : i = A
   ·subst hiA
    refine hoA o ho a x _ (putI hiS _ _ ((Below.refl _ _).alloc (Nat.le_refl _) _) (fun h => absurd rfl h) (fun _ => ⟨x.heap.size,rfl,I.bel.size,box_new x zero t⟩))
   ·refine hop i o hiN hiA hiS ho a x I.bel seen _ (fun v x' q1 q2 => putI hiS v x' q2 (fun _ => q1) (fun e => absurd e hiA))
 ·intro L a x I hd
  have dS := hd S (by omega)
  obtain ⟨bb,v,h1,h2,h3,h4,h5⟩ := I.fin dS
  obtain ⟨vs,hvs⟩ := I.val
  exact hend a x bb v I.df I.sz I.kp h1 h2 h3 h4 h5 I.bel ⟨vs,fun i hi hiS hiA => by
   obtain ⟨k1,k2⟩ := hvs i hi hiS (hd i (by omega))
   exact ⟨k1,fun hl => k2 hiA (I.no _ hl)⟩⟩
end Go.Proofs.YtncogjpmboglhaaGreat.Rg
