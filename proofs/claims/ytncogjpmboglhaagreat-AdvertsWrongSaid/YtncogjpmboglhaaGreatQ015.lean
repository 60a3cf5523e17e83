/-
  Names, pick, Tuple of the statements' own packages. Conditions as told.
-/
import Derived.Test.YtncogjpmboglhaaGreatQ014
import Derived.WalkKit
import Derived.Maps.AppendAt
import Derived.Lib.QuietBelow
import Derived.BigQuiet
import Derived.Test.YtncogjpmboglhaaGreatQ007
import Derived.Test.YtncogjpmboglhaaGreatQ012
import Derived.Test.YtncogjpmboglhaaGreatQ011
import Derived.Test.YtncogjpmboglhaaGreatQ005
import Derived.Test.YtncogjpmboglhaaGreatQ001
import Derived.Lib.Hide
set_option maxRecDepth 100000
set_option maxHeartbeats 64000000
namespace Go.Proofs.YtncogjpmboglhaaGreat.At
open Go.RowKit Va In
end Go.Proofs.YtncogjpmboglhaaGreat.At
namespace Go.Proofs.YtncogjpmboglhaaGreat.At
open Go.RowKit Go.Sort Va In
end Go.Proofs.YtncogjpmboglhaaGreat.At
namespace Go.Proofs.YtncogjpmboglhaaGreat.Bk
open Go.RowKit Rw YtncogjpmboglhaaGreat.Nm Pr
def ins8V (B b2 _ : Nat) (so : Option Addr) (sn sc at_ : Nat) (lo hiv : Value) (z : XEn) (lt ld : List XEn) (i : Nat) (v : Value) (x : World) : Prop :=
 match i with
 | 0 => ∃ g,v = .slice (some ⟨g,0,none⟩) 0 0 ∧ B ≤ g ∧ Box x g #[] 43
 | 1 => v = .pointer (some ⟨b2,4,none⟩)
 | 2 => v = .slice so sn sc
 | 3 => v = .int .i64 (at_ : Int)
 | 4 => v = lo
 | 5 => OwnN x B v lt
 | 6 => v = valN z
 | 7 => OwnN x B v [z]
 | 8 => OwnN x B v (lt ++ [z])
 | 9 => v = .pointer (some ⟨b2,4,none⟩)
 | 10 => v = .slice so sn sc
 | 11 => v = .int .i64 (at_ : Int)
 | 12 => v = hiv
 | 13 => OwnN x B v (lt ++ [z] ++ ld)
 | 14 => v = .pointer (some ⟨b2,4,none⟩)
 | _ => True
noncomputable def insR8 : Code := ((Tryz.f17.body.bind (findRegion 8)).getD .skip)
theorem ins8V_on (B b2 b3 : Nat) (so : Option Addr) (sn sc at_ : Nat) (lo hiv : Value) (z : XEn) (lt ld : List XEn) (i : Nat) (v : Value) (x x' : World) (h : ins8V B b2 b3 so sn sc at_ lo hiv z lt ld i v x) (hb : Below x.heap.size x x') : ins8V B b2 b3 so sn sc at_ lo hiv z lt ld i v x' := by
 by_cases hi : i < 15
 ·rcases (by omega : i = 0 ∨ i = 1 ∨ i = 2 ∨ i = 3 ∨ i = 4 ∨ i = 5 ∨ i = 6 ∨ i = 7 ∨ i = 8 ∨ i = 9 ∨ i = 10 ∨ i = 11 ∨ i = 12 ∨ i = 13 ∨ i = 14) with rfl | rfl | rfl | rfl | rfl | rfl | rfl | rfl | rfl | rfl | rfl | rfl | rfl | rfl | rfl
  ·obtain ⟨g,h1,h2,h3⟩ := h
   exact ⟨g,h1,h2,h3.on hb⟩
  ·exact h
  ·exact h
  ·exact h
  ·exact h
  ·exact own_on h hb
  ·exact h
  ·exact own_on h hb
  ·exact own_on h hb
  ·exact h
  ·exact h
  ·exact h
  ·exact h
  ·exact own_on h hb
  ·exact h
 ·unfold ins8V
  split <;> first | omega | trivial
theorem ins8 (Q : Exit → Act → World → Prop) (W : World) (b2 b3 : Nat) (me : Int) (y1 y2 y3 y5 : Value) (so : Option Addr) (sn sc at_ : Nat) (l : List XEn) (z : XEn) (u0 u1 u4 u5 u6 u8 u9 u10 u11 u12 u13 u14 u15 u16 u17 u18 u19 u20 u21 u22 u23 u24 u25 u26 u27 u28 u29 u30 u31 u32 u33 u34 u35 u36 u37 u38 u39 u40 u41 u42 u43 u44 u45 u46 u47 u48 u49 u50 u51 u52 u53 u54 u55 u56 u57 u58 u59 u60 u61 u62 u63 u64 u65 u66 u67 u68 u69 u70 u71 u72 u73 u74 u75 u76 u77 u78 u79 u80 u81 u82 u83 u84 u85 u86 u87 u88 u89 u90 u91 u92 u93 u94 u95 u96 u97 u98 u99 u100 u101 u102 u103 u104 u105 u106 u107 u108 u109 u110 u111 u112 u113 u114 : Value)
  (h2 : Box W b2 #[.int .i64 me,y1,y2,y3,.slice so sn sc,y5] 31) (hx : ∀ x,Below W.heap.size W x → ∀ j u,(cellsN z)[j]? = some u → x.cell? ((⟨b3,0,none⟩ : Addr).add j) = some u) (hs : RowN W (.slice so sn sc) l) (hat : at_ ≤ l.length) (hlen : l.length ≤ 900)
  (hQ : ∀ (x : World) (v97 v98 v99 v100 v101 v102 v103 v104 v105 v106 v107 v108 v109 v110 v111 : Value),Box x b2 #[.int .i64 me,y1,y2,y3,v110,y5] 31 → OwnN x W.heap.size v110 (l.take at_ ++ [z] ++ l.drop at_) → (∀ B,B ≤ b2 → Below B W x) → (∀ c cs t,c ≠ b2 → Box W c cs t → Box x c cs t) → (∀ k,k < W.heap.size → k ≠ b2 → x.heap[k]? = W.heap[k]?) → Q .normal ⟨(u0 :: u1 :: .pointer (some ⟨b2,0,none⟩) :: .pointer (some ⟨b3,0,none⟩) :: u4 :: u5 :: u6 :: .int .i64 (at_ : Int) :: u8 :: u9 :: u10 :: u11 :: u12 :: u13 :: u14 :: u15 :: u16 :: u17 :: u18 :: u19 :: u20 :: u21 :: u22 :: u23 :: u24 :: u25 :: u26 :: u27 :: u28 :: u29 :: u30 :: u31 :: u32 :: u33 :: u34 :: u35 :: u36 :: u37 :: u38 :: u39 :: u40 :: u41 :: u42 :: u43 :: u44 :: u45 :: u46 :: u47 :: u48 :: u49 :: u50 :: u51 :: u52 :: u53 :: u54 :: u55 :: u56 :: u57 :: u58 :: u59 :: u60 :: u61 :: u62 :: u63 :: u64 :: u65 :: u66 :: u67 :: u68 :: u69 :: u70 :: u71 :: u72 :: u73 :: u74 :: u75 :: u76 :: u77 :: u78 :: u79 :: u80 :: u81 :: u82 :: u83 :: u84 :: u85 :: u86 :: u87 :: u88 :: u89 :: u90 :: u91 :: u92 :: u93 :: u94 :: u95 :: u96 :: v97 :: v98 :: v99 :: v100 :: v101 :: v102 :: v103 :: v104 :: v105 :: v106 :: v107 :: v108 :: v109 :: v110 :: v111 :: u112 :: u113 :: u114 :: []).toArray,[]⟩ x) :
  Code.wp Tryz.prog insR8 Q ⟨(u0 :: u1 :: .pointer (some ⟨b2,0,none⟩) :: .pointer (some ⟨b3,0,none⟩) :: u4 :: u5 :: u6 :: .int .i64 (at_ : Int) :: u8 :: u9 :: u10 :: u11 :: u12 :: u13 :: u14 :: u15 :: u16 :: u17 :: u18 :: u19 :: u20 :: u21 :: u22 :: u23 :: u24 :: u25 :: u26 :: u27 :: u28 :: u29 :: u30 :: u31 :: u32 :: u33 :: u34 :: u35 :: u36 :: u37 :: u38 :: u39 :: u40 :: u41 :: u42 :: u43 :: u44 :: u45 :: u46 :: u47 :: u48 :: u49 :: u50 :: u51 :: u52 :: u53 :: u54 :: u55 :: u56 :: u57 :: u58 :: u59 :: u60 :: u61 :: u62 :: u63 :: u64 :: u65 :: u66 :: u67 :: u68 :: u69 :: u70 :: u71 :: u72 :: u73 :: u74 :: u75 :: u76 :: u77 :: u78 :: u79 :: u80 :: u81 :: u82 :: u83 :: u84 :: u85 :: u86 :: u87 :: u88 :: u89 :: u90 :: u91 :: u92 :: u93 :: u94 :: u95 :: u96 :: u97 :: u98 :: u99 :: u100 :: u101 :: u102 :: u103 :: u104 :: u105 :: u106 :: u107 :: u108 :: u109 :: u110 :: u111 :: u112 :: u113 :: u114 :: []).toArray,[]⟩ W := by
 have HQ := Lib.hid hQ
 have H2 := Lib.hid h2
 have LX := Lib.hid hx
 obtain ⟨lo,slo,rlo⟩ := row_lo okN hs at_ (by omega)
 obtain ⟨hiv,shi,rhi⟩ := row_hi okN hs (at_) hat
 have LT := Lib.hid (show (l.take at_).length ≤ 1000 by rw [List.length_take]; omega)
 have LTD := Lib.hid (show (l.take at_).length ≤ 900 by rw [List.length_take]; omega)
 have LD := Lib.hid (show (l.drop (at_)).length ≤ 1000 by rw [List.length_drop]; omega)
 generalize l.take at_ = lt at *
 generalize l.drop (at_) = ld at *
 have SL := Lib.hid slo
 have SH := Lib.hid shi
 have RL := Lib.hid rlo
 have RH := Lib.hid rhi
 clear hQ h2 hx hs slo shi rlo rhi hat hlen
 have stab := ins8V_on W.heap.size b2 b3 so sn sc at_ lo hiv z lt ld
 unfold insR8
 conv => arg 2; whnf
 have nd : ∀ j,(j < 97 ∨ 112 ≤ j) → ∀ i,i < 15 → (fun i => 97 + i) i ≠ j := by
  intro j hj i hi h
  simp only at h
  omega
 refine Rg.region_live 16 15 (fun i => 97 + i) (fun i => if i = 0 then 5 else if i = 5 then 8 else if i = 7 then 8 else if i = 8 then 13 else 15) (ins8V W.heap.size b2 b3 so sn sc at_ lo hiv z lt ld) (by kernel_rfl) (by kernel_rfl) rfl (by decide) (fun i j _ _ h => by have h2 : 97 + i = 97 + j := h; omega) (fun i hi => by show 97 + i < 115; omega) ?_ (fun _ => Rg.hall_of 1 (by kernel_rfl)) (fun kk o h1 h2 => by omega) ?_
 ·intro i o hi ho a x D hnd hc hD hb seen K hK
  clear HQ
  rcases (by omega : i = 0 ∨ i = 1 ∨ i = 2 ∨ i = 3 ∨ i = 4 ∨ i = 5 ∨ i = 6 ∨ i = 7 ∨ i = 8 ∨ i = 9 ∨ i = 10 ∨ i = 11 ∨ i = 12 ∨ i = 13 ∨ i = 14) with rfl | rfl | rfl | rfl | rfl | rfl | rfl | rfl | rfl | rfl | rfl | rfl | rfl | rfl | rfl
  ·obtain rfl := Option.some.inj ho
   exact Rg.op_value rfl rfl (Rg.ex_build a.eval _ 28 0 #[] rfl rfl (by simp [go_sem])) (hK (.slice (some ⟨x.heap.size,0,none⟩) 0 0) (x.alloc (.cells #[] 43)) ⟨x.heap.size,rfl,hb.size,box_new x #[] 43⟩ ((Below.refl _ _).alloc hb.size _) fun j u _ _ _ _ _ h => stab j u _ _ h ((Below.refl _ _).alloc (Nat.le_refl _) _))
  ·obtain rfl := Option.some.inj ho
   have e2 : a.eval (.tmp 2) = .pointer (some ⟨b2,0,none⟩) := seen.kp 2 _ (nd 2 (by omega)) rfl
   exact Rg.op_value rfl rfl (Rg.ex_field a.eval _ 31 (.tmp 2) 4 rfl (by rw [e2]; simp [go_sem])) (hK _ _ rfl (Below.refl _ _) fun _ _ _ _ _ _ _ h => h)
  ·obtain rfl := Option.some.inj ho
   have e98 : a.eval (.tmp 98) = .pointer (some ⟨b2,4,none⟩) := seen.at_ ⟨1,.data⟩ (by simp) rfl (Or.inr (by decide))
   have y := (H2.out.on hb).cell 4
   simp only [List.getElem?_toArray,List.getElem?_cons_zero,List.getElem?_cons_succ] at y
   exact Rg.op_value rfl rfl (Rg.ex_load a.eval _ 28 (.tmp 98) rfl (by rw [e98]; simp [go_sem,y])) (hK _ _ rfl (Below.refl _ _) fun _ _ _ _ _ _ _ h => h)
  ·obtain rfl := Option.some.inj ho
   have e7 : a.eval (.tmp 7) = .int .i64 (at_ : Int) := seen.kp 7 _ (nd 7 (by omega)) rfl
   exact Rg.op_value rfl rfl (Rg.ex_move a.eval _ (.tmp 7) rfl x) (hK _ _ e7 (Below.refl _ _) fun _ _ _ _ _ _ _ h => h)
  ·obtain rfl := Option.some.inj ho
   have e99 : a.eval (.tmp 99) = .slice so sn sc := seen.at_ ⟨2,.data⟩ (by simp) rfl (Or.inr (by decide))
   have e100 : a.eval (.tmp 100) = .int .i64 (at_ : Int) := seen.at_ ⟨3,.data⟩ (by simp) rfl (Or.inr (by decide))
   exact Rg.op_value rfl rfl (Rg.ex_slice a.eval _ 28 (.tmp 99) none (some (.tmp 100)) none rfl (by show (Instr.sliceAt 28 (a.eval (.tmp 99)) none (some (a.eval (.tmp 100))) none).run Tryz.prog x = .ok lo x; rw [e99,e100]; exact SL.out x)) (hK _ _ rfl (Below.refl _ _) fun _ _ _ _ _ _ _ h => h)
  ·obtain rfl := Option.some.inj ho
   obtain ⟨g,q0,hBg,hbx⟩ := seen.at_ ⟨0,.data⟩ (by simp) rfl (Or.inl rfl)
   have q0 : a.eval (.tmp 97) = .slice (some ⟨g,0,none⟩) 0 0 := q0
   have e101 : a.eval (.tmp 101) = lo := seen.at_ ⟨4,.data⟩ (by simp) rfl (Or.inr (by decide))
   obtain ⟨v',x',r,o',gr⟩ := app_fresh okN W.heap.size hbx hBg (RL.out.on hb) LT.out 28
   exact Rg.op_value rfl rfl (Rg.ex_append a.eval _ (.tmp 97) (.tmp 101) 28 rfl q0 e101 r) (hK v' x' o' (gr.mono hb.size) fun j u _ _ _ _ _ h => stab j u _ _ h gr)
  ·obtain rfl := Option.some.inj ho
   have e3 : a.eval (.tmp 3) = .pointer (some ⟨b3,0,none⟩) := seen.kp 3 _ (nd 3 (by omega)) rfl
   exact Rg.op_value rfl rfl (Rg.ex_load a.eval _ 43 (.tmp 3) rfl (by rw [e3]; exact loadN x _ z (LX.out x hb))) (hK _ _ rfl (Below.refl _ _) fun _ _ _ _ _ _ _ h => h)
  ·obtain rfl := Option.some.inj ho
   have e103 : a.eval (.tmp 103) = valN z := seen.at_ ⟨6,.data⟩ (by simp) rfl (Or.inr (by decide))
   have hl := row_lit okN x [z] 1 rfl (by simp) (cellsN z).toArray (by simp [flat,EN])
   have hl : OwnN (x.alloc (.cells (cellsN z).toArray 43)) x.heap.size (.slice (some ⟨x.heap.size,0,none⟩) 1 1) [z] := hl
   exact Rg.op_value rfl rfl (Rg.ex_build a.eval _ 28 1 #[(0,.tmp 103)] rfl (ps := #[(0,valN z)]) (by simp [e103]) (by simp [go_sem])) (hK (.slice (some ⟨x.heap.size,0,none⟩) 1 1) (x.alloc (.cells (cellsN z).toArray 43)) (own_fewer hl hb.size) ((Below.refl _ _).alloc hb.size _) fun j u _ _ _ _ _ h => stab j u _ _ h ((Below.refl _ _).alloc (Nat.le_refl _) _))
  ·obtain rfl := Option.some.inj ho
   have o102 : OwnN x W.heap.size (a.eval (.tmp 102)) (lt) := seen.at_ ⟨5,.data⟩ (by simp) rfl (Or.inl rfl)
   have o104 : OwnN x W.heap.size (a.eval (.tmp 104)) ([z]) := seen.at_ ⟨7,.data⟩ (by simp) rfl (Or.inl rfl)
   have ox := Row.of_own o104
   obtain ⟨v',x',r,o',gr⟩ := app_row okN W.heap.size o102 ox (by have := LT.out; omega) (by simp) hb.size 28
   exact Rg.op_value rfl rfl (Rg.ex_append a.eval _ (.tmp 102) (.tmp 104) 28 rfl rfl rfl r) (hK v' x' o' ((Below.refl _ x).grown gr hb.size fun j hj => (o102.lt j hj).1) fun j u hj dj nl nx ni h => by
    rcases (by omega : j = 0 ∨ j = 1 ∨ j = 2 ∨ j = 3 ∨ j = 4 ∨ j = 5 ∨ j = 6 ∨ j = 7 ∨ j = 8 ∨ j = 9 ∨ j = 10 ∨ j = 11 ∨ j = 12 ∨ j = 13 ∨ j = 14) with rfl | rfl | rfl | rfl | rfl | rfl | rfl | rfl | rfl | rfl | rfl | rfl | rfl | rfl | rfl
    ·exact absurd rfl (fun _ : (0 : Nat) = 0 => nl (hc 5 _ (hD ⟨5,.data⟩ (by simp) rfl) rfl ⟨0,.data⟩ (by simp) rfl |> fun _ => hD ⟨5,.data⟩ (by simp) rfl))
    ·exact h
    ·exact h
    ·exact h
    ·exact h
    ·exact absurd rfl (fun _ : (0 : Nat) = 0 => nx rfl)
    ·exact h
    ·exact absurd rfl (fun _ : (0 : Nat) = 0 => nx rfl)
    ·exact absurd rfl (fun _ : (0 : Nat) = 0 => ni rfl)
    ·exact h
    ·exact h
    ·exact h
    ·exact h
    ·exact absurd rfl (fun _ : (0 : Nat) = 0 => hnd (hc 13 _ dj rfl ⟨8,.data⟩ (by simp) rfl))
    ·exact h)
  ·obtain rfl := Option.some.inj ho
   have e2 : a.eval (.tmp 2) = .pointer (some ⟨b2,0,none⟩) := seen.kp 2 _ (nd 2 (by omega)) rfl
   exact Rg.op_value rfl rfl (Rg.ex_field a.eval _ 31 (.tmp 2) 4 rfl (by rw [e2]; simp [go_sem])) (hK _ _ rfl (Below.refl _ _) fun _ _ _ _ _ _ _ h => h)
  ·obtain rfl := Option.some.inj ho
   have e106 : a.eval (.tmp 106) = .pointer (some ⟨b2,4,none⟩) := seen.at_ ⟨9,.data⟩ (by simp) rfl (Or.inr (by decide))
   have y := (H2.out.on hb).cell 4
   simp only [List.getElem?_toArray,List.getElem?_cons_zero,List.getElem?_cons_succ] at y
   exact Rg.op_value rfl rfl (Rg.ex_load a.eval _ 28 (.tmp 106) rfl (by rw [e106]; simp [go_sem,y])) (hK _ _ rfl (Below.refl _ _) fun _ _ _ _ _ _ _ h => h)
  ·obtain rfl := Option.some.inj ho
   have e7 : a.eval (.tmp 7) = .int .i64 (at_ : Int) := seen.kp 7 _ (nd 7 (by omega)) rfl
   exact Rg.op_value rfl rfl (Rg.ex_move a.eval _ (.tmp 7) rfl x) (hK _ _ e7 (Below.refl _ _) fun _ _ _ _ _ _ _ h => h)
  ·obtain rfl := Option.some.inj ho
   have e107 : a.eval (.tmp 107) = .slice so sn sc := seen.at_ ⟨10,.data⟩ (by simp) rfl (Or.inr (by decide))
   have e108 : a.eval (.tmp 108) = .int .i64 (at_ : Int) := seen.at_ ⟨11,.data⟩ (by simp) rfl (Or.inr (by decide))
   exact Rg.op_value rfl rfl (Rg.ex_slice a.eval _ 28 (.tmp 107) (some (.tmp 108)) none none rfl (by show (Instr.sliceAt 28 (a.eval (.tmp 107)) (some (a.eval (.tmp 108))) none none).run Tryz.prog x = .ok hiv x; rw [e107,e108]; exact SH.out x)) (hK _ _ rfl (Below.refl _ _) fun _ _ _ _ _ _ _ h => h)
  ·obtain rfl := Option.some.inj ho
   have o105 : OwnN x W.heap.size (a.eval (.tmp 105)) ((lt ++ [z])) := seen.at_ ⟨8,.data⟩ (by simp) rfl (Or.inl rfl)
   have e109 : a.eval (.tmp 109) = hiv := seen.at_ ⟨12,.data⟩ (by simp) rfl (Or.inr (by decide))
   have ox : RowN x (a.eval (.tmp 109)) ld := by rw [e109]; exact RH.out.on hb
   obtain ⟨v',x',r,o',gr⟩ := app_row okN W.heap.size o105 ox (by have := LTD.out; rw [List.length_append,List.length_singleton]; omega) LD.out hb.size 28
   exact Rg.op_value rfl rfl (Rg.ex_append a.eval _ (.tmp 105) (.tmp 109) 28 rfl rfl rfl r) (hK v' x' o' ((Below.refl _ x).grown gr hb.size fun j hj => (o105.lt j hj).1) fun j u hj dj nl nx ni h => by
    rcases (by omega : j = 0 ∨ j = 1 ∨ j = 2 ∨ j = 3 ∨ j = 4 ∨ j = 5 ∨ j = 6 ∨ j = 7 ∨ j = 8 ∨ j = 9 ∨ j = 10 ∨ j = 11 ∨ j = 12 ∨ j = 13 ∨ j = 14) with rfl | rfl | rfl | rfl | rfl | rfl | rfl | rfl | rfl | rfl | rfl | rfl | rfl | rfl | rfl
    ·exact absurd rfl (fun _ : (0 : Nat) = 0 => nl (hc 8 _ (hD ⟨8,.data⟩ (by simp) rfl) rfl ⟨5,.data⟩ (by simp) rfl))
    ·exact h
    ·exact h
    ·exact h
    ·exact h
    ·exact absurd rfl (fun _ : (0 : Nat) = 0 => nl (hD ⟨8,.data⟩ (by simp) rfl))
    ·exact h
    ·exact absurd rfl (fun _ : (0 : Nat) = 0 => nl (hD ⟨8,.data⟩ (by simp) rfl))
    ·exact absurd rfl (fun _ : (0 : Nat) = 0 => nx rfl)
    ·exact h
    ·exact h
    ·exact h
    ·exact h
    ·exact absurd rfl (fun _ : (0 : Nat) = 0 => ni rfl)
    ·exact h)
  ·obtain rfl := Option.some.inj ho
   have e2 : a.eval (.tmp 2) = .pointer (some ⟨b2,0,none⟩) := seen.kp 2 _ (nd 2 (by omega)) rfl
   exact Rg.op_value rfl rfl (Rg.ex_field a.eval _ 31 (.tmp 2) 4 rfl (by rw [e2]; simp [go_sem])) (hK _ _ rfl (Below.refl _ _) fun _ _ _ _ _ _ _ h => h)
 ·intro a w' df sz kp ⟨vs,hv⟩ hb
  have gr : a.tmps[110]? = some (vs 13) := (hv 13 (by omega)).1
  have gp : a.tmps[111]? = some (.pointer (some ⟨b2,4,none⟩)) := by
   have h : vs 14 = .pointer (some ⟨b2,4,none⟩) := (hv 14 (by omega)).2 (by decide)
   rw [← h]
   exact (hv 14 (by omega)).1
  have oR : OwnN w' W.heap.size (vs 13) (lt ++ [z] ++ ld) := (hv 13 (by omega)).2 (by decide)
  generalize vs 13 = xR at *
  obtain ⟨ca,cp,eR⟩ := (Row.of_own oR).len
  have hbx := H2.out.on hb
  have hblt := H2.out.lt
  have c5 := hbx.cell 4
  have f5 := hbx.fr 4
  simp only [List.getElem?_toArray,List.getElem?_cons_zero,List.getElem?_cons_succ] at c5
  have hb1 := box_set (k := 4) hbx xR
  show Rg.SeqFrom _ _ _ 1 15 a w'
  simp only [Rg.SeqFrom]
  refine Rg.op_store 28 (.tmp 111) (.tmp 110) rfl rfl rfl rfl (Rg.eval_some gp) (Rg.eval_some gr) (w' := w'.setCell ⟨b2,4,none⟩ xR) (by rw [eR]; simp [go_sem,c5,f5]) ?_
  have kp2 : ∀ j,(j < 97 ∨ 112 ≤ j) → a.tmps[j]? = (u0 :: u1 :: .pointer (some ⟨b2,0,none⟩) :: .pointer (some ⟨b3,0,none⟩) :: u4 :: u5 :: u6 :: .int .i64 (at_ : Int) :: u8 :: u9 :: u10 :: u11 :: u12 :: u13 :: u14 :: u15 :: u16 :: u17 :: u18 :: u19 :: u20 :: u21 :: u22 :: u23 :: u24 :: u25 :: u26 :: u27 :: u28 :: u29 :: u30 :: u31 :: u32 :: u33 :: u34 :: u35 :: u36 :: u37 :: u38 :: u39 :: u40 :: u41 :: u42 :: u43 :: u44 :: u45 :: u46 :: u47 :: u48 :: u49 :: u50 :: u51 :: u52 :: u53 :: u54 :: u55 :: u56 :: u57 :: u58 :: u59 :: u60 :: u61 :: u62 :: u63 :: u64 :: u65 :: u66 :: u67 :: u68 :: u69 :: u70 :: u71 :: u72 :: u73 :: u74 :: u75 :: u76 :: u77 :: u78 :: u79 :: u80 :: u81 :: u82 :: u83 :: u84 :: u85 :: u86 :: u87 :: u88 :: u89 :: u90 :: u91 :: u92 :: u93 :: u94 :: u95 :: u96 :: u97 :: u98 :: u99 :: u100 :: u101 :: u102 :: u103 :: u104 :: u105 :: u106 :: u107 :: u108 :: u109 :: u110 :: u111 :: u112 :: u113 :: u114 :: [])[j]? := fun j hj => (kp j (nd j hj)).trans List.getElem?_toArray
  obtain ⟨mid,hmid,rfl⟩ := Rg.frame_mid 97 15 df sz (by simp) kp2
  match mid,hmid with
  | [v97,v98,v99,v100,v101,v102,v103,v104,v105,v106,v107,v108,v109,v110,v111],_ =>
   have e1 : some v110 = some xR := gr
   obtain rfl := Option.some.inj e1
   refine HQ.out _ v97 v98 v99 v100 v101 v102 v103 v104 v105 v106 v107 v108 v109 v110 v111 ?_ ?_ ?_ ?_ ?_
   ·simpa using hb1
   ·exact own_cell oR b2 4 _ hblt
   ·exact fun B hB => (hb.mono (Nat.le_of_lt (Nat.lt_of_le_of_lt hB hblt))).setCell hB _
   ·intro c cs t hc hbc
    exact (RowKit.Below.heap_setCell _ _ _ _ hc).trans (hbc.on hb)
   ·intro k hk hne
    exact (RowKit.Below.heap_setCell _ _ _ _ hne).trans (hb.block k hk)
end Go.Proofs.YtncogjpmboglhaaGreat.Bk
namespace Go.Proofs.YtncogjpmboglhaaGreat.Pr
open Go.RowKit Go.Sort Pu Rw
end Go.Proofs.YtncogjpmboglhaaGreat.Pr
