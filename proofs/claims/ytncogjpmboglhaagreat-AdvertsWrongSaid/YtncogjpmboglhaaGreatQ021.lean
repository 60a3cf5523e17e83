/-
  Lists that are the same; Same of IDs. Conditions as told.
-/
import Derived.Test.YtncogjpmboglhaaGreatQ018
import Derived.Test.YtncogjpmboglhaaGreatQ020
import Derived.Lib.QuietBelow
import Derived.BigQuiet
import Derived.Test.YtncogjpmboglhaaGreatQ007
import Derived.Test.YtncogjpmboglhaaGreatQ012
import Derived.Test.YtncogjpmboglhaaGreatQ011
import Derived.Test.YtncogjpmboglhaaGreatQ014
import Derived.Test.YtncogjpmboglhaaGreatQ000
import Derived.Test.YtncogjpmboglhaaGreatQ001
import Derived.ChangeArms
set_option maxRecDepth 100000
set_option maxHeartbeats 64000000
namespace Go.Proofs.YtncogjpmboglhaaGreat.Bk
open Go.RowKit Go.Sort Rw YtncogjpmboglhaaGreat.Nm Pr
def sameG {α : Type} (eq : α → α → Bool) : List α → List α → Bool
 | [],[] => true
 | x :: l,y :: m => eq x y && sameG eq l m
 | _,_ => false
theorem sameG_len {α : Type} {eq : α → α → Bool} : ∀ l m,sameG eq l m = true → l.length = m.length
 | [],[],_ => rfl
 | x :: l,y :: m,h => by
  simp only [sameG,Bool.and_eq_true] at h
  simp [sameG_len l m h.2]
 | [],y :: m,h => by simp [sameG] at h
 | x :: l,[],h => by simp [sameG] at h
theorem sameG_all {α : Type} {eq : α → α → Bool} : ∀ l m,l.length = m.length → (∀ (k : Nat) (x y : α),l[k]? = some x → m[k]? = some y → eq x y = true) → sameG eq l m = true
 | [],[],_,_ => rfl
 | x :: l,y :: m,hl,h => by
  simp only [sameG,Bool.and_eq_true]
  exact ⟨h 0 x y rfl rfl,sameG_all l m (by simpa using hl) (fun k a b ha hb => h (k + 1) a b (by simpa using ha) (by simpa using hb))⟩
 | [],y :: m,hl,_ => by simp at hl
 | x :: l,[],hl,_ => by simp at hl
theorem sameG_not {α : Type} {eq : α → α → Bool} : ∀ (l m : List α) (k : Nat) (x y : α),l[k]? = some x → m[k]? = some y → eq x y = false → sameG eq l m = false
 | [],_,k,x,y,h,_,_ => by simp at h
 | _ :: _,[],k,x,y,_,h,_ => by simp at h
 | a :: l,b :: m,0,x,y,h1,h2,h3 => by
  simp at h1 h2
  subst h1 h2
  simp [sameG,h3]
 | a :: l,b :: m,k + 1,x,y,h1,h2,h3 => by
  simp only [sameG,sameG_not l m k x y (by simpa using h1) (by simpa using h2) h3,Bool.and_false]
theorem sameG_iff {α : Type} {eq : α → α → Bool} (he : ∀ x y,eq x y = true ↔ x = y) : ∀ l m : List α,sameG eq l m = true ↔ l = m
 | [],[] => by simp [sameG]
 | x :: l,y :: m => by
  simp only [sameG,Bool.and_eq_true,he,sameG_iff he l m,List.cons.injEq]
 | [],y :: m => by simp [sameG]
 | x :: l,[] => by simp [sameG]
def eqI (x y : Id) : Bool := x.1 == y.1 && x.2 == y.2
theorem eqI_iff (x y : Id) : eqI x y = true ↔ x = y := by
 obtain ⟨a,b⟩ := x
 obtain ⟨c,d⟩ := y
 simp [eqI]
def eqE (x y : En) : Bool := eqI x.tree y.tree && (eqI x.sub y.sub && (x.from_ == y.from_ && (x.up == y.up && sameC x.p y.p)))
theorem eqE_iff (x y : En) : eqE x y = true ↔ x = y := by
 obtain ⟨a,b,c,d,e⟩ := x
 obtain ⟨a',b',c',d',e'⟩ := y
 simp only [eqE,Bool.and_eq_true,eqI_iff,sameC_iff,beq_iff_eq,En.mk.injEq]
 constructor
 ·rintro ⟨h1,h2,h3,h4,h5⟩
  exact ⟨h1,h2,h5,h3,h4⟩
 ·rintro ⟨h1,h2,h3,h4,h5⟩
  exact ⟨h1,h2,h4,h5,h3⟩
theorem at_left {α β : Type} {R : α → β → Prop} : ∀ {l m} (_ : All2 R l m) (k : Nat) (a : α),l[k]? = some a → ∃ b,m[k]? = some b ∧ R a b
 | _,_,.nil,k,b,h => by simp at h
 | _,_,.cons x t,0,b,h => by
  simp at h
  subst h
  exact ⟨_,rfl,x⟩
 | _,_,.cons x t,k + 1,b,h => by
  obtain ⟨a,h1,h2⟩ := at_left t k b (by simpa using h)
  exact ⟨a,by simpa using h1,h2⟩
end Go.Proofs.YtncogjpmboglhaaGreat.Bk
namespace Go.Proofs.YtncogjpmboglhaaGreat.Rl
open Go.RowKit Pu Rw Pr Va
def covF (x y : Cn) : Bool := decide (y.1 = x.1) && impliesK y.2 x.2
theorem any_more {α : Type} (f : α → Bool) (l : List α) (k : Nat) (y : α) (h : l[k]? = some y) : (l.take (k + 1)).any f = ((l.take k).any f || f y) := by
 rw [List.take_add_one,h,List.any_append]
 simp
theorem all_more {α : Type} (f : α → Bool) (l : List α) (k : Nat) (y : α) (h : l[k]? = some y) : (l.take (k + 1)).all f = ((l.take k).all f && f y) := by
 rw [List.take_add_one,h,List.all_append]
 simp
theorem all_not {α : Type} (f : α → Bool) (l : List α) (k : Nat) (y : α) (h : l[k]? = some y) (hf : f y = false) : l.all f = false := by
 rw [List.all_eq_false]
 exact ⟨y,List.mem_of_getElem? h,by simp [hf]⟩
theorem str_eq (a b : ByteArray) (h : a = b) : (a.toList == b.toList) = true := by simp [h]
theorem str_ne (a b : ByteArray) (h : ¬ a = b) : (a.toList == b.toList) = false := by
 rw [beq_eq_false_iff_ne]
 intro e
 rw [Lib.toList_data,Lib.toList_data] at e
 exact h (bytes_eq e)
theorem rcovers_any (av_ bv : Value) (a b : List Cn) (w : World) (ha : RowC w av_ (a.map r5)) (hb : RowC w bv (b.map r5)) (hl : a.length ≤ 100) (hm : b.length ≤ 100) :
  Calls Tryz.prog 73 #[av_,bv] w fun e w' => e = .returned (.bool (coversL a b)) ∧ Below w.heap.size w w' := by
 have HA := Lib.hid ha
 have HB := Lib.hid hb
 have CO := Lib.hid (show coversL a b = a.all fun x => b.any (covF x) from rfl)
 obtain ⟨ao,ac,rfl⟩ := ha.len
 obtain ⟨bo,bc,rfl⟩ := hb.len
 clear ha hb
 rw [List.length_map] at HA HB ⊢
 rw [List.length_map]
 generalize coversL a b = r at *
 generalize hn : a.length = n at *
 generalize hm' : b.length = m at *
 have HN := Lib.hid hn
 have HM := Lib.hid hm'
 clear hn hm'
 go_enter Tryz.func73,Tryz.ntmps73
 go_wp2
 go_loopw [12] (fun i wr => ∃ k : Nat,k ≤ n ∧ i = .int .i64 k ∧ Below w.heap.size w wr ∧ (a.take k).all (fun x => b.any (covF x)) = true) (fun i _ => n - (intOf i).toNat)
 case atStart => exact ⟨0,Nat.zero_le _,rfl,Below.refl _ _,rfl⟩
 case round =>
  obtain ⟨k,hk,rfl,hbe,hall⟩ := hrel
  have BE := Lib.hid hbe
  have AL := Lib.hid hall
  clear hbe hall
  by_cases hlt : k < n
  ·obtain ⟨x,hx⟩ : ∃ x,a[k]? = some x := ⟨_,List.getElem?_eq_getElem (by rw [HN.out]; exact hlt)⟩
   obtain ⟨p,ix,px⟩ := elC HA.out rfl (by rw [List.length_map]; exact HN.out) (show (a.map r5)[k]? = some (r5 x) by rw [List.getElem?_map,hx]; rfl)
   have p0 := (px _ BE.out).1
   have p1 := (px _ BE.out).2.1
   have p2 := (px _ BE.out).2.2.1
   have p3 := (px _ BE.out).2.2.2.1
   have p4 := (px _ BE.out).2.2.2.2
   have HX := Lib.hid hx
   have B1 := Lib.hid (BE.out.alloc BE.out.size (.cells #[.string (r5 x).1,.int .i64 (r5 x).2.1,.int .i64 (r5 x).2.2.1,.int .i64 (r5 x).2.2.2.1,.string (r5 x).2.2.2.2] 47))
   have Z1 := Lib.hid (show wr.heap.size < (wr.alloc (.cells #[.string (r5 x).1,.int .i64 (r5 x).2.1,.int .i64 (r5 x).2.2.1,.int .i64 (r5 x).2.2.2.1,.string (r5 x).2.2.2.2] 47)).heap.size by simp)
   have e0 : (wr.alloc (.cells #[.string (r5 x).1,.int .i64 (r5 x).2.1,.int .i64 (r5 x).2.2.1,.int .i64 (r5 x).2.2.2.1,.string (r5 x).2.2.2.2] 47)).cell? ⟨wr.heap.size,0,none⟩ = some (.string (r5 x).1) := by simp [go_sem]
   have e1 : (wr.alloc (.cells #[.string (r5 x).1,.int .i64 (r5 x).2.1,.int .i64 (r5 x).2.2.1,.int .i64 (r5 x).2.2.2.1,.string (r5 x).2.2.2.2] 47)).cell? ⟨wr.heap.size,1,none⟩ = some (.int .i64 (r5 x).2.1) := by simp [go_sem]
   have e2 : (wr.alloc (.cells #[.string (r5 x).1,.int .i64 (r5 x).2.1,.int .i64 (r5 x).2.2.1,.int .i64 (r5 x).2.2.2.1,.string (r5 x).2.2.2.2] 47)).cell? ⟨wr.heap.size,2,none⟩ = some (.int .i64 (r5 x).2.2.1) := by simp [go_sem]
   have e3 : (wr.alloc (.cells #[.string (r5 x).1,.int .i64 (r5 x).2.1,.int .i64 (r5 x).2.2.1,.int .i64 (r5 x).2.2.2.1,.string (r5 x).2.2.2.2] 47)).cell? ⟨wr.heap.size,3,none⟩ = some (.int .i64 (r5 x).2.2.2.1) := by simp [go_sem]
   have e4 : (wr.alloc (.cells #[.string (r5 x).1,.int .i64 (r5 x).2.1,.int .i64 (r5 x).2.2.1,.int .i64 (r5 x).2.2.2.1,.string (r5 x).2.2.2.2] 47)).cell? ⟨wr.heap.size,4,none⟩ = some (.string (r5 x).2.2.2.2) := by simp [go_sem]
   clear px hx
   go_wp2
   generalize wr.alloc (.cells #[.string (r5 x).1,.int .i64 (r5 x).2.1,.int .i64 (r5 x).2.2.1,.int .i64 (r5 x).2.2.2.1,.string (r5 x).2.2.2.2] 47) = W1 at *
   generalize wr.heap.size = bx at *
   have E0 := Lib.hid e0
   have E1 := Lib.hid e1
   have E2 := Lib.hid e2
   have E3 := Lib.hid e3
   have E4 := Lib.hid e4
   clear e0 e1 e2 e3 e4 ix p0 p1 p2 p3 p4
   go_loopw [7,18] (fun v i wi => ∃ j : Nat,j ≤ m ∧ i = .int .i64 j ∧ v = .bool ((b.take j).any (covF x)) ∧ Below W1.heap.size W1 wi) (fun _ i _ => m - (intOf i).toNat)
   case atStart => exact ⟨0,Nat.zero_le _,rfl,rfl,Below.refl _ _⟩
   case round =>
    obtain ⟨j,hj,rfl,rfl,hbi⟩ := hrel
    have BI := Lib.hid hbi
    have TK := Lib.hid (B1.out.trans (hbi.mono B1.out.size))
    clear hbi
    by_cases hjt : j < m
    ·obtain ⟨y,hy⟩ : ∃ y,b[j]? = some y := ⟨_,List.getElem?_eq_getElem (by rw [HM.out]; exact hjt)⟩
     obtain ⟨q,iy,py⟩ := elC HB.out rfl (by rw [List.length_map]; exact HM.out) (show (b.map r5)[j]? = some (r5 y) by rw [List.getElem?_map,hy]; rfl)
     have q0 := (py _ TK.out).1
     have q1 := (py _ TK.out).2.1
     have q2 := (py _ TK.out).2.2.1
     have q3 := (py _ TK.out).2.2.2.1
     have q4 := (py _ TK.out).2.2.2.2
     have MO := Lib.hid (any_more (covF x) b j y hy)
     have BI2 := Lib.hid (BI.out.alloc BI.out.size (.cells #[.string (r5 y).1,.int .i64 (r5 y).2.1,.int .i64 (r5 y).2.2.1,.int .i64 (r5 y).2.2.2.1,.string (r5 y).2.2.2.2] 47))
     have f0 := (BI2.out.cell (p := ⟨bx,0,none⟩) Z1.out).trans E0.out
     have f1 := (BI2.out.cell (p := ⟨bx,1,none⟩) Z1.out).trans E1.out
     have f2 := (BI2.out.cell (p := ⟨bx,2,none⟩) Z1.out).trans E2.out
     have f3 := (BI2.out.cell (p := ⟨bx,3,none⟩) Z1.out).trans E3.out
     have f4 := (BI2.out.cell (p := ⟨bx,4,none⟩) Z1.out).trans E4.out
     clear py hy
     cases hv : (b.take j).any (covF x)
     ·rw [hv] at MO
      clear hv
      by_cases hne : y.1 = x.1
      ·have g0 := str_eq (r5 y).1 (r5 x).1 hne
       have CV := Lib.hid (show covF x y = impliesK y.2 x.2 by simp [covF,hne])
       go_wp2_with fail
       refine (implies_any y x _).mono ?_
       rintro e w2 ⟨rfl,hc⟩
       have BC := Lib.hid (BI2.out.trans (hc.mono BI2.out.size))
       clear hc
       go_wp2
       go_roundw
       case rel => exact ⟨j + 1,by omega,by go_num,by rw [MO.out,CV.out]; rfl,BC.out⟩
       case measure => simp [intOf]; omega
      ·have g0 := str_ne (r5 y).1 (r5 x).1 hne
       have CV := Lib.hid (show covF x y = false by simp [covF,hne])
       go_wp2
       go_roundw
       case rel => exact ⟨j + 1,by omega,by go_num,by rw [MO.out,CV.out]; rfl,BI2.out⟩
       case measure => simp [intOf]; omega
     ·rw [hv] at MO
      clear hv
      go_wp2
      go_roundw
      case rel => exact ⟨j + 1,by omega,by go_num,by rw [MO.out]; rfl,BI2.out⟩
      case measure => simp [intOf]; omega
    ·obtain rfl : j = m := by omega
     have TA := Lib.hid (show (b.take j).any (covF x) = b.any (covF x) by rw [← HM.out,List.take_length])
     have AM := Lib.hid (all_more (fun x => b.any (covF x)) a k x HX.out)
     rw [TA.out]
     cases hv : b.any (covF x)
     ·have R := Lib.hid (show r = false from CO.out.trans (all_not _ a k x HX.out hv))
      clear hv
      go_wp2
      go_ret
      exact ⟨ret_bool R.out.symm,TK.out⟩
     ·have HV := Lib.hid hv
      clear hv
      go_wp2
      go_roundw
      case rel => exact ⟨k + 1,by omega,by go_num,TK.out,by rw [AM.out,AL.out,HV.out]; rfl⟩
      case measure => simp [intOf]; omega
  ·obtain rfl : k = n := by omega
   have R := Lib.hid (show r = true by rw [CO.out,← AL.out,← HN.out,List.take_length])
   go_wp2
   go_ret
   exact ⟨ret_bool R.out.symm,BE.out⟩
end Go.Proofs.YtncogjpmboglhaaGreat.Rl
namespace Go.Proofs.YtncogjpmboglhaaGreat.Bk
open Go.RowKit Rw YtncogjpmboglhaaGreat.Nm Pr
def findK {κ : Type} [DecidableEq κ] : List κ → κ → Int
 | [],_ => -1
 | a :: l,x => if a = x then 0 else if findK l x = -1 then -1 else findK l x + 1
theorem findK_none {κ : Type} [DecidableEq κ] (l : List κ) (x : κ) (h : ∀ (j : Nat) (y : κ),l[j]? = some y → y ≠ x) : findK l x = -1 := by
 induction l with
 | nil => rfl
 | cons a l ih => rw [findK,if_neg (h 0 a rfl),ih fun j y hj => h (j + 1) y (by simpa using hj),if_pos rfl]
theorem findK_at {κ : Type} [DecidableEq κ] (l : List κ) (k : Nat) (x : κ) (h : l[k]? = some x) (hall : ∀ (j : Nat) (z : κ),j < k → l[j]? = some z → z ≠ x) : findK l x = k := by
 induction l generalizing k with
 | nil => simp at h
 | cons a l ih =>
  cases k with
  | zero =>
   obtain rfl : a = x := by simpa using h
   rw [findK,if_pos rfl]
   rfl
  | succ k =>
   have h2 := ih k (by simpa using h) fun j z hj hz => hall (j + 1) z (by omega) (by simpa using hz)
   rw [findK,if_neg (hall 0 a (by omega) rfl),h2,if_neg (by omega)]
   omega
theorem findK_or {κ : Type} [DecidableEq κ] (l : List κ) (x : κ) : findK l x = -1 ∨ ∃ k : Nat,findK l x = k ∧ l[k]? = some x := by
 induction l with
 | nil => exact Or.inl rfl
 | cons a l ih =>
  rw [findK]
  by_cases h : a = x
  ·rw [if_pos h]
   exact Or.inr ⟨0,rfl,by rw [h]; rfl⟩
  ·rw [if_neg h]
   rcases ih with h2 | ⟨k,h2,h3⟩
   ·rw [if_pos h2]
    exact Or.inl rfl
   ·rw [if_neg (by omega),h2]
    exact Or.inr ⟨k + 1,by omega,by simpa using h3⟩
abbrev keyN (e : XEn) : Id × Id := ((e.1,e.2.1),(e.2.2.1,e.2.2.2.1))
theorem rentry_any (me : Int) (nv av sv ov : Value) (ev : Sl) (l : List XEn) (x z : Id) (w : World) (hs : RowN w (slv ev) l) :
  Calls Tryz.prog 79 #[.agg #[.int .i64 me,nv,av,sv,slv ev,ov],idv x,idv z] w fun e w' => e = .returned (.int .i64 (findK (l.map keyN) (x,z))) ∧ Below w.heap.size w w' := by
 obtain ⟨c,d⟩ := x
 obtain ⟨g,h⟩ := z
 obtain ⟨so,sn,sc⟩ := ev
 obtain ⟨ao,ac,hv⟩ := hs.len
 have hv : Value.slice so sn sc = .slice ao l.length ac := hv
 obtain ⟨rfl,rfl,rfl⟩ : so = ao ∧ sn = l.length ∧ sc = ac := by simpa using hv
 obtain ⟨h0,h1,h2,h3⟩ := three_new w #[.int .i64 me,nv,av,sv,.slice so l.length sc,ov] #[.int .i64 c,.int .i64 d] #[.int .i64 g,.int .i64 h] 31 38 38
 have B := Lib.hid h0
 have HS := Lib.hid (hs.on h0)
 have X2 := Lib.hid h1
 have X3 := Lib.hid h2
 have X4 := Lib.hid h3
 have lm := hs.most
 unfold maxLen at lm
 obtain ⟨n,hn⟩ : ∃ n,n = l.length := ⟨_,rfl⟩
 have q3 := h1.cell 4
 simp only [List.getElem?_toArray,List.getElem?_cons_zero,List.getElem?_cons_succ] at q3
 rw [← hn] at HS X2 lm q3 B X3 X4 ⊢
 have HN := Lib.hid hn.symm
 clear h0 h1 h2 h3 hs hv hn
 go_enter Tryz.func79,Tryz.ntmps79
 go_upto_region 1 with fail
 generalize ((w.alloc (.cells #[.int .i64 me,nv,av,sv,.slice so n sc,ov] 31)).alloc (.cells #[.int .i64 c,.int .i64 d] 38)).alloc (.cells #[.int .i64 g,.int .i64 h] 38) = W at *
 go_wp2
 go_loopw [12] (fun i wr => ∃ k : Nat,k ≤ n ∧ i = .int .i64 k ∧ Below W.heap.size W wr ∧ ∀ (j : Nat) (y : XEn),j < k → l[j]? = some y → keyN y ≠ ((c,d),(g,h))) (fun i _ => n - (intOf i).toNat)
 case atStart => exact ⟨0,Nat.zero_le _,rfl,Below.refl _ _,fun j y h => by omega⟩
 case round =>
  obtain ⟨k,hk,rfl,hbe,hall⟩ := hrel
  have BE := Lib.hid hbe
  have AL := Lib.hid hall
  clear hbe hall
  by_cases hlt : k < n
  ·obtain ⟨y,hy⟩ : ∃ y,l[k]? = some y := ⟨_,List.getElem?_eq_getElem (by rw [HN.out]; exact hlt)⟩
   obtain ⟨p,ix,px⟩ := elN HS.out rfl HN.out hy
   obtain ⟨p0,p1,p2,p3,p4,p5,p6⟩ := px wr BE.out
   obtain ⟨y1,y2,y3,y4,⟨yo,yn,yc⟩,y6,y7⟩ := y
   simp only at p0 p1 p2 p3 p4 p5 p6
   have NB := Lib.hid (newB wr (.cells #[.int .i64 y1,.int .i64 y2,.int .i64 y3,.int .i64 y4,.slice yo yn yc,.int .i64 y6,.bool y7] 43))
   obtain ⟨x0,x1⟩ := ((X3.out.on BE.out).on NB.out).cs2
   obtain ⟨z0,z1⟩ := ((X4.out.on BE.out).on NB.out).cs2
   have hw3 : IntKind.i64.wrap ((k : Int) + 1) = (k : Int) + 1 := IntWalk.i64_in _ (by omega)
   obtain ⟨r,hr⟩ : ∃ r,(y1 == c && y2 == d) = r := ⟨_,rfl⟩
   obtain ⟨t,ht⟩ : ∃ r,(y3 == g && y4 == h) = r := ⟨_,rfl⟩
   have he := eqId y1 y2 c d r hr
   have hf := eqId y3 y4 g h t ht
   have HY := Lib.hid hy
   have HR := Lib.hid hr
   have HT := Lib.hid ht
   clear px hy hr ht
   cases r
   ·go_wp2
    go_roundw
    case rel => exact ⟨k + 1,by omega,by go_num,BE.out.trans (NB.out.mono BE.out.size),fun j y' hj h1 => by
     rcases Nat.lt_or_ge j k with h3 | h3
     ·exact AL.out j y' h3 h1
     ·obtain rfl : j = k := by omega
      have e1 := HY.out
      rw [h1] at e1
      rw [Option.some.inj e1]
      intro e
      obtain ⟨⟨rfl,rfl⟩,_⟩ : (y1 = c ∧ y2 = d) ∧ (y3 = g ∧ y4 = h) := by simpa [keyN] using e
      have := HR.out
      simp at this⟩
    case measure => simp [intOf]; omega
   ·cases t
    ·go_wp2
     go_roundw
     case rel => exact ⟨k + 1,by omega,by go_num,BE.out.trans (NB.out.mono BE.out.size),fun j y' hj h1 => by
      rcases Nat.lt_or_ge j k with h3 | h3
      ·exact AL.out j y' h3 h1
      ·obtain rfl : j = k := by omega
       have e1 := HY.out
       rw [h1] at e1
       rw [Option.some.inj e1]
       intro e
       obtain ⟨_,rfl,rfl⟩ : (y1 = c ∧ y2 = d) ∧ (y3 = g ∧ y4 = h) := by simpa [keyN] using e
       have := HT.out
       simp at this⟩
     case measure => simp [intOf]; omega
    ·go_wp2
     go_ret
     have h8 := HR.out
     have h9 := HT.out
     obtain ⟨rfl,rfl⟩ : y1 = c ∧ y2 = d := by simpa using h8
     obtain ⟨rfl,rfl⟩ : y3 = g ∧ y4 = h := by simpa using h9
     exact ⟨by rw [findK_at (l.map keyN) k ((y1,y2),(y3,y4)) (by rw [List.getElem?_map,HY.out]; rfl) (fun j z hj hz => by
      rw [List.getElem?_map] at hz
      cases hl : l[j]? with
      | none => rw [hl] at hz; cases hz
      | some q =>
       rw [hl] at hz
       have hz : keyN q = z := Option.some.inj hz
       rw [← hz]
       exact AL.out j q hj hl)]; rfl,B.out.trans ((BE.out.trans (NB.out.mono BE.out.size)).mono B.out.size)⟩
  ·obtain rfl : k = n := by omega
   go_wp2
   go_ret
   have hd : findK (l.map keyN) ((c,d),(g,h)) = -1 := findK_none _ _ fun j z hz => by
    rw [List.getElem?_map] at hz
    cases hl : l[j]? with
    | none => rw [hl] at hz; cases hz
    | some q =>
     rw [hl] at hz
     have hz : keyN q = z := Option.some.inj hz
     rw [← hz]
     exact AL.out j q (by rw [← HN.out]; exact (List.getElem?_eq_some_iff.1 hl).1) hl
   exact ⟨by rw [hd]; rfl,B.out.trans (BE.out.mono B.out.size)⟩
def cut5V (B b2 _ : Nat) (so : Option Addr) (sn sc at_ : Nat) (lo hiv : Value) (lt ld : List XEn) (i : Nat) (v : Value) (x : World) : Prop :=
 match i with
 | 0 => ∃ g,v = .slice (some ⟨g,0,none⟩) 0 0 ∧ B ≤ g ∧ Box x g #[] 43
 | 1 => v = .pointer (some ⟨b2,4,none⟩)
 | 2 => v = .slice so sn sc
 | 3 => v = .int .i64 (at_ : Int)
 | 4 => v = lo
 | 5 => OwnN x B v lt
 | 6 => v = .pointer (some ⟨b2,4,none⟩)
 | 7 => v = .slice so sn sc
 | 8 => v = .int .i64 (at_ : Int)
 | 9 => v = .int .i64 ((at_ : Int) + 1)
 | 10 => v = hiv
 | 11 => OwnN x B v (lt ++ ld)
 | 12 => v = .pointer (some ⟨b2,4,none⟩)
 | _ => True
noncomputable def cutR5 : Code := ((Tryz.f19.body.bind (findRegion 5)).getD .skip)
theorem cut5V_on (B b2 b3 : Nat) (so : Option Addr) (sn sc at_ : Nat) (lo hiv : Value) (lt ld : List XEn) (i : Nat) (v : Value) (x x' : World) (h : cut5V B b2 b3 so sn sc at_ lo hiv lt ld i v x) (hb : Below x.heap.size x x') : cut5V B b2 b3 so sn sc at_ lo hiv lt ld i v x' := by
 by_cases hi : i < 13
 ·rcases (by omega : i = 0 ∨ i = 1 ∨ i = 2 ∨ i = 3 ∨ i = 4 ∨ i = 5 ∨ i = 6 ∨ i = 7 ∨ i = 8 ∨ i = 9 ∨ i = 10 ∨ i = 11 ∨ i = 12) with rfl | rfl | rfl | rfl | rfl | rfl | rfl | rfl | rfl | rfl | rfl | rfl | rfl
  ·obtain ⟨g,h1,h2,h3⟩ := h
   exact ⟨g,h1,h2,h3.on hb⟩
  ·exact h
  ·exact h
  ·exact h
  ·exact h
  ·exact own_on h hb
  ·exact h
  ·exact h
  ·exact h
  ·exact h
  ·exact h
  ·exact own_on h hb
  ·exact h
 ·unfold cut5V
  split <;> first | omega | trivial
theorem cut5 (Q : Exit → Act → World → Prop) (W : World) (b2 b3 : Nat) (me : Int) (y1 y2 y3 y5 : Value) (so : Option Addr) (sn sc at_ : Nat) (l : List XEn) (u0 u1 u2 u3 u6 u7 u8 u9 u10 u12 u13 u14 u15 u16 u17 u18 u19 u20 u21 u22 u23 u24 u25 u26 u27 u28 u29 u30 u31 u32 u33 u34 u35 u36 u37 u38 u39 u40 u41 u42 u43 u44 u45 u46 u47 u48 u49 u50 u51 u52 u53 u54 u55 u56 u57 u58 u59 u60 u61 u62 u63 u64 u65 u66 u67 u68 u69 u70 u71 u72 u73 u74 u75 u76 u77 u78 u79 u80 u81 u82 u83 u84 u85 u86 u87 u88 u89 u90 u91 u92 u93 u94 u95 u96 u97 u98 u99 u100 u101 u102 u103 : Value)
  (h2 : Box W b2 #[.int .i64 me,y1,y2,y3,.slice so sn sc,y5] 31) (hs : RowN W (.slice so sn sc) l) (hat : at_ + 1 ≤ l.length) (hlen : l.length ≤ 900)
  (hQ : ∀ (x : World) (v39 v40 v41 v42 v43 v44 v45 v46 v47 v48 v49 v50 v51 : Value),Box x b2 #[.int .i64 me,y1,y2,y3,v50,y5] 31 → OwnN x W.heap.size v50 (l.take at_ ++ l.drop (at_ + 1)) → (∀ B,B ≤ b2 → Below B W x) → (∀ c cs t,c ≠ b2 → Box W c cs t → Box x c cs t) → (∀ k,k < W.heap.size → k ≠ b2 → x.heap[k]? = W.heap[k]?) → Q .normal ⟨(u0 :: u1 :: u2 :: u3 :: .pointer (some ⟨b2,0,none⟩) :: .pointer (some ⟨b3,0,none⟩) :: u6 :: u7 :: u8 :: u9 :: u10 :: .int .i64 (at_ : Int) :: u12 :: u13 :: u14 :: u15 :: u16 :: u17 :: u18 :: u19 :: u20 :: u21 :: u22 :: u23 :: u24 :: u25 :: u26 :: u27 :: u28 :: u29 :: u30 :: u31 :: u32 :: u33 :: u34 :: u35 :: u36 :: u37 :: u38 :: v39 :: v40 :: v41 :: v42 :: v43 :: v44 :: v45 :: v46 :: v47 :: v48 :: v49 :: v50 :: v51 :: u52 :: u53 :: u54 :: u55 :: u56 :: u57 :: u58 :: u59 :: u60 :: u61 :: u62 :: u63 :: u64 :: u65 :: u66 :: u67 :: u68 :: u69 :: u70 :: u71 :: u72 :: u73 :: u74 :: u75 :: u76 :: u77 :: u78 :: u79 :: u80 :: u81 :: u82 :: u83 :: u84 :: u85 :: u86 :: u87 :: u88 :: u89 :: u90 :: u91 :: u92 :: u93 :: u94 :: u95 :: u96 :: u97 :: u98 :: u99 :: u100 :: u101 :: u102 :: u103 :: []).toArray,[]⟩ x) :
  Code.wp Tryz.prog cutR5 Q ⟨(u0 :: u1 :: u2 :: u3 :: .pointer (some ⟨b2,0,none⟩) :: .pointer (some ⟨b3,0,none⟩) :: u6 :: u7 :: u8 :: u9 :: u10 :: .int .i64 (at_ : Int) :: u12 :: u13 :: u14 :: u15 :: u16 :: u17 :: u18 :: u19 :: u20 :: u21 :: u22 :: u23 :: u24 :: u25 :: u26 :: u27 :: u28 :: u29 :: u30 :: u31 :: u32 :: u33 :: u34 :: u35 :: u36 :: u37 :: u38 :: u39 :: u40 :: u41 :: u42 :: u43 :: u44 :: u45 :: u46 :: u47 :: u48 :: u49 :: u50 :: u51 :: u52 :: u53 :: u54 :: u55 :: u56 :: u57 :: u58 :: u59 :: u60 :: u61 :: u62 :: u63 :: u64 :: u65 :: u66 :: u67 :: u68 :: u69 :: u70 :: u71 :: u72 :: u73 :: u74 :: u75 :: u76 :: u77 :: u78 :: u79 :: u80 :: u81 :: u82 :: u83 :: u84 :: u85 :: u86 :: u87 :: u88 :: u89 :: u90 :: u91 :: u92 :: u93 :: u94 :: u95 :: u96 :: u97 :: u98 :: u99 :: u100 :: u101 :: u102 :: u103 :: []).toArray,[]⟩ W := by
 have HQ := Lib.hid hQ
 have H2 := Lib.hid h2
 have AT1 := Lib.hid (show at_ ≤ 900 by omega)
 obtain ⟨lo,slo,rlo⟩ := row_lo okN hs at_ (by omega)
 obtain ⟨hiv,shi,rhi⟩ := row_hi okN hs (at_ + 1) hat
 have LT := Lib.hid (show (l.take at_).length ≤ 1000 by rw [List.length_take]; omega)
 have LTD := Lib.hid (show (l.take at_).length ≤ 900 by rw [List.length_take]; omega)
 have LD := Lib.hid (show (l.drop (at_ + 1)).length ≤ 1000 by rw [List.length_drop]; omega)
 generalize l.take at_ = lt at *
 generalize l.drop (at_ + 1) = ld at *
 have SL := Lib.hid slo
 have SH := Lib.hid (show ∀ w,(Instr.sliceAt 28 (.slice so sn sc) (some (.int .i64 ((at_ : Int) + 1))) none none).run Tryz.prog w = .ok hiv w from shi)
 have RL := Lib.hid rlo
 have RH := Lib.hid rhi
 clear hQ h2 hs slo shi rlo rhi hat hlen
 have stab := cut5V_on W.heap.size b2 b3 so sn sc at_ lo hiv lt ld
 unfold cutR5
 conv => arg 2; whnf
 have nd : ∀ j,(j < 39 ∨ 52 ≤ j) → ∀ i,i < 13 → (fun i => 39 + i) i ≠ j := by
  intro j hj i hi h
  simp only at h
  omega
 refine Rg.region_live 14 13 (fun i => 39 + i) (fun i => if i = 0 then 5 else if i = 5 then 11 else 13) (cut5V W.heap.size b2 b3 so sn sc at_ lo hiv lt ld) (by kernel_rfl) (by kernel_rfl) rfl (by decide) (fun i j _ _ h => by have h2 : 39 + i = 39 + j := h; omega) (fun i hi => by show 39 + i < 104; omega) ?_ (fun _ => Rg.hall_of 1 (by kernel_rfl)) (fun kk o h1 h2 => by omega) ?_
 ·intro i o hi ho a x D hnd hc hD hb seen K hK
  clear HQ
  rcases (by omega : i = 0 ∨ i = 1 ∨ i = 2 ∨ i = 3 ∨ i = 4 ∨ i = 5 ∨ i = 6 ∨ i = 7 ∨ i = 8 ∨ i = 9 ∨ i = 10 ∨ i = 11 ∨ i = 12) with rfl | rfl | rfl | rfl | rfl | rfl | rfl | rfl | rfl | rfl | rfl | rfl | rfl
  ·obtain rfl := Option.some.inj ho
   exact Rg.op_value rfl rfl (Rg.ex_build a.eval _ 28 0 #[] rfl rfl (by simp [go_sem])) (hK (.slice (some ⟨x.heap.size,0,none⟩) 0 0) (x.alloc (.cells #[] 43)) ⟨x.heap.size,rfl,hb.size,box_new x #[] 43⟩ ((Below.refl _ _).alloc hb.size _) fun j u _ _ _ _ _ h => stab j u _ _ h ((Below.refl _ _).alloc (Nat.le_refl _) _))
  ·obtain rfl := Option.some.inj ho
   have e4 : a.eval (.tmp 4) = .pointer (some ⟨b2,0,none⟩) := seen.kp 4 _ (nd 4 (by omega)) rfl
   exact Rg.op_value rfl rfl (Rg.ex_field a.eval _ 31 (.tmp 4) 4 rfl (by rw [e4]; simp [go_sem])) (hK _ _ rfl (Below.refl _ _) fun _ _ _ _ _ _ _ h => h)
  ·obtain rfl := Option.some.inj ho
   have e40 : a.eval (.tmp 40) = .pointer (some ⟨b2,4,none⟩) := seen.at_ ⟨1,.data⟩ (by simp) rfl (Or.inr (by decide))
   have y := (H2.out.on hb).cell 4
   simp only [List.getElem?_toArray,List.getElem?_cons_zero,List.getElem?_cons_succ] at y
   exact Rg.op_value rfl rfl (Rg.ex_load a.eval _ 28 (.tmp 40) rfl (by rw [e40]; simp [go_sem,y])) (hK _ _ rfl (Below.refl _ _) fun _ _ _ _ _ _ _ h => h)
  ·obtain rfl := Option.some.inj ho
   have e11 : a.eval (.tmp 11) = .int .i64 (at_ : Int) := seen.kp 11 _ (nd 11 (by omega)) rfl
   exact Rg.op_value rfl rfl (Rg.ex_move a.eval _ (.tmp 11) rfl x) (hK _ _ e11 (Below.refl _ _) fun _ _ _ _ _ _ _ h => h)
  ·obtain rfl := Option.some.inj ho
   have e41 : a.eval (.tmp 41) = .slice so sn sc := seen.at_ ⟨2,.data⟩ (by simp) rfl (Or.inr (by decide))
   have e42 : a.eval (.tmp 42) = .int .i64 (at_ : Int) := seen.at_ ⟨3,.data⟩ (by simp) rfl (Or.inr (by decide))
   exact Rg.op_value rfl rfl (Rg.ex_slice a.eval _ 28 (.tmp 41) none (some (.tmp 42)) none rfl (by show (Instr.sliceAt 28 (a.eval (.tmp 41)) none (some (a.eval (.tmp 42))) none).run Tryz.prog x = .ok lo x; rw [e41,e42]; exact SL.out x)) (hK _ _ rfl (Below.refl _ _) fun _ _ _ _ _ _ _ h => h)
  ·obtain rfl := Option.some.inj ho
   obtain ⟨g,q0,hBg,hbx⟩ := seen.at_ ⟨0,.data⟩ (by simp) rfl (Or.inl rfl)
   have q0 : a.eval (.tmp 39) = .slice (some ⟨g,0,none⟩) 0 0 := q0
   have e43 : a.eval (.tmp 43) = lo := seen.at_ ⟨4,.data⟩ (by simp) rfl (Or.inr (by decide))
   obtain ⟨v',x',r,o',gr⟩ := app_fresh okN W.heap.size hbx hBg (RL.out.on hb) LT.out 28
   exact Rg.op_value rfl rfl (Rg.ex_append a.eval _ (.tmp 39) (.tmp 43) 28 rfl q0 e43 r) (hK v' x' o' (gr.mono hb.size) fun j u _ _ _ _ _ h => stab j u _ _ h gr)
  ·obtain rfl := Option.some.inj ho
   have e4 : a.eval (.tmp 4) = .pointer (some ⟨b2,0,none⟩) := seen.kp 4 _ (nd 4 (by omega)) rfl
   exact Rg.op_value rfl rfl (Rg.ex_field a.eval _ 31 (.tmp 4) 4 rfl (by rw [e4]; simp [go_sem])) (hK _ _ rfl (Below.refl _ _) fun _ _ _ _ _ _ _ h => h)
  ·obtain rfl := Option.some.inj ho
   have e45 : a.eval (.tmp 45) = .pointer (some ⟨b2,4,none⟩) := seen.at_ ⟨6,.data⟩ (by simp) rfl (Or.inr (by decide))
   have y := (H2.out.on hb).cell 4
   simp only [List.getElem?_toArray,List.getElem?_cons_zero,List.getElem?_cons_succ] at y
   exact Rg.op_value rfl rfl (Rg.ex_load a.eval _ 28 (.tmp 45) rfl (by rw [e45]; simp [go_sem,y])) (hK _ _ rfl (Below.refl _ _) fun _ _ _ _ _ _ _ h => h)
  ·obtain rfl := Option.some.inj ho
   have e11 : a.eval (.tmp 11) = .int .i64 (at_ : Int) := seen.kp 11 _ (nd 11 (by omega)) rfl
   exact Rg.op_value rfl rfl (Rg.ex_move a.eval _ (.tmp 11) rfl x) (hK _ _ e11 (Below.refl _ _) fun _ _ _ _ _ _ _ h => h)
  ·obtain rfl := Option.some.inj ho
   have e47 : a.eval (.tmp 47) = .int .i64 (at_ : Int) := seen.at_ ⟨8,.data⟩ (by simp) rfl (Or.inr (by decide))
   exact Rg.op_value rfl rfl (Rg.ex_bin a.eval _ .add 3 (.tmp 47) (.const (.int .i64 1)) 3 rfl (by rw [e47]; exact add_one _ _ _ _ at_ AT1.out)) (hK _ _ rfl (Below.refl _ _) fun _ _ _ _ _ _ _ h => h)
  ·obtain rfl := Option.some.inj ho
   have e46 : a.eval (.tmp 46) = .slice so sn sc := seen.at_ ⟨7,.data⟩ (by simp) rfl (Or.inr (by decide))
   have e48 : a.eval (.tmp 48) = .int .i64 ((at_ : Int) + 1) := seen.at_ ⟨9,.data⟩ (by simp) rfl (Or.inr (by decide))
   exact Rg.op_value rfl rfl (Rg.ex_slice a.eval _ 28 (.tmp 46) (some (.tmp 48)) none none rfl (by show (Instr.sliceAt 28 (a.eval (.tmp 46)) (some (a.eval (.tmp 48))) none none).run Tryz.prog x = .ok hiv x; rw [e46,e48]; exact SH.out x)) (hK _ _ rfl (Below.refl _ _) fun _ _ _ _ _ _ _ h => h)
  ·obtain rfl := Option.some.inj ho
   have o44 : OwnN x W.heap.size (a.eval (.tmp 44)) (lt) := seen.at_ ⟨5,.data⟩ (by simp) rfl (Or.inl rfl)
   have e49 : a.eval (.tmp 49) = hiv := seen.at_ ⟨10,.data⟩ (by simp) rfl (Or.inr (by decide))
   have ox : RowN x (a.eval (.tmp 49)) ld := by rw [e49]; exact RH.out.on hb
   obtain ⟨v',x',r,o',gr⟩ := app_row okN W.heap.size o44 ox (by have := LTD.out; omega) LD.out hb.size 28
   exact Rg.op_value rfl rfl (Rg.ex_append a.eval _ (.tmp 44) (.tmp 49) 28 rfl rfl rfl r) (hK v' x' o' ((Below.refl _ x).grown gr hb.size fun j hj => (o44.lt j hj).1) fun j u hj dj nl nx ni h => by
    rcases (by omega : j = 0 ∨ j = 1 ∨ j = 2 ∨ j = 3 ∨ j = 4 ∨ j = 5 ∨ j = 6 ∨ j = 7 ∨ j = 8 ∨ j = 9 ∨ j = 10 ∨ j = 11 ∨ j = 12) with rfl | rfl | rfl | rfl | rfl | rfl | rfl | rfl | rfl | rfl | rfl | rfl | rfl
    ·exact absurd rfl (fun _ : (0 : Nat) = 0 => nl (hD ⟨5,.data⟩ (by simp) rfl))
    ·exact h
    ·exact h
    ·exact h
    ·exact h
    ·exact absurd rfl (fun _ : (0 : Nat) = 0 => nx rfl)
    ·exact h
    ·exact h
    ·exact h
    ·exact h
    ·exact h
    ·exact absurd rfl (fun _ : (0 : Nat) = 0 => ni rfl)
    ·exact h)
  ·obtain rfl := Option.some.inj ho
   have e4 : a.eval (.tmp 4) = .pointer (some ⟨b2,0,none⟩) := seen.kp 4 _ (nd 4 (by omega)) rfl
   exact Rg.op_value rfl rfl (Rg.ex_field a.eval _ 31 (.tmp 4) 4 rfl (by rw [e4]; simp [go_sem])) (hK _ _ rfl (Below.refl _ _) fun _ _ _ _ _ _ _ h => h)
 ·intro a w' df sz kp ⟨vs,hv⟩ hb
  have gr : a.tmps[50]? = some (vs 11) := (hv 11 (by omega)).1
  have gp : a.tmps[51]? = some (.pointer (some ⟨b2,4,none⟩)) := by
   have h : vs 12 = .pointer (some ⟨b2,4,none⟩) := (hv 12 (by omega)).2 (by decide)
   rw [← h]
   exact (hv 12 (by omega)).1
  have oR : OwnN w' W.heap.size (vs 11) (lt ++ ld) := (hv 11 (by omega)).2 (by decide)
  generalize vs 11 = xR at *
  obtain ⟨ca,cp,eR⟩ := (Row.of_own oR).len
  have hbx := H2.out.on hb
  have hblt := H2.out.lt
  have c5 := hbx.cell 4
  have f5 := hbx.fr 4
  simp only [List.getElem?_toArray,List.getElem?_cons_zero,List.getElem?_cons_succ] at c5
  have hb1 := box_set (k := 4) hbx xR
  show Rg.SeqFrom _ _ _ 1 13 a w'
  simp only [Rg.SeqFrom]
  refine Rg.op_store 28 (.tmp 51) (.tmp 50) rfl rfl rfl rfl (Rg.eval_some gp) (Rg.eval_some gr) (w' := w'.setCell ⟨b2,4,none⟩ xR) (by rw [eR]; simp [go_sem,c5,f5]) ?_
  have kp2 : ∀ j,(j < 39 ∨ 52 ≤ j) → a.tmps[j]? = (u0 :: u1 :: u2 :: u3 :: .pointer (some ⟨b2,0,none⟩) :: .pointer (some ⟨b3,0,none⟩) :: u6 :: u7 :: u8 :: u9 :: u10 :: .int .i64 (at_ : Int) :: u12 :: u13 :: u14 :: u15 :: u16 :: u17 :: u18 :: u19 :: u20 :: u21 :: u22 :: u23 :: u24 :: u25 :: u26 :: u27 :: u28 :: u29 :: u30 :: u31 :: u32 :: u33 :: u34 :: u35 :: u36 :: u37 :: u38 :: u39 :: u40 :: u41 :: u42 :: u43 :: u44 :: u45 :: u46 :: u47 :: u48 :: u49 :: u50 :: u51 :: u52 :: u53 :: u54 :: u55 :: u56 :: u57 :: u58 :: u59 :: u60 :: u61 :: u62 :: u63 :: u64 :: u65 :: u66 :: u67 :: u68 :: u69 :: u70 :: u71 :: u72 :: u73 :: u74 :: u75 :: u76 :: u77 :: u78 :: u79 :: u80 :: u81 :: u82 :: u83 :: u84 :: u85 :: u86 :: u87 :: u88 :: u89 :: u90 :: u91 :: u92 :: u93 :: u94 :: u95 :: u96 :: u97 :: u98 :: u99 :: u100 :: u101 :: u102 :: u103 :: [])[j]? := fun j hj => (kp j (nd j hj)).trans List.getElem?_toArray
  obtain ⟨mid,hmid,rfl⟩ := Rg.frame_mid 39 13 df sz (by simp) kp2
  match mid,hmid with
  | [v39,v40,v41,v42,v43,v44,v45,v46,v47,v48,v49,v50,v51],_ =>
   have e1 : some v50 = some xR := gr
   obtain rfl := Option.some.inj e1
   refine HQ.out _ v39 v40 v41 v42 v43 v44 v45 v46 v47 v48 v49 v50 v51 ?_ ?_ ?_ ?_ ?_
   ·simpa using hb1
   ·exact own_cell oR b2 4 _ hblt
   ·exact fun B hB => (hb.mono (Nat.le_of_lt (Nat.lt_of_le_of_lt hB hblt))).setCell hB _
   ·intro c cs t hc hbc
    exact (RowKit.Below.heap_setCell _ _ _ _ hc).trans (hbc.on hb)
   ·intro k hk hne
    exact (RowKit.Below.heap_setCell _ _ _ _ hne).trans (hb.block k hk)
end Go.Proofs.YtncogjpmboglhaaGreat.Bk
namespace Go.Proofs.YtncogjpmboglhaaGreat.Rg
open Go.RowKit
structure SeenF (i N : Nat) (dst : Nat → Option Nat) (last : Nat → Nat) (V : Nat → Value → World → Prop) (base : Act) (o : Oper) (a : Act) (w : World) : Prop where
 kp : ∀ j u,(∀ k,k < N → dst k ≠ some j) → base.tmps[j]? = some u → a.eval (.tmp j) = u
 at_ : ∀ e ∈ o.after,Region.binds .any e = true → (last e.on = i ∨ N ≤ last e.on) → ∀ d,dst e.on = some d → V e.on (a.eval (.tmp d)) w
 st : ∀ e ∈ o.after,Region.binds .any e = true → (last e.on = i ∨ N ≤ last e.on) → ∃ v,V e.on v w
theorem put_other (a : Act) (d : Option Nat) (v : Value) (j : Nat) (hj : d ≠ some j) : (a.put d v).tmps[j]? = a.tmps[j]? := by
 cases d with
 | none => rfl
 | some d => exact get_put _ _ _ _ (fun e => hj (by rw [e]))
theorem put_size (a : Act) (d : Option Nat) (v : Value) : (a.put d v).tmps.size = a.tmps.size := by
 cases d with
 | none => rfl
 | some d => exact size_put _ _ _
theorem put_defers (a : Act) (d : Option Nat) (v : Value) : (a.put d v).defers = a.defers := by
 cases d <;> rfl
structure PhD (l : List Oper) (N : Nat) (dst : Nat → Option Nat) (last : Nat → Nat) (V : Nat → Value → World → Prop) (F : (Nat → Prop) → World → Prop) (base : Act) (L : Array Bool) (a : Act) (x : World) : Prop where
 cl : ∀ i o,done L i → l[i]? = some o → ∀ e ∈ o.after,Region.binds .any e = true → done L e.on
 df : a.defers = base.defers
 sz : a.tmps.size = base.tmps.size
 kp : ∀ j,(∀ i,i < N → dst i ≠ some j) → a.tmps[j]? = base.tmps[j]?
 fr : F (done L) x
 no : ∀ i,N ≤ i → ¬ done L i
 val : ∃ vs : Nat → Value,∀ i,i < N → done L i → (∀ d,dst i = some d → a.tmps[d]? = some (vs i)) ∧ (¬ done L (last i) → V i (vs i) x)
theorem region_done {P : Program} {Q : Exit → Act → World → Prop} {id : Nat} {base : Act} {w : World} {l : List Oper} (N : Nat) (dst : Nat → Option Nat) (last : Nat → Nat) (V : Nat → Value → World → Prop) (F : (Nat → Prop) → World → Prop)
  (hm : P.follows .mixedOrders = true) (hf : fore l.toArray = true) (hN : l.length = N) (hinj : ∀ i j d,i < N → j < N → dst i = some d → dst j = some d → i = j) (hs : ∀ i d,i < N → dst i = some d → d < base.tmps.size) (h0 : F (fun _ => False) w.drew)
  (hop : ∀ i o,i < N → l[i]? = some o → ∀ a w' (D : Nat → Prop),¬ D i → (∀ j oj,D j → l[j]? = some oj → ∀ e ∈ oj.after,Region.binds .any e = true → D e.on) → (∀ e ∈ o.after,Region.binds .any e = true → D e.on) → F D w' → SeenF i N dst last V base o a w' → ∀ K : Act → World → Prop,(∀ v w'',V i v w'' → F (fun j => j = i ∨ D j) w'' → (∀ j u,j < N → D j → ¬ D (last j) → last j ≠ i → j ≠ i → V j u w' → V j u w'') → K (a.put (dst i) v) w'') → wpOp P l.toArray Q i K a w')
  (hend : ∀ a w',a.defers = base.defers → a.tmps.size = base.tmps.size → (∀ j,(∀ i,i < N → dst i ≠ some j) → a.tmps[j]? = base.tmps[j]?) → (∃ vs : Nat → Value,∀ i,i < N → (∀ d,dst i = some d → a.tmps[d]? = some (vs i)) ∧ (N ≤ last i → V i (vs i) w')) → (∃ D : Nat → Prop,(∀ i,i < N → D i) ∧ F D w') → Q .normal a w') : (Code.region id l.toArray true).wp P Q base w := by
 refine region_inv (fun L a x => PhD l N dst last V F base L a x) hm hf ?_ ?_ ?_
 ·exact ⟨fun i o h => absurd h (none_done _ _),rfl,rfl,fun _ _ => rfl,by rw [show done (Array.replicate l.length false) = fun _ => False from funext fun i => propext ⟨fun h => none_done _ _ h,False.elim⟩]; exact h0,fun i _ => none_done _ _,fun _ => .bool true,fun i _ h => absurd h (none_done _ _)⟩
 ·intro L a x i o hsz I ho hnd hdep
  have hi : i < l.length := (List.getElem?_eq_some_iff.1 ho).1
  have hiL : i < L.size := by omega
  have hiM : i < N := by omega
  obtain ⟨vs,q1⟩ := I.val
  have hon : ∀ e ∈ o.after,Region.binds .any e = true → e.on < N := fun e he hb => by
   have h7 := List.all_eq_true.1 hf i (List.mem_range.2 (by simpa using hi))
   have ho' : (l.toArray)[i]? = some o := by simpa using ho
   rw [ho'] at h7
   have h8 := Array.all_eq_true'.1 h7 e he
   rw [hb] at h8
   have : e.on < i := by simpa using h8
   omega
  have lv : ∀ e ∈ o.after,Region.binds .any e = true → (last e.on = i ∨ N ≤ last e.on) → V e.on (vs e.on) x := fun e he hbd hl => by
   refine (q1 e.on (hon e he hbd) (hdep e he hbd)).2 ?_
   rcases hl with hl | hl
   ·rw [hl]; exact hnd
   ·exact I.no _ hl
  have seen : SeenF i N dst last V base o a x := ⟨fun j u hj hu => eval_some (by rw [I.kp j hj]; exact hu),fun e he hbd hl d hd => by
   rw [eval_some ((q1 e.on (hon e he hbd) (hdep e he hbd)).1 d hd)]
   exact lv e he hbd hl,fun e he hbd hl => ⟨_,lv e he hbd hl⟩⟩
  refine hop i o hiM ho a x (done L) hnd I.cl hdep I.fr seen _ fun v w'' hvw hfw hpr => ?_
  refine ⟨fun k q hk hq e he hb => ?_,by rw [put_defers]; exact I.df,by rw [put_size]; exact I.sz,fun j hj => ?_,by rw [show done (L.setIfInBounds i true) = fun j => j = i ∨ done L j from funext fun j => propext (done_set hiL j)]; exact hfw,fun k hk hd => ?_,fun k => if k = i then v else vs k,fun k hkM hk => ?_⟩
  ·rw [done_set hiL] at hk ⊢
   rcases hk with rfl | hk
   ·rw [hq] at ho
    cases ho
    exact Or.inr (hdep e he hb)
   ·exact Or.inr (I.cl k q hk hq e he hb)
  ·rw [put_other _ _ _ _ (hj i hiM)]
   exact I.kp j hj
  ·rcases (done_set hiL k).1 hd with h9 | h9
   ·omega
   ·exact I.no k hk h9
  ·by_cases e : k = i
   ·subst e
    simp only [if_true]
    refine ⟨fun d hd => ?_,fun _ => hvw⟩
    have h9 : d < a.tmps.size := by rw [I.sz]; exact hs k d hkM hd
    rw [hd]
    simp [Act.put,h9]
   ·simp only [if_neg e]
    rcases (done_set hiL k).1 hk with h9 | h9
    ·exact absurd h9 e
    ·obtain ⟨p1,p2⟩ := q1 k hkM h9
     refine ⟨fun d hd => ?_,fun hn => ?_⟩
     ·rw [put_other _ _ _ _ (fun h => e (hinj k i d hkM hiM hd h))]
      exact p1 d hd
     ·have n1 : last k ≠ i := fun e3 => hn ((done_set hiL _).2 (Or.inl e3))
      have n2 : ¬ done L (last k) := fun e3 => hn ((done_set hiL _).2 (Or.inr e3))
      exact hpr k _ hkM h9 n2 n1 e (p2 n2)
 ·intro L a x I hd
  obtain ⟨vs,q1⟩ := I.val
  exact hend a x I.df I.sz I.kp ⟨vs,fun k hk => ⟨(q1 k hk (hd k (by omega))).1,fun hl => (q1 k hk (hd k (by omega))).2 (I.no _ hl)⟩⟩ ⟨done L,fun i hi => hd i (by omega),I.fr⟩
end Go.Proofs.YtncogjpmboglhaaGreat.Rg
namespace Go.Proofs.YtncogjpmboglhaaGreat.Rl
open Go.RowKit Pu Rw Pr Va
def RBQ (n : ByteArray) (r : Option Kd) (w : World) (e : Ending) (w' : World) : Prop := (∃ c,e = .returned (.tuple #[cv c,.bool r.isSome]) ∧ ∀ k,r = some k → c = r5 (n,k)) ∧ Below w.heap.size w w'
theorem rbq_no {n : ByteArray} {w w' : World} (c : C5) (h : Below w.heap.size w w') : RBQ n none w (.returned (.tuple #[cv c,.bool false])) w' := ⟨⟨c,rfl,fun _ h => by cases h⟩,h⟩
theorem rbq_if {n : ByteArray} {w w' : World} (b : Bool) (k : Kd) (h : Below w.heap.size w w') : RBQ n (if b = true then some k else none) w (.returned (.tuple #[cv (r5 (n,k)),.bool b])) w' := by
 cases b
 ·exact ⟨⟨_,rfl,fun _ h => by cases h⟩,h⟩
 ·exact ⟨⟨_,rfl,fun _ h => by rw [← Option.some.inj h]⟩,h⟩
theorem rboth_rt (n : ByteArray) (lo1 hi1 : Int) (u2 : ByteArray) (w : World) : Calls Tryz.prog 157 #[cv (r5 (n,(.rg lo1 hi1))),cv (r5 (n,(.tx u2)))] w (RBQ n (bothK (.rg lo1 hi1) (.tx u2)) w) := by
 have R := Lib.hid (show bothK (.rg lo1 hi1) (.tx u2) = none from rfl)
 rw [R.out]
 clear R
 simp only [r5,kN,kLo,kHi,kT]
 have B := Lib.hid (rC w n 1 lo1 hi1 ⟨#[]⟩ n 2 0 0 u2)
 go_enter Tryz.func157,Tryz.ntmps157
 go_wp2
 exact bodyPost_ret (v := .tuple #[cv (n,1,lo1,hi1,⟨#[]⟩),.bool false]) (by simp [results,Tryz.results157,go_sem]) rfl (rbq_no (n,1,lo1,hi1,⟨#[]⟩) (by first | exact B.out.alloc B.out.size _ | exact (((((B.out.alloc B.out.size _).setCell (by simp) _).setCell (by simp) _).setCell (by simp) _).setCell (by simp) _).setCell (by simp) _))
theorem rboth_rp (n : ByteArray) (lo1 hi1 : Int) (u2 : ByteArray) (w : World) : Calls Tryz.prog 157 #[cv (r5 (n,(.rg lo1 hi1))),cv (r5 (n,(.pr u2)))] w (RBQ n (bothK (.rg lo1 hi1) (.pr u2)) w) := by
 have R := Lib.hid (show bothK (.rg lo1 hi1) (.pr u2) = none from rfl)
 rw [R.out]
 clear R
 simp only [r5,kN,kLo,kHi,kT]
 have B := Lib.hid (rC w n 1 lo1 hi1 ⟨#[]⟩ n 3 0 0 u2)
 go_enter Tryz.func157,Tryz.ntmps157
 go_wp2
 exact bodyPost_ret (v := .tuple #[cv (n,1,lo1,hi1,⟨#[]⟩),.bool false]) (by simp [results,Tryz.results157,go_sem]) rfl (rbq_no (n,1,lo1,hi1,⟨#[]⟩) (by first | exact B.out.alloc B.out.size _ | exact (((((B.out.alloc B.out.size _).setCell (by simp) _).setCell (by simp) _).setCell (by simp) _).setCell (by simp) _).setCell (by simp) _))
theorem rboth_tr (n : ByteArray) (u1 : ByteArray) (lo2 hi2 : Int) (w : World) : Calls Tryz.prog 157 #[cv (r5 (n,(.tx u1))),cv (r5 (n,(.rg lo2 hi2)))] w (RBQ n (bothK (.tx u1) (.rg lo2 hi2)) w) := by
 have R := Lib.hid (show bothK (.tx u1) (.rg lo2 hi2) = none from rfl)
 rw [R.out]
 clear R
 simp only [r5,kN,kLo,kHi,kT]
 have B := Lib.hid (rC w n 2 0 0 u1 n 1 lo2 hi2 ⟨#[]⟩)
 go_enter Tryz.func157,Tryz.ntmps157
 go_wp2
 exact bodyPost_ret (v := .tuple #[cv (n,2,0,0,u1),.bool false]) (by simp [results,Tryz.results157,go_sem]) rfl (rbq_no (n,2,0,0,u1) (by first | exact B.out.alloc B.out.size _ | exact (((((B.out.alloc B.out.size _).setCell (by simp) _).setCell (by simp) _).setCell (by simp) _).setCell (by simp) _).setCell (by simp) _))
theorem rboth_pr (n : ByteArray) (u1 : ByteArray) (lo2 hi2 : Int) (w : World) : Calls Tryz.prog 157 #[cv (r5 (n,(.pr u1))),cv (r5 (n,(.rg lo2 hi2)))] w (RBQ n (bothK (.pr u1) (.rg lo2 hi2)) w) := by
 have R := Lib.hid (show bothK (.pr u1) (.rg lo2 hi2) = none from rfl)
 rw [R.out]
 clear R
 simp only [r5,kN,kLo,kHi,kT]
 have B := Lib.hid (rC w n 3 0 0 u1 n 1 lo2 hi2 ⟨#[]⟩)
 go_enter Tryz.func157,Tryz.ntmps157
 go_wp2
 exact bodyPost_ret (v := .tuple #[cv (n,3,0,0,u1),.bool false]) (by simp [results,Tryz.results157,go_sem]) rfl (rbq_no (n,3,0,0,u1) (by first | exact B.out.alloc B.out.size _ | exact (((((B.out.alloc B.out.size _).setCell (by simp) _).setCell (by simp) _).setCell (by simp) _).setCell (by simp) _).setCell (by simp) _))
end Go.Proofs.YtncogjpmboglhaaGreat.Rl
namespace Go.Proofs.YtncogjpmboglhaaGreat.Pr
open Go.RowKit Go.ChangeShapes Go.WideShapes In
theorem cellsP : Tryz.prog.cellsOf 53 = 2 := by kernel_rfl
theorem cellsIs : Tryz.prog.cellsOf 25 = 1 := by kernel_rfl
end Go.Proofs.YtncogjpmboglhaaGreat.Pr
