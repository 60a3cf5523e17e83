/-
  Less, seen and Find of broadsideref9. Conditions as told.
-/
import Derived.Test.YtncogjpmboglhaaGreatQ006
import Derived.Lib.Hide
set_option maxRecDepth 100000
set_option maxHeartbeats 64000000
namespace Go.Proofs.YtncogjpmboglhaaGreat.Bk
open Go.RowKit Rw YtncogjpmboglhaaGreat.Nm Pr
abbrev idv (x : Id) : Value := .agg #[.int .i64 x.1,.int .i64 x.2]
theorem stoodId : Tryz.prog.stoodInHeld 38 = false := by kernel_rfl
theorem eqId (a b c d : Int) (r : Bool) (h : (a == c && b == d) = r) (w : World) : (binOp .eql 38 (.agg #[.int .i64 a,.int .i64 b]) (.agg #[.int .i64 c,.int .i64 d])).run Tryz.prog w = .ok (.bool r) w := by
 have st := stoodId
 subst h
 by_cases h1 : a = c <;> by_cases h2 : b = d <;> simp [go_sem,Tryz.underlying38,Tryz.underlying3,st,h1,h2]
theorem newB (w : World) (o : Obj) : Below w.heap.size w (w.alloc o) := (Below.refl _ _).alloc (Nat.le_refl _) _
theorem two_new (w : World) (c d : Array Value) (s t : TypeId) : Below w.heap.size w ((w.alloc (.cells c s)).alloc (.cells d t)) ∧ Box ((w.alloc (.cells c s)).alloc (.cells d t)) w.heap.size c s ∧ Box ((w.alloc (.cells c s)).alloc (.cells d t)) (w.heap.size + 1) d t := by
 refine ⟨((Below.refl _ _).alloc (Nat.le_refl _) _).alloc (by simp) _,(box_new w c s).more _,?_⟩
 have h := box_new (w.alloc (.cells c s)) d t
 simpa using h
theorem less_any (x y : Id) (w : World) : Calls Tryz.prog 80 #[idv x,idv y] w fun e w' => e = .returned (.bool (lessI x y)) ∧ Below w.heap.size w w' := by
 obtain ⟨a,b⟩ := x
 obtain ⟨c,d⟩ := y
 obtain ⟨h0,h1,h2⟩ := two_new w #[.int .i64 a,.int .i64 b] #[.int .i64 c,.int .i64 d] 38 38
 have B := Lib.hid h0
 obtain ⟨a0,a1⟩ := h1.cs2
 obtain ⟨b0,b1⟩ := h2.cs2
 have R := Lib.hid (show lessI (a,b) (c,d) = (decide (a < c) || (a == c && decide (b < d))) from rfl)
 generalize lessI (a,b) (c,d) = r at *
 obtain ⟨r1,e1⟩ : ∃ r,decide (a < c) = r := ⟨_,rfl⟩
 obtain ⟨r2,e2⟩ : ∃ r,(a == c) = r := ⟨_,rfl⟩
 obtain ⟨r3,e3⟩ : ∃ r,decide (b < d) = r := ⟨_,rfl⟩
 rw [e1,e2,e3] at R
 clear h0 h1 h2
 go_enter Tryz.func80,Tryz.ntmps80
 cases r1 <;> cases r2
 all_goals
  go_wp2
  go_ret
  exact ⟨by rw [R.out]; simp,B.out⟩
theorem rseen_any (me : Int) (nv av ev ov : Value) (sv : Sl) (l : List Id) (x : Id) (w : World) (hs : RowJ w (slv sv) l) :
  Calls Tryz.prog 87 #[.agg #[.int .i64 me,nv,av,slv sv,ev,ov],idv x] w fun e w' => e = .returned (.bool (decide (x ∈ l))) ∧ Below w.heap.size w w' := by
 obtain ⟨c,d⟩ := x
 obtain ⟨so,sn,sc⟩ := sv
 obtain ⟨ao,ac,hv⟩ := hs.len
 have hv : Value.slice so sn sc = .slice ao l.length ac := hv
 obtain ⟨rfl,rfl,rfl⟩ : so = ao ∧ sn = l.length ∧ sc = ac := by simpa using hv
 obtain ⟨h0,h1,h2⟩ := two_new w #[.int .i64 me,nv,av,.slice so l.length sc,ev,ov] #[.int .i64 c,.int .i64 d] 31 38
 have B := Lib.hid h0
 have HS := Lib.hid (hs.on h0)
 have X2 := Lib.hid h1
 have X3 := Lib.hid h2
 have lm := hs.most
 unfold maxLen at lm
 obtain ⟨n,hn⟩ : ∃ n,n = l.length := ⟨_,rfl⟩
 have q3 := h1.cell 3
 simp only [List.getElem?_toArray,List.getElem?_cons_zero,List.getElem?_cons_succ] at q3
 rw [← hn] at HS X2 lm q3 B X3 ⊢
 have HN := Lib.hid hn.symm
 clear h0 h1 h2 hs hv hn
 go_enter Tryz.func87,Tryz.ntmps87
 go_upto_region 1 with fail
 generalize (w.alloc (.cells #[.int .i64 me,nv,av,.slice so n sc,ev,ov] 31)).alloc (.cells #[.int .i64 c,.int .i64 d] 38) = W at *
 go_wp2
 go_loopw [10] (fun i wr => ∃ k : Nat,k ≤ n ∧ i = .int .i64 k ∧ Below W.heap.size W wr ∧ ∀ (j : Nat) (y : Id),j < k → l[j]? = some y → y ≠ (c,d)) (fun i _ => n - (intOf i).toNat)
 case atStart => exact ⟨0,Nat.zero_le _,rfl,Below.refl _ _,fun j y h => by omega⟩
 case round =>
  obtain ⟨k,hk,rfl,hbe,hall⟩ := hrel
  have BE := Lib.hid hbe
  have AL := Lib.hid hall
  clear hbe hall
  by_cases hlt : k < n
  ·obtain ⟨y,hy⟩ : ∃ y,l[k]? = some y := ⟨_,List.getElem?_eq_getElem (by rw [HN.out]; exact hlt)⟩
   obtain ⟨p,ix,px⟩ := elJ HS.out rfl HN.out hy
   obtain ⟨p0,p1⟩ := px wr BE.out
   obtain ⟨y1,y2⟩ := y
   simp only at p0 p1
   have NB := Lib.hid (newB wr (.cells #[.int .i64 y1,.int .i64 y2] 38))
   obtain ⟨x0,x1⟩ := ((X3.out.on BE.out).on NB.out).cs2
   have hw3 : IntKind.i64.wrap ((k : Int) + 1) = (k : Int) + 1 := IntWalk.i64_in _ (by omega)
   obtain ⟨r,hr⟩ : ∃ r,(y1 == c && y2 == d) = r := ⟨_,rfl⟩
   have he := eqId y1 y2 c d r hr
   have HY := Lib.hid hy
   have HR := Lib.hid hr
   clear px hy hr
   cases r
   ·go_wp2
    go_roundw
    case rel => exact ⟨k + 1,by omega,by go_num,BE.out.trans (NB.out.mono BE.out.size),fun j y' hj h1 => by
     rcases Nat.lt_or_ge j k with h3 | h3
     ·exact AL.out j y' h3 h1
     ·obtain rfl : j = k := by omega
      have e1 := HY.out
      rw [h1] at e1
      rw [Option.some.inj e1]
      intro e
      obtain ⟨rfl,rfl⟩ : y1 = c ∧ y2 = d := by simpa using e
      have := HR.out
      simp at this⟩
    case measure => simp [intOf]; omega
   ·go_wp2
    go_ret
    have h8 := HR.out
    obtain ⟨rfl,rfl⟩ : y1 = c ∧ y2 = d := by simpa using h8
    exact ⟨by rw [decide_eq_true (List.mem_of_getElem? HY.out)]; rfl,B.out.trans ((BE.out.trans (NB.out.mono BE.out.size)).mono B.out.size)⟩
  ·obtain rfl : k = n := by omega
   go_wp2
   go_ret
   have hd : decide ((c,d) ∈ l) = false := decide_eq_false fun hm => by
    obtain ⟨j,hj,hje⟩ := List.getElem_of_mem hm
    exact AL.out j (c,d) (by rw [← HN.out]; exact hj) (by rw [List.getElem?_eq_getElem hj,hje]) rfl
   exact ⟨by rw [hd]; rfl,B.out.trans (BE.out.mono B.out.size)⟩
theorem findI_bd : ∀ (l : List Id) (x : Id),-1 ≤ findI l x
 | [],_ => by simp [findI]
 | a :: l,x => by
  unfold findI
  have := findI_bd l x
  split
  ·omega
  ·split <;> omega
theorem find_none (l : List XAd) (x : Id) (h : ∀ (j : Nat) (y : XAd),l[j]? = some y → (y.1,y.2.1) ≠ x) : findI (l.map fun y => (y.1,y.2.1)) x = -1 := by
 induction l with
 | nil => rfl
 | cons a l ih =>
  rw [List.map_cons,findI,if_neg (h 0 a rfl),ih fun j y hj => h (j + 1) y (by simpa using hj),if_pos rfl]
theorem find_at (l : List XAd) (k : Nat) (x : Id) (y : XAd) (h : l[k]? = some y) (hx : (y.1,y.2.1) = x) (hall : ∀ (j : Nat) (z : XAd),j < k → l[j]? = some z → (z.1,z.2.1) ≠ x) : findI (l.map fun y => (y.1,y.2.1)) x = k := by
 induction l generalizing k with
 | nil => simp at h
 | cons a l ih =>
  cases k with
  | zero =>
   obtain rfl : a = y := by simpa using h
   rw [List.map_cons,findI,if_pos hx]
   rfl
  | succ k =>
   have h2 := ih k (by simpa using h) fun j z hj hz => hall (j + 1) z (by omega) (by simpa using hz)
   rw [List.map_cons,findI,if_neg (hall 0 a (by omega) rfl),h2,if_neg (by omega)]
   omega
theorem rfind_any (me : Int) (nv ev sv ov : Value) (av : Sl) (l : List XAd) (x : Id) (w : World) (hs : RowD w (slv av) l) :
  Calls Tryz.prog 78 #[.agg #[.int .i64 me,nv,slv av,sv,ev,ov],idv x] w fun e w' => e = .returned (.int .i64 (findI (l.map fun y => (y.1,y.2.1)) x)) ∧ Below w.heap.size w w' := by
 obtain ⟨c,d⟩ := x
 obtain ⟨so,sn,sc⟩ := av
 obtain ⟨ao,ac,hv⟩ := hs.len
 have hv : Value.slice so sn sc = .slice ao l.length ac := hv
 obtain ⟨rfl,rfl,rfl⟩ : so = ao ∧ sn = l.length ∧ sc = ac := by simpa using hv
 obtain ⟨h0,h1,h2⟩ := two_new w #[.int .i64 me,nv,.slice so l.length sc,sv,ev,ov] #[.int .i64 c,.int .i64 d] 31 38
 have B := Lib.hid h0
 have HS := Lib.hid (hs.on h0)
 have X2 := Lib.hid h1
 have X3 := Lib.hid h2
 have lm := hs.most
 unfold maxLen at lm
 obtain ⟨n,hn⟩ : ∃ n,n = l.length := ⟨_,rfl⟩
 have q3 := h1.cell 2
 simp only [List.getElem?_toArray,List.getElem?_cons_zero,List.getElem?_cons_succ] at q3
 rw [← hn] at HS X2 lm q3 B X3 ⊢
 have HN := Lib.hid hn.symm
 clear h0 h1 h2 hs hv hn
 go_enter Tryz.func78,Tryz.ntmps78
 go_upto_region 1 with fail
 generalize (w.alloc (.cells #[.int .i64 me,nv,.slice so n sc,sv,ev,ov] 31)).alloc (.cells #[.int .i64 c,.int .i64 d] 38) = W at *
 go_wp2
 go_loopw [10] (fun i wr => ∃ k : Nat,k ≤ n ∧ i = .int .i64 k ∧ Below W.heap.size W wr ∧ ∀ (j : Nat) (y : XAd),j < k → l[j]? = some y → (y.1,y.2.1) ≠ (c,d)) (fun i _ => n - (intOf i).toNat)
 case atStart => exact ⟨0,Nat.zero_le _,rfl,Below.refl _ _,fun j y h => by omega⟩
 case round =>
  obtain ⟨k,hk,rfl,hbe,hall⟩ := hrel
  have BE := Lib.hid hbe
  have AL := Lib.hid hall
  clear hbe hall
  by_cases hlt : k < n
  ·obtain ⟨y,hy⟩ : ∃ y,l[k]? = some y := ⟨_,List.getElem?_eq_getElem (by rw [HN.out]; exact hlt)⟩
   obtain ⟨p,ix,px⟩ := elD HS.out rfl HN.out hy
   obtain ⟨p0,p1,p2,p3⟩ := px wr BE.out
   obtain ⟨y1,y2,⟨yo,yn,yc⟩,y4⟩ := y
   simp only at p0 p1 p2 p3
   have NB := Lib.hid (newB wr (.cells #[.int .i64 y1,.int .i64 y2,.slice yo yn yc,.int .i64 y4] 41))
   obtain ⟨x0,x1⟩ := ((X3.out.on BE.out).on NB.out).cs2
   have hw3 : IntKind.i64.wrap ((k : Int) + 1) = (k : Int) + 1 := IntWalk.i64_in _ (by omega)
   obtain ⟨r,hr⟩ : ∃ r,(y1 == c && y2 == d) = r := ⟨_,rfl⟩
   have he := eqId y1 y2 c d r hr
   have HY := Lib.hid hy
   have HR := Lib.hid hr
   clear px hy hr
   cases r
   ·go_wp2
    go_roundw
    case rel => exact ⟨k + 1,by omega,by go_num,BE.out.trans (NB.out.mono BE.out.size),fun j y' hj h1 => by
     rcases Nat.lt_or_ge j k with h3 | h3
     ·exact AL.out j y' h3 h1
     ·obtain rfl : j = k := by omega
      have e1 := HY.out
      rw [h1] at e1
      rw [Option.some.inj e1]
      intro e
      obtain ⟨rfl,rfl⟩ : y1 = c ∧ y2 = d := by simpa using e
      have := HR.out
      simp at this⟩
    case measure => simp [intOf]; omega
   ·go_wp2
    go_ret
    have h8 := HR.out
    obtain ⟨rfl,rfl⟩ : y1 = c ∧ y2 = d := by simpa using h8
    exact ⟨by rw [find_at l k (y1,y2) _ HY.out rfl AL.out]; rfl,B.out.trans ((BE.out.trans (NB.out.mono BE.out.size)).mono B.out.size)⟩
  ·obtain rfl : k = n := by omega
   go_wp2
   go_ret
   have hd : findI (l.map fun y => (y.1,y.2.1)) (c,d) = -1 := find_none l (c,d) fun j y hj => AL.out j y (by rw [← HN.out]; exact (List.getElem?_eq_some_iff.1 hj).1) hj
   exact ⟨by rw [hd]; rfl,B.out.trans (BE.out.mono B.out.size)⟩
end Go.Proofs.YtncogjpmboglhaaGreat.Bk
