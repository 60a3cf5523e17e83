/-
  slices.BinarySearchFunc over IDs, as package adverts calls it. Conditions as told.
-/
import Derived.Test.YtncogjpmboglhaaGreatG013
import Derived.Deep.LoopGhost
import Derived.Laws.Externs
set_option maxRecDepth 100000
set_option maxHeartbeats 64000000
namespace Go.Proofs.YtncogjpmboglhaaGreat.Av
open Go.RowKit Go.Sort Rw YtncogjpmboglhaaGreat.Nm Pr Bk
abbrev keyJ (x : XID) : XID := x
theorem el_reJ {W W1 : World} {v : Value} {l : List XID} {ao : Option Addr} {n c k : Nat} {x : XID} (h : RowJ W v l) (hv : v = .slice ao n c) (hn : l.length = n) (hk : l[k]? = some x) (hb : Below W.heap.size W W1) :
  ∃ p : Addr,(∀ w,(Instr.indexAt 27 (.slice ao n c) (.int .i64 k)).run Tryz.prog w = .ok (.pointer (some p)) w) ∧
   (∀ d os,(grow (redrawn W1 d) os).cell? p = some (.int .i64 x.1)) ∧ (∀ d os,(grow (redrawn W1 d) os).cell? ⟨p.block,p.off + 1,none⟩ = some (.int .i64 x.2)) := by
 obtain ⟨p,h1,h2⟩ := elJ h hv hn hk
 obtain ⟨c0,c1⟩ := h2 _ hb
 exact ⟨p,h1,cell_regrown c0,cell_regrown c1⟩
theorem box_reJ {W : World} {b : Nat} {c : XID} (h : Box W b #[.int .i64 c.1,.int .i64 c.2] 38) : (∀ d os,(grow (redrawn W d) os).cell? ⟨b,0,none⟩ = some (.int .i64 c.1)) ∧ (∀ d os,(grow (redrawn W d) os).cell? ⟨b,1,none⟩ = some (.int .i64 c.2)) :=
 ⟨cell_regrown (h.cell 0),cell_regrown (h.cell 1)⟩
theorem ord_reJ (c d : XID) (r : Int) (hr : cmpJ c d = r) (w : World) (k : Nat) (os : Array Obj) :
  Calls Tryz.prog 39 #[idv c,idv d] (grow (redrawn w k) os) fun e w'' => e = .returned (.int .i64 r) ∧ ∃ p : Regrown,w'' = grow (redrawn w p.d) p.os := by
 subst hr
 exact Calls.regrown_of (byID_any c d _)
theorem bsJ_any (v : Value) (l : List XID) (c : XID) (w : World) (hv : RowJ w v l) (hr : RiseK keyJ l) (hl : l.length ≤ 900) :
  Calls Tryz.prog 105 #[v,idv c,.func (.func 39) #[] #[]] w fun e w' => e = .returned (.tuple #[.int .i64 (placeK keyJ l c),.bool (thereK keyJ l c)]) ∧ Below w.heap.size w w' := by
 have HL := Lib.hid hv
 have HR := Lib.hid hr
 have BX := Lib.hid (box_new w #[.int .i64 c.1,.int .i64 c.2] 38)
 have B1 := Lib.hid ((Below.refl w.heap.size w).alloc (Nat.le_refl _) (.cells #[.int .i64 c.1,.int .i64 c.2] 38))
 obtain ⟨ao,ac,rfl⟩ := hv.len
 obtain ⟨n,hn⟩ : ∃ n,n = l.length := ⟨_,rfl⟩
 rw [← hn] at HL hl ⊢
 have HN := Lib.hid hn
 obtain ⟨cnt,hc⟩ : ∃ k,k = placeK keyJ l c := ⟨_,rfl⟩
 obtain ⟨th,ht⟩ : ∃ k,k = thereK keyJ l c := ⟨_,rfl⟩
 rw [← hc,← ht]
 have HC := Lib.hid hc
 have HT := Lib.hid ht
 clear hv hr hn hc ht
 obtain ⟨c1,c2⟩ := c
 go_enter Tryz.func105,Tryz.ntmps105
 go_wp2
 generalize w.alloc (.cells #[.int .i64 c1,.int .i64 c2] 38) = w1 at *
 go_loopg [9,10] n (fun kx s9 s10 wr => ∃ lo hi : Nat,s9 = .int .i64 lo ∧ s10 = .int .i64 hi ∧ lo ≤ hi ∧ hi ≤ n ∧ hi - lo ≤ kx ∧ Below w.heap.size w wr ∧ Box wr w.heap.size #[.int .i64 c1,.int .i64 c2] 38 ∧
  (∀ (t : Nat) (y : XID),t < lo → l[t]? = some y → lessI y (c1,c2) = true) ∧ (∀ (t : Nat) (y : XID),hi ≤ t → l[t]? = some y → lessI y (c1,c2) = false))
 case atStart => exact ⟨0,n,rfl,rfl,Nat.zero_le _,Nat.le_refl _,by omega,B1.out,BX.out,fun t y h => by omega,fun t y h1 h2 => by have := (List.getElem?_eq_some_iff.1 h2).1; have := HN.out; omega⟩
 case round =>
  clear B1 BX
  obtain ⟨lo,hi,rfl,rfl,hlh,hin,hg,hb,hx,ha,hz⟩ := hrel
  have B := Lib.hid hb
  have X := Lib.hid hx
  have AL := Lib.hid ha
  have ZL := Lib.hid hz
  clear hb hx ha hz
  by_cases hlt : lo < hi
  ·obtain ⟨y,hy⟩ : ∃ y,l[(lo + hi) / 2]? = some y := ⟨_,List.getElem?_eq_getElem (by have := HN.out; omega)⟩
   obtain ⟨p,ix,p0,p1⟩ := el_reJ HL.out rfl HN.out.symm hy B.out
   obtain ⟨b0,b1⟩ := box_reJ (c := (c1,c2)) X.out
   obtain ⟨r,hr⟩ : ∃ r,cmpJ y (c1,c2) = r := ⟨_,rfl⟩
   have C := ord_reJ y (c1,c2) r hr wr
   have LE := Lib.hid (show decide (r < 0) = lessI y (c1,c2) by rw [← hr]; exact cmpJ_less _ _)
   have Y := Lib.hid hy
   clear hy hr
   have e23 : ((lo : Int) + (hi : Int)) / 2 = (((lo + hi) / 2 : Nat) : Int) := by omega
   generalize hm : (lo + hi) / 2 = m at *
   have BN := Lib.hid (fun dq osq => B.out.trans ((below_regrown wr dq osq).mono B.out.size))
   have XN := Lib.hid (fun dq osq => X.out.on (below_regrown wr dq osq))
   obtain ⟨y1,y2⟩ := y
   simp only at p0 p1 b0 b1 C
   by_cases hneg : r < 0
   ·have d0 : decide (r < 0) = true := by simpa using hneg
    have LT := Lib.hid (show lessI (y1,y2) (c1,c2) = true by rw [← LE.out]; exact d0)
    go_wp2
    refine wp_region_quiet_below (by kernel_rfl) (by kernel_rfl) ?_
    repeat (go_big_quiet_step (first | (with_reducible exact C _ _) | exact call_ordJ _ _))
    refine wpQuiet_nil ?_
    intro _ hw'
    obtain ⟨⟨dq,osq⟩,hw''⟩ := hw'
    subst hw''
    clear ix p0 p1 b0 b1 C
    go_wp2
    go_roundg (hi - (m + 1))
    case measure => omega
    case rel => exact ⟨m + 1,hi,by go_num,rfl,by omega,hin,Nat.le_refl _,BN.out _ _,XN.out _ _,fun t z h1 h2 => by
     rcases Nat.lt_or_ge t m with h3 | h3
     ·exact lessI_trans (riseK_lt HR.out (by omega) h2 Y.out) LT.out
     ·obtain rfl : t = m := by omega
      rw [Y.out] at h2
      rw [← Option.some.inj h2]
      exact LT.out,ZL.out⟩
   ·have d0 : decide (r < 0) = false := by simpa using hneg
    have LT := Lib.hid (show lessI (y1,y2) (c1,c2) = false by rw [← LE.out]; exact d0)
    go_wp2
    refine wp_region_quiet_below (by kernel_rfl) (by kernel_rfl) ?_
    repeat (go_big_quiet_step (first | (with_reducible exact C _ _) | exact call_ordJ _ _))
    refine wpQuiet_nil ?_
    intro _ hw'
    obtain ⟨⟨dq,osq⟩,hw''⟩ := hw'
    subst hw''
    clear ix p0 p1 b0 b1 C
    go_wp2
    go_roundg (m - lo)
    case measure => omega
    case rel => exact ⟨lo,m,rfl,rfl,by omega,by omega,Nat.le_refl _,BN.out _ _,XN.out _ _,AL.out,fun t z h1 h2 => by
     cases h : lessI z (c1,c2)
     ·rfl
     ·rcases Nat.lt_or_ge m t with h3 | h3
      ·have := lessI_trans (riseK_lt HR.out h3 Y.out h2) h
       rw [LT.out] at this
       cases this
      ·obtain rfl : t = m := by omega
       rw [Y.out] at h2
       rw [← Option.some.inj h2,LT.out] at h
       cases h⟩
  ·obtain rfl : hi = lo := by omega
   have E := Lib.hid (placeK_is keyJ l (c1,c2) hi AL.out (by
    rcases Nat.lt_or_ge hi n with h | h
    ·exact Or.inr ⟨_,List.getElem?_eq_getElem (by have := HN.out; omega),ZL.out hi _ (Nat.le_refl _) (List.getElem?_eq_getElem (by have := HN.out; omega))⟩
    ·exact Or.inl (by have := HN.out; omega)))
   by_cases hn : hi < n
   ·obtain ⟨y,hy⟩ : ∃ y,l[hi]? = some y := ⟨_,List.getElem?_eq_getElem (by have := HN.out; omega)⟩
    obtain ⟨p,ix,p0,p1⟩ := el_reJ HL.out rfl HN.out.symm hy B.out
    obtain ⟨b0,b1⟩ := box_reJ (c := (c1,c2)) X.out
    obtain ⟨r,hr⟩ : ∃ r,cmpJ y (c1,c2) = r := ⟨_,rfl⟩
    have C := ord_reJ y (c1,c2) r hr wr
    have TH := Lib.hid (show th = (r == 0) by
     rw [HT.out,thereK,E.out,hy,Bool.eq_iff_iff,beq_iff_eq,← hr,cmpJ_zero,decide_eq_true_eq])
    have BN := Lib.hid (fun dq osq => B.out.trans ((below_regrown wr dq osq).mono B.out.size))
    have CE := Lib.hid (show cnt = hi by rw [HC.out,E.out])
    clear hy hr hlt
    have g4 : decide ((hi : Int) < (n : Int)) = true := by simp; omega
    obtain ⟨y1,y2⟩ := y
    simp only at p0 p1 b0 b1 C
    go_wp2
    refine wp_region_quiet_below (by kernel_rfl) (by kernel_rfl) ?_
    repeat (go_big_quiet_step (first | (with_reducible exact C _ _) | exact call_ordJ _ _))
    refine wpQuiet_nil ?_
    intro _ hw'
    obtain ⟨⟨dq,osq⟩,hw''⟩ := hw'
    subst hw''
    clear ix p0 p1 b0 b1 C
    go_wp2
    go_ret2
    exact ⟨by rw [TH.out,CE.out]; rfl,BN.out _ _⟩
   ·have TH := Lib.hid (show th = false by
     rw [HT.out,thereK,E.out,List.getElem?_eq_none (by have := HN.out; omega)])
    have CE := Lib.hid (show cnt = hi by rw [HC.out,E.out])
    have BN := Lib.hid (fun dq osq => B.out.trans ((below_regrown wr dq osq).mono B.out.size))
    have g4 : decide ((hi : Int) < (n : Int)) = false := by simp; omega
    clear hlt
    go_wp2
    refine wp_region_quiet_below (by kernel_rfl) (by kernel_rfl) ?_
    repeat (go_big_quiet_step (fail))
    refine wpQuiet_nil ?_
    intro _ hw'
    obtain ⟨⟨dq,osq⟩,hw''⟩ := hw'
    subst hw''
    go_wp2
    go_ret2
    exact ⟨by rw [TH.out,CE.out]; rfl,BN.out _ _⟩
abbrev keyD (x : XAd) : XID := (x.1,x.2.1)
theorem el_reD {W W1 : World} {v : Value} {l : List XAd} {ao : Option Addr} {n c k : Nat} {x : XAd} (h : RowD W v l) (hv : v = .slice ao n c) (hn : l.length = n) (hk : l[k]? = some x) (hb : Below W.heap.size W W1) :
  ∃ p : Addr,(∀ w,(Instr.indexAt 26 (.slice ao n c) (.int .i64 k)).run Tryz.prog w = .ok (.pointer (some p)) w) ∧
   (∀ d os,(grow (redrawn W1 d) os).cell? p = some (.int .i64 x.1)) ∧ (∀ d os,(grow (redrawn W1 d) os).cell? ⟨p.block,p.off + 1,none⟩ = some (.int .i64 x.2.1)) ∧ (∀ d os,(grow (redrawn W1 d) os).cell? ⟨p.block,p.off + 2,none⟩ = some (slv x.2.2.1)) ∧ (∀ d os,(grow (redrawn W1 d) os).cell? ⟨p.block,p.off + 3,none⟩ = some (.int .i64 x.2.2.2)) := by
 obtain ⟨p,h1,h2⟩ := elD h hv hn hk
 obtain ⟨c0,c1,c2,c3⟩ := h2 _ hb
 exact ⟨p,h1,cell_regrown c0,cell_regrown c1,cell_regrown c2,cell_regrown c3⟩
theorem box_reD {W : World} {b : Nat} {c : XAd} (h : Box W b #[.int .i64 c.1,.int .i64 c.2.1,slv c.2.2.1,.int .i64 c.2.2.2] 41) : (∀ d os,(grow (redrawn W d) os).cell? ⟨b,0,none⟩ = some (.int .i64 c.1)) ∧ (∀ d os,(grow (redrawn W d) os).cell? ⟨b,1,none⟩ = some (.int .i64 c.2.1)) ∧ (∀ d os,(grow (redrawn W d) os).cell? ⟨b,2,none⟩ = some (slv c.2.2.1)) ∧ (∀ d os,(grow (redrawn W d) os).cell? ⟨b,3,none⟩ = some (.int .i64 c.2.2.2)) :=
 ⟨cell_regrown (h.cell 0),cell_regrown (h.cell 1),cell_regrown (h.cell 2),cell_regrown (h.cell 3)⟩
theorem ord_reD (c d : XAd) (r : Int) (hr : cmpJ (c.1,c.2.1) (d.1,d.2.1) = r) (w : World) (k : Nat) (os : Array Obj) :
  Calls Tryz.prog 41 #[valD c,valD d] (grow (redrawn w k) os) fun e w'' => e = .returned (.int .i64 r) ∧ ∃ p : Regrown,w'' = grow (redrawn w p.d) p.os := by
 subst hr
 exact Calls.regrown_of (inAdv_any c d _)
theorem bsD_any (v : Value) (l : List XAd) (c : XAd) (w : World) (hv : RowD w v l) (hr : RiseK keyD l) (hl : l.length ≤ 900) :
  Calls Tryz.prog 107 #[v,valD c,.func (.func 41) #[] #[]] w fun e w' => e = .returned (.tuple #[.int .i64 (placeK keyD l (c.1,c.2.1)),.bool (thereK keyD l (c.1,c.2.1))]) ∧ Below w.heap.size w w' := by
 have HL := Lib.hid hv
 have HR := Lib.hid hr
 have BX := Lib.hid (box_new w #[.int .i64 c.1,.int .i64 c.2.1,slv c.2.2.1,.int .i64 c.2.2.2] 41)
 have B1 := Lib.hid ((Below.refl w.heap.size w).alloc (Nat.le_refl _) (.cells #[.int .i64 c.1,.int .i64 c.2.1,slv c.2.2.1,.int .i64 c.2.2.2] 41))
 obtain ⟨ao,ac,rfl⟩ := hv.len
 obtain ⟨n,hn⟩ : ∃ n,n = l.length := ⟨_,rfl⟩
 rw [← hn] at HL hl ⊢
 have HN := Lib.hid hn
 obtain ⟨cnt,hc⟩ : ∃ k,k = placeK keyD l (c.1,c.2.1) := ⟨_,rfl⟩
 obtain ⟨th,ht⟩ : ∃ k,k = thereK keyD l (c.1,c.2.1) := ⟨_,rfl⟩
 rw [← hc,← ht]
 have HC := Lib.hid hc
 have HT := Lib.hid ht
 clear hv hr hn hc ht
 obtain ⟨c1,c2,⟨c3,c4,c5⟩,c6⟩ := c
 go_enter Tryz.func107,Tryz.ntmps107
 go_wp2
 generalize w.alloc (.cells #[.int .i64 c1,.int .i64 c2,.slice c3 c4 c5,.int .i64 c6] 41) = w1 at *
 go_loopg [9,10] n (fun kx s9 s10 wr => ∃ lo hi : Nat,s9 = .int .i64 lo ∧ s10 = .int .i64 hi ∧ lo ≤ hi ∧ hi ≤ n ∧ hi - lo ≤ kx ∧ Below w.heap.size w wr ∧ Box wr w.heap.size #[.int .i64 c1,.int .i64 c2,.slice c3 c4 c5,.int .i64 c6] 41 ∧
  (∀ (t : Nat) (y : XAd),t < lo → l[t]? = some y → lessI (y.1,y.2.1) (c1,c2) = true) ∧ (∀ (t : Nat) (y : XAd),hi ≤ t → l[t]? = some y → lessI (y.1,y.2.1) (c1,c2) = false))
 case atStart => exact ⟨0,n,rfl,rfl,Nat.zero_le _,Nat.le_refl _,by omega,B1.out,BX.out,fun t y h => by omega,fun t y h1 h2 => by have := (List.getElem?_eq_some_iff.1 h2).1; have := HN.out; omega⟩
 case round =>
  clear B1 BX
  obtain ⟨lo,hi,rfl,rfl,hlh,hin,hg,hb,hx,ha,hz⟩ := hrel
  have B := Lib.hid hb
  have X := Lib.hid hx
  have AL := Lib.hid ha
  have ZL := Lib.hid hz
  clear hb hx ha hz
  by_cases hlt : lo < hi
  ·obtain ⟨y,hy⟩ : ∃ y,l[(lo + hi) / 2]? = some y := ⟨_,List.getElem?_eq_getElem (by have := HN.out; omega)⟩
   obtain ⟨p,ix,p0,p1,p2,p3⟩ := el_reD HL.out rfl HN.out.symm hy B.out
   obtain ⟨b0,b1,b2,b3⟩ := box_reD (c := (c1,c2,(c3,c4,c5),c6)) X.out
   obtain ⟨r,hr⟩ : ∃ r,cmpJ (y.1,y.2.1) (c1,c2) = r := ⟨_,rfl⟩
   have C := ord_reD y (c1,c2,(c3,c4,c5),c6) r hr wr
   have LE := Lib.hid (show decide (r < 0) = lessI (y.1,y.2.1) (c1,c2) by rw [← hr]; exact cmpJ_less _ _)
   have Y := Lib.hid hy
   clear hy hr
   have e23 : ((lo : Int) + (hi : Int)) / 2 = (((lo + hi) / 2 : Nat) : Int) := by omega
   generalize hm : (lo + hi) / 2 = m at *
   have BN := Lib.hid (fun dq osq => B.out.trans ((below_regrown wr dq osq).mono B.out.size))
   have XN := Lib.hid (fun dq osq => X.out.on (below_regrown wr dq osq))
   obtain ⟨y1,y2,⟨yo,yn,yc⟩,y4⟩ := y
   simp only at p0 p1 p2 p3 b0 b1 b2 b3 C
   by_cases hneg : r < 0
   ·have d0 : decide (r < 0) = true := by simpa using hneg
    have LT := Lib.hid (show lessI (y1,y2) (c1,c2) = true by rw [← LE.out]; exact d0)
    go_wp2
    refine wp_region_quiet_below (by kernel_rfl) (by kernel_rfl) ?_
    repeat (go_big_quiet_step (first | (with_reducible exact C _ _) | exact call_ordD _ _))
    refine wpQuiet_nil ?_
    intro _ hw'
    obtain ⟨⟨dq,osq⟩,hw''⟩ := hw'
    subst hw''
    clear ix p0 p1 p2 p3 b0 b1 b2 b3 C
    go_wp2
    go_roundg (hi - (m + 1))
    case measure => omega
    case rel => exact ⟨m + 1,hi,by go_num,rfl,by omega,hin,Nat.le_refl _,BN.out _ _,XN.out _ _,fun t z h1 h2 => by
     rcases Nat.lt_or_ge t m with h3 | h3
     ·exact lessI_trans (riseK_lt HR.out (by omega) h2 Y.out) LT.out
     ·obtain rfl : t = m := by omega
      rw [Y.out] at h2
      rw [← Option.some.inj h2]
      exact LT.out,ZL.out⟩
   ·have d0 : decide (r < 0) = false := by simpa using hneg
    have LT := Lib.hid (show lessI (y1,y2) (c1,c2) = false by rw [← LE.out]; exact d0)
    go_wp2
    refine wp_region_quiet_below (by kernel_rfl) (by kernel_rfl) ?_
    repeat (go_big_quiet_step (first | (with_reducible exact C _ _) | exact call_ordD _ _))
    refine wpQuiet_nil ?_
    intro _ hw'
    obtain ⟨⟨dq,osq⟩,hw''⟩ := hw'
    subst hw''
    clear ix p0 p1 p2 p3 b0 b1 b2 b3 C
    go_wp2
    go_roundg (m - lo)
    case measure => omega
    case rel => exact ⟨lo,m,rfl,rfl,by omega,by omega,Nat.le_refl _,BN.out _ _,XN.out _ _,AL.out,fun t z h1 h2 => by
     cases h : lessI (z.1,z.2.1) (c1,c2)
     ·rfl
     ·rcases Nat.lt_or_ge m t with h3 | h3
      ·have := lessI_trans (riseK_lt HR.out h3 Y.out h2) h
       rw [LT.out] at this
       cases this
      ·obtain rfl : t = m := by omega
       rw [Y.out] at h2
       rw [← Option.some.inj h2,LT.out] at h
       cases h⟩
  ·obtain rfl : hi = lo := by omega
   have E := Lib.hid (placeK_is keyD l (c1,c2) hi AL.out (by
    rcases Nat.lt_or_ge hi n with h | h
    ·exact Or.inr ⟨_,List.getElem?_eq_getElem (by have := HN.out; omega),ZL.out hi _ (Nat.le_refl _) (List.getElem?_eq_getElem (by have := HN.out; omega))⟩
    ·exact Or.inl (by have := HN.out; omega)))
   by_cases hn : hi < n
   ·obtain ⟨y,hy⟩ : ∃ y,l[hi]? = some y := ⟨_,List.getElem?_eq_getElem (by have := HN.out; omega)⟩
    obtain ⟨p,ix,p0,p1,p2,p3⟩ := el_reD HL.out rfl HN.out.symm hy B.out
    obtain ⟨b0,b1,b2,b3⟩ := box_reD (c := (c1,c2,(c3,c4,c5),c6)) X.out
    obtain ⟨r,hr⟩ : ∃ r,cmpJ (y.1,y.2.1) (c1,c2) = r := ⟨_,rfl⟩
    have C := ord_reD y (c1,c2,(c3,c4,c5),c6) r hr wr
    have TH := Lib.hid (show th = (r == 0) by
     rw [HT.out,thereK,E.out,hy,Bool.eq_iff_iff,beq_iff_eq,← hr,cmpJ_zero,decide_eq_true_eq])
    have BN := Lib.hid (fun dq osq => B.out.trans ((below_regrown wr dq osq).mono B.out.size))
    have CE := Lib.hid (show cnt = hi by rw [HC.out,E.out])
    clear hy hr hlt
    have g4 : decide ((hi : Int) < (n : Int)) = true := by simp; omega
    obtain ⟨y1,y2,⟨yo,yn,yc⟩,y4⟩ := y
    simp only at p0 p1 p2 p3 b0 b1 b2 b3 C
    go_wp2
    refine wp_region_quiet_below (by kernel_rfl) (by kernel_rfl) ?_
    repeat (go_big_quiet_step (first | (with_reducible exact C _ _) | exact call_ordD _ _))
    refine wpQuiet_nil ?_
    intro _ hw'
    obtain ⟨⟨dq,osq⟩,hw''⟩ := hw'
    subst hw''
    clear ix p0 p1 p2 p3 b0 b1 b2 b3 C
    go_wp2
    go_ret2
    exact ⟨by rw [TH.out,CE.out]; rfl,BN.out _ _⟩
   ·have TH := Lib.hid (show th = false by
     rw [HT.out,thereK,E.out,List.getElem?_eq_none (by have := HN.out; omega)])
    have CE := Lib.hid (show cnt = hi by rw [HC.out,E.out])
    have BN := Lib.hid (fun dq osq => B.out.trans ((below_regrown wr dq osq).mono B.out.size))
    have g4 : decide ((hi : Int) < (n : Int)) = false := by simp; omega
    clear hlt
    go_wp2
    refine wp_region_quiet_below (by kernel_rfl) (by kernel_rfl) ?_
    repeat (go_big_quiet_step (fail))
    refine wpQuiet_nil ?_
    intro _ hw'
    obtain ⟨⟨dq,osq⟩,hw''⟩ := hw'
    subst hw''
    go_wp2
    go_ret2
    exact ⟨by rw [TH.out,CE.out]; rfl,BN.out _ _⟩
end Go.Proofs.YtncogjpmboglhaaGreat.Av
