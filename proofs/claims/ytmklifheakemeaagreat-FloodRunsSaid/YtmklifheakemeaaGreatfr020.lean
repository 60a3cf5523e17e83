/-
  The order of IDs: Less, inAdverts, inOwns. Conditions as told.
-/
import Derived.Test.YtmklifheakemeaaGreatfr018
import Derived.Test.YtmklifheakemeaaGreatfr001
import Derived.Deep.RegionLaw
import Derived.Lib.QuietBelow
import Derived.BigQuiet
import Derived.Test.YtmklifheakemeaaGreatfr013
import Derived.Deep.LoopGhost
import Derived.Laws.Externs
import Derived.Test.YtmklifheakemeaaGreatfr017
import Derived.Test.YtmklifheakemeaaGreatfr019
set_option maxRecDepth 100000
set_option maxHeartbeats 64000000
namespace Go.Proofs.YtmklifheakemeaaGreat.Av
open Go.RowKit Go.Sort Rw YtmklifheakemeaaGreat.Nm Pr Bk
theorem aless_any (x y : XID) (w : World) : Calls Tryz.prog 120 #[idv x,idv y] w fun e w' => e = .returned (.bool (lessI x y)) ∧ Below w.heap.size w w' := by
 have C := byID_any x y
 have R := Lib.hid (show decide (cmpJ x y < 0) = lessI x y from by
  have h := cmpJ_neg x y
  cases hl : lessI x y
  ·rw [hl] at h; simp at h; simpa using h
  ·rw [hl] at h; simp at h; simpa using h)
 obtain ⟨a,b⟩ := x
 obtain ⟨c,d⟩ := y
 obtain ⟨h0,X,Y⟩ := two_new w #[.int .i64 a,.int .i64 b] #[.int .i64 c,.int .i64 d] 31 31
 obtain ⟨x0,x1⟩ := X.cs2
 obtain ⟨y0,y1⟩ := Y.cs2
 have B := Lib.hid h0
 generalize cmpJ (a,b) (c,d) = r at *
 generalize lessI (a,b) (c,d) = s at *
 clear X Y h0
 go_enter Tryz.func120,Tryz.ntmps120
 go_wp2_with fail
 have C := C ((w.alloc (.cells #[.int .i64 a,.int .i64 b] 31)).alloc (.cells #[.int .i64 c,.int .i64 d] 31))
 refine C.mono ?_
 rintro e w1 ⟨rfl,hb⟩
 go_wp2
 go_ret
 exact ⟨by have h := R.out; subst h; rfl,B.out.trans (hb.mono B.out.size)⟩
theorem inAdv_any (x y : XAd) (w : World) : Calls Tryz.prog 58 #[valD x,valD y] w fun e w' => e = .returned (.int .i64 (cmpJ (x.1,x.2.1) (y.1,y.2.1))) ∧ Below w.heap.size w w' := by
 obtain ⟨a,b,⟨s1,s2,s3⟩,p⟩ := x
 obtain ⟨c,d,⟨t1,t2,t3⟩,q⟩ := y
 have C := byID_any (a,b) (c,d)
 obtain ⟨h0,X,Y⟩ := two_new w #[.int .i64 a,.int .i64 b,.slice s1 s2 s3,.int .i64 p] #[.int .i64 c,.int .i64 d,.slice t1 t2 t3,.int .i64 q] 74 74
 have x1 := X.cell 1
 have x0 := X.cell 0
 have y1 := Y.cell 1
 have y0 := Y.cell 0
 simp only [List.getElem?_toArray,List.getElem?_cons_zero,List.getElem?_cons_succ] at x0 x1 y0 y1
 have B := Lib.hid h0
 generalize cmpJ (a,b) (c,d) = r at *
 clear X Y h0
 go_enter Tryz.func58,Tryz.ntmps58
 go_wp2_with fail
 have C := C ((w.alloc (.cells #[.int .i64 a,.int .i64 b,.slice s1 s2 s3,.int .i64 p] 74)).alloc (.cells #[.int .i64 c,.int .i64 d,.slice t1 t2 t3,.int .i64 q] 74))
 refine C.mono ?_
 rintro e w1 ⟨rfl,hb⟩
 go_wp2
 go_ret
 exact ⟨rfl,B.out.trans (hb.mono B.out.size)⟩
def RiseK {α : Type} (key : α → XID) (l : List α) : Prop := l.Pairwise fun a b => lessI (key a) (key b) = true
def placeK {α : Type} (key : α → XID) (l : List α) (x : XID) : Nat := (l.takeWhile fun a => lessI (key a) x).length
def thereK {α : Type} (key : α → XID) (l : List α) (x : XID) : Bool := match l[placeK key l x]? with
 | some y => decide (key y = x)
 | none => false
theorem placeK_map {α : Type} (key : α → XID) (l : List α) (x : XID) : placeK key l x = placeI (l.map key) x := by
 unfold placeK placeI
 rw [List.takeWhile_map,List.length_map]
 rfl
theorem placeK_is {α : Type} (key : α → XID) (l : List α) (x : XID) (k : Nat) (hall : ∀ (j : Nat) (y : α),j < k → l[j]? = some y → lessI (key y) x = true) (hend : k = l.length ∨ ∃ y,l[k]? = some y ∧ lessI (key y) x = false) : placeK key l x = k := by
 rw [placeK_map]
 refine place_is _ _ k (fun j y hj h => ?_) ?_
 ·rw [List.getElem?_map] at h
  cases hy : l[j]? with
  | none => rw [hy] at h; cases h
  | some z => rw [hy] at h; rw [← Option.some.inj h]; exact hall j z hj hy
 ·rcases hend with h | ⟨y,h1,h2⟩
  ·exact Or.inl (by rw [List.length_map]; exact h)
  ·exact Or.inr ⟨key y,by rw [List.getElem?_map,h1]; rfl,h2⟩
theorem riseK_lt {α : Type} {key : α → XID} {l : List α} (h : RiseK key l) {i j : Nat} {x y : α} (hij : i < j) (hx : l[i]? = some x) (hy : l[j]? = some y) : lessI (key x) (key y) = true := by
 obtain ⟨h1,rfl⟩ := List.getElem?_eq_some_iff.1 hx
 obtain ⟨h2,rfl⟩ := List.getElem?_eq_some_iff.1 hy
 exact List.pairwise_iff_getElem.1 h i j h1 h2 hij
theorem cmpJ_less (x y : XID) : decide (cmpJ x y < 0) = lessI x y := by
 have h := cmpJ_neg x y
 cases hl : lessI x y
 ·rw [hl] at h; simp at h; simpa using h
 ·rw [hl] at h; simp at h; simpa using h
abbrev keyD (x : XAd) : XID := (x.1,x.2.1)
theorem el_reD {W W1 : World} {v : Value} {l : List XAd} {ao : Option Addr} {n c k : Nat} {x : XAd} (h : RowD W v l) (hv : v = .slice ao n c) (hn : l.length = n) (hk : l[k]? = some x) (hb : Below W.heap.size W W1) :
  ∃ p : Addr,(∀ w,(Instr.indexAt 23 (.slice ao n c) (.int .i64 k)).run Tryz.prog w = .ok (.pointer (some p)) w) ∧
   (∀ d os,(grow (redrawn W1 d) os).cell? p = some (.int .i64 x.1)) ∧ (∀ d os,(grow (redrawn W1 d) os).cell? ⟨p.block,p.off + 1,none⟩ = some (.int .i64 x.2.1)) ∧ (∀ d os,(grow (redrawn W1 d) os).cell? ⟨p.block,p.off + 2,none⟩ = some (slv x.2.2.1)) ∧ (∀ d os,(grow (redrawn W1 d) os).cell? ⟨p.block,p.off + 3,none⟩ = some (.int .i64 x.2.2.2)) := by
 obtain ⟨p,h1,h2⟩ := elD h hv hn hk
 obtain ⟨c0,c1,c2,c3⟩ := h2 _ hb
 exact ⟨p,h1,cell_regrown c0,cell_regrown c1,cell_regrown c2,cell_regrown c3⟩
theorem box_reD {W : World} {b : Nat} {c : XAd} (h : Box W b #[.int .i64 c.1,.int .i64 c.2.1,slv c.2.2.1,.int .i64 c.2.2.2] 74) : (∀ d os,(grow (redrawn W d) os).cell? ⟨b,0,none⟩ = some (.int .i64 c.1)) ∧ (∀ d os,(grow (redrawn W d) os).cell? ⟨b,1,none⟩ = some (.int .i64 c.2.1)) ∧ (∀ d os,(grow (redrawn W d) os).cell? ⟨b,2,none⟩ = some (slv c.2.2.1)) ∧ (∀ d os,(grow (redrawn W d) os).cell? ⟨b,3,none⟩ = some (.int .i64 c.2.2.2)) :=
 ⟨cell_regrown (h.cell 0),cell_regrown (h.cell 1),cell_regrown (h.cell 2),cell_regrown (h.cell 3)⟩
theorem ord_reD (c d : XAd) (r : Int) (hr : cmpJ (c.1,c.2.1) (d.1,d.2.1) = r) (w : World) (k : Nat) (os : Array Obj) :
  Calls Tryz.prog 58 #[valD c,valD d] (grow (redrawn w k) os) fun e w'' => e = .returned (.int .i64 r) ∧ ∃ p : Regrown,w'' = grow (redrawn w p.d) p.os := by
 subst hr
 exact Calls.regrown_of (inAdv_any c d _)
theorem bsD_any (v : Value) (l : List XAd) (c : XAd) (w : World) (hv : RowD w v l) (hr : RiseK keyD l) (hl : l.length ≤ 900) :
  Calls Tryz.prog 115 #[v,valD c,.func (.func 58) #[] #[]] w fun e w' => e = .returned (.tuple #[.int .i64 (placeK keyD l (c.1,c.2.1)),.bool (thereK keyD l (c.1,c.2.1))]) ∧ Below w.heap.size w w' := by
 have HL := Lib.hid hv
 have HR := Lib.hid hr
 have BX := Lib.hid (box_new w #[.int .i64 c.1,.int .i64 c.2.1,slv c.2.2.1,.int .i64 c.2.2.2] 74)
 have B1 := Lib.hid ((Below.refl w.heap.size w).alloc (Nat.le_refl _) (.cells #[.int .i64 c.1,.int .i64 c.2.1,slv c.2.2.1,.int .i64 c.2.2.2] 74))
 obtain ⟨ao,ac,rfl⟩ := hv.len
 obtain ⟨n,hn⟩ : ∃ n,n = l.length := ⟨_,rfl⟩
 rw [← hn] at HL hl ⊢
 have HN := Lib.hid hn
 obtain ⟨cnt,hc⟩ : ∃ k,k = placeK keyD l (c.1,c.2.1) := ⟨_,rfl⟩
 obtain ⟨th,ht⟩ : ∃ k,k = thereK keyD l (c.1,c.2.1) := ⟨_,rfl⟩
 rw [← hc,← ht]
 have HC := Lib.hid hc
 have HT := Lib.hid ht
 clear hv hr hn hc ht
 obtain ⟨c1,c2,⟨c3,c4,c5⟩,c6⟩ := c
 go_enter Tryz.func115,Tryz.ntmps115
 go_wp2
 generalize w.alloc (.cells #[.int .i64 c1,.int .i64 c2,.slice c3 c4 c5,.int .i64 c6] 74) = w1 at *
 go_loopg [9,10] n (fun kx s9 s10 wr => ∃ lo hi : Nat,s9 = .int .i64 lo ∧ s10 = .int .i64 hi ∧ lo ≤ hi ∧ hi ≤ n ∧ hi - lo ≤ kx ∧ Below w.heap.size w wr ∧ Box wr w.heap.size #[.int .i64 c1,.int .i64 c2,.slice c3 c4 c5,.int .i64 c6] 74 ∧
  (∀ (t : Nat) (y : XAd),t < lo → l[t]? = some y → lessI (y.1,y.2.1) (c1,c2) = true) ∧ (∀ (t : Nat) (y : XAd),hi ≤ t → l[t]? = some y → lessI (y.1,y.2.1) (c1,c2) = false))
 case atStart => exact ⟨0,n,rfl,rfl,Nat.zero_le _,Nat.le_refl _,by omega,B1.out,BX.out,fun t y h => by omega,fun t y h1 h2 => by have := (List.getElem?_eq_some_iff.1 h2).1; have := HN.out; omega⟩
 case round =>
  clear B1 BX
  obtain ⟨lo,hi,rfl,rfl,hlh,hin,hg,hb,hx,ha,hz⟩ := hrel
  have B := Lib.hid hb
  have X := Lib.hid hx
  have AL := Lib.hid ha
  have ZL := Lib.hid hz
  clear hb hx ha hz
  by_cases hlt : lo < hi
  ·obtain ⟨y,hy⟩ : ∃ y,l[(lo + hi) / 2]? = some y := ⟨_,List.getElem?_eq_getElem (by have := HN.out; omega)⟩
   obtain ⟨p,ix,p0,p1,p2,p3⟩ := el_reD HL.out rfl HN.out.symm hy B.out
   obtain ⟨b0,b1,b2,b3⟩ := box_reD (c := (c1,c2,(c3,c4,c5),c6)) X.out
   obtain ⟨r,hr⟩ : ∃ r,cmpJ (y.1,y.2.1) (c1,c2) = r := ⟨_,rfl⟩
   have C := ord_reD y (c1,c2,(c3,c4,c5),c6) r hr wr
   have LE := Lib.hid (show decide (r < 0) = lessI (y.1,y.2.1) (c1,c2) by rw [← hr]; exact cmpJ_less _ _)
   have Y := Lib.hid hy
   clear hy hr
   have e23 : ((lo : Int) + (hi : Int)) / 2 = (((lo + hi) / 2 : Nat) : Int) := by omega
   generalize hm : (lo + hi) / 2 = m at *
   have BN := Lib.hid (fun dq osq => B.out.trans ((below_regrown wr dq osq).mono B.out.size))
   have XN := Lib.hid (fun dq osq => X.out.on (below_regrown wr dq osq))
   obtain ⟨y1,y2,⟨yo,yn,yc⟩,y4⟩ := y
   simp only at p0 p1 p2 p3 b0 b1 b2 b3 C
   by_cases hneg : r < 0
   ·have d0 : decide (r < 0) = true := by simpa using hneg
    have LT := Lib.hid (show lessI (y1,y2) (c1,c2) = true by rw [← LE.out]; exact d0)
    go_wp2
    refine wp_region_quiet_below (by kernel_rfl) (by kernel_rfl) ?_
    repeat (go_big_quiet_step (first | (with_reducible exact C _ _) | exact call_ordD _ _))
    refine wpQuiet_nil ?_
    intro _ hw'
    obtain ⟨⟨dq,osq⟩,hw''⟩ := hw'
    subst hw''
    clear ix p0 p1 p2 p3 b0 b1 b2 b3 C
    go_wp2
    go_roundg (hi - (m + 1))
    case measure => omega
    case rel => exact ⟨m + 1,hi,by go_num,rfl,by omega,hin,Nat.le_refl _,BN.out _ _,XN.out _ _,fun t z h1 h2 => by
     rcases Nat.lt_or_ge t m with h3 | h3
     ·exact lessI_trans (riseK_lt HR.out (by omega) h2 Y.out) LT.out
     ·obtain rfl : t = m := by omega
      rw [Y.out] at h2
      rw [← Option.some.inj h2]
      exact LT.out,ZL.out⟩
   ·have d0 : decide (r < 0) = false := by simpa using hneg
    have LT := Lib.hid (show lessI (y1,y2) (c1,c2) = false by rw [← LE.out]; exact d0)
    go_wp2
    refine wp_region_quiet_below (by kernel_rfl) (by kernel_rfl) ?_
    repeat (go_big_quiet_step (first | (with_reducible exact C _ _) | exact call_ordD _ _))
    refine wpQuiet_nil ?_
    intro _ hw'
    obtain ⟨⟨dq,osq⟩,hw''⟩ := hw'
    subst hw''
    clear ix p0 p1 p2 p3 b0 b1 b2 b3 C
    go_wp2
    go_roundg (m - lo)
    case measure => omega
    case rel => exact ⟨lo,m,rfl,rfl,by omega,by omega,Nat.le_refl _,BN.out _ _,XN.out _ _,AL.out,fun t z h1 h2 => by
     cases h : lessI (z.1,z.2.1) (c1,c2)
     ·rfl
     ·rcases Nat.lt_or_ge m t with h3 | h3
      ·have := lessI_trans (riseK_lt HR.out h3 Y.out h2) h
       rw [LT.out] at this
       cases this
      ·obtain rfl : t = m := by omega
       rw [Y.out] at h2
       rw [← Option.some.inj h2,LT.out] at h
       cases h⟩
  ·obtain rfl : hi = lo := by omega
   have E := Lib.hid (placeK_is keyD l (c1,c2) hi AL.out (by
    rcases Nat.lt_or_ge hi n with h | h
    ·exact Or.inr ⟨_,List.getElem?_eq_getElem (by have := HN.out; omega),ZL.out hi _ (Nat.le_refl _) (List.getElem?_eq_getElem (by have := HN.out; omega))⟩
    ·exact Or.inl (by have := HN.out; omega)))
   by_cases hn : hi < n
   ·obtain ⟨y,hy⟩ : ∃ y,l[hi]? = some y := ⟨_,List.getElem?_eq_getElem (by have := HN.out; omega)⟩
    obtain ⟨p,ix,p0,p1,p2,p3⟩ := el_reD HL.out rfl HN.out.symm hy B.out
    obtain ⟨b0,b1,b2,b3⟩ := box_reD (c := (c1,c2,(c3,c4,c5),c6)) X.out
    obtain ⟨r,hr⟩ : ∃ r,cmpJ (y.1,y.2.1) (c1,c2) = r := ⟨_,rfl⟩
    have C := ord_reD y (c1,c2,(c3,c4,c5),c6) r hr wr
    have TH := Lib.hid (show th = (r == 0) by
     rw [HT.out,thereK,E.out,hy,Bool.eq_iff_iff,beq_iff_eq,← hr,cmpJ_zero,decide_eq_true_eq])
    have BN := Lib.hid (fun dq osq => B.out.trans ((below_regrown wr dq osq).mono B.out.size))
    have CE := Lib.hid (show cnt = hi by rw [HC.out,E.out])
    clear hy hr hlt
    have g4 : decide ((hi : Int) < (n : Int)) = true := by simp; omega
    obtain ⟨y1,y2,⟨yo,yn,yc⟩,y4⟩ := y
    simp only at p0 p1 p2 p3 b0 b1 b2 b3 C
    go_wp2
    refine wp_region_quiet_below (by kernel_rfl) (by kernel_rfl) ?_
    repeat (go_big_quiet_step (first | (with_reducible exact C _ _) | exact call_ordD _ _))
    refine wpQuiet_nil ?_
    intro _ hw'
    obtain ⟨⟨dq,osq⟩,hw''⟩ := hw'
    subst hw''
    clear ix p0 p1 p2 p3 b0 b1 b2 b3 C
    go_wp2
    go_ret2
    exact ⟨by rw [TH.out,CE.out]; rfl,BN.out _ _⟩
   ·have TH := Lib.hid (show th = false by
     rw [HT.out,thereK,E.out,List.getElem?_eq_none (by have := HN.out; omega)])
    have CE := Lib.hid (show cnt = hi by rw [HC.out,E.out])
    have BN := Lib.hid (fun dq osq => B.out.trans ((below_regrown wr dq osq).mono B.out.size))
    have g4 : decide ((hi : Int) < (n : Int)) = false := by simp; omega
    clear hlt
    go_wp2
    refine wp_region_quiet_below (by kernel_rfl) (by kernel_rfl) ?_
    repeat (go_big_quiet_step (fail))
    refine wpQuiet_nil ?_
    intro _ hw'
    obtain ⟨⟨dq,osq⟩,hw''⟩ := hw'
    subst hw''
    go_wp2
    go_ret2
    exact ⟨by rw [TH.out,CE.out]; rfl,BN.out _ _⟩
structure FewP (b : Br) : Prop where
 adv : ∀ a ∈ b.adv,a.p.length ≤ 900
 ent : ∀ a ∈ b.ent,a.p.length ≤ 900
 own : ∀ a ∈ b.own,a.p.length ≤ 900
theorem own_row_len {α : Type} {E : Ek α} {W : World} {B n cap : Nat} {o : Option Addr} {l : List α} (h : Own E W B (.slice o n cap) l) : l.length = n := by
 obtain ⟨_,_,hv⟩ := (Row.of_own h).len
 have : n = l.length := by simpa using congrArg (fun v => match v with | Value.slice _ n _ => n | _ => 0) hv
 exact this.symm
theorem own_some {α : Type} {E : Ek α} {W : World} {B n cap : Nat} {o : Option Addr} {l : List α} (h : Own E W B (.slice o n cap) l) (hn : 0 < n) : ∃ g,o = some ⟨g,0,none⟩ ∧ B ≤ g := by
 have hl := own_row_len h
 rcases own_open h with ⟨_,h2⟩ | ⟨g,c',cur,h1,h2,_⟩
 ·rw [h2] at hl; simp at hl; omega
 ·exact ⟨g,by simp at h1; exact h1.1,h2⟩
theorem but_setB (w : World) (b : Nat) (a0 a1 a2 a3 a4 a5 : Value) : But b w (setB w b a0 a1 a2 a3 a4 a5) :=
 (((but_cell _ b _ _).trans (but_cell _ b _ _)).trans ((but_cell _ b _ _).trans (but_cell _ b _ _))).trans ((but_cell _ b _ _).trans (but_cell _ b _ _))
theorem Cs.done {w0 w wr : World} {b : Br} {nv sv : Sl} {p2 p4 p5 : Option Addr} {q2 s2 q4 s4 q5 s5 : Nat} (h : Cs w0 w wr b q2 q4 q5 nv (p2,q2,s2) sv (p4,q4,s4) (p5,q5,s5)) (a0 a1 a2 a3 a4 a5 : Value) : Cp (vw w0) w.heap.size (setB wr (w.heap.size + 1) a0 a1 a2 a3 a4 a5) b nv (p2,q2,s2) sv (p4,q4,s4) (p5,q5,s5) ∧ Below w.heap.size w (setB wr (w.heap.size + 1) a0 a1 a2 a3 a4 a5) := by
 obtain ⟨l1,d1,d2,d3⟩ := h.adv
 obtain ⟨l2,e1,e2,e3⟩ := h.ent
 obtain ⟨l3,f1,f2,f3⟩ := h.own
 have n1 : l1.length = q2 := own_row_len d1
 have n2 : l2.length = q4 := own_row_len e1
 have n3 : l3.length = q5 := own_row_len f1
 rw [List.take_of_length_le (by omega),List.take_of_length_le (by have := d2.len; omega)] at d3
 rw [List.take_of_length_le (by omega),List.take_of_length_le (by have := e2.len; omega)] at e3
 rw [List.take_of_length_le (by omega),List.take_of_length_le (by have := f2.len; omega)] at f3
 exact ⟨Cp.but ⟨h.near,h.seen,⟨l1,d1,d3⟩,⟨l2,e1,e3⟩,⟨l3,f1,f3⟩⟩ (but_setB wr (w.heap.size + 1) a0 a1 a2 a3 a4 a5) h.bz,setB_below h.bel (by omega) a0 a1 a2 a3 a4 a5⟩
theorem acopy_own (b : Br) (nv av sv ev ov : Sl) (w0 w : World) (hw0 : Below w0.heap.size w0 w) (h : BrIn w0 b nv av sv ev ov) (hf : Few b) (hp : FewP b) :
  Calls Tryz.prog 91 #[brv b.me nv av sv ev ov] w fun e w' => (∃ nv' av' sv' ev' ov' : Sl,e = .returned (brv b.me nv' av' sv' ev' ov') ∧ Cp (vw w0) w.heap.size w' b nv' av' sv' ev' ov') ∧ Below w.heap.size w w' := by
 obtain ⟨no,nn,nc⟩ := nv
 obtain ⟨ao,an,ac⟩ := av
 obtain ⟨so,sn,sc⟩ := sv
 obtain ⟨eo,en,ec⟩ := ev
 obtain ⟨oo,on_,oc⟩ := ov
 obtain ⟨la,ha1,ha2⟩ := h.adv
 obtain ⟨le,he1,he2⟩ := h.ent
 obtain ⟨lo_,ho1,ho2⟩ := h.own
 have HA := Lib.hid ha2
 have HE := Lib.hid he2
 have HO := Lib.hid ho2
 have R0 := Lib.hid (h.near.on hw0)
 have R1 := Lib.hid (ha1.on hw0)
 have R2 := Lib.hid (h.seen.on hw0)
 have R3 := Lib.hid (he1.on hw0)
 have R4 := Lib.hid (ho1.on hw0)
 have W0 := Lib.hid hw0
 have HP := Lib.hid hp
 have LL0 := Lib.hid hf.near
 have LL1 := Lib.hid (show la.length ≤ 900 by rw [ha2.len]; exact hf.adv)
 have LL2 := Lib.hid hf.seen
 have LL3 := Lib.hid (show le.length ≤ 900 by rw [he2.len]; exact hf.ent)
 have LL4 := Lib.hid (show lo_.length ≤ 900 by rw [ho2.len]; exact hf.own)
 obtain ⟨h0,h1,h2⟩ := two_new w #[.int .i64 b.me,.slice no nn nc,.slice ao an ac,.slice so sn sc,.slice eo en ec,.slice oo on_ oc] #[.int .i64 0,.slice none 0 0,.slice none 0 0,.slice none 0 0,.slice none 0 0,.slice none 0 0] 28 28
 have B0 := Lib.hid h0
 have XB := Lib.hid h1
 have ZB := Lib.hid h2
 clear h0 h1 h2 h hf hp hw0 ha1 ha2 he1 he2 ho1 ho2
 go_enter Tryz.func91,Tryz.ntmps91
 go_upto_region 1 with fail
 generalize (w.alloc (.cells #[.int .i64 b.me,.slice no nn nc,.slice ao an ac,.slice so sn sc,.slice eo en ec,.slice oo on_ oc] 28)).alloc (.cells #[.int .i64 0,.slice none 0 0,.slice none 0 0,.slice none 0 0,.slice none 0 0,.slice none 0 0] 28) = W at *
 refine cp1 _ W w.heap.size b.me (.slice ao an ac) (.slice eo en ec) (.slice oo on_ oc) no nn nc b.near so sn sc b.seen _ _ _ _ _ _ _ _ _ _ _ _ _ _ _ _ _ _ _ _ _ _ _ _ _ _ _ _ _ _ _ _ _ _ _ _ _ _ _ _ _ _ _ _ _ _ _ _ _ _ _ _ _ _ _ _ _ _ _ _ _ _ _ _ _ _ _ _ _ _ _ _ _ _ _ _ _ _ _ _ _ XB.out (R0.out.on B0.out) (R2.out.on B0.out) LL0.out LL2.out ?_
 intro x1 v6 v7 v8 v9 v10 v11 v12 v13 p1 q1 s1 p3 q3 s3 hb1 hn1 hs1 hbel1 hsame1
 have B1 := Lib.hid (B0.out.trans (hbel1 _ (Nat.le_refl _)))
 have S1 := Lib.hid (show W.heap.size ≤ x1.heap.size from (hbel1 _ (Nat.le_refl _)).size)
 have ZB1 := Lib.hid (show Box x1 (w.heap.size + 1) _ _ from (hsame1 _ ZB.out.lt (by omega)).trans ZB.out)
 have XB1 := Lib.hid hb1
 have N1 := Lib.hid (own_fewer hn1 B0.out.size)
 have J1 := Lib.hid (own_fewer hs1 B0.out.size)
 clear hb1 hn1 hs1 hbel1 hsame1 XB ZB
 go_upto_region 2 with fail
 refine cp2 _ x1 w.heap.size b.me (.slice p1 q1 s1) (.slice p3 q3 s3) ao an ac la eo en ec le oo on_ oc lo_ _ _ _ _ _ _ _ _ _ _ _ _ _ _ _ _ _ _ _ _ _ _ _ _ _ _ _ _ _ _ _ _ _ _ _ _ _ _ _ _ _ _ _ _ _ _ _ _ _ _ _ _ _ _ _ _ _ _ _ _ _ _ _ _ _ _ _ _ _ _ _ _ _ _ _ _ _ _ _ _ _ XB1.out (R1.out.on B1.out) (R3.out.on B1.out) (R4.out.on B1.out) LL1.out LL3.out LL4.out ?_
 intro x2 v14 v15 v16 v17 v18 v19 v20 v21 v22 v23 v24 v25 p2 q2 s2 p4 q4 s4 p5 q5 s5 hb2 ha2 he2 ho2 hbel2 hsame2
 have CS := Lib.hid (show Cs w0 w x2 b 0 0 0 (p1,q1,s1) (p2,q2,s2) (p3,q3,s3) (p4,q4,s4) (p5,q5,s5) from {
  bel := B1.out.trans (hbel2 _ (Nat.le_refl _))
  bx := hb2
  bz := (hsame2 _ ZB1.out.lt (by omega)).trans ZB1.out
  near := But.own ⟨hsame2,(hbel2 _ (Nat.le_refl _)).size⟩ N1.out XB1.out (by decide)
  seen := But.own ⟨hsame2,(hbel2 _ (Nat.le_refl _)).size⟩ J1.out XB1.out (by decide)
  adv := ⟨la,own_fewer ha2 B1.out.size,HA.out.mono fun _ _ q => ⟨q.1,q.2.1,Or.inl q.2.2⟩,.nil⟩
  ent := ⟨le,own_fewer he2 B1.out.size,HE.out.mono fun _ _ q => ⟨q.1,q.2.1,q.2.2.1,q.2.2.2.1,Or.inl q.2.2.2.2⟩,.nil⟩
  own := ⟨lo_,own_fewer ho2 B1.out.size,HO.out.mono fun _ _ q => ⟨q.1,Or.inl q.2⟩,.nil⟩ })
 have Q2 := Lib.hid (show q2 ≤ 900 from by rw [← own_row_len ha2]; exact LL1.out)
 have Q4 := Lib.hid (show q4 ≤ 900 from by rw [← own_row_len he2]; exact LL3.out)
 have Q5 := Lib.hid (show q5 ≤ 900 from by rw [← own_row_len ho2]; exact LL4.out)
 clear hb2 ha2 he2 ho2 hbel2 hsame2 XB1 ZB1 N1 J1 B1 S1 R0 R1 R2 R3 R4 HA HE HO LL0 LL1 LL2 LL3 LL4 B0
 have cf2 := CS.out.bx.cell 2
 simp only [List.getElem?_toArray,List.getElem?_cons_zero,List.getElem?_cons_succ] at cf2
 go_wp2
 go_loopw [29] (fun i wr => ∃ k : Nat,k ≤ q2 ∧ i = .int .i64 k ∧ Cs w0 w wr b k 0 0 (p1,q1,s1) (p2,q2,s2) (p3,q3,s3) (p4,q4,s4) (p5,q5,s5)) (fun i _ => q2 - (intOf i).toNat)
 case atStart => exact ⟨0,Nat.zero_le _,rfl,CS.out⟩
 case round =>
  obtain ⟨k,hk,rfl,hcs⟩ := hrel
  have CS := Lib.hid hcs
  have hq := Q2.out
  clear hcs
  by_cases hlt : k < q2
  ·obtain ⟨l,hl,hA,hV⟩ := CS.out.adv
   have hln : l.length = q2 := own_row_len hl
   obtain ⟨g,rfl,hBg⟩ : ∃ g,p2 = some ⟨g,0,none⟩ ∧ w.heap.size ≤ g := own_some hl (show 0 < q2 by omega)
   obtain ⟨y,hy⟩ : ∃ y,l[k]? = some y := ⟨_,List.getElem?_eq_getElem (by omega)⟩
   obtain ⟨a,ha⟩ : ∃ a,b.adv[k]? = some a := ⟨_,List.getElem?_eq_getElem (by have h := hA.len; have h2 : l.length = q2 := hln; omega)⟩
   obtain ⟨y',hy',hym⟩ := hA.at k a ha
   rw [hy] at hy'
   obtain rfl := Option.some.inj hy'
   obtain ⟨y1,y2,⟨yo,yn,yc⟩,y4⟩ := y
   have HW := Lib.hid hl
   have HAA := Lib.hid hA
   have HVV := Lib.hid hV
   have HYM := Lib.hid hym
   have HYY := Lib.hid hy
   have HAK := Lib.hid ha
   have HBG := Lib.hid hBg
   have hw3 : IntKind.i64.wrap ((k : Int) + 1) = (k : Int) + 1 := IntWalk.i64_in _ (by omega)
   clear hl hA hV hln hy ha hy' hym hBg cf2
   go_upto_region 6 with fail
   refine cp6 _ wr w.heap.size l w.heap.size b.me (.slice p1 q1 s1) (.slice p3 q3 s3) (.slice p4 q4 s4) (.slice p5 q5 s5) g q2 s2 k y1 y2 yo yn yc y4 a.p _ _ _ _ _ _ _ _ _ _ _ _ _ _ _ _ _ _ _ _ _ _ _ _ _ _ _ _ _ _ _ _ _ _ _ _ _ _ _ _ _ _ _ _ _ _ _ _ _ _ _ _ _ _ _ _ _ _ _ _ _ _ _ _ _ _ _ _ _ _ _ _ _ _ _ _ _ _ _ _ CS.out.bx HW.out HYY.out (HYM.out.2.2.row (W0.out.trans (CS.out.bel.mono W0.out.size))) (HP.out.adv a (List.mem_of_getElem? HAK.out)) ?_
   intro x v32 v33 v34 v35 v36 v37 v38 v39 v40 v41 t1 t2 t3 hC hO hBut hBel
   have CS2 := Lib.hid (show Cs w0 w x b (k + 1) 0 0 (p1,q1,s1) (some ⟨g,0,none⟩,q2,s2) (p3,q3,s3) (p4,q4,s4) (p5,q5,s5) from by
    obtain ⟨cur,hg⟩ := own_tag HW.out
    exact CS.out.setD HW.out hO hBut (CS.out.bel.trans (hBel _ HBG.out CS.out.bel.size)) (All2.set k _ a (HAA.out.mono fun _ _ q => q.but hBut hg (by decide)) HAK.out ⟨HYM.out.1,HYM.out.2.1,Or.inr (own_fewer hC CS.out.bel.size)⟩) (all2_step (HVV.out.mono fun _ _ q => q.but hBut hg (by decide)) (List.getElem?_eq_some_iff.1 HYY.out).1 HAK.out ⟨HYM.out.1,HYM.out.2.1,Or.inr (own_fewer hC CS.out.bel.size)⟩))
   clear hC hO hBut hBel CS HW HAA HVV HYM HYY HAK HBG
   go_wp2
   go_roundw
   case rel => exact ⟨k + 1,by omega,by go_num,CS2.out⟩
   case measure => simp [intOf]; omega
  ·obtain rfl : q2 = k := by omega
   have cf4 := CS.out.bx.cell 4
   simp only [List.getElem?_toArray,List.getElem?_cons_zero,List.getElem?_cons_succ] at cf4
   clear hlt
   go_wp2
   go_loopw [46] (fun i wr => ∃ k : Nat,k ≤ q4 ∧ i = .int .i64 k ∧ Cs w0 w wr b q2 k 0 (p1,q1,s1) (p2,q2,s2) (p3,q3,s3) (p4,q4,s4) (p5,q5,s5)) (fun i _ => q4 - (intOf i).toNat)
   case atStart => exact ⟨0,Nat.zero_le _,rfl,CS.out⟩
   case round =>
    obtain ⟨k,hk,rfl,hcs⟩ := hrel
    have CS := Lib.hid hcs
    have hq := Q4.out
    clear hcs
    by_cases hlt : k < q4
    ·obtain ⟨l,hl,hA,hV⟩ := CS.out.ent
     have hln : l.length = q4 := own_row_len hl
     obtain ⟨g,rfl,hBg⟩ : ∃ g,p4 = some ⟨g,0,none⟩ ∧ w.heap.size ≤ g := own_some hl (show 0 < q4 by omega)
     obtain ⟨y,hy⟩ : ∃ y,l[k]? = some y := ⟨_,List.getElem?_eq_getElem (by omega)⟩
     obtain ⟨a,ha⟩ : ∃ a,b.ent[k]? = some a := ⟨_,List.getElem?_eq_getElem (by have h := hA.len; have h2 : l.length = q4 := hln; omega)⟩
     obtain ⟨y',hy',hym⟩ := hA.at k a ha
     rw [hy] at hy'
     obtain rfl := Option.some.inj hy'
     obtain ⟨y1,y2,y3,y4,⟨yo,yn,yc⟩,y6,y7⟩ := y
     have HW := Lib.hid hl
     have HAA := Lib.hid hA
     have HVV := Lib.hid hV
     have HYM := Lib.hid hym
     have HYY := Lib.hid hy
     have HAK := Lib.hid ha
     have HBG := Lib.hid hBg
     have hw3 : IntKind.i64.wrap ((k : Int) + 1) = (k : Int) + 1 := IntWalk.i64_in _ (by omega)
     clear hl hA hV hln hy ha hy' hym hBg cf4
     go_upto_region 11 with fail
     refine cp11 _ wr w.heap.size l w.heap.size b.me (.slice p1 q1 s1) (.slice p2 q2 s2) (.slice p3 q3 s3) (.slice p5 q5 s5) g q4 s4 k y1 y2 y3 y4 yo yn yc y6 y7 a.p _ _ _ _ _ _ _ _ _ _ _ _ _ _ _ _ _ _ _ _ _ _ _ _ _ _ _ _ _ _ _ _ _ _ _ _ _ _ _ _ _ _ _ _ _ _ _ _ _ _ _ _ _ _ _ _ _ _ _ _ _ _ _ _ _ _ _ _ _ _ _ _ _ _ _ _ _ _ _ _ CS.out.bx HW.out HYY.out (HYM.out.2.2.2.2.row (W0.out.trans (CS.out.bel.mono W0.out.size))) (HP.out.ent a (List.mem_of_getElem? HAK.out)) ?_
     intro x v49 v50 v51 v52 v53 v54 v55 v56 v57 v58 v59 v60 t1 t2 t3 hC hO hBut hBel
     have CS2 := Lib.hid (show Cs w0 w x b q2 (k + 1) 0 (p1,q1,s1) (p2,q2,s2) (p3,q3,s3) (some ⟨g,0,none⟩,q4,s4) (p5,q5,s5) from by
      obtain ⟨cur,hg⟩ := own_tag HW.out
      exact CS.out.setN HW.out hO hBut (CS.out.bel.trans (hBel _ HBG.out CS.out.bel.size)) (All2.set k _ a (HAA.out.mono fun _ _ q => q.but hBut hg (by decide)) HAK.out ⟨HYM.out.1,HYM.out.2.1,HYM.out.2.2.1,HYM.out.2.2.2.1,Or.inr (own_fewer hC CS.out.bel.size)⟩) (all2_step (HVV.out.mono fun _ _ q => q.but hBut hg (by decide)) (List.getElem?_eq_some_iff.1 HYY.out).1 HAK.out ⟨HYM.out.1,HYM.out.2.1,HYM.out.2.2.1,HYM.out.2.2.2.1,Or.inr (own_fewer hC CS.out.bel.size)⟩))
     clear hC hO hBut hBel CS HW HAA HVV HYM HYY HAK HBG
     go_wp2
     go_roundw
     case rel => exact ⟨k + 1,by omega,by go_num,CS2.out⟩
     case measure => simp [intOf]; omega
    ·obtain rfl : q4 = k := by omega
     have cf5 := CS.out.bx.cell 5
     simp only [List.getElem?_toArray,List.getElem?_cons_zero,List.getElem?_cons_succ] at cf5
     clear hlt
     go_wp2
     go_loopw [65] (fun i wr => ∃ k : Nat,k ≤ q5 ∧ i = .int .i64 k ∧ Cs w0 w wr b q2 q4 k (p1,q1,s1) (p2,q2,s2) (p3,q3,s3) (p4,q4,s4) (p5,q5,s5)) (fun i _ => q5 - (intOf i).toNat)
     case atStart => exact ⟨0,Nat.zero_le _,rfl,CS.out⟩
     case round =>
      obtain ⟨k,hk,rfl,hcs⟩ := hrel
      have CS := Lib.hid hcs
      have hq := Q5.out
      clear hcs
      by_cases hlt : k < q5
      ·obtain ⟨l,hl,hA,hV⟩ := CS.out.own
       have hln : l.length = q5 := own_row_len hl
       obtain ⟨g,rfl,hBg⟩ : ∃ g,p5 = some ⟨g,0,none⟩ ∧ w.heap.size ≤ g := own_some hl (show 0 < q5 by omega)
       obtain ⟨y,hy⟩ : ∃ y,l[k]? = some y := ⟨_,List.getElem?_eq_getElem (by omega)⟩
       obtain ⟨a,ha⟩ : ∃ a,b.own[k]? = some a := ⟨_,List.getElem?_eq_getElem (by have h := hA.len; have h2 : l.length = q5 := hln; omega)⟩
       obtain ⟨y',hy',hym⟩ := hA.at k a ha
       rw [hy] at hy'
       obtain rfl := Option.some.inj hy'
       obtain ⟨y1,y2,⟨yo,yn,yc⟩⟩ := y
       have HW := Lib.hid hl
       have HAA := Lib.hid hA
       have HVV := Lib.hid hV
       have HYM := Lib.hid hym
       have HYY := Lib.hid hy
       have HAK := Lib.hid ha
       have HBG := Lib.hid hBg
       have hw3 : IntKind.i64.wrap ((k : Int) + 1) = (k : Int) + 1 := IntWalk.i64_in _ (by omega)
       clear hl hA hV hln hy ha hy' hym hBg cf5
       go_upto_region 16 with fail
       refine cp16 _ wr w.heap.size l w.heap.size b.me (.slice p1 q1 s1) (.slice p2 q2 s2) (.slice p3 q3 s3) (.slice p4 q4 s4) g q5 s5 k y1 y2 yo yn yc a.p _ _ _ _ _ _ _ _ _ _ _ _ _ _ _ _ _ _ _ _ _ _ _ _ _ _ _ _ _ _ _ _ _ _ _ _ _ _ _ _ _ _ _ _ _ _ _ _ _ _ _ _ _ _ _ _ _ _ _ _ _ _ _ _ _ _ _ _ _ _ _ _ _ _ _ _ _ _ _ _ CS.out.bx HW.out HYY.out (HYM.out.2.row (W0.out.trans (CS.out.bel.mono W0.out.size))) (HP.out.own a (List.mem_of_getElem? HAK.out)) ?_
       intro x v68 v69 v70 v71 v72 v73 v74 v75 v76 v77 v78 v79 t1 t2 t3 hC hO hBut hBel
       have CS2 := Lib.hid (show Cs w0 w x b q2 q4 (k + 1) (p1,q1,s1) (p2,q2,s2) (p3,q3,s3) (p4,q4,s4) (some ⟨g,0,none⟩,q5,s5) from by
        obtain ⟨cur,hg⟩ := own_tag HW.out
        exact CS.out.setW HW.out hO hBut (CS.out.bel.trans (hBel _ HBG.out CS.out.bel.size)) (All2.set k _ a (HAA.out.mono fun _ _ q => q.but hBut hg (by decide)) HAK.out ⟨HYM.out.1,Or.inr (own_fewer hC CS.out.bel.size)⟩) (all2_step (HVV.out.mono fun _ _ q => q.but hBut hg (by decide)) (List.getElem?_eq_some_iff.1 HYY.out).1 HAK.out ⟨HYM.out.1,Or.inr (own_fewer hC CS.out.bel.size)⟩))
       clear hC hO hBut hBel CS HW HAA HVV HYM HYY HAK HBG
       go_wp2
       go_roundw
       case rel => exact ⟨k + 1,by omega,by go_num,CS2.out⟩
       case measure => simp [intOf]; omega
      ·obtain rfl : q5 = k := by omega
       have X1 := CS.out.bx
       have Z1 := CS.out.bz
       obtain ⟨x0,x1,x2,x3,x4,x5⟩ := X1.cs6
       obtain ⟨r0,r1,r2,r3,r4,r5⟩ := Z1.cs6
       obtain ⟨t0,t1,t2,t3,t4,t5⟩ := Z1.fs6
       have zz := Z1.lt
       have FB := Lib.hid (setB_box Z1 (.int .i64 b.me) (.slice p1 q1 s1) (.slice p2 q2 s2) (.slice p3 q3 s3) (.slice p4 q4 s4) (.slice p5 q5 s5))
       have FD := Lib.hid (CS.out.done (.int .i64 b.me) (.slice p1 q1 s1) (.slice p2 q2 s2) (.slice p3 q3 s3) (.slice p4 q4 s4) (.slice p5 q5 s5))
       clear X1 Z1 CS
       go_wp2_with fail
       obtain ⟨v0,v1,v2,v3,v4,v5⟩ := FB.out.cs6
       refine bodyPost_ret (v := .agg #[.int .i64 b.me,.slice p1 q1 s1,.slice p2 q2 s2,.slice p3 q3 s3,.slice p4 q4 s4,.slice p5 q5 s5]) (by simp [results,Tryz.results91,go_sem,v0,v1,v2,v3,v4,v5]) rfl ?_
       exact ⟨⟨(p1,q1,s1),(p2,q2,s2),(p3,q3,s3),(p4,q4,s4),(p5,q5,s5),rfl,FD.out.1⟩,FD.out.2⟩
end Go.Proofs.YtmklifheakemeaaGreat.Av
