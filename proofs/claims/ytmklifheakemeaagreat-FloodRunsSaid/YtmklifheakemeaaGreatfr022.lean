/-
  slices.BinarySearchFunc over IDs, as package adverts calls it. Conditions as told.
-/
import Derived.Test.YtmklifheakemeaaGreatfr020
import Derived.Deep.LoopGhost
import Derived.Laws.Externs
import Derived.Test.YtmklifheakemeaaGreatfr019
import Derived.Test.YtmklifheakemeaaGreatfr012
import Derived.Test.YtmklifheakemeaaGreatfr016
import Derived.Laws.IdiomCopy
import Derived.Test.YtmklifheakemeaaGreatfr006
import Derived.Test.YtmklifheakemeaaGreatfr001
set_option maxRecDepth 100000
set_option maxHeartbeats 64000000
namespace Go.Proofs.YtmklifheakemeaaGreat.Av
open Go.RowKit Go.Sort Rw YtmklifheakemeaaGreat.Nm Pr Bk
abbrev keyJ (x : XID) : XID := x
theorem el_reJ {W W1 : World} {v : Value} {l : List XID} {ao : Option Addr} {n c k : Nat} {x : XID} (h : RowJ W v l) (hv : v = .slice ao n c) (hn : l.length = n) (hk : l[k]? = some x) (hb : Below W.heap.size W W1) :
  ∃ p : Addr,(∀ w,(Instr.indexAt 24 (.slice ao n c) (.int .i64 k)).run Tryz.prog w = .ok (.pointer (some p)) w) ∧
   (∀ d os,(grow (redrawn W1 d) os).cell? p = some (.int .i64 x.1)) ∧ (∀ d os,(grow (redrawn W1 d) os).cell? ⟨p.block,p.off + 1,none⟩ = some (.int .i64 x.2)) := by
 obtain ⟨p,h1,h2⟩ := elJ h hv hn hk
 obtain ⟨c0,c1⟩ := h2 _ hb
 exact ⟨p,h1,cell_regrown c0,cell_regrown c1⟩
theorem box_reJ {W : World} {b : Nat} {c : XID} (h : Box W b #[.int .i64 c.1,.int .i64 c.2] 31) : (∀ d os,(grow (redrawn W d) os).cell? ⟨b,0,none⟩ = some (.int .i64 c.1)) ∧ (∀ d os,(grow (redrawn W d) os).cell? ⟨b,1,none⟩ = some (.int .i64 c.2)) :=
 ⟨cell_regrown (h.cell 0),cell_regrown (h.cell 1)⟩
theorem ord_reJ (c d : XID) (r : Int) (hr : cmpJ c d = r) (w : World) (k : Nat) (os : Array Obj) :
  Calls Tryz.prog 56 #[idv c,idv d] (grow (redrawn w k) os) fun e w'' => e = .returned (.int .i64 r) ∧ ∃ p : Regrown,w'' = grow (redrawn w p.d) p.os := by
 subst hr
 exact Calls.regrown_of (byID_any c d _)
theorem bsJ_any (v : Value) (l : List XID) (c : XID) (w : World) (hv : RowJ w v l) (hr : RiseK keyJ l) (hl : l.length ≤ 900) :
  Calls Tryz.prog 113 #[v,idv c,.func (.func 56) #[] #[]] w fun e w' => e = .returned (.tuple #[.int .i64 (placeK keyJ l c),.bool (thereK keyJ l c)]) ∧ Below w.heap.size w w' := by
 have HL := Lib.hid hv
 have HR := Lib.hid hr
 have BX := Lib.hid (box_new w #[.int .i64 c.1,.int .i64 c.2] 31)
 have B1 := Lib.hid ((Below.refl w.heap.size w).alloc (Nat.le_refl _) (.cells #[.int .i64 c.1,.int .i64 c.2] 31))
 obtain ⟨ao,ac,rfl⟩ := hv.len
 obtain ⟨n,hn⟩ : ∃ n,n = l.length := ⟨_,rfl⟩
 rw [← hn] at HL hl ⊢
 have HN := Lib.hid hn
 obtain ⟨cnt,hc⟩ : ∃ k,k = placeK keyJ l c := ⟨_,rfl⟩
 obtain ⟨th,ht⟩ : ∃ k,k = thereK keyJ l c := ⟨_,rfl⟩
 rw [← hc,← ht]
 have HC := Lib.hid hc
 have HT := Lib.hid ht
 clear hv hr hn hc ht
 obtain ⟨c1,c2⟩ := c
 go_enter Tryz.func113,Tryz.ntmps113
 go_wp2
 generalize w.alloc (.cells #[.int .i64 c1,.int .i64 c2] 31) = w1 at *
 go_loopg [9,10] n (fun kx s9 s10 wr => ∃ lo hi : Nat,s9 = .int .i64 lo ∧ s10 = .int .i64 hi ∧ lo ≤ hi ∧ hi ≤ n ∧ hi - lo ≤ kx ∧ Below w.heap.size w wr ∧ Box wr w.heap.size #[.int .i64 c1,.int .i64 c2] 31 ∧
  (∀ (t : Nat) (y : XID),t < lo → l[t]? = some y → lessI y (c1,c2) = true) ∧ (∀ (t : Nat) (y : XID),hi ≤ t → l[t]? = some y → lessI y (c1,c2) = false))
 case atStart => exact ⟨0,n,rfl,rfl,Nat.zero_le _,Nat.le_refl _,by omega,B1.out,BX.out,fun t y h => by omega,fun t y h1 h2 => by have := (List.getElem?_eq_some_iff.1 h2).1; have := HN.out; omega⟩
 case round =>
  clear B1 BX
  obtain ⟨lo,hi,rfl,rfl,hlh,hin,hg,hb,hx,ha,hz⟩ := hrel
  have B := Lib.hid hb
  have X := Lib.hid hx
  have AL := Lib.hid ha
  have ZL := Lib.hid hz
  clear hb hx ha hz
  by_cases hlt : lo < hi
  ·obtain ⟨y,hy⟩ : ∃ y,l[(lo + hi) / 2]? = some y := ⟨_,List.getElem?_eq_getElem (by have := HN.out; omega)⟩
   obtain ⟨p,ix,p0,p1⟩ := el_reJ HL.out rfl HN.out.symm hy B.out
   obtain ⟨b0,b1⟩ := box_reJ (c := (c1,c2)) X.out
   obtain ⟨r,hr⟩ : ∃ r,cmpJ y (c1,c2) = r := ⟨_,rfl⟩
   have C := ord_reJ y (c1,c2) r hr wr
   have LE := Lib.hid (show decide (r < 0) = lessI y (c1,c2) by rw [← hr]; exact cmpJ_less _ _)
   have Y := Lib.hid hy
   clear hy hr
   have e23 : ((lo : Int) + (hi : Int)) / 2 = (((lo + hi) / 2 : Nat) : Int) := by omega
   generalize hm : (lo + hi) / 2 = m at *
   have BN := Lib.hid (fun dq osq => B.out.trans ((below_regrown wr dq osq).mono B.out.size))
   have XN := Lib.hid (fun dq osq => X.out.on (below_regrown wr dq osq))
   obtain ⟨y1,y2⟩ := y
   simp only at p0 p1 b0 b1 C
   by_cases hneg : r < 0
   ·have d0 : decide (r < 0) = true := by simpa using hneg
    have LT := Lib.hid (show lessI (y1,y2) (c1,c2) = true by rw [← LE.out]; exact d0)
    go_wp2
    refine wp_region_quiet_below (by kernel_rfl) (by kernel_rfl) ?_
    repeat (go_big_quiet_step (first | (with_reducible exact C _ _) | exact call_ordJ _ _))
    refine wpQuiet_nil ?_
    intro _ hw'
    obtain ⟨⟨dq,osq⟩,hw''⟩ := hw'
    subst hw''
    clear ix p0 p1 b0 b1 C
    go_wp2
    go_roundg (hi - (m + 1))
    case measure => omega
    case rel => exact ⟨m + 1,hi,by go_num,rfl,by omega,hin,Nat.le_refl _,BN.out _ _,XN.out _ _,fun t z h1 h2 => by
     rcases Nat.lt_or_ge t m with h3 | h3
     ·exact lessI_trans (riseK_lt HR.out (by omega) h2 Y.out) LT.out
     ·obtain rfl : t = m := by omega
      rw [Y.out] at h2
      rw [← Option.some.inj h2]
      exact LT.out,ZL.out⟩
   ·have d0 : decide (r < 0) = false := by simpa using hneg
    have LT := Lib.hid (show lessI (y1,y2) (c1,c2) = false by rw [← LE.out]; exact d0)
    go_wp2
    refine wp_region_quiet_below (by kernel_rfl) (by kernel_rfl) ?_
    repeat (go_big_quiet_step (first | (with_reducible exact C _ _) | exact call_ordJ _ _))
    refine wpQuiet_nil ?_
    intro _ hw'
    obtain ⟨⟨dq,osq⟩,hw''⟩ := hw'
    subst hw''
    clear ix p0 p1 b0 b1 C
    go_wp2
    go_roundg (m - lo)
    case measure => omega
    case rel => exact ⟨lo,m,rfl,rfl,by omega,by omega,Nat.le_refl _,BN.out _ _,XN.out _ _,AL.out,fun t z h1 h2 => by
     cases h : lessI z (c1,c2)
     ·rfl
     ·rcases Nat.lt_or_ge m t with h3 | h3
      ·have := lessI_trans (riseK_lt HR.out h3 Y.out h2) h
       rw [LT.out] at this
       cases this
      ·obtain rfl : t = m := by omega
       rw [Y.out] at h2
       rw [← Option.some.inj h2,LT.out] at h
       cases h⟩
  ·obtain rfl : hi = lo := by omega
   have E := Lib.hid (placeK_is keyJ l (c1,c2) hi AL.out (by
    rcases Nat.lt_or_ge hi n with h | h
    ·exact Or.inr ⟨_,List.getElem?_eq_getElem (by have := HN.out; omega),ZL.out hi _ (Nat.le_refl _) (List.getElem?_eq_getElem (by have := HN.out; omega))⟩
    ·exact Or.inl (by have := HN.out; omega)))
   by_cases hn : hi < n
   ·obtain ⟨y,hy⟩ : ∃ y,l[hi]? = some y := ⟨_,List.getElem?_eq_getElem (by have := HN.out; omega)⟩
    obtain ⟨p,ix,p0,p1⟩ := el_reJ HL.out rfl HN.out.symm hy B.out
    obtain ⟨b0,b1⟩ := box_reJ (c := (c1,c2)) X.out
    obtain ⟨r,hr⟩ : ∃ r,cmpJ y (c1,c2) = r := ⟨_,rfl⟩
    have C := ord_reJ y (c1,c2) r hr wr
    have TH := Lib.hid (show th = (r == 0) by
     rw [HT.out,thereK,E.out,hy,Bool.eq_iff_iff,beq_iff_eq,← hr,cmpJ_zero,decide_eq_true_eq])
    have BN := Lib.hid (fun dq osq => B.out.trans ((below_regrown wr dq osq).mono B.out.size))
    have CE := Lib.hid (show cnt = hi by rw [HC.out,E.out])
    clear hy hr hlt
    have g4 : decide ((hi : Int) < (n : Int)) = true := by simp; omega
    obtain ⟨y1,y2⟩ := y
    simp only at p0 p1 b0 b1 C
    go_wp2
    refine wp_region_quiet_below (by kernel_rfl) (by kernel_rfl) ?_
    repeat (go_big_quiet_step (first | (with_reducible exact C _ _) | exact call_ordJ _ _))
    refine wpQuiet_nil ?_
    intro _ hw'
    obtain ⟨⟨dq,osq⟩,hw''⟩ := hw'
    subst hw''
    clear ix p0 p1 b0 b1 C
    go_wp2
    go_ret2
    exact ⟨by rw [TH.out,CE.out]; rfl,BN.out _ _⟩
   ·have TH := Lib.hid (show th = false by
     rw [HT.out,thereK,E.out,List.getElem?_eq_none (by have := HN.out; omega)])
    have CE := Lib.hid (show cnt = hi by rw [HC.out,E.out])
    have BN := Lib.hid (fun dq osq => B.out.trans ((below_regrown wr dq osq).mono B.out.size))
    have g4 : decide ((hi : Int) < (n : Int)) = false := by simp; omega
    clear hlt
    go_wp2
    refine wp_region_quiet_below (by kernel_rfl) (by kernel_rfl) ?_
    repeat (go_big_quiet_step (fail))
    refine wpQuiet_nil ?_
    intro _ hw'
    obtain ⟨⟨dq,osq⟩,hw''⟩ := hw'
    subst hw''
    go_wp2
    go_ret2
    exact ⟨by rw [TH.out,CE.out]; rfl,BN.out _ _⟩
theorem place_leJ (l : List XID) (y : XID) : placeK keyJ l y ≤ l.length := by
 rw [placeK_map]
 exact Nat.le_trans (place_le _ _) (by simp)
theorem putJ_any (B : Nat) (v : Sl) (l : List XID) (x : XID) (w : World) (ho : Own EJ w B (slv v) l) (hr : RiseK keyJ l) (hl : l.length ≤ 900) (hB : B ≤ w.heap.size) :
  Calls Tryz.prog 93 #[slv v,idv x,.func (.func 56) #[] #[]] w fun e w' => (∃ v' : Sl,e = .returned (slv v') ∧ Own EJ w' B (slv v') (insAt l (placeK keyJ l (keyJ x)) x)) ∧ Below B w w' ∧ (∀ j,j < w.heap.size → some j ≠ (slv v).ownBlock → w'.heap[j]? = w.heap[j]?) := by
 have h0 := newB w (.cells #[.int .i64 x.1,.int .i64 x.2] 31)
 have X := box_new w #[.int .i64 x.1,.int .i64 x.2] 31
 have C := Lib.hid (bsJ_any (slv v) l x _ ((Row.of_own ho).on h0) hr hl)
 obtain ⟨ks,hks⟩ : ∃ k,k = placeK keyJ l (keyJ x) := ⟨_,rfl⟩
 have KL : ks ≤ l.length := by rw [hks]; exact place_leJ _ _
 rw [← hks] at C
 rw [← hks]
 generalize thereK keyJ l (keyJ x) = th at *
 have OW := Lib.hid (Bk.own_on ho h0)
 have HV := Lib.hid (show (slv v).ownBlock ≠ none → ∃ g,(slv v).ownBlock = some g ∧ g < w.heap.size from fun hne => by
  cases hb : (slv v).ownBlock with
  | none => exact absurd hb hne
  | some g => exact ⟨g,rfl,(ho.lt g hb).2⟩)
 have B0 := Lib.hid ((Below.refl B w).alloc hB (.cells #[.int .i64 x.1,.int .i64 x.2] 31))
 have BN0 := Lib.hid h0
 have KK := Lib.hid KL
 have LL := Lib.hid hl
 have BB := Lib.hid hB
 clear h0 ho hr hl hB hks KL
 obtain ⟨c1,c2⟩ := x
 obtain ⟨vo,vn,vc⟩ := v
 simp only at C X
 obtain ⟨x0,x1⟩ := X.cs2
 have XX := Lib.hid X
 clear X
 go_enter Tryz.func93,Tryz.ntmps93
 go_wp2_with fail
 have W1 := Lib.hid (show w.heap.size ≤ (w.alloc (.cells #[.int .i64 c1,.int .i64 c2] 31)).heap.size by simp)
 generalize w.alloc (.cells #[.int .i64 c1,.int .i64 c2] 31) = W at *
 refine C.out.mono ?_
 rintro e w1 ⟨rfl,hb⟩
 have Y := XX.out.on hb
 obtain ⟨y0,y1⟩ := Y.cs2
 have O1 := Lib.hid (Bk.own_on OW.out hb)
 have B1 := Lib.hid (B0.out.trans (hb.mono (Nat.le_trans BB.out W1.out)))
 have BW := Lib.hid (fun j (hj : j < w.heap.size) => (hb.block j (Nat.lt_of_lt_of_le hj W1.out)).trans (BN0.out.block j hj))
 have S1 := Lib.hid (Nat.le_trans W1.out hb.size)
 clear C Y hb x0 x1
 go_wp2_with fail
 have hl := LL.out
 have NB := newB w1 (.cells #[.int .i64 c1,.int .i64 c2] 31)
 refine (insert_anyJ B _ l ks (c1,c2) w1.heap.size _ (Bk.own_on O1.out NB) (box_new w1 #[.int .i64 c1,.int .i64 c2] 31) ?_ KK.out (by omega) (Nat.le_trans (Nat.le_trans BB.out S1.out) NB.size)).mono ?_
 ·intro he
  obtain ⟨g,hg,hlt⟩ := HV.out (by rw [he]; simp)
  rw [he] at hg
  have := Option.some.inj hg
  have := S1.out
  omega
 rintro e w2 ⟨v',rfl,ho,hb,hoth⟩
 obtain ⟨a1,a2,hv⟩ := (Row.of_own ho).len
 have Q := Lib.hid (show (∃ v'' : Sl,Ending.returned v' = .returned (slv v'') ∧ Own EJ w2 B (slv v'') (insAt l ks (c1,c2))) ∧ Below B w w2 ∧ (∀ j,j < w.heap.size → some j ≠ (slv (vo,vn,vc)).ownBlock → w2.heap[j]? = w.heap[j]?) from ⟨⟨(a1,_,a2),by rw [hv],by subst hv; simpa [insAt] using ho⟩,(B1.out.trans (NB.mono (Nat.le_trans BB.out S1.out))).trans hb,fun j hj hne => (hoth j (Nat.lt_of_lt_of_le (Nat.lt_of_lt_of_le hj S1.out) NB.size) hne).trans ((NB.block j (Nat.lt_of_lt_of_le hj S1.out)).trans (BW.out j hj))⟩)
 clear ho hb hv hl NB
 go_wp2
 go_ret
 exact Q.out
theorem place_leD (l : List XAd) (y : XID) : placeK keyD l y ≤ l.length := by
 rw [placeK_map]
 exact Nat.le_trans (place_le _ _) (by simp)
theorem putD_any (B : Nat) (v : Sl) (l : List XAd) (x : XAd) (w : World) (ho : Own ED w B (slv v) l) (hr : RiseK keyD l) (hl : l.length ≤ 900) (hB : B ≤ w.heap.size) :
  Calls Tryz.prog 92 #[slv v,valD x,.func (.func 58) #[] #[]] w fun e w' => (∃ v' : Sl,e = .returned (slv v') ∧ Own ED w' B (slv v') (insAt l (placeK keyD l (keyD x)) x)) ∧ Below B w w' ∧ (∀ j,j < w.heap.size → some j ≠ (slv v).ownBlock → w'.heap[j]? = w.heap[j]?) := by
 have h0 := newB w (.cells #[.int .i64 x.1,.int .i64 x.2.1,slv x.2.2.1,.int .i64 x.2.2.2] 74)
 have X := box_new w #[.int .i64 x.1,.int .i64 x.2.1,slv x.2.2.1,.int .i64 x.2.2.2] 74
 have C := Lib.hid (bsD_any (slv v) l x _ ((Row.of_own ho).on h0) hr hl)
 obtain ⟨ks,hks⟩ : ∃ k,k = placeK keyD l (keyD x) := ⟨_,rfl⟩
 have KL : ks ≤ l.length := by rw [hks]; exact place_leD _ _
 have e1 : keyD x = (x.1,x.2.1) := rfl
 rw [← e1] at C
 rw [← hks] at C
 rw [← hks]
 generalize thereK keyD l (keyD x) = th at *
 have OW := Lib.hid (Bk.own_on ho h0)
 have HV := Lib.hid (show (slv v).ownBlock ≠ none → ∃ g,(slv v).ownBlock = some g ∧ g < w.heap.size from fun hne => by
  cases hb : (slv v).ownBlock with
  | none => exact absurd hb hne
  | some g => exact ⟨g,rfl,(ho.lt g hb).2⟩)
 have B0 := Lib.hid ((Below.refl B w).alloc hB (.cells #[.int .i64 x.1,.int .i64 x.2.1,slv x.2.2.1,.int .i64 x.2.2.2] 74))
 have BN0 := Lib.hid h0
 have KK := Lib.hid KL
 have LL := Lib.hid hl
 have BB := Lib.hid hB
 clear h0 ho hr hl hB hks KL
 obtain ⟨c1,c2,⟨c3,c4,c5⟩,c6⟩ := x
 obtain ⟨vo,vn,vc⟩ := v
 simp only at C X
 obtain ⟨x0,x1,x2,x3⟩ := X.cs4
 have XX := Lib.hid X
 clear X
 go_enter Tryz.func92,Tryz.ntmps92
 go_wp2_with fail
 have W1 := Lib.hid (show w.heap.size ≤ (w.alloc (.cells #[.int .i64 c1,.int .i64 c2,.slice c3 c4 c5,.int .i64 c6] 74)).heap.size by simp)
 generalize w.alloc (.cells #[.int .i64 c1,.int .i64 c2,.slice c3 c4 c5,.int .i64 c6] 74) = W at *
 refine C.out.mono ?_
 rintro e w1 ⟨rfl,hb⟩
 have Y := XX.out.on hb
 obtain ⟨y0,y1,y2,y3⟩ := Y.cs4
 have O1 := Lib.hid (Bk.own_on OW.out hb)
 have B1 := Lib.hid (B0.out.trans (hb.mono (Nat.le_trans BB.out W1.out)))
 have BW := Lib.hid (fun j (hj : j < w.heap.size) => (hb.block j (Nat.lt_of_lt_of_le hj W1.out)).trans (BN0.out.block j hj))
 have S1 := Lib.hid (Nat.le_trans W1.out hb.size)
 clear C Y hb x0 x1 x2 x3
 go_wp2_with fail
 have hl := LL.out
 have NB := newB w1 (.cells #[.int .i64 c1,.int .i64 c2,.slice c3 c4 c5,.int .i64 c6] 74)
 refine (insert_anyD B _ l ks (c1,c2,(c3,c4,c5),c6) w1.heap.size _ (Bk.own_on O1.out NB) (box_new w1 #[.int .i64 c1,.int .i64 c2,.slice c3 c4 c5,.int .i64 c6] 74) ?_ KK.out (by omega) (Nat.le_trans (Nat.le_trans BB.out S1.out) NB.size)).mono ?_
 ·intro he
  obtain ⟨g,hg,hlt⟩ := HV.out (by rw [he]; simp)
  rw [he] at hg
  have := Option.some.inj hg
  have := S1.out
  omega
 rintro e w2 ⟨v',rfl,ho,hb,hoth⟩
 obtain ⟨a1,a2,hv⟩ := (Row.of_own ho).len
 have Q := Lib.hid (show (∃ v'' : Sl,Ending.returned v' = .returned (slv v'') ∧ Own ED w2 B (slv v'') (insAt l ks (c1,c2,(c3,c4,c5),c6))) ∧ Below B w w2 ∧ (∀ j,j < w.heap.size → some j ≠ (slv (vo,vn,vc)).ownBlock → w2.heap[j]? = w.heap[j]?) from ⟨⟨(a1,_,a2),by rw [hv],by subst hv; simpa [insAt] using ho⟩,(B1.out.trans (NB.mono (Nat.le_trans BB.out S1.out))).trans hb,fun j hj hne => (hoth j (Nat.lt_of_lt_of_le (Nat.lt_of_lt_of_le hj S1.out) NB.size) hne).trans ((NB.block j (Nat.lt_of_lt_of_le hj S1.out)).trans (BW.out j hj))⟩)
 clear ho hb hv hl NB
 go_wp2
 go_ret
 exact Q.out
def Off (ob : Option Nat) (W x : World) : Prop := (∀ j,j < W.heap.size → some j ≠ ob → x.heap[j]? = W.heap[j]?) ∧ W.heap.size ≤ x.heap.size
def Tag (ob : Option Nat) (W : World) (t : TypeId) : Prop := ∀ g,ob = some g → ∃ d,Box W g d t
theorem tag_own {α : Type} {E : Ek α} {W : World} {B : Nat} {v : Value} {l : List α} (h : Own E W B v l) : Tag v.ownBlock W E.t := by
 intro g hg
 rcases own_open h with ⟨rfl,_⟩ | ⟨g',c',cur,rfl,_,h2,_⟩
 ·cases hg
 ·obtain rfl : g' = g := by simpa [Value.ownBlock] using hg
  exact ⟨cur,h2⟩
theorem Off.own {α : Type} {E : Ek α} {ob : Option Nat} {W x : World} {B : Nat} {v : Value} {l : List α} {t : TypeId} (h : Off ob W x) (ho : Own E W B v l) (hg : Tag ob W t) (hne : (E.t == t) = false) : Own E x B v l := by
 refine ⟨ho.1,?_⟩
 rcases ho.2 with h2 | ⟨g',cap,cur,h1,h2,h3,h4⟩
 ·exact Or.inl h2
 ·refine Or.inr ⟨g',cap,cur,h1,h2,?_,h4⟩
  rw [h.1 g' (lt_of_heap h3) fun e => by
   obtain ⟨d,hd⟩ := hg g' e.symm
   exact box_ne (show Box W g' cur E.t from h3) hd hne rfl]
  exact h3
theorem Off.box {ob : Option Nat} {W x : World} {b : Nat} {cs : Array Value} {s t : TypeId} (h : Off ob W x) (hb : Box W b cs s) (hg : Tag ob W t) (hne : (s == t) = false) : Box x b cs s := (h.1 b hb.lt fun e => by
 obtain ⟨d,hd⟩ := hg b e.symm
 exact box_ne hb hd hne rfl).trans hb
theorem PM.off {w0 wr x : World} {B : Nat} {v : Value} {p : List C5} {ob : Option Nat} {t : TypeId} (h : PM w0 B wr v p) (hb : Off ob wr x) (hg : Tag ob wr t) (hne : (70 == t) = false) : PM w0 B x v p := h.imp id fun h => hb.own h hg hne
theorem AdM.off {w0 wr x : World} {B : Nat} {y : XAd} {a : Ad} {ob : Option Nat} {t : TypeId} (h : AdM w0 B wr y a) (hb : Off ob wr x) (hg : Tag ob wr t) (hne : (70 == t) = false) : AdM w0 B x y a := ⟨h.1,h.2.1,h.2.2.off hb hg hne⟩
theorem EnM.off {w0 wr x : World} {B : Nat} {y : XEn} {a : En} {ob : Option Nat} {t : TypeId} (h : EnM w0 B wr y a) (hb : Off ob wr x) (hg : Tag ob wr t) (hne : (70 == t) = false) : EnM w0 B x y a := ⟨h.1,h.2.1,h.2.2.1,h.2.2.2.1,h.2.2.2.2.off hb hg hne⟩
theorem OwM.off {w0 wr x : World} {B : Nat} {y : XOw} {a : Ow} {ob : Option Nat} {t : TypeId} (h : OwM w0 B wr y a) (hb : Off ob wr x) (hg : Tag ob wr t) (hne : (70 == t) = false) : OwM w0 B x y a := ⟨h.1,h.2.off hb hg hne⟩
theorem Cp.offD {w0 wr x : World} {B : Nat} {b : Br} {nv av sv ev ov av' : Sl} {al : List Ad} (h : Cp w0 B wr b nv av sv ev ov) (hb : Off (slv av).ownBlock wr x) (hx : ∃ l,OwnD x B (slv av') l ∧ All2 (AdM w0 B x) l al) : Cp w0 B x { b with adv := al } nv av' sv ev ov := by
 obtain ⟨l0,hl0,_⟩ := h.adv
 have hg := tag_own hl0
 exact {
  near := hb.own h.near hg (by decide)
  seen := hb.own h.seen hg (by decide)
  adv := hx
  ent := by obtain ⟨l,h1,h2⟩ := h.ent; exact ⟨l,hb.own h1 hg (by decide),h2.mono fun _ _ h => h.off hb hg (by decide)⟩
  own := by obtain ⟨l,h1,h2⟩ := h.own; exact ⟨l,hb.own h1 hg (by decide),h2.mono fun _ _ h => h.off hb hg (by decide)⟩ }
theorem Cp.offN {w0 wr x : World} {B : Nat} {b : Br} {nv av sv ev ov ev' : Sl} {el : List En} (h : Cp w0 B wr b nv av sv ev ov) (hb : Off (slv ev).ownBlock wr x) (hx : ∃ l,OwnN x B (slv ev') l ∧ All2 (EnM w0 B x) l el) : Cp w0 B x { b with ent := el } nv av sv ev' ov := by
 obtain ⟨l0,hl0,_⟩ := h.ent
 have hg := tag_own hl0
 exact {
  near := hb.own h.near hg (by decide)
  seen := hb.own h.seen hg (by decide)
  adv := by obtain ⟨l,h1,h2⟩ := h.adv; exact ⟨l,hb.own h1 hg (by decide),h2.mono fun _ _ h => h.off hb hg (by decide)⟩
  ent := hx
  own := by obtain ⟨l,h1,h2⟩ := h.own; exact ⟨l,hb.own h1 hg (by decide),h2.mono fun _ _ h => h.off hb hg (by decide)⟩ }
theorem Cp.offJ {w0 wr x : World} {B : Nat} {b : Br} {nv av sv ev ov sv' : Sl} {sl : List XID} (h : Cp w0 B wr b nv av sv ev ov) (hb : Off (slv sv).ownBlock wr x) (hx : OwnJ x B (slv sv') sl) : Cp w0 B x { b with seen := sl } nv av sv' ev ov := by
 have hg := tag_own h.seen
 exact {
  near := hb.own h.near hg (by decide)
  seen := hx
  adv := by obtain ⟨l,h1,h2⟩ := h.adv; exact ⟨l,hb.own h1 hg (by decide),h2.mono fun _ _ h => h.off hb hg (by decide)⟩
  ent := by obtain ⟨l,h1,h2⟩ := h.ent; exact ⟨l,hb.own h1 hg (by decide),h2.mono fun _ _ h => h.off hb hg (by decide)⟩
  own := by obtain ⟨l,h1,h2⟩ := h.own; exact ⟨l,hb.own h1 hg (by decide),h2.mono fun _ _ h => h.off hb hg (by decide)⟩ }
theorem all2_ins {α β : Type} {R : α → β → Prop} {l : List α} {m : List β} (h : All2 R l m) (k : Nat) {a : α} {b : β} (hr : R a b) : All2 R (insAt l k a) (insAt m k b) :=
 ((h.take k).append (.cons hr .nil)).append (h.drop k)
theorem keys_eq {w0 wr : World} {B : Nat} : ∀ {l : List XAd} {al : List Ad},All2 (AdM w0 B wr) l al → l.map keyD = al.map Ad.id
 | _,_,.nil => rfl
 | _,_,.cons h t => by rw [List.map_cons,List.map_cons,keys_eq t]; exact congrArg (· :: _) h.1
theorem riseK_map {α : Type} (key : α → XID) (l : List α) : RiseK key l ↔ RiseK (fun x : XID => x) (l.map key) := by
 unfold RiseK
 rw [List.pairwise_map]
theorem box_setCells {g : Nat} {t : TypeId} : ∀ (vs : List Value) (o : Nat) (w : World) (cur : Array Value),Box w g cur t → ∃ cur',Box (w.setCells g o vs) g cur' t ∧ cur'.size = cur.size ∧ cur'.toList.take o = cur.toList.take o
 | [],o,w,cur,h => ⟨cur,h,rfl,rfl⟩
 | v :: r,o,w,cur,h => by
  obtain ⟨cur',h1,h2,h3⟩ := box_setCells r (o + 1) (w.setCell ⟨g,o,none⟩ v) _ (box_set (k := o) h v)
  refine ⟨cur',h1,by rw [h2]; simp,?_⟩
  have h4 := congrArg (List.take o) h3
  rw [List.take_take,List.take_take,Nat.min_eq_left (by omega)] at h4
  rw [h4,Array.toList_setIfInBounds,List.take_set_of_le (Nat.le_refl _)]
theorem but_setCells (g : Nat) : ∀ (vs : List Value) (o : Nat) (w : World),But g w (w.setCells g o vs)
 | [],_,_w => ⟨fun _ _ _ => rfl,Nat.le_refl _⟩
 | v :: r,o,w => (but_cell w g o v).trans (but_setCells g r (o + 1) _)
theorem below_setCells {B g : Nat} (hB : B ≤ g) : ∀ (vs : List Value) (o : Nat) (W w : World),Below B W w → Below B W (w.setCells g o vs)
 | [],_,_,_,h => h
 | v :: r,o,W,_w,h => below_setCells hB r (o + 1) W _ (h.setCell (p := ⟨g,o,none⟩) hB v)
theorem clear_own {α : Type} {E : Ek α} (K : E.Ok) (hz : ∀ v ∈ E.z.cells.toList,v.oneCell' = true) {W : World} {B g n cap i : Nat} {L : List α} (h : Own E W B (.slice (some ⟨g,0,none⟩) n cap) L) (hi : i < n) (ty : TypeId) :
  ∃ W',(Builtin.clear_ #[E.ts] ty #[.slice (some ⟨g,i * E.n,none⟩) (n - i) (cap - i)]).run Tryz.prog W = .ok (.tuple #[]) W' ∧ Own E W' B (.slice (some ⟨g,0,none⟩) i cap) (L.take i) ∧ But g W W' ∧ (∀ B' W0,B' ≤ g → Below B' W0 W → Below B' W0 W') := by
 have hln := own_row_len h
 rcases own_open h with ⟨h1,_⟩ | ⟨g',cap',cur,h1,h2,h3,h4,h5,h6,h7⟩
 ·cases h1
 ·obtain ⟨rfl,_,rfl⟩ : g = g' ∧ n = L.length ∧ cap = cap' := by simpa using h1
  have hzs : (Builtin.zeroCells E.z.cells (n - i)).toList.length = (n - i) * E.n := by simp [Builtin.zeroCells,K.zs]
  have h10 : i * E.n + (n - i) * E.n = n * E.n := by rw [← Nat.add_mul,Nat.add_sub_cancel' (Nat.le_of_lt hi)]
  have h11 : n * E.n ≤ cap * E.n := Nat.mul_le_mul_right _ (by omega)
  have hone : ∀ v ∈ (Builtin.zeroCells E.z.cells (n - i)).toList,v.oneCell' = true := by
   intro v hv
   simp only [Builtin.zeroCells,Array.toList_map,List.mem_map] at hv
   obtain ⟨j,_,rfl⟩ := hv
   have hp := K.pos
   have hlt : j % E.z.cells.size < E.z.cells.size := Nat.mod_lt _ (by rw [K.zs]; exact hp)
   refine hz _ ?_
   rw [getElem!_pos E.z.cells (j % E.z.cells.size) hlt,Array.mem_toList_iff]
   exact Array.getElem_mem hlt
  have hst := run_storeCells_cells (P := Tryz.prog) g (i * E.n) (Builtin.zeroCells E.z.cells (n - i)).toList 0 W (by
   intro j hj
   rw [hzs] at hj
   rw [Nat.add_zero,h3.cell]
   have : i * E.n + j < cur.size := by rw [h6]; omega
   simp [this]) (fun j _ => h3.fr _) hone
  rw [Nat.add_zero] at hst
  obtain ⟨ii,i1,i2,i3,i4⟩ := K.info
  obtain ⟨cur',c1,c2,c3⟩ := box_setCells (Builtin.zeroCells E.z.cells (n - i)).toList (i * E.n) W cur h3
  refine ⟨W.setCells g (i * E.n) (Builtin.zeroCells E.z.cells (n - i)).toList,?_,?_,but_setCells _ _ _ _,fun B' W0 hB hb => below_setCells hB _ _ _ _ hb⟩
  ·obtain ⟨m,hm⟩ : ∃ m,n - i = m + 1 := ⟨n - i - 1,by omega⟩
   rw [hm] at hst ⊢
   have hv : ∀ w,(zeroValue E.t).run Tryz.prog w = .ok E.z w := fun w => by simp [go_sem,zeroValue,typeInfo,i1,i2]
   simp [Builtin.clear_,run_underlying K.hu,hv,hst]
  ·refine own_shut K (by rw [List.length_take]; omega) h2 c1 (by omega) h5 (by rw [c2]; exact h6) ?_
   rw [c3]
   have h8 := congrArg (List.take (i * E.n)) h7
   rw [List.take_take,flat_take K,Nat.min_eq_left (by rw [← hln] at hi; exact Nat.mul_le_mul_right _ (Nat.le_of_lt hi))] at h8
   exact h8
structure DelSt {α : Type} (keep : α → Bool) (l : List α) (i j : Nat) (L : List α) : Prop where
 len : L.length = l.length
 lt : i < j
 lo : L.take i = (l.take j).filter keep
 hi : L.drop j = l.drop j
theorem DelSt.at {α : Type} {keep : α → Bool} {l : List α} {i j : Nat} {L : List α} (h : DelSt keep l i j L) : L[j]? = l[j]? := by
 have := congrArg (fun m => m[0]?) h.hi
 simpa using this
theorem DelSt.skip {α : Type} {keep : α → Bool} {l : List α} {i j : Nat} {L : List α} {x : α} (h : DelSt keep l i j L) (hx : l[j]? = some x) (hk : keep x = false) : DelSt keep l i (j + 1) L where
 len := h.len
 lt := Nat.lt_succ_of_lt h.lt
 lo := by
  rw [h.lo,List.take_add_one,hx]
  simp [hk]
 hi := by
  have := congrArg (List.drop 1) h.hi
  simpa [List.drop_drop] using this
theorem DelSt.keep {α : Type} {keep : α → Bool} {l : List α} {i j : Nat} {L : List α} {x : α} (h : DelSt keep l i j L) (hx : l[j]? = some x) (hk : keep x = true) : DelSt keep l (i + 1) (j + 1) (L.set i x) where
 len := by rw [List.length_set]; exact h.len
 lt := by have := h.lt; omega
 lo := by
  have hj := (List.getElem?_eq_some_iff.1 hx).1
  have hl := h.lt
  have hL := h.len
  rw [List.take_add_one,List.take_set_of_le (Nat.le_refl _),h.lo,List.getElem?_set_self (by omega),List.take_add_one,hx]
  simp [hk]
 hi := by
  have := congrArg (List.drop 1) h.hi
  rw [List.drop_set_of_lt (by have := h.lt; omega)]
  simpa [List.drop_drop] using this
theorem filter_first {α : Type} {keep : α → Bool} {l : List α} {k : Nat} {x : α} (hx : l[k]? = some x) (hk : keep x = false) (hall : ∀ (j : Nat) (y : α),j < k → l[j]? = some y → keep y = true) : DelSt keep l k (k + 1) l where
 len := rfl
 lt := Nat.lt_succ_self _
 lo := by
  rw [List.take_add_one,hx,List.filter_append]
  have : (l.take k).filter keep = l.take k := by
   rw [List.filter_eq_self]
   intro y hy
   obtain ⟨j,hj⟩ := List.mem_iff_getElem?.1 hy
   have hj' := (List.getElem?_eq_some_iff.1 hj).1
   rw [List.length_take] at hj'
   rw [List.getElem?_take_of_lt (by omega)] at hj
   exact hall j y (by omega) hj
  rw [this]
  simp [hk]
 hi := rfl
theorem findI_neg {α : Type} {key : α → XID} {l : List α} {x : XID} (h : findI (l.map key) x = -1) : ∀ (j : Nat) (y : α),l[j]? = some y → key y ≠ x := by
 intro j y hj hy
 have h1 := findI_in (l.map key) x
 rw [h] at h1
 have : x ∈ l.map key := List.mem_map.2 ⟨y,List.mem_of_getElem? hj,hy⟩
 simp [this] at h1
theorem findI_get : ∀ {l : List XID} {x : XID} {k : Nat},findI l x = k → l[k]? = some x ∧ ∀ (j : Nat) (y : XID),j < k → l[j]? = some y → y ≠ x
 | [],x,k,h => by simp [findI] at h <;> omega
 | a :: l,x,k,h => by
  unfold findI at h
  by_cases hax : a = x
  ·rw [if_pos hax] at h
   obtain rfl : k = 0 := by omega
   exact ⟨by simpa using hax,fun j y hj => by omega⟩
  ·rw [if_neg hax] at h
   by_cases h2 : findI l x = -1
   ·rw [if_pos h2] at h; omega
   ·rw [if_neg h2] at h
    cases k with
    | zero => have := findI_bd l x; omega
    | succ k =>
     obtain ⟨h3,h4⟩ := findI_get (l := l) (x := x) (k := k) (by omega)
     refine ⟨by simpa using h3,fun j y hj hy => ?_⟩
     cases j with
     | zero =>
      obtain rfl : a = y := by simpa using hy
      exact hax
     | succ j => exact h4 j y (by omega) (by simpa using hy)
theorem stoD {w : World} {B g n cap k : Nat} {l : List XAd} (x : XAd) (h : Own ED w B (.slice (some ⟨g,0,none⟩) n cap) l) (hk : k < l.length) :
  StoQ ED B g (.slice (some ⟨g,0,none⟩) n cap) (l.set k x) w ((((w.setCell ⟨g,k * 4,none⟩ (.int .i64 x.1)).setCell ⟨g,k * 4 + 1,none⟩ (.int .i64 x.2.1)).setCell ⟨g,k * 4 + 2,none⟩ (slv x.2.2.1)).setCell ⟨g,k * 4 + 3,none⟩ (.int .i64 x.2.2.2)) := by
 have hln := own_row_len h
 subst hln
 have h : w.ownsRow B 74 4 (.slice (some ⟨g,0,none⟩) l.length cap) l.length (flat ED l) := h
 have s1 := (h.stored (k * 4) (.int .i64 x.1)).1
 have s2 := (s1.stored (k * 4 + 1) (.int .i64 x.2.1)).1
 have s3 := (s2.stored (k * 4 + 2) (slv x.2.2.1)).1
 have s4 := (s3.stored (k * 4 + 3) (.int .i64 x.2.2.2)).1
 refine ⟨?_,((((but_cell _ g _ _).trans (but_cell _ g _ _)).trans (but_cell _ g _ _)).trans (but_cell _ g _ _)),fun B' W hB hb => ((((hb.setCell (p := ⟨g,_,none⟩) hB _).setCell (p := ⟨g,_,none⟩) hB _).setCell (p := ⟨g,_,none⟩) hB _).setCell (p := ⟨g,_,none⟩) hB _)⟩
 have e := flatD_set l k x hk
 show World.ownsRow _ B 74 4 _ (l.set k x).length (flat ED (l.set k x))
 rw [e,List.length_set]
 exact s4
theorem cloD_any (x : XAd) (b2 : Nat) (c d : Int) (r : Bool) (hr : decide (keyD x = (c,d)) = r) (w : World) (h : Box w b2 #[.int .i64 c,.int .i64 d] 31) : Calls Tryz.prog 97 #[valD x,.pointer (some ⟨b2,0,none⟩)] w fun e w' => e = .returned (.bool r) ∧ Below w.heap.size w w' := by
 obtain ⟨y1,y2,⟨yo,yn,yc⟩,y4⟩ := x
 have n0 := newB w (.cells #[.int .i64 y1,.int .i64 y2,.slice yo yn yc,.int .i64 y4] 74)
 have hx := box_new w #[.int .i64 y1,.int .i64 y2,.slice yo yn yc,.int .i64 y4] 74
 have x1 := hx.cell 1
 have x0 := hx.cell 0
 obtain ⟨z0,z1⟩ := (h.on n0).cs2
 simp only [List.getElem?_toArray,List.getElem?_cons_zero,List.getElem?_cons_succ] at x0 x1
 have he := eqId y1 y2 c d r (by
  rw [← hr]
  by_cases h1 : y1 = c <;> by_cases h2 : y2 = d <;> simp [h1,h2])
 have N0 := Lib.hid n0
 clear n0 hx h hr
 go_enter Tryz.func97,Tryz.ntmps97
 go_wp2
 go_ret
 exact ⟨rfl,N0.out⟩
theorem ixfD_any (v : Sl) (l : List XAd) (b2 : Nat) (c d : Int) (w : World) (hs : Row ED w (slv v) l) (hb2 : Box w b2 #[.int .i64 c,.int .i64 d] 31) :
  Calls Tryz.prog 148 #[slv v,.func (.func 97) #[] #[.pointer (some ⟨b2,0,none⟩)]] w fun e w' => e = .returned (.int .i64 (findI (l.map keyD) (c,d))) ∧ Below w.heap.size w w' := by
 obtain ⟨so,sn,sc⟩ := v
 obtain ⟨ao,ac,hv⟩ := hs.len
 have hv : Value.slice so sn sc = .slice ao l.length ac := hv
 obtain ⟨rfl,rfl,rfl⟩ : so = ao ∧ sn = l.length ∧ sc = ac := by simpa using hv
 have HS := Lib.hid hs
 have X2 := Lib.hid hb2
 have lm := hs.most
 unfold maxLen at lm
 obtain ⟨n,hn⟩ : ∃ n,n = l.length := ⟨_,rfl⟩
 rw [← hn] at HS lm ⊢
 have HN := Lib.hid hn.symm
 clear hb2 hs hv hn
 go_enter Tryz.func148,Tryz.ntmps148
 go_wp2
 go_loopw [8] (fun i wr => ∃ k : Nat,k ≤ n ∧ i = .int .i64 k ∧ Below w.heap.size w wr ∧ ∀ (j : Nat) (y : XAd),j < k → l[j]? = some y → keyD y ≠ (c,d)) (fun i _ => n - (intOf i).toNat)
 case atStart => exact ⟨0,Nat.zero_le _,rfl,Below.refl _ _,fun j y h => by omega⟩
 case round =>
  obtain ⟨k,hk,rfl,hbe,hall⟩ := hrel
  have BE := Lib.hid hbe
  have AL := Lib.hid hall
  clear hbe hall
  by_cases hlt : k < n
  ·obtain ⟨y,hy⟩ : ∃ y,l[k]? = some y := ⟨_,List.getElem?_eq_getElem (by rw [HN.out]; exact hlt)⟩
   obtain ⟨p,ix,px⟩ := elD HS.out rfl HN.out hy
   obtain ⟨p0,p1,p2,p3⟩ := px wr BE.out
   obtain ⟨r,hr⟩ : ∃ r,decide (keyD y = (c,d)) = r := ⟨_,rfl⟩
   have CL := Lib.hid (cloD_any y b2 c d r hr wr (X2.out.on BE.out))
   have HY := Lib.hid hy
   have HR := Lib.hid hr
   obtain ⟨y1,y2,⟨yo,yn,yc⟩,y4⟩ := y
   simp only at p0 p1 p2 p3
   have hw3 : IntKind.i64.wrap ((k : Int) + 1) = (k : Int) + 1 := IntWalk.i64_in _ (by omega)
   clear px hy hr
   go_wp2_with fail
   refine CL.out.mono ?_
   rintro e w1 ⟨rfl,hb⟩
   have B1 := Lib.hid (BE.out.trans (hb.mono BE.out.size))
   clear hb CL ix p0 p1 p2 p3
   cases r
   ·go_wp2
    go_roundw
    case rel => exact ⟨k + 1,by omega,by go_num,B1.out,fun j y' hj h1 => by
     rcases Nat.lt_or_ge j k with h3 | h3
     ·exact AL.out j y' h3 h1
     ·obtain rfl : j = k := by omega
      have e1 := HY.out
      rw [h1] at e1
      rw [Option.some.inj e1]
      exact of_decide_eq_false HR.out⟩
    case measure => simp [intOf]; omega
   ·go_wp2
    go_ret
    exact ⟨by rw [findI_at (l.map keyD) k (c,d) (by rw [List.getElem?_map,HY.out]; exact congrArg some (of_decide_eq_true HR.out)) (fun j z hj hz => by
     rw [List.getElem?_map] at hz
     cases hz2 : l[j]? with
     | none => rw [hz2] at hz; cases hz
     | some u => rw [hz2] at hz; rw [← Option.some.inj hz]; exact AL.out j u hj hz2)]; rfl,B1.out⟩
  ·obtain rfl : k = n := by omega
   go_wp2
   go_ret
   exact ⟨by rw [findI_none (l.map keyD) (c,d) (fun j z hz => by
     rw [List.getElem?_map] at hz
     cases hz2 : l[j]? with
     | none => rw [hz2] at hz; cases hz
     | some u => rw [hz2] at hz; rw [← Option.some.inj hz]; exact AL.out j u (by rw [← HN.out]; exact (List.getElem?_eq_some_iff.1 hz2).1) hz2)]; rfl,BE.out⟩
abbrev keepD (c d : Int) (x : XAd) : Bool := decide (keyD x ≠ (c,d))
theorem delD_any (B : Nat) (v : Sl) (l : List XAd) (b2 : Nat) (c d : Int) (w : World) (ho : Own ED w B (slv v) l) (hb2 : Box w b2 #[.int .i64 c,.int .i64 d] 31) (hB : B ≤ w.heap.size) :
  Calls Tryz.prog 96 #[slv v,.func (.func 97) #[] #[.pointer (some ⟨b2,0,none⟩)]] w fun e w' => (∃ v' : Sl,e = .returned (slv v') ∧ Own ED w' B (slv v') (l.filter (keepD c d))) ∧ Below B w w' ∧ Off (slv v).ownBlock w w' := by
 obtain ⟨so,sn,sc⟩ := v
 obtain ⟨ao,ac,hv⟩ := (Row.of_own ho).len
 have hv : Value.slice so sn sc = .slice ao l.length ac := hv
 obtain ⟨rfl,rfl,rfl⟩ : so = ao ∧ sn = l.length ∧ sc = ac := by simpa using hv
 have IX := Lib.hid (ixfD_any (so,l.length,sc) l b2 c d w (Row.of_own ho) hb2)
 have HO := Lib.hid ho
 have X2 := Lib.hid hb2
 have lm := (Row.of_own ho).most
 unfold maxLen at lm
 have BZ := Lib.hid (show w.heap.size ≤ w.heap.size from Nat.le_refl _)
 obtain ⟨n,hn⟩ : ∃ n,n = l.length := ⟨_,rfl⟩
 rw [← hn] at HO lm IX ⊢
 have HN := Lib.hid hn.symm
 obtain ⟨q,hq⟩ : ∃ q,findI (l.map keyD) (c,d) = q := ⟨_,rfl⟩
 rw [hq] at IX
 have HQ := Lib.hid hq
 have HB := Lib.hid hB
 have LB := Lib.hid (show ∀ g,(slv (so,n,sc)).ownBlock = some g → B ≤ g from fun g hg => (HO.out.lt g hg).1)
 clear hb2 ho hv hn hB
 by_cases hneg : q = -1
 ·subst hneg
  go_enter Tryz.func96,Tryz.ntmps96
  go_wp2_with fail
  refine IX.out.mono ?_
  rintro e w1 ⟨rfl,hb⟩
  have FE := Lib.hid (show l.filter (keepD c d) = l from by
   rw [List.filter_eq_self]
   intro y hy
   obtain ⟨j,hj⟩ := List.mem_iff_getElem?.1 hy
   exact decide_eq_true (findI_neg hq j y hj))
  have BH := Lib.hid hb
  clear hb hq
  go_wp2
  go_ret
  exact ⟨⟨(so,n,sc),rfl,by rw [FE.out]; exact Bk.own_on HO.out BH.out⟩,BH.out.mono HB.out,fun j hj _ => BH.out.block j hj,BH.out.size⟩
 ·obtain ⟨k,rfl⟩ : ∃ k : Nat,q = k := ⟨q.toNat,by have := findI_bd (l.map keyD) (c,d); omega⟩
  obtain ⟨g1,g2⟩ := findI_get hq
  obtain ⟨x,hx,hxk⟩ : ∃ x,l[k]? = some x ∧ keyD x = (c,d) := by
   rw [List.getElem?_map] at g1
   cases hz : l[k]? with
   | none => rw [hz] at g1; cases g1
   | some x => rw [hz] at g1; exact ⟨x,rfl,Option.some.inj g1⟩
  have ST0 := Lib.hid (filter_first (keep := keepD c d) hx (decide_eq_false (by simp [hxk])) (fun j y hj hy => decide_eq_true (g2 j (keyD y) hj (by rw [List.getElem?_map,hy]; rfl))))
  have hkl : k < n := by rw [← HN.out]; exact (List.getElem?_eq_some_iff.1 hx).1
  obtain ⟨g,rfl,hBg⟩ : ∃ g,so = some ⟨g,0,none⟩ ∧ B ≤ g := own_some HO.out (show 0 < n by omega)
  have BG := Lib.hid hBg
  have TG := Lib.hid (tag_own HO.out)
  have hcap : n ≤ sc := by
   rcases own_open HO.out with ⟨h1,_⟩ | ⟨g',c',cur,h1,h2,h3,h4,h5,h6,h7⟩
   ·cases h1
   ·have e1 : sc = c' := by simpa using congrArg (fun v => match v with | Value.slice _ _ c => c | _ => 0) h1
    have := HN.out
    omega
  have hw0 : IntKind.i64.wrap ((k : Int) + 1) = (k : Int) + 1 := IntWalk.i64_in _ (by omega)
  have hk1 : ((k : Int) == -1) = false := by rw [beq_eq_false_iff_ne]; omega
  clear hq g1 g2 hx hxk x hneg hBg LB
  go_enter Tryz.func96,Tryz.ntmps96
  go_wp2_with fail
  refine IX.out.mono ?_
  rintro e w1 ⟨rfl,hb⟩
  have O1 := Lib.hid (Bk.own_on HO.out hb)
  have B1 := Lib.hid (hb.mono HB.out)
  have F1 := Lib.hid (show Off (some g) w w1 from ⟨fun j hj _ => hb.block j hj,hb.size⟩)
  clear hb IX
  go_wp2
  clear hw0 hk1
  go_loopw [5,6] (fun s5 s6 wr => ∃ (i j : Nat) (L : List XAd),s5 = .int .i64 i ∧ s6 = .int .i64 j ∧ j ≤ n ∧ DelSt (keepD c d) l i j L ∧ Own ED wr B (.slice (some ⟨g,0,none⟩) n sc) L ∧ Below B w wr ∧ Off (some g) w wr) (fun _ s6 _ => n - (intOf s6).toNat)
  case atStart => exact ⟨k,k + 1,l,rfl,by go_num,by omega,ST0.out,O1.out,B1.out,F1.out⟩
  case round =>
   obtain ⟨i,j,L,rfl,rfl,hj,hst,how,hbe,hof⟩ := hrel
   have ST := Lib.hid hst
   have OW := Lib.hid how
   have BE := Lib.hid hbe
   have OF := Lib.hid hof
   have hij := hst.lt
   have LN := Lib.hid (show L.length = n from hst.len.trans HN.out)
   clear hst how hbe hof O1 B1 F1 ST0
   by_cases hlt : j < n
   ·obtain ⟨y,hy⟩ : ∃ y,l[j]? = some y := ⟨_,List.getElem?_eq_getElem (by rw [HN.out]; exact hlt)⟩
    have hyL : L[j]? = some y := by rw [ST.out.at,hy]
    obtain ⟨p,ix,px⟩ := elD (Row.of_own OW.out) rfl LN.out hyL
    obtain ⟨p0,p1,p2,p3⟩ := px wr (Below.refl _ _)
    obtain ⟨r,hr⟩ : ∃ r,decide (keyD y = (c,d)) = r := ⟨_,rfl⟩
    have HY := Lib.hid hy
    have hw3 : IntKind.i64.wrap ((j : Int) + 1) = (j : Int) + 1 := IntWalk.i64_in _ (by omega)
    have hw5 : IntKind.i64.wrap ((i : Int) + 1) = (i : Int) + 1 := IntWalk.i64_in _ (by omega)
    obtain ⟨z,hz⟩ : ∃ z,L[i]? = some z := ⟨_,List.getElem?_eq_getElem (by rw [LN.out]; omega)⟩
    have HZ := Lib.hid hz
    have X2w := OF.out.box X2.out TG.out (by decide)
    have CLO := cloD_any y b2 c d r hr
    have KP := Lib.hid (show keepD c d y = !r from by rw [← hr]; simp [keepD])
    obtain ⟨y1,y2,⟨yo,yn,yc⟩,y4⟩ := y
    simp only at p0 p1 p2 p3
    have NB := Lib.hid (newB wr (.cells #[.int .i64 y1,.int .i64 y2,.slice yo yn yc,.int .i64 y4] 74))
    have CL := Lib.hid (CLO _ (X2w.on NB.out))
    clear hy hyL px hr hz CLO X2w
    go_wp2_with fail
    refine CL.out.mono ?_
    rintro e w2 ⟨rfl,hb⟩
    have BB := Lib.hid (NB.out.trans (hb.mono NB.out.size))
    have Y7 := (box_new wr #[.int .i64 y1,.int .i64 y2,.slice yo yn yc,.int .i64 y4] 74).on hb
    obtain ⟨q0,q1,q2,q3⟩ := Y7.cs4
    have O2 := Lib.hid (Bk.own_on OW.out BB.out)
    clear hb CL ix p0 p1 p2 p3 Y7
    cases r
    ·have ix := index_own okD g i n sc (by omega)
     have ix : ∀ w,(Instr.indexAt 23 (.slice (some ⟨g,0,none⟩) n sc) (.int .i64 i)).run Tryz.prog w = .ok (.pointer (some ⟨g,i * 4,none⟩)) w := ix
     have ca := own_row_at okD O2.out HZ.out w2 (Below.refl _ _)
     have ce0 := ca 0 _ rfl
     have ce1 := ca 1 _ rfl
     have ce2 := ca 2 _ rfl
     have ce3 := ca 3 _ rfl
     simp [Addr.add,ED] at ce0 ce1 ce2 ce3
     obtain ⟨cur,hbx⟩ := own_tag O2.out
     have f := fun j => hbx.fr j
     have gl := hbx.lt
     have SQ : StoQ ED B g (.slice (some ⟨g,0,none⟩) n sc) (L.set i (y1,y2,(yo,yn,yc),y4)) w2 ((((w2.setCell ⟨g,i * 4,none⟩ (.int .i64 y1)).setCell ⟨g,i * 4 + 1,none⟩ (.int .i64 y2)).setCell ⟨g,i * 4 + 2,none⟩ (.slice yo yn yc)).setCell ⟨g,i * 4 + 3,none⟩ (.int .i64 y4)) := stoD (y1,y2,(yo,yn,yc),y4) O2.out (by rw [LN.out]; omega)
     have SQ := Lib.hid SQ
     clear hbx ca
     go_upto_region 10 with fail
     generalize ((((w2.setCell ⟨g,i * 4,none⟩ (.int .i64 y1)).setCell ⟨g,i * 4 + 1,none⟩ (.int .i64 y2)).setCell ⟨g,i * 4 + 2,none⟩ (.slice yo yn yc)).setCell ⟨g,i * 4 + 3,none⟩ (.int .i64 y4)) = w3 at *
     clear f gl ce0 ce1 ce2 ce3 ix
     go_wp2
     go_roundw
     case rel => exact ⟨i + 1,j + 1,L.set i (y1,y2,(yo,yn,yc),y4),by go_num,by go_num,by omega,ST.out.keep HY.out KP.out,SQ.out.1,SQ.out.2.2 B w BG.out (BE.out.trans (BB.out.mono (Nat.le_trans HB.out OF.out.2))),⟨fun q hq hne => (SQ.out.2.1.1 q (Nat.lt_of_lt_of_le (Nat.lt_of_lt_of_le hq OF.out.2) BB.out.size) (fun e => hne (by rw [e]))).trans ((BB.out.block q (Nat.lt_of_lt_of_le hq OF.out.2)).trans (OF.out.1 q hq hne)),Nat.le_trans OF.out.2 (Nat.le_trans BB.out.size SQ.out.2.1.2)⟩⟩
     case measure => simp [intOf]; omega
    ·go_wp2
     go_roundw
     case rel => exact ⟨i,j + 1,L,rfl,by go_num,by omega,ST.out.skip HY.out KP.out,O2.out,BE.out.trans (BB.out.mono (Nat.le_trans HB.out OF.out.2)),⟨fun q hq hne => (BB.out.block q (Nat.lt_of_lt_of_le hq OF.out.2)).trans (OF.out.1 q hq hne),Nat.le_trans OF.out.2 BB.out.size⟩⟩
     case measure => simp [intOf]; omega
   ·obtain rfl : n = j := by omega
    obtain ⟨W',hr,h1,h2,h3⟩ := clear_own okD (by decide) OW.out hij (ty := 0)
    have sh := cut_hi (E := ED) okD g i n sc (by omega) (by omega)
    have sl := slice_lo (E := ED) okD ⟨g,0,none⟩ i n sc (by omega)
    have sh : ∀ w,(Instr.sliceAt 23 (.slice (some ⟨g,0,none⟩) n sc) (some (.int .i64 i)) none none).run Tryz.prog w = .ok (.slice (some ⟨g,i * 4,none⟩) (n - i) (sc - i)) w := sh
    have sl : ∀ w,(Instr.sliceAt 23 (.slice (some ⟨g,0,none⟩) n sc) none (some (.int .i64 i)) none).run Tryz.prog w = .ok (.slice (some ⟨g,0,none⟩) i sc) w := sl
    have hr : (Builtin.clear_ #[23] 0 #[.slice (some ⟨g,i * 4,none⟩) (n - i) (sc - i)]).run Tryz.prog wr = .ok (.tuple #[]) W' := hr
    have Q := Lib.hid (show (∃ v' : Sl,Ending.returned (.slice (some ⟨g,0,none⟩) i sc) = .returned (slv v') ∧ Own ED W' B (slv v') (l.filter (keepD c d))) ∧ Below B w W' ∧ Off (slv (some ⟨g,0,none⟩,n,sc)).ownBlock w W' from ⟨⟨(some ⟨g,0,none⟩,i,sc),rfl,by
     have e1 : l.take n = l := List.take_of_length_le (by rw [HN.out]; exact Nat.le_refl _)
     have e2 := ST.out.lo
     rw [e1] at e2
     rw [← e2]
     exact h1⟩,h3 B w BG.out BE.out,⟨fun q hq hne => (h2.1 q (Nat.lt_of_lt_of_le hq OF.out.2) (fun e => hne (by rw [e]; rfl))).trans (OF.out.1 q hq hne),Nat.le_trans OF.out.2 h2.2⟩⟩)
    clear h1 h2 h3 hlt
    go_wp2_with (first | (at_builtin; refine wpList_clear_run rfl _ _ 23 rfl rfl rfl hr ?_) | fail)
    go_ret
    exact Q.out
abbrev keyT (x : XEn) : XID := (x.1,x.2.1)
theorem flatN_all : ∀ (l : List XEn) (k : Nat) (x : XEn),k < l.length → flat EN (l.set k x) = ((((((((flat EN l).set (k * 7) (.int .i64 x.1)).set (k * 7 + 1) (.int .i64 x.2.1)).set (k * 7 + 2) (.int .i64 x.2.2.1)).set (k * 7 + 3) (.int .i64 x.2.2.2.1)).set (k * 7 + 4) (slv x.2.2.2.2.1)).set (k * 7 + 5) (.int .i64 x.2.2.2.2.2.1)).set (k * 7 + 6) (.bool x.2.2.2.2.2.2))
 | [],k,x,h => by simp at h
 | y :: r,0,x,_ => rfl
 | y :: r,k + 1,x,h => by
  have ih := flatN_all r k x (by simpa using h)
  rw [show (k + 1) * 7 + 6 = (k * 7 + 6) + 1 + 1 + 1 + 1 + 1 + 1 + 1 by omega,show (k + 1) * 7 + 5 = (k * 7 + 5) + 1 + 1 + 1 + 1 + 1 + 1 + 1 by omega,show (k + 1) * 7 + 4 = (k * 7 + 4) + 1 + 1 + 1 + 1 + 1 + 1 + 1 by omega,show (k + 1) * 7 + 3 = (k * 7 + 3) + 1 + 1 + 1 + 1 + 1 + 1 + 1 by omega,show (k + 1) * 7 + 2 = (k * 7 + 2) + 1 + 1 + 1 + 1 + 1 + 1 + 1 by omega,show (k + 1) * 7 + 1 = (k * 7 + 1) + 1 + 1 + 1 + 1 + 1 + 1 + 1 by omega,show (k + 1) * 7 = (k * 7) + 1 + 1 + 1 + 1 + 1 + 1 + 1 by omega]
  simp only [List.set_cons_succ,flat,EN,cellsN,List.cons_append,List.nil_append] at ih ⊢
  rw [ih]
theorem stoN {w : World} {B g n cap k : Nat} {l : List XEn} (x : XEn) (h : Own EN w B (.slice (some ⟨g,0,none⟩) n cap) l) (hk : k < l.length) :
  StoQ EN B g (.slice (some ⟨g,0,none⟩) n cap) (l.set k x) w (((((((w.setCell ⟨g,k * 7,none⟩ (.int .i64 x.1)).setCell ⟨g,k * 7 + 1,none⟩ (.int .i64 x.2.1)).setCell ⟨g,k * 7 + 2,none⟩ (.int .i64 x.2.2.1)).setCell ⟨g,k * 7 + 3,none⟩ (.int .i64 x.2.2.2.1)).setCell ⟨g,k * 7 + 4,none⟩ (slv x.2.2.2.2.1)).setCell ⟨g,k * 7 + 5,none⟩ (.int .i64 x.2.2.2.2.2.1)).setCell ⟨g,k * 7 + 6,none⟩ (.bool x.2.2.2.2.2.2)) := by
 have hln := own_row_len h
 subst hln
 have h : w.ownsRow B 66 7 (.slice (some ⟨g,0,none⟩) l.length cap) l.length (flat EN l) := h
 have s1 := (h.stored (k * 7) (.int .i64 x.1)).1
 have s2 := (s1.stored (k * 7 + 1) (.int .i64 x.2.1)).1
 have s3 := (s2.stored (k * 7 + 2) (.int .i64 x.2.2.1)).1
 have s4 := (s3.stored (k * 7 + 3) (.int .i64 x.2.2.2.1)).1
 have s5 := (s4.stored (k * 7 + 4) (slv x.2.2.2.2.1)).1
 have s6 := (s5.stored (k * 7 + 5) (.int .i64 x.2.2.2.2.2.1)).1
 have s7 := (s6.stored (k * 7 + 6) (.bool x.2.2.2.2.2.2)).1
 refine ⟨?_,(((((((but_cell _ g _ _).trans (but_cell _ g _ _)).trans (but_cell _ g _ _)).trans (but_cell _ g _ _)).trans (but_cell _ g _ _)).trans (but_cell _ g _ _)).trans (but_cell _ g _ _)),fun B' W hB hb => (((((((hb.setCell (p := ⟨g,_,none⟩) hB _).setCell (p := ⟨g,_,none⟩) hB _).setCell (p := ⟨g,_,none⟩) hB _).setCell (p := ⟨g,_,none⟩) hB _).setCell (p := ⟨g,_,none⟩) hB _).setCell (p := ⟨g,_,none⟩) hB _).setCell (p := ⟨g,_,none⟩) hB _)⟩
 have e := flatN_all l k x hk
 show World.ownsRow _ B 66 7 _ (l.set k x).length (flat EN (l.set k x))
 rw [e,List.length_set]
 exact s7
theorem cloN_any (x : XEn) (b2 : Nat) (c d : Int) (r : Bool) (hr : decide (keyT x = (c,d)) = r) (w : World) (h : Box w b2 #[.int .i64 c,.int .i64 d] 31) : Calls Tryz.prog 99 #[valN x,.pointer (some ⟨b2,0,none⟩)] w fun e w' => e = .returned (.bool r) ∧ Below w.heap.size w w' := by
 obtain ⟨y1,y2,y3,y4,⟨yo,yn,yc⟩,y6,y7⟩ := x
 have n0 := newB w (.cells #[.int .i64 y1,.int .i64 y2,.int .i64 y3,.int .i64 y4,.slice yo yn yc,.int .i64 y6,.bool y7] 66)
 have hx := box_new w #[.int .i64 y1,.int .i64 y2,.int .i64 y3,.int .i64 y4,.slice yo yn yc,.int .i64 y6,.bool y7] 66
 have x1 := hx.cell 1
 have x0 := hx.cell 0
 obtain ⟨z0,z1⟩ := (h.on n0).cs2
 simp only [List.getElem?_toArray,List.getElem?_cons_zero,List.getElem?_cons_succ] at x0 x1
 have he := eqId y1 y2 c d r (by
  rw [← hr]
  by_cases h1 : y1 = c <;> by_cases h2 : y2 = d <;> simp [h1,h2])
 have N0 := Lib.hid n0
 clear n0 hx h hr
 go_enter Tryz.func99,Tryz.ntmps99
 go_wp2
 go_ret
 exact ⟨rfl,N0.out⟩
theorem ixfN_any (v : Sl) (l : List XEn) (b2 : Nat) (c d : Int) (w : World) (hs : Row EN w (slv v) l) (hb2 : Box w b2 #[.int .i64 c,.int .i64 d] 31) :
  Calls Tryz.prog 149 #[slv v,.func (.func 99) #[] #[.pointer (some ⟨b2,0,none⟩)]] w fun e w' => e = .returned (.int .i64 (findI (l.map keyT) (c,d))) ∧ Below w.heap.size w w' := by
 obtain ⟨so,sn,sc⟩ := v
 obtain ⟨ao,ac,hv⟩ := hs.len
 have hv : Value.slice so sn sc = .slice ao l.length ac := hv
 obtain ⟨rfl,rfl,rfl⟩ : so = ao ∧ sn = l.length ∧ sc = ac := by simpa using hv
 have HS := Lib.hid hs
 have X2 := Lib.hid hb2
 have lm := hs.most
 unfold maxLen at lm
 obtain ⟨n,hn⟩ : ∃ n,n = l.length := ⟨_,rfl⟩
 rw [← hn] at HS lm ⊢
 have HN := Lib.hid hn.symm
 clear hb2 hs hv hn
 go_enter Tryz.func149,Tryz.ntmps149
 go_wp2
 go_loopw [8] (fun i wr => ∃ k : Nat,k ≤ n ∧ i = .int .i64 k ∧ Below w.heap.size w wr ∧ ∀ (j : Nat) (y : XEn),j < k → l[j]? = some y → keyT y ≠ (c,d)) (fun i _ => n - (intOf i).toNat)
 case atStart => exact ⟨0,Nat.zero_le _,rfl,Below.refl _ _,fun j y h => by omega⟩
 case round =>
  obtain ⟨k,hk,rfl,hbe,hall⟩ := hrel
  have BE := Lib.hid hbe
  have AL := Lib.hid hall
  clear hbe hall
  by_cases hlt : k < n
  ·obtain ⟨y,hy⟩ : ∃ y,l[k]? = some y := ⟨_,List.getElem?_eq_getElem (by rw [HN.out]; exact hlt)⟩
   obtain ⟨p,ix,px⟩ := elN HS.out rfl HN.out hy
   obtain ⟨p0,p1,p2,p3,p4,p5,p6⟩ := px wr BE.out
   obtain ⟨r,hr⟩ : ∃ r,decide (keyT y = (c,d)) = r := ⟨_,rfl⟩
   have CL := Lib.hid (cloN_any y b2 c d r hr wr (X2.out.on BE.out))
   have HY := Lib.hid hy
   have HR := Lib.hid hr
   obtain ⟨y1,y2,y3,y4,⟨yo,yn,yc⟩,y6,y7⟩ := y
   simp only at p0 p1 p2 p3 p4 p5 p6
   have hw3 : IntKind.i64.wrap ((k : Int) + 1) = (k : Int) + 1 := IntWalk.i64_in _ (by omega)
   clear px hy hr
   go_wp2_with fail
   refine CL.out.mono ?_
   rintro e w1 ⟨rfl,hb⟩
   have B1 := Lib.hid (BE.out.trans (hb.mono BE.out.size))
   clear hb CL ix p0 p1 p2 p3 p4 p5 p6
   cases r
   ·go_wp2
    go_roundw
    case rel => exact ⟨k + 1,by omega,by go_num,B1.out,fun j y' hj h1 => by
     rcases Nat.lt_or_ge j k with h3 | h3
     ·exact AL.out j y' h3 h1
     ·obtain rfl : j = k := by omega
      have e1 := HY.out
      rw [h1] at e1
      rw [Option.some.inj e1]
      exact of_decide_eq_false HR.out⟩
    case measure => simp [intOf]; omega
   ·go_wp2
    go_ret
    exact ⟨by rw [findI_at (l.map keyT) k (c,d) (by rw [List.getElem?_map,HY.out]; exact congrArg some (of_decide_eq_true HR.out)) (fun j z hj hz => by
     rw [List.getElem?_map] at hz
     cases hz2 : l[j]? with
     | none => rw [hz2] at hz; cases hz
     | some u => rw [hz2] at hz; rw [← Option.some.inj hz]; exact AL.out j u hj hz2)]; rfl,B1.out⟩
  ·obtain rfl : k = n := by omega
   go_wp2
   go_ret
   exact ⟨by rw [findI_none (l.map keyT) (c,d) (fun j z hz => by
     rw [List.getElem?_map] at hz
     cases hz2 : l[j]? with
     | none => rw [hz2] at hz; cases hz
     | some u => rw [hz2] at hz; rw [← Option.some.inj hz]; exact AL.out j u (by rw [← HN.out]; exact (List.getElem?_eq_some_iff.1 hz2).1) hz2)]; rfl,BE.out⟩
abbrev keepN (c d : Int) (x : XEn) : Bool := decide (keyT x ≠ (c,d))
theorem delN_any (B : Nat) (v : Sl) (l : List XEn) (b2 : Nat) (c d : Int) (w : World) (ho : Own EN w B (slv v) l) (hb2 : Box w b2 #[.int .i64 c,.int .i64 d] 31) (hB : B ≤ w.heap.size) :
  Calls Tryz.prog 98 #[slv v,.func (.func 99) #[] #[.pointer (some ⟨b2,0,none⟩)]] w fun e w' => (∃ v' : Sl,e = .returned (slv v') ∧ Own EN w' B (slv v') (l.filter (keepN c d))) ∧ Below B w w' ∧ Off (slv v).ownBlock w w' := by
 obtain ⟨so,sn,sc⟩ := v
 obtain ⟨ao,ac,hv⟩ := (Row.of_own ho).len
 have hv : Value.slice so sn sc = .slice ao l.length ac := hv
 obtain ⟨rfl,rfl,rfl⟩ : so = ao ∧ sn = l.length ∧ sc = ac := by simpa using hv
 have IX := Lib.hid (ixfN_any (so,l.length,sc) l b2 c d w (Row.of_own ho) hb2)
 have HO := Lib.hid ho
 have X2 := Lib.hid hb2
 have lm := (Row.of_own ho).most
 unfold maxLen at lm
 have BZ := Lib.hid (show w.heap.size ≤ w.heap.size from Nat.le_refl _)
 obtain ⟨n,hn⟩ : ∃ n,n = l.length := ⟨_,rfl⟩
 rw [← hn] at HO lm IX ⊢
 have HN := Lib.hid hn.symm
 obtain ⟨q,hq⟩ : ∃ q,findI (l.map keyT) (c,d) = q := ⟨_,rfl⟩
 rw [hq] at IX
 have HQ := Lib.hid hq
 have HB := Lib.hid hB
 have LB := Lib.hid (show ∀ g,(slv (so,n,sc)).ownBlock = some g → B ≤ g from fun g hg => (HO.out.lt g hg).1)
 clear hb2 ho hv hn hB
 by_cases hneg : q = -1
 ·subst hneg
  go_enter Tryz.func98,Tryz.ntmps98
  go_wp2_with fail
  refine IX.out.mono ?_
  rintro e w1 ⟨rfl,hb⟩
  have FE := Lib.hid (show l.filter (keepN c d) = l from by
   rw [List.filter_eq_self]
   intro y hy
   obtain ⟨j,hj⟩ := List.mem_iff_getElem?.1 hy
   exact decide_eq_true (findI_neg hq j y hj))
  have BH := Lib.hid hb
  clear hb hq
  go_wp2
  go_ret
  exact ⟨⟨(so,n,sc),rfl,by rw [FE.out]; exact Bk.own_on HO.out BH.out⟩,BH.out.mono HB.out,fun j hj _ => BH.out.block j hj,BH.out.size⟩
 ·obtain ⟨k,rfl⟩ : ∃ k : Nat,q = k := ⟨q.toNat,by have := findI_bd (l.map keyT) (c,d); omega⟩
  obtain ⟨g1,g2⟩ := findI_get hq
  obtain ⟨x,hx,hxk⟩ : ∃ x,l[k]? = some x ∧ keyT x = (c,d) := by
   rw [List.getElem?_map] at g1
   cases hz : l[k]? with
   | none => rw [hz] at g1; cases g1
   | some x => rw [hz] at g1; exact ⟨x,rfl,Option.some.inj g1⟩
  have ST0 := Lib.hid (filter_first (keep := keepN c d) hx (decide_eq_false (by simp [hxk])) (fun j y hj hy => decide_eq_true (g2 j (keyT y) hj (by rw [List.getElem?_map,hy]; rfl))))
  have hkl : k < n := by rw [← HN.out]; exact (List.getElem?_eq_some_iff.1 hx).1
  obtain ⟨g,rfl,hBg⟩ : ∃ g,so = some ⟨g,0,none⟩ ∧ B ≤ g := own_some HO.out (show 0 < n by omega)
  have BG := Lib.hid hBg
  have TG := Lib.hid (tag_own HO.out)
  have hcap : n ≤ sc := by
   rcases own_open HO.out with ⟨h1,_⟩ | ⟨g',c',cur,h1,h2,h3,h4,h5,h6,h7⟩
   ·cases h1
   ·have e1 : sc = c' := by simpa using congrArg (fun v => match v with | Value.slice _ _ c => c | _ => 0) h1
    have := HN.out
    omega
  have hw0 : IntKind.i64.wrap ((k : Int) + 1) = (k : Int) + 1 := IntWalk.i64_in _ (by omega)
  have hk1 : ((k : Int) == -1) = false := by rw [beq_eq_false_iff_ne]; omega
  clear hq g1 g2 hx hxk x hneg hBg LB
  go_enter Tryz.func98,Tryz.ntmps98
  go_wp2_with fail
  refine IX.out.mono ?_
  rintro e w1 ⟨rfl,hb⟩
  have O1 := Lib.hid (Bk.own_on HO.out hb)
  have B1 := Lib.hid (hb.mono HB.out)
  have F1 := Lib.hid (show Off (some g) w w1 from ⟨fun j hj _ => hb.block j hj,hb.size⟩)
  clear hb IX
  go_wp2
  clear hw0 hk1
  go_loopw [5,6] (fun s5 s6 wr => ∃ (i j : Nat) (L : List XEn),s5 = .int .i64 i ∧ s6 = .int .i64 j ∧ j ≤ n ∧ DelSt (keepN c d) l i j L ∧ Own EN wr B (.slice (some ⟨g,0,none⟩) n sc) L ∧ Below B w wr ∧ Off (some g) w wr) (fun _ s6 _ => n - (intOf s6).toNat)
  case atStart => exact ⟨k,k + 1,l,rfl,by go_num,by omega,ST0.out,O1.out,B1.out,F1.out⟩
  case round =>
   obtain ⟨i,j,L,rfl,rfl,hj,hst,how,hbe,hof⟩ := hrel
   have ST := Lib.hid hst
   have OW := Lib.hid how
   have BE := Lib.hid hbe
   have OF := Lib.hid hof
   have hij := hst.lt
   have LN := Lib.hid (show L.length = n from hst.len.trans HN.out)
   clear hst how hbe hof O1 B1 F1 ST0
   by_cases hlt : j < n
   ·obtain ⟨y,hy⟩ : ∃ y,l[j]? = some y := ⟨_,List.getElem?_eq_getElem (by rw [HN.out]; exact hlt)⟩
    have hyL : L[j]? = some y := by rw [ST.out.at,hy]
    obtain ⟨p,ix,px⟩ := elN (Row.of_own OW.out) rfl LN.out hyL
    obtain ⟨p0,p1,p2,p3,p4,p5,p6⟩ := px wr (Below.refl _ _)
    obtain ⟨r,hr⟩ : ∃ r,decide (keyT y = (c,d)) = r := ⟨_,rfl⟩
    have HY := Lib.hid hy
    have hw3 : IntKind.i64.wrap ((j : Int) + 1) = (j : Int) + 1 := IntWalk.i64_in _ (by omega)
    have hw5 : IntKind.i64.wrap ((i : Int) + 1) = (i : Int) + 1 := IntWalk.i64_in _ (by omega)
    obtain ⟨z,hz⟩ : ∃ z,L[i]? = some z := ⟨_,List.getElem?_eq_getElem (by rw [LN.out]; omega)⟩
    have HZ := Lib.hid hz
    have X2w := OF.out.box X2.out TG.out (by decide)
    have CLO := cloN_any y b2 c d r hr
    have KP := Lib.hid (show keepN c d y = !r from by rw [← hr]; simp [keepN])
    obtain ⟨y1,y2,y3,y4,⟨yo,yn,yc⟩,y6,y7⟩ := y
    simp only at p0 p1 p2 p3 p4 p5 p6
    have NB := Lib.hid (newB wr (.cells #[.int .i64 y1,.int .i64 y2,.int .i64 y3,.int .i64 y4,.slice yo yn yc,.int .i64 y6,.bool y7] 66))
    have CL := Lib.hid (CLO _ (X2w.on NB.out))
    clear hy hyL px hr hz CLO X2w
    go_wp2_with fail
    refine CL.out.mono ?_
    rintro e w2 ⟨rfl,hb⟩
    have BB := Lib.hid (NB.out.trans (hb.mono NB.out.size))
    have Y7 := (box_new wr #[.int .i64 y1,.int .i64 y2,.int .i64 y3,.int .i64 y4,.slice yo yn yc,.int .i64 y6,.bool y7] 66).on hb
    obtain ⟨q0,q1,q2,q3,q4,q5,q6⟩ := Y7.cs7
    have O2 := Lib.hid (Bk.own_on OW.out BB.out)
    clear hb CL ix p0 p1 p2 p3 p4 p5 p6 Y7
    cases r
    ·have ix := index_own okN g i n sc (by omega)
     have ix : ∀ w,(Instr.indexAt 25 (.slice (some ⟨g,0,none⟩) n sc) (.int .i64 i)).run Tryz.prog w = .ok (.pointer (some ⟨g,i * 7,none⟩)) w := ix
     have ca := own_row_at okN O2.out HZ.out w2 (Below.refl _ _)
     have ce0 := ca 0 _ rfl
     have ce1 := ca 1 _ rfl
     have ce2 := ca 2 _ rfl
     have ce3 := ca 3 _ rfl
     have ce4 := ca 4 _ rfl
     have ce5 := ca 5 _ rfl
     have ce6 := ca 6 _ rfl
     simp [Addr.add,EN] at ce0 ce1 ce2 ce3 ce4 ce5 ce6
     obtain ⟨cur,hbx⟩ := own_tag O2.out
     have f := fun j => hbx.fr j
     have gl := hbx.lt
     have SQ : StoQ EN B g (.slice (some ⟨g,0,none⟩) n sc) (L.set i (y1,y2,y3,y4,(yo,yn,yc),y6,y7)) w2 (((((((w2.setCell ⟨g,i * 7,none⟩ (.int .i64 y1)).setCell ⟨g,i * 7 + 1,none⟩ (.int .i64 y2)).setCell ⟨g,i * 7 + 2,none⟩ (.int .i64 y3)).setCell ⟨g,i * 7 + 3,none⟩ (.int .i64 y4)).setCell ⟨g,i * 7 + 4,none⟩ (.slice yo yn yc)).setCell ⟨g,i * 7 + 5,none⟩ (.int .i64 y6)).setCell ⟨g,i * 7 + 6,none⟩ (.bool y7)) := stoN (y1,y2,y3,y4,(yo,yn,yc),y6,y7) O2.out (by rw [LN.out]; omega)
     have SQ := Lib.hid SQ
     clear hbx ca
     go_upto_region 10 with fail
     generalize (((((((w2.setCell ⟨g,i * 7,none⟩ (.int .i64 y1)).setCell ⟨g,i * 7 + 1,none⟩ (.int .i64 y2)).setCell ⟨g,i * 7 + 2,none⟩ (.int .i64 y3)).setCell ⟨g,i * 7 + 3,none⟩ (.int .i64 y4)).setCell ⟨g,i * 7 + 4,none⟩ (.slice yo yn yc)).setCell ⟨g,i * 7 + 5,none⟩ (.int .i64 y6)).setCell ⟨g,i * 7 + 6,none⟩ (.bool y7)) = w3 at *
     clear f gl ce0 ce1 ce2 ce3 ce4 ce5 ce6 ix
     go_wp2
     go_roundw
     case rel => exact ⟨i + 1,j + 1,L.set i (y1,y2,y3,y4,(yo,yn,yc),y6,y7),by go_num,by go_num,by omega,ST.out.keep HY.out KP.out,SQ.out.1,SQ.out.2.2 B w BG.out (BE.out.trans (BB.out.mono (Nat.le_trans HB.out OF.out.2))),⟨fun q hq hne => (SQ.out.2.1.1 q (Nat.lt_of_lt_of_le (Nat.lt_of_lt_of_le hq OF.out.2) BB.out.size) (fun e => hne (by rw [e]))).trans ((BB.out.block q (Nat.lt_of_lt_of_le hq OF.out.2)).trans (OF.out.1 q hq hne)),Nat.le_trans OF.out.2 (Nat.le_trans BB.out.size SQ.out.2.1.2)⟩⟩
     case measure => simp [intOf]; omega
    ·go_wp2
     go_roundw
     case rel => exact ⟨i,j + 1,L,rfl,by go_num,by omega,ST.out.skip HY.out KP.out,O2.out,BE.out.trans (BB.out.mono (Nat.le_trans HB.out OF.out.2)),⟨fun q hq hne => (BB.out.block q (Nat.lt_of_lt_of_le hq OF.out.2)).trans (OF.out.1 q hq hne),Nat.le_trans OF.out.2 BB.out.size⟩⟩
     case measure => simp [intOf]; omega
   ·obtain rfl : n = j := by omega
    obtain ⟨W',hr,h1,h2,h3⟩ := clear_own okN (by decide) OW.out hij (ty := 0)
    have sh := cut_hi (E := EN) okN g i n sc (by omega) (by omega)
    have sl := slice_lo (E := EN) okN ⟨g,0,none⟩ i n sc (by omega)
    have sh : ∀ w,(Instr.sliceAt 25 (.slice (some ⟨g,0,none⟩) n sc) (some (.int .i64 i)) none none).run Tryz.prog w = .ok (.slice (some ⟨g,i * 7,none⟩) (n - i) (sc - i)) w := sh
    have sl : ∀ w,(Instr.sliceAt 25 (.slice (some ⟨g,0,none⟩) n sc) none (some (.int .i64 i)) none).run Tryz.prog w = .ok (.slice (some ⟨g,0,none⟩) i sc) w := sl
    have hr : (Builtin.clear_ #[25] 0 #[.slice (some ⟨g,i * 7,none⟩) (n - i) (sc - i)]).run Tryz.prog wr = .ok (.tuple #[]) W' := hr
    have Q := Lib.hid (show (∃ v' : Sl,Ending.returned (.slice (some ⟨g,0,none⟩) i sc) = .returned (slv v') ∧ Own EN W' B (slv v') (l.filter (keepN c d))) ∧ Below B w W' ∧ Off (slv (some ⟨g,0,none⟩,n,sc)).ownBlock w W' from ⟨⟨(some ⟨g,0,none⟩,i,sc),rfl,by
     have e1 : l.take n = l := List.take_of_length_le (by rw [HN.out]; exact Nat.le_refl _)
     have e2 := ST.out.lo
     rw [e1] at e2
     rw [← e2]
     exact h1⟩,h3 B w BG.out BE.out,⟨fun q hq hne => (h2.1 q (Nat.lt_of_lt_of_le hq OF.out.2) (fun e => hne (by rw [e]; rfl))).trans (OF.out.1 q hq hne),Nat.le_trans OF.out.2 h2.2⟩⟩)
    clear h1 h2 h3 hlt
    go_wp2_with (first | (at_builtin; refine wpList_clear_run rfl _ _ 25 rfl rfl rfl hr ?_) | fail)
    go_ret
    exact Q.out
def lrn4V (B : Nat) (b1 _b2 : Nat) (_me : Int) (_z1 : Value) (o2 : Option Addr) (n2 c2 : Nat) (_z3 _z4 _z5 : Value) (y1 y2 : Int) (yo : Option Addr) (yn yc : Nat) (y4 : Int) (p : List C5) (i : Nat) (v : Value) (x : World) : Prop :=
 match i with
 | 0 => v = .pointer (some ⟨b1,2,none⟩)
 | 1 => v = .slice o2 n2 c2
 | 2 => v = .agg #[.int .i64 y1,.int .i64 y2,.slice yo yn yc,.int .i64 y4]
 | 3 => ∃ s : Sl,v = valD (y1,y2,s,y4) ∧ OwnC x B (slv s) p
 | _ => True
noncomputable def lrn4C : Code := ((Tryz.f35.body.bind (findRegion 4)).getD .skip)
theorem lrn4V_on (B : Nat) (b1 b2 : Nat) (me : Int) (z1 : Value) (o2 : Option Addr) (n2 c2 : Nat) (z3 z4 z5 : Value) (y1 y2 : Int) (yo : Option Addr) (yn yc : Nat) (y4 : Int) (p : List C5) (i : Nat) (v : Value) (x x' : World) (h : lrn4V B b1 b2 me z1 o2 n2 c2 z3 z4 z5 y1 y2 yo yn yc y4 p i v x) (hb : Below x.heap.size x x') : lrn4V B b1 b2 me z1 o2 n2 c2 z3 z4 z5 y1 y2 yo yn yc y4 p i v x' := by
 by_cases hi : i < 4
 ·rcases (by omega : i = 0 ∨ i = 1 ∨ i = 2 ∨ i = 3) with rfl | rfl | rfl | rfl
  ·exact h
  ·exact h
  ·exact h
  ·obtain ⟨s,h1,h2⟩ := h; exact ⟨s,h1,Bk.own_on h2 hb⟩
 ·unfold lrn4V
  split <;> first | omega | trivial
theorem lrn4 (Q : Exit → Act → World → Prop) (W : World) (B0 : Nat) (l : List XAd) (b1 b2 : Nat) (me : Int) (z1 : Value) (o2 : Option Addr) (n2 c2 : Nat) (z3 z4 z5 : Value) (y1 y2 : Int) (yo : Option Addr) (yn yc : Nat) (y4 : Int) (p : List C5) (u0 u1 u4 u5 u6 u7 u8 u9 u10 u11 u12 u13 u14 u15 u16 u17 u18 u19 u20 u21 u22 u23 u24 u25 : Value)
  (h1 : Box W b1 #[.int .i64 me,z1,.slice o2 n2 c2,z3,z4,z5] 28) (h2 : Box W b2 #[.int .i64 y1,.int .i64 y2,.slice yo yn yc,.int .i64 y4] 74) (ho : OwnD W B0 (.slice o2 n2 c2) l) (hr : RiseK keyD l) (hl : l.length ≤ 900) (hB : B0 ≤ W.heap.size) (hb0 : b1 < B0) (hp : RowC W (.slice yo yn yc) p) (lp : p.length ≤ 900)
  (hQ : ∀ (w1 : World) (v13 v14 v15 v16 v17 v18 : Value) (s1 : Option Addr) (s2 s3 : Nat) (t1 : Option Addr) (t2 t3 : Nat),Box w1 b1 #[.int .i64 me,z1,.slice o2 n2 c2,z3,z4,z5] 28 → OwnD w1 B0 (.slice t1 t2 t3) (insAt l (placeK keyD l (y1,y2)) (y1,y2,(s1,s2,s3),y4)) → OwnC w1 W.heap.size (.slice s1 s2 s3) p → Off (slv (o2,n2,c2)).ownBlock W w1 → Below B0 W w1 → Q .normal ⟨(u0 :: u1 :: .pointer (some ⟨b1,0,none⟩) :: .pointer (some ⟨b2,0,none⟩) :: u4 :: u5 :: u6 :: u7 :: u8 :: u9 :: u10 :: u11 :: u12 :: v13 :: v14 :: v15 :: v16 :: v17 :: v18 :: u19 :: u20 :: u21 :: u22 :: u23 :: u24 :: u25 :: []).toArray,[]⟩ (w1.setCell ⟨b1,2,none⟩ (.slice t1 t2 t3))) :
  Code.wp Tryz.prog lrn4C Q ⟨(u0 :: u1 :: .pointer (some ⟨b1,0,none⟩) :: .pointer (some ⟨b2,0,none⟩) :: u4 :: u5 :: u6 :: u7 :: u8 :: u9 :: u10 :: u11 :: u12 :: u13 :: u14 :: u15 :: u16 :: u17 :: u18 :: u19 :: u20 :: u21 :: u22 :: u23 :: u24 :: u25 :: []).toArray,[]⟩ W := by
 have HQ := Lib.hid hQ
 have H1 := Lib.hid h1
 have H2 := Lib.hid h2
 have HO := Lib.hid ho
 have HR := Lib.hid hr
 have HL := Lib.hid hl
 have HB := Lib.hid hB
 have H0 := Lib.hid hb0
 have HP := Lib.hid hp
 have LP := Lib.hid lp
 clear hQ h1 h2 ho hr hl hB hb0 hp lp
 have stab := lrn4V_on W.heap.size b1 b2 me z1 o2 n2 c2 z3 z4 z5 y1 y2 yo yn yc y4 p
 unfold lrn4C
 conv => arg 2; whnf
 have nd : ∀ j,(j < 13 ∨ 17 ≤ j) → ∀ i,i < 4 → (fun i => 13 + i) i ≠ j := by
  intro j hj i hi h
  simp only at h
  omega
 refine Rg.region_live 7 4 (fun i => 13 + i) (fun _ => 4) (lrn4V W.heap.size b1 b2 me z1 o2 n2 c2 z3 z4 z5 y1 y2 yo yn yc y4 p) (by kernel_rfl) (by kernel_rfl) rfl (by decide) (fun i j _ _ h => by have h2 : 13 + i = 13 + j := h; omega) (fun i hi => by show 13 + i < 26; omega) ?_ (fun _ => Rg.hall_of 14 (by kernel_rfl)) ?_ ?_
 ·intro i o hi ho a x D hnd hc hD hb seen K hK
  clear HQ
  rcases (by omega : i = 0 ∨ i = 1 ∨ i = 2 ∨ i = 3) with rfl | rfl | rfl | rfl
  ·obtain rfl := Option.some.inj ho
   have e2 : a.eval (.tmp 2) = .pointer (some ⟨b1,0,none⟩) := seen.kp 2 _ (nd 2 (by omega)) rfl
   exact Rg.op_value rfl rfl (Rg.ex_field a.eval _ 28 (.tmp 2) 2 rfl (by rw [e2]; simp [go_sem])) (hK _ _ rfl (Below.refl _ _) fun _ _ _ _ _ _ _ h => h)
  ·obtain rfl := Option.some.inj ho
   have e13 : a.eval (.tmp 13) = .pointer (some ⟨b1,2,none⟩) := seen.at_ ⟨0,.data⟩ (by simp) rfl (Or.inr (by decide))
   have y2 := (H1.out.on hb).cell 2
   simp only [List.getElem?_toArray,List.getElem?_cons_zero,List.getElem?_cons_succ] at y2
   exact Rg.op_value rfl rfl (Rg.ex_load a.eval _ 23 (.tmp 13) rfl (by rw [e13]; simp [go_sem,y2])) (hK _ _ rfl (Below.refl _ _) fun _ _ _ _ _ _ _ h => h)
  ·obtain rfl := Option.some.inj ho
   have e3 : a.eval (.tmp 3) = .pointer (some ⟨b2,0,none⟩) := seen.kp 3 _ (nd 3 (by omega)) rfl
   obtain ⟨y0,y1,y2,y3⟩ := (H2.out.on hb).cs4
   exact Rg.op_value rfl rfl (Rg.ex_load a.eval _ 74 (.tmp 3) rfl (by rw [e3]; simp [go_sem,y0,y1,y2,y3])) (hK _ _ rfl (Below.refl _ _) fun _ _ _ _ _ _ _ h => h)
  ·obtain rfl := Option.some.inj ho
   have e15 : a.eval (.tmp 15) = .agg #[.int .i64 y1,.int .i64 y2,.slice yo yn yc,.int .i64 y4] := seen.at_ ⟨2,.data⟩ (by simp) rfl (Or.inr (by decide))
   exact Rg.op_call rfl rfl (Rw.ex_call1 a.eval _ (.tmp 15) 74 79 rfl e15 rfl _ (call_fn Tryz.func79 rfl rfl _ _)) (cpAd_any (y1,y2,(yo,yn,yc),y4) p x (HP.out.on hb) LP.out) fun e w1 h => by
    obtain ⟨⟨s,rfl,h1⟩,h3⟩ := h
    exact ⟨_,rfl,hK _ _ ⟨s,rfl,own_fewer h1 hb.size⟩ (h3.mono hb.size) fun j u hj _ _ _ hne h => stab j u _ _ h h3⟩
 ·intro kk o h1 h2 ho
  rcases (by omega : kk = 5 ∨ kk = 6) with rfl | rfl
  ·obtain rfl := Option.some.inj ho
   exact ⟨⟨4,.phase⟩,by simp,rfl,rfl⟩
  ·obtain rfl := Option.some.inj ho
   exact ⟨⟨5,.data⟩,by simp,rfl,rfl⟩
 ·intro a w' df sz kp ⟨vs,hv⟩ hb
  have sz' : a.tmps.size = 26 := sz
  have g2 : a.tmps[2]? = some (.pointer (some ⟨b1,0,none⟩)) := (kp 2 (nd 2 (by omega))).trans rfl
  have g14 : a.tmps[14]? = some (.slice o2 n2 c2) := by
   have h : vs 1 = .slice o2 n2 c2 := (hv 1 (by omega)).2 (by decide)
   rw [← h]
   exact (hv 1 (by omega)).1
  obtain ⟨⟨s1,s2,s3⟩,hs,hc⟩ := (hv 3 (by omega)).2 (by decide)
  have g16 : a.tmps[16]? = some (valD (y1,y2,(s1,s2,s3),y4)) := ((hv 3 (by omega)).1).trans (congrArg some hs)
  have B1 := H1.out.on hb
  show Rg.SeqFrom _ _ _ 3 4 a w'
  simp only [Rg.SeqFrom]
  refine Rg.op_call rfl rfl (ex_call3g a.eval _ (.tmp 14) (.tmp 16) (.func 58) 23 74 106 92 rfl (Rg.eval_some g14) (Rg.eval_some g16) rfl rfl _ (call_fn Tryz.func92 rfl rfl _ _)) (putD_any B0 (o2,n2,c2) l (y1,y2,(s1,s2,s3),y4) w' (Bk.own_on HO.out hb) HR.out HL.out (Nat.le_trans HB.out hb.size)) fun e w1 h => ?_
  obtain ⟨⟨⟨t1,t2,t3⟩,rfl,hown⟩,hbel,hoth⟩ := h
  refine ⟨_,rfl,?_⟩
  have hp17 : (a.put (some 17) (.slice t1 t2 t3)).tmps[17]? = some (.slice t1 t2 t3) := by simp [Act.put,sz']
  show Go.wpOp _ _ _ 5 _ (a.put (some 17) (.slice t1 t2 t3)) _
  refine Rg.op_value rfl rfl (Rg.ex_field _ _ 28 (.tmp 2) 2 rfl (v := .pointer (some ⟨b1,2,none⟩)) (by rw [Rg.eval_some ((Rg.get_put _ 17 _ 2 (by decide)).trans g2)]; simp [go_sem])) ?_
  have hp18 : ((a.put (some 17) (.slice t1 t2 t3)).put (some 18) (.pointer (some ⟨b1,2,none⟩))).tmps[18]? = some (.pointer (some ⟨b1,2,none⟩)) := by simp [Act.put,sz']
  show Go.wpOp _ _ _ 6 _ ((a.put (some 17) (.slice t1 t2 t3)).put (some 18) (.pointer (some ⟨b1,2,none⟩))) _
  have B2 : Box w1 b1 _ _ := (hbel.block b1 H0.out).trans B1
  have cx := B2.cell 2
  have fx := B2.fr 2
  simp only [List.getElem?_toArray,List.getElem?_cons_zero,List.getElem?_cons_succ] at cx
  refine Rg.op_store 23 (.tmp 18) (.tmp 17) rfl rfl rfl rfl (Rg.eval_some hp18) (Rg.eval_some ((Rg.get_put _ 18 _ 17 (by decide)).trans hp17)) (w' := w1.setCell ⟨b1,2,none⟩ (.slice t1 t2 t3)) (by simp [go_sem,cx,fx]) ?_
  have of1 : Off (slv (o2,n2,c2)).ownBlock w' w1 := ⟨hoth,hbel.size⟩
  have of2 : Off (slv (o2,n2,c2)).ownBlock W w1 := ⟨fun j hj hne => (hoth j (Nat.lt_of_lt_of_le hj hb.size) hne).trans (hb.block j hj),Nat.le_trans hb.size hbel.size⟩
  have kp2 : ∀ j,(j < 13 ∨ 19 ≤ j) → ((a.put (some 17) (.slice t1 t2 t3)).put (some 18) (.pointer (some ⟨b1,2,none⟩))).tmps[j]? = (u0 :: u1 :: .pointer (some ⟨b1,0,none⟩) :: .pointer (some ⟨b2,0,none⟩) :: u4 :: u5 :: u6 :: u7 :: u8 :: u9 :: u10 :: u11 :: u12 :: u13 :: u14 :: u15 :: u16 :: u17 :: u18 :: u19 :: u20 :: u21 :: u22 :: u23 :: u24 :: u25 :: [])[j]? := fun j hj => (Rg.get_put _ 18 _ j (by omega)).trans ((Rg.get_put _ 17 _ j (by omega)).trans ((kp j (nd j (by omega))).trans List.getElem?_toArray))
  obtain ⟨mid,hmid,hfr⟩ := Rg.frame_mid (a := (a.put (some 17) (.slice t1 t2 t3)).put (some 18) (.pointer (some ⟨b1,2,none⟩))) 13 6 df (by simp [Rg.size_put,sz']) (by simp) kp2
  show Q .normal ((a.put (some 17) (.slice t1 t2 t3)).put (some 18) (.pointer (some ⟨b1,2,none⟩))) _
  rw [hfr]
  match mid,hmid with
  | [v13,v14,v15,v16,v17,v18],_ =>
   exact HQ.out w1 _ _ _ _ _ _ s1 s2 s3 t1 t2 t3 B2 hown (of1.own hc (tag_own (Bk.own_on HO.out hb)) (by decide)) of2 ((hb.mono HB.out).trans hbel)
abbrev RiseA (l : List Ad) : Prop := RiseK Ad.id l
abbrev RiseI (l : List XID) : Prop := RiseK (fun x : XID => x) l
def NearOwn (W : World) (nv : Sl) (l : List Int) : Prop := ∃ B,OwnI W B (slv nv) l
theorem NearOwn.on {W W' : World} {nv : Sl} {l : List Int} (h : NearOwn W nv l) (hb : Below W.heap.size W W') : NearOwn W' nv l := by obtain ⟨B,h⟩ := h; exact ⟨B,Bk.own_on h hb⟩
def BrC (W : World) (b : Br) (nv av sv ev ov : Sl) : Prop := ∃ (V : World) (B : Nat),Cp (vw V) B W b nv av sv ev ov
theorem BrC.on {W W' : World} {b : Br} {nv av sv ev ov : Sl} (h : BrC W b nv av sv ev ov) (hb : Below W.heap.size W W') : BrC W' b nv av sv ev ov := by
 obtain ⟨V,B,h⟩ := h
 exact ⟨V,B,h.grow hb⟩
theorem Cp.vbr {V wr : World} {B : Nat} {b : Br} {nv av sv ev ov : Sl} (h : Cp (vw V) B wr b nv av sv ev ov) : BrIn wr b nv av sv ev ov where
 near := Row.of_own h.near
 adv := by obtain ⟨l,h1,h2⟩ := h.adv; exact ⟨l,Row.of_own h1,h2.mono fun _ _ q => ⟨q.1,q.2.1,q.2.2.elim vw_row Row.of_own⟩⟩
 seen := Row.of_own h.seen
 ent := by obtain ⟨l,h1,h2⟩ := h.ent; exact ⟨l,Row.of_own h1,h2.mono fun _ _ q => ⟨q.1,q.2.1,q.2.2.1,q.2.2.2.1,q.2.2.2.2.elim vw_row Row.of_own⟩⟩
 own := by obtain ⟨l,h1,h2⟩ := h.own; exact ⟨l,Row.of_own h1,h2.mono fun _ _ q => ⟨q.1,q.2.elim vw_row Row.of_own⟩⟩
theorem BrC.br {W : World} {b : Br} {nv av sv ev ov : Sl} (h : BrC W b nv av sv ev ov) : BrIn W b nv av sv ev ov := by
 obtain ⟨V,B,h⟩ := h
 exact h.vbr
theorem BrC.no {W : World} {b : Br} {nv av sv ev ov : Sl} (h : BrC W b nv av sv ev ov) : NearOwn W nv b.near := by
 obtain ⟨V,B,h⟩ := h
 exact ⟨B,h.near⟩
theorem BrC.but2 {W W' : World} {b : Br} {nv av sv ev ov : Sl} (h : BrC W b nv av sv ev ov) {g : Nat} {d : Array Value} {t : TypeId} (hb : But g W W') (hg : Box W g d t) (h1 : (3 == t) = false) (h2 : (31 == t) = false) (h3 : (74 == t) = false) (h4 : (66 == t) = false) (h5 : (34 == t) = false) (h6 : (70 == t) = false) : BrC W' b nv av sv ev ov := by
 obtain ⟨V,B,h⟩ := h
 exact ⟨V,B,h.but2 hb hg h1 h2 h3 h4 h5 h6⟩
def LearnQ2 (W : World) (P R : Prop) (r : Br × Bool) (e : Ending) (w' : World) : Prop := (∃ nv av sv ev ov : Sl,e = .returned (.tuple #[brv r.1.me nv av sv ev ov,.bool r.2]) ∧ BrIn w' r.1 nv av sv ev ov ∧ (P → NearOwn w' nv r.1.near) ∧ (R ∨ r.2 = true → BrC w' r.1 nv av sv ev ov)) ∧ Below W.heap.size W w'
theorem learnB_in {b : Br} {a : Ad} (h : a.id ∈ b.seen) : learnB b a = (b,false) := by unfold learnB; rw [if_pos h]
theorem learnB_out {b : Br} {a : Ad} (h : ¬ a.id ∈ b.seen) : learnB b a = ({ b with seen := insAt b.seen (placeI b.seen a.id) a.id,adv := insAt b.adv (placeI (b.adv.map Ad.id) a.id) a },true) := by unfold learnB; rw [if_neg h]
theorem learn_own (b : Br) (a : Ad) (nv av sv ev ov : Sl) (x : XAd) (w : World) (h : BrIn w b nv av sv ev ov) (ha : AdIn w x a) (hf : Few b) (hp : FewP b) (hla : a.p.length ≤ 900) (hr1 : RiseI b.seen) (hr2 : RiseA b.adv) :
  Calls Tryz.prog 35 #[brv b.me nv av sv ev ov,valD x] w (LearnQ2 w (NearOwn w nv b.near) (BrC w b nv av sv ev ov) (learnB b a)) := by
 obtain ⟨no,nn,nc⟩ := nv
 obtain ⟨ao,an,ac⟩ := av
 obtain ⟨so,sn,sc⟩ := sv
 obtain ⟨eo,en,ec⟩ := ev
 obtain ⟨oo,on_,oc⟩ := ov
 obtain ⟨y1,y2,⟨yo,yn,yc⟩,y4⟩ := x
 obtain ⟨h0,h1,h2⟩ := two_new w #[.int .i64 b.me,.slice no nn nc,.slice ao an ac,.slice so sn sc,.slice eo en ec,.slice oo on_ oc] #[.int .i64 y1,.int .i64 y2,.slice yo yn yc,.int .i64 y4] 28 74
 have h3 := newB ((w.alloc (.cells #[.int .i64 b.me,.slice no nn nc,.slice ao an ac,.slice so sn sc,.slice eo en ec,.slice oo on_ oc] 28)).alloc (.cells #[.int .i64 y1,.int .i64 y2,.slice yo yn yc,.int .i64 y4] 74)) (.cells #[.int .i64 0,.slice none 0 0,.slice none 0 0,.slice none 0 0,.slice none 0 0,.slice none 0 0] 28)
 have h4 := box_new ((w.alloc (.cells #[.int .i64 b.me,.slice no nn nc,.slice ao an ac,.slice so sn sc,.slice eo en ec,.slice oo on_ oc] 28)).alloc (.cells #[.int .i64 y1,.int .i64 y2,.slice yo yn yc,.int .i64 y4] 74)) #[.int .i64 0,.slice none 0 0,.slice none 0 0,.slice none 0 0,.slice none 0 0,.slice none 0 0] 28
 have hsz : ((w.alloc (.cells #[.int .i64 b.me,.slice no nn nc,.slice ao an ac,.slice so sn sc,.slice eo en ec,.slice oo on_ oc] 28)).alloc (.cells #[.int .i64 y1,.int .i64 y2,.slice yo yn yc,.int .i64 y4] 74)).heap.size = w.heap.size + 1 + 1 := by simp
 rw [hsz] at h4
 have BB := Lib.hid (h0.trans (h3.mono h0.size))
 have X1 := Lib.hid (h1.on h3)
 have X2 := Lib.hid (h2.on h3)
 have X3 := Lib.hid h4
 have HH := Lib.hid h
 have HA := Lib.hid ha
 have HF := Lib.hid hf
 have HP := Lib.hid hp
 have LA := Lib.hid hla
 have R1 := Lib.hid hr1
 have R2 := Lib.hid hr2
 have ei : a.id = (y1,y2) := ha.1.symm
 have SW := Lib.hid (aseen_any b.me (.slice no nn nc) (.slice ao an ac) (.slice eo en ec) (.slice oo on_ oc) (so,sn,sc) b.seen (y1,y2) _ (h.seen.on BB.out))
 obtain ⟨r,hr⟩ : ∃ r,decide ((y1,y2) ∈ b.seen) = r := ⟨_,rfl⟩
 rw [hr] at SW
 have HR := Lib.hid hr
 have EI := Lib.hid ei
 obtain ⟨x0,x1,x2,x3,x4,x5⟩ := X1.out.cs6
 obtain ⟨d0,d1,d2,d3⟩ := X2.out.cs4
 obtain ⟨z0,z1,z2,z3,z4,z5⟩ := X3.out.cs6
 obtain ⟨t0,t1,t2,t3,t4,t5⟩ := X3.out.fs6
 have zz := X3.out.lt
 clear h0 h1 h2 h3 h4 hsz h ha hf hp hla hr1 hr2 hr ei
 go_enter Tryz.func35,Tryz.ntmps35
 go_wp2_with fail
 generalize ((w.alloc (.cells #[.int .i64 b.me,.slice no nn nc,.slice ao an ac,.slice so sn sc,.slice eo en ec,.slice oo on_ oc] 28)).alloc (.cells #[.int .i64 y1,.int .i64 y2,.slice yo yn yc,.int .i64 y4] 74)).alloc (.cells #[.int .i64 0,.slice none 0 0,.slice none 0 0,.slice none 0 0,.slice none 0 0,.slice none 0 0] 28) = W at *
 refine SW.out.mono ?_
 rintro e1 w1 ⟨rfl,hb⟩
 have B1 := Lib.hid (BB.out.trans (hb.mono BB.out.size))
 have Y1 := X1.out.on hb
 have Y2 := X2.out.on hb
 have Y3 := X3.out.on hb
 clear SW hb x0 x1 x2 x3 x4 x5 d0 d1 d2 d3 z0 z1 z2 z3 z4 z5 t0 t1 t2 t3 t4 t5 zz X1 X2 X3
 obtain ⟨x0,x1,x2,x3,x4,x5⟩ := Y1.cs6
 obtain ⟨z0,z1,z2,z3,z4,z5⟩ := Y3.cs6
 obtain ⟨t0,t1,t2,t3,t4,t5⟩ := Y3.fs6
 have zz := Y3.lt
 cases r
 ·have nin : ¬ a.id ∈ b.seen := by rw [EI.out]; exact of_decide_eq_false HR.out
  have LQ := Lib.hid (learnB_out nin)
  have Z1 := Lib.hid Y1
  have Z2 := Lib.hid Y2
  have Z3 := Lib.hid Y3
  have L1 := Lib.hid Y1.lt
  have L3 := Lib.hid (show w.heap.size + 1 < w1.heap.size from Y2.lt)
  clear z0 z1 z2 z3 z4 z5 t0 t1 t2 t3 t4 t5 zz nin
  go_wp2_with fail
  refine (acopy_own b (no,nn,nc) (ao,an,ac) (so,sn,sc) (eo,en,ec) (oo,on_,oc) w w1 B1.out HH.out HF.out HP.out).mono ?_
  rintro e2 w2 ⟨⟨⟨p1,q1,s1⟩,⟨p2,q2,s2⟩,⟨p3,q3,s3⟩,⟨p4,q4,s4⟩,⟨p5,q5,s5⟩,rfl,cp⟩,hb2⟩
  have V1 := Z1.out.on hb2
  have V2 := Lib.hid (Z2.out.on hb2)
  have V3 := Lib.hid (Z3.out.on hb2)
  clear x0 x1 x2 x3 x4 x5
  obtain ⟨x0,x1,x2,x3,x4,x5⟩ := V1.cs6
  obtain ⟨t0,t1,t2,t3,t4,t5⟩ := V1.fs6
  have zz := V1.lt
  have FB := Lib.hid (setB_box V1 (.int .i64 b.me) (.slice p1 q1 s1) (.slice p2 q2 s2) (.slice p3 q3 s3) (.slice p4 q4 s4) (.slice p5 q5 s5))
  have FC := Lib.hid (cp.but (but_setB w2 w.heap.size (.int .i64 b.me) (.slice p1 q1 s1) (.slice p2 q2 s2) (.slice p3 q3 s3) (.slice p4 q4 s4) (.slice p5 q5 s5)) V1)
  have FL := Lib.hid (setB_below (b := w.heap.size) (B1.out.trans (hb2.mono B1.out.size)) (Nat.le_refl _) (.int .i64 b.me) (.slice p1 q1 s1) (.slice p2 q2 s2) (.slice p3 q3 s3) (.slice p4 q4 s4) (.slice p5 q5 s5))
  have F2 := Lib.hid ((but_setB w2 w.heap.size (.int .i64 b.me) (.slice p1 q1 s1) (.slice p2 q2 s2) (.slice p3 q3 s3) (.slice p4 q4 s4) (.slice p5 q5 s5)).box V2.out (by omega))
  have F3 := Lib.hid ((but_setB w2 w.heap.size (.int .i64 b.me) (.slice p1 q1 s1) (.slice p2 q2 s2) (.slice p3 q3 s3) (.slice p4 q4 s4) (.slice p5 q5 s5)).box V3.out (by omega))
  have SZ := Lib.hid (show w1.heap.size ≤ (setB w2 w.heap.size (.int .i64 b.me) (.slice p1 q1 s1) (.slice p2 q2 s2) (.slice p3 q3 s3) (.slice p4 q4 s4) (.slice p5 q5 s5)).heap.size by have := hb2.size; simp; omega)
  have L2 := Lib.hid (show w.heap.size < w1.heap.size from L1.out)
  clear V1 V2 V3 cp hb2 Z1 Z2 Z3 L1
  go_upto_region 4 with fail
  clear x0 x1 x2 x3 x4 x5 t0 t1 t2 t3 t4 t5 zz
  unfold setB at FB FC FL F2 F3 SZ
  generalize ((((((w2).setCell ⟨w.heap.size,0,none⟩ (.int .i64 b.me)).setCell ⟨w.heap.size,1,none⟩ (.slice p1 q1 s1)).setCell ⟨w.heap.size,2,none⟩ (.slice p2 q2 s2)).setCell ⟨w.heap.size,3,none⟩ (.slice p3 q3 s3)).setCell ⟨w.heap.size,4,none⟩ (.slice p4 q4 s4)).setCell ⟨w.heap.size,5,none⟩ (.slice p5 q5 s5) = w3 at *
  obtain ⟨la,hla1,hla2⟩ := FC.out.adv
  have HL1 := Lib.hid hla1
  have HL2 := Lib.hid hla2
  have KE := Lib.hid (keys_eq hla2)
  clear hla1 hla2
  refine lrn4 _ w3 w1.heap.size la w.heap.size (w.heap.size + 1) b.me (.slice p1 q1 s1) p2 q2 s2 (.slice p3 q3 s3) (.slice p4 q4 s4) (.slice p5 q5 s5) y1 y2 yo yn yc y4 a.p _ _ _ _ _ _ _ _ _ _ _ _ _ _ _ _ _ _ _ _ _ _ _ _ FB.out F2.out HL1.out ?_ ?_ SZ.out L2.out (HA.out.2.2.on FL.out) LA.out ?_
  ·rw [riseK_map,KE.out,← riseK_map]; exact R2.out
  ·rw [HL2.out.len]; exact HF.out.adv
  intro w4 v13 v14 v15 v16 v17 v18 s1' s2' s3' t1 t2 t3 hbx hown hc hoff hbel
  have CP2 := Lib.hid (FC.out.offD (av' := (t1,t2,t3)) (al := insAt b.adv (placeI (b.adv.map Ad.id) a.id) a) hoff ⟨_,hown,by
   have hg := tag_own HL1.out
   have h2 := HL2.out.mono fun _ _ q => q.off hoff hg (by decide)
   have hk : placeK keyD la (y1,y2) = placeI (b.adv.map Ad.id) a.id := by rw [placeK_map,KE.out,EI.out]
   rw [← hk]
   exact all2_ins h2 _ ⟨HA.out.1,HA.out.2.1,Or.inr (own_fewer hc SZ.out)⟩⟩)
  have G2 := Lib.hid (show Box w4 (w.heap.size + 1) _ _ from (hbel.block _ L3.out).trans F2.out)
  have G3 := Lib.hid (show Box w4 (w.heap.size + 1 + 1) _ _ from hoff.box F3.out (tag_own HL1.out) (by decide))
  have G1 := Lib.hid (show Box (w4.setCell ⟨w.heap.size,2,none⟩ (.slice t1 t2 t3)) w.heap.size #[.int .i64 b.me,.slice p1 q1 s1,.slice t1 t2 t3,.slice p3 q3 s3,.slice p4 q4 s4,.slice p5 q5 s5] 28 by simpa using box_set (k := 2) hbx (.slice t1 t2 t3))
  have CP3 := Lib.hid (CP2.out.but (but_cell w4 w.heap.size 2 (.slice t1 t2 t3)) hbx)
  have G2' := Lib.hid ((but_cell w4 w.heap.size 2 (.slice t1 t2 t3)).box G2.out (by omega))
  have G3' := Lib.hid ((but_cell w4 w.heap.size 2 (.slice t1 t2 t3)).box G3.out (by omega))
  have GL := Lib.hid (show Below w.heap.size w (w4.setCell ⟨w.heap.size,2,none⟩ (.slice t1 t2 t3)) from (FL.out.trans (hbel.mono (Nat.le_of_lt L2.out))).setCell (p := ⟨w.heap.size,2,none⟩) (Nat.le_refl _) _)
  have GZ := Lib.hid (show w1.heap.size ≤ (w4.setCell ⟨w.heap.size,2,none⟩ (.slice t1 t2 t3)).heap.size by have := SZ.out; have := hbel.size; simp; omega)
  clear hbx hown hc hoff hbel CP2 G2 G3 FB FC F2 F3 FL SZ HL1 HL2 KE
  generalize w4.setCell ⟨w.heap.size,2,none⟩ (.slice t1 t2 t3) = w5 at *
  have x3 := G1.out.cell 3
  have d1 := G2'.out.cell 1
  have d0 := G2'.out.cell 0
  simp only [List.getElem?_toArray,List.getElem?_cons_zero,List.getElem?_cons_succ] at x3 d0 d1
  go_wp2_with fail
  refine (putJ_any w1.heap.size (p3,q3,s3) b.seen (y1,y2) w5 CP3.out.seen R1.out HF.out.seen GZ.out).mono ?_
  rintro e3 w6 ⟨⟨⟨r1,r2,r3⟩,rfl,hown⟩,hbel,hoth⟩
  have hoff : Off (slv (p3,q3,s3)).ownBlock w5 w6 := ⟨hoth,hbel.size⟩
  have CP4 := Lib.hid (CP3.out.offJ (sv' := (r1,r2,r3)) (sl := insAt b.seen (placeI b.seen a.id) a.id) hoff (by
   have hk : placeK keyJ b.seen (keyJ (y1,y2)) = placeI b.seen a.id := by rw [placeK_map,EI.out]; simp
   rw [← hk,EI.out]
   exact hown))
  have hg := tag_own CP3.out.seen
  have K1 := hoff.box G1.out hg (by decide)
  have K3 := hoff.box G3'.out hg (by decide)
  have KL := GL.out.trans (hbel.mono (Nat.le_of_lt L2.out))
  have M1 := Lib.hid (show Box (w6.setCell ⟨w.heap.size,3,none⟩ (.slice r1 r2 r3)) w.heap.size #[.int .i64 b.me,.slice p1 q1 s1,.slice t1 t2 t3,.slice r1 r2 r3,.slice p4 q4 s4,.slice p5 q5 s5] 28 by simpa using box_set (k := 3) K1 (.slice r1 r2 r3))
  have M3 := Lib.hid ((but_cell w6 w.heap.size 3 (.slice r1 r2 r3)).box K3 (by omega))
  have MC := Lib.hid (CP4.out.but (but_cell w6 w.heap.size 3 (.slice r1 r2 r3)) K1)
  have ML := Lib.hid (show Below w.heap.size w (w6.setCell ⟨w.heap.size,3,none⟩ (.slice r1 r2 r3)) from KL.setCell (p := ⟨w.heap.size,3,none⟩) (Nat.le_refl _) _)
  clear x3 d0 d1
  have x3 := K1.cell 3
  have t3 := K1.fr 3
  have zz := K1.lt
  simp only [List.getElem?_toArray,List.getElem?_cons_zero,List.getElem?_cons_succ] at x3
  clear hown hbel hoth hoff hg K1 K3 KL CP4 CP3 G1 G2' G3' GL GZ
  go_upto_region 6 with fail
  clear x3 t3 zz
  generalize w6.setCell ⟨w.heap.size,3,none⟩ (.slice r1 r2 r3) = w7 at *
  have U1 := M1.out
  have U3 := M3.out
  obtain ⟨x0,x1,x2,x3,x4,x5⟩ := U1.cs6
  obtain ⟨z0,z1,z2,z3,z4,z5⟩ := U3.cs6
  obtain ⟨f0,f1,f2,f3,f4,f5⟩ := U3.fs6
  have zz := U3.lt
  have FB := Lib.hid (setB_box U3 (.int .i64 b.me) (.slice p1 q1 s1) (.slice t1 t2 t3) (.slice r1 r2 r3) (.slice p4 q4 s4) (.slice p5 q5 s5))
  have FC := Lib.hid (MC.out.but (but_setB w7 (w.heap.size + 1 + 1) (.int .i64 b.me) (.slice p1 q1 s1) (.slice t1 t2 t3) (.slice r1 r2 r3) (.slice p4 q4 s4) (.slice p5 q5 s5)) U3)
  have FL := Lib.hid (setB_below (b := w.heap.size + 1 + 1) ML.out (by omega) (.int .i64 b.me) (.slice p1 q1 s1) (.slice t1 t2 t3) (.slice r1 r2 r3) (.slice p4 q4 s4) (.slice p5 q5 s5))
  clear U1 U3 M1 M3 MC ML
  go_wp2_with fail
  obtain ⟨v0,v1,v2,v3,v4,v5⟩ := FB.out.cs6
  refine bodyPost_ret (v := .tuple #[.agg #[.int .i64 b.me,.slice p1 q1 s1,.slice t1 t2 t3,.slice r1 r2 r3,.slice p4 q4 s4,.slice p5 q5 s5],.bool true]) (by simp [results,Tryz.results35,go_sem,v0,v1,v2,v3,v4,v5]) rfl ?_
  rw [LQ.out]
  exact ⟨⟨(p1,q1,s1),(t1,t2,t3),(r1,r2,r3),(p4,q4,s4),(p5,q5,s5),rfl,FC.out.vbr,fun _ => ⟨_,FC.out.near⟩,fun _ => ⟨_,_,FC.out⟩⟩,FL.out⟩
 ·have hin : a.id ∈ b.seen := by rw [EI.out]; exact of_decide_eq_true HR.out
  have LQ := Lib.hid (learnB_in hin)
  have FB := Lib.hid (setB_box Y3 (.int .i64 b.me) (.slice no nn nc) (.slice ao an ac) (.slice so sn sc) (.slice eo en ec) (.slice oo on_ oc))
  have FL := Lib.hid (setB_below (b := w.heap.size + 1 + 1) B1.out (by omega) (.int .i64 b.me) (.slice no nn nc) (.slice ao an ac) (.slice so sn sc) (.slice eo en ec) (.slice oo on_ oc))
  clear hin Y1 Y2 Y3
  go_wp2_with fail
  obtain ⟨v0,v1,v2,v3,v4,v5⟩ := FB.out.cs6
  refine bodyPost_ret (v := .tuple #[.agg #[.int .i64 b.me,.slice no nn nc,.slice ao an ac,.slice so sn sc,.slice eo en ec,.slice oo on_ oc],.bool false]) (by simp [results,Tryz.results35,go_sem,v0,v1,v2,v3,v4,v5]) rfl ?_
  rw [LQ.out]
  exact ⟨⟨(no,nn,nc),(ao,an,ac),(so,sn,sc),(eo,en,ec),(oo,on_,oc),rfl,HH.out.on FL.out,fun h => h.on FL.out,fun h => (h.resolve_right (by simp)).on FL.out⟩,FL.out⟩
end Go.Proofs.YtmklifheakemeaaGreat.Av
