/-
  clear of the end of a row of one's own; what DeleteFunc does to a list. Conditions as told.
-/
import Derived.Test.YtncogjpmboglhaaGreatQ032
import Derived.Test.YtncogjpmboglhaaGreatQ018
import Derived.Laws.IdiomCopy
import Derived.Test.YtncogjpmboglhaaGreatQ007
set_option maxRecDepth 100000
set_option maxHeartbeats 64000000
namespace Go.Proofs.YtncogjpmboglhaaGreat.Av
open Go.RowKit Go.Sort Rw YtncogjpmboglhaaGreat.Nm Pr Bk
theorem box_setCells {g : Nat} {t : TypeId} : ∀ (vs : List Value) (o : Nat) (w : World) (cur : Array Value),Box w g cur t → ∃ cur',Box (w.setCells g o vs) g cur' t ∧ cur'.size = cur.size ∧ cur'.toList.take o = cur.toList.take o
 | [],o,w,cur,h => ⟨cur,h,rfl,rfl⟩
 | v :: r,o,w,cur,h => by
  obtain ⟨cur',h1,h2,h3⟩ := box_setCells r (o + 1) (w.setCell ⟨g,o,none⟩ v) _ (box_set (k := o) h v)
  refine ⟨cur',h1,by rw [h2]; simp,?_⟩
  have h4 := congrArg (List.take o) h3
  rw [List.take_take,List.take_take,Nat.min_eq_left (by omega)] at h4
  rw [h4,Array.toList_setIfInBounds,List.take_set_of_le (Nat.le_refl _)]
theorem but_setCells (g : Nat) : ∀ (vs : List Value) (o : Nat) (w : World),But g w (w.setCells g o vs)
 | [],_,_w => ⟨fun _ _ _ => rfl,Nat.le_refl _⟩
 | v :: r,o,w => (but_cell w g o v).trans (but_setCells g r (o + 1) _)
theorem below_setCells {B g : Nat} (hB : B ≤ g) : ∀ (vs : List Value) (o : Nat) (W w : World),Below B W w → Below B W (w.setCells g o vs)
 | [],_,_,_,h => h
 | v :: r,o,W,_w,h => below_setCells hB r (o + 1) W _ (h.setCell (p := ⟨g,o,none⟩) hB v)
theorem clear_own {α : Type} {E : Ek α} (K : E.Ok) (hz : ∀ v ∈ E.z.cells.toList,v.oneCell' = true) {W : World} {B g n cap i : Nat} {L : List α} (h : Own E W B (.slice (some ⟨g,0,none⟩) n cap) L) (hi : i < n) (ty : TypeId) :
  ∃ W',(Builtin.clear_ #[E.ts] ty #[.slice (some ⟨g,i * E.n,none⟩) (n - i) (cap - i)]).run Tryz.prog W = .ok (.tuple #[]) W' ∧ Own E W' B (.slice (some ⟨g,0,none⟩) i cap) (L.take i) ∧ But g W W' ∧ (∀ B' W0,B' ≤ g → Below B' W0 W → Below B' W0 W') := by
 have hln := own_row_len h
 rcases own_open h with ⟨h1,_⟩ | ⟨g',cap',cur,h1,h2,h3,h4,h5,h6,h7⟩
 ·cases h1
 ·obtain ⟨rfl,_,rfl⟩ : g = g' ∧ n = L.length ∧ cap = cap' := by simpa using h1
  have hzs : (Builtin.zeroCells E.z.cells (n - i)).toList.length = (n - i) * E.n := by simp [Builtin.zeroCells,K.zs]
  have h10 : i * E.n + (n - i) * E.n = n * E.n := by rw [← Nat.add_mul,Nat.add_sub_cancel' (Nat.le_of_lt hi)]
  have h11 : n * E.n ≤ cap * E.n := Nat.mul_le_mul_right _ (by omega)
  have hone : ∀ v ∈ (Builtin.zeroCells E.z.cells (n - i)).toList,v.oneCell' = true := by
   intro v hv
   simp only [Builtin.zeroCells,Array.toList_map,List.mem_map] at hv
   obtain ⟨j,_,rfl⟩ := hv
   have hp := K.pos
   have hlt : j % E.z.cells.size < E.z.cells.size := Nat.mod_lt _ (by rw [K.zs]; exact hp)
   refine hz _ ?_
   rw [getElem!_pos E.z.cells (j % E.z.cells.size) hlt,Array.mem_toList_iff]
   exact Array.getElem_mem hlt
  have hst := run_storeCells_cells (P := Tryz.prog) g (i * E.n) (Builtin.zeroCells E.z.cells (n - i)).toList 0 W (by
   intro j hj
   rw [hzs] at hj
   rw [Nat.add_zero,h3.cell]
   have : i * E.n + j < cur.size := by rw [h6]; omega
   simp [this]) (fun j _ => h3.fr _) hone
  rw [Nat.add_zero] at hst
  obtain ⟨ii,i1,i2,i3,i4⟩ := K.info
  obtain ⟨cur',c1,c2,c3⟩ := box_setCells (Builtin.zeroCells E.z.cells (n - i)).toList (i * E.n) W cur h3
  refine ⟨W.setCells g (i * E.n) (Builtin.zeroCells E.z.cells (n - i)).toList,?_,?_,but_setCells _ _ _ _,fun B' W0 hB hb => below_setCells hB _ _ _ _ hb⟩
  ·obtain ⟨m,hm⟩ : ∃ m,n - i = m + 1 := ⟨n - i - 1,by omega⟩
   rw [hm] at hst ⊢
   have hv : ∀ w,(zeroValue E.t).run Tryz.prog w = .ok E.z w := fun w => by simp [go_sem,zeroValue,typeInfo,i1,i2]
   simp [Builtin.clear_,run_underlying K.hu,hv,hst]
  ·refine own_shut K (by rw [List.length_take]; omega) h2 c1 (by omega) h5 (by rw [c2]; exact h6) ?_
   rw [c3]
   have h8 := congrArg (List.take (i * E.n)) h7
   rw [List.take_take,flat_take K,Nat.min_eq_left (by rw [← hln] at hi; exact Nat.mul_le_mul_right _ (Nat.le_of_lt hi))] at h8
   exact h8
structure DelSt {α : Type} (keep : α → Bool) (l : List α) (i j : Nat) (L : List α) : Prop where
 len : L.length = l.length
 lt : i < j
 lo : L.take i = (l.take j).filter keep
 hi : L.drop j = l.drop j
theorem DelSt.at {α : Type} {keep : α → Bool} {l : List α} {i j : Nat} {L : List α} (h : DelSt keep l i j L) : L[j]? = l[j]? := by
 have := congrArg (fun m => m[0]?) h.hi
 simpa using this
theorem DelSt.skip {α : Type} {keep : α → Bool} {l : List α} {i j : Nat} {L : List α} {x : α} (h : DelSt keep l i j L) (hx : l[j]? = some x) (hk : keep x = false) : DelSt keep l i (j + 1) L where
 len := h.len
 lt := Nat.lt_succ_of_lt h.lt
 lo := by
  rw [h.lo,List.take_add_one,hx]
  simp [hk]
 hi := by
  have := congrArg (List.drop 1) h.hi
  simpa [List.drop_drop] using this
theorem DelSt.keep {α : Type} {keep : α → Bool} {l : List α} {i j : Nat} {L : List α} {x : α} (h : DelSt keep l i j L) (hx : l[j]? = some x) (hk : keep x = true) : DelSt keep l (i + 1) (j + 1) (L.set i x) where
 len := by rw [List.length_set]; exact h.len
 lt := by have := h.lt; omega
 lo := by
  have hj := (List.getElem?_eq_some_iff.1 hx).1
  have hl := h.lt
  have hL := h.len
  rw [List.take_add_one,List.take_set_of_le (Nat.le_refl _),h.lo,List.getElem?_set_self (by omega),List.take_add_one,hx]
  simp [hk]
 hi := by
  have := congrArg (List.drop 1) h.hi
  rw [List.drop_set_of_lt (by have := h.lt; omega)]
  simpa [List.drop_drop] using this
theorem filter_first {α : Type} {keep : α → Bool} {l : List α} {k : Nat} {x : α} (hx : l[k]? = some x) (hk : keep x = false) (hall : ∀ (j : Nat) (y : α),j < k → l[j]? = some y → keep y = true) : DelSt keep l k (k + 1) l where
 len := rfl
 lt := Nat.lt_succ_self _
 lo := by
  rw [List.take_add_one,hx,List.filter_append]
  have : (l.take k).filter keep = l.take k := by
   rw [List.filter_eq_self]
   intro y hy
   obtain ⟨j,hj⟩ := List.mem_iff_getElem?.1 hy
   have hj' := (List.getElem?_eq_some_iff.1 hj).1
   rw [List.length_take] at hj'
   rw [List.getElem?_take_of_lt (by omega)] at hj
   exact hall j y (by omega) hj
  rw [this]
  simp [hk]
 hi := rfl
theorem findI_neg {α : Type} {key : α → XID} {l : List α} {x : XID} (h : findI (l.map key) x = -1) : ∀ (j : Nat) (y : α),l[j]? = some y → key y ≠ x := by
 intro j y hj hy
 have h1 := findI_in (l.map key) x
 rw [h] at h1
 have : x ∈ l.map key := List.mem_map.2 ⟨y,List.mem_of_getElem? hj,hy⟩
 simp [this] at h1
theorem findI_get : ∀ {l : List XID} {x : XID} {k : Nat},findI l x = k → l[k]? = some x ∧ ∀ (j : Nat) (y : XID),j < k → l[j]? = some y → y ≠ x
 | [],x,k,h => by simp [findI] at h <;> omega
 | a :: l,x,k,h => by
  unfold findI at h
  by_cases hax : a = x
  ·rw [if_pos hax] at h
   obtain rfl : k = 0 := by omega
   exact ⟨by simpa using hax,fun j y hj => by omega⟩
  ·rw [if_neg hax] at h
   by_cases h2 : findI l x = -1
   ·rw [if_pos h2] at h; omega
   ·rw [if_neg h2] at h
    cases k with
    | zero => have := findI_bd l x; omega
    | succ k =>
     obtain ⟨h3,h4⟩ := findI_get (l := l) (x := x) (k := k) (by omega)
     refine ⟨by simpa using h3,fun j y hj hy => ?_⟩
     cases j with
     | zero =>
      obtain rfl : a = y := by simpa using hy
      exact hax
     | succ j => exact h4 j y (by omega) (by simpa using hy)
theorem stoD {w : World} {B g n cap k : Nat} {l : List XAd} (x : XAd) (h : Own ED w B (.slice (some ⟨g,0,none⟩) n cap) l) (hk : k < l.length) :
  StoQ ED B g (.slice (some ⟨g,0,none⟩) n cap) (l.set k x) w ((((w.setCell ⟨g,k * 4,none⟩ (.int .i64 x.1)).setCell ⟨g,k * 4 + 1,none⟩ (.int .i64 x.2.1)).setCell ⟨g,k * 4 + 2,none⟩ (slv x.2.2.1)).setCell ⟨g,k * 4 + 3,none⟩ (.int .i64 x.2.2.2)) := by
 have hln := own_row_len h
 subst hln
 have h : w.ownsRow B 41 4 (.slice (some ⟨g,0,none⟩) l.length cap) l.length (flat ED l) := h
 have s1 := (h.stored (k * 4) (.int .i64 x.1)).1
 have s2 := (s1.stored (k * 4 + 1) (.int .i64 x.2.1)).1
 have s3 := (s2.stored (k * 4 + 2) (slv x.2.2.1)).1
 have s4 := (s3.stored (k * 4 + 3) (.int .i64 x.2.2.2)).1
 refine ⟨?_,((((but_cell _ g _ _).trans (but_cell _ g _ _)).trans (but_cell _ g _ _)).trans (but_cell _ g _ _)),fun B' W hB hb => ((((hb.setCell (p := ⟨g,_,none⟩) hB _).setCell (p := ⟨g,_,none⟩) hB _).setCell (p := ⟨g,_,none⟩) hB _).setCell (p := ⟨g,_,none⟩) hB _)⟩
 have e := flatD_set l k x hk
 show World.ownsRow _ B 41 4 _ (l.set k x).length (flat ED (l.set k x))
 rw [e,List.length_set]
 exact s4
theorem cloD_any (x : XAd) (b2 : Nat) (c d : Int) (r : Bool) (hr : decide (keyD x = (c,d)) = r) (w : World) (h : Box w b2 #[.int .i64 c,.int .i64 d] 38) : Calls Tryz.prog 89 #[valD x,.pointer (some ⟨b2,0,none⟩)] w fun e w' => e = .returned (.bool r) ∧ Below w.heap.size w w' := by
 obtain ⟨y1,y2,⟨yo,yn,yc⟩,y4⟩ := x
 have n0 := newB w (.cells #[.int .i64 y1,.int .i64 y2,.slice yo yn yc,.int .i64 y4] 41)
 have hx := box_new w #[.int .i64 y1,.int .i64 y2,.slice yo yn yc,.int .i64 y4] 41
 have x1 := hx.cell 1
 have x0 := hx.cell 0
 obtain ⟨z0,z1⟩ := (h.on n0).cs2
 simp only [List.getElem?_toArray,List.getElem?_cons_zero,List.getElem?_cons_succ] at x0 x1
 have he := eqId y1 y2 c d r (by
  rw [← hr]
  by_cases h1 : y1 = c <;> by_cases h2 : y2 = d <;> simp [h1,h2])
 have N0 := Lib.hid n0
 clear n0 hx h hr
 go_enter Tryz.func89,Tryz.ntmps89
 go_wp2
 go_ret
 exact ⟨rfl,N0.out⟩
theorem ixfD_any (v : Sl) (l : List XAd) (b2 : Nat) (c d : Int) (w : World) (hs : Row ED w (slv v) l) (hb2 : Box w b2 #[.int .i64 c,.int .i64 d] 38) :
  Calls Tryz.prog 130 #[slv v,.func (.func 89) #[] #[.pointer (some ⟨b2,0,none⟩)]] w fun e w' => e = .returned (.int .i64 (findI (l.map keyD) (c,d))) ∧ Below w.heap.size w w' := by
 obtain ⟨so,sn,sc⟩ := v
 obtain ⟨ao,ac,hv⟩ := hs.len
 have hv : Value.slice so sn sc = .slice ao l.length ac := hv
 obtain ⟨rfl,rfl,rfl⟩ : so = ao ∧ sn = l.length ∧ sc = ac := by simpa using hv
 have HS := Lib.hid hs
 have X2 := Lib.hid hb2
 have lm := hs.most
 unfold maxLen at lm
 obtain ⟨n,hn⟩ : ∃ n,n = l.length := ⟨_,rfl⟩
 rw [← hn] at HS lm ⊢
 have HN := Lib.hid hn.symm
 clear hb2 hs hv hn
 go_enter Tryz.func130,Tryz.ntmps130
 go_wp2
 go_loopw [8] (fun i wr => ∃ k : Nat,k ≤ n ∧ i = .int .i64 k ∧ Below w.heap.size w wr ∧ ∀ (j : Nat) (y : XAd),j < k → l[j]? = some y → keyD y ≠ (c,d)) (fun i _ => n - (intOf i).toNat)
 case atStart => exact ⟨0,Nat.zero_le _,rfl,Below.refl _ _,fun j y h => by omega⟩
 case round =>
  obtain ⟨k,hk,rfl,hbe,hall⟩ := hrel
  have BE := Lib.hid hbe
  have AL := Lib.hid hall
  clear hbe hall
  by_cases hlt : k < n
  ·obtain ⟨y,hy⟩ : ∃ y,l[k]? = some y := ⟨_,List.getElem?_eq_getElem (by rw [HN.out]; exact hlt)⟩
   obtain ⟨p,ix,px⟩ := elD HS.out rfl HN.out hy
   obtain ⟨p0,p1,p2,p3⟩ := px wr BE.out
   obtain ⟨r,hr⟩ : ∃ r,decide (keyD y = (c,d)) = r := ⟨_,rfl⟩
   have CL := Lib.hid (cloD_any y b2 c d r hr wr (X2.out.on BE.out))
   have HY := Lib.hid hy
   have HR := Lib.hid hr
   obtain ⟨y1,y2,⟨yo,yn,yc⟩,y4⟩ := y
   simp only at p0 p1 p2 p3
   have hw3 : IntKind.i64.wrap ((k : Int) + 1) = (k : Int) + 1 := IntWalk.i64_in _ (by omega)
   clear px hy hr
   go_wp2_with fail
   refine CL.out.mono ?_
   rintro e w1 ⟨rfl,hb⟩
   have B1 := Lib.hid (BE.out.trans (hb.mono BE.out.size))
   clear hb CL ix p0 p1 p2 p3
   cases r
   ·go_wp2
    go_roundw
    case rel => exact ⟨k + 1,by omega,by go_num,B1.out,fun j y' hj h1 => by
     rcases Nat.lt_or_ge j k with h3 | h3
     ·exact AL.out j y' h3 h1
     ·obtain rfl : j = k := by omega
      have e1 := HY.out
      rw [h1] at e1
      rw [Option.some.inj e1]
      exact of_decide_eq_false HR.out⟩
    case measure => simp [intOf]; omega
   ·go_wp2
    go_ret
    exact ⟨by rw [findI_at (l.map keyD) k (c,d) (by rw [List.getElem?_map,HY.out]; exact congrArg some (of_decide_eq_true HR.out)) (fun j z hj hz => by
     rw [List.getElem?_map] at hz
     cases hz2 : l[j]? with
     | none => rw [hz2] at hz; cases hz
     | some u => rw [hz2] at hz; rw [← Option.some.inj hz]; exact AL.out j u hj hz2)]; rfl,B1.out⟩
  ·obtain rfl : k = n := by omega
   go_wp2
   go_ret
   exact ⟨by rw [findI_none (l.map keyD) (c,d) (fun j z hz => by
     rw [List.getElem?_map] at hz
     cases hz2 : l[j]? with
     | none => rw [hz2] at hz; cases hz
     | some u => rw [hz2] at hz; rw [← Option.some.inj hz]; exact AL.out j u (by rw [← HN.out]; exact (List.getElem?_eq_some_iff.1 hz2).1) hz2)]; rfl,BE.out⟩
abbrev keepD (c d : Int) (x : XAd) : Bool := decide (keyD x ≠ (c,d))
theorem delD_any (B : Nat) (v : Sl) (l : List XAd) (b2 : Nat) (c d : Int) (w : World) (ho : Own ED w B (slv v) l) (hb2 : Box w b2 #[.int .i64 c,.int .i64 d] 38) (hB : B ≤ w.heap.size) :
  Calls Tryz.prog 88 #[slv v,.func (.func 89) #[] #[.pointer (some ⟨b2,0,none⟩)]] w fun e w' => (∃ v' : Sl,e = .returned (slv v') ∧ Own ED w' B (slv v') (l.filter (keepD c d))) ∧ Below B w w' ∧ Off (slv v).ownBlock w w' := by
 obtain ⟨so,sn,sc⟩ := v
 obtain ⟨ao,ac,hv⟩ := (Row.of_own ho).len
 have hv : Value.slice so sn sc = .slice ao l.length ac := hv
 obtain ⟨rfl,rfl,rfl⟩ : so = ao ∧ sn = l.length ∧ sc = ac := by simpa using hv
 have IX := Lib.hid (ixfD_any (so,l.length,sc) l b2 c d w (Row.of_own ho) hb2)
 have HO := Lib.hid ho
 have X2 := Lib.hid hb2
 have lm := (Row.of_own ho).most
 unfold maxLen at lm
 have BZ := Lib.hid (show w.heap.size ≤ w.heap.size from Nat.le_refl _)
 obtain ⟨n,hn⟩ : ∃ n,n = l.length := ⟨_,rfl⟩
 rw [← hn] at HO lm IX ⊢
 have HN := Lib.hid hn.symm
 obtain ⟨q,hq⟩ : ∃ q,findI (l.map keyD) (c,d) = q := ⟨_,rfl⟩
 rw [hq] at IX
 have HQ := Lib.hid hq
 have HB := Lib.hid hB
 have LB := Lib.hid (show ∀ g,(slv (so,n,sc)).ownBlock = some g → B ≤ g from fun g hg => (HO.out.lt g hg).1)
 clear hb2 ho hv hn hB
 by_cases hneg : q = -1
 ·subst hneg
  go_enter Tryz.func88,Tryz.ntmps88
  go_wp2_with fail
  refine IX.out.mono ?_
  rintro e w1 ⟨rfl,hb⟩
  have FE := Lib.hid (show l.filter (keepD c d) = l from by
   rw [List.filter_eq_self]
   intro y hy
   obtain ⟨j,hj⟩ := List.mem_iff_getElem?.1 hy
   exact decide_eq_true (findI_neg hq j y hj))
  have BH := Lib.hid hb
  clear hb hq
  go_wp2
  go_ret
  exact ⟨⟨(so,n,sc),rfl,by rw [FE.out]; exact Bk.own_on HO.out BH.out⟩,BH.out.mono HB.out,fun j hj _ => BH.out.block j hj,BH.out.size⟩
 ·obtain ⟨k,rfl⟩ : ∃ k : Nat,q = k := ⟨q.toNat,by have := findI_bd (l.map keyD) (c,d); omega⟩
  obtain ⟨g1,g2⟩ := findI_get hq
  obtain ⟨x,hx,hxk⟩ : ∃ x,l[k]? = some x ∧ keyD x = (c,d) := by
   rw [List.getElem?_map] at g1
   cases hz : l[k]? with
   | none => rw [hz] at g1; cases g1
   | some x => rw [hz] at g1; exact ⟨x,rfl,Option.some.inj g1⟩
  have ST0 := Lib.hid (filter_first (keep := keepD c d) hx (decide_eq_false (by simp [hxk])) (fun j y hj hy => decide_eq_true (g2 j (keyD y) hj (by rw [List.getElem?_map,hy]; rfl))))
  have hkl : k < n := by rw [← HN.out]; exact (List.getElem?_eq_some_iff.1 hx).1
  obtain ⟨g,rfl,hBg⟩ : ∃ g,so = some ⟨g,0,none⟩ ∧ B ≤ g := own_some HO.out (show 0 < n by omega)
  have BG := Lib.hid hBg
  have TG := Lib.hid (tag_own HO.out)
  have hcap : n ≤ sc := by
   rcases own_open HO.out with ⟨h1,_⟩ | ⟨g',c',cur,h1,h2,h3,h4,h5,h6,h7⟩
   ·cases h1
   ·have e1 : sc = c' := by simpa using congrArg (fun v => match v with | Value.slice _ _ c => c | _ => 0) h1
    have := HN.out
    omega
  have hw0 : IntKind.i64.wrap ((k : Int) + 1) = (k : Int) + 1 := IntWalk.i64_in _ (by omega)
  have hk1 : ((k : Int) == -1) = false := by rw [beq_eq_false_iff_ne]; omega
  clear hq g1 g2 hx hxk x hneg hBg LB
  go_enter Tryz.func88,Tryz.ntmps88
  go_wp2_with fail
  refine IX.out.mono ?_
  rintro e w1 ⟨rfl,hb⟩
  have O1 := Lib.hid (Bk.own_on HO.out hb)
  have B1 := Lib.hid (hb.mono HB.out)
  have F1 := Lib.hid (show Off (some g) w w1 from ⟨fun j hj _ => hb.block j hj,hb.size⟩)
  clear hb IX
  go_wp2
  clear hw0 hk1
  go_loopw [5,6] (fun s5 s6 wr => ∃ (i j : Nat) (L : List XAd),s5 = .int .i64 i ∧ s6 = .int .i64 j ∧ j ≤ n ∧ DelSt (keepD c d) l i j L ∧ Own ED wr B (.slice (some ⟨g,0,none⟩) n sc) L ∧ Below B w wr ∧ Off (some g) w wr) (fun _ s6 _ => n - (intOf s6).toNat)
  case atStart => exact ⟨k,k + 1,l,rfl,by go_num,by omega,ST0.out,O1.out,B1.out,F1.out⟩
  case round =>
   obtain ⟨i,j,L,rfl,rfl,hj,hst,how,hbe,hof⟩ := hrel
   have ST := Lib.hid hst
   have OW := Lib.hid how
   have BE := Lib.hid hbe
   have OF := Lib.hid hof
   have hij := hst.lt
   have LN := Lib.hid (show L.length = n from hst.len.trans HN.out)
   clear hst how hbe hof O1 B1 F1 ST0
   by_cases hlt : j < n
   ·obtain ⟨y,hy⟩ : ∃ y,l[j]? = some y := ⟨_,List.getElem?_eq_getElem (by rw [HN.out]; exact hlt)⟩
    have hyL : L[j]? = some y := by rw [ST.out.at,hy]
    obtain ⟨p,ix,px⟩ := elD (Row.of_own OW.out) rfl LN.out hyL
    obtain ⟨p0,p1,p2,p3⟩ := px wr (Below.refl _ _)
    obtain ⟨r,hr⟩ : ∃ r,decide (keyD y = (c,d)) = r := ⟨_,rfl⟩
    have HY := Lib.hid hy
    have hw3 : IntKind.i64.wrap ((j : Int) + 1) = (j : Int) + 1 := IntWalk.i64_in _ (by omega)
    have hw5 : IntKind.i64.wrap ((i : Int) + 1) = (i : Int) + 1 := IntWalk.i64_in _ (by omega)
    obtain ⟨z,hz⟩ : ∃ z,L[i]? = some z := ⟨_,List.getElem?_eq_getElem (by rw [LN.out]; omega)⟩
    have HZ := Lib.hid hz
    have X2w := OF.out.box X2.out TG.out (by decide)
    have CLO := cloD_any y b2 c d r hr
    have KP := Lib.hid (show keepD c d y = !r from by rw [← hr]; simp [keepD])
    obtain ⟨y1,y2,⟨yo,yn,yc⟩,y4⟩ := y
    simp only at p0 p1 p2 p3
    have NB := Lib.hid (newB wr (.cells #[.int .i64 y1,.int .i64 y2,.slice yo yn yc,.int .i64 y4] 41))
    have CL := Lib.hid (CLO _ (X2w.on NB.out))
    clear hy hyL px hr hz CLO X2w
    go_wp2_with fail
    refine CL.out.mono ?_
    rintro e w2 ⟨rfl,hb⟩
    have BB := Lib.hid (NB.out.trans (hb.mono NB.out.size))
    have Y7 := (box_new wr #[.int .i64 y1,.int .i64 y2,.slice yo yn yc,.int .i64 y4] 41).on hb
    obtain ⟨q0,q1,q2,q3⟩ := Y7.cs4
    have O2 := Lib.hid (Bk.own_on OW.out BB.out)
    clear hb CL ix p0 p1 p2 p3 Y7
    cases r
    ·have ix := index_own okD g i n sc (by omega)
     have ix : ∀ w,(Instr.indexAt 26 (.slice (some ⟨g,0,none⟩) n sc) (.int .i64 i)).run Tryz.prog w = .ok (.pointer (some ⟨g,i * 4,none⟩)) w := ix
     have ca := own_row_at okD O2.out HZ.out w2 (Below.refl _ _)
     have ce0 := ca 0 _ rfl
     have ce1 := ca 1 _ rfl
     have ce2 := ca 2 _ rfl
     have ce3 := ca 3 _ rfl
     simp [Addr.add,ED] at ce0 ce1 ce2 ce3
     obtain ⟨cur,hbx⟩ := own_tag O2.out
     have f := fun j => hbx.fr j
     have gl := hbx.lt
     have SQ : StoQ ED B g (.slice (some ⟨g,0,none⟩) n sc) (L.set i (y1,y2,(yo,yn,yc),y4)) w2 ((((w2.setCell ⟨g,i * 4,none⟩ (.int .i64 y1)).setCell ⟨g,i * 4 + 1,none⟩ (.int .i64 y2)).setCell ⟨g,i * 4 + 2,none⟩ (.slice yo yn yc)).setCell ⟨g,i * 4 + 3,none⟩ (.int .i64 y4)) := stoD (y1,y2,(yo,yn,yc),y4) O2.out (by rw [LN.out]; omega)
     have SQ := Lib.hid SQ
     clear hbx ca
     go_upto_region 10 with fail
     generalize ((((w2.setCell ⟨g,i * 4,none⟩ (.int .i64 y1)).setCell ⟨g,i * 4 + 1,none⟩ (.int .i64 y2)).setCell ⟨g,i * 4 + 2,none⟩ (.slice yo yn yc)).setCell ⟨g,i * 4 + 3,none⟩ (.int .i64 y4)) = w3 at *
     clear f gl ce0 ce1 ce2 ce3 ix
     go_wp2
     go_roundw
     case rel => exact ⟨i + 1,j + 1,L.set i (y1,y2,(yo,yn,yc),y4),by go_num,by go_num,by omega,ST.out.keep HY.out KP.out,SQ.out.1,SQ.out.2.2 B w BG.out (BE.out.trans (BB.out.mono (Nat.le_trans HB.out OF.out.2))),⟨fun q hq hne => (SQ.out.2.1.1 q (Nat.lt_of_lt_of_le (Nat.lt_of_lt_of_le hq OF.out.2) BB.out.size) (fun e => hne (by rw [e]))).trans ((BB.out.block q (Nat.lt_of_lt_of_le hq OF.out.2)).trans (OF.out.1 q hq hne)),Nat.le_trans OF.out.2 (Nat.le_trans BB.out.size SQ.out.2.1.2)⟩⟩
     case measure => simp [intOf]; omega
    ·go_wp2
     go_roundw
     case rel => exact ⟨i,j + 1,L,rfl,by go_num,by omega,ST.out.skip HY.out KP.out,O2.out,BE.out.trans (BB.out.mono (Nat.le_trans HB.out OF.out.2)),⟨fun q hq hne => (BB.out.block q (Nat.lt_of_lt_of_le hq OF.out.2)).trans (OF.out.1 q hq hne),Nat.le_trans OF.out.2 BB.out.size⟩⟩
     case measure => simp [intOf]; omega
   ·obtain rfl : n = j := by omega
    obtain ⟨W',hr,h1,h2,h3⟩ := clear_own okD (by decide) OW.out hij (ty := 0)
    have sh := cut_hi (E := ED) okD g i n sc (by omega) (by omega)
    have sl := slice_lo (E := ED) okD ⟨g,0,none⟩ i n sc (by omega)
    have sh : ∀ w,(Instr.sliceAt 26 (.slice (some ⟨g,0,none⟩) n sc) (some (.int .i64 i)) none none).run Tryz.prog w = .ok (.slice (some ⟨g,i * 4,none⟩) (n - i) (sc - i)) w := sh
    have sl : ∀ w,(Instr.sliceAt 26 (.slice (some ⟨g,0,none⟩) n sc) none (some (.int .i64 i)) none).run Tryz.prog w = .ok (.slice (some ⟨g,0,none⟩) i sc) w := sl
    have hr : (Builtin.clear_ #[26] 0 #[.slice (some ⟨g,i * 4,none⟩) (n - i) (sc - i)]).run Tryz.prog wr = .ok (.tuple #[]) W' := hr
    have Q := Lib.hid (show (∃ v' : Sl,Ending.returned (.slice (some ⟨g,0,none⟩) i sc) = .returned (slv v') ∧ Own ED W' B (slv v') (l.filter (keepD c d))) ∧ Below B w W' ∧ Off (slv (some ⟨g,0,none⟩,n,sc)).ownBlock w W' from ⟨⟨(some ⟨g,0,none⟩,i,sc),rfl,by
     have e1 : l.take n = l := List.take_of_length_le (by rw [HN.out]; exact Nat.le_refl _)
     have e2 := ST.out.lo
     rw [e1] at e2
     rw [← e2]
     exact h1⟩,h3 B w BG.out BE.out,⟨fun q hq hne => (h2.1 q (Nat.lt_of_lt_of_le hq OF.out.2) (fun e => hne (by rw [e]; rfl))).trans (OF.out.1 q hq hne),Nat.le_trans OF.out.2 h2.2⟩⟩)
    clear h1 h2 h3 hlt
    go_wp2_with (first | (at_builtin; refine wpList_clear_run rfl _ _ 26 rfl rfl rfl hr ?_) | fail)
    go_ret
    exact Q.out
abbrev keyT (x : XEn) : XID := (x.1,x.2.1)
theorem flatN_all : ∀ (l : List XEn) (k : Nat) (x : XEn),k < l.length → flat EN (l.set k x) = ((((((((flat EN l).set (k * 7) (.int .i64 x.1)).set (k * 7 + 1) (.int .i64 x.2.1)).set (k * 7 + 2) (.int .i64 x.2.2.1)).set (k * 7 + 3) (.int .i64 x.2.2.2.1)).set (k * 7 + 4) (slv x.2.2.2.2.1)).set (k * 7 + 5) (.int .i64 x.2.2.2.2.2.1)).set (k * 7 + 6) (.bool x.2.2.2.2.2.2))
 | [],k,x,h => by simp at h
 | y :: r,0,x,_ => rfl
 | y :: r,k + 1,x,h => by
  have ih := flatN_all r k x (by simpa using h)
  rw [show (k + 1) * 7 + 6 = (k * 7 + 6) + 1 + 1 + 1 + 1 + 1 + 1 + 1 by omega,show (k + 1) * 7 + 5 = (k * 7 + 5) + 1 + 1 + 1 + 1 + 1 + 1 + 1 by omega,show (k + 1) * 7 + 4 = (k * 7 + 4) + 1 + 1 + 1 + 1 + 1 + 1 + 1 by omega,show (k + 1) * 7 + 3 = (k * 7 + 3) + 1 + 1 + 1 + 1 + 1 + 1 + 1 by omega,show (k + 1) * 7 + 2 = (k * 7 + 2) + 1 + 1 + 1 + 1 + 1 + 1 + 1 by omega,show (k + 1) * 7 + 1 = (k * 7 + 1) + 1 + 1 + 1 + 1 + 1 + 1 + 1 by omega,show (k + 1) * 7 = (k * 7) + 1 + 1 + 1 + 1 + 1 + 1 + 1 by omega]
  simp only [List.set_cons_succ,flat,EN,cellsN,List.cons_append,List.nil_append] at ih ⊢
  rw [ih]
theorem stoN {w : World} {B g n cap k : Nat} {l : List XEn} (x : XEn) (h : Own EN w B (.slice (some ⟨g,0,none⟩) n cap) l) (hk : k < l.length) :
  StoQ EN B g (.slice (some ⟨g,0,none⟩) n cap) (l.set k x) w (((((((w.setCell ⟨g,k * 7,none⟩ (.int .i64 x.1)).setCell ⟨g,k * 7 + 1,none⟩ (.int .i64 x.2.1)).setCell ⟨g,k * 7 + 2,none⟩ (.int .i64 x.2.2.1)).setCell ⟨g,k * 7 + 3,none⟩ (.int .i64 x.2.2.2.1)).setCell ⟨g,k * 7 + 4,none⟩ (slv x.2.2.2.2.1)).setCell ⟨g,k * 7 + 5,none⟩ (.int .i64 x.2.2.2.2.2.1)).setCell ⟨g,k * 7 + 6,none⟩ (.bool x.2.2.2.2.2.2)) := by
 have hln := own_row_len h
 subst hln
 have h : w.ownsRow B 43 7 (.slice (some ⟨g,0,none⟩) l.length cap) l.length (flat EN l) := h
 have s1 := (h.stored (k * 7) (.int .i64 x.1)).1
 have s2 := (s1.stored (k * 7 + 1) (.int .i64 x.2.1)).1
 have s3 := (s2.stored (k * 7 + 2) (.int .i64 x.2.2.1)).1
 have s4 := (s3.stored (k * 7 + 3) (.int .i64 x.2.2.2.1)).1
 have s5 := (s4.stored (k * 7 + 4) (slv x.2.2.2.2.1)).1
 have s6 := (s5.stored (k * 7 + 5) (.int .i64 x.2.2.2.2.2.1)).1
 have s7 := (s6.stored (k * 7 + 6) (.bool x.2.2.2.2.2.2)).1
 refine ⟨?_,(((((((but_cell _ g _ _).trans (but_cell _ g _ _)).trans (but_cell _ g _ _)).trans (but_cell _ g _ _)).trans (but_cell _ g _ _)).trans (but_cell _ g _ _)).trans (but_cell _ g _ _)),fun B' W hB hb => (((((((hb.setCell (p := ⟨g,_,none⟩) hB _).setCell (p := ⟨g,_,none⟩) hB _).setCell (p := ⟨g,_,none⟩) hB _).setCell (p := ⟨g,_,none⟩) hB _).setCell (p := ⟨g,_,none⟩) hB _).setCell (p := ⟨g,_,none⟩) hB _).setCell (p := ⟨g,_,none⟩) hB _)⟩
 have e := flatN_all l k x hk
 show World.ownsRow _ B 43 7 _ (l.set k x).length (flat EN (l.set k x))
 rw [e,List.length_set]
 exact s7
theorem cloN_any (x : XEn) (b2 : Nat) (c d : Int) (r : Bool) (hr : decide (keyT x = (c,d)) = r) (w : World) (h : Box w b2 #[.int .i64 c,.int .i64 d] 38) : Calls Tryz.prog 91 #[valN x,.pointer (some ⟨b2,0,none⟩)] w fun e w' => e = .returned (.bool r) ∧ Below w.heap.size w w' := by
 obtain ⟨y1,y2,y3,y4,⟨yo,yn,yc⟩,y6,y7⟩ := x
 have n0 := newB w (.cells #[.int .i64 y1,.int .i64 y2,.int .i64 y3,.int .i64 y4,.slice yo yn yc,.int .i64 y6,.bool y7] 43)
 have hx := box_new w #[.int .i64 y1,.int .i64 y2,.int .i64 y3,.int .i64 y4,.slice yo yn yc,.int .i64 y6,.bool y7] 43
 have x1 := hx.cell 1
 have x0 := hx.cell 0
 obtain ⟨z0,z1⟩ := (h.on n0).cs2
 simp only [List.getElem?_toArray,List.getElem?_cons_zero,List.getElem?_cons_succ] at x0 x1
 have he := eqId y1 y2 c d r (by
  rw [← hr]
  by_cases h1 : y1 = c <;> by_cases h2 : y2 = d <;> simp [h1,h2])
 have N0 := Lib.hid n0
 clear n0 hx h hr
 go_enter Tryz.func91,Tryz.ntmps91
 go_wp2
 go_ret
 exact ⟨rfl,N0.out⟩
theorem ixfN_any (v : Sl) (l : List XEn) (b2 : Nat) (c d : Int) (w : World) (hs : Row EN w (slv v) l) (hb2 : Box w b2 #[.int .i64 c,.int .i64 d] 38) :
  Calls Tryz.prog 131 #[slv v,.func (.func 91) #[] #[.pointer (some ⟨b2,0,none⟩)]] w fun e w' => e = .returned (.int .i64 (findI (l.map keyT) (c,d))) ∧ Below w.heap.size w w' := by
 obtain ⟨so,sn,sc⟩ := v
 obtain ⟨ao,ac,hv⟩ := hs.len
 have hv : Value.slice so sn sc = .slice ao l.length ac := hv
 obtain ⟨rfl,rfl,rfl⟩ : so = ao ∧ sn = l.length ∧ sc = ac := by simpa using hv
 have HS := Lib.hid hs
 have X2 := Lib.hid hb2
 have lm := hs.most
 unfold maxLen at lm
 obtain ⟨n,hn⟩ : ∃ n,n = l.length := ⟨_,rfl⟩
 rw [← hn] at HS lm ⊢
 have HN := Lib.hid hn.symm
 clear hb2 hs hv hn
 go_enter Tryz.func131,Tryz.ntmps131
 go_wp2
 go_loopw [8] (fun i wr => ∃ k : Nat,k ≤ n ∧ i = .int .i64 k ∧ Below w.heap.size w wr ∧ ∀ (j : Nat) (y : XEn),j < k → l[j]? = some y → keyT y ≠ (c,d)) (fun i _ => n - (intOf i).toNat)
 case atStart => exact ⟨0,Nat.zero_le _,rfl,Below.refl _ _,fun j y h => by omega⟩
 case round =>
  obtain ⟨k,hk,rfl,hbe,hall⟩ := hrel
  have BE := Lib.hid hbe
  have AL := Lib.hid hall
  clear hbe hall
  by_cases hlt : k < n
  ·obtain ⟨y,hy⟩ : ∃ y,l[k]? = some y := ⟨_,List.getElem?_eq_getElem (by rw [HN.out]; exact hlt)⟩
   obtain ⟨p,ix,px⟩ := elN HS.out rfl HN.out hy
   obtain ⟨p0,p1,p2,p3,p4,p5,p6⟩ := px wr BE.out
   obtain ⟨r,hr⟩ : ∃ r,decide (keyT y = (c,d)) = r := ⟨_,rfl⟩
   have CL := Lib.hid (cloN_any y b2 c d r hr wr (X2.out.on BE.out))
   have HY := Lib.hid hy
   have HR := Lib.hid hr
   obtain ⟨y1,y2,y3,y4,⟨yo,yn,yc⟩,y6,y7⟩ := y
   simp only at p0 p1 p2 p3 p4 p5 p6
   have hw3 : IntKind.i64.wrap ((k : Int) + 1) = (k : Int) + 1 := IntWalk.i64_in _ (by omega)
   clear px hy hr
   go_wp2_with fail
   refine CL.out.mono ?_
   rintro e w1 ⟨rfl,hb⟩
   have B1 := Lib.hid (BE.out.trans (hb.mono BE.out.size))
   clear hb CL ix p0 p1 p2 p3 p4 p5 p6
   cases r
   ·go_wp2
    go_roundw
    case rel => exact ⟨k + 1,by omega,by go_num,B1.out,fun j y' hj h1 => by
     rcases Nat.lt_or_ge j k with h3 | h3
     ·exact AL.out j y' h3 h1
     ·obtain rfl : j = k := by omega
      have e1 := HY.out
      rw [h1] at e1
      rw [Option.some.inj e1]
      exact of_decide_eq_false HR.out⟩
    case measure => simp [intOf]; omega
   ·go_wp2
    go_ret
    exact ⟨by rw [findI_at (l.map keyT) k (c,d) (by rw [List.getElem?_map,HY.out]; exact congrArg some (of_decide_eq_true HR.out)) (fun j z hj hz => by
     rw [List.getElem?_map] at hz
     cases hz2 : l[j]? with
     | none => rw [hz2] at hz; cases hz
     | some u => rw [hz2] at hz; rw [← Option.some.inj hz]; exact AL.out j u hj hz2)]; rfl,B1.out⟩
  ·obtain rfl : k = n := by omega
   go_wp2
   go_ret
   exact ⟨by rw [findI_none (l.map keyT) (c,d) (fun j z hz => by
     rw [List.getElem?_map] at hz
     cases hz2 : l[j]? with
     | none => rw [hz2] at hz; cases hz
     | some u => rw [hz2] at hz; rw [← Option.some.inj hz]; exact AL.out j u (by rw [← HN.out]; exact (List.getElem?_eq_some_iff.1 hz2).1) hz2)]; rfl,BE.out⟩
abbrev keepN (c d : Int) (x : XEn) : Bool := decide (keyT x ≠ (c,d))
theorem delN_any (B : Nat) (v : Sl) (l : List XEn) (b2 : Nat) (c d : Int) (w : World) (ho : Own EN w B (slv v) l) (hb2 : Box w b2 #[.int .i64 c,.int .i64 d] 38) (hB : B ≤ w.heap.size) :
  Calls Tryz.prog 90 #[slv v,.func (.func 91) #[] #[.pointer (some ⟨b2,0,none⟩)]] w fun e w' => (∃ v' : Sl,e = .returned (slv v') ∧ Own EN w' B (slv v') (l.filter (keepN c d))) ∧ Below B w w' ∧ Off (slv v).ownBlock w w' := by
 obtain ⟨so,sn,sc⟩ := v
 obtain ⟨ao,ac,hv⟩ := (Row.of_own ho).len
 have hv : Value.slice so sn sc = .slice ao l.length ac := hv
 obtain ⟨rfl,rfl,rfl⟩ : so = ao ∧ sn = l.length ∧ sc = ac := by simpa using hv
 have IX := Lib.hid (ixfN_any (so,l.length,sc) l b2 c d w (Row.of_own ho) hb2)
 have HO := Lib.hid ho
 have X2 := Lib.hid hb2
 have lm := (Row.of_own ho).most
 unfold maxLen at lm
 have BZ := Lib.hid (show w.heap.size ≤ w.heap.size from Nat.le_refl _)
 obtain ⟨n,hn⟩ : ∃ n,n = l.length := ⟨_,rfl⟩
 rw [← hn] at HO lm IX ⊢
 have HN := Lib.hid hn.symm
 obtain ⟨q,hq⟩ : ∃ q,findI (l.map keyT) (c,d) = q := ⟨_,rfl⟩
 rw [hq] at IX
 have HQ := Lib.hid hq
 have HB := Lib.hid hB
 have LB := Lib.hid (show ∀ g,(slv (so,n,sc)).ownBlock = some g → B ≤ g from fun g hg => (HO.out.lt g hg).1)
 clear hb2 ho hv hn hB
 by_cases hneg : q = -1
 ·subst hneg
  go_enter Tryz.func90,Tryz.ntmps90
  go_wp2_with fail
  refine IX.out.mono ?_
  rintro e w1 ⟨rfl,hb⟩
  have FE := Lib.hid (show l.filter (keepN c d) = l from by
   rw [List.filter_eq_self]
   intro y hy
   obtain ⟨j,hj⟩ := List.mem_iff_getElem?.1 hy
   exact decide_eq_true (findI_neg hq j y hj))
  have BH := Lib.hid hb
  clear hb hq
  go_wp2
  go_ret
  exact ⟨⟨(so,n,sc),rfl,by rw [FE.out]; exact Bk.own_on HO.out BH.out⟩,BH.out.mono HB.out,fun j hj _ => BH.out.block j hj,BH.out.size⟩
 ·obtain ⟨k,rfl⟩ : ∃ k : Nat,q = k := ⟨q.toNat,by have := findI_bd (l.map keyT) (c,d); omega⟩
  obtain ⟨g1,g2⟩ := findI_get hq
  obtain ⟨x,hx,hxk⟩ : ∃ x,l[k]? = some x ∧ keyT x = (c,d) := by
   rw [List.getElem?_map] at g1
   cases hz : l[k]? with
   | none => rw [hz] at g1; cases g1
   | some x => rw [hz] at g1; exact ⟨x,rfl,Option.some.inj g1⟩
  have ST0 := Lib.hid (filter_first (keep := keepN c d) hx (decide_eq_false (by simp [hxk])) (fun j y hj hy => decide_eq_true (g2 j (keyT y) hj (by rw [List.getElem?_map,hy]; rfl))))
  have hkl : k < n := by rw [← HN.out]; exact (List.getElem?_eq_some_iff.1 hx).1
  obtain ⟨g,rfl,hBg⟩ : ∃ g,so = some ⟨g,0,none⟩ ∧ B ≤ g := own_some HO.out (show 0 < n by omega)
  have BG := Lib.hid hBg
  have TG := Lib.hid (tag_own HO.out)
  have hcap : n ≤ sc := by
   rcases own_open HO.out with ⟨h1,_⟩ | ⟨g',c',cur,h1,h2,h3,h4,h5,h6,h7⟩
   ·cases h1
   ·have e1 : sc = c' := by simpa using congrArg (fun v => match v with | Value.slice _ _ c => c | _ => 0) h1
    have := HN.out
    omega
  have hw0 : IntKind.i64.wrap ((k : Int) + 1) = (k : Int) + 1 := IntWalk.i64_in _ (by omega)
  have hk1 : ((k : Int) == -1) = false := by rw [beq_eq_false_iff_ne]; omega
  clear hq g1 g2 hx hxk x hneg hBg LB
  go_enter Tryz.func90,Tryz.ntmps90
  go_wp2_with fail
  refine IX.out.mono ?_
  rintro e w1 ⟨rfl,hb⟩
  have O1 := Lib.hid (Bk.own_on HO.out hb)
  have B1 := Lib.hid (hb.mono HB.out)
  have F1 := Lib.hid (show Off (some g) w w1 from ⟨fun j hj _ => hb.block j hj,hb.size⟩)
  clear hb IX
  go_wp2
  clear hw0 hk1
  go_loopw [5,6] (fun s5 s6 wr => ∃ (i j : Nat) (L : List XEn),s5 = .int .i64 i ∧ s6 = .int .i64 j ∧ j ≤ n ∧ DelSt (keepN c d) l i j L ∧ Own EN wr B (.slice (some ⟨g,0,none⟩) n sc) L ∧ Below B w wr ∧ Off (some g) w wr) (fun _ s6 _ => n - (intOf s6).toNat)
  case atStart => exact ⟨k,k + 1,l,rfl,by go_num,by omega,ST0.out,O1.out,B1.out,F1.out⟩
  case round =>
   obtain ⟨i,j,L,rfl,rfl,hj,hst,how,hbe,hof⟩ := hrel
   have ST := Lib.hid hst
   have OW := Lib.hid how
   have BE := Lib.hid hbe
   have OF := Lib.hid hof
   have hij := hst.lt
   have LN := Lib.hid (show L.length = n from hst.len.trans HN.out)
   clear hst how hbe hof O1 B1 F1 ST0
   by_cases hlt : j < n
   ·obtain ⟨y,hy⟩ : ∃ y,l[j]? = some y := ⟨_,List.getElem?_eq_getElem (by rw [HN.out]; exact hlt)⟩
    have hyL : L[j]? = some y := by rw [ST.out.at,hy]
    obtain ⟨p,ix,px⟩ := elN (Row.of_own OW.out) rfl LN.out hyL
    obtain ⟨p0,p1,p2,p3,p4,p5,p6⟩ := px wr (Below.refl _ _)
    obtain ⟨r,hr⟩ : ∃ r,decide (keyT y = (c,d)) = r := ⟨_,rfl⟩
    have HY := Lib.hid hy
    have hw3 : IntKind.i64.wrap ((j : Int) + 1) = (j : Int) + 1 := IntWalk.i64_in _ (by omega)
    have hw5 : IntKind.i64.wrap ((i : Int) + 1) = (i : Int) + 1 := IntWalk.i64_in _ (by omega)
    obtain ⟨z,hz⟩ : ∃ z,L[i]? = some z := ⟨_,List.getElem?_eq_getElem (by rw [LN.out]; omega)⟩
    have HZ := Lib.hid hz
    have X2w := OF.out.box X2.out TG.out (by decide)
    have CLO := cloN_any y b2 c d r hr
    have KP := Lib.hid (show keepN c d y = !r from by rw [← hr]; simp [keepN])
    obtain ⟨y1,y2,y3,y4,⟨yo,yn,yc⟩,y6,y7⟩ := y
    simp only at p0 p1 p2 p3 p4 p5 p6
    have NB := Lib.hid (newB wr (.cells #[.int .i64 y1,.int .i64 y2,.int .i64 y3,.int .i64 y4,.slice yo yn yc,.int .i64 y6,.bool y7] 43))
    have CL := Lib.hid (CLO _ (X2w.on NB.out))
    clear hy hyL px hr hz CLO X2w
    go_wp2_with fail
    refine CL.out.mono ?_
    rintro e w2 ⟨rfl,hb⟩
    have BB := Lib.hid (NB.out.trans (hb.mono NB.out.size))
    have Y7 := (box_new wr #[.int .i64 y1,.int .i64 y2,.int .i64 y3,.int .i64 y4,.slice yo yn yc,.int .i64 y6,.bool y7] 43).on hb
    obtain ⟨q0,q1,q2,q3,q4,q5,q6⟩ := Y7.cs7
    have O2 := Lib.hid (Bk.own_on OW.out BB.out)
    clear hb CL ix p0 p1 p2 p3 p4 p5 p6 Y7
    cases r
    ·have ix := index_own okN g i n sc (by omega)
     have ix : ∀ w,(Instr.indexAt 28 (.slice (some ⟨g,0,none⟩) n sc) (.int .i64 i)).run Tryz.prog w = .ok (.pointer (some ⟨g,i * 7,none⟩)) w := ix
     have ca := own_row_at okN O2.out HZ.out w2 (Below.refl _ _)
     have ce0 := ca 0 _ rfl
     have ce1 := ca 1 _ rfl
     have ce2 := ca 2 _ rfl
     have ce3 := ca 3 _ rfl
     have ce4 := ca 4 _ rfl
     have ce5 := ca 5 _ rfl
     have ce6 := ca 6 _ rfl
     simp [Addr.add,EN] at ce0 ce1 ce2 ce3 ce4 ce5 ce6
     obtain ⟨cur,hbx⟩ := own_tag O2.out
     have f := fun j => hbx.fr j
     have gl := hbx.lt
     have SQ : StoQ EN B g (.slice (some ⟨g,0,none⟩) n sc) (L.set i (y1,y2,y3,y4,(yo,yn,yc),y6,y7)) w2 (((((((w2.setCell ⟨g,i * 7,none⟩ (.int .i64 y1)).setCell ⟨g,i * 7 + 1,none⟩ (.int .i64 y2)).setCell ⟨g,i * 7 + 2,none⟩ (.int .i64 y3)).setCell ⟨g,i * 7 + 3,none⟩ (.int .i64 y4)).setCell ⟨g,i * 7 + 4,none⟩ (.slice yo yn yc)).setCell ⟨g,i * 7 + 5,none⟩ (.int .i64 y6)).setCell ⟨g,i * 7 + 6,none⟩ (.bool y7)) := stoN (y1,y2,y3,y4,(yo,yn,yc),y6,y7) O2.out (by rw [LN.out]; omega)
     have SQ := Lib.hid SQ
     clear hbx ca
     go_upto_region 10 with fail
     generalize (((((((w2.setCell ⟨g,i * 7,none⟩ (.int .i64 y1)).setCell ⟨g,i * 7 + 1,none⟩ (.int .i64 y2)).setCell ⟨g,i * 7 + 2,none⟩ (.int .i64 y3)).setCell ⟨g,i * 7 + 3,none⟩ (.int .i64 y4)).setCell ⟨g,i * 7 + 4,none⟩ (.slice yo yn yc)).setCell ⟨g,i * 7 + 5,none⟩ (.int .i64 y6)).setCell ⟨g,i * 7 + 6,none⟩ (.bool y7)) = w3 at *
     clear f gl ce0 ce1 ce2 ce3 ce4 ce5 ce6 ix
     go_wp2
     go_roundw
     case rel => exact ⟨i + 1,j + 1,L.set i (y1,y2,y3,y4,(yo,yn,yc),y6,y7),by go_num,by go_num,by omega,ST.out.keep HY.out KP.out,SQ.out.1,SQ.out.2.2 B w BG.out (BE.out.trans (BB.out.mono (Nat.le_trans HB.out OF.out.2))),⟨fun q hq hne => (SQ.out.2.1.1 q (Nat.lt_of_lt_of_le (Nat.lt_of_lt_of_le hq OF.out.2) BB.out.size) (fun e => hne (by rw [e]))).trans ((BB.out.block q (Nat.lt_of_lt_of_le hq OF.out.2)).trans (OF.out.1 q hq hne)),Nat.le_trans OF.out.2 (Nat.le_trans BB.out.size SQ.out.2.1.2)⟩⟩
     case measure => simp [intOf]; omega
    ·go_wp2
     go_roundw
     case rel => exact ⟨i,j + 1,L,rfl,by go_num,by omega,ST.out.skip HY.out KP.out,O2.out,BE.out.trans (BB.out.mono (Nat.le_trans HB.out OF.out.2)),⟨fun q hq hne => (BB.out.block q (Nat.lt_of_lt_of_le hq OF.out.2)).trans (OF.out.1 q hq hne),Nat.le_trans OF.out.2 BB.out.size⟩⟩
     case measure => simp [intOf]; omega
   ·obtain rfl : n = j := by omega
    obtain ⟨W',hr,h1,h2,h3⟩ := clear_own okN (by decide) OW.out hij (ty := 0)
    have sh := cut_hi (E := EN) okN g i n sc (by omega) (by omega)
    have sl := slice_lo (E := EN) okN ⟨g,0,none⟩ i n sc (by omega)
    have sh : ∀ w,(Instr.sliceAt 28 (.slice (some ⟨g,0,none⟩) n sc) (some (.int .i64 i)) none none).run Tryz.prog w = .ok (.slice (some ⟨g,i * 7,none⟩) (n - i) (sc - i)) w := sh
    have sl : ∀ w,(Instr.sliceAt 28 (.slice (some ⟨g,0,none⟩) n sc) none (some (.int .i64 i)) none).run Tryz.prog w = .ok (.slice (some ⟨g,0,none⟩) i sc) w := sl
    have hr : (Builtin.clear_ #[28] 0 #[.slice (some ⟨g,i * 7,none⟩) (n - i) (sc - i)]).run Tryz.prog wr = .ok (.tuple #[]) W' := hr
    have Q := Lib.hid (show (∃ v' : Sl,Ending.returned (.slice (some ⟨g,0,none⟩) i sc) = .returned (slv v') ∧ Own EN W' B (slv v') (l.filter (keepN c d))) ∧ Below B w W' ∧ Off (slv (some ⟨g,0,none⟩,n,sc)).ownBlock w W' from ⟨⟨(some ⟨g,0,none⟩,i,sc),rfl,by
     have e1 : l.take n = l := List.take_of_length_le (by rw [HN.out]; exact Nat.le_refl _)
     have e2 := ST.out.lo
     rw [e1] at e2
     rw [← e2]
     exact h1⟩,h3 B w BG.out BE.out,⟨fun q hq hne => (h2.1 q (Nat.lt_of_lt_of_le hq OF.out.2) (fun e => hne (by rw [e]; rfl))).trans (OF.out.1 q hq hne),Nat.le_trans OF.out.2 h2.2⟩⟩)
    clear h1 h2 h3 hlt
    go_wp2_with (first | (at_builtin; refine wpList_clear_run rfl _ _ 28 rfl rfl rfl hr ?_) | fail)
    go_ret
    exact Q.out
end Go.Proofs.YtncogjpmboglhaaGreat.Av
