/-
  ahead, place and branch of package subs, by sort.Search: where a tree'. Conditions as told.
-/
import Derived.Test.YtncogjpmboglhaaGreatG024
import Derived.Test.YtncogjpmboglhaaGreatG013
import Derived.Deep.LoopGhost
import Derived.Laws.Externs
import Derived.Shelf.Abstract
import Derived.Test.YtncogjpmboglhaaGreatG025
set_option maxRecDepth 100000
set_option maxHeartbeats 64000000
namespace Go.Proofs.YtncogjpmboglhaaGreat.Sb
open Go.RowKit Go.Sort Rw YtncogjpmboglhaaGreat.Nm Pr Bk Av
theorem ahead_any (x : XEn) (t s : XID) (r : Bool) (hr : lessP (keyN x) (t,s) = r) (w : World) : Calls Tryz.prog 120 #[valN x,idv t,idv s] w fun e w' => e = .returned (.bool r) ∧ Below w.heap.size w w' := by
 obtain ⟨y1,y2,y3,y4,⟨yo,yn,yc⟩,y6,y7⟩ := x
 obtain ⟨c,d⟩ := t
 obtain ⟨g,h⟩ := s
 obtain ⟨h0,X,Y,Z⟩ := three_new w #[.int .i64 y1,.int .i64 y2,.int .i64 y3,.int .i64 y4,.slice yo yn yc,.int .i64 y6,.bool y7] #[.int .i64 c,.int .i64 d] #[.int .i64 g,.int .i64 h] 43 38 38
 have x1 := X.cell 1
 have x0 := X.cell 0
 have x2 := X.cell 2
 have x3 := X.cell 3
 obtain ⟨c0,c1⟩ := Y.cs2
 obtain ⟨d0,d1⟩ := Z.cs2
 simp only [List.getElem?_toArray,List.getElem?_cons_zero,List.getElem?_cons_succ] at x0 x1 x2 x3
 have C1 := aless_any (y1,y2) (c,d)
 have C2 := aless_any (y3,y4) (g,h)
 have B := Lib.hid h0
 have he : lessP ((y1,y2),(y3,y4)) ((c,d),(g,h)) = if ((y1,y2) : XID) = (c,d) then lessI (y3,y4) (g,h) else lessI (y1,y2) (c,d) := by
  unfold lessP
  by_cases q : ((y1,y2) : XID) = (c,d)
  ·rw [if_pos q,q,lessI_irr,(eqI_iff _ _).2 rfl]; rfl
  ·rw [if_neg q,Bool.eq_false_iff.2 fun q2 => q ((eqI_iff _ _).1 q2)]; simp
 clear h0 X Y Z
 by_cases q : ((y1,y2) : XID) = (c,d)
 ·have hr2 := Lib.hid (show lessI (y3,y4) (g,h) = r by rw [← hr]; show _ = lessP ((y1,y2),(y3,y4)) ((c,d),(g,h)); rw [he,if_pos q])
  obtain ⟨rfl,rfl⟩ : y1 = c ∧ y2 = d := by simpa using q
  have hne := neId y1 y2 y1 y2 false (by simp)
  clear he hr q
  go_enter Tryz.func120,Tryz.ntmps120
  go_wp2_with fail
  refine (C2 _).mono ?_
  rintro e w1 ⟨rfl,hb⟩
  go_wp2
  go_ret
  exact ⟨congrArg (fun b => Ending.returned (.bool b)) hr2.out,B.out.trans (hb.mono B.out.size)⟩
 ·have hr2 := Lib.hid (show lessI (y1,y2) (c,d) = r by rw [← hr]; show _ = lessP ((y1,y2),(y3,y4)) ((c,d),(g,h)); rw [he,if_neg q])
  have hne := neId y1 y2 c d true (by rw [show (y1 == c && y2 == d) = false from Bool.eq_false_iff.2 fun h => q (by simp at h; rw [h.1,h.2])]; rfl)
  clear he hr q
  go_enter Tryz.func120,Tryz.ntmps120
  go_wp2_with fail
  refine (C1 _).mono ?_
  rintro e w1 ⟨rfl,hb⟩
  go_wp2
  go_ret
  exact ⟨congrArg (fun b => Ending.returned (.bool b)) hr2.out,B.out.trans (hb.mono B.out.size)⟩
theorem search_any (g : Nat) (cb : Array Value) (eg : ∀ args w,(callFunc g args).run Tryz.prog w = .ok (.enter g args) w) (n k : Nat) (p : Nat → Bool) (w : World) (hn : n ≤ 1000000)
  (hf : ∀ i,i < n → ∀ W,Below w.heap.size w W → Calls Tryz.prog g (#[.int .i64 i] ++ cb) W fun e w' => e = .returned (.bool (p i)) ∧ Below W.heap.size W w')
  (hk : k ≤ n) (hlo : ∀ i,i < k → p i = false) (hhi : ∀ i,k ≤ i → i < n → p i = true) :
  Calls Tryz.prog 115 #[.int .i64 n,.func (.func g) #[] cb] w fun e w' => e = .returned (.int .i64 k) ∧ Below w.heap.size w w' := by
 have HF := Lib.hid hf
 have LO := Lib.hid hlo
 have HI := Lib.hid hhi
 clear hf hlo hhi
 go_enter Tryz.func115,Tryz.ntmps115
 go_wp2
 go_loopg [5,6] n (fun kx s5 s6 wr => ∃ lo hi : Nat,s5 = .int .i64 lo ∧ s6 = .int .i64 hi ∧ lo ≤ k ∧ k ≤ hi ∧ hi ≤ n ∧ hi - lo ≤ kx ∧ Below w.heap.size w wr)
 case atStart => exact ⟨0,n,rfl,rfl,Nat.zero_le _,hk,Nat.le_refl _,by omega,Below.refl _ _⟩
 case round =>
  obtain ⟨lo,hi,rfl,rfl,hlk,hkh,hin,hg,hb⟩ := hrel
  have B := Lib.hid hb
  clear hb
  by_cases hlt : lo < hi
  ·have hc := HF.out ((lo + hi) / 2) (by omega) wr B.out
   rw [show (((lo + hi) / 2 : Nat) : Int) = ((lo : Int) + (hi : Int)) / 2 by omega] at hc
   cases hp : p ((lo + hi) / 2) <;> rw [hp] at hc
   ·have HP := Lib.hid hp
    have HK := Lib.hid (show (lo + hi) / 2 + 1 ≤ k from by
     rcases Nat.lt_or_ge ((lo + hi) / 2) k with h | h
     ·exact h
     ·have := HI.out _ h (by omega); rw [hp] at this; cases this)
    clear hp
    go_wp2_with (go_at_fn g; refine hc.mono ?_; rintro e w' ⟨rfl,hb2⟩)
    go_roundg (hi - ((lo + hi) / 2 + 1))
    case measure => omega
    case rel => exact ⟨(lo + hi) / 2 + 1,hi,by rw [show ((lo : Int) + (hi : Int)) / 2 + 1 = (((lo + hi) / 2 + 1 : Nat) : Int) by omega],rfl,HK.out,hkh,hin,Nat.le_refl _,B.out.trans (hb2.mono B.out.size)⟩
   ·have HP := Lib.hid hp
    have HK := Lib.hid (show k ≤ (lo + hi) / 2 from by
     rcases Nat.lt_or_ge ((lo + hi) / 2) k with h | h
     ·have := LO.out _ h; rw [hp] at this; cases this
     ·exact h)
    clear hp
    go_wp2_with (go_at_fn g; refine hc.mono ?_; rintro e w' ⟨rfl,hb2⟩)
    go_roundg ((lo + hi) / 2 - lo)
    case measure => omega
    case rel => exact ⟨lo,(lo + hi) / 2,rfl,by rw [show ((lo : Int) + (hi : Int)) / 2 = (((lo + hi) / 2 : Nat) : Int) by omega],hlk,HK.out,by omega,Nat.le_refl _,B.out.trans (hb2.mono B.out.size)⟩
  ·obtain rfl : hi = lo := by omega
   obtain rfl : hi = k := by omega
   go_wp2
   go_ret
   exact ⟨rfl,B.out⟩
theorem el_reN {W W1 : World} {v : Value} {l : List XEn} {ao : Option Addr} {n c k : Nat} {x : XEn} (h : RowN W v l) (hv : v = .slice ao n c) (hn : l.length = n) (hk : l[k]? = some x) (hb : Below W.heap.size W W1) :
  ∃ p : Addr,(∀ w,(Instr.indexAt 28 (.slice ao n c) (.int .i64 k)).run Tryz.prog w = .ok (.pointer (some p)) w) ∧
   (∀ d os,(grow (redrawn W1 d) os).cell? p = some (.int .i64 x.1)) ∧ (∀ d os,(grow (redrawn W1 d) os).cell? ⟨p.block,p.off + 1,none⟩ = some (.int .i64 x.2.1)) ∧
   (∀ d os,(grow (redrawn W1 d) os).cell? ⟨p.block,p.off + 2,none⟩ = some (.int .i64 x.2.2.1)) ∧ (∀ d os,(grow (redrawn W1 d) os).cell? ⟨p.block,p.off + 3,none⟩ = some (.int .i64 x.2.2.2.1)) ∧
   (∀ d os,(grow (redrawn W1 d) os).cell? ⟨p.block,p.off + 4,none⟩ = some (slv x.2.2.2.2.1)) ∧ (∀ d os,(grow (redrawn W1 d) os).cell? ⟨p.block,p.off + 5,none⟩ = some (.int .i64 x.2.2.2.2.2.1)) ∧
   (∀ d os,(grow (redrawn W1 d) os).cell? ⟨p.block,p.off + 6,none⟩ = some (.bool x.2.2.2.2.2.2)) := by
 obtain ⟨p,h1,h2⟩ := elN h hv hn hk
 obtain ⟨c0,c1,c2,c3,c4,c5,c6⟩ := h2 _ hb
 exact ⟨p,h1,cell_regrown c0,cell_regrown c1,cell_regrown c2,cell_regrown c3,cell_regrown c4,cell_regrown c5,cell_regrown c6⟩
theorem call_pl (args : Array Value) (w : World) : (callFunc 119 args).run Tryz.prog w = .ok (.enter 119 args) w := call_fn Tryz.func119 rfl rfl args w
theorem call_br (args : Array Value) (w : World) : (callFunc 116 args).run Tryz.prog w = .ok (.enter 116 args) w := call_fn Tryz.func116 rfl rfl args w
theorem pl1_any (i : Nat) (b1 b2 b3 : Nat) (ao : Option Addr) (n ac : Nat) (l : List XEn) (t s : XID) (y : XEn) (r : Bool) (w : World) (hv : RowN w (.slice ao n ac) l) (hn : l.length = n) (hy : l[i]? = some y) (hr : (!lessP (keyN y) (t,s)) = r)
  (h1 : Box w b1 #[.slice ao n ac] 28) (h2 : Box w b2 #[.int .i64 t.1,.int .i64 t.2] 38) (h3 : Box w b3 #[.int .i64 s.1,.int .i64 s.2] 38) :
  Calls Tryz.prog 119 #[.int .i64 i,.pointer (some ⟨b1,0,none⟩),.pointer (some ⟨b2,0,none⟩),.pointer (some ⟨b3,0,none⟩)] w fun e w' => e = .returned (.bool r) ∧ Below w.heap.size w w' := by
 obtain ⟨p,ix,p0,p1,p2,p3,p4,p5,p6⟩ := el_reN hv rfl hn hy (Below.refl _ _)
 have a0 := cell_regrown (h1.cell 0)
 have b0 := cell_regrown (h2.cell 0)
 have b1' := cell_regrown (h2.cell 1)
 have c0 := cell_regrown (h3.cell 0)
 have c1 := cell_regrown (h3.cell 1)
 obtain ⟨q,hq⟩ : ∃ q,lessP (keyN y) (t,s) = q := ⟨_,rfl⟩
 have C : ∀ k os,Calls Tryz.prog 120 #[valN y,idv t,idv s] (grow (redrawn w k) os) fun e w'' => e = .returned (.bool q) ∧ ∃ p : Regrown,w'' = grow (redrawn w p.d) p.os := fun k os => Calls.regrown_of (ahead_any y t s q hq _)
 rw [hq] at hr
 have R := Lib.hid hr
 have BN := Lib.hid (fun dq osq => below_regrown w dq osq)
 obtain ⟨y1,y2,y3,y4,⟨yo,yn,yc⟩,y6,y7⟩ := y
 obtain ⟨c,d⟩ := t
 obtain ⟨g,h⟩ := s
 simp only at p0 p1 p2 p3 p4 p5 p6 b0 b1' c0 c1 C
 clear hv hn hy hr hq h1 h2 h3
 go_enter Tryz.func119,Tryz.ntmps119
 go_wp2
 refine wp_region_quiet_below (by kernel_rfl) (by kernel_rfl) ?_
 repeat (go_big_quiet_step (first | (with_reducible exact C _ _) | exact call_ahead _ _))
 refine wpQuiet_nil ?_
 intro _ hw'
 obtain ⟨⟨dq,osq⟩,hw''⟩ := hw'
 subst hw''
 go_wp2
 go_ret
 exact ⟨congrArg (fun b => Ending.returned (.bool b)) R.out,BN.out _ _⟩
theorem br1_any (i : Nat) (b1 b2 : Nat) (ao : Option Addr) (n ac : Nat) (l : List XEn) (t : XID) (y : XEn) (r : Bool) (w : World) (hv : RowN w (.slice ao n ac) l) (hn : l.length = n) (hy : l[i]? = some y) (hr : (!lessI (y.1,y.2.1) t) = r)
  (h1 : Box w b1 #[.slice ao n ac] 28) (h2 : Box w b2 #[.int .i64 t.1,.int .i64 t.2] 38) :
  Calls Tryz.prog 116 #[.int .i64 i,.pointer (some ⟨b1,0,none⟩),.pointer (some ⟨b2,0,none⟩)] w fun e w' => e = .returned (.bool r) ∧ Below w.heap.size w w' := by
 obtain ⟨p,ix,p0,p1,p2,p3,p4,p5,p6⟩ := el_reN hv rfl hn hy (Below.refl _ _)
 have a0 := cell_regrown (h1.cell 0)
 have b0 := cell_regrown (h2.cell 0)
 have b1' := cell_regrown (h2.cell 1)
 have C : ∀ k os,Calls Tryz.prog 117 #[idv (y.1,y.2.1),idv t] (grow (redrawn w k) os) fun e w'' => e = .returned (.bool (lessI (y.1,y.2.1) t)) ∧ ∃ p : Regrown,w'' = grow (redrawn w p.d) p.os := fun k os => Calls.regrown_of (aless_any (y.1,y.2.1) t _)
 generalize lessI (y.1,y.2.1) t = q at *
 have R := Lib.hid hr
 have BN := Lib.hid (fun dq osq => below_regrown w dq osq)
 obtain ⟨y1,y2,y3,y4,⟨yo,yn,yc⟩,y6,y7⟩ := y
 obtain ⟨c,d⟩ := t
 simp only at p0 p1 p2 p3 p4 p5 p6 b0 b1' C
 clear hv hn hy hr h1 h2 p2 p3 p4 p5 p6
 go_enter Tryz.func116,Tryz.ntmps116
 go_wp2
 refine wp_region_quiet_below (by kernel_rfl) (by kernel_rfl) ?_
 repeat (go_big_quiet_step (first | (with_reducible exact C _ _) | exact call_less _ _))
 refine wpQuiet_nil ?_
 intro _ hw'
 obtain ⟨⟨dq,osq⟩,hw''⟩ := hw'
 subst hw''
 go_wp2
 go_ret
 exact ⟨congrArg (fun b => Ending.returned (.bool b)) R.out,BN.out _ _⟩
theorem sl_len {α : Type} {E : Ek α} {W : World} {so : Option Addr} {sn sc : Nat} {l : List α} (h : Row E W (.slice so sn sc) l) : l.length = sn := by
 obtain ⟨ao,ac,hv⟩ := h.len
 simp at hv
 exact hv.2.1.symm
theorem all2_key {W : World} {l : List XEn} {m : List En} (h : All2 (EnIn W) l m) {i : Nat} {y : XEn} (hy : l[i]? = some y) : ∃ e,m[i]? = some e ∧ keyN y = keyE e ∧ EnIn W y e := by
 have hlt := (List.getElem?_eq_some_iff.1 hy).1
 obtain ⟨e,he⟩ : ∃ e,m[i]? = some e := ⟨_,List.getElem?_eq_getElem (by rw [← h.len]; exact hlt)⟩
 obtain ⟨y',hy',hx⟩ := h.at i e he
 rw [hy] at hy'
 obtain rfl := Option.some.inj hy'
 exact ⟨e,he,Prod.ext hx.1 hx.2.1,hx⟩
theorem rise_less {m : List En} (hr : RiseE m) {i j : Nat} {x y : En} (hij : i < j) (hx : m[i]? = some x) (hy : m[j]? = some y) : cEn x y < 0 := by
 obtain ⟨h1,rfl⟩ := List.getElem?_eq_some_iff.1 hx
 obtain ⟨h2,rfl⟩ := List.getElem?_eq_some_iff.1 hy
 exact List.pairwise_iff_getElem.1 hr i j h1 h2 hij
theorem place_le (l : List (XID × XID)) (x : XID × XID) : placeP l x ≤ l.length := (List.takeWhile_sublist _).length_le
theorem place_hi {m : List En} (hr : RiseE m) (x : XID × XID) {i : Nat} {e : En} (hi : placeP (m.map keyE) x ≤ i) (he : m[i]? = some e) : lessP (keyE e) x = false := by
 have hlt := (List.getElem?_eq_some_iff.1 he).1
 obtain ⟨z,hz⟩ : ∃ z,m[placeP (m.map keyE) x]? = some z := ⟨_,List.getElem?_eq_getElem (by omega)⟩
 have h0 := place_not (m.map keyE) x (keyE z) (by rw [List.getElem?_map,hz]; rfl)
 rcases Nat.lt_or_ge (placeP (m.map keyE) x) i with h | h
 ·have h1 := rise_less hr h hz he
  cases hq : lessP (keyE e) x with
  | false => rfl
  | true =>
   rw [← lessP_iff] at h1
   have h2 : cEn z ⟨x.1,x.2,[],0,false⟩ < 0 := cEn_tr z e ⟨x.1,x.2,[],0,false⟩ ((lessP_iff z e).1 h1) ((lessP_iff e ⟨x.1,x.2,[],0,false⟩).1 hq)
   rw [← lessP_iff] at h2
   rw [show lessP (keyE z) x = true from h2] at h0
   cases h0
 ·have e1 : i = placeP (m.map keyE) x := by omega
  rw [e1,hz] at he
  rw [← Option.some.inj he]
  exact h0
theorem place_any (v : Sl) (l : List XEn) (m : List En) (t s : XID) (w : World) (hv : RowN w (slv v) l) (hA : All2 (EnIn w) l m) (hr : RiseE m) (hl : l.length ≤ 1000) :
  Calls Tryz.prog 74 #[slv v,idv t,idv s] w fun e w' => e = .returned (.tuple #[.int .i64 (placeP (m.map keyE) (t,s)),.bool (thereE m t s)]) ∧ Below w.heap.size w w' := by
 obtain ⟨so,n,sc⟩ := v
 have hn : l.length = n := sl_len hv
 obtain ⟨c,d⟩ := t
 obtain ⟨g,h⟩ := s
 obtain ⟨k,hk⟩ : ∃ k,placeP (m.map keyE) ((c,d),(g,h)) = k := ⟨_,rfl⟩
 obtain ⟨th,hth⟩ : ∃ k,thereE m (c,d) (g,h) = k := ⟨_,rfl⟩
 have hkn : k ≤ n := by rw [← hk,← hn,hA.len]; simpa using place_le (m.map keyE) ((c,d),(g,h))
 rw [hk,hth]
 obtain ⟨h0,X,Y,Z⟩ := three_new w #[.slice so n sc] #[.int .i64 c,.int .i64 d] #[.int .i64 g,.int .i64 h] 28 38 38
 have BB := Lib.hid h0
 have HV := Lib.hid (hv.on h0)
 have HA := Lib.hid (hA.mono fun _ _ q => q.on h0)
 have X1 := Lib.hid X
 have Y1 := Lib.hid Y
 have Z1 := Lib.hid Z
 have x0 := X.cell 0
 simp only [List.getElem?_toArray,List.getElem?_cons_zero] at x0
 have HF := Lib.hid (show ∀ i,i < n → ∀ W,Below (((w.alloc (.cells #[.slice so n sc] 28)).alloc (.cells #[.int .i64 c,.int .i64 d] 38)).alloc (.cells #[.int .i64 g,.int .i64 h] 38)).heap.size (((w.alloc (.cells #[.slice so n sc] 28)).alloc (.cells #[.int .i64 c,.int .i64 d] 38)).alloc (.cells #[.int .i64 g,.int .i64 h] 38)) W →
   Calls Tryz.prog 119 (#[.int .i64 i] ++ #[.pointer (some ⟨w.heap.size,0,none⟩),.pointer (some ⟨w.heap.size + 1,0,none⟩),.pointer (some ⟨w.heap.size + 1 + 1,0,none⟩)]) W fun e w' => e = .returned (.bool ((fun i => match l[i]? with | some y => !lessP (keyN y) ((c,d),(g,h)) | none => true) i)) ∧ Below W.heap.size W w' from fun i hi W hb => by
  obtain ⟨y,hy⟩ : ∃ y,l[i]? = some y := ⟨_,List.getElem?_eq_getElem (by omega)⟩
  refine pl1_any i _ _ _ so n sc l (c,d) (g,h) y _ W (HV.out.on hb) hn hy ?_ (X1.out.on hb) (Y1.out.on hb) (Z1.out.on hb)
  simp only [hy])
 have HLO := Lib.hid (show ∀ i,i < k → (fun i => match l[i]? with | some y => !lessP (keyN y) ((c,d),(g,h)) | none => true) i = false from fun i hi => by
  obtain ⟨y,hy⟩ : ∃ y,l[i]? = some y := ⟨_,List.getElem?_eq_getElem (by omega)⟩
  obtain ⟨e,he,hke,_⟩ := all2_key HA.out hy
  have h1 := take_less (m.map keyE) ((c,d),(g,h)) i (keyE e) (by rw [hk]; exact hi) (by rw [List.getElem?_map,he]; rfl)
  simp only [hy,hke,h1]
  rfl)
 have HHI := Lib.hid (show ∀ i,k ≤ i → i < n → (fun i => match l[i]? with | some y => !lessP (keyN y) ((c,d),(g,h)) | none => true) i = true from fun i hi hi2 => by
  obtain ⟨y,hy⟩ : ∃ y,l[i]? = some y := ⟨_,List.getElem?_eq_getElem (by omega)⟩
  obtain ⟨e,he,hke,_⟩ := all2_key HA.out hy
  have h1 := Sb.place_hi hr ((c,d),(g,h)) (by rw [hk]; exact hi) he
  simp only [hy,hke,h1]
  rfl)
 have HK := Lib.hid hk
 have HT := Lib.hid hth
 have HN := Lib.hid hn
 have ln : n ≤ 1000 := by omega
 clear hv hA h0 X Y Z hk hth hl hn hr
 go_enter Tryz.func74,Tryz.ntmps74
 go_wp2_with fail
 generalize ((w.alloc (.cells #[.slice so n sc] 28)).alloc (.cells #[.int .i64 c,.int .i64 d] 38)).alloc (.cells #[.int .i64 g,.int .i64 h] 38) = W at *
 refine (search_any 119 #[.pointer (some ⟨w.heap.size,0,none⟩),.pointer (some ⟨w.heap.size + 1,0,none⟩),.pointer (some ⟨w.heap.size + 1 + 1,0,none⟩)] call_pl n k _ W (by omega) HF.out hkn HLO.out HHI.out).mono ?_
 rintro e1 w1 ⟨rfl,hb⟩
 have BN := Lib.hid (fun dq osq => (BB.out.trans (hb.mono BB.out.size)).trans ((below_regrown w1 dq osq).mono (BB.out.trans (hb.mono BB.out.size)).size))
 have a0 := cell_regrown (show w1.cell? ⟨w.heap.size,0,none⟩ = some (.slice so n sc) from (X1.out.on hb).cell 0)
 have b0 := cell_regrown (show w1.cell? ⟨w.heap.size + 1,0,none⟩ = some (.int .i64 c) from (Y1.out.on hb).cell 0)
 have b1 := cell_regrown (show w1.cell? ⟨w.heap.size + 1,1,none⟩ = some (.int .i64 d) from (Y1.out.on hb).cell 1)
 have c0 := cell_regrown (show w1.cell? ⟨w.heap.size + 1 + 1,0,none⟩ = some (.int .i64 g) from (Z1.out.on hb).cell 0)
 have c1 := cell_regrown (show w1.cell? ⟨w.heap.size + 1 + 1,1,none⟩ = some (.int .i64 h) from (Z1.out.on hb).cell 1)
 clear x0 HF HLO HHI
 by_cases hkl : k < n
 ·obtain ⟨y,hy⟩ : ∃ y,l[k]? = some y := ⟨_,List.getElem?_eq_getElem (by rw [HN.out]; exact hkl)⟩
  obtain ⟨p,ix,p0,p1,p2,p3,p4,p5,p6⟩ := el_reN HV.out rfl HN.out hy hb
  have TH := Lib.hid (show th = decide (keyN y = ((c,d),(g,h))) from by
   obtain ⟨e,he,hke,_⟩ := all2_key HA.out hy
   rw [← HT.out,thereE,HK.out,he,hke])
  have g4 : decide ((k : Int) < (n : Int)) = true := by simp; omega
  obtain ⟨y1,y2,y3,y4,⟨yo,yn,yc⟩,y6,y7⟩ := y
  simp only at p0 p1 p2 p3
  clear p4 p5 p6 hb hy
  obtain ⟨r1,hr1⟩ : ∃ r,(y1 == c && y2 == d) = r := ⟨_,rfl⟩
  obtain ⟨r2,hr2⟩ : ∃ r,(y3 == g && y4 == h) = r := ⟨_,rfl⟩
  have e1 := eqId y1 y2 c d r1 hr1
  have e2 := eqId y3 y4 g h r2 hr2
  have R := Lib.hid (show th = (r1 && r2) from by
   rw [TH.out,← hr1,← hr2,Bool.eq_iff_iff]
   simp only [decide_eq_true_eq,Bool.and_eq_true,beq_iff_eq,Prod.mk.injEq])
  clear hr1 hr2 TH HT
  cases r1 <;> cases r2
  all_goals
   go_wp2
   refine wp_region_quiet_below (by kernel_rfl) (by kernel_rfl) ?_
   repeat (go_big_quiet_step (fail))
   refine wpQuiet_nil ?_
   intro _ hw'
   obtain ⟨⟨dq,osq⟩,hw''⟩ := hw'
   subst hw''
   go_wp2
   go_ret2
   exact ⟨by rw [R.out]; rfl,BN.out _ _⟩
 ·have TH := Lib.hid (show th = false from by
   rw [← HT.out,thereE,HK.out,List.getElem?_eq_none (by rw [← HA.out.len,HN.out]; omega)])
  have g4 : decide ((k : Int) < (n : Int)) = false := by simp; omega
  clear hb HT
  go_wp2
  refine wp_region_quiet_below (by kernel_rfl) (by kernel_rfl) ?_
  repeat (go_big_quiet_step (fail))
  refine wpQuiet_nil ?_
  intro _ hw'
  obtain ⟨⟨dq,osq⟩,hw''⟩ := hw'
  subst hw''
  go_wp2
  go_ret2
  exact ⟨by rw [TH.out]; rfl,BN.out _ _⟩
def cutV (v : Sl) (f k : Nat) : Sl := match v with
 | (some a,_,c) => (some (if c = f then a else a.add (f * 7)),k,c - f)
 | (none,_,_) => (none,0,0)
theorem tw_lt {α : Type} (p : α → Bool) : ∀ (l : List α) (j : Nat) (y : α),j < (l.takeWhile p).length → l[j]? = some y → p y = true
 | [],_,_,_,h => by simp at h
 | a :: l,j,y,hj,h => by
  by_cases ha : p a = true
  ·rw [List.takeWhile_cons,if_pos ha,List.length_cons] at hj
   cases j with
   | zero => rw [← Option.some.inj (show some a = some y from h)]; exact ha
   | succ j => exact tw_lt p l j y (by omega) (by simpa using h)
  ·rw [List.takeWhile_cons,if_neg ha] at hj
   simp at hj
theorem tw_end {α : Type} (p : α → Bool) : ∀ (l : List α) (y : α),l[(l.takeWhile p).length]? = some y → p y = false
 | [],_,h => by simp at h
 | a :: l,y,h => by
  by_cases ha : p a = true
  ·rw [List.takeWhile_cons,if_pos ha,List.length_cons] at h
   exact tw_end p l y (by simpa using h)
  ·rw [List.takeWhile_cons,if_neg ha] at h
   rw [← Option.some.inj (show some a = some y from h)]
   simpa using ha
theorem slice_cut (a : Addr) (f e len cap : Nat) (h : f ≤ e) (h6 : e ≤ cap) (w : World) : (Instr.sliceAt 28 (.slice (some a) len cap) (some (.int .i64 f)) (some (.int .i64 e)) none).run Tryz.prog w = .ok (slv (cutV (some a,len,cap) f (e - f))) w := by
 have h1 : (f : Int) ≤ (e : Int) := by omega
 have h3 : (e : Int) ≤ cap := by omega
 obtain ⟨i,i1,i2,i3,i4⟩ := okN.info
 have i1' : Tryz.prog.info? 43 = some i := i1
 have hu' : Tryz.prog.underlying 28 = some (.slice 43) := okN.hu
 have i3' : i.size = 7 := i3
 by_cases he : cap = f
 ·subst he
  obtain rfl : e = cap := by omega
  simp [go_sem,hu',sizeOf,typeInfo,i1',i3',cutV]
 ·simp [go_sem,hu',sizeOf,typeInfo,i1',i3',cutV,he,h,h6]
theorem row_cut {W : World} {v : Sl} {l : List XEn} (h : RowN W (slv v) l) (f k : Nat) (hk : f + k ≤ l.length) :
  (∀ w,(Instr.sliceAt 28 (slv v) (some (.int .i64 f)) (some (.int .i64 ((f + k : Nat) : Int))) none).run Tryz.prog w = .ok (slv (cutV v f k)) w) ∧ RowN W (slv (cutV v f k)) ((l.drop f).take k) := by
 obtain ⟨so,sn,sc⟩ := v
 rcases h with ⟨rfl,hv⟩ | ⟨a,cap,hv,h2,h3,h4⟩
 ·obtain ⟨rfl,rfl,rfl⟩ : so = none ∧ sn = 0 ∧ sc = 0 := by simpa using hv
  obtain ⟨rfl,rfl⟩ : f = 0 ∧ k = 0 := by simp at hk; omega
  refine ⟨fun w => ?_,Or.inl ⟨rfl,rfl⟩⟩
  obtain ⟨i,i1,i2,i3,i4⟩ := okN.info
  have i1' : Tryz.prog.info? 43 = some i := i1
  have hu' : Tryz.prog.underlying 28 = some (.slice 43) := okN.hu
  simp [go_sem,hu',sizeOf,typeInfo,i1',cutV]
 ·obtain ⟨rfl,rfl,rfl⟩ : so = some a ∧ sn = l.length ∧ sc = cap := by simpa using hv
  refine ⟨fun w => by have h := slice_cut a f (f + k) l.length sc (Nat.le_add_right _ _) (Nat.le_trans hk h2) w; rwa [Nat.add_sub_cancel_left] at h,?_⟩
  refine Or.inr ⟨(if sc = f then a else a.add (f * 7)),sc - f,?_,?_,by omega,fun j u hj => ?_⟩
  ·have e : ((l.drop f).take k).length = k := by rw [List.length_take,List.length_drop]; omega
   rw [e]
   rfl
  ·rw [List.length_take,List.length_drop]; omega
  ·have hlt := (List.getElem?_eq_some_iff.1 hj).1
   have hlen : (flat EN ((l.drop f).take k)).length = k * 7 := by
    rw [flat_length okN,List.length_take,List.length_drop]
    show _ * 7 = _
    rw [show min k (l.length - f) = k by omega]
   rw [hlen] at hlt
   rw [if_neg (by omega),add_add]
   refine h4 _ u ?_
   have e1 : flat EN l = flat EN (l.take f) ++ (flat EN ((l.drop f).take k) ++ flat EN ((l.drop f).drop k)) := by
    rw [← flat_append,List.take_append_drop,← flat_append,List.take_append_drop]
   have e2 : (flat EN (l.take f)).length = f * 7 := by
    rw [flat_length okN,List.length_take]
    show _ * 7 = _
    rw [show min f l.length = f by omega]
   rw [e1,List.getElem?_append_right (by rw [e2]; omega),e2,show f * 7 + j - f * 7 = j by omega,List.getElem?_append_left (by rw [hlen]; exact hlt)]
   exact hj
theorem fromT_len (m : List En) (t : XID) : fromT m t + (brE m t).length ≤ m.length := by
 have h1 : (brE m t).length ≤ (m.drop (fromT m t)).length := (List.takeWhile_sublist _).length_le
 have h2 : fromT m t ≤ m.length := (List.takeWhile_sublist _).length_le
 rw [List.length_drop] at h1
 omega
theorem branch_any (v : Sl) (l : List XEn) (m : List En) (t : XID) (w : World) (hv : RowN w (slv v) l) (hA : All2 (EnIn w) l m) (hr : RiseE m) (hl : l.length ≤ 1000) :
  Calls Tryz.prog 72 #[slv v,idv t] w fun e w' => e = .returned (slv (cutV v (fromT m t) (brE m t).length)) ∧ Below w.heap.size w w' := by
 have hfk := fromT_len m t
 have hML : l.length = m.length := hA.len
 obtain ⟨f,hf⟩ : ∃ f,fromT m t = f := ⟨_,rfl⟩
 obtain ⟨k,hk⟩ : ∃ k,(brE m t).length = k := ⟨_,rfl⟩
 rw [hf,hk] at hfk ⊢
 have RC := Lib.hid ((row_cut hv f k (by omega)).1)
 obtain ⟨so,n,sc⟩ := v
 generalize cutV (so,n,sc) f k = z at RC ⊢
 obtain ⟨z1,z2,z3⟩ := z
 have hn : l.length = n := sl_len hv
 obtain ⟨c,d⟩ := t
 obtain ⟨h0,X,Y⟩ := two_new w #[.slice so n sc] #[.int .i64 c,.int .i64 d] 28 38
 have BB := Lib.hid h0
 have HV := Lib.hid (hv.on h0)
 have HA := Lib.hid (hA.mono fun _ _ q => q.on h0)
 have X1 := Lib.hid X
 have Y1 := Lib.hid Y
 have x0 := X.cell 0
 simp only [List.getElem?_toArray,List.getElem?_cons_zero] at x0
 have FL : ∀ (i : Nat) (e : En),i < f → m[i]? = some e → lessI e.tree (c,d) = true := fun i e hi he => tw_lt (fun e : En => lessI e.tree (c,d)) m i e (by unfold fromT at hf; omega) he
 have FH : ∀ (i : Nat) (e : En),f ≤ i → m[i]? = some e → lessI e.tree (c,d) = false := fun i e hi he => by
  refine lo_out (c,d) hr e ?_
  rw [← drop_len]
  unfold fromT at hf
  rw [hf]
  exact List.mem_of_getElem? (show (m.drop f)[i - f]? = some e by rw [List.getElem?_drop,show f + (i - f) = i by omega]; exact he)
 have BL := Lib.hid (show ∀ (i : Nat) (e : En),i < k → m[f + i]? = some e → e.tree = (c,d) from fun i e hi he => by
  have := tw_lt (fun e : En => decide (e.tree = (c,d))) (m.drop f) i e (by unfold brE at hk; rw [hf] at hk; omega) (by rw [List.getElem?_drop]; exact he)
  exact of_decide_eq_true this)
 have BH := Lib.hid (show ∀ (e : En),m[f + k]? = some e → e.tree ≠ (c,d) from fun e he => by
  have := tw_end (fun e : En => decide (e.tree = (c,d))) (m.drop f) e (by unfold brE at hk; rw [hf] at hk; rw [hk,List.getElem?_drop]; exact he)
  exact of_decide_eq_false this)
 have HF := Lib.hid (show ∀ i,i < n → ∀ W,Below ((w.alloc (.cells #[.slice so n sc] 28)).alloc (.cells #[.int .i64 c,.int .i64 d] 38)).heap.size ((w.alloc (.cells #[.slice so n sc] 28)).alloc (.cells #[.int .i64 c,.int .i64 d] 38)) W →
   Calls Tryz.prog 116 (#[.int .i64 i] ++ #[.pointer (some ⟨w.heap.size,0,none⟩),.pointer (some ⟨w.heap.size + 1,0,none⟩)]) W fun e w' => e = .returned (.bool ((fun i => match l[i]? with | some y => !lessI (y.1,y.2.1) (c,d) | none => true) i)) ∧ Below W.heap.size W w' from fun i hi W hb => by
  obtain ⟨y,hy⟩ : ∃ y,l[i]? = some y := ⟨_,List.getElem?_eq_getElem (by omega)⟩
  refine br1_any i _ _ so n sc l (c,d) y _ W (HV.out.on hb) hn hy ?_ (X1.out.on hb) (Y1.out.on hb)
  simp only [hy])
 have HLO := Lib.hid (show ∀ i,i < f → (fun i => match l[i]? with | some y => !lessI (y.1,y.2.1) (c,d) | none => true) i = false from fun i hi => by
  obtain ⟨y,hy⟩ : ∃ y,l[i]? = some y := ⟨_,List.getElem?_eq_getElem (by omega)⟩
  obtain ⟨e,he,hke,hx⟩ := all2_key HA.out hy
  have h1 := FL i e hi he
  rw [← hx.1] at h1
  simp only [hy,h1]
  rfl)
 have HHI := Lib.hid (show ∀ i,f ≤ i → i < n → (fun i => match l[i]? with | some y => !lessI (y.1,y.2.1) (c,d) | none => true) i = true from fun i hi hi2 => by
  obtain ⟨y,hy⟩ : ∃ y,l[i]? = some y := ⟨_,List.getElem?_eq_getElem (by omega)⟩
  obtain ⟨e,he,hke,hx⟩ := all2_key HA.out hy
  have h1 := FH i e hi he
  rw [← hx.1] at h1
  simp only [hy,h1]
  rfl)
 have HN := Lib.hid hn
 have ln : n ≤ 1000 := by omega
 have hfk2 : f + k ≤ n := by omega
 clear hv hA h0 X Y hk hf hl hn hr hfk hML FL FH
 go_enter Tryz.func72,Tryz.ntmps72
 go_wp2_with fail
 generalize (w.alloc (.cells #[.slice so n sc] 28)).alloc (.cells #[.int .i64 c,.int .i64 d] 38) = W at *
 refine (search_any 116 #[.pointer (some ⟨w.heap.size,0,none⟩),.pointer (some ⟨w.heap.size + 1,0,none⟩)] call_br n f _ W (by omega) HF.out (by omega) HLO.out HHI.out).mono ?_
 rintro e1 w1 ⟨rfl,hb⟩
 have B1 := Lib.hid hb
 clear x0 HF HLO HHI hb
 go_wp2
 go_loopw [6] (fun i wr => ∃ j : Nat,j ≤ k ∧ i = .int .i64 ((f + j : Nat) : Int) ∧ Below W.heap.size W wr) (fun i _ => f + k - (intOf i).toNat)
 case atStart => exact ⟨0,Nat.zero_le _,by simp,B1.out⟩
 case round =>
  obtain ⟨j,hj,rfl,hbe⟩ := hrel
  have BE := Lib.hid hbe
  have a0 := cell_regrown (show wr.cell? ⟨w.heap.size,0,none⟩ = some (.slice so n sc) from (X1.out.on hbe).cell 0)
  have b0 := cell_regrown (show wr.cell? ⟨w.heap.size + 1,0,none⟩ = some (.int .i64 c) from (Y1.out.on hbe).cell 0)
  have b1 := cell_regrown (show wr.cell? ⟨w.heap.size + 1,1,none⟩ = some (.int .i64 d) from (Y1.out.on hbe).cell 1)
  have BN := Lib.hid (fun dq osq => BE.out.trans ((below_regrown wr dq osq).mono BE.out.size))
  clear hbe
  by_cases hjk : j < k
  ·obtain ⟨y,hy⟩ : ∃ y,l[f + j]? = some y := ⟨_,List.getElem?_eq_getElem (by rw [HN.out]; omega)⟩
   obtain ⟨p,ix,p0,p1,p2,p3,p4,p5,p6⟩ := el_reN HV.out rfl HN.out hy BE.out
   obtain ⟨e,he,_,hx⟩ := all2_key HA.out hy
   have ht : (y.1,y.2.1) = (c,d) := hx.1.trans (BL.out j e hjk he)
   have hjn : f + j < n := by omega
   have g4 : decide (((f + j : Nat) : Int) < (n : Int)) = true := by simp; omega
   have hw3 : IntKind.i64.wrap (((f + j : Nat) : Int) + 1) = ((f + (j + 1) : Nat) : Int) := by rw [IntWalk.i64_in _ (by omega)]; omega
   obtain ⟨y1,y2,y3,y4,⟨yo,yn,yc⟩,y6,y7⟩ := y
   obtain ⟨rfl,rfl⟩ : y1 = c ∧ y2 = d := by simpa using ht
   simp only at p0 p1
   have e1 := eqId y1 y2 y1 y2 true (by simp)
   clear p2 p3 p4 p5 p6 hy he hx ht
   generalize hq : f + j = q at *
   have HQ := Lib.hid hq
   clear hq
   go_wp2
   refine wp_region_quiet_below (by kernel_rfl) (by kernel_rfl) ?_
   repeat (go_big_quiet_step (fail))
   refine wpQuiet_nil ?_
   intro _ hw'
   obtain ⟨⟨dq,osq⟩,hw''⟩ := hw'
   subst hw''
   go_wp2
   go_roundw
   case rel => exact ⟨j + 1,by omega,by rfl,BN.out _ _⟩
   case measure =>
    have hq := HQ.out
    simp [intOf]
    omega
  ·obtain rfl : j = k := by omega
   have RC2 := RC.out
   by_cases hjn : f + j < n
   ·obtain ⟨y,hy⟩ : ∃ y,l[f + j]? = some y := ⟨_,List.getElem?_eq_getElem (by rw [HN.out]; omega)⟩
    obtain ⟨p,ix,p0,p1,p2,p3,p4,p5,p6⟩ := el_reN HV.out rfl HN.out hy BE.out
    obtain ⟨e,he,_,hx⟩ := all2_key HA.out hy
    have ht : (y.1,y.2.1) ≠ (c,d) := fun q => BH.out e he (hx.1.symm.trans q)
    have g4 : decide (((f + j : Nat) : Int) < (n : Int)) = true := by simp; omega
    obtain ⟨y1,y2,y3,y4,⟨yo,yn,yc⟩,y6,y7⟩ := y
    simp only at p0 p1
    have e1 := eqId y1 y2 c d false (Bool.eq_false_iff.2 fun h => ht (by simp at h; rw [h.1,h.2]))
    clear p2 p3 p4 p5 p6 hy he hx ht
    generalize f + j = q at *
    go_wp2
    refine wp_region_quiet_below (by kernel_rfl) (by kernel_rfl) ?_
    repeat (go_big_quiet_step (fail))
    refine wpQuiet_nil ?_
    intro _ hw'
    obtain ⟨⟨dq,osq⟩,hw''⟩ := hw'
    subst hw''
    have a0 := a0 dq osq
    go_wp2
    go_ret
    exact ⟨rfl,BB.out.trans ((BN.out _ _).mono BB.out.size)⟩
   ·have g4 : decide (((f + j : Nat) : Int) < (n : Int)) = false := by simp; omega
    generalize f + j = q at *
    go_wp2
    refine wp_region_quiet_below (by kernel_rfl) (by kernel_rfl) ?_
    repeat (go_big_quiet_step (fail))
    refine wpQuiet_nil ?_
    intro _ hw'
    obtain ⟨⟨dq,osq⟩,hw''⟩ := hw'
    subst hw''
    have a0 := a0 dq osq
    go_wp2
    go_ret
    exact ⟨rfl,BB.out.trans ((BN.out _ _).mono BB.out.size)⟩
end Go.Proofs.YtncogjpmboglhaaGreat.Sb
namespace Go.Proofs.YtncogjpmboglhaaGreat.Sb
open Go.RowKit Go.Sort Rw YtncogjpmboglhaaGreat.Nm Pr Bk Av Rl
theorem covers_d (av_ bv : Value) (p q : List C5) (w : World) (ha : RowC w av_ p) (hb : RowC w bv q) (hp : PredOk p) (hq : PredOk q) :
  Calls Tryz.prog 114 #[av_,bv] w fun e w' => e = .returned (.bool (coversC p q)) ∧ Below w.heap.size w w' := by
 obtain ⟨a,na,rfl⟩ := hp
 obtain ⟨b,nb,rfl⟩ := hq
 unfold coversC
 rw [unR_map,unR_map]
 exact covers_any av_ bv a b w ha hb na nb
theorem any_at {α : Type} (f : α → Bool) {l : List α} (h : ∀ (j : Nat) (y : α),j < l.length → l[j]? = some y → f y = false) : l.any f = false := by
 rw [List.any_eq_false]
 intro e he
 obtain ⟨j,hj,hje⟩ := List.getElem_of_mem he
 simpa using h j e hj (by rw [List.getElem?_eq_getElem hj,hje])
theorem any_of {α : Type} (f : α → Bool) {l : List α} {k : Nat} {y : α} (h : l[k]? = some y) (hf : f y = true) : l.any f = true := by
 rw [List.any_eq_true]
 exact ⟨y,List.mem_of_getElem? h,hf⟩
abbrev cE (p : List C5) (e : En) : Bool := e.up && coversC e.p p
theorem covered_any (v : Sl) (pv : Value) (l : List XEn) (m : List En) (p' : List C5) (w : World) (hs : RowN w (slv v) l) (hu : All2 (EnIn w) l m) (hp : RowC w pv p') (hok : ∀ e ∈ m,PredOk e.p) (hop : PredOk p') :
  Calls Tryz.prog 71 #[slv v,pv] w fun e w' => e = .returned (.bool (covB m p')) ∧ Below w.heap.size w w' := by
 have HU := Lib.hid hu
 have HP := Lib.hid hp
 have OK := Lib.hid hok
 have OP := Lib.hid hop
 obtain ⟨pa,pc,rfl⟩ := hp.len
 generalize p'.length = pn at *
 obtain ⟨so,n,sc⟩ := v
 have hn := sl_len hs
 have HS := Lib.hid hs
 have lm := hs.most
 unfold maxLen at lm
 rw [hn] at lm
 have HN := Lib.hid hn
 clear hu hp hok hop hs hn
 go_enter Tryz.func71,Tryz.ntmps71
 go_wp2
 go_loopw [9] (fun i wr => ∃ k : Nat,k ≤ n ∧ i = .int .i64 k ∧ Below w.heap.size w wr ∧ ∀ (j : Nat) (y : En),j < k → m[j]? = some y → cE p' y = false) (fun i _ => n - (intOf i).toNat)
 case atStart => exact ⟨0,Nat.zero_le _,rfl,Below.refl _ _,fun j y h => by omega⟩
 case round =>
  obtain ⟨k,hk,rfl,hbe,hall⟩ := hrel
  have BE := Lib.hid hbe
  have AL := Lib.hid hall
  clear hbe hall
  by_cases hlt : k < n
  ·obtain ⟨y,hy⟩ : ∃ y,l[k]? = some y := ⟨_,List.getElem?_eq_getElem (by rw [HN.out]; exact hlt)⟩
   obtain ⟨q,ix,px⟩ := elN HS.out rfl HN.out hy
   obtain ⟨p0,p1,p2,p3,p4,p5,p6⟩ := px wr BE.out
   obtain ⟨e,he,_,hin⟩ := all2_key HU.out hy
   obtain ⟨y1,y2,y3,y4,⟨yo,yn,yc⟩,y6,y7⟩ := y
   simp only at p0 p1 p2 p3 p4 p5 p6
   have NB := Lib.hid (newB wr (.cells #[.int .i64 y1,.int .i64 y2,.int .i64 y3,.int .i64 y4,.slice yo yn yc,.int .i64 y6,.bool y7] 43))
   have hw3 : IntKind.i64.wrap ((k : Int) + 1) = (k : Int) + 1 := IntWalk.i64_in _ (by omega)
   obtain ⟨t,ht⟩ : ∃ r,coversC e.p p' = r := ⟨_,rfl⟩
   have HV := Lib.hid (show cE p' e = (y7 && t) by unfold cE; rw [← hin.2.2.2.1,ht])
   have HE := Lib.hid he
   have BF := Lib.hid (BE.out.trans (NB.out.mono BE.out.size))
   have CV := Lib.hid (covers_d (.slice yo yn yc) (.slice pa pn pc) e.p p' _ (hin.2.2.2.2.on BF.out) (HP.out.on BF.out) (OK.out _ (List.mem_of_getElem? he)) OP.out)
   rw [ht] at CV
   clear px hy ht he hin
   cases y7
   ·clear CV
    go_wp2
    go_roundw
    case rel => exact ⟨k + 1,by omega,by go_num,BF.out,fun j y' hj h1 => by
     rcases Nat.lt_or_ge j k with h3 | h3
     ·exact AL.out j y' h3 h1
     ·obtain rfl : j = k := by omega
      have e1 := HE.out
      rw [h1] at e1
      rw [Option.some.inj e1]
      exact HV.out.trans (by simp)⟩
    case measure => simp [intOf]; omega
   ·go_wp2_with fail
    refine CV.out.mono ?_
    rintro e3 w3 ⟨rfl,hb⟩
    have BG := Lib.hid (BF.out.trans (hb.mono BF.out.size))
    clear CV hb p0 p1 p2 p3 p4 p5 p6 ix
    cases t
    ·go_wp2
     go_roundw
     case rel => exact ⟨k + 1,by omega,by go_num,BG.out,fun j y' hj h1 => by
      rcases Nat.lt_or_ge j k with h3 | h3
      ·exact AL.out j y' h3 h1
      ·obtain rfl : j = k := by omega
       have e1 := HE.out
       rw [h1] at e1
       rw [Option.some.inj e1]
       exact HV.out.trans (by simp)⟩
     case measure => simp [intOf]; omega
    ·have hd : covB m p' = true := any_of (cE p') HE.out (HV.out.trans (by simp))
     go_wp2
     go_ret
     exact ⟨by rw [hd]; rfl,BG.out⟩
  ·obtain rfl : k = n := by omega
   have hd : covB m p' = false := any_at (cE p') fun j y hj h => AL.out j y (by rw [← HN.out,HU.out.len]; exact hj) h
   go_wp2
   go_ret
   exact ⟨by rw [hd]; rfl,BE.out⟩
theorem all_at {α : Type} (f : α → Bool) {l : List α} (h : ∀ (j : Nat) (y : α),j < l.length → l[j]? = some y → f y = true) : l.all f = true := by
 rw [List.all_eq_true]
 intro e he
 obtain ⟨j,hj,hje⟩ := List.getElem_of_mem he
 exact h j e hj (by rw [List.getElem?_eq_getElem hj,hje])
theorem all_of {α : Type} (f : α → Bool) {l : List α} {k : Nat} {y : α} (h : l[k]? = some y) (hf : f y = false) : l.all f = false := by
 rw [List.all_eq_false]
 exact ⟨y,List.mem_of_getElem? h,by rw [hf]; simp⟩
abbrev tE (r : List En) (e : En) : Bool := e.up || covB r e.p
theorem tight_any (v : Sl) (l : List XEn) (m : List En) (w : World) (hs : RowN w (slv v) l) (hu : All2 (EnIn w) l m) (hok : ∀ e ∈ m,PredOk e.p) :
  Calls Tryz.prog 93 #[slv v] w fun e w' => e = .returned (.bool (tightR m)) ∧ Below w.heap.size w w' := by
 have HU := Lib.hid hu
 have OK := Lib.hid hok
 have HS := Lib.hid hs
 obtain ⟨so,n,sc⟩ := v
 have hn := sl_len hs
 have lm := hs.most
 unfold maxLen at lm
 rw [hn] at lm
 have HN := Lib.hid hn
 clear hu hok hs hn
 go_enter Tryz.func93,Tryz.ntmps93
 go_wp2
 go_loopw [7] (fun i wr => ∃ k : Nat,k ≤ n ∧ i = .int .i64 k ∧ Below w.heap.size w wr ∧ ∀ (j : Nat) (y : En),j < k → m[j]? = some y → tE m y = true) (fun i _ => n - (intOf i).toNat)
 case atStart => exact ⟨0,Nat.zero_le _,rfl,Below.refl _ _,fun j y h => by omega⟩
 case round =>
  obtain ⟨k,hk,rfl,hbe,hall⟩ := hrel
  have BE := Lib.hid hbe
  have AL := Lib.hid hall
  clear hbe hall
  by_cases hlt : k < n
  ·obtain ⟨y,hy⟩ : ∃ y,l[k]? = some y := ⟨_,List.getElem?_eq_getElem (by rw [HN.out]; exact hlt)⟩
   obtain ⟨q,ix,px⟩ := elN HS.out rfl HN.out hy
   obtain ⟨p0,p1,p2,p3,p4,p5,p6⟩ := px wr BE.out
   obtain ⟨e,he,_,hin⟩ := all2_key HU.out hy
   obtain ⟨y1,y2,y3,y4,⟨yo,yn,yc⟩,y6,y7⟩ := y
   simp only at p0 p1 p2 p3 p4 p5 p6
   have NB := Lib.hid (newB wr (.cells #[.int .i64 y1,.int .i64 y2,.int .i64 y3,.int .i64 y4,.slice yo yn yc,.int .i64 y6,.bool y7] 43))
   have hw3 : IntKind.i64.wrap ((k : Int) + 1) = (k : Int) + 1 := IntWalk.i64_in _ (by omega)
   obtain ⟨t,ht⟩ : ∃ r,covB m e.p = r := ⟨_,rfl⟩
   have HV := Lib.hid (show tE m e = (y7 || t) by unfold tE; rw [← hin.2.2.2.1,ht])
   have HE := Lib.hid he
   have BF := Lib.hid (BE.out.trans (NB.out.mono BE.out.size))
   have CV := Lib.hid (covered_any (so,n,sc) (.slice yo yn yc) l m e.p _ (HS.out.on BF.out) (HU.out.mono fun _ _ q => q.on BF.out) (hin.2.2.2.2.on BF.out) OK.out (OK.out _ (List.mem_of_getElem? he)))
   rw [ht] at CV
   clear px hy ht he hin
   cases y7
   ·go_wp2_with fail
    refine CV.out.mono ?_
    rintro e3 w3 ⟨rfl,hb⟩
    have BG := Lib.hid (BF.out.trans (hb.mono BF.out.size))
    clear CV hb p0 p1 p2 p3 p4 p5 p6 ix
    cases t
    ·have hd : tightR m = false := all_of (tE m) HE.out (HV.out.trans (by simp))
     go_wp2
     go_ret
     exact ⟨by rw [hd]; rfl,BG.out⟩
    ·go_wp2
     go_roundw
     case rel => exact ⟨k + 1,by omega,by go_num,BG.out,fun j y' hj h1 => by
      rcases Nat.lt_or_ge j k with h3 | h3
      ·exact AL.out j y' h3 h1
      ·obtain rfl : j = k := by omega
       have e1 := HE.out
       rw [h1] at e1
       rw [Option.some.inj e1]
       exact HV.out.trans (by simp)⟩
     case measure => simp [intOf]; omega
   ·clear CV
    go_wp2
    go_roundw
    case rel => exact ⟨k + 1,by omega,by go_num,BF.out,fun j y' hj h1 => by
     rcases Nat.lt_or_ge j k with h3 | h3
     ·exact AL.out j y' h3 h1
     ·obtain rfl : j = k := by omega
      have e1 := HE.out
      rw [h1] at e1
      rw [Option.some.inj e1]
      exact HV.out.trans (by simp)⟩
    case measure => simp [intOf]; omega
  ·obtain rfl : k = n := by omega
   have hd : tightR m = true := all_at (tE m) fun j y hj h => AL.out j y (by rw [← HN.out,HU.out.len]; exact hj) h
   go_wp2
   go_ret
   exact ⟨by rw [hd]; rfl,BE.out⟩
end Go.Proofs.YtncogjpmboglhaaGreat.Sb
