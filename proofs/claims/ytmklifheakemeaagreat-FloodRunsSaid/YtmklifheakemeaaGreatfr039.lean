/-
  The region of AdvertsRuns that makes the broker. Conditions as told.
-/
import Derived.Test.YtmklifheakemeaaGreatfr016
import Derived.Test.YtmklifheakemeaaGreatfr029
import Derived.Test.YtmklifheakemeaaGreatfr027
import Derived.Test.YtmklifheakemeaaGreatfr031
import Derived.Test.YtmklifheakemeaaGreatfr030
import Derived.Test.YtmklifheakemeaaGreatfr020
import Derived.Deep.LoopGhost
import Derived.Laws.Externs
import Derived.Shelf.Abstract
import Derived.Test.YtmklifheakemeaaGreatfr032
import Derived.Test.YtmklifheakemeaaGreatfr028
import Derived.Test.YtmklifheakemeaaGreatfr009
import Derived.Test.YtmklifheakemeaaGreatfr012
import Derived.Test.YtmklifheakemeaaGreatfr001
import Derived.Test.YtmklifheakemeaaGreatfr007
set_option maxRecDepth 100000
set_option maxHeartbeats 64000000
namespace Go.Proofs.YtmklifheakemeaaGreat.Av
open Go.RowKit Go.Sort Rw YtmklifheakemeaaGreat.Nm Pr Bk
end Go.Proofs.YtmklifheakemeaaGreat.Av
namespace Go.Proofs.YtmklifheakemeaaGreat.Sb
open Go.RowKit Go.Sort Rw YtmklifheakemeaaGreat.Nm Pr Bk Av
abbrev RiseE (m : List En) : Prop := m.Pairwise fun x y => cEn x y < 0
def fromT (m : List En) (t : XID) : Nat := (m.takeWhile fun e => lessI e.tree t).length
def brE (m : List En) (t : XID) : List En := (m.drop (fromT m t)).takeWhile fun e => decide (e.tree = t)
def covB (r : List En) (p : List C5) : Bool := r.any fun e => e.up && coversC e.p p
def raiseStep (s : List En × List En) (k : Nat) : List En × List En := match s.1[k]? with
 | none => s
 | some e => if e.up = true ∨ covB s.1 e.p = true then s else (s.1.set k (upE e),s.2 ++ [upE e])
theorem lessP_iff (x y : En) : lessP (keyE x) (keyE y) = true ↔ cEn x y < 0 := by
 rw [cEn_neg]
 unfold lessP
 simp [eqI_iff]
theorem lessP_irr (x : XID × XID) : lessP x x = false := by simp [lessP,lessI_irr]
def thereE (m : List En) (t s : XID) : Bool := match m[placeP (m.map keyE) (t,s)]? with
 | none => false
 | some e => decide (keyE e = (t,s))
theorem take_less : ∀ (l : List (XID × XID)) (x : XID × XID) (j : Nat) (y : XID × XID),j < placeP l x → l[j]? = some y → lessP y x = true
 | [],_,_,_,_,h => by simp at h
 | a :: l,x,j,y,hj,h => by
  unfold placeP at hj
  by_cases ha : lessP a x = true
  ·rw [List.takeWhile_cons,if_pos ha,List.length_cons] at hj
   cases j with
   | zero => rw [← Option.some.inj (show some a = some y from h)]; exact ha
   | succ j => exact take_less l x j y (by unfold placeP; omega) (by simpa using h)
  ·rw [List.takeWhile_cons,if_neg ha] at hj
   simp at hj
theorem place_not : ∀ (l : List (XID × XID)) (x y : XID × XID),l[placeP l x]? = some y → lessP y x = false
 | [],_,_,h => by simp [placeP] at h
 | a :: l,x,y,h => by
  unfold placeP at h
  by_cases ha : lessP a x = true
  ·rw [List.takeWhile_cons,if_pos ha,List.length_cons] at h
   exact place_not l x y (by unfold placeP; simpa using h)
  ·rw [List.takeWhile_cons,if_neg ha] at h
   rw [← Option.some.inj (show some a = some y from h)]
   simpa using ha
theorem find_there {m : List En} (hr : RiseE m) (t s : XID) : findK (m.map keyE) (t,s) = if thereE m t s = true then (placeP (m.map keyE) (t,s) : Int) else -1 := by
 unfold thereE
 cases hp : m[placeP (m.map keyE) (t,s)]? with
 | none =>
  rw [if_neg (by simp)]
  refine findK_none _ _ fun j y hj e => ?_
  have hl : m.length ≤ placeP (m.map keyE) (t,s) := List.getElem?_eq_none_iff.1 hp
  have hj2 := (List.getElem?_eq_some_iff.1 hj).1
  rw [List.length_map] at hj2
  have h := take_less _ (t,s) j y (by omega) hj
  rw [e,lessP_irr] at h
  cases h
 | some e =>
  have hpk : (m.map keyE)[placeP (m.map keyE) (t,s)]? = some (keyE e) := by rw [List.getElem?_map,hp]; rfl
  by_cases he : keyE e = (t,s)
  ·simp only [he,decide_true,if_true]
   rw [he] at hpk
   refine findK_at _ _ _ hpk fun j z hj hz q => ?_
   have h := take_less _ (t,s) j z hj hz
   rw [q,lessP_irr] at h
   cases h
  ·rw [if_neg (by simpa using he)]
   refine findK_none _ _ fun j y hj q => ?_
   rcases Nat.lt_trichotomy j (placeP (m.map keyE) (t,s)) with h | h | h
   ·have h := take_less _ (t,s) j y h hj
    rw [q,lessP_irr] at h
    cases h
   ·subst h
    rw [hpk] at hj
    exact he ((Option.some.inj hj).trans q)
   ·rw [List.getElem?_map] at hj
    cases hz : m[j]? with
    | none => rw [hz] at hj; cases hj
    | some z =>
     rw [hz] at hj
     have h1 := List.pairwise_iff_getElem.1 hr _ _ (List.getElem?_eq_some_iff.1 hp).1 (List.getElem?_eq_some_iff.1 hz).1 h
     rw [(List.getElem?_eq_some_iff.1 hp).2,(List.getElem?_eq_some_iff.1 hz).2,← lessP_iff] at h1
     have h2 := place_not _ _ _ hpk
     rw [show keyE z = (t,s) from (Option.some.inj hj).trans q] at h1
     rw [h1] at h2
     cases h2
theorem tree_le {x y : En} (h : cEn x y < 0) : lessI x.tree y.tree = true ∨ x.tree = y.tree := by
 rcases (cEn_neg x y).1 h with q | q
 ·exact Or.inl q
 ·exact Or.inr q.1
theorem drop_len {α : Type} (p : α → Bool) : ∀ l : List α,l.drop (l.takeWhile p).length = l.dropWhile p
 | [] => rfl
 | a :: l => by
  by_cases h : p a = true
  ·simp [h,drop_len p l]
  ·simp [h]
theorem lo_out : ∀ {m : List En} (t : XID) (_ : RiseE m),∀ e ∈ m.dropWhile (fun e => lessI e.tree t),lessI e.tree t = false
 | [],_,_,e,h => by simp at h
 | a :: m,t,hr,e,h => by
  have hr' := List.pairwise_cons.1 hr
  by_cases ha : lessI a.tree t = true
  ·rw [List.dropWhile_cons,if_pos ha] at h
   exact lo_out t hr'.2 e h
  ·rw [List.dropWhile_cons,if_neg ha] at h
   rcases List.mem_cons.1 h with rfl | h
   ·simpa using ha
   ·cases hq : lessI e.tree t with
    | false => rfl
    | true =>
     exfalso
     rcases tree_le (hr'.1 e h) with q | q
     ·exact ha (lessI_trans q hq)
     ·exact ha (by rw [q]; exact hq)
theorem hi_out : ∀ {m : List En} (t : XID) (_ : RiseE m) (_ : ∀ e ∈ m,lessI e.tree t = false),∀ e ∈ m.dropWhile (fun e => decide (e.tree = t)),lessI t e.tree = true
 | [],_,_,_,e,h => by simp at h
 | a :: m,t,hr,hl,e,h => by
  have hr' := List.pairwise_cons.1 hr
  by_cases ha : a.tree = t
  ·rw [List.dropWhile_cons,if_pos (by simpa using ha)] at h
   exact hi_out t hr'.2 (fun e he => hl e (List.mem_cons_of_mem _ he)) e h
  ·rw [List.dropWhile_cons,if_neg (by simpa using ha)] at h
   have hta : lessI t a.tree = true := by
    rcases lessI_total a.tree t with q | q | q
    ·rw [hl a (by simp)] at q; cases q
    ·exact absurd q ha
    ·exact q
   rcases List.mem_cons.1 h with rfl | h
   ·exact hta
   ·rcases tree_le (hr'.1 e h) with q | q
    ·exact lessI_trans hta q
    ·rw [← q]; exact hta
theorem ne_less {x t : XID} (h : lessI x t = true) : x ≠ t := by rintro rfl; rw [lessI_irr] at h; cases h
theorem br_split {m : List En} (hr : RiseE m) (t : XID) : ∃ c,m = m.take (fromT m t) ++ brE m t ++ c ∧ (m.take (fromT m t)).length = fromT m t ∧ (∀ e ∈ m.take (fromT m t),e.tree ≠ t) ∧ (∀ e ∈ brE m t,e.tree = t) ∧ (∀ e ∈ c,e.tree ≠ t) := by
 have e1 : m.take (fromT m t) = m.takeWhile fun e => lessI e.tree t := by
  unfold fromT
  conv => lhs; arg 2; rw [← List.takeWhile_append_dropWhile (p := fun e : En => lessI e.tree t) (l := m)]
  rw [List.take_left]
 have e2 : m.drop (fromT m t) = m.dropWhile fun e => lessI e.tree t := drop_len _ _
 refine ⟨(m.drop (fromT m t)).dropWhile fun e => decide (e.tree = t),?_,?_,?_,?_,?_⟩
 ·unfold brE
  rw [List.append_assoc,List.takeWhile_append_dropWhile,List.take_append_drop]
 ·rw [e1]; rfl
 ·rw [e1]
  intro e he
  exact ne_less (List.all_eq_true.1 List.all_takeWhile e he)
 ·intro e he
  unfold brE at he
  exact of_decide_eq_true (List.all_eq_true.1 (List.all_takeWhile (p := fun e : En => decide (e.tree = t))) e he)
 ·rw [e2]
  intro e he
  have h1 : RiseE (m.dropWhile fun e => lessI e.tree t) := hr.sublist (List.dropWhile_sublist _)
  exact (ne_less (hi_out t h1 (lo_out t hr) e he)).symm
theorem fil_none {α : Type} {p : α → Bool} {l : List α} (h : ∀ e ∈ l,p e = false) : l.filter p = [] := by
 rw [List.filter_eq_nil_iff]
 intro e he
 rw [h e he]
 simp
theorem br_filter {m : List En} (hr : RiseE m) (t : XID) : brE m t = m.filter fun e => decide (e.tree = t) := by
 obtain ⟨c,h1,_,h2,h3,h4⟩ := br_split hr t
 generalize brE m t = r at *
 generalize m.take (fromT m t) = a at *
 subst h1
 rw [List.filter_append,List.filter_append,fil_none (l := a) fun e he => by simpa using h2 e he,fil_none (l := c) fun e he => by simpa using h4 e he,List.nil_append,List.append_nil]
 exact (List.filter_eq_self.2 fun e he => by simpa using h3 e he).symm
theorem cov_br {m : List En} (hr : RiseE m) (t : XID) (p : List C5) : covB (brE m t) p = coveredE m t p := by
 rw [br_filter hr,covB,List.any_filter]
 rfl
theorem ahead_any (x : XEn) (t s : XID) (r : Bool) (hr : lessP (keyN x) (t,s) = r) (w : World) : Calls Tryz.prog 125 #[valN x,idv t,idv s] w fun e w' => e = .returned (.bool r) ∧ Below w.heap.size w w' := by
 obtain ⟨y1,y2,y3,y4,⟨yo,yn,yc⟩,y6,y7⟩ := x
 obtain ⟨c,d⟩ := t
 obtain ⟨g,h⟩ := s
 obtain ⟨h0,X,Y,Z⟩ := three_new w #[.int .i64 y1,.int .i64 y2,.int .i64 y3,.int .i64 y4,.slice yo yn yc,.int .i64 y6,.bool y7] #[.int .i64 c,.int .i64 d] #[.int .i64 g,.int .i64 h] 66 31 31
 have x1 := X.cell 1
 have x0 := X.cell 0
 have x2 := X.cell 2
 have x3 := X.cell 3
 obtain ⟨c0,c1⟩ := Y.cs2
 obtain ⟨d0,d1⟩ := Z.cs2
 simp only [List.getElem?_toArray,List.getElem?_cons_zero,List.getElem?_cons_succ] at x0 x1 x2 x3
 have C1 := aless_any (y1,y2) (c,d)
 have C2 := aless_any (y3,y4) (g,h)
 have B := Lib.hid h0
 have he : lessP ((y1,y2),(y3,y4)) ((c,d),(g,h)) = if ((y1,y2) : XID) = (c,d) then lessI (y3,y4) (g,h) else lessI (y1,y2) (c,d) := by
  unfold lessP
  by_cases q : ((y1,y2) : XID) = (c,d)
  ·rw [if_pos q,q,lessI_irr,(eqI_iff _ _).2 rfl]; rfl
  ·rw [if_neg q,Bool.eq_false_iff.2 fun q2 => q ((eqI_iff _ _).1 q2)]; simp
 clear h0 X Y Z
 by_cases q : ((y1,y2) : XID) = (c,d)
 ·have hr2 := Lib.hid (show lessI (y3,y4) (g,h) = r by rw [← hr]; show _ = lessP ((y1,y2),(y3,y4)) ((c,d),(g,h)); rw [he,if_pos q])
  obtain ⟨rfl,rfl⟩ : y1 = c ∧ y2 = d := by simpa using q
  have hne := neId y1 y2 y1 y2 false (by simp)
  clear he hr q
  go_enter Tryz.func125,Tryz.ntmps125
  go_wp2_with fail
  refine (C2 _).mono ?_
  rintro e w1 ⟨rfl,hb⟩
  go_wp2
  go_ret
  exact ⟨congrArg (fun b => Ending.returned (.bool b)) hr2.out,B.out.trans (hb.mono B.out.size)⟩
 ·have hr2 := Lib.hid (show lessI (y1,y2) (c,d) = r by rw [← hr]; show _ = lessP ((y1,y2),(y3,y4)) ((c,d),(g,h)); rw [he,if_neg q])
  have hne := neId y1 y2 c d true (by rw [show (y1 == c && y2 == d) = false from Bool.eq_false_iff.2 fun h => q (by simp at h; rw [h.1,h.2])]; rfl)
  clear he hr q
  go_enter Tryz.func125,Tryz.ntmps125
  go_wp2_with fail
  refine (C1 _).mono ?_
  rintro e w1 ⟨rfl,hb⟩
  go_wp2
  go_ret
  exact ⟨congrArg (fun b => Ending.returned (.bool b)) hr2.out,B.out.trans (hb.mono B.out.size)⟩
theorem search_any (g : Nat) (cb : Array Value) (eg : ∀ args w,(callFunc g args).run Tryz.prog w = .ok (.enter g args) w) (n k : Nat) (p : Nat → Bool) (w : World) (hn : n ≤ 1000000)
  (hf : ∀ i,i < n → ∀ W,Below w.heap.size w W → Calls Tryz.prog g (#[.int .i64 i] ++ cb) W fun e w' => e = .returned (.bool (p i)) ∧ Below W.heap.size W w')
  (hk : k ≤ n) (hlo : ∀ i,i < k → p i = false) (hhi : ∀ i,k ≤ i → i < n → p i = true) :
  Calls Tryz.prog 118 #[.int .i64 n,.func (.func g) #[] cb] w fun e w' => e = .returned (.int .i64 k) ∧ Below w.heap.size w w' := by
 have HF := Lib.hid hf
 have LO := Lib.hid hlo
 have HI := Lib.hid hhi
 clear hf hlo hhi
 go_enter Tryz.func118,Tryz.ntmps118
 go_wp2
 go_loopg [5,6] n (fun kx s5 s6 wr => ∃ lo hi : Nat,s5 = .int .i64 lo ∧ s6 = .int .i64 hi ∧ lo ≤ k ∧ k ≤ hi ∧ hi ≤ n ∧ hi - lo ≤ kx ∧ Below w.heap.size w wr)
 case atStart => exact ⟨0,n,rfl,rfl,Nat.zero_le _,hk,Nat.le_refl _,by omega,Below.refl _ _⟩
 case round =>
  obtain ⟨lo,hi,rfl,rfl,hlk,hkh,hin,hg,hb⟩ := hrel
  have B := Lib.hid hb
  clear hb
  by_cases hlt : lo < hi
  ·have hc := HF.out ((lo + hi) / 2) (by omega) wr B.out
   rw [show (((lo + hi) / 2 : Nat) : Int) = ((lo : Int) + (hi : Int)) / 2 by omega] at hc
   cases hp : p ((lo + hi) / 2) <;> rw [hp] at hc
   ·have HP := Lib.hid hp
    have HK := Lib.hid (show (lo + hi) / 2 + 1 ≤ k from by
     rcases Nat.lt_or_ge ((lo + hi) / 2) k with h | h
     ·exact h
     ·have := HI.out _ h (by omega); rw [hp] at this; cases this)
    clear hp
    go_wp2_with (go_at_fn g; refine hc.mono ?_; rintro e w' ⟨rfl,hb2⟩)
    go_roundg (hi - ((lo + hi) / 2 + 1))
    case measure => omega
    case rel => exact ⟨(lo + hi) / 2 + 1,hi,by rw [show ((lo : Int) + (hi : Int)) / 2 + 1 = (((lo + hi) / 2 + 1 : Nat) : Int) by omega],rfl,HK.out,hkh,hin,Nat.le_refl _,B.out.trans (hb2.mono B.out.size)⟩
   ·have HP := Lib.hid hp
    have HK := Lib.hid (show k ≤ (lo + hi) / 2 from by
     rcases Nat.lt_or_ge ((lo + hi) / 2) k with h | h
     ·have := LO.out _ h; rw [hp] at this; cases this
     ·exact h)
    clear hp
    go_wp2_with (go_at_fn g; refine hc.mono ?_; rintro e w' ⟨rfl,hb2⟩)
    go_roundg ((lo + hi) / 2 - lo)
    case measure => omega
    case rel => exact ⟨lo,(lo + hi) / 2,rfl,by rw [show ((lo : Int) + (hi : Int)) / 2 = (((lo + hi) / 2 : Nat) : Int) by omega],hlk,HK.out,by omega,Nat.le_refl _,B.out.trans (hb2.mono B.out.size)⟩
  ·obtain rfl : hi = lo := by omega
   obtain rfl : hi = k := by omega
   go_wp2
   go_ret
   exact ⟨rfl,B.out⟩
theorem el_reN {W W1 : World} {v : Value} {l : List XEn} {ao : Option Addr} {n c k : Nat} {x : XEn} (h : RowN W v l) (hv : v = .slice ao n c) (hn : l.length = n) (hk : l[k]? = some x) (hb : Below W.heap.size W W1) :
  ∃ p : Addr,(∀ w,(Instr.indexAt 25 (.slice ao n c) (.int .i64 k)).run Tryz.prog w = .ok (.pointer (some p)) w) ∧
   (∀ d os,(grow (redrawn W1 d) os).cell? p = some (.int .i64 x.1)) ∧ (∀ d os,(grow (redrawn W1 d) os).cell? ⟨p.block,p.off + 1,none⟩ = some (.int .i64 x.2.1)) ∧
   (∀ d os,(grow (redrawn W1 d) os).cell? ⟨p.block,p.off + 2,none⟩ = some (.int .i64 x.2.2.1)) ∧ (∀ d os,(grow (redrawn W1 d) os).cell? ⟨p.block,p.off + 3,none⟩ = some (.int .i64 x.2.2.2.1)) ∧
   (∀ d os,(grow (redrawn W1 d) os).cell? ⟨p.block,p.off + 4,none⟩ = some (slv x.2.2.2.2.1)) ∧ (∀ d os,(grow (redrawn W1 d) os).cell? ⟨p.block,p.off + 5,none⟩ = some (.int .i64 x.2.2.2.2.2.1)) ∧
   (∀ d os,(grow (redrawn W1 d) os).cell? ⟨p.block,p.off + 6,none⟩ = some (.bool x.2.2.2.2.2.2)) := by
 obtain ⟨p,h1,h2⟩ := elN h hv hn hk
 obtain ⟨c0,c1,c2,c3,c4,c5,c6⟩ := h2 _ hb
 exact ⟨p,h1,cell_regrown c0,cell_regrown c1,cell_regrown c2,cell_regrown c3,cell_regrown c4,cell_regrown c5,cell_regrown c6⟩
theorem call_pl (args : Array Value) (w : World) : (callFunc 124 args).run Tryz.prog w = .ok (.enter 124 args) w := call_fn Tryz.func124 rfl rfl args w
theorem call_br (args : Array Value) (w : World) : (callFunc 119 args).run Tryz.prog w = .ok (.enter 119 args) w := call_fn Tryz.func119 rfl rfl args w
theorem pl1_any (i : Nat) (b1 b2 b3 : Nat) (ao : Option Addr) (n ac : Nat) (l : List XEn) (t s : XID) (y : XEn) (r : Bool) (w : World) (hv : RowN w (.slice ao n ac) l) (hn : l.length = n) (hy : l[i]? = some y) (hr : (!lessP (keyN y) (t,s)) = r)
  (h1 : Box w b1 #[.slice ao n ac] 25) (h2 : Box w b2 #[.int .i64 t.1,.int .i64 t.2] 31) (h3 : Box w b3 #[.int .i64 s.1,.int .i64 s.2] 31) :
  Calls Tryz.prog 124 #[.int .i64 i,.pointer (some ⟨b1,0,none⟩),.pointer (some ⟨b2,0,none⟩),.pointer (some ⟨b3,0,none⟩)] w fun e w' => e = .returned (.bool r) ∧ Below w.heap.size w w' := by
 obtain ⟨p,ix,p0,p1,p2,p3,p4,p5,p6⟩ := el_reN hv rfl hn hy (Below.refl _ _)
 have a0 := cell_regrown (h1.cell 0)
 have b0 := cell_regrown (h2.cell 0)
 have b1' := cell_regrown (h2.cell 1)
 have c0 := cell_regrown (h3.cell 0)
 have c1 := cell_regrown (h3.cell 1)
 obtain ⟨q,hq⟩ : ∃ q,lessP (keyN y) (t,s) = q := ⟨_,rfl⟩
 have C : ∀ k os,Calls Tryz.prog 125 #[valN y,idv t,idv s] (grow (redrawn w k) os) fun e w'' => e = .returned (.bool q) ∧ ∃ p : Regrown,w'' = grow (redrawn w p.d) p.os := fun k os => Calls.regrown_of (ahead_any y t s q hq _)
 rw [hq] at hr
 have R := Lib.hid hr
 have BN := Lib.hid (fun dq osq => below_regrown w dq osq)
 obtain ⟨y1,y2,y3,y4,⟨yo,yn,yc⟩,y6,y7⟩ := y
 obtain ⟨c,d⟩ := t
 obtain ⟨g,h⟩ := s
 simp only at p0 p1 p2 p3 p4 p5 p6 b0 b1' c0 c1 C
 clear hv hn hy hr hq h1 h2 h3
 go_enter Tryz.func124,Tryz.ntmps124
 go_wp2
 refine wp_region_quiet_below (by kernel_rfl) (by kernel_rfl) ?_
 repeat (go_big_quiet_step (first | (with_reducible exact C _ _) | exact call_ahead _ _))
 refine wpQuiet_nil ?_
 intro _ hw'
 obtain ⟨⟨dq,osq⟩,hw''⟩ := hw'
 subst hw''
 go_wp2
 go_ret
 exact ⟨congrArg (fun b => Ending.returned (.bool b)) R.out,BN.out _ _⟩
theorem br1_any (i : Nat) (b1 b2 : Nat) (ao : Option Addr) (n ac : Nat) (l : List XEn) (t : XID) (y : XEn) (r : Bool) (w : World) (hv : RowN w (.slice ao n ac) l) (hn : l.length = n) (hy : l[i]? = some y) (hr : (!lessI (y.1,y.2.1) t) = r)
  (h1 : Box w b1 #[.slice ao n ac] 25) (h2 : Box w b2 #[.int .i64 t.1,.int .i64 t.2] 31) :
  Calls Tryz.prog 119 #[.int .i64 i,.pointer (some ⟨b1,0,none⟩),.pointer (some ⟨b2,0,none⟩)] w fun e w' => e = .returned (.bool r) ∧ Below w.heap.size w w' := by
 obtain ⟨p,ix,p0,p1,p2,p3,p4,p5,p6⟩ := el_reN hv rfl hn hy (Below.refl _ _)
 have a0 := cell_regrown (h1.cell 0)
 have b0 := cell_regrown (h2.cell 0)
 have b1' := cell_regrown (h2.cell 1)
 have C : ∀ k os,Calls Tryz.prog 120 #[idv (y.1,y.2.1),idv t] (grow (redrawn w k) os) fun e w'' => e = .returned (.bool (lessI (y.1,y.2.1) t)) ∧ ∃ p : Regrown,w'' = grow (redrawn w p.d) p.os := fun k os => Calls.regrown_of (aless_any (y.1,y.2.1) t _)
 generalize lessI (y.1,y.2.1) t = q at *
 have R := Lib.hid hr
 have BN := Lib.hid (fun dq osq => below_regrown w dq osq)
 obtain ⟨y1,y2,y3,y4,⟨yo,yn,yc⟩,y6,y7⟩ := y
 obtain ⟨c,d⟩ := t
 simp only at p0 p1 p2 p3 p4 p5 p6 b0 b1' C
 clear hv hn hy hr h1 h2 p2 p3 p4 p5 p6
 go_enter Tryz.func119,Tryz.ntmps119
 go_wp2
 refine wp_region_quiet_below (by kernel_rfl) (by kernel_rfl) ?_
 repeat (go_big_quiet_step (first | (with_reducible exact C _ _) | exact call_less _ _))
 refine wpQuiet_nil ?_
 intro _ hw'
 obtain ⟨⟨dq,osq⟩,hw''⟩ := hw'
 subst hw''
 go_wp2
 go_ret
 exact ⟨congrArg (fun b => Ending.returned (.bool b)) R.out,BN.out _ _⟩
theorem sl_len {α : Type} {E : Ek α} {W : World} {so : Option Addr} {sn sc : Nat} {l : List α} (h : Row E W (.slice so sn sc) l) : l.length = sn := by
 obtain ⟨ao,ac,hv⟩ := h.len
 simp at hv
 exact hv.2.1.symm
theorem all2_key {W : World} {l : List XEn} {m : List En} (h : All2 (EnIn W) l m) {i : Nat} {y : XEn} (hy : l[i]? = some y) : ∃ e,m[i]? = some e ∧ keyN y = keyE e ∧ EnIn W y e := by
 have hlt := (List.getElem?_eq_some_iff.1 hy).1
 obtain ⟨e,he⟩ : ∃ e,m[i]? = some e := ⟨_,List.getElem?_eq_getElem (by rw [← h.len]; exact hlt)⟩
 obtain ⟨y',hy',hx⟩ := h.at i e he
 rw [hy] at hy'
 obtain rfl := Option.some.inj hy'
 exact ⟨e,he,Prod.ext hx.1 hx.2.1,hx⟩
theorem rise_less {m : List En} (hr : RiseE m) {i j : Nat} {x y : En} (hij : i < j) (hx : m[i]? = some x) (hy : m[j]? = some y) : cEn x y < 0 := by
 obtain ⟨h1,rfl⟩ := List.getElem?_eq_some_iff.1 hx
 obtain ⟨h2,rfl⟩ := List.getElem?_eq_some_iff.1 hy
 exact List.pairwise_iff_getElem.1 hr i j h1 h2 hij
theorem place_le (l : List (XID × XID)) (x : XID × XID) : placeP l x ≤ l.length := (List.takeWhile_sublist _).length_le
theorem place_hi {m : List En} (hr : RiseE m) (x : XID × XID) {i : Nat} {e : En} (hi : placeP (m.map keyE) x ≤ i) (he : m[i]? = some e) : lessP (keyE e) x = false := by
 have hlt := (List.getElem?_eq_some_iff.1 he).1
 obtain ⟨z,hz⟩ : ∃ z,m[placeP (m.map keyE) x]? = some z := ⟨_,List.getElem?_eq_getElem (by omega)⟩
 have h0 := place_not (m.map keyE) x (keyE z) (by rw [List.getElem?_map,hz]; rfl)
 rcases Nat.lt_or_ge (placeP (m.map keyE) x) i with h | h
 ·have h1 := rise_less hr h hz he
  cases hq : lessP (keyE e) x with
  | false => rfl
  | true =>
   rw [← lessP_iff] at h1
   have h2 : cEn z ⟨x.1,x.2,[],0,false⟩ < 0 := cEn_tr z e ⟨x.1,x.2,[],0,false⟩ ((lessP_iff z e).1 h1) ((lessP_iff e ⟨x.1,x.2,[],0,false⟩).1 hq)
   rw [← lessP_iff] at h2
   rw [show lessP (keyE z) x = true from h2] at h0
   cases h0
 ·have e1 : i = placeP (m.map keyE) x := by omega
  rw [e1,hz] at he
  rw [← Option.some.inj he]
  exact h0
theorem place_any (v : Sl) (l : List XEn) (m : List En) (t s : XID) (w : World) (hv : RowN w (slv v) l) (hA : All2 (EnIn w) l m) (hr : RiseE m) (hl : l.length ≤ 1000) :
  Calls Tryz.prog 77 #[slv v,idv t,idv s] w fun e w' => e = .returned (.tuple #[.int .i64 (placeP (m.map keyE) (t,s)),.bool (thereE m t s)]) ∧ Below w.heap.size w w' := by
 obtain ⟨so,n,sc⟩ := v
 have hn : l.length = n := sl_len hv
 obtain ⟨c,d⟩ := t
 obtain ⟨g,h⟩ := s
 obtain ⟨k,hk⟩ : ∃ k,placeP (m.map keyE) ((c,d),(g,h)) = k := ⟨_,rfl⟩
 obtain ⟨th,hth⟩ : ∃ k,thereE m (c,d) (g,h) = k := ⟨_,rfl⟩
 have hkn : k ≤ n := by rw [← hk,← hn,hA.len]; simpa using place_le (m.map keyE) ((c,d),(g,h))
 rw [hk,hth]
 obtain ⟨h0,X,Y,Z⟩ := three_new w #[.slice so n sc] #[.int .i64 c,.int .i64 d] #[.int .i64 g,.int .i64 h] 25 31 31
 have BB := Lib.hid h0
 have HV := Lib.hid (hv.on h0)
 have HA := Lib.hid (hA.mono fun _ _ q => q.on h0)
 have X1 := Lib.hid X
 have Y1 := Lib.hid Y
 have Z1 := Lib.hid Z
 have x0 := X.cell 0
 simp only [List.getElem?_toArray,List.getElem?_cons_zero] at x0
 have HF := Lib.hid (show ∀ i,i < n → ∀ W,Below (((w.alloc (.cells #[.slice so n sc] 25)).alloc (.cells #[.int .i64 c,.int .i64 d] 31)).alloc (.cells #[.int .i64 g,.int .i64 h] 31)).heap.size (((w.alloc (.cells #[.slice so n sc] 25)).alloc (.cells #[.int .i64 c,.int .i64 d] 31)).alloc (.cells #[.int .i64 g,.int .i64 h] 31)) W →
   Calls Tryz.prog 124 (#[.int .i64 i] ++ #[.pointer (some ⟨w.heap.size,0,none⟩),.pointer (some ⟨w.heap.size + 1,0,none⟩),.pointer (some ⟨w.heap.size + 1 + 1,0,none⟩)]) W fun e w' => e = .returned (.bool ((fun i => match l[i]? with | some y => !lessP (keyN y) ((c,d),(g,h)) | none => true) i)) ∧ Below W.heap.size W w' from fun i hi W hb => by
  obtain ⟨y,hy⟩ : ∃ y,l[i]? = some y := ⟨_,List.getElem?_eq_getElem (by omega)⟩
  refine pl1_any i _ _ _ so n sc l (c,d) (g,h) y _ W (HV.out.on hb) hn hy ?_ (X1.out.on hb) (Y1.out.on hb) (Z1.out.on hb)
  simp only [hy])
 have HLO := Lib.hid (show ∀ i,i < k → (fun i => match l[i]? with | some y => !lessP (keyN y) ((c,d),(g,h)) | none => true) i = false from fun i hi => by
  obtain ⟨y,hy⟩ : ∃ y,l[i]? = some y := ⟨_,List.getElem?_eq_getElem (by omega)⟩
  obtain ⟨e,he,hke,_⟩ := all2_key HA.out hy
  have h1 := take_less (m.map keyE) ((c,d),(g,h)) i (keyE e) (by rw [hk]; exact hi) (by rw [List.getElem?_map,he]; rfl)
  simp only [hy,hke,h1]
  rfl)
 have HHI := Lib.hid (show ∀ i,k ≤ i → i < n → (fun i => match l[i]? with | some y => !lessP (keyN y) ((c,d),(g,h)) | none => true) i = true from fun i hi hi2 => by
  obtain ⟨y,hy⟩ : ∃ y,l[i]? = some y := ⟨_,List.getElem?_eq_getElem (by omega)⟩
  obtain ⟨e,he,hke,_⟩ := all2_key HA.out hy
  have h1 := Sb.place_hi hr ((c,d),(g,h)) (by rw [hk]; exact hi) he
  simp only [hy,hke,h1]
  rfl)
 have HK := Lib.hid hk
 have HT := Lib.hid hth
 have HN := Lib.hid hn
 have ln : n ≤ 1000 := by omega
 clear hv hA h0 X Y Z hk hth hl hn hr
 go_enter Tryz.func77,Tryz.ntmps77
 go_wp2_with fail
 generalize ((w.alloc (.cells #[.slice so n sc] 25)).alloc (.cells #[.int .i64 c,.int .i64 d] 31)).alloc (.cells #[.int .i64 g,.int .i64 h] 31) = W at *
 refine (search_any 124 #[.pointer (some ⟨w.heap.size,0,none⟩),.pointer (some ⟨w.heap.size + 1,0,none⟩),.pointer (some ⟨w.heap.size + 1 + 1,0,none⟩)] call_pl n k _ W (by omega) HF.out hkn HLO.out HHI.out).mono ?_
 rintro e1 w1 ⟨rfl,hb⟩
 have BN := Lib.hid (fun dq osq => (BB.out.trans (hb.mono BB.out.size)).trans ((below_regrown w1 dq osq).mono (BB.out.trans (hb.mono BB.out.size)).size))
 have a0 := cell_regrown (show w1.cell? ⟨w.heap.size,0,none⟩ = some (.slice so n sc) from (X1.out.on hb).cell 0)
 have b0 := cell_regrown (show w1.cell? ⟨w.heap.size + 1,0,none⟩ = some (.int .i64 c) from (Y1.out.on hb).cell 0)
 have b1 := cell_regrown (show w1.cell? ⟨w.heap.size + 1,1,none⟩ = some (.int .i64 d) from (Y1.out.on hb).cell 1)
 have c0 := cell_regrown (show w1.cell? ⟨w.heap.size + 1 + 1,0,none⟩ = some (.int .i64 g) from (Z1.out.on hb).cell 0)
 have c1 := cell_regrown (show w1.cell? ⟨w.heap.size + 1 + 1,1,none⟩ = some (.int .i64 h) from (Z1.out.on hb).cell 1)
 clear x0 HF HLO HHI
 by_cases hkl : k < n
 ·obtain ⟨y,hy⟩ : ∃ y,l[k]? = some y := ⟨_,List.getElem?_eq_getElem (by rw [HN.out]; exact hkl)⟩
  obtain ⟨p,ix,p0,p1,p2,p3,p4,p5,p6⟩ := el_reN HV.out rfl HN.out hy hb
  have TH := Lib.hid (show th = decide (keyN y = ((c,d),(g,h))) from by
   obtain ⟨e,he,hke,_⟩ := all2_key HA.out hy
   rw [← HT.out,thereE,HK.out,he,hke])
  have g4 : decide ((k : Int) < (n : Int)) = true := by simp; omega
  obtain ⟨y1,y2,y3,y4,⟨yo,yn,yc⟩,y6,y7⟩ := y
  simp only at p0 p1 p2 p3
  clear p4 p5 p6 hb hy
  obtain ⟨r1,hr1⟩ : ∃ r,(y1 == c && y2 == d) = r := ⟨_,rfl⟩
  obtain ⟨r2,hr2⟩ : ∃ r,(y3 == g && y4 == h) = r := ⟨_,rfl⟩
  have e1 := eqId y1 y2 c d r1 hr1
  have e2 := eqId y3 y4 g h r2 hr2
  have R := Lib.hid (show th = (r1 && r2) from by
   rw [TH.out,← hr1,← hr2,Bool.eq_iff_iff]
   simp only [decide_eq_true_eq,Bool.and_eq_true,beq_iff_eq,Prod.mk.injEq])
  clear hr1 hr2 TH HT
  cases r1 <;> cases r2
  all_goals
   go_wp2
   refine wp_region_quiet_below (by kernel_rfl) (by kernel_rfl) ?_
   repeat (go_big_quiet_step (fail))
   refine wpQuiet_nil ?_
   intro _ hw'
   obtain ⟨⟨dq,osq⟩,hw''⟩ := hw'
   subst hw''
   go_wp2
   go_ret2
   exact ⟨by rw [R.out]; rfl,BN.out _ _⟩
 ·have TH := Lib.hid (show th = false from by
   rw [← HT.out,thereE,HK.out,List.getElem?_eq_none (by rw [← HA.out.len,HN.out]; omega)])
  have g4 : decide ((k : Int) < (n : Int)) = false := by simp; omega
  clear hb HT
  go_wp2
  refine wp_region_quiet_below (by kernel_rfl) (by kernel_rfl) ?_
  repeat (go_big_quiet_step (fail))
  refine wpQuiet_nil ?_
  intro _ hw'
  obtain ⟨⟨dq,osq⟩,hw''⟩ := hw'
  subst hw''
  go_wp2
  go_ret2
  exact ⟨by rw [TH.out]; rfl,BN.out _ _⟩
def cutV (v : Sl) (f k : Nat) : Sl := match v with
 | (some a,_,c) => (some (if c = f then a else a.add (f * 7)),k,c - f)
 | (none,_,_) => (none,0,0)
theorem tw_lt {α : Type} (p : α → Bool) : ∀ (l : List α) (j : Nat) (y : α),j < (l.takeWhile p).length → l[j]? = some y → p y = true
 | [],_,_,_,h => by simp at h
 | a :: l,j,y,hj,h => by
  by_cases ha : p a = true
  ·rw [List.takeWhile_cons,if_pos ha,List.length_cons] at hj
   cases j with
   | zero => rw [← Option.some.inj (show some a = some y from h)]; exact ha
   | succ j => exact tw_lt p l j y (by omega) (by simpa using h)
  ·rw [List.takeWhile_cons,if_neg ha] at hj
   simp at hj
theorem tw_end {α : Type} (p : α → Bool) : ∀ (l : List α) (y : α),l[(l.takeWhile p).length]? = some y → p y = false
 | [],_,h => by simp at h
 | a :: l,y,h => by
  by_cases ha : p a = true
  ·rw [List.takeWhile_cons,if_pos ha,List.length_cons] at h
   exact tw_end p l y (by simpa using h)
  ·rw [List.takeWhile_cons,if_neg ha] at h
   rw [← Option.some.inj (show some a = some y from h)]
   simpa using ha
theorem slice_cut (a : Addr) (f e len cap : Nat) (h : f ≤ e) (h6 : e ≤ cap) (w : World) : (Instr.sliceAt 25 (.slice (some a) len cap) (some (.int .i64 f)) (some (.int .i64 e)) none).run Tryz.prog w = .ok (slv (cutV (some a,len,cap) f (e - f))) w := by
 have h1 : (f : Int) ≤ (e : Int) := by omega
 have h3 : (e : Int) ≤ cap := by omega
 obtain ⟨i,i1,i2,i3,i4⟩ := okN.info
 have i1' : Tryz.prog.info? 66 = some i := i1
 have hu' : Tryz.prog.underlying 25 = some (.slice 66) := okN.hu
 have i3' : i.size = 7 := i3
 by_cases he : cap = f
 ·subst he
  obtain rfl : e = cap := by omega
  simp [go_sem,hu',sizeOf,typeInfo,i1',i3',cutV]
 ·simp [go_sem,hu',sizeOf,typeInfo,i1',i3',cutV,he,h,h6]
theorem row_cut {W : World} {v : Sl} {l : List XEn} (h : RowN W (slv v) l) (f k : Nat) (hk : f + k ≤ l.length) :
  (∀ w,(Instr.sliceAt 25 (slv v) (some (.int .i64 f)) (some (.int .i64 ((f + k : Nat) : Int))) none).run Tryz.prog w = .ok (slv (cutV v f k)) w) ∧ RowN W (slv (cutV v f k)) ((l.drop f).take k) := by
 obtain ⟨so,sn,sc⟩ := v
 rcases h with ⟨rfl,hv⟩ | ⟨a,cap,hv,h2,h3,h4⟩
 ·obtain ⟨rfl,rfl,rfl⟩ : so = none ∧ sn = 0 ∧ sc = 0 := by simpa using hv
  obtain ⟨rfl,rfl⟩ : f = 0 ∧ k = 0 := by simp at hk; omega
  refine ⟨fun w => ?_,Or.inl ⟨rfl,rfl⟩⟩
  obtain ⟨i,i1,i2,i3,i4⟩ := okN.info
  have i1' : Tryz.prog.info? 66 = some i := i1
  have hu' : Tryz.prog.underlying 25 = some (.slice 66) := okN.hu
  simp [go_sem,hu',sizeOf,typeInfo,i1',cutV]
 ·obtain ⟨rfl,rfl,rfl⟩ : so = some a ∧ sn = l.length ∧ sc = cap := by simpa using hv
  refine ⟨fun w => by have h := slice_cut a f (f + k) l.length sc (Nat.le_add_right _ _) (Nat.le_trans hk h2) w; rwa [Nat.add_sub_cancel_left] at h,?_⟩
  refine Or.inr ⟨(if sc = f then a else a.add (f * 7)),sc - f,?_,?_,by omega,fun j u hj => ?_⟩
  ·have e : ((l.drop f).take k).length = k := by rw [List.length_take,List.length_drop]; omega
   rw [e]
   rfl
  ·rw [List.length_take,List.length_drop]; omega
  ·have hlt := (List.getElem?_eq_some_iff.1 hj).1
   have hlen : (flat EN ((l.drop f).take k)).length = k * 7 := by
    rw [flat_length okN,List.length_take,List.length_drop]
    show _ * 7 = _
    rw [show min k (l.length - f) = k by omega]
   rw [hlen] at hlt
   rw [if_neg (by omega),add_add]
   refine h4 _ u ?_
   have e1 : flat EN l = flat EN (l.take f) ++ (flat EN ((l.drop f).take k) ++ flat EN ((l.drop f).drop k)) := by
    rw [← flat_append,List.take_append_drop,← flat_append,List.take_append_drop]
   have e2 : (flat EN (l.take f)).length = f * 7 := by
    rw [flat_length okN,List.length_take]
    show _ * 7 = _
    rw [show min f l.length = f by omega]
   rw [e1,List.getElem?_append_right (by rw [e2]; omega),e2,show f * 7 + j - f * 7 = j by omega,List.getElem?_append_left (by rw [hlen]; exact hlt)]
   exact hj
theorem fromT_len (m : List En) (t : XID) : fromT m t + (brE m t).length ≤ m.length := by
 have h1 : (brE m t).length ≤ (m.drop (fromT m t)).length := (List.takeWhile_sublist _).length_le
 have h2 : fromT m t ≤ m.length := (List.takeWhile_sublist _).length_le
 rw [List.length_drop] at h1
 omega
theorem branch_any (v : Sl) (l : List XEn) (m : List En) (t : XID) (w : World) (hv : RowN w (slv v) l) (hA : All2 (EnIn w) l m) (hr : RiseE m) (hl : l.length ≤ 1000) :
  Calls Tryz.prog 73 #[slv v,idv t] w fun e w' => e = .returned (slv (cutV v (fromT m t) (brE m t).length)) ∧ Below w.heap.size w w' := by
 have hfk := fromT_len m t
 have hML : l.length = m.length := hA.len
 obtain ⟨f,hf⟩ : ∃ f,fromT m t = f := ⟨_,rfl⟩
 obtain ⟨k,hk⟩ : ∃ k,(brE m t).length = k := ⟨_,rfl⟩
 rw [hf,hk] at hfk ⊢
 have RC := Lib.hid ((row_cut hv f k (by omega)).1)
 obtain ⟨so,n,sc⟩ := v
 generalize cutV (so,n,sc) f k = z at RC ⊢
 obtain ⟨z1,z2,z3⟩ := z
 have hn : l.length = n := sl_len hv
 obtain ⟨c,d⟩ := t
 obtain ⟨h0,X,Y⟩ := two_new w #[.slice so n sc] #[.int .i64 c,.int .i64 d] 25 31
 have BB := Lib.hid h0
 have HV := Lib.hid (hv.on h0)
 have HA := Lib.hid (hA.mono fun _ _ q => q.on h0)
 have X1 := Lib.hid X
 have Y1 := Lib.hid Y
 have x0 := X.cell 0
 simp only [List.getElem?_toArray,List.getElem?_cons_zero] at x0
 have FL : ∀ (i : Nat) (e : En),i < f → m[i]? = some e → lessI e.tree (c,d) = true := fun i e hi he => tw_lt (fun e : En => lessI e.tree (c,d)) m i e (by unfold fromT at hf; omega) he
 have FH : ∀ (i : Nat) (e : En),f ≤ i → m[i]? = some e → lessI e.tree (c,d) = false := fun i e hi he => by
  refine lo_out (c,d) hr e ?_
  rw [← drop_len]
  unfold fromT at hf
  rw [hf]
  exact List.mem_of_getElem? (show (m.drop f)[i - f]? = some e by rw [List.getElem?_drop,show f + (i - f) = i by omega]; exact he)
 have BL := Lib.hid (show ∀ (i : Nat) (e : En),i < k → m[f + i]? = some e → e.tree = (c,d) from fun i e hi he => by
  have := tw_lt (fun e : En => decide (e.tree = (c,d))) (m.drop f) i e (by unfold brE at hk; rw [hf] at hk; omega) (by rw [List.getElem?_drop]; exact he)
  exact of_decide_eq_true this)
 have BH := Lib.hid (show ∀ (e : En),m[f + k]? = some e → e.tree ≠ (c,d) from fun e he => by
  have := tw_end (fun e : En => decide (e.tree = (c,d))) (m.drop f) e (by unfold brE at hk; rw [hf] at hk; rw [hk,List.getElem?_drop]; exact he)
  exact of_decide_eq_false this)
 have HF := Lib.hid (show ∀ i,i < n → ∀ W,Below ((w.alloc (.cells #[.slice so n sc] 25)).alloc (.cells #[.int .i64 c,.int .i64 d] 31)).heap.size ((w.alloc (.cells #[.slice so n sc] 25)).alloc (.cells #[.int .i64 c,.int .i64 d] 31)) W →
   Calls Tryz.prog 119 (#[.int .i64 i] ++ #[.pointer (some ⟨w.heap.size,0,none⟩),.pointer (some ⟨w.heap.size + 1,0,none⟩)]) W fun e w' => e = .returned (.bool ((fun i => match l[i]? with | some y => !lessI (y.1,y.2.1) (c,d) | none => true) i)) ∧ Below W.heap.size W w' from fun i hi W hb => by
  obtain ⟨y,hy⟩ : ∃ y,l[i]? = some y := ⟨_,List.getElem?_eq_getElem (by omega)⟩
  refine br1_any i _ _ so n sc l (c,d) y _ W (HV.out.on hb) hn hy ?_ (X1.out.on hb) (Y1.out.on hb)
  simp only [hy])
 have HLO := Lib.hid (show ∀ i,i < f → (fun i => match l[i]? with | some y => !lessI (y.1,y.2.1) (c,d) | none => true) i = false from fun i hi => by
  obtain ⟨y,hy⟩ : ∃ y,l[i]? = some y := ⟨_,List.getElem?_eq_getElem (by omega)⟩
  obtain ⟨e,he,hke,hx⟩ := all2_key HA.out hy
  have h1 := FL i e hi he
  rw [← hx.1] at h1
  simp only [hy,h1]
  rfl)
 have HHI := Lib.hid (show ∀ i,f ≤ i → i < n → (fun i => match l[i]? with | some y => !lessI (y.1,y.2.1) (c,d) | none => true) i = true from fun i hi hi2 => by
  obtain ⟨y,hy⟩ : ∃ y,l[i]? = some y := ⟨_,List.getElem?_eq_getElem (by omega)⟩
  obtain ⟨e,he,hke,hx⟩ := all2_key HA.out hy
  have h1 := FH i e hi he
  rw [← hx.1] at h1
  simp only [hy,h1]
  rfl)
 have HN := Lib.hid hn
 have ln : n ≤ 1000 := by omega
 have hfk2 : f + k ≤ n := by omega
 clear hv hA h0 X Y hk hf hl hn hr hfk hML FL FH
 go_enter Tryz.func73,Tryz.ntmps73
 go_wp2_with fail
 generalize (w.alloc (.cells #[.slice so n sc] 25)).alloc (.cells #[.int .i64 c,.int .i64 d] 31) = W at *
 refine (search_any 119 #[.pointer (some ⟨w.heap.size,0,none⟩),.pointer (some ⟨w.heap.size + 1,0,none⟩)] call_br n f _ W (by omega) HF.out (by omega) HLO.out HHI.out).mono ?_
 rintro e1 w1 ⟨rfl,hb⟩
 have B1 := Lib.hid hb
 clear x0 HF HLO HHI hb
 go_wp2
 go_loopw [6] (fun i wr => ∃ j : Nat,j ≤ k ∧ i = .int .i64 ((f + j : Nat) : Int) ∧ Below W.heap.size W wr) (fun i _ => f + k - (intOf i).toNat)
 case atStart => exact ⟨0,Nat.zero_le _,by simp,B1.out⟩
 case round =>
  obtain ⟨j,hj,rfl,hbe⟩ := hrel
  have BE := Lib.hid hbe
  have a0 := cell_regrown (show wr.cell? ⟨w.heap.size,0,none⟩ = some (.slice so n sc) from (X1.out.on hbe).cell 0)
  have b0 := cell_regrown (show wr.cell? ⟨w.heap.size + 1,0,none⟩ = some (.int .i64 c) from (Y1.out.on hbe).cell 0)
  have b1 := cell_regrown (show wr.cell? ⟨w.heap.size + 1,1,none⟩ = some (.int .i64 d) from (Y1.out.on hbe).cell 1)
  have BN := Lib.hid (fun dq osq => BE.out.trans ((below_regrown wr dq osq).mono BE.out.size))
  clear hbe
  by_cases hjk : j < k
  ·obtain ⟨y,hy⟩ : ∃ y,l[f + j]? = some y := ⟨_,List.getElem?_eq_getElem (by rw [HN.out]; omega)⟩
   obtain ⟨p,ix,p0,p1,p2,p3,p4,p5,p6⟩ := el_reN HV.out rfl HN.out hy BE.out
   obtain ⟨e,he,_,hx⟩ := all2_key HA.out hy
   have ht : (y.1,y.2.1) = (c,d) := hx.1.trans (BL.out j e hjk he)
   have hjn : f + j < n := by omega
   have g4 : decide (((f + j : Nat) : Int) < (n : Int)) = true := by simp; omega
   have hw3 : IntKind.i64.wrap (((f + j : Nat) : Int) + 1) = ((f + (j + 1) : Nat) : Int) := by rw [IntWalk.i64_in _ (by omega)]; omega
   obtain ⟨y1,y2,y3,y4,⟨yo,yn,yc⟩,y6,y7⟩ := y
   obtain ⟨rfl,rfl⟩ : y1 = c ∧ y2 = d := by simpa using ht
   simp only at p0 p1
   have e1 := eqId y1 y2 y1 y2 true (by simp)
   clear p2 p3 p4 p5 p6 hy he hx ht
   generalize hq : f + j = q at *
   have HQ := Lib.hid hq
   clear hq
   go_wp2
   refine wp_region_quiet_below (by kernel_rfl) (by kernel_rfl) ?_
   repeat (go_big_quiet_step (fail))
   refine wpQuiet_nil ?_
   intro _ hw'
   obtain ⟨⟨dq,osq⟩,hw''⟩ := hw'
   subst hw''
   go_wp2
   go_roundw
   case rel => exact ⟨j + 1,by omega,by rfl,BN.out _ _⟩
   case measure =>
    have hq := HQ.out
    simp [intOf]
    omega
  ·obtain rfl : j = k := by omega
   have RC2 := RC.out
   by_cases hjn : f + j < n
   ·obtain ⟨y,hy⟩ : ∃ y,l[f + j]? = some y := ⟨_,List.getElem?_eq_getElem (by rw [HN.out]; omega)⟩
    obtain ⟨p,ix,p0,p1,p2,p3,p4,p5,p6⟩ := el_reN HV.out rfl HN.out hy BE.out
    obtain ⟨e,he,_,hx⟩ := all2_key HA.out hy
    have ht : (y.1,y.2.1) ≠ (c,d) := fun q => BH.out e he (hx.1.symm.trans q)
    have g4 : decide (((f + j : Nat) : Int) < (n : Int)) = true := by simp; omega
    obtain ⟨y1,y2,y3,y4,⟨yo,yn,yc⟩,y6,y7⟩ := y
    simp only at p0 p1
    have e1 := eqId y1 y2 c d false (Bool.eq_false_iff.2 fun h => ht (by simp at h; rw [h.1,h.2]))
    clear p2 p3 p4 p5 p6 hy he hx ht
    generalize f + j = q at *
    go_wp2
    refine wp_region_quiet_below (by kernel_rfl) (by kernel_rfl) ?_
    repeat (go_big_quiet_step (fail))
    refine wpQuiet_nil ?_
    intro _ hw'
    obtain ⟨⟨dq,osq⟩,hw''⟩ := hw'
    subst hw''
    have a0 := a0 dq osq
    go_wp2
    go_ret
    exact ⟨rfl,BB.out.trans ((BN.out _ _).mono BB.out.size)⟩
   ·have g4 : decide (((f + j : Nat) : Int) < (n : Int)) = false := by simp; omega
    generalize f + j = q at *
    go_wp2
    refine wp_region_quiet_below (by kernel_rfl) (by kernel_rfl) ?_
    repeat (go_big_quiet_step (fail))
    refine wpQuiet_nil ?_
    intro _ hw'
    obtain ⟨⟨dq,osq⟩,hw''⟩ := hw'
    subst hw''
    have a0 := a0 dq osq
    go_wp2
    go_ret
    exact ⟨rfl,BB.out.trans ((BN.out _ _).mono BB.out.size)⟩
end Go.Proofs.YtmklifheakemeaaGreat.Sb
namespace Go.Proofs.YtmklifheakemeaaGreat.Rl
open Go.RowKit Go.Sort Pu Rw Pr Va
theorem all_end {α : Type} (f : α → Bool) (l : List α) (m : Nat) (h : l.length = m) : (l.take m).all f = l.all f := by rw [← h,List.take_length]
theorem covers_any (pv qv : Value) (p b : List Cn) (w : World) (hp : RowC w pv (p.map r5)) (hl : RowC w qv (b.map r5)) (np : NF p) (nb : NF b) :
  Calls Tryz.prog 156 #[pv,qv] w fun e w' => e = .returned (.bool (coversL p b)) ∧ Below w.heap.size w w' := by
 have CO := Lib.hid (covers_of (a := p) nb.rise)
 have HP := Lib.hid hp
 have HL := Lib.hid hl
 have h5 : b.length ≤ 100 := by have := nb.five; omega
 have GP := Lib.hid np.goodK
 have GB := Lib.hid nb.goodK
 have m5 : p.length ≤ 5 := np.five
 obtain ⟨ao,ac,rfl⟩ := hp.len
 rw [List.length_map] at HP ⊢
 generalize hm : p.length = m at *
 have HM := Lib.hid hm
 generalize coversL p b = r at *
 clear hp hl hm np nb
 go_enter Tryz.func156,Tryz.ntmps156
 go_wp2
 go_loopw [11] (fun i wr => ∃ k : Nat,k ≤ m ∧ i = .int .i64 k ∧ Below w.heap.size w wr ∧ (p.take k).all (covO b) = true) (fun i _ => m - (intOf i).toNat)
 case atStart => exact ⟨0,Nat.zero_le _,rfl,Below.refl _ _,rfl⟩
 case round =>
  obtain ⟨k,hk,rfl,hb,hall⟩ := hrel
  have HB := Lib.hid hb
  have AL := Lib.hid hall
  clear hb hall
  by_cases hlt : k < m
  ·obtain ⟨⟨xn,xk⟩,hx⟩ : ∃ x,p[k]? = some x := ⟨_,List.getElem?_eq_getElem (by rw [HM.out]; exact hlt)⟩
   obtain ⟨q,ix,px⟩ := elC (x := r5 (xn,xk)) HP.out rfl (by rw [List.length_map]; exact HM.out) (by rw [List.getElem?_map,hx]; rfl)
   obtain ⟨p0,p1,p2,p3,p4⟩ := px _ HB.out
   have MO := Lib.hid (all_more (covO b) p k (xn,xk) hx)
   have NO := Lib.hid (fun h => all_not (covO b) p k (xn,xk) hx h)
   have GX := Lib.hid (GP.out _ (List.mem_of_getElem? hx))
   have BX := Lib.hid (show Box (wr.alloc (.cells #[.string xn,.int .i64 (kN xk),.int .i64 (kLo xk),.int .i64 (kHi xk),.string (kT xk)] 70)) wr.heap.size (cells5 (xn,kN xk,kLo xk,kHi xk,kT xk)).toArray 70 from box_new wr _ _)
   have B1 := Lib.hid (HB.out.alloc HB.out.size (.cells #[.string xn,.int .i64 (kN xk),.int .i64 (kLo xk),.int .i64 (kHi xk),.string (kT xk)] 70))
   have G := Lib.hid (of_any qv b xn (wr.alloc (.cells #[.string xn,.int .i64 (kN xk),.int .i64 (kLo xk),.int .i64 (kHi xk),.string (kT xk)] 70)) (HL.out.on B1.out) h5)
   have GC := Lib.hid (show covO b (xn,xk) = match ofC b xn with
    | some y => impliesK y.2 xk
    | none => false from rfl)
   obtain ⟨gg,hgg⟩ : ∃ g,covO b (xn,xk) = g := ⟨_,rfl⟩
   rw [hgg] at GC MO NO
   simp only [r5] at p0 p1 p2 p3 p4
   clear hx px hgg
   go_wp2_with fail
   refine G.out.mono ?_
   rintro e2 w2 ⟨he2,hb2⟩
   have B2 := Lib.hid (B1.out.trans (hb2.mono B1.out.size))
   obtain ⟨x0,x1,x2,x3,x4⟩ := box_five (BX.out.on hb2)
   simp only at x0 x1 x2 x3 x4
   have hwl : wr.heap.size < w2.heap.size := by have := hb2.size; simp at this; omega
   rcases hg : ofC b xn with _ | ⟨yn,yk⟩
   ·rw [hg] at he2 GC
    subst he2
    have R := Lib.hid (show r = false by rw [CO.out]; exact NO.out GC.out)
    clear hb2 G B1 BX ix p0 p1 p2 p3 p4 hg
    unfold ofV
    go_wp2
    go_ret
    exact ⟨ret_bool R.out.symm,B2.out.alloc B2.out.size _⟩
   ·obtain ⟨hm1,hm2⟩ := of_mem hg
    obtain rfl : yn = xn := hm2
    rw [hg] at he2 GC
    subst he2
    have WC := Lib.hid (fun W => wider_any yn xk yk W GX.out (GB.out _ hm1))
    simp only [r5] at WC
    clear hb2 G B1 BX ix p0 p1 p2 p3 p4 hg hm1
    unfold ofV
    simp only [r5]
    go_wp2_with fail
    refine (WC.out _).mono ?_
    rintro e3 w3 ⟨rfl,hb3⟩
    have B3 := Lib.hid ((B2.out.alloc B2.out.size (.cells #[.string yn,.int .i64 (kN yk),.int .i64 (kLo yk),.int .i64 (kHi yk),.string (kT yk)] 70)).trans (hb3.mono (B2.out.alloc B2.out.size (.cells #[.string yn,.int .i64 (kN yk),.int .i64 (kLo yk),.int .i64 (kHi yk),.string (kT yk)] 70)).size))
    rw [← GC.out]
    clear hb3 B2 x0 x1 x2 x3 x4 hwl WC
    cases gg
    ·have R := Lib.hid (show r = false by rw [CO.out]; exact NO.out rfl)
     go_wp2
     go_ret
     exact ⟨ret_bool R.out.symm,B3.out⟩
    ·go_wp2
     go_roundw
     case rel => exact ⟨k + 1,by omega,by go_num,B3.out,by rw [MO.out,AL.out]; rfl⟩
     case measure => simp [intOf]; omega
  ·obtain rfl : k = m := by omega
   have R := Lib.hid (show r = true by rw [CO.out,← all_end _ p _ HM.out]; exact AL.out)
   go_wp2
   go_ret
   exact ⟨ret_bool R.out.symm,HB.out⟩
end Go.Proofs.YtmklifheakemeaaGreat.Rl
namespace Go.Proofs.YtmklifheakemeaaGreat.Sb
open Go.RowKit Go.Sort Rw YtmklifheakemeaaGreat.Nm Pr Bk Av Rl
theorem covers_d (av_ bv : Value) (p q : List C5) (w : World) (ha : RowC w av_ p) (hb : RowC w bv q) (hp : PredOk p) (hq : PredOk q) :
  Calls Tryz.prog 156 #[av_,bv] w fun e w' => e = .returned (.bool (coversC p q)) ∧ Below w.heap.size w w' := by
 obtain ⟨a,na,rfl⟩ := hp
 obtain ⟨b,nb,rfl⟩ := hq
 unfold coversC
 rw [unR_map,unR_map]
 exact covers_any av_ bv a b w ha hb na nb
theorem any_at {α : Type} (f : α → Bool) {l : List α} (h : ∀ (j : Nat) (y : α),j < l.length → l[j]? = some y → f y = false) : l.any f = false := by
 rw [List.any_eq_false]
 intro e he
 obtain ⟨j,hj,hje⟩ := List.getElem_of_mem he
 simpa using h j e hj (by rw [List.getElem?_eq_getElem hj,hje])
theorem any_of {α : Type} (f : α → Bool) {l : List α} {k : Nat} {y : α} (h : l[k]? = some y) (hf : f y = true) : l.any f = true := by
 rw [List.any_eq_true]
 exact ⟨y,List.mem_of_getElem? h,hf⟩
abbrev cE (p : List C5) (e : En) : Bool := e.up && coversC e.p p
theorem covered_any (v : Sl) (pv : Value) (l : List XEn) (m : List En) (p' : List C5) (w : World) (hs : RowN w (slv v) l) (hu : All2 (EnIn w) l m) (hp : RowC w pv p') (hok : ∀ e ∈ m,PredOk e.p) (hop : PredOk p') :
  Calls Tryz.prog 117 #[slv v,pv] w fun e w' => e = .returned (.bool (covB m p')) ∧ Below w.heap.size w w' := by
 have HU := Lib.hid hu
 have HP := Lib.hid hp
 have OK := Lib.hid hok
 have OP := Lib.hid hop
 obtain ⟨pa,pc,rfl⟩ := hp.len
 generalize p'.length = pn at *
 obtain ⟨so,n,sc⟩ := v
 have hn := sl_len hs
 have HS := Lib.hid hs
 have lm := hs.most
 unfold maxLen at lm
 rw [hn] at lm
 have HN := Lib.hid hn
 clear hu hp hok hop hs hn
 go_enter Tryz.func117,Tryz.ntmps117
 go_wp2
 go_loopw [9] (fun i wr => ∃ k : Nat,k ≤ n ∧ i = .int .i64 k ∧ Below w.heap.size w wr ∧ ∀ (j : Nat) (y : En),j < k → m[j]? = some y → cE p' y = false) (fun i _ => n - (intOf i).toNat)
 case atStart => exact ⟨0,Nat.zero_le _,rfl,Below.refl _ _,fun j y h => by omega⟩
 case round =>
  obtain ⟨k,hk,rfl,hbe,hall⟩ := hrel
  have BE := Lib.hid hbe
  have AL := Lib.hid hall
  clear hbe hall
  by_cases hlt : k < n
  ·obtain ⟨y,hy⟩ : ∃ y,l[k]? = some y := ⟨_,List.getElem?_eq_getElem (by rw [HN.out]; exact hlt)⟩
   obtain ⟨q,ix,px⟩ := elN HS.out rfl HN.out hy
   obtain ⟨p0,p1,p2,p3,p4,p5,p6⟩ := px wr BE.out
   obtain ⟨e,he,_,hin⟩ := all2_key HU.out hy
   obtain ⟨y1,y2,y3,y4,⟨yo,yn,yc⟩,y6,y7⟩ := y
   simp only at p0 p1 p2 p3 p4 p5 p6
   have NB := Lib.hid (newB wr (.cells #[.int .i64 y1,.int .i64 y2,.int .i64 y3,.int .i64 y4,.slice yo yn yc,.int .i64 y6,.bool y7] 66))
   have hw3 : IntKind.i64.wrap ((k : Int) + 1) = (k : Int) + 1 := IntWalk.i64_in _ (by omega)
   obtain ⟨t,ht⟩ : ∃ r,coversC e.p p' = r := ⟨_,rfl⟩
   have HV := Lib.hid (show cE p' e = (y7 && t) by unfold cE; rw [← hin.2.2.2.1,ht])
   have HE := Lib.hid he
   have BF := Lib.hid (BE.out.trans (NB.out.mono BE.out.size))
   have CV := Lib.hid (covers_d (.slice yo yn yc) (.slice pa pn pc) e.p p' _ (hin.2.2.2.2.on BF.out) (HP.out.on BF.out) (OK.out _ (List.mem_of_getElem? he)) OP.out)
   rw [ht] at CV
   clear px hy ht he hin
   cases y7
   ·clear CV
    go_wp2
    go_roundw
    case rel => exact ⟨k + 1,by omega,by go_num,BF.out,fun j y' hj h1 => by
     rcases Nat.lt_or_ge j k with h3 | h3
     ·exact AL.out j y' h3 h1
     ·obtain rfl : j = k := by omega
      have e1 := HE.out
      rw [h1] at e1
      rw [Option.some.inj e1]
      exact HV.out.trans (by simp)⟩
    case measure => simp [intOf]; omega
   ·go_wp2_with fail
    refine CV.out.mono ?_
    rintro e3 w3 ⟨rfl,hb⟩
    have BG := Lib.hid (BF.out.trans (hb.mono BF.out.size))
    clear CV hb p0 p1 p2 p3 p4 p5 p6 ix
    cases t
    ·go_wp2
     go_roundw
     case rel => exact ⟨k + 1,by omega,by go_num,BG.out,fun j y' hj h1 => by
      rcases Nat.lt_or_ge j k with h3 | h3
      ·exact AL.out j y' h3 h1
      ·obtain rfl : j = k := by omega
       have e1 := HE.out
       rw [h1] at e1
       rw [Option.some.inj e1]
       exact HV.out.trans (by simp)⟩
     case measure => simp [intOf]; omega
    ·have hd : covB m p' = true := any_of (cE p') HE.out (HV.out.trans (by simp))
     go_wp2
     go_ret
     exact ⟨by rw [hd]; rfl,BG.out⟩
  ·obtain rfl : k = n := by omega
   have hd : covB m p' = false := any_at (cE p') fun j y hj h => AL.out j y (by rw [← HN.out,HU.out.len]; exact hj) h
   go_wp2
   go_ret
   exact ⟨by rw [hd]; rfl,BE.out⟩
end Go.Proofs.YtmklifheakemeaaGreat.Sb
namespace Go.Proofs.YtmklifheakemeaaGreat.Rl
open Go.RowKit Go.Sort Pu Rw Pr Va
def TogQ (a b : List Cn) (w : World) (e : Ending) (w' : World) : Prop := Below w.heap.size w w' ∧ (match foldC a.length a b with
 | .ok p => ∃ pv,e = .returned (.tuple #[pv,.bool true]) ∧ RowC w' pv (p.map r5)
 | .error _ => ∃ pv,e = .returned (.tuple #[pv,.bool false]))
theorem smallP_both {a b : List Cn} (na : NF a) (nb : NF b) : SmallP (a ++ b) := ⟨by have := na.five; have := nb.five; simp; omega,fun c hc => by
 rcases List.mem_append.1 hc with h | h
 ·exact na.small c h
 ·exact nb.small c h⟩
theorem tog_any (av_ bv : Value) (a b : List Cn) (w : World) (ha : RowC w av_ (a.map r5)) (hb : RowC w bv (b.map r5)) (na : NF a) (nb : NF b) : Calls Tryz.prog 75 #[av_,bv] w (TogQ a b w) := by
 have B0 := Lib.hid (show Below w.heap.size w (w.alloc (.cells #[av_,bv] 32)) from (Below.refl _ _).alloc (Nat.le_refl _) _)
 have CT := Lib.hid (concat_any w.heap.size av_ bv (a.map r5) (b.map r5) (w.alloc (.cells #[av_,bv] 32)) (by simp [go_sem]) (by simp [go_sem]) (ha.on B0.out) (hb.on B0.out) (by rw [List.length_map]; have := na.five; omega) (by rw [List.length_map]; have := nb.five; omega))
 have SP := Lib.hid (smallP_both na nb)
 have GD := Lib.hid (show ∀ c ∈ a ++ b,goodC c = true from fun c hc => by
  rcases List.mem_append.1 hc with h | h
  ·exact na.good c h
  ·exact nb.good c h)
 have MB := Lib.hid (make_both (b := b) na.rise na.five)
 obtain ⟨ao,ac,rfl⟩ := ha.len
 obtain ⟨bo,bc,rfl⟩ := hb.len
 clear ha hb na nb
 simp only [List.length_map] at CT B0 ⊢
 obtain ⟨res,hres⟩ : ∃ r,r = foldC a.length a b := ⟨_,rfl⟩
 have MQ := Lib.hid (show ∀ e w',(Below w.heap.size w w' ∧ (match res with
  | .ok p => ∃ pv,e = .returned (.tuple #[pv,.bool true]) ∧ RowC w' pv (p.map r5)
  | .error _ => ∃ pv,e = .returned (.tuple #[pv,.bool false]))) → TogQ a b w e w' from fun e w' h => by unfold TogQ; rw [← hres]; exact h)
 rw [← hres] at MB
 generalize hq : TogQ a b w = q at *
 clear hq hres
 go_enter Tryz.func75,Tryz.ntmps75
 go_wp2_with fail
 refine CT.out.mono ?_
 rintro e1 w1 ⟨v1,rfl,ho,hb1⟩
 have B1 := Lib.hid (B0.out.trans (hb1.mono B0.out.size))
 have MK := Lib.hid (make_any v1 (a ++ b) w1 (by rw [List.map_append]; exact Row.of_own ho) SP.out GD.out)
 clear ho hb1 CT SP GD B0
 go_wp2_with fail
 refine MK.out.mono ?_
 rintro e2 w2 ⟨hb2,h2⟩
 have B2 := Lib.hid (B1.out.trans (hb2.mono B1.out.size))
 rw [MB.out] at h2
 clear hb2 MK B1 MB
 rcases res with _ | p
 ·obtain ⟨bb,rfl⟩ := h2
  go_wp2
  go_region
  all_goals simp only [Exit.then]
  all_goals apply_assumption
  all_goals go_wp2
  all_goals exact MQ.out _ _ ⟨B2.out.drew,_,rfl⟩
 ·obtain ⟨pv,rfl,hp⟩ := h2
  have HP := Lib.hid hp
  clear hp
  go_wp2
  go_region
  all_goals simp only [Exit.then]
  all_goals apply_assumption
  all_goals go_wp2
  all_goals exact MQ.out _ _ ⟨B2.out.drew,_,rfl,HP.out.on (Below.refl _ _).drew⟩
theorem rmeets_any (av_ bv : Value) (a b : List Cn) (w : World) (ha : RowC w av_ (a.map r5)) (hb : RowC w bv (b.map r5)) (na : NF a) (nb : NF b) : Calls Tryz.prog 24 #[av_,bv] w fun e w' => e = .returned (.bool (meetsB a b)) ∧ Below w.heap.size w w' := by
 have T := Lib.hid (tog_any av_ bv a b w ha hb na nb)
 have MM := Lib.hid (show meetsB a b = match foldC a.length a b with
  | .ok _ => true
  | .error _ => false from rfl)
 unfold TogQ at T
 generalize meetsB a b = r at *
 generalize foldC a.length a b = res at *
 clear ha hb na nb
 go_enter Tryz.func24,Tryz.ntmps24
 go_wp2_with fail
 refine T.out.mono ?_
 rintro e1 w1 ⟨hb1,h1⟩
 have B1 := Lib.hid hb1
 clear hb1 T
 rcases res with _ | p
 ·obtain ⟨pv,rfl⟩ := h1
  have M := Lib.hid (show r = false from MM.out)
  clear MM
  go_wp2
  go_ret
  exact ⟨ret_bool M.out.symm,B1.out⟩
 ·obtain ⟨pv,rfl,hp⟩ := h1
  have M := Lib.hid (show r = true from MM.out)
  clear MM hp
  go_wp2
  go_ret
  exact ⟨ret_bool M.out.symm,B1.out⟩
end Go.Proofs.YtmklifheakemeaaGreat.Rl
namespace Go.Proofs.YtmklifheakemeaaGreat.Av
open Go.RowKit Go.Sort Rw YtmklifheakemeaaGreat.Nm Pr Bk
end Go.Proofs.YtmklifheakemeaaGreat.Av
namespace Go.Proofs.YtmklifheakemeaaGreat.Av
open Go.RowKit Go.Sort Rw YtmklifheakemeaaGreat.Nm Pr Bk
end Go.Proofs.YtmklifheakemeaaGreat.Av
