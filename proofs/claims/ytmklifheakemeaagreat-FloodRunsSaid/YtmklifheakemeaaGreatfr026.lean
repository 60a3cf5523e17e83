/-
  slices.BinarySearchFunc over constraints in the order of their names, . Conditions as told.
-/
import Derived.Test.YtmklifheakemeaaGreatfr009
import Derived.Test.YtmklifheakemeaaGreatfr008
import Derived.Deep.LoopGhost
import Derived.Laws.Externs
import Derived.Test.YtmklifheakemeaaGreatfr025
import Derived.Test.YtmklifheakemeaaGreatfr010
import Derived.Deep.RegionWith
set_option maxRecDepth 100000
set_option maxHeartbeats 64000000
namespace Go.Proofs.YtmklifheakemeaaGreat.Pr
open Go.RowKit Go.Sort Pu Rw Va
theorem cmpStr_any (a b : ByteArray) (w : World) : Calls Tryz.prog 194 #[.string a,.string b] w fun e w' => e = .returned (.int .i64 (cmpC a b)) ∧ w' = w := by
 go_enter Tryz.func194,Tryz.ntmps194
 go_wp2_with fail
 rw [run_callFunc_extern Tryz.func198 (by kernel_rfl) (by kernel_rfl) (by kernel_rfl) (e := Extern.BytealgCompare.compare) (by kernel_rfl),Lib.run_compareString]
 simp only [Result.andThen]
 rw [Oper.upon_value]
 go_wp2
 go_ret
 exact ⟨rfl,rfl⟩
theorem compare_any (a b : ByteArray) (w : World) : Calls Tryz.prog 186 #[.string a,.string b] w fun e w' => e = .returned (.int .i64 (cmpC a b)) ∧ w' = w := by
 go_enter Tryz.func186,Tryz.ntmps186
 go_wp2_with fail
 refine (cmpStr_any a b w).mono ?_
 rintro e w' ⟨rfl,rfl⟩
 go_wp2
 go_ret
 exact ⟨rfl,rfl⟩
theorem byName_any (c d : C5) (w : World) : Calls Tryz.prog 179 #[cv c,cv d] w fun e w' => e = .returned (.int .i64 (cmpC c.1 d.1)) ∧ Below w.heap.size w w' := by
 go_enter Tryz.func179,Tryz.ntmps179
 go_wp2_with fail
 refine (compare_any c.1 d.1 _).mono ?_
 rintro e w' ⟨rfl,rfl⟩
 go_wp2
 go_ret
 exact ⟨rfl,((Below.refl w.heap.size w).alloc (Nat.le_refl _) _).alloc (by simp) _⟩
theorem byName_re (c d : C5) (r : Int) (hr : cmpC c.1 d.1 = r) (w : World) (k : Nat) (os : Array Obj) :
  Calls Tryz.prog 179 #[cv c,cv d] (grow (redrawn w k) os) fun e w'' => e = .returned (.int .i64 r) ∧ ∃ p : Regrown,w'' = grow (redrawn w p.d) p.os := by
 subst hr
 exact Calls.regrown_of (byName_any c d _)
theorem el_regrown {W W1 : World} {v : Value} {l : List C5} {ao : Option Addr} {n c k : Nat} {x : C5} (h : RowC W v l) (hv : v = .slice ao n c) (hn : l.length = n) (hk : l[k]? = some x) (hb : Below W.heap.size W W1) :
  ∃ p : Addr,(∀ w,(Instr.indexAt 32 (.slice ao n c) (.int .i64 k)).run Tryz.prog w = .ok (.pointer (some p)) w) ∧
   (∀ d os,(grow (redrawn W1 d) os).cell? p = some (.string x.1)) ∧ (∀ d os,(grow (redrawn W1 d) os).cell? ⟨p.block,p.off + 1,none⟩ = some (.int .i64 x.2.1)) ∧ (∀ d os,(grow (redrawn W1 d) os).cell? ⟨p.block,p.off + 2,none⟩ = some (.int .i64 x.2.2.1)) ∧ (∀ d os,(grow (redrawn W1 d) os).cell? ⟨p.block,p.off + 3,none⟩ = some (.int .i64 x.2.2.2.1)) ∧ (∀ d os,(grow (redrawn W1 d) os).cell? ⟨p.block,p.off + 4,none⟩ = some (.string x.2.2.2.2)) := by
 obtain ⟨p,h1,h2⟩ := elC h hv hn hk
 obtain ⟨c0,c1,c2,c3,c4⟩ := h2 _ hb
 exact ⟨p,h1,cell_regrown c0,cell_regrown c1,cell_regrown c2,cell_regrown c3,cell_regrown c4⟩
theorem box_regrown {W : World} {b : Nat} {c : C5} (h : Box W b (cells5 c).toArray 70) : (∀ d os,(grow (redrawn W d) os).cell? ⟨b,0,none⟩ = some (.string c.1)) ∧ (∀ d os,(grow (redrawn W d) os).cell? ⟨b,1,none⟩ = some (.int .i64 c.2.1)) ∧ (∀ d os,(grow (redrawn W d) os).cell? ⟨b,2,none⟩ = some (.int .i64 c.2.2.1)) ∧ (∀ d os,(grow (redrawn W d) os).cell? ⟨b,3,none⟩ = some (.int .i64 c.2.2.2.1)) ∧ (∀ d os,(grow (redrawn W d) os).cell? ⟨b,4,none⟩ = some (.string c.2.2.2.2)) :=
 ⟨cell_regrown (h.cell 0),cell_regrown (h.cell 1),cell_regrown (h.cell 2),cell_regrown (h.cell 3),cell_regrown (h.cell 4)⟩
theorem bs_any (v : Value) (l : List Cn) (c : Cn) (w : World) (hv : RowC w v (l.map r5)) (hr : RiseC l) (hl : l.length ≤ 100) :
  Calls Tryz.prog 178 #[v,cv (r5 c),.func (.func 179) #[] #[]] w fun e w' => e = .returned (.tuple #[.int .i64 (cntC l c.1),.bool (thereC l c.1)]) ∧ Below w.heap.size w w' := by
 have HL := Lib.hid hv
 have HR := Lib.hid hr
 have LN := Lib.hid (show (l.map r5).length = l.length from List.length_map ..)
 have BX := Lib.hid (box_new w (cells5 (r5 c)).toArray 70)
 have B1 := Lib.hid ((Below.refl w.heap.size w).alloc (Nat.le_refl _) (.cells (cells5 (r5 c)).toArray 70))
 obtain ⟨ao,ac,rfl⟩ := hv.len
 rw [List.length_map] at HL ⊢
 obtain ⟨n,hn⟩ : ∃ n,n = l.length := ⟨_,rfl⟩
 rw [← hn] at HL hl ⊢
 have HN := Lib.hid hn
 obtain ⟨cnt,hc⟩ : ∃ k,k = cntC l c.1 := ⟨_,rfl⟩
 obtain ⟨th,ht⟩ : ∃ k,k = thereC l c.1 := ⟨_,rfl⟩
 rw [← hc,← ht]
 have HC := Lib.hid hc
 have HT := Lib.hid ht
 clear hv hr hn hc ht
 go_enter Tryz.func178,Tryz.ntmps178
 go_wp2
 change Code.wp _ _ _ _ (w.alloc (.cells (cells5 (r5 c)).toArray 70))
 generalize w.alloc (.cells (cells5 (r5 c)).toArray 70) = w1 at *
 go_loopg [9,10] n (fun kx s9 s10 wr => ∃ lo hi : Nat,s9 = .int .i64 lo ∧ s10 = .int .i64 hi ∧ lo ≤ hi ∧ hi ≤ n ∧ hi - lo ≤ kx ∧ Below w.heap.size w wr ∧ Box wr w.heap.size (cells5 (r5 c)).toArray 70 ∧
  (∀ (t : Nat) (y : Cn),t < lo → l[t]? = some y → Op.bytesLess y.1.toList c.1.toList = true) ∧ (∀ (t : Nat) (y : Cn),hi ≤ t → l[t]? = some y → Op.bytesLess y.1.toList c.1.toList = false))
 case atStart => exact ⟨0,n,rfl,rfl,Nat.zero_le _,Nat.le_refl _,by omega,B1.out,BX.out,fun t y h => by omega,fun t y h1 h2 => by have := (List.getElem?_eq_some_iff.1 h2).1; have := HN.out; omega⟩
 case round =>
  clear B1 BX
  obtain ⟨lo,hi,rfl,rfl,hlh,hin,hg,hb,hx,ha,hz⟩ := hrel
  have B := Lib.hid hb
  have X := Lib.hid hx
  have AL := Lib.hid ha
  have ZL := Lib.hid hz
  clear hb hx ha hz
  by_cases hlt : lo < hi
  ·obtain ⟨y,hy⟩ : ∃ y,l[(lo + hi) / 2]? = some y := ⟨_,List.getElem?_eq_getElem (by have := HN.out; omega)⟩
   obtain ⟨p,ix,p0,p1,p2,p3,p4⟩ := el_regrown (x := r5 y) HL.out rfl (LN.out.trans HN.out.symm) (by rw [List.getElem?_map,hy]; rfl) B.out
   obtain ⟨b0,b1,b2,b3,b4⟩ := box_regrown X.out
   obtain ⟨r,hr⟩ : ∃ r,cmpC y.1 c.1 = r := ⟨_,rfl⟩
   have C := byName_re (r5 y) (r5 c) r hr wr
   have LE := Lib.hid (show decide (r < 0) = Op.bytesLess y.1.toList c.1.toList by rw [← hr]; exact cmpC_less _ _)
   have Y := Lib.hid hy
   simp only [r5] at p0 p1 p2 p3 p4 b0 b1 b2 b3 b4 C ⊢
   clear hy hr
   have e23 : ((lo : Int) + (hi : Int)) / 2 = (((lo + hi) / 2 : Nat) : Int) := by omega
   generalize hm : (lo + hi) / 2 = m at *
   have BN := Lib.hid (fun dq osq => B.out.trans ((below_regrown wr dq osq).mono B.out.size))
   have XN := Lib.hid (fun dq osq => X.out.on (below_regrown wr dq osq))
   by_cases hneg : r < 0
   ·have d0 : decide (r < 0) = true := by simpa using hneg
    have LT := Lib.hid (show Op.bytesLess y.1.toList c.1.toList = true by rw [← LE.out]; exact d0)
    go_wp2
    refine wp_region_quiet_below (by kernel_rfl) (by kernel_rfl) ?_
    repeat (go_big_quiet_step (first | (with_reducible exact C _ _) | exact call_byName _ _))
    refine wpQuiet_nil ?_
    intro _ hw'
    obtain ⟨⟨dq,osq⟩,hw''⟩ := hw'
    subst hw''
    clear ix p0 p1 p2 p3 p4 b0 b1 b2 b3 b4 C
    go_wp2
    go_roundg (hi - (m + 1))
    case measure => omega
    case rel => exact ⟨m + 1,hi,by go_num,rfl,by omega,hin,Nat.le_refl _,BN.out _ _,XN.out _ _,fun t z h1 h2 => by
     rcases Nat.lt_or_ge t m with h3 | h3
     ·exact rise_down HR.out (by omega) h2 Y.out LT.out
     ·obtain rfl : t = m := by omega
      rw [Y.out] at h2
      rw [← Option.some.inj h2]
      exact LT.out,ZL.out⟩
   ·have d0 : decide (r < 0) = false := by simpa using hneg
    have LT := Lib.hid (show Op.bytesLess y.1.toList c.1.toList = false by rw [← LE.out]; exact d0)
    go_wp2
    refine wp_region_quiet_below (by kernel_rfl) (by kernel_rfl) ?_
    repeat (go_big_quiet_step (first | (with_reducible exact C _ _) | exact call_byName _ _))
    refine wpQuiet_nil ?_
    intro _ hw'
    obtain ⟨⟨dq,osq⟩,hw''⟩ := hw'
    subst hw''
    clear ix p0 p1 p2 p3 p4 b0 b1 b2 b3 b4 C
    go_wp2
    go_roundg (m - lo)
    case measure => omega
    case rel => exact ⟨lo,m,rfl,rfl,by omega,by omega,Nat.le_refl _,BN.out _ _,XN.out _ _,AL.out,fun t z h1 h2 => by
     cases h : Op.bytesLess z.1.toList c.1.toList
     ·rfl
     ·have := rise_down HR.out h1 Y.out h2 h
      rw [LT.out] at this
      cases this⟩
  ·obtain rfl : hi = lo := by omega
   have E := Lib.hid (cntC_is l c.1 hi (by have := HN.out; omega) AL.out (fun z hz => ZL.out hi z (Nat.le_refl _) hz))
   by_cases hn : hi < n
   ·obtain ⟨y,hy⟩ : ∃ y,l[hi]? = some y := ⟨_,List.getElem?_eq_getElem (by have := HN.out; omega)⟩
    obtain ⟨p,ix,p0,p1,p2,p3,p4⟩ := el_regrown (x := r5 y) HL.out rfl (LN.out.trans HN.out.symm) (by rw [List.getElem?_map,hy]; rfl) B.out
    obtain ⟨b0,b1,b2,b3,b4⟩ := box_regrown X.out
    obtain ⟨r,hr⟩ : ∃ r,cmpC y.1 c.1 = r := ⟨_,rfl⟩
    have C := byName_re (r5 y) (r5 c) r hr wr
    have TH := Lib.hid (show th = (r == 0) by
     rw [HT.out,thereC,E.out,hy,Bool.eq_iff_iff,beq_iff_eq,← hr,cmpC_same,decide_eq_true_eq])
    simp only [r5] at p0 p1 p2 p3 p4 b0 b1 b2 b3 b4 C ⊢
    have BN := Lib.hid (fun dq osq => B.out.trans ((below_regrown wr dq osq).mono B.out.size))
    have CE := Lib.hid (show cnt = hi by rw [HC.out,E.out])
    clear hy hr hlt
    have g4 : decide ((hi : Int) < (n : Int)) = true := by simp; omega
    go_wp2
    refine wp_region_quiet_below (by kernel_rfl) (by kernel_rfl) ?_
    repeat (go_big_quiet_step (first | (with_reducible exact C _ _) | exact call_byName _ _))
    refine wpQuiet_nil ?_
    intro _ hw'
    obtain ⟨⟨dq,osq⟩,hw''⟩ := hw'
    subst hw''
    clear ix p0 p1 p2 p3 p4 b0 b1 b2 b3 b4 C
    go_wp2
    go_ret2
    exact ⟨by rw [TH.out,CE.out]; rfl,BN.out _ _⟩
   ·have TH := Lib.hid (show th = false by
     rw [HT.out,thereC,E.out,List.getElem?_eq_none (by have := HN.out; omega)])
    have CE := Lib.hid (show cnt = hi by rw [HC.out,E.out])
    have BN := Lib.hid (fun dq osq => B.out.trans ((below_regrown wr dq osq).mono B.out.size))
    have g4 : decide ((hi : Int) < (n : Int)) = false := by simp; omega
    clear hlt
    go_wp2
    refine wp_region_quiet_below (by kernel_rfl) (by kernel_rfl) ?_
    repeat (go_big_quiet_step (first | (with_reducible exact C _ _) | exact call_byName _ _))
    refine wpQuiet_nil ?_
    intro _ hw'
    obtain ⟨⟨dq,osq⟩,hw''⟩ := hw'
    subst hw''
    go_wp2
    go_ret2
    exact ⟨by rw [TH.out,CE.out]; rfl,BN.out _ _⟩
def stepC (m : List Cn) (c : Cn) : Except Int (List Cn) := match insC m c with
 | none => .error 5
 | some m' => if 5 < m'.length then .error 7 else .ok m'
def JoinQ (B : Nat) (r : Except Int (List Cn)) (W : World) (e : Ending) (w' : World) : Prop := Below B W w' ∧ (match r with
 | .ok m' => ∃ v',e = .returned (.tuple #[v',.nilIface]) ∧ OwnC w' B v' (m'.map r5)
 | .error k => e = .returned (.tuple #[.slice none 0 0,.iface 205 (.int .i64 k)]))
theorem step_full {m : List Cn} {c : Cn} (h : thereC m c.1 = false) (h5 : m.length = 5) : stepC m c = .error 7 := by
 unfold stepC
 rw [ins_not h]
 have := cntC_le m c.1
 simp only
 rw [if_pos (by simp; omega)]
theorem step_room {m : List Cn} {c : Cn} (h : thereC m c.1 = false) (h5 : m.length < 5) : stepC m c = .ok (m.take (cntC m c.1) ++ c :: m.drop (cntC m c.1)) := by
 unfold stepC
 rw [ins_not h]
 have := cntC_le m c.1
 simp only
 rw [if_neg (by simp; omega)]
theorem flat5_set : ∀ (l : List C5) (k : Nat) (x : C5),k < l.length → flat EC (l.set k x) = ((((( flat EC l).set (k * 5) (.string x.1)).set (k * 5 + 1) (.int .i64 x.2.1)).set (k * 5 + 2) (.int .i64 x.2.2.1)).set (k * 5 + 3) (.int .i64 x.2.2.2.1)).set (k * 5 + 4) (.string x.2.2.2.2)
 | [],k,x,h => by simp at h
 | y :: r,0,x,_ => by simp [flat,EC,cells5]
 | y :: r,k + 1,x,h => by
  have h2 := flat5_set r k x (by simpa using h)
  have e : ∀ j u (zs : List Value),(cells5 y ++ zs).set (5 + j) u = cells5 y ++ zs.set j u := fun j u zs => by simp [cells5,Nat.add_comm 5 j]
  simp only [List.set_cons_succ,flat,h2]
  show cells5 y ++ _ = _
  rw [show (k + 1) * 5 = 5 + k * 5 by omega,show 5 + k * 5 + 1 = 5 + (k * 5 + 1) by omega,show 5 + k * 5 + 2 = 5 + (k * 5 + 2) by omega,show 5 + k * 5 + 3 = 5 + (k * 5 + 3) by omega,show 5 + k * 5 + 4 = 5 + (k * 5 + 4) by omega]
  show _ = ((((( cells5 y ++ flat EC r).set _ _).set _ _).set _ _).set _ _).set _ _
  rw [e,e,e,e,e]
theorem own_store {W : World} {B g n cap k : Nat} {l : List C5} {x : C5} (h : OwnC W B (.slice (some ⟨g,0,none⟩) n cap) l) (hn : n = l.length) (hk : k < n) :
  OwnC (((((W.setCell ⟨g,k * 5,none⟩ (.string x.1)).setCell ⟨g,k * 5 + 1,none⟩ (.int .i64 x.2.1)).setCell ⟨g,k * 5 + 2,none⟩ (.int .i64 x.2.2.1)).setCell ⟨g,k * 5 + 3,none⟩ (.int .i64 x.2.2.2.1)).setCell ⟨g,k * 5 + 4,none⟩ (.string x.2.2.2.2)) B (.slice (some ⟨g,0,none⟩) n cap) (l.set k x) := by
 subst hn
 have o1 := (World.ownsRow.stored h (k * 5) (.string x.1)).1
 have o2 := (World.ownsRow.stored o1 (k * 5 + 1) (.int .i64 x.2.1)).1
 have o3 := (World.ownsRow.stored o2 (k * 5 + 2) (.int .i64 x.2.2.1)).1
 have o4 := (World.ownsRow.stored o3 (k * 5 + 3) (.int .i64 x.2.2.2.1)).1
 have o5 := (World.ownsRow.stored o4 (k * 5 + 4) (.string x.2.2.2.2)).1
 rw [← flat5_set l k x hk] at o5
 show World.ownsRow _ _ _ _ _ (l.set k x).length _
 rw [List.length_set]
 exact o5
theorem below_fiveAt {B : Nat} {W w : World} (h : Below B W w) (g : Nat) (hB : B ≤ g) (o : Nat) (v0 v1 v2 v3 v4 : Value) : Below B W (((((w.setCell ⟨g,o,none⟩ v0).setCell ⟨g,o + 1,none⟩ v1).setCell ⟨g,o + 2,none⟩ v2).setCell ⟨g,o + 3,none⟩ v3).setCell ⟨g,o + 4,none⟩ v4) :=
 ((((h.setCell hB _).setCell hB _).setCell hB _).setCell hB _).setCell hB _
theorem box_store {W : World} {b : Nat} {z : C5} (h : Box W b (cells5 z).toArray 70) (x : C5) : Box (((((W.setCell ⟨b,0,none⟩ (.string x.1)).setCell ⟨b,1,none⟩ (.int .i64 x.2.1)).setCell ⟨b,2,none⟩ (.int .i64 x.2.2.1)).setCell ⟨b,3,none⟩ (.int .i64 x.2.2.2.1)).setCell ⟨b,4,none⟩ (.string x.2.2.2.2)) b (cells5 x).toArray 70 := by
 have h1 := heap_setCell_same W b 0 _ 70 (.string x.1) h
 have h2 := heap_setCell_same _ b 1 _ 70 (.int .i64 x.2.1) h1
 have h3 := heap_setCell_same _ b 2 _ 70 (.int .i64 x.2.2.1) h2
 have h4 := heap_setCell_same _ b 3 _ 70 (.int .i64 x.2.2.2.1) h3
 have h5 := heap_setCell_same _ b 4 _ 70 (.string x.2.2.2.2) h4
 unfold Box
 rw [h5]
 simp [cells5]
theorem own_not {W : World} {B : Nat} {v : Value} {l : List C5} (h : OwnC W B v l) {b : Nat} (hb : W.heap.size ≤ b) : v.ownBlock ≠ some b := by
 intro e
 have := (h.lt b e).2
 omega
theorem join_new (B : Nat) (v : Value) (m : List Cn) (c : Cn) (W : World) (ho : OwnC W B v (m.map r5)) (hr : RiseC m) (h5 : m.length ≤ 5) (hB : B ≤ W.heap.size) (ht : thereC m c.1 = false) :
  Calls Tryz.prog 158 #[v,cv (r5 c)] W (JoinQ B (stepC m c) W) := by
 have BX := Lib.hid (box_new W (cells5 (r5 c)).toArray 70)
 have B1 := Lib.hid ((Below.refl W.heap.size W).alloc (Nat.le_refl _) (.cells (cells5 (r5 c)).toArray 70))
 have BS := Lib.hid (bs_any v m c (W.alloc (.cells (cells5 (r5 c)).toArray 70)) ((Row.of_own ho).on B1.out) hr (by omega))
 have OW := Lib.hid ho
 have LN := Lib.hid (show (m.map r5).length = m.length from List.length_map ..)
 have CL := Lib.hid (cntC_le m c.1)
 obtain ⟨ao,ac,rfl⟩ := (Row.of_own ho).len
 rw [LN.out] at *
 rw [ht] at BS
 have hbw : W.heap.size < (W.alloc (.cells (cells5 (r5 c)).toArray 70)).heap.size := by simp
 by_cases hf : m.length = 5
 ·have Q := Lib.hid (step_full ht hf)
  generalize stepC m c = q at *
  have e5 : ((m.length : Int) == (5 : Int)) = true := by simp; omega
  clear ho hf
  simp only [r5] at BS ⊢
  go_enter Tryz.func158,Tryz.ntmps158
  go_wp2_with fail
  refine BS.out.mono ?_
  rintro e2 w2 ⟨rfl,hb2⟩
  have B2 := Lib.hid (B1.out.trans (hb2.mono B1.out.size))
  clear hb2 BS B1 BX
  go_wp2
  go_ret2
  exact ⟨B2.out.mono hB,by rw [Q.out]; rfl⟩
 ·have Q := Lib.hid (step_room ht (show m.length < 5 by omega))
  have IN := Lib.hid (fun (w2 : World) (h2 : OwnC w2 B (.slice ao m.length ac) (m.map r5)) (hB2 : B ≤ w2.heap.size) => insert_any B (.slice ao m.length ac) (m.map r5) (cntC m c.1) (r5 c) w2.heap.size (w2.alloc (.cells (cells5 (r5 c)).toArray 70)) (own_on h2 ((Below.refl _ _).alloc (Nat.le_refl _) _)) (box_new w2 _ _) (own_not h2 (Nat.le_refl _)) (by rw [List.length_map]; exact CL.out) (by rw [List.length_map]; omega) (by simp; omega))
  generalize stepC m c = q at *
  have e5 : ((m.length : Int) == (5 : Int)) = false := by rw [beq_eq_false_iff_ne]; omega
  clear ho hf
  simp only [r5] at BS ⊢
  go_enter Tryz.func158,Tryz.ntmps158
  go_wp2_with fail
  refine BS.out.mono ?_
  rintro e2 w2 ⟨rfl,hb2⟩
  have B2 := Lib.hid (B1.out.trans (hb2.mono B1.out.size))
  have O2 := Lib.hid (own_on OW.out B2.out)
  obtain ⟨x0,x1,x2,x3,x4⟩ := box_five (BX.out.on hb2)
  simp only [r5] at x0 x1 x2 x3 x4
  clear hb2 BS B1 BX
  go_wp2_with fail
  have C := IN.out w2 O2.out (by have := B2.out.size; omega)
  refine C.mono ?_
  rintro e3 w3 ⟨v',rfl,ho3,hb3⟩
  have B3 := Lib.hid (((B2.out.mono hB).alloc (by have := B2.out.size; omega) (.cells (cells5 (r5 c)).toArray 70)).trans hb3)
  have O3 := Lib.hid ho3
  clear ho3 hb3 C IN O2 x0 x1 x2 x3 x4
  go_wp2
  go_ret2
  exact ⟨B3.out,by rw [Q.out]; exact ⟨v',rfl,by rw [List.map_append,List.map_cons,List.map_take,List.map_drop]; exact O3.out⟩⟩
theorem join_old (B : Nat) (v : Value) (m : List Cn) (c : Cn) (W : World) (ho : OwnC W B v (m.map r5)) (hr : RiseC m) (h5 : m.length ≤ 5) (hB : B ≤ W.heap.size) (ht : thereC m c.1 = true) :
  Calls Tryz.prog 158 #[v,cv (r5 c)] W (JoinQ B (stepC m c) W) := by
 obtain ⟨x,hx,hn,hi⟩ := ins_there ht
 have BX := Lib.hid (box_new W (cells5 (r5 c)).toArray 70)
 have B1 := Lib.hid ((Below.refl W.heap.size W).alloc (Nat.le_refl _) (.cells (cells5 (r5 c)).toArray 70))
 have BS := Lib.hid (bs_any v m c (W.alloc (.cells (cells5 (r5 c)).toArray 70)) ((Row.of_own ho).on B1.out) hr (by omega))
 rw [ht] at BS
 have CB := Lib.hid (fun w => both_any x c w hn)
 have Q := Lib.hid (show stepC m c = match bothK x.2 c.2 with
  | some k => .ok (m.set (cntC m c.1) (x.1,k))
  | none => .error 5 by
   unfold stepC
   rw [hi]
   cases bothK x.2 c.2 with
   | none => rfl
   | some k => simp only [Option.map_some]; rw [if_neg (by rw [List.length_set]; omega)])
 generalize stepC m c = q at *
 generalize bothK x.2 c.2 = r at *
 have hkl : cntC m c.1 < m.length := (List.getElem?_eq_some_iff.1 hx).1
 generalize hk : cntC m c.1 = k at *
 have HK := Lib.hid hkl
 have ML := Lib.hid (show (m.map r5).length = m.length from List.length_map ..)
 rcases own_open ho with ⟨_,h2⟩ | ⟨g,cap,cur,rfl,hBg,hg,hlc,hcm,hsz,htk⟩
 ·have := List.map_eq_nil_iff.1 h2
  subst this
  simp at hkl
 ·have fl := flat_at okC (m.map r5) k (r5 x) (by rw [List.getElem?_map,hx]; rfl)
  have cl : ∀ j u,j < 5 → (cells5 (r5 x))[j]? = some u → W.cell? ⟨g,k * 5 + j,none⟩ = some u := fun j u hj hu => (World.ownsRow.cellAt ho (k * 5 + j) (by rw [List.length_map]; show _ < m.length * 5; omega)).trans ((fl j hj).trans hu)
  have GC := Lib.hid (fun (w2 : World) (hb : Below W.heap.size W w2) => show w2.cell? ⟨g,k * 5,none⟩ = some (.string x.1) ∧ w2.cell? ⟨g,k * 5 + 1,none⟩ = some (.int .i64 (kN x.2)) ∧ w2.cell? ⟨g,k * 5 + 2,none⟩ = some (.int .i64 (kLo x.2)) ∧ w2.cell? ⟨g,k * 5 + 3,none⟩ = some (.int .i64 (kHi x.2)) ∧ w2.cell? ⟨g,k * 5 + 4,none⟩ = some (.string (kT x.2)) from
   ⟨(hb.cell (show g < W.heap.size from hg.lt)).trans (cl 0 _ (by decide) rfl),(hb.cell (show g < W.heap.size from hg.lt)).trans (cl 1 _ (by decide) rfl),(hb.cell (show g < W.heap.size from hg.lt)).trans (cl 2 _ (by decide) rfl),(hb.cell (show g < W.heap.size from hg.lt)).trans (cl 3 _ (by decide) rfl),(hb.cell (show g < W.heap.size from hg.lt)).trans (cl 4 _ (by decide) rfl)⟩)
  have OW := Lib.hid ho
  have GL := Lib.hid hg.lt
  have BG := Lib.hid hBg
  have GBX := Lib.hid (show Box W g cur 70 from hg)
  rw [List.length_map] at OW BS ⊢
  generalize m.length = n at *
  have ix := index_own okC g k n cap (by omega)
  change ∀ w,(Instr.indexAt 32 (.slice (some ⟨g,0,none⟩) n cap) (.int .i64 k)).run Tryz.prog w = .ok (.pointer (some ⟨g,k * 5,none⟩)) w at ix
  clear ho hr ht hx hi hk hg hlc hcm hsz htk fl cl hBg hn
  simp only [r5] at BS CB ⊢
  go_enter Tryz.func158,Tryz.ntmps158
  go_wp2_with fail
  refine BS.out.mono ?_
  rintro e2 w2 ⟨rfl,hb2⟩
  have B2 := Lib.hid (B1.out.trans (hb2.mono B1.out.size))
  obtain ⟨x0,x1,x2,x3,x4⟩ := box_five (BX.out.on hb2)
  obtain ⟨p0,p1,p2,p3,p4⟩ := GC.out w2 B2.out
  have hw2 : W.heap.size < w2.heap.size := by have := hb2.size; simp at this; omega
  have hg2 : g < w2.heap.size := by have := GL.out; omega
  have gc1 : ∀ o,(w2.drew.alloc o).cell? ⟨g,k * 5,none⟩ = some (.string x.1) := fun o => ((Below.refl w2.heap.size w2.drew).alloc (Nat.le_refl _) o).cell hg2 |>.trans p0
  simp only [r5] at x0 x1 x2 x3 x4
  clear hb2 BS B1 BX gc1
  go_wp2_with fail
  rename_i K hK
  have TAIL : ∀ (pb : Nat) (wf : World) (y : C5) (u10 u11 u12 u13 u14 u15 u16 u17 u18 u19 u20 u21 u22 u23 u24 u25 u26 u27 u28 u29 u30 u31 u32 u33 u34 u35 u36 u37 u38 u39 u40 u41 u42 u43 : Value),Box wf pb (cells5 y).toArray 70 → Below W.heap.size W wf → (∀ k',r = some k' → y = r5 (x.1,k')) → K ⟨#[.slice (some ⟨g,0,none⟩) n cap,cv (c.1,kN c.2,kLo c.2,kHi c.2,kT c.2),undef,.pointer (some ⟨W.heap.size,0,none⟩),.slice none 0 0,.nilIface,.int .i64 k,.bool true,.pointer (some ⟨pb,0,none⟩),.bool r.isSome,u10,u11,u12,u13,u14,u15,u16,u17,u18,u19,u20,u21,u22,u23,u24,u25,u26,u27,u28,u29,u30,u31,u32,u33,u34,u35,u36,u37,u38,u39,u40,u41,u42,u43],[]⟩ wf := by
   clear x0 x1 x2 x3 x4 p0 p1 p2 p3 p4 CB B2 hw2 hg2
   intro pb wf y u10 u11 u12 u13 u14 u15 u16 u17 u18 u19 u20 u21 u22 u23 u24 u25 u26 u27 u28 u29 u30 u31 u32 u33 u34 u35 u36 u37 u38 u39 u40 u41 u42 u43 hyb hbw hyk
   obtain ⟨y0,y1,y2,y3,y4⟩ := box_five hyb
   have OF := own_on OW.out hbw
   have fz := fun j => (GBX.out.on hbw).fr j
   obtain ⟨p0,p1,p2,p3,p4⟩ := GC.out wf hbw
   have HB := Lib.hid hbw
   have HO := Lib.hid OF
   have HY := Lib.hid hyk
   clear hyb hbw OF GC OW hyk
   apply hK
   clear hK
   rcases r with _ | k'
   ·have QQ := Lib.hid (show q = .error 5 from Q.out)
    clear Q
    go_wp2
    go_ret2
    exact ⟨HB.out.mono hB,by rw [QQ.out]; rfl⟩
   ·have QQ := Lib.hid (show q = .ok (m.set k (x.1,k')) from Q.out)
    clear Q
    go_wp2
    go_ret2
    refine ⟨below_fiveAt (HB.out.mono hB) g BG.out _ _ _ _ _ _,?_⟩
    rw [QQ.out]
    refine ⟨.slice (some ⟨g,0,none⟩) n cap,rfl,?_⟩
    rw [List.map_set,← HY.out k' rfl]
    exact own_store HO.out ML.out.symm HK.out
  clear hK
  go_region_with (go_at_call 181; refine (CB.out _).mono ?_; rintro e w3 ⟨⟨y,rfl,hy⟩,hb3⟩; (try (have ZB := Lib.hid ((box_new w2.drew (cells5 (⟨#[]⟩,0,0,0,⟨#[]⟩)).toArray 70).on hb3); obtain ⟨z0,z1,z2,z3,z4⟩ := box_five ZB.out; have fz := fun k => ZB.out.fr k; simp only [World.size_drew] at z0 z1 z2 z3 z4 fz)))
  all_goals simp only [Exit.then]
  all_goals first
   | exact TAIL w3.heap.size _ y _ _ _ _ _ _ _ _ _ _ _ _ _ _ _ _ _ _ _ _ _ _ _ _ _ _ _ _ _ _ _ _ _ _ (box_new w3 _ _) (((B2.out.drew).trans (hb3.mono (by have := B2.out.size; simp; omega))).alloc (by have := hb3.size; have := B2.out.size; simp at *; omega) _) hy
   | exact TAIL w2.heap.size _ y _ _ _ _ _ _ _ _ _ _ _ _ _ _ _ _ _ _ _ _ _ _ _ _ _ _ _ _ _ _ _ _ _ _ (box_store ((box_new w2.drew (cells5 (⟨#[]⟩,0,0,0,⟨#[]⟩)).toArray 70).on hb3) y) (below_five (((B2.out.drew).alloc (by have := B2.out.size; simp; omega) _).trans (hb3.mono (by have := B2.out.size; simp; omega))) w2.heap.size (by have := B2.out.size; omega) _ _ _ _ _) hy
theorem join_any (B : Nat) (v : Value) (m : List Cn) (c : Cn) (W : World) (ho : OwnC W B v (m.map r5)) (hr : RiseC m) (h5 : m.length ≤ 5) (hB : B ≤ W.heap.size) :
  Calls Tryz.prog 158 #[v,cv (r5 c)] W (JoinQ B (stepC m c) W) := by
 cases h : thereC m c.1
 ·exact join_new B v m c W ho hr h5 hB h
 ·exact join_old B v m c W ho hr h5 hB h
end Go.Proofs.YtmklifheakemeaaGreat.Pr
