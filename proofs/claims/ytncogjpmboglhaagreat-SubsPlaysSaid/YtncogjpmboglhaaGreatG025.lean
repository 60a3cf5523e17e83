/-
  Match and Covers of package rel. Conditions as told.
-/
import Derived.Test.YtncogjpmboglhaaGreatG023
import Derived.Test.YtncogjpmboglhaaGreatG011
import Derived.Test.YtncogjpmboglhaaGreatG013
import Derived.Test.YtncogjpmboglhaaGreatG010
import Derived.Test.YtncogjpmboglhaaGreatG008
import Derived.Laws.Externs
import Derived.Lib.Hide
import Derived.Lib.QuietBelow
import Derived.BigQuiet
import Derived.Maps.OwnSet
import Derived.DeepKeys4
import Derived.KernelRfl
import Derived.Test.YtncogjpmboglhaaGreatG006
import Derived.ChangeSlices
import Derived.Deep.Slices
set_option maxRecDepth 100000
set_option maxHeartbeats 64000000
namespace Go.Proofs.YtncogjpmboglhaaGreat.Rl
open Go.RowKit Go.Sort Pu Rw Pr Va
theorem all_end {α : Type} (f : α → Bool) (l : List α) (m : Nat) (h : l.length = m) : (l.take m).all f = l.all f := by rw [← h,List.take_length]
theorem covers_any (pv qv : Value) (p b : List Cn) (w : World) (hp : RowC w pv (p.map r5)) (hl : RowC w qv (b.map r5)) (np : NF p) (nb : NF b) :
  Calls Tryz.prog 114 #[pv,qv] w fun e w' => e = .returned (.bool (coversL p b)) ∧ Below w.heap.size w w' := by
 have CO := Lib.hid (covers_of (a := p) nb.rise)
 have HP := Lib.hid hp
 have HL := Lib.hid hl
 have h5 : b.length ≤ 100 := by have := nb.five; omega
 have GP := Lib.hid np.goodK
 have GB := Lib.hid nb.goodK
 have m5 : p.length ≤ 5 := np.five
 obtain ⟨ao,ac,rfl⟩ := hp.len
 rw [List.length_map] at HP ⊢
 generalize hm : p.length = m at *
 have HM := Lib.hid hm
 generalize coversL p b = r at *
 clear hp hl hm np nb
 go_enter Tryz.func114,Tryz.ntmps114
 go_wp2
 go_loopw [11] (fun i wr => ∃ k : Nat,k ≤ m ∧ i = .int .i64 k ∧ Below w.heap.size w wr ∧ (p.take k).all (covO b) = true) (fun i _ => m - (intOf i).toNat)
 case atStart => exact ⟨0,Nat.zero_le _,rfl,Below.refl _ _,rfl⟩
 case round =>
  obtain ⟨k,hk,rfl,hb,hall⟩ := hrel
  have HB := Lib.hid hb
  have AL := Lib.hid hall
  clear hb hall
  by_cases hlt : k < m
  ·obtain ⟨⟨xn,xk⟩,hx⟩ : ∃ x,p[k]? = some x := ⟨_,List.getElem?_eq_getElem (by rw [HM.out]; exact hlt)⟩
   obtain ⟨q,ix,px⟩ := elC (x := r5 (xn,xk)) HP.out rfl (by rw [List.length_map]; exact HM.out) (by rw [List.getElem?_map,hx]; rfl)
   obtain ⟨p0,p1,p2,p3,p4⟩ := px _ HB.out
   have MO := Lib.hid (all_more (covO b) p k (xn,xk) hx)
   have NO := Lib.hid (fun h => all_not (covO b) p k (xn,xk) hx h)
   have GX := Lib.hid (GP.out _ (List.mem_of_getElem? hx))
   have BX := Lib.hid (show Box (wr.alloc (.cells #[.string xn,.int .i64 (kN xk),.int .i64 (kLo xk),.int .i64 (kHi xk),.string (kT xk)] 47)) wr.heap.size (cells5 (xn,kN xk,kLo xk,kHi xk,kT xk)).toArray 47 from box_new wr _ _)
   have B1 := Lib.hid (HB.out.alloc HB.out.size (.cells #[.string xn,.int .i64 (kN xk),.int .i64 (kLo xk),.int .i64 (kHi xk),.string (kT xk)] 47))
   have G := Lib.hid (of_any qv b xn (wr.alloc (.cells #[.string xn,.int .i64 (kN xk),.int .i64 (kLo xk),.int .i64 (kHi xk),.string (kT xk)] 47)) (HL.out.on B1.out) h5)
   have GC := Lib.hid (show covO b (xn,xk) = match ofC b xn with
    | some y => impliesK y.2 xk
    | none => false from rfl)
   obtain ⟨gg,hgg⟩ : ∃ g,covO b (xn,xk) = g := ⟨_,rfl⟩
   rw [hgg] at GC MO NO
   simp only [r5] at p0 p1 p2 p3 p4
   clear hx px hgg
   go_wp2_with fail
   refine G.out.mono ?_
   rintro e2 w2 ⟨he2,hb2⟩
   have B2 := Lib.hid (B1.out.trans (hb2.mono B1.out.size))
   obtain ⟨x0,x1,x2,x3,x4⟩ := box_five (BX.out.on hb2)
   simp only at x0 x1 x2 x3 x4
   have hwl : wr.heap.size < w2.heap.size := by have := hb2.size; simp at this; omega
   rcases hg : ofC b xn with _ | ⟨yn,yk⟩
   ·rw [hg] at he2 GC
    subst he2
    have R := Lib.hid (show r = false by rw [CO.out]; exact NO.out GC.out)
    clear hb2 G B1 BX ix p0 p1 p2 p3 p4 hg
    unfold ofV
    go_wp2
    go_ret
    exact ⟨ret_bool R.out.symm,B2.out.alloc B2.out.size _⟩
   ·obtain ⟨hm1,hm2⟩ := of_mem hg
    obtain rfl : yn = xn := hm2
    rw [hg] at he2 GC
    subst he2
    have WC := Lib.hid (fun W => wider_any yn xk yk W GX.out (GB.out _ hm1))
    simp only [r5] at WC
    clear hb2 G B1 BX ix p0 p1 p2 p3 p4 hg hm1
    unfold ofV
    simp only [r5]
    go_wp2_with fail
    refine (WC.out _).mono ?_
    rintro e3 w3 ⟨rfl,hb3⟩
    have B3 := Lib.hid ((B2.out.alloc B2.out.size (.cells #[.string yn,.int .i64 (kN yk),.int .i64 (kLo yk),.int .i64 (kHi yk),.string (kT yk)] 47)).trans (hb3.mono (B2.out.alloc B2.out.size (.cells #[.string yn,.int .i64 (kN yk),.int .i64 (kLo yk),.int .i64 (kHi yk),.string (kT yk)] 47)).size))
    rw [← GC.out]
    clear hb3 B2 x0 x1 x2 x3 x4 hwl WC
    cases gg
    ·have R := Lib.hid (show r = false by rw [CO.out]; exact NO.out rfl)
     go_wp2
     go_ret
     exact ⟨ret_bool R.out.symm,B3.out⟩
    ·go_wp2
     go_roundw
     case rel => exact ⟨k + 1,by omega,by go_num,B3.out,by rw [MO.out,AL.out]; rfl⟩
     case measure => simp [intOf]; omega
  ·obtain rfl : k = m := by omega
   have R := Lib.hid (show r = true by rw [CO.out,← all_end _ p _ HM.out]; exact AL.out)
   go_wp2
   go_ret
   exact ⟨ret_bool R.out.symm,HB.out⟩
end Go.Proofs.YtncogjpmboglhaaGreat.Rl
namespace Go.Proofs.YtncogjpmboglhaaGreat.Av
open Go.RowKit Rw YtncogjpmboglhaaGreat.Nm Pr Bk
theorem row_boxN {W : World} {b : Nat} {c : XEn} (h : Box W b (cellsN c).toArray 43) : RowN W (.slice (some ⟨b,0,none⟩) 1 1) [c] :=
 Or.inr ⟨⟨b,0,none⟩,1,rfl,by simp,by decide,box_one h (by simp [EN])⟩
def InsQN (B : Nat) (l : List XEn) (k : Nat) (c : XEn) (vv : Value) (W : World) (e : Ending) (w' : World) : Prop := ∃ v',e = .returned v' ∧ OwnN w' B v' (l.take k ++ c :: l.drop k) ∧ Below B W w' ∧ (∀ j,j < W.heap.size → some j ≠ vv.ownBlock → w'.heap[j]? = W.heap[j]?)
theorem insert_endN (B : Nat) (v : Value) (l : List XEn) (c : XEn) (b : Nat) (W : World) (ho : OwnN W B v l) (hx : Box W b (cellsN c).toArray 43) (hl : l.length ≤ 900) (hB : B ≤ W.heap.size) :
  Calls Tryz.prog 77 #[v,.int .i64 (l.length : Nat),.slice (some ⟨b,0,none⟩) 1 1] W (InsQN B l l.length c v W) := by
 obtain ⟨v',w',hr,ho2,hg⟩ := app_row okN B ho (row_boxN hx) (by omega) (by simp) hB 28
 have hr : (Builtin.append_ #[28,28] 28 #[v,.slice (some ⟨b,0,none⟩) 1 1]).run Tryz.prog W = .ok v' w' := hr
 have Q := Lib.hid (show InsQN B l l.length c v W (.returned v') w' from ⟨v',rfl,by rw [List.take_of_length_le (Nat.le_refl _),List.drop_of_length_le (Nat.le_refl _)]; exact ho2,(Below.refl B W).grown hg hB (fun j hj => (ho.lt j hj).1),fun j hj hne => hg.block j hj hne⟩)
 obtain ⟨sx,hs,_⟩ := row_hi okN (Row.of_own ho) l.length (Nat.le_refl _)
 have hs : ∀ w,(Instr.sliceAt 28 v (some (.int .i64 l.length)) none none).run Tryz.prog w = .ok sx w := hs
 obtain ⟨ao,ac,rfl⟩ := (Row.of_own ho).len
 clear ho ho2 hg
 generalize hn : l.length = n at *
 clear hn
 go_enter Tryz.func77,Tryz.ntmps77
 go_wp2_with (first | (at_builtin; refine wpList_append_run rfl _ _ 28 rfl rfl rfl hr ?_) | fail)
 go_ret
 exact Q.out
theorem no_overN (w : World) (g b k la lb cb : Nat) (cur cs : Array Value) (hb : Box w b cs 43) (hg : Box w g cur 43) (hne : b ≠ g) (h0 : 0 < cur.size) : (callFunc 126 #[.slice (some ⟨b,0,none⟩) la 1,.slice (some ⟨g,k,none⟩) lb cb]).run Tryz.prog w = .ok (.value (.bool false)) w := by
 rw [run_callFunc_extern Tryz.func126 (by kernel_rfl) (by kernel_rfl) (by kernel_rfl) (e := Extern.SlicesOverlaps.overlaps #[28,28] #[4]) (by kernel_rfl),
  Lib.run_overlaps_apart w 28 4 43 Tryz.underlying28 7 Tryz.sizeOf43 ⟨b,0,none⟩ ⟨g,k,none⟩ la 1 lb cb hne 43 43 cs.size cur.size hb.shape hg.shape (by omega) (hb.fr 0) (hb.fr _)]
 rfl
theorem insert_shiftN (B g n cap : Nat) (cur : Array Value) (l : List XEn) (k : Nat) (c : XEn) (b : Nat) (W : World) (hn : n = l.length) (hBg : B ≤ g) (hg : Box W g cur 43) (hcm : cap ≤ maxLen) (hsz : cur.size = cap * 7) (ht : cur.toList.take (n * 7) = flat EN l) (hx : Box W b (cellsN c).toArray 43) (hne : b ≠ g) (hk : k < n) (hroom : n + 1 ≤ cap) (hl : n ≤ 900) :
  Calls Tryz.prog 77 #[.slice (some ⟨g,0,none⟩) n cap,.int .i64 k,.slice (some ⟨b,0,none⟩) 1 1] W (InsQN B l k c (.slice (some ⟨g,0,none⟩) n cap) W) := by
 obtain ⟨R1,R2,r1,r2,ow⟩ := shift_mid (E := EN) (l := l) (k := k) (cap := cap) (cur := cur) (cs := (cellsN c).toArray) (c := c) okN (by omega) (by omega) hsz (by rw [← hn]; exact ht) g b hne
 have hov := fun lb cb => no_overN W g b ((k + 1) * 7) 1 lb cb cur (cellsN c).toArray hx hg hne (by omega)
 have s0 := cut_hi (E := EN) okN g k n cap (by omega) (by omega)
 have s1 := slice_lo (E := EN) okN ⟨g,0,none⟩ (n + 1) n cap (by omega)
 have s2 := cut_hi (E := EN) okN g (k + 1) (n + 1) cap (by omega) (by omega)
 have s3 := cut_hi (E := EN) okN g k (n + 1) cap (by omega) (by omega)
 have q1 := r1 W.drew 3 (n + 1 - (k + 1)) (cap - (k + 1)) (n + 1 - k) (cap - k) hg (by omega)
 have q2 := r2 (W.drew.setRow g R1) 3 (n + 1 - k) (cap - k) (Box.set (show Box W.drew g cur 43 from hg) R1) (Box.other (show Box W.drew b _ 43 from hx) hne R1) rfl (by omega)
 have Q := Lib.hid (show InsQN B l k c (.slice (some ⟨g,0,none⟩) n cap) W (.returned (.slice (some ⟨g,0,none⟩) (n + 1) cap)) ((W.drew.setRow g R1).setRow g R2) from ⟨_,rfl,by rw [hn]; exact ow _ B hBg hcm (Box.set (Box.set (show Box W.drew g cur 43 from hg) R1) R2),below_setRow (below_setRow (Below.refl B W).drew hBg _) hBg _,fun j hj hne => (setRow_other _ g j _ (fun e => hne (by rw [e]; rfl))).trans (setRow_other _ g j _ (fun e => hne (by rw [e]; rfl)))⟩)
 clear r1 r2 ow hg ht hx hsz hBg hcm
 change ∀ w,(Instr.sliceAt 28 (.slice (some ⟨g,0,none⟩) n cap) (some (.int .i64 k)) none none).run Tryz.prog w = .ok (.slice (some ⟨g,k * 7,none⟩) (n - k) (cap - k)) w at s0
 change ∀ w,(Instr.sliceAt 28 (.slice (some ⟨g,0,none⟩) n cap) none (some (.int .i64 ((n : Int) + 1))) none).run Tryz.prog w = .ok (.slice (some ⟨g,0,none⟩) (n + 1) cap) w at s1
 change ∀ w,(Instr.sliceAt 28 (.slice (some ⟨g,0,none⟩) (n + 1) cap) (some (.int .i64 ((k : Int) + 1))) none none).run Tryz.prog w = .ok (.slice (some ⟨g,(k + 1) * 7,none⟩) (n + 1 - (k + 1)) (cap - (k + 1))) w at s2
 change ∀ w,(Instr.sliceAt 28 (.slice (some ⟨g,0,none⟩) (n + 1) cap) (some (.int .i64 k)) none none).run Tryz.prog w = .ok (.slice (some ⟨g,k * 7,none⟩) (n + 1 - k) (cap - k)) w at s3
 have e1 : ((k : Int) == (n : Int)) = false := by rw [beq_eq_false_iff_ne]; omega
 have e2 : decide ((cap : Int) < (n : Int) + 1) = false := by simp; omega
 change (Builtin.copy_ #[28,28] 3 #[.slice (some ⟨g,(k + 1) * 7,none⟩) (n + 1 - (k + 1)) (cap - (k + 1)),.slice (some ⟨g,k * 7,none⟩) (n + 1 - k) (cap - k)]).run Tryz.prog W.drew = .ok (.int .i64 ((l.length - k : Nat) : Int)) (W.drew.setRow g R1) at q1
 change (Builtin.copy_ #[28,28] 3 #[.slice (some ⟨g,k * 7,none⟩) (n + 1 - k) (cap - k),.slice (some ⟨b,0,none⟩) 1 1]).run Tryz.prog (W.drew.setRow g R1) = .ok (.int .i64 1) ((W.drew.setRow g R1).setRow g R2) at q2
 clear hn
 go_enter Tryz.func77,Tryz.ntmps77
 go_wp2_with (first | (simp only [hov]) | fail)
 clear hov s0 s1 s2 s3
 have hw1 : IntKind.i64.wrap ((k : Int) + 1) = (k : Int) + 1 := by rw [IntKind.wrap_i64]; omega
 have hb1 : (0 : Int) ≤ (k : Int) + 1 := by omega
 have hb0 : (k : Int) + 1 ≤ (n : Int) + 1 := by omega
 have htn : ((k : Int) + 1).toNat = k + 1 := by omega
 have hb2 : ¬ (cap = k + 1) := by omega
 have hb3 : (k : Int) ≤ (n : Int) + 1 := by omega
 have hb4 : ¬ (cap = k) := by omega
 have h81 : n + 1 - (k + 1) = n - k := by omega
 rw [h81] at q1
 clear h81
 go_region_law (refine step_copy_run rfl (.tmp 73) (.tmp 76) 28 rfl (v := .slice (some ⟨g,(k + 1) * 7,none⟩) (n - k) (cap - (k + 1))) (xv := .slice (some ⟨g,k * 7,none⟩) (n + 1 - k) (cap - k)) (by simp [Act.eval,Act.put]) (by simp [Act.eval,Act.put]) q1 ?_)
 all_goals simp only [Exit.then]
 all_goals apply_assumption
 clear q1 hw1 hb1 hb0 htn hb2 hb3 hb4
 have s3 := cut_hi (E := EN) okN g k (n + 1) cap (by omega) (by omega)
 change ∀ w,(Instr.sliceAt 28 (.slice (some ⟨g,0,none⟩) (n + 1) cap) (some (.int .i64 k)) none none).run Tryz.prog w = .ok (.slice (some ⟨g,k * 7,none⟩) (n + 1 - k) (cap - k)) w at s3
 go_wp2_with (first | (at_builtin; refine wpList_copy_run rfl _ _ 28 rfl rfl rfl q2 ?_) | fail)
 go_ret
 exact Q.out
theorem insert_growN (B g n cap : Nat) (cur : Array Value) (l : List XEn) (k : Nat) (c : XEn) (b : Nat) (W : World) (hn : n = l.length) (hg : Box W g cur 43) (hcm : cap ≤ maxLen) (hnc : n ≤ cap) (ht : cur.toList.take (n * 7) = flat EN l) (hx : Box W b (cellsN c).toArray 43) (hk : k < n) (hroom : cap < n + 1) (hl : n ≤ 900) (hB : B ≤ W.heap.size) :
  Calls Tryz.prog 77 #[.slice (some ⟨g,0,none⟩) n cap,.int .i64 k,.slice (some ⟨b,0,none⟩) 1 1] W (InsQN B l k c (.slice (some ⟨g,0,none⟩) n cap) W) := by
 have hgw := hg.lt
 have hbw := hx.lt
 obtain ⟨G,R1,R2,R3,hG1,hG2,r1,r2,r3,ow⟩ := grow_mid (E := EN) (l := l) (k := k) (cap := cap) (cur := cur) (cs := (cellsN c).toArray) (c := c) okN 3 Tryz.underlying3 (by omega) (by omega) (by omega) (by omega) (by rw [← hn]; exact ht) W g b hg hbw
 unfold maxLen at hcm hG2
 have s0 := cut_hi (E := EN) okN g k n cap (by omega) (by omega)
 have s1 := slice_lo (E := EN) okN ⟨g,0,none⟩ k n cap (by omega)
 have s2 := cut_hi (E := EN) okN W.heap.size k (n + 1) G (by omega) (by omega)
 have s3 := cut_hi (E := EN) okN W.heap.size (k + 1) (n + 1) G (by omega) (by omega)
 have a1 := r1 28
 have n1 := box_new W.drew R1 43
 have bl : W.drew.heap.size = W.heap.size := rfl
 rw [bl] at n1
 have g1 : Box (W.drew.alloc (.cells R1 43)) g cur 43 := Box.more (show Box W.drew g cur 43 from hg) _
 have x1 : Box (W.drew.alloc (.cells R1 43)) b (cellsN c).toArray 43 := Box.more (show Box W.drew b _ 43 from hx) _
 have q2 := r2 (W.drew.alloc (.cells R1 43)) 3 (n + 1 - k) (G - k) n1 x1 rfl (by omega)
 have q3 := r3 ((W.drew.alloc (.cells R1 43)).setRow W.heap.size R2).drew 3 (n + 1 - (k + 1)) (G - (k + 1)) (n - k) (cap - k) (Box.set n1 R2) (Box.other g1 (by omega) R2) (by omega)
 have Q := Lib.hid (show InsQN B l k c (.slice (some ⟨g,0,none⟩) n cap) W (.returned (.slice (some ⟨W.heap.size,0,none⟩) (n + 1) G)) (((W.drew.alloc (.cells R1 43)).setRow W.heap.size R2).drew.setRow W.heap.size R3) from ⟨_,rfl,by rw [hn]; exact ow _ B hB (Box.set (Box.set n1 R2) R3),below_setRow (below_setRow ((Below.refl B W).drew.alloc hB _) hB _).drew hB _,fun j hj _ => (setRow_other _ W.heap.size j _ (by omega)).trans ((setRow_other _ W.heap.size j _ (by omega)).trans (Array.getElem?_push_lt hj |>.trans (Array.getElem?_eq_getElem hj).symm))⟩)
 have l1 : l.length + 1 = n + 1 := by rw [hn]
 rw [l1,← hn] at a1
 clear r1 r2 r3 ow hg ht hx g1 x1 n1 bl l1
 change ∀ w,(Instr.sliceAt 28 (.slice (some ⟨g,0,none⟩) n cap) (some (.int .i64 k)) none none).run Tryz.prog w = .ok (.slice (some ⟨g,k * 7,none⟩) (n - k) (cap - k)) w at s0
 change ∀ w,(Instr.sliceAt 28 (.slice (some ⟨g,0,none⟩) n cap) none (some (.int .i64 k)) none).run Tryz.prog w = .ok (.slice (some ⟨g,0,none⟩) k cap) w at s1
 change ∀ w,(Instr.sliceAt 28 (.slice (some ⟨W.heap.size,0,none⟩) (n + 1) G) (some (.int .i64 k)) none none).run Tryz.prog w = .ok (.slice (some ⟨W.heap.size,k * 7,none⟩) (n + 1 - k) (G - k)) w at s2
 change ∀ w,(Instr.sliceAt 28 (.slice (some ⟨W.heap.size,0,none⟩) (n + 1) G) (some (.int .i64 ((k : Int) + 1))) none none).run Tryz.prog w = .ok (.slice (some ⟨W.heap.size,(k + 1) * 7,none⟩) (n + 1 - (k + 1)) (G - (k + 1))) w at s3
 change (Builtin.append_ #[28,3] 28 #[.slice (some ⟨g,0,none⟩) k cap,.int .i64 ((n : Int) + 1 - k)]).run Tryz.prog W = .ok (.slice (some ⟨W.heap.size,0,none⟩) (n + 1) G) (W.drew.alloc (.cells R1 43)) at a1
 change (Builtin.copy_ #[28,28] 3 #[.slice (some ⟨W.heap.size,k * 7,none⟩) (n + 1 - k) (G - k),.slice (some ⟨b,0,none⟩) 1 1]).run Tryz.prog (W.drew.alloc (.cells R1 43)) = .ok (.int .i64 1) ((W.drew.alloc (.cells R1 43)).setRow W.heap.size R2) at q2
 change (Builtin.copy_ #[28,28] 3 #[.slice (some ⟨W.heap.size,(k + 1) * 7,none⟩) (n + 1 - (k + 1)) (G - (k + 1)),.slice (some ⟨g,k * 7,none⟩) (n - k) (cap - k)]).run Tryz.prog ((W.drew.alloc (.cells R1 43)).setRow W.heap.size R2).drew = .ok (.int .i64 ((l.length - k : Nat) : Int)) (((W.drew.alloc (.cells R1 43)).setRow W.heap.size R2).drew.setRow W.heap.size R3) at q3
 have e1 : ((k : Int) == (n : Int)) = false := by rw [beq_eq_false_iff_ne]; omega
 have e2 : decide ((cap : Int) < (n : Int) + 1) = true := by simp; omega
 have hGn : n + 1 ≤ G := by omega
 clear hn
 generalize W.heap.size = N at *
 generalize W.drew.alloc (.cells R1 43) = W1 at *
 generalize W1.setRow N R2 = W2 at *
 go_enter Tryz.func77,Tryz.ntmps77
 go_wp2_with (first | (at_builtin; refine wpList_append_run2 rfl _ _ 28 3 rfl rfl rfl a1 ?_) | (at_builtin; refine wpList_copy_run rfl _ _ 28 rfl rfl rfl q2 ?_) | fail)
 clear a1 q2 s0 s1 s2 s3
 have hw1 : IntKind.i64.wrap ((k : Int) + 1) = (k : Int) + 1 := by rw [IntKind.wrap_i64]; omega
 have hb1 : (0 : Int) ≤ (k : Int) + 1 := by omega
 have hb0 : (k : Int) + 1 ≤ (n : Int) + 1 := by omega
 have htn : ((k : Int) + 1).toNat = k + 1 := by omega
 have hb2 : ¬ (G = k + 1) := by omega
 have hb3 : (k : Int) ≤ (n : Int) := by omega
 have hb4 : ¬ (cap = k) := by omega
 have h81 : n + 1 - (k + 1) = n - k := by omega
 rw [h81] at q3
 clear h81
 go_region_law (refine step_copy_run rfl (.tmp 50) (.tmp 53) 28 rfl (v := .slice (some ⟨N,(k + 1) * 7,none⟩) (n - k) (G - (k + 1))) (xv := .slice (some ⟨g,k * 7,none⟩) (n - k) (cap - k)) (by simp [Act.eval,Act.put]) (by simp [Act.eval,Act.put]) q3 ?_)
 all_goals simp only [Exit.then]
 all_goals apply_assumption
 go_wp2
 go_ret
 exact Q.out
theorem insert_anyN (B : Nat) (v : Value) (l : List XEn) (k : Nat) (c : XEn) (b : Nat) (W : World) (ho : OwnN W B v l) (hx : Box W b (cellsN c).toArray 43) (hne : v.ownBlock ≠ some b) (hk : k ≤ l.length) (hl : l.length ≤ 900) (hB : B ≤ W.heap.size) :
  Calls Tryz.prog 77 #[v,.int .i64 k,.slice (some ⟨b,0,none⟩) 1 1] W (InsQN B l k c v W) := by
 rcases Nat.lt_or_ge k l.length with h | h
 ·rcases own_open ho with ⟨_,h2⟩ | ⟨g,cap,cur,rfl,h1,h2,h3,h4,h5,h6⟩
  ·rw [h2] at h; simp at h
  ·rcases Nat.lt_or_ge cap (l.length + 1) with h7 | h7
   ·exact insert_growN B g _ cap cur l k c b W rfl h2 h4 h3 h6 hx h h7 hl hB
   ·exact insert_shiftN B g _ cap cur l k c b W rfl h1 h2 h4 h5 h6 hx (fun e => hne (by simp [Value.ownBlock,e])) h h7 hl
 ·obtain rfl : k = l.length := by omega
  exact insert_endN B v l c b W ho hx hl hB
end Go.Proofs.YtncogjpmboglhaaGreat.Av
namespace Go.Proofs.YtncogjpmboglhaaGreat.Av
open Go.RowKit Rw Bk Go.Maps Go.ChangeMaps
end Go.Proofs.YtncogjpmboglhaaGreat.Av
namespace Go.Proofs.YtncogjpmboglhaaGreat.Bk
open Go.RowKit Go.Sort Rw YtncogjpmboglhaaGreat.Nm Pr
end Go.Proofs.YtncogjpmboglhaaGreat.Bk
namespace Go.Proofs.YtncogjpmboglhaaGreat.Av
open Go.RowKit Go.ChangeShapes Go.WideShapes Bk
theorem cellsQ10 : Tryz.prog.cellsOf 55 = 7 := by kernel_rfl
theorem indexQ10 (a : Addr) (m len cap : Nat) (h : m < len) (w : World) : (Instr.indexAt 50 (.slice (some a) len cap) (.int .i64 m)).run Tryz.prog w = .ok (.pointer (some (a.add (m * 7)))) w := by
 have h1 : (m : Int) < len := by omega
 simp [go_sem,Tryz.underlying50,h1]
structure InQ10 (W : World) (v : Value) (n : Nat) : Prop where
 shape : ∃ ao cap,v = .slice ao n cap
 at_ : ∀ i : Nat,i < n → ∃ (p : Addr) (z0 z1 z2 z3 z4 : Int) (h1 : Option Addr) (h2 h3 : Nat) (g1 : Option Addr) (g2 g3 : Nat) (has vals : List Int),p.block < W.heap.size ∧ (∀ w,(Instr.indexAt 50 v (.int .i64 i)).run Tryz.prog w = .ok (.pointer (some p)) w) ∧ (∀ j u,([.int .i64 z0,.int .i64 z1,.int .i64 z2,.int .i64 z3,.int .i64 z4,.slice h1 h2 h3,.slice g1 g2 g3] : List Value)[j]? = some u → W.cell? (p.add j) = some u) ∧ ((-9223372036854775808 ≤ z0 ∧ z0 ≤ 9223372036854775807) ∧ (-9223372036854775808 ≤ z1 ∧ z1 ≤ 9223372036854775807) ∧ (-9223372036854775808 ≤ z2 ∧ z2 ≤ 9223372036854775807) ∧ (-9223372036854775808 ≤ z3 ∧ z3 ≤ 9223372036854775807) ∧ (-9223372036854775808 ≤ z4 ∧ z4 ≤ 9223372036854775807)) ∧ In.InInts W (.slice h1 h2 h3) has ∧ In.InInts W (.slice g1 g2 g3) vals ∧ has.length ≤ maxLen ∧ vals.length ≤ maxLen
theorem InQ10.on {W W' : World} {v : Value} {n : Nat} (h : InQ10 W v n) (hb : Below W.heap.size W W') : InQ10 W' v n :=
 ⟨h.shape,fun i hi => by
  obtain ⟨p,z0,z1,z2,z3,z4,x1,x2,x3,y1,y2,y3,has,vals,h1,h2,h3,h4,h5,h6,h7⟩ := h.at_ i hi
  exact ⟨p,z0,z1,z2,z3,z4,x1,x2,x3,y1,y2,y3,has,vals,Nat.lt_of_lt_of_le h1 hb.size,h2,fun j u hu => by rw [hb.cell (by rw [add_blk]; exact h1)]; exact h3 j u hu,h4,h5.on hb,h6.on hb,h7⟩⟩
theorem openQ10 {H : Type} {enc : TypeId × Value → H} {W : World} {r : Reach} {b0 : Nat} {sp : Nat → Bool} {held : Bool} {v : Value} {d : DataW H} {ps : List MemPlace}
  (hval : Value.okWide Tryz.prog W r b0 50 v) (hd : DataW.Trod enc Tryz.prog W 0 sp held 50 v d ps) : ∃ n : Nat,n ≤ maxLen ∧ InQ10 W v n := by
 obtain ⟨ao,al,ac,rfl⟩ := okWide_slice Tryz.underlying50 hval
 obtain ⟨fuel,hf⟩ := hd
 rcases Deep.open_slice Tryz.underlying50 hf with ⟨h1,_⟩ | ⟨a,len,cap,m,n,D,Pl,h1,_,h3,h4,h5,_,hx⟩
 ·have e : Value.slice ao al ac = .slice none 0 0 := by simpa [Value.cells] using h1
  exact ⟨0,Nat.zero_le _,⟨none,0,e⟩,fun i hi => by omega⟩
 ·have e : Value.slice ao al ac = .slice (some a) len cap := by simpa [Value.cells] using h1
  rw [e]
  have hle : len ≤ m := by rw [h5]; split <;> omega
  refine ⟨len,by omega,⟨some a,cap,rfl⟩,fun i hi => ?_⟩
  obtain ⟨cs',k1,k2⟩ := hx i (by omega)
  obtain ⟨xs,n',_,_,hcl,hxl,hy⟩ := DataW.trod_struct Tryz.underlying55 k2
  rw [cellsQ10] at hcl k1
  match cs',hcl with
  | [c0,c1,c2,c3,c4,c5,d1],_ =>
   have f0 : DataW.trod enc Tryz.prog W 0 sp held n' 3 (([c0,c1,c2,c3,c4,c5,d1].drop 0).take (Tryz.prog.cellsOf 3)) = xs[0]? := hy 0 _ rfl
   have f1 : DataW.trod enc Tryz.prog W 0 sp held n' 3 (([c0,c1,c2,c3,c4,c5,d1].drop 1).take (Tryz.prog.cellsOf 3)) = xs[1]? := hy 1 _ rfl
   have f2 : DataW.trod enc Tryz.prog W 0 sp held n' 3 (([c0,c1,c2,c3,c4,c5,d1].drop 2).take (Tryz.prog.cellsOf 3)) = xs[2]? := hy 2 _ rfl
   have f3 : DataW.trod enc Tryz.prog W 0 sp held n' 3 (([c0,c1,c2,c3,c4,c5,d1].drop 3).take (Tryz.prog.cellsOf 3)) = xs[3]? := hy 3 _ rfl
   have f4 : DataW.trod enc Tryz.prog W 0 sp held n' 3 (([c0,c1,c2,c3,c4,c5,d1].drop 4).take (Tryz.prog.cellsOf 3)) = xs[4]? := hy 4 _ rfl
   have fp : DataW.trod enc Tryz.prog W 0 sp held n' 53 (([c0,c1,c2,c3,c4,c5,d1].drop 5).take (Tryz.prog.cellsOf 53)) = xs[5]? := hy 5 _ rfl
   have hxl' : xs.length = 5 + 1 := hxl
   simp only [In.cellsI,Pr.cellsP,List.drop_zero,List.drop_succ_cons,List.take_succ_cons,List.take_zero] at f0 f1 f2 f3 f4 fp
   rw [List.getElem?_eq_getElem (by omega)] at f0 f1 f2 f3 f4 fp
   obtain ⟨m0,e0,_,w0⟩ := DataW.trod_int Tryz.underlying3 f0
   obtain ⟨m1,e1,_,w1⟩ := DataW.trod_int Tryz.underlying3 f1
   obtain ⟨m2,e2,_,w2⟩ := DataW.trod_int Tryz.underlying3 f2
   obtain ⟨m3,e3,_,w3⟩ := DataW.trod_int Tryz.underlying3 f3
   obtain ⟨m4,e4,_,w4⟩ := DataW.trod_int Tryz.underlying3 f4
   simp only [List.cons.injEq,and_true] at e0 e1 e2 e3 e4
   subst e0 e1 e2 e3 e4
   obtain ⟨ys,n2,_,_,_,hyl,hp⟩ := DataW.trod_struct Tryz.underlying53 fp
   have hyl' : ys.length = 2 := hyl
   have q0 : DataW.trod enc Tryz.prog W 0 sp held n2 25 (([c5,d1].drop 0).take (Tryz.prog.cellsOf 25)) = ys[0]? := hp 0 _ rfl
   have q1 : DataW.trod enc Tryz.prog W 0 sp held n2 25 (([c5,d1].drop 1).take (Tryz.prog.cellsOf 25)) = ys[1]? := hp 1 _ rfl
   simp only [Pr.cellsIs,List.drop_zero,List.drop_succ_cons,List.take_succ_cons,List.take_zero] at q0 q1
   rw [List.getElem?_eq_getElem (by omega)] at q0 q1
   obtain ⟨has,l1,i1⟩ := In.in_trod q0
   obtain ⟨vals,l2,i2⟩ := In.in_trod q1
   obtain ⟨x1,y1,rfl⟩ := i1.shape
   obtain ⟨x2,y2,rfl⟩ := i2.shape
   obtain ⟨_,_,k3⟩ := World.cells?_some k1
   have k0 := k3 0 (by decide)
   rw [Rw.add_zero] at k0
   refine ⟨a.add (i * 7),m0,m1,m2,m3,m4,x1,_,y1,x2,_,y2,has,vals,World.block_lt_of_cell? W _ k0,fun w => indexQ10 a i len cap hi w,fun j u hu => ?_,⟨In.lits_bd w0,In.lits_bd w1,In.lits_bd w2,In.lits_bd w3,In.lits_bd w4⟩,i1,i2,l1,l2⟩
   have hj : j < 7 := (List.getElem?_eq_some_iff.1 hu).1
   rw [← hu]
   exact k3 j hj
end Go.Proofs.YtncogjpmboglhaaGreat.Av
