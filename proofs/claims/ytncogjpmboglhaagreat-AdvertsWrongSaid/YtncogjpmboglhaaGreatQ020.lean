/-
  slices.Insert of one ID into a row of one's own, as package adverts ca. Conditions as told.
-/
import Derived.Test.YtncogjpmboglhaaGreatQ012
import Derived.Test.YtncogjpmboglhaaGreatQ007
import Derived.Laws.Externs
import Derived.Lib.Hide
import Derived.Lib.QuietBelow
import Derived.BigQuiet
import Derived.Test.YtncogjpmboglhaaGreatQ005
import Derived.Test.YtncogjpmboglhaaGreatQ013
import Derived.Lib.Strings
set_option maxRecDepth 100000
set_option maxHeartbeats 64000000
namespace Go.Proofs.YtncogjpmboglhaaGreat.Av
open Go.RowKit Rw YtncogjpmboglhaaGreat.Nm Pr Bk
theorem row_boxJ {W : World} {b : Nat} {c : XID} (h : Box W b (cellsJ c).toArray 38) : RowJ W (.slice (some ⟨b,0,none⟩) 1 1) [c] :=
 Or.inr ⟨⟨b,0,none⟩,1,rfl,by simp,by decide,box_one h (by simp [EJ])⟩
def InsQJ (B : Nat) (l : List XID) (k : Nat) (c : XID) (vv : Value) (W : World) (e : Ending) (w' : World) : Prop := ∃ v',e = .returned v' ∧ OwnJ w' B v' (l.take k ++ c :: l.drop k) ∧ Below B W w' ∧ (∀ j,j < W.heap.size → some j ≠ vv.ownBlock → w'.heap[j]? = W.heap[j]?)
theorem insert_endJ (B : Nat) (v : Value) (l : List XID) (c : XID) (b : Nat) (W : World) (ho : OwnJ W B v l) (hx : Box W b (cellsJ c).toArray 38) (hl : l.length ≤ 900) (hB : B ≤ W.heap.size) :
  Calls Tryz.prog 129 #[v,.int .i64 (l.length : Nat),.slice (some ⟨b,0,none⟩) 1 1] W (InsQJ B l l.length c v W) := by
 obtain ⟨v',w',hr,ho2,hg⟩ := app_row okJ B ho (row_boxJ hx) (by omega) (by simp) hB 27
 have hr : (Builtin.append_ #[27,27] 27 #[v,.slice (some ⟨b,0,none⟩) 1 1]).run Tryz.prog W = .ok v' w' := hr
 have Q := Lib.hid (show InsQJ B l l.length c v W (.returned v') w' from ⟨v',rfl,by rw [List.take_of_length_le (Nat.le_refl _),List.drop_of_length_le (Nat.le_refl _)]; exact ho2,(Below.refl B W).grown hg hB (fun j hj => (ho.lt j hj).1),fun j hj hne => hg.block j hj hne⟩)
 obtain ⟨sx,hs,_⟩ := row_hi okJ (Row.of_own ho) l.length (Nat.le_refl _)
 have hs : ∀ w,(Instr.sliceAt 27 v (some (.int .i64 l.length)) none none).run Tryz.prog w = .ok sx w := hs
 obtain ⟨ao,ac,rfl⟩ := (Row.of_own ho).len
 clear ho ho2 hg
 generalize hn : l.length = n at *
 clear hn
 go_enter Tryz.func129,Tryz.ntmps129
 go_wp2_with (first | (at_builtin; refine wpList_append_run rfl _ _ 27 rfl rfl rfl hr ?_) | fail)
 go_ret
 exact Q.out
theorem no_overJ (w : World) (g b k la lb cb : Nat) (cur cs : Array Value) (hb : Box w b cs 38) (hg : Box w g cur 38) (hne : b ≠ g) (h0 : 0 < cur.size) : (callFunc 155 #[.slice (some ⟨b,0,none⟩) la 1,.slice (some ⟨g,k,none⟩) lb cb]).run Tryz.prog w = .ok (.value (.bool false)) w := by
 rw [run_callFunc_extern Tryz.func155 (by kernel_rfl) (by kernel_rfl) (by kernel_rfl) (e := Extern.SlicesOverlaps.overlaps #[27,27] #[4]) (by kernel_rfl),
  Lib.run_overlaps_apart w 27 4 38 Tryz.underlying27 2 Tryz.sizeOf38 ⟨b,0,none⟩ ⟨g,k,none⟩ la 1 lb cb hne 38 38 cs.size cur.size hb.shape hg.shape (by omega) (hb.fr 0) (hb.fr _)]
 rfl
theorem insert_shiftJ (B g n cap : Nat) (cur : Array Value) (l : List XID) (k : Nat) (c : XID) (b : Nat) (W : World) (hn : n = l.length) (hBg : B ≤ g) (hg : Box W g cur 38) (hcm : cap ≤ maxLen) (hsz : cur.size = cap * 2) (ht : cur.toList.take (n * 2) = flat EJ l) (hx : Box W b (cellsJ c).toArray 38) (hne : b ≠ g) (hk : k < n) (hroom : n + 1 ≤ cap) (hl : n ≤ 900) :
  Calls Tryz.prog 129 #[.slice (some ⟨g,0,none⟩) n cap,.int .i64 k,.slice (some ⟨b,0,none⟩) 1 1] W (InsQJ B l k c (.slice (some ⟨g,0,none⟩) n cap) W) := by
 obtain ⟨R1,R2,r1,r2,ow⟩ := shift_mid (E := EJ) (l := l) (k := k) (cap := cap) (cur := cur) (cs := (cellsJ c).toArray) (c := c) okJ (by omega) (by omega) hsz (by rw [← hn]; exact ht) g b hne
 have hov := fun lb cb => no_overJ W g b ((k + 1) * 2) 1 lb cb cur (cellsJ c).toArray hx hg hne (by omega)
 have s0 := cut_hi (E := EJ) okJ g k n cap (by omega) (by omega)
 have s1 := slice_lo (E := EJ) okJ ⟨g,0,none⟩ (n + 1) n cap (by omega)
 have s2 := cut_hi (E := EJ) okJ g (k + 1) (n + 1) cap (by omega) (by omega)
 have s3 := cut_hi (E := EJ) okJ g k (n + 1) cap (by omega) (by omega)
 have q1 := r1 W.drew 3 (n + 1 - (k + 1)) (cap - (k + 1)) (n + 1 - k) (cap - k) hg (by omega)
 have q2 := r2 (W.drew.setRow g R1) 3 (n + 1 - k) (cap - k) (Box.set (show Box W.drew g cur 38 from hg) R1) (Box.other (show Box W.drew b _ 38 from hx) hne R1) rfl (by omega)
 have Q := Lib.hid (show InsQJ B l k c (.slice (some ⟨g,0,none⟩) n cap) W (.returned (.slice (some ⟨g,0,none⟩) (n + 1) cap)) ((W.drew.setRow g R1).setRow g R2) from ⟨_,rfl,by rw [hn]; exact ow _ B hBg hcm (Box.set (Box.set (show Box W.drew g cur 38 from hg) R1) R2),below_setRow (below_setRow (Below.refl B W).drew hBg _) hBg _,fun j hj hne => (setRow_other _ g j _ (fun e => hne (by rw [e]; rfl))).trans (setRow_other _ g j _ (fun e => hne (by rw [e]; rfl)))⟩)
 clear r1 r2 ow hg ht hx hsz hBg hcm
 change ∀ w,(Instr.sliceAt 27 (.slice (some ⟨g,0,none⟩) n cap) (some (.int .i64 k)) none none).run Tryz.prog w = .ok (.slice (some ⟨g,k * 2,none⟩) (n - k) (cap - k)) w at s0
 change ∀ w,(Instr.sliceAt 27 (.slice (some ⟨g,0,none⟩) n cap) none (some (.int .i64 ((n : Int) + 1))) none).run Tryz.prog w = .ok (.slice (some ⟨g,0,none⟩) (n + 1) cap) w at s1
 change ∀ w,(Instr.sliceAt 27 (.slice (some ⟨g,0,none⟩) (n + 1) cap) (some (.int .i64 ((k : Int) + 1))) none none).run Tryz.prog w = .ok (.slice (some ⟨g,(k + 1) * 2,none⟩) (n + 1 - (k + 1)) (cap - (k + 1))) w at s2
 change ∀ w,(Instr.sliceAt 27 (.slice (some ⟨g,0,none⟩) (n + 1) cap) (some (.int .i64 k)) none none).run Tryz.prog w = .ok (.slice (some ⟨g,k * 2,none⟩) (n + 1 - k) (cap - k)) w at s3
 have e1 : ((k : Int) == (n : Int)) = false := by rw [beq_eq_false_iff_ne]; omega
 have e2 : decide ((cap : Int) < (n : Int) + 1) = false := by simp; omega
 change (Builtin.copy_ #[27,27] 3 #[.slice (some ⟨g,(k + 1) * 2,none⟩) (n + 1 - (k + 1)) (cap - (k + 1)),.slice (some ⟨g,k * 2,none⟩) (n + 1 - k) (cap - k)]).run Tryz.prog W.drew = .ok (.int .i64 ((l.length - k : Nat) : Int)) (W.drew.setRow g R1) at q1
 change (Builtin.copy_ #[27,27] 3 #[.slice (some ⟨g,k * 2,none⟩) (n + 1 - k) (cap - k),.slice (some ⟨b,0,none⟩) 1 1]).run Tryz.prog (W.drew.setRow g R1) = .ok (.int .i64 1) ((W.drew.setRow g R1).setRow g R2) at q2
 clear hn
 go_enter Tryz.func129,Tryz.ntmps129
 go_wp2_with (first | (simp only [hov]) | fail)
 clear hov s0 s1 s2 s3
 have hw1 : IntKind.i64.wrap ((k : Int) + 1) = (k : Int) + 1 := by rw [IntKind.wrap_i64]; omega
 have hb1 : (0 : Int) ≤ (k : Int) + 1 := by omega
 have hb0 : (k : Int) + 1 ≤ (n : Int) + 1 := by omega
 have htn : ((k : Int) + 1).toNat = k + 1 := by omega
 have hb2 : ¬ (cap = k + 1) := by omega
 have hb3 : (k : Int) ≤ (n : Int) + 1 := by omega
 have hb4 : ¬ (cap = k) := by omega
 have h81 : n + 1 - (k + 1) = n - k := by omega
 rw [h81] at q1
 clear h81
 go_region_law (refine step_copy_run rfl (.tmp 73) (.tmp 76) 27 rfl (v := .slice (some ⟨g,(k + 1) * 2,none⟩) (n - k) (cap - (k + 1))) (xv := .slice (some ⟨g,k * 2,none⟩) (n + 1 - k) (cap - k)) (by simp [Act.eval,Act.put]) (by simp [Act.eval,Act.put]) q1 ?_)
 all_goals simp only [Exit.then]
 all_goals apply_assumption
 clear q1 hw1 hb1 hb0 htn hb2 hb3 hb4
 have s3 := cut_hi (E := EJ) okJ g k (n + 1) cap (by omega) (by omega)
 change ∀ w,(Instr.sliceAt 27 (.slice (some ⟨g,0,none⟩) (n + 1) cap) (some (.int .i64 k)) none none).run Tryz.prog w = .ok (.slice (some ⟨g,k * 2,none⟩) (n + 1 - k) (cap - k)) w at s3
 go_wp2_with (first | (at_builtin; refine wpList_copy_run rfl _ _ 27 rfl rfl rfl q2 ?_) | fail)
 go_ret
 exact Q.out
theorem insert_growJ (B g n cap : Nat) (cur : Array Value) (l : List XID) (k : Nat) (c : XID) (b : Nat) (W : World) (hn : n = l.length) (hg : Box W g cur 38) (hcm : cap ≤ maxLen) (hnc : n ≤ cap) (ht : cur.toList.take (n * 2) = flat EJ l) (hx : Box W b (cellsJ c).toArray 38) (hk : k < n) (hroom : cap < n + 1) (hl : n ≤ 900) (hB : B ≤ W.heap.size) :
  Calls Tryz.prog 129 #[.slice (some ⟨g,0,none⟩) n cap,.int .i64 k,.slice (some ⟨b,0,none⟩) 1 1] W (InsQJ B l k c (.slice (some ⟨g,0,none⟩) n cap) W) := by
 have hgw := hg.lt
 have hbw := hx.lt
 obtain ⟨G,R1,R2,R3,hG1,hG2,r1,r2,r3,ow⟩ := grow_mid (E := EJ) (l := l) (k := k) (cap := cap) (cur := cur) (cs := (cellsJ c).toArray) (c := c) okJ 3 Tryz.underlying3 (by omega) (by omega) (by omega) (by omega) (by rw [← hn]; exact ht) W g b hg hbw
 unfold maxLen at hcm hG2
 have s0 := cut_hi (E := EJ) okJ g k n cap (by omega) (by omega)
 have s1 := slice_lo (E := EJ) okJ ⟨g,0,none⟩ k n cap (by omega)
 have s2 := cut_hi (E := EJ) okJ W.heap.size k (n + 1) G (by omega) (by omega)
 have s3 := cut_hi (E := EJ) okJ W.heap.size (k + 1) (n + 1) G (by omega) (by omega)
 have a1 := r1 27
 have n1 := box_new W.drew R1 38
 have bl : W.drew.heap.size = W.heap.size := rfl
 rw [bl] at n1
 have g1 : Box (W.drew.alloc (.cells R1 38)) g cur 38 := Box.more (show Box W.drew g cur 38 from hg) _
 have x1 : Box (W.drew.alloc (.cells R1 38)) b (cellsJ c).toArray 38 := Box.more (show Box W.drew b _ 38 from hx) _
 have q2 := r2 (W.drew.alloc (.cells R1 38)) 3 (n + 1 - k) (G - k) n1 x1 rfl (by omega)
 have q3 := r3 ((W.drew.alloc (.cells R1 38)).setRow W.heap.size R2).drew 3 (n + 1 - (k + 1)) (G - (k + 1)) (n - k) (cap - k) (Box.set n1 R2) (Box.other g1 (by omega) R2) (by omega)
 have Q := Lib.hid (show InsQJ B l k c (.slice (some ⟨g,0,none⟩) n cap) W (.returned (.slice (some ⟨W.heap.size,0,none⟩) (n + 1) G)) (((W.drew.alloc (.cells R1 38)).setRow W.heap.size R2).drew.setRow W.heap.size R3) from ⟨_,rfl,by rw [hn]; exact ow _ B hB (Box.set (Box.set n1 R2) R3),below_setRow (below_setRow ((Below.refl B W).drew.alloc hB _) hB _).drew hB _,fun j hj _ => (setRow_other _ W.heap.size j _ (by omega)).trans ((setRow_other _ W.heap.size j _ (by omega)).trans (Array.getElem?_push_lt hj |>.trans (Array.getElem?_eq_getElem hj).symm))⟩)
 have l1 : l.length + 1 = n + 1 := by rw [hn]
 rw [l1,← hn] at a1
 clear r1 r2 r3 ow hg ht hx g1 x1 n1 bl l1
 change ∀ w,(Instr.sliceAt 27 (.slice (some ⟨g,0,none⟩) n cap) (some (.int .i64 k)) none none).run Tryz.prog w = .ok (.slice (some ⟨g,k * 2,none⟩) (n - k) (cap - k)) w at s0
 change ∀ w,(Instr.sliceAt 27 (.slice (some ⟨g,0,none⟩) n cap) none (some (.int .i64 k)) none).run Tryz.prog w = .ok (.slice (some ⟨g,0,none⟩) k cap) w at s1
 change ∀ w,(Instr.sliceAt 27 (.slice (some ⟨W.heap.size,0,none⟩) (n + 1) G) (some (.int .i64 k)) none none).run Tryz.prog w = .ok (.slice (some ⟨W.heap.size,k * 2,none⟩) (n + 1 - k) (G - k)) w at s2
 change ∀ w,(Instr.sliceAt 27 (.slice (some ⟨W.heap.size,0,none⟩) (n + 1) G) (some (.int .i64 ((k : Int) + 1))) none none).run Tryz.prog w = .ok (.slice (some ⟨W.heap.size,(k + 1) * 2,none⟩) (n + 1 - (k + 1)) (G - (k + 1))) w at s3
 change (Builtin.append_ #[27,3] 27 #[.slice (some ⟨g,0,none⟩) k cap,.int .i64 ((n : Int) + 1 - k)]).run Tryz.prog W = .ok (.slice (some ⟨W.heap.size,0,none⟩) (n + 1) G) (W.drew.alloc (.cells R1 38)) at a1
 change (Builtin.copy_ #[27,27] 3 #[.slice (some ⟨W.heap.size,k * 2,none⟩) (n + 1 - k) (G - k),.slice (some ⟨b,0,none⟩) 1 1]).run Tryz.prog (W.drew.alloc (.cells R1 38)) = .ok (.int .i64 1) ((W.drew.alloc (.cells R1 38)).setRow W.heap.size R2) at q2
 change (Builtin.copy_ #[27,27] 3 #[.slice (some ⟨W.heap.size,(k + 1) * 2,none⟩) (n + 1 - (k + 1)) (G - (k + 1)),.slice (some ⟨g,k * 2,none⟩) (n - k) (cap - k)]).run Tryz.prog ((W.drew.alloc (.cells R1 38)).setRow W.heap.size R2).drew = .ok (.int .i64 ((l.length - k : Nat) : Int)) (((W.drew.alloc (.cells R1 38)).setRow W.heap.size R2).drew.setRow W.heap.size R3) at q3
 have e1 : ((k : Int) == (n : Int)) = false := by rw [beq_eq_false_iff_ne]; omega
 have e2 : decide ((cap : Int) < (n : Int) + 1) = true := by simp; omega
 have hGn : n + 1 ≤ G := by omega
 clear hn
 generalize W.heap.size = N at *
 generalize W.drew.alloc (.cells R1 38) = W1 at *
 generalize W1.setRow N R2 = W2 at *
 go_enter Tryz.func129,Tryz.ntmps129
 go_wp2_with (first | (at_builtin; refine wpList_append_run2 rfl _ _ 27 3 rfl rfl rfl a1 ?_) | (at_builtin; refine wpList_copy_run rfl _ _ 27 rfl rfl rfl q2 ?_) | fail)
 clear a1 q2 s0 s1 s2 s3
 have hw1 : IntKind.i64.wrap ((k : Int) + 1) = (k : Int) + 1 := by rw [IntKind.wrap_i64]; omega
 have hb1 : (0 : Int) ≤ (k : Int) + 1 := by omega
 have hb0 : (k : Int) + 1 ≤ (n : Int) + 1 := by omega
 have htn : ((k : Int) + 1).toNat = k + 1 := by omega
 have hb2 : ¬ (G = k + 1) := by omega
 have hb3 : (k : Int) ≤ (n : Int) := by omega
 have hb4 : ¬ (cap = k) := by omega
 have h81 : n + 1 - (k + 1) = n - k := by omega
 rw [h81] at q3
 clear h81
 go_region_law (refine step_copy_run rfl (.tmp 50) (.tmp 53) 27 rfl (v := .slice (some ⟨N,(k + 1) * 2,none⟩) (n - k) (G - (k + 1))) (xv := .slice (some ⟨g,k * 2,none⟩) (n - k) (cap - k)) (by simp [Act.eval,Act.put]) (by simp [Act.eval,Act.put]) q3 ?_)
 all_goals simp only [Exit.then]
 all_goals apply_assumption
 go_wp2
 go_ret
 exact Q.out
theorem insert_anyJ (B : Nat) (v : Value) (l : List XID) (k : Nat) (c : XID) (b : Nat) (W : World) (ho : OwnJ W B v l) (hx : Box W b (cellsJ c).toArray 38) (hne : v.ownBlock ≠ some b) (hk : k ≤ l.length) (hl : l.length ≤ 900) (hB : B ≤ W.heap.size) :
  Calls Tryz.prog 129 #[v,.int .i64 k,.slice (some ⟨b,0,none⟩) 1 1] W (InsQJ B l k c v W) := by
 rcases Nat.lt_or_ge k l.length with h | h
 ·rcases own_open ho with ⟨_,h2⟩ | ⟨g,cap,cur,rfl,h1,h2,h3,h4,h5,h6⟩
  ·rw [h2] at h; simp at h
  ·rcases Nat.lt_or_ge cap (l.length + 1) with h7 | h7
   ·exact insert_growJ B g _ cap cur l k c b W rfl h2 h4 h3 h6 hx h h7 hl hB
   ·exact insert_shiftJ B g _ cap cur l k c b W rfl h1 h2 h4 h5 h6 hx (fun e => hne (by simp [Value.ownBlock,e])) h h7 hl
 ·obtain rfl : k = l.length := by omega
  exact insert_endJ B v l c b W ho hx hl hB
end Go.Proofs.YtncogjpmboglhaaGreat.Av
namespace Go.Proofs.YtncogjpmboglhaaGreat.Pr
open Go.RowKit Go.Sort Pu Rw Va
def sameC : List C5 → List C5 → Bool
 | [],[] => true
 | x :: l,y :: m => eqlC x y && sameC l m
 | _,_ => false
theorem sameC_len : ∀ l m,sameC l m = true → l.length = m.length
 | [],[],_ => rfl
 | x :: l,y :: m,h => by
  simp only [sameC,Bool.and_eq_true] at h
  simp [sameC_len l m h.2]
 | [],y :: m,h => by simp [sameC] at h
 | x :: l,[],h => by simp [sameC] at h
theorem sameC_all : ∀ l m,l.length = m.length → (∀ (k : Nat) (x y : C5),l[k]? = some x → m[k]? = some y → eqlC x y = true) → sameC l m = true
 | [],[],_,_ => rfl
 | x :: l,y :: m,hl,h => by
  simp only [sameC,Bool.and_eq_true]
  exact ⟨h 0 x y rfl rfl,sameC_all l m (by simpa using hl) (fun k a b ha hb => h (k + 1) a b (by simpa using ha) (by simpa using hb))⟩
 | [],y :: m,hl,_ => by simp at hl
 | x :: l,[],hl,_ => by simp at hl
theorem sameC_not : ∀ (l m : List C5) (k : Nat) (x y : C5),l[k]? = some x → m[k]? = some y → eqlC x y = false → sameC l m = false
 | [],_,k,x,y,h,_,_ => by simp at h
 | _ :: _,[],k,x,y,_,h,_ => by simp at h
 | a :: l,b :: m,0,x,y,h1,h2,h3 => by
  simp at h1 h2
  subst h1 h2
  simp [sameC,h3]
 | a :: l,b :: m,k + 1,x,y,h1,h2,h3 => by
  simp only [sameC,sameC_not l m k x y (by simpa using h1) (by simpa using h2) h3,Bool.and_false]
theorem sameC_iff : ∀ l m : List C5,sameC l m = true ↔ l = m
 | [],[] => by simp [sameC]
 | x :: l,y :: m => by
  simp only [sameC,Bool.and_eq_true,eqlC_iff,sameC_iff l m,List.cons.injEq]
 | [],y :: m => by simp [sameC]
 | x :: l,[] => by simp [sameC]
end Go.Proofs.YtncogjpmboglhaaGreat.Pr
namespace Go.Proofs.YtncogjpmboglhaaGreat.Rl
open Go.RowKit Pu Rw Pr Va
theorem begins_any (s p : ByteArray) (w : World) : Calls Tryz.prog 151 #[.string s,.string p] w fun e w' => e = .returned (.bool (pfx p s)) ∧ w' = w := by
 show Calls Tryz.prog _ _ _ fun e w' => e = .returned (.bool (Lib.hasPrefix s.data.toList p.data.toList)) ∧ w' = w
 rw [← Lib.hasPrefix_of_take,← Lib.size_eq,← Lib.size_eq]
 by_cases h : p.size ≤ s.size
 ·have e1 : (((s.size : Nat) : Int) ≥ ((p.size : Nat) : Int)) := by omega
  have H := Lib.hid h
  go_enter Tryz.func151,Tryz.ntmps151
  go_wp2
  all_goals (go_ret; refine ⟨?_,rfl⟩; show Ending.returned (Value.bool ((s.extract 0 p.size).toList == p.toList)) = _; rw [Lib.extract_toList,Lib.toList_data]; simp [h])
 ·have H := Lib.hid h
  go_enter Tryz.func151,Tryz.ntmps151
  go_wp2
  all_goals (go_ret; refine ⟨?_,rfl⟩; show Ending.returned (Value.bool false) = _; simp [H.out])
theorem rB (w : World) (nm : ByteArray) (k lo hi : Int) (u : ByteArray) (t : Bool) (n : Int) (s : ByteArray) : Below w.heap.size w ((w.alloc (.cells #[.string nm,.int .i64 k,.int .i64 lo,.int .i64 hi,.string u] 47)).alloc (.cells #[.bool t,.int .i64 n,.string s] 198)) :=
 ((Below.refl w.heap.size w).alloc (Nat.le_refl _) _).alloc (by simp) _
theorem rC (w : World) (nm : ByteArray) (k lo hi : Int) (u : ByteArray) (nm' : ByteArray) (k' lo' hi' : Int) (u' : ByteArray) : Below w.heap.size w ((w.alloc (.cells #[.string nm,.int .i64 k,.int .i64 lo,.int .i64 hi,.string u] 47)).alloc (.cells #[.string nm',.int .i64 k',.int .i64 lo',.int .i64 hi',.string u'] 47)) :=
 ((Below.refl w.heap.size w).alloc (Nat.le_refl _) _).alloc (by simp) _
theorem rholds_rg (nm : ByteArray) (lo hi : Int) (t : Bool) (n : Int) (s : ByteArray) (w : World) : Calls Tryz.prog 158 #[cv (r5 (nm,.rg lo hi)),vl t n s] w fun e w' => e = .returned (.bool (holdsK (.rg lo hi) (t,n,s))) ∧ Below w.heap.size w w' := by
 simp only [r5,kN,kLo,kHi,kT]
 have R := Lib.hid (show holdsK (.rg lo hi) (t,n,s) = (!t && (decide (lo ≤ n) && decide (n ≤ hi))) from rfl)
 have B := Lib.hid (rB w nm 1 lo hi ⟨#[]⟩ t n s)
 generalize holdsK (.rg lo hi) (t,n,s) = r at *
 by_cases h1 : lo ≤ n <;> have H1 := Lib.hid h1 <;> cases t <;> go_enter Tryz.func158,Tryz.ntmps158 <;> go_wp2 <;> go_ret <;> exact ⟨ret_bool (by rw [R.out]; have h := H1.out; simp [h] <;> omega),B.out⟩
theorem rholds_tx (nm u : ByteArray) (t : Bool) (n : Int) (s : ByteArray) (w : World) : Calls Tryz.prog 158 #[cv (r5 (nm,.tx u)),vl t n s] w fun e w' => e = .returned (.bool (holdsK (.tx u) (t,n,s))) ∧ Below w.heap.size w w' := by
 simp only [r5,kN,kLo,kHi,kT]
 have R := Lib.hid (show holdsK (.tx u) (t,n,s) = (t && (s.data.toList == u.data.toList)) from rfl)
 have B := Lib.hid (rB w nm 2 0 0 u t n s)
 generalize holdsK (.tx u) (t,n,s) = r at *
 cases t <;> go_enter Tryz.func158,Tryz.ntmps158 <;> go_wp2 <;> go_ret <;> exact ⟨ret_bool (by rw [R.out]; simp [Lib.toList_data]),B.out⟩
theorem rholds_pr (nm u : ByteArray) (t : Bool) (n : Int) (s : ByteArray) (w : World) : Calls Tryz.prog 158 #[cv (r5 (nm,.pr u)),vl t n s] w fun e w' => e = .returned (.bool (holdsK (.pr u) (t,n,s))) ∧ Below w.heap.size w w' := by
 simp only [r5,kN,kLo,kHi,kT]
 have R := Lib.hid (show holdsK (.pr u) (t,n,s) = (t && pfx u s) from rfl)
 have B := Lib.hid (rB w nm 3 0 0 u t n s)
 generalize holdsK (.pr u) (t,n,s) = r at *
 cases t
 ·go_enter Tryz.func158,Tryz.ntmps158
  go_wp2
  go_ret
  exact ⟨ret_bool (by rw [R.out]; simp),B.out⟩
 ·go_enter Tryz.func158,Tryz.ntmps158
  go_wp2_with fail
  refine (begins_any s u _).mono ?_
  rintro e w' ⟨rfl,rfl⟩
  go_wp2
  go_ret
  exact ⟨ret_bool (by rw [R.out]; simp),B.out⟩
theorem rholds_any (c : Cn) (t : Bool) (n : Int) (s : ByteArray) (w : World) : Calls Tryz.prog 158 #[cv (r5 c),vl t n s] w fun e w' => e = .returned (.bool (holdsK c.2 (t,n,s))) ∧ Below w.heap.size w w' := by
 obtain ⟨nm,k⟩ := c
 cases k with
 | rg lo hi => exact rholds_rg nm lo hi t n s w
 | tx u => exact rholds_tx nm u t n s w
 | pr u => exact rholds_pr nm u t n s w
theorem imp_rr (n1 n2 : ByteArray) (lo1 hi1 : Int) (lo2 hi2 : Int) (w : World) : Calls Tryz.prog 118 #[cv (r5 (n1,(.rg lo1 hi1))),cv (r5 (n2,(.rg lo2 hi2)))] w fun e w' => e = .returned (.bool (impliesK (.rg lo1 hi1) (.rg lo2 hi2))) ∧ Below w.heap.size w w' := by
 simp only [r5,kN,kLo,kHi,kT]
 have B := Lib.hid (rC w n1 1 lo1 hi1 ⟨#[]⟩ n2 1 lo2 hi2 ⟨#[]⟩)
 have R := Lib.hid (show impliesK (.rg lo1 hi1) (.rg lo2 hi2) = (decide (lo2 ≤ lo1) && decide (hi1 ≤ hi2)) from rfl)
 generalize impliesK (.rg lo1 hi1) (.rg lo2 hi2) = r at *
 by_cases h1 : lo2 ≤ lo1 <;> have H1 := Lib.hid h1 <;> go_enter Tryz.func118,Tryz.ntmps118 <;> go_wp2 <;> go_ret <;> exact ⟨ret_bool (by rw [R.out]; have h := H1.out; simp [h] <;> omega),B.out⟩
theorem imp_rt (n1 n2 : ByteArray) (lo1 hi1 : Int) (u2 : ByteArray) (w : World) : Calls Tryz.prog 118 #[cv (r5 (n1,(.rg lo1 hi1))),cv (r5 (n2,(.tx u2)))] w fun e w' => e = .returned (.bool (impliesK (.rg lo1 hi1) (.tx u2))) ∧ Below w.heap.size w w' := by
 simp only [r5,kN,kLo,kHi,kT]
 have B := Lib.hid (rC w n1 1 lo1 hi1 ⟨#[]⟩ n2 2 0 0 u2)
 have R := Lib.hid (show impliesK (.rg lo1 hi1) (.tx u2) = (false) from rfl)
 generalize impliesK (.rg lo1 hi1) (.tx u2) = r at *
 go_enter Tryz.func118,Tryz.ntmps118 <;> go_wp2 <;> go_ret <;> exact ⟨ret_bool (by rw [R.out]),B.out⟩
theorem imp_rp (n1 n2 : ByteArray) (lo1 hi1 : Int) (u2 : ByteArray) (w : World) : Calls Tryz.prog 118 #[cv (r5 (n1,(.rg lo1 hi1))),cv (r5 (n2,(.pr u2)))] w fun e w' => e = .returned (.bool (impliesK (.rg lo1 hi1) (.pr u2))) ∧ Below w.heap.size w w' := by
 simp only [r5,kN,kLo,kHi,kT]
 have B := Lib.hid (rC w n1 1 lo1 hi1 ⟨#[]⟩ n2 3 0 0 u2)
 have R := Lib.hid (show impliesK (.rg lo1 hi1) (.pr u2) = (false) from rfl)
 generalize impliesK (.rg lo1 hi1) (.pr u2) = r at *
 go_enter Tryz.func118,Tryz.ntmps118 <;> go_wp2 <;> go_ret <;> exact ⟨ret_bool (by rw [R.out]),B.out⟩
theorem imp_tr (n1 n2 : ByteArray) (u1 : ByteArray) (lo2 hi2 : Int) (w : World) : Calls Tryz.prog 118 #[cv (r5 (n1,(.tx u1))),cv (r5 (n2,(.rg lo2 hi2)))] w fun e w' => e = .returned (.bool (impliesK (.tx u1) (.rg lo2 hi2))) ∧ Below w.heap.size w w' := by
 simp only [r5,kN,kLo,kHi,kT]
 have B := Lib.hid (rC w n1 2 0 0 u1 n2 1 lo2 hi2 ⟨#[]⟩)
 have R := Lib.hid (show impliesK (.tx u1) (.rg lo2 hi2) = (false) from rfl)
 generalize impliesK (.tx u1) (.rg lo2 hi2) = r at *
 go_enter Tryz.func118,Tryz.ntmps118 <;> go_wp2 <;> go_ret <;> exact ⟨ret_bool (by rw [R.out]),B.out⟩
theorem imp_tt (n1 n2 : ByteArray) (u1 : ByteArray) (u2 : ByteArray) (w : World) : Calls Tryz.prog 118 #[cv (r5 (n1,(.tx u1))),cv (r5 (n2,(.tx u2)))] w fun e w' => e = .returned (.bool (impliesK (.tx u1) (.tx u2))) ∧ Below w.heap.size w w' := by
 simp only [r5,kN,kLo,kHi,kT]
 have B := Lib.hid (rC w n1 2 0 0 u1 n2 2 0 0 u2)
 have R := Lib.hid (show impliesK (.tx u1) (.tx u2) = (u1.data.toList == u2.data.toList) from rfl)
 generalize impliesK (.tx u1) (.tx u2) = r at *
 go_enter Tryz.func118,Tryz.ntmps118 <;> go_wp2 <;> go_ret <;> exact ⟨ret_bool (by rw [R.out]; simp [Lib.toList_data]),B.out⟩
theorem imp_tp (n1 n2 : ByteArray) (u1 : ByteArray) (u2 : ByteArray) (w : World) : Calls Tryz.prog 118 #[cv (r5 (n1,(.tx u1))),cv (r5 (n2,(.pr u2)))] w fun e w' => e = .returned (.bool (impliesK (.tx u1) (.pr u2))) ∧ Below w.heap.size w w' := by
 simp only [r5,kN,kLo,kHi,kT]
 have B := Lib.hid (rC w n1 2 0 0 u1 n2 3 0 0 u2)
 have R := Lib.hid (show impliesK (.tx u1) (.pr u2) = (pfx u2 u1) from rfl)
 generalize impliesK (.tx u1) (.pr u2) = r at *
 go_enter Tryz.func118,Tryz.ntmps118
 go_wp2_with fail
 refine (begins_any u1 u2 _).mono ?_
 rintro e w' ⟨rfl,rfl⟩
 go_wp2
 go_ret
 exact ⟨ret_bool (by rw [R.out]),B.out⟩
theorem imp_pr (n1 n2 : ByteArray) (u1 : ByteArray) (lo2 hi2 : Int) (w : World) : Calls Tryz.prog 118 #[cv (r5 (n1,(.pr u1))),cv (r5 (n2,(.rg lo2 hi2)))] w fun e w' => e = .returned (.bool (impliesK (.pr u1) (.rg lo2 hi2))) ∧ Below w.heap.size w w' := by
 simp only [r5,kN,kLo,kHi,kT]
 have B := Lib.hid (rC w n1 3 0 0 u1 n2 1 lo2 hi2 ⟨#[]⟩)
 have R := Lib.hid (show impliesK (.pr u1) (.rg lo2 hi2) = (false) from rfl)
 generalize impliesK (.pr u1) (.rg lo2 hi2) = r at *
 go_enter Tryz.func118,Tryz.ntmps118 <;> go_wp2 <;> go_ret <;> exact ⟨ret_bool (by rw [R.out]),B.out⟩
theorem imp_pt (n1 n2 : ByteArray) (u1 : ByteArray) (u2 : ByteArray) (w : World) : Calls Tryz.prog 118 #[cv (r5 (n1,(.pr u1))),cv (r5 (n2,(.tx u2)))] w fun e w' => e = .returned (.bool (impliesK (.pr u1) (.tx u2))) ∧ Below w.heap.size w w' := by
 simp only [r5,kN,kLo,kHi,kT]
 have B := Lib.hid (rC w n1 3 0 0 u1 n2 2 0 0 u2)
 have R := Lib.hid (show impliesK (.pr u1) (.tx u2) = (false) from rfl)
 generalize impliesK (.pr u1) (.tx u2) = r at *
 go_enter Tryz.func118,Tryz.ntmps118 <;> go_wp2 <;> go_ret <;> exact ⟨ret_bool (by rw [R.out]),B.out⟩
theorem imp_pp (n1 n2 : ByteArray) (u1 : ByteArray) (u2 : ByteArray) (w : World) : Calls Tryz.prog 118 #[cv (r5 (n1,(.pr u1))),cv (r5 (n2,(.pr u2)))] w fun e w' => e = .returned (.bool (impliesK (.pr u1) (.pr u2))) ∧ Below w.heap.size w w' := by
 simp only [r5,kN,kLo,kHi,kT]
 have B := Lib.hid (rC w n1 3 0 0 u1 n2 3 0 0 u2)
 have R := Lib.hid (show impliesK (.pr u1) (.pr u2) = (pfx u2 u1) from rfl)
 generalize impliesK (.pr u1) (.pr u2) = r at *
 go_enter Tryz.func118,Tryz.ntmps118
 go_wp2_with fail
 refine (begins_any u1 u2 _).mono ?_
 rintro e w' ⟨rfl,rfl⟩
 go_wp2
 go_ret
 exact ⟨ret_bool (by rw [R.out]),B.out⟩
theorem implies_any (c d : Cn) (w : World) : Calls Tryz.prog 118 #[cv (r5 c),cv (r5 d)] w fun e w' => e = .returned (.bool (impliesK c.2 d.2)) ∧ Below w.heap.size w w' := by
 obtain ⟨n1,k1⟩ := c
 obtain ⟨n2,k2⟩ := d
 cases k1 <;> cases k2
 ·exact imp_rr _ _ _ _ _ _ _
 ·exact imp_rt _ _ _ _ _ _
 ·exact imp_rp _ _ _ _ _ _
 ·exact imp_tr _ _ _ _ _ _
 ·exact imp_tt _ _ _ _ _
 ·exact imp_tp _ _ _ _ _
 ·exact imp_pr _ _ _ _ _ _
 ·exact imp_pt _ _ _ _ _
 ·exact imp_pp _ _ _ _ _
end Go.Proofs.YtncogjpmboglhaaGreat.Rl
