/-
  slices.Sort, slices.Compact, slices.BinarySearch of numbers, as the li. Conditions as told.
-/
import Derived.Shelf.Slices.In.SortNone
import Derived.Shelf.Sort.Plain
import Derived.Shelf.Slices.CompactI
import Derived.Shelf.Slices.SearchI
import Derived.Test.YtmklifheakemeaaGreatProg
import Derived.Test.YtmklifheakemeaaGreatfr005
import Derived.Test.YtmklifheakemeaaGreatfr007
import Derived.Lib.Hide
import Derived.Lib.QuietBelow
import Derived.BigQuiet
import Derived.Test.YtmklifheakemeaaGreatfr001
import Derived.WalkKit
import Derived.ProofKit
import Derived.OpenShut
import Derived.Carry
import Derived.ChangeMaps5
import Derived.ChangeArms
set_option maxRecDepth 100000
set_option maxHeartbeats 64000000
namespace Go.Proofs
open Go.Shelf
def Tryz.sortI_ren : Go.Shelf.Ren := ⟨fun | 189 => 33 | 125 => 90 | 257 => 89 | 128 => 138 | 129 => 139 | 294 => 129 | 295 => 130 | 296 => 131 | 297 => 132 | 298 => 133 | 299 => 134 | 216 => 135 | 300 => 136 | 301 => 137 | 328 => 161 | 329 => 162 | 330 => 163 | 331 => 164 | 332 => 165 | 215 => 111 | 343 => 182 | n => n,fun | 28 => 22 | 3 => 3 | 46 => 139 | 0 => 0 | 51 => 183 | 53 => 185 | 4 => 4 | 183 => 176 | 182 => 175 | 131 => 126 | 5 => 5 | 9 => 9 | 218 => 209 | 222 => 213 | 228 => 229 | 229 => 230 | n => n,fun | n => n⟩
theorem Tryz.sortI : Go.Proofs.Lays.n189 Tryz.prog Tryz.sortI_ren := {
 mixed := by kernel_rfl
 f125 := Tryz.func90.trans (congrArg some (by kernel_rfl))
 f128 := Tryz.func138.trans (congrArg some (by kernel_rfl))
 f129 := Tryz.func139.trans (congrArg some (by kernel_rfl))
 f189 := Tryz.func33.trans (congrArg some (by kernel_rfl))
 f215 := Tryz.func111.trans (congrArg some (by kernel_rfl))
 f216 := Tryz.func135.trans (congrArg some (by kernel_rfl))
 f257 := Tryz.func89.trans (congrArg some (by kernel_rfl))
 f294 := Tryz.func129.trans (congrArg some (by kernel_rfl))
 f295 := Tryz.func130.trans (congrArg some (by kernel_rfl))
 f296 := Tryz.func131.trans (congrArg some (by kernel_rfl))
 f297 := Tryz.func132.trans (congrArg some (by kernel_rfl))
 f298 := Tryz.func133.trans (congrArg some (by kernel_rfl))
 f299 := Tryz.func134.trans (congrArg some (by kernel_rfl))
 f300 := Tryz.func136.trans (congrArg some (by kernel_rfl))
 f301 := Tryz.func137.trans (congrArg some (by kernel_rfl))
 f328 := Tryz.func161.trans (congrArg some (by kernel_rfl))
 f329 := Tryz.func162.trans (congrArg some (by kernel_rfl))
 f330 := Tryz.func163.trans (congrArg some (by kernel_rfl))
 f331 := Tryz.func164.trans (congrArg some (by kernel_rfl))
 f332 := Tryz.func165.trans (congrArg some (by kernel_rfl))
 f343 := Tryz.func182.trans (congrArg some (by kernel_rfl))
 t0 := Tryz.underlying0
 a0 := Tryz.isAgg0
 z0 := Tryz.sizeOf0
 v0 := Tryz.zeroValue0
 t3 := Tryz.underlying3
 a3 := Tryz.isAgg3
 z3 := Tryz.sizeOf3
 v3 := Tryz.zeroValue3
 t4 := Tryz.underlying4
 a4 := Tryz.isAgg4
 z4 := Tryz.sizeOf4
 v4 := Tryz.zeroValue4
 t5 := Tryz.underlying5
 a5 := Tryz.isAgg5
 z5 := Tryz.sizeOf5
 v5 := Tryz.zeroValue5
 t9 := Tryz.underlying9
 a9 := Tryz.isAgg9
 z9 := Tryz.sizeOf9
 v9 := Tryz.zeroValue9
 t28 := Tryz.underlying22
 a28 := Tryz.isAgg22
 z28 := Tryz.sizeOf22
 v28 := Tryz.zeroValue22
 t46 := Tryz.underlying139
 a46 := Tryz.isAgg139
 z46 := Tryz.sizeOf139
 v46 := Tryz.zeroValue139
 t51 := Tryz.underlying183
 a51 := Tryz.isAgg183
 z51 := Tryz.sizeOf183
 v51 := Tryz.zeroValue183
 t53 := Tryz.underlying185
 a53 := Tryz.isAgg185
 z53 := Tryz.sizeOf185
 v53 := Tryz.zeroValue185
 t131 := Tryz.underlying126
 a131 := Tryz.isAgg126
 z131 := Tryz.sizeOf126
 v131 := Tryz.zeroValue126
 t182 := Tryz.underlying175
 a182 := Tryz.isAgg175
 z182 := Tryz.sizeOf175
 v182 := Tryz.zeroValue175
 t183 := Tryz.underlying176
 a183 := Tryz.isAgg176
 z183 := Tryz.sizeOf176
 v183 := Tryz.zeroValue176
 t218 := Tryz.underlying209
 a218 := Tryz.isAgg209
 z218 := Tryz.sizeOf209
 v218 := Tryz.zeroValue209
 t222 := Tryz.underlying213
 a222 := Tryz.isAgg213
 z222 := Tryz.sizeOf213
 v222 := Tryz.zeroValue213
 t228 := Tryz.underlying229
 a228 := Tryz.isAgg229
 z228 := Tryz.sizeOf229
 v228 := Tryz.zeroValue229
 t229 := Tryz.underlying230
 a229 := Tryz.isAgg230
 z229 := Tryz.sizeOf230
 v229 := Tryz.zeroValue230 }
def Tryz.cptI_ren : Go.Shelf.Ren := ⟨fun | 20 => 34 | n => n,fun | 0 => 0 | 3 => 3 | 4 => 4 | 22 => 22 | n => n,fun | n => n⟩
theorem Tryz.cptI : Go.Proofs.Lays2.n20 Tryz.prog Tryz.cptI_ren := {
 mixed := by kernel_rfl
 i3 := by kernel_rfl
 f20 := Tryz.func34.trans (congrArg some (by kernel_rfl))
 t0 := Tryz.underlying0
 a0 := Tryz.isAgg0
 z0 := Tryz.sizeOf0
 v0 := Tryz.zeroValue0
 t3 := Tryz.underlying3
 a3 := Tryz.isAgg3
 z3 := Tryz.sizeOf3
 v3 := Tryz.zeroValue3
 t4 := Tryz.underlying4
 a4 := Tryz.isAgg4
 z4 := Tryz.sizeOf4
 v4 := Tryz.zeroValue4
 t22 := Tryz.underlying22
 a22 := Tryz.isAgg22
 z22 := Tryz.sizeOf22
 v22 := Tryz.zeroValue22 }
def Tryz.bsI_ren : Go.Shelf.Ren := ⟨fun | 25 => 154 | 31 => 135 | 32 => 175 | 37 => 111 | n => n,fun | 0 => 0 | 3 => 3 | 4 => 4 | 22 => 22 | 40 => 139 | n => n,fun | n => n⟩
theorem Tryz.bsI : Go.Proofs.Lays2.n25 Tryz.prog Tryz.bsI_ren := {
 mixed := by kernel_rfl
 f25 := Tryz.func154.trans (congrArg some (by kernel_rfl))
 f31 := Tryz.func135.trans (congrArg some (by kernel_rfl))
 f32 := Tryz.func175.trans (congrArg some (by kernel_rfl))
 f37 := Tryz.func111.trans (congrArg some (by kernel_rfl))
 t0 := Tryz.underlying0
 a0 := Tryz.isAgg0
 z0 := Tryz.sizeOf0
 v0 := Tryz.zeroValue0
 t3 := Tryz.underlying3
 a3 := Tryz.isAgg3
 z3 := Tryz.sizeOf3
 v3 := Tryz.zeroValue3
 t4 := Tryz.underlying4
 a4 := Tryz.isAgg4
 z4 := Tryz.sizeOf4
 v4 := Tryz.zeroValue4
 t22 := Tryz.underlying22
 a22 := Tryz.isAgg22
 z22 := Tryz.sizeOf22
 v22 := Tryz.zeroValue22
 t40 := Tryz.underlying139
 a40 := Tryz.isAgg139
 z40 := Tryz.sizeOf139
 v40 := Tryz.zeroValue139 }
end Go.Proofs
namespace Go.Proofs.YtmklifheakemeaaGreat.Pr
open Go.RowKit Go.Sort Pu Rw Va
end Go.Proofs.YtmklifheakemeaaGreat.Pr
namespace Go.Proofs.YtmklifheakemeaaGreat.Pr
open Go.RowKit Go.Sort Pu Rw
theorem row_box {W : World} {b : Nat} {c : C5} (h : Box W b (cells5 c).toArray 70) : RowC W (.slice (some ⟨b,0,none⟩) 1 1) [c] :=
 Or.inr ⟨⟨b,0,none⟩,1,rfl,by simp,by decide,box_one h (by simp [EC])⟩
def InsQ (B : Nat) (l : List C5) (k : Nat) (c : C5) (W : World) (e : Ending) (w' : World) : Prop := ∃ v',e = .returned v' ∧ OwnC w' B v' (l.take k ++ c :: l.drop k) ∧ Below B W w'
theorem insert_end (B : Nat) (v : Value) (l : List C5) (c : C5) (b : Nat) (W : World) (ho : OwnC W B v l) (hx : Box W b (cells5 c).toArray 70) (hl : l.length ≤ 100) (hB : B ≤ W.heap.size) :
  Calls Tryz.prog 180 #[v,.int .i64 (l.length : Nat),.slice (some ⟨b,0,none⟩) 1 1] W (InsQ B l l.length c W) := by
 obtain ⟨v',w',hr,ho2,hg⟩ := appC B ho (row_box hx) (by omega) (by simp) hB
 have Q := Lib.hid (show InsQ B l l.length c W (.returned v') w' from ⟨v',rfl,by rw [List.take_of_length_le (Nat.le_refl _),List.drop_of_length_le (Nat.le_refl _)]; exact ho2,(Below.refl B W).grown hg hB (fun j hj => (ho.lt j hj).1)⟩)
 obtain ⟨sx,hs,_⟩ := hiC (Row.of_own ho) l.length (Nat.le_refl _)
 obtain ⟨ao,ac,rfl⟩ := (Row.of_own ho).len
 clear ho ho2 hg
 generalize hn : l.length = n at *
 clear hn
 go_enter Tryz.func180,Tryz.ntmps180
 go_wp2_with (first | (at_builtin; refine wpList_append_run rfl _ _ 32 rfl rfl rfl hr ?_) | fail)
 go_ret
 exact Q.out
theorem no_over (w : World) (g b k la lb cb : Nat) (cur cs : Array Value) (hb : Box w b cs 70) (hg : Box w g cur 70) (hne : b ≠ g) (h0 : 0 < cur.size) : (callFunc 187 #[.slice (some ⟨b,0,none⟩) la 1,.slice (some ⟨g,k,none⟩) lb cb]).run Tryz.prog w = .ok (.value (.bool false)) w := by
 rw [run_callFunc_extern Tryz.func187 (by kernel_rfl) (by kernel_rfl) (by kernel_rfl) (e := Extern.SlicesOverlaps.overlaps #[32,32] #[4]) (by kernel_rfl),
  Lib.run_overlaps_apart w 32 4 70 Tryz.underlying32 5 Tryz.sizeOf70 ⟨b,0,none⟩ ⟨g,k,none⟩ la 1 lb cb hne 70 70 cs.size cur.size hb.shape hg.shape (by omega) (hb.fr 0) (hb.fr _)]
 rfl
theorem insert_shift (B g n cap : Nat) (cur : Array Value) (l : List C5) (k : Nat) (c : C5) (b : Nat) (W : World) (hn : n = l.length) (hBg : B ≤ g) (hg : Box W g cur 70) (hcm : cap ≤ maxLen) (hsz : cur.size = cap * 5) (ht : cur.toList.take (n * 5) = flat EC l) (hx : Box W b (cells5 c).toArray 70) (hne : b ≠ g) (hk : k < n) (hroom : n + 1 ≤ cap) (hl : n ≤ 100) :
  Calls Tryz.prog 180 #[.slice (some ⟨g,0,none⟩) n cap,.int .i64 k,.slice (some ⟨b,0,none⟩) 1 1] W (InsQ B l k c W) := by
 obtain ⟨R1,R2,r1,r2,ow⟩ := shift_mid (E := EC) (l := l) (k := k) (cap := cap) (cur := cur) (cs := (cells5 c).toArray) (c := c) okC (by omega) (by omega) hsz (by rw [← hn]; exact ht) g b hne
 have hov := fun lb cb => no_over W g b ((k + 1) * 5) 1 lb cb cur (cells5 c).toArray hx hg hne (by omega)
 have s0 := cut_hi (E := EC) okC g k n cap (by omega) (by omega)
 have s1 := slice_lo (E := EC) okC ⟨g,0,none⟩ (n + 1) n cap (by omega)
 have s2 := cut_hi (E := EC) okC g (k + 1) (n + 1) cap (by omega) (by omega)
 have s3 := cut_hi (E := EC) okC g k (n + 1) cap (by omega) (by omega)
 have q1 := r1 W.drew 3 (n + 1 - (k + 1)) (cap - (k + 1)) (n + 1 - k) (cap - k) hg (by omega)
 have q2 := r2 (W.drew.setRow g R1) 3 (n + 1 - k) (cap - k) (Box.set (show Box W.drew g cur 70 from hg) R1) (Box.other (show Box W.drew b _ 70 from hx) hne R1) rfl (by omega)
 have Q := Lib.hid (show InsQ B l k c W (.returned (.slice (some ⟨g,0,none⟩) (n + 1) cap)) ((W.drew.setRow g R1).setRow g R2) from ⟨_,rfl,by rw [hn]; exact ow _ B hBg hcm (Box.set (Box.set (show Box W.drew g cur 70 from hg) R1) R2),below_setRow (below_setRow (Below.refl B W).drew hBg _) hBg _⟩)
 clear r1 r2 ow hg ht hx hsz hBg hcm
 change ∀ w,(Instr.sliceAt 32 (.slice (some ⟨g,0,none⟩) n cap) (some (.int .i64 k)) none none).run Tryz.prog w = .ok (.slice (some ⟨g,k * 5,none⟩) (n - k) (cap - k)) w at s0
 change ∀ w,(Instr.sliceAt 32 (.slice (some ⟨g,0,none⟩) n cap) none (some (.int .i64 ((n : Int) + 1))) none).run Tryz.prog w = .ok (.slice (some ⟨g,0,none⟩) (n + 1) cap) w at s1
 change ∀ w,(Instr.sliceAt 32 (.slice (some ⟨g,0,none⟩) (n + 1) cap) (some (.int .i64 ((k : Int) + 1))) none none).run Tryz.prog w = .ok (.slice (some ⟨g,(k + 1) * 5,none⟩) (n + 1 - (k + 1)) (cap - (k + 1))) w at s2
 change ∀ w,(Instr.sliceAt 32 (.slice (some ⟨g,0,none⟩) (n + 1) cap) (some (.int .i64 k)) none none).run Tryz.prog w = .ok (.slice (some ⟨g,k * 5,none⟩) (n + 1 - k) (cap - k)) w at s3
 have e1 : ((k : Int) == (n : Int)) = false := by rw [beq_eq_false_iff_ne]; omega
 have e2 : decide ((cap : Int) < (n : Int) + 1) = false := by simp; omega
 change (Builtin.copy_ #[32,32] 3 #[.slice (some ⟨g,(k + 1) * 5,none⟩) (n + 1 - (k + 1)) (cap - (k + 1)),.slice (some ⟨g,k * 5,none⟩) (n + 1 - k) (cap - k)]).run Tryz.prog W.drew = .ok (.int .i64 ((l.length - k : Nat) : Int)) (W.drew.setRow g R1) at q1
 change (Builtin.copy_ #[32,32] 3 #[.slice (some ⟨g,k * 5,none⟩) (n + 1 - k) (cap - k),.slice (some ⟨b,0,none⟩) 1 1]).run Tryz.prog (W.drew.setRow g R1) = .ok (.int .i64 1) ((W.drew.setRow g R1).setRow g R2) at q2
 clear hn
 go_enter Tryz.func180,Tryz.ntmps180
 go_wp2_with (first | (simp only [hov]) | fail)
 clear hov s0 s1 s2 s3
 have hw1 : IntKind.i64.wrap ((k : Int) + 1) = (k : Int) + 1 := by rw [IntKind.wrap_i64]; omega
 have hb1 : (0 : Int) ≤ (k : Int) + 1 := by omega
 have hb0 : (k : Int) + 1 ≤ (n : Int) + 1 := by omega
 have htn : ((k : Int) + 1).toNat = k + 1 := by omega
 have hb2 : ¬ (cap = k + 1) := by omega
 have hb3 : (k : Int) ≤ (n : Int) + 1 := by omega
 have hb4 : ¬ (cap = k) := by omega
 have h81 : n + 1 - (k + 1) = n - k := by omega
 rw [h81] at q1
 clear h81
 go_region_law (refine step_copy_run rfl (.tmp 73) (.tmp 76) 32 rfl (v := .slice (some ⟨g,(k + 1) * 5,none⟩) (n - k) (cap - (k + 1))) (xv := .slice (some ⟨g,k * 5,none⟩) (n + 1 - k) (cap - k)) (by simp [Act.eval,Act.put]) (by simp [Act.eval,Act.put]) q1 ?_)
 all_goals simp only [Exit.then]
 all_goals apply_assumption
 clear q1 hw1 hb1 hb0 htn hb2 hb3 hb4
 have s3 := cut_hi (E := EC) okC g k (n + 1) cap (by omega) (by omega)
 change ∀ w,(Instr.sliceAt 32 (.slice (some ⟨g,0,none⟩) (n + 1) cap) (some (.int .i64 k)) none none).run Tryz.prog w = .ok (.slice (some ⟨g,k * 5,none⟩) (n + 1 - k) (cap - k)) w at s3
 go_wp2_with (first | (at_builtin; refine wpList_copy_run rfl _ _ 32 rfl rfl rfl q2 ?_) | fail)
 go_ret
 exact Q.out
theorem insert_grow (B g n cap : Nat) (cur : Array Value) (l : List C5) (k : Nat) (c : C5) (b : Nat) (W : World) (hn : n = l.length) (hg : Box W g cur 70) (hcm : cap ≤ maxLen) (hnc : n ≤ cap) (ht : cur.toList.take (n * 5) = flat EC l) (hx : Box W b (cells5 c).toArray 70) (hk : k < n) (hroom : cap < n + 1) (hl : n ≤ 100) (hB : B ≤ W.heap.size) :
  Calls Tryz.prog 180 #[.slice (some ⟨g,0,none⟩) n cap,.int .i64 k,.slice (some ⟨b,0,none⟩) 1 1] W (InsQ B l k c W) := by
 have hgw := hg.lt
 have hbw := hx.lt
 obtain ⟨G,R1,R2,R3,hG1,hG2,r1,r2,r3,ow⟩ := grow_mid (E := EC) (l := l) (k := k) (cap := cap) (cur := cur) (cs := (cells5 c).toArray) (c := c) okC 3 Tryz.underlying3 (by omega) (by omega) (by omega) (by omega) (by rw [← hn]; exact ht) W g b hg hbw
 unfold maxLen at hcm hG2
 have s0 := cut_hi (E := EC) okC g k n cap (by omega) (by omega)
 have s1 := slice_lo (E := EC) okC ⟨g,0,none⟩ k n cap (by omega)
 have s2 := cut_hi (E := EC) okC W.heap.size k (n + 1) G (by omega) (by omega)
 have s3 := cut_hi (E := EC) okC W.heap.size (k + 1) (n + 1) G (by omega) (by omega)
 have a1 := r1 32
 have n1 := box_new W.drew R1 70
 have bl : W.drew.heap.size = W.heap.size := rfl
 rw [bl] at n1
 have g1 : Box (W.drew.alloc (.cells R1 70)) g cur 70 := Box.more (show Box W.drew g cur 70 from hg) _
 have x1 : Box (W.drew.alloc (.cells R1 70)) b (cells5 c).toArray 70 := Box.more (show Box W.drew b _ 70 from hx) _
 have q2 := r2 (W.drew.alloc (.cells R1 70)) 3 (n + 1 - k) (G - k) n1 x1 rfl (by omega)
 have q3 := r3 ((W.drew.alloc (.cells R1 70)).setRow W.heap.size R2).drew 3 (n + 1 - (k + 1)) (G - (k + 1)) (n - k) (cap - k) (Box.set n1 R2) (Box.other g1 (by omega) R2) (by omega)
 have Q := Lib.hid (show InsQ B l k c W (.returned (.slice (some ⟨W.heap.size,0,none⟩) (n + 1) G)) (((W.drew.alloc (.cells R1 70)).setRow W.heap.size R2).drew.setRow W.heap.size R3) from ⟨_,rfl,by rw [hn]; exact ow _ B hB (Box.set (Box.set n1 R2) R3),below_setRow (below_setRow ((Below.refl B W).drew.alloc hB _) hB _).drew hB _⟩)
 have l1 : l.length + 1 = n + 1 := by rw [hn]
 rw [l1,← hn] at a1
 clear r1 r2 r3 ow hg ht hx g1 x1 n1 bl l1
 change ∀ w,(Instr.sliceAt 32 (.slice (some ⟨g,0,none⟩) n cap) (some (.int .i64 k)) none none).run Tryz.prog w = .ok (.slice (some ⟨g,k * 5,none⟩) (n - k) (cap - k)) w at s0
 change ∀ w,(Instr.sliceAt 32 (.slice (some ⟨g,0,none⟩) n cap) none (some (.int .i64 k)) none).run Tryz.prog w = .ok (.slice (some ⟨g,0,none⟩) k cap) w at s1
 change ∀ w,(Instr.sliceAt 32 (.slice (some ⟨W.heap.size,0,none⟩) (n + 1) G) (some (.int .i64 k)) none none).run Tryz.prog w = .ok (.slice (some ⟨W.heap.size,k * 5,none⟩) (n + 1 - k) (G - k)) w at s2
 change ∀ w,(Instr.sliceAt 32 (.slice (some ⟨W.heap.size,0,none⟩) (n + 1) G) (some (.int .i64 ((k : Int) + 1))) none none).run Tryz.prog w = .ok (.slice (some ⟨W.heap.size,(k + 1) * 5,none⟩) (n + 1 - (k + 1)) (G - (k + 1))) w at s3
 change (Builtin.append_ #[32,3] 32 #[.slice (some ⟨g,0,none⟩) k cap,.int .i64 ((n : Int) + 1 - k)]).run Tryz.prog W = .ok (.slice (some ⟨W.heap.size,0,none⟩) (n + 1) G) (W.drew.alloc (.cells R1 70)) at a1
 change (Builtin.copy_ #[32,32] 3 #[.slice (some ⟨W.heap.size,k * 5,none⟩) (n + 1 - k) (G - k),.slice (some ⟨b,0,none⟩) 1 1]).run Tryz.prog (W.drew.alloc (.cells R1 70)) = .ok (.int .i64 1) ((W.drew.alloc (.cells R1 70)).setRow W.heap.size R2) at q2
 change (Builtin.copy_ #[32,32] 3 #[.slice (some ⟨W.heap.size,(k + 1) * 5,none⟩) (n + 1 - (k + 1)) (G - (k + 1)),.slice (some ⟨g,k * 5,none⟩) (n - k) (cap - k)]).run Tryz.prog ((W.drew.alloc (.cells R1 70)).setRow W.heap.size R2).drew = .ok (.int .i64 ((l.length - k : Nat) : Int)) (((W.drew.alloc (.cells R1 70)).setRow W.heap.size R2).drew.setRow W.heap.size R3) at q3
 have e1 : ((k : Int) == (n : Int)) = false := by rw [beq_eq_false_iff_ne]; omega
 have e2 : decide ((cap : Int) < (n : Int) + 1) = true := by simp; omega
 have hGn : n + 1 ≤ G := by omega
 clear hn
 generalize W.heap.size = N at *
 generalize W.drew.alloc (.cells R1 70) = W1 at *
 generalize W1.setRow N R2 = W2 at *
 go_enter Tryz.func180,Tryz.ntmps180
 go_wp2_with (first | (at_builtin; refine wpList_append_run2 rfl _ _ 32 3 rfl rfl rfl a1 ?_) | (at_builtin; refine wpList_copy_run rfl _ _ 32 rfl rfl rfl q2 ?_) | fail)
 clear a1 q2 s0 s1 s2 s3
 have hw1 : IntKind.i64.wrap ((k : Int) + 1) = (k : Int) + 1 := by rw [IntKind.wrap_i64]; omega
 have hb1 : (0 : Int) ≤ (k : Int) + 1 := by omega
 have hb0 : (k : Int) + 1 ≤ (n : Int) + 1 := by omega
 have htn : ((k : Int) + 1).toNat = k + 1 := by omega
 have hb2 : ¬ (G = k + 1) := by omega
 have hb3 : (k : Int) ≤ (n : Int) := by omega
 have hb4 : ¬ (cap = k) := by omega
 have h81 : n + 1 - (k + 1) = n - k := by omega
 rw [h81] at q3
 clear h81
 go_region_law (refine step_copy_run rfl (.tmp 50) (.tmp 53) 32 rfl (v := .slice (some ⟨N,(k + 1) * 5,none⟩) (n - k) (G - (k + 1))) (xv := .slice (some ⟨g,k * 5,none⟩) (n - k) (cap - k)) (by simp [Act.eval,Act.put]) (by simp [Act.eval,Act.put]) q3 ?_)
 all_goals simp only [Exit.then]
 all_goals apply_assumption
 go_wp2
 go_ret
 exact Q.out
theorem insert_any (B : Nat) (v : Value) (l : List C5) (k : Nat) (c : C5) (b : Nat) (W : World) (ho : OwnC W B v l) (hx : Box W b (cells5 c).toArray 70) (hne : v.ownBlock ≠ some b) (hk : k ≤ l.length) (hl : l.length ≤ 100) (hB : B ≤ W.heap.size) :
  Calls Tryz.prog 180 #[v,.int .i64 k,.slice (some ⟨b,0,none⟩) 1 1] W (InsQ B l k c W) := by
 rcases Nat.lt_or_ge k l.length with h | h
 ·rcases own_open ho with ⟨_,h2⟩ | ⟨g,cap,cur,rfl,h1,h2,h3,h4,h5,h6⟩
  ·rw [h2] at h; simp at h
  ·rcases Nat.lt_or_ge cap (l.length + 1) with h7 | h7
   ·exact insert_grow B g _ cap cur l k c b W rfl h2 h4 h3 h6 hx h h7 hl hB
   ·exact insert_shift B g _ cap cur l k c b W rfl h1 h2 h4 h5 h6 hx (fun e => hne (by simp [Value.ownBlock,e])) h h7 hl
 ·obtain rfl : k = l.length := by omega
  exact insert_end B v l c b W ho hx hl hB
end Go.Proofs.YtmklifheakemeaaGreat.Pr
namespace Go.Proofs.YtmklifheakemeaaGreat.Rg
open Go.RowKit
end Go.Proofs.YtmklifheakemeaaGreat.Rg
namespace Go.Proofs.YtmklifheakemeaaGreat.Ar
open Go.ChangeShapes Go.WideShapes Go.RowKit
end Go.Proofs.YtmklifheakemeaaGreat.Ar
