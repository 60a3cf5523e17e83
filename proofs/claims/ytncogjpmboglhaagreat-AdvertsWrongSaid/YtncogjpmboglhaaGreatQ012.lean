/-
  Rows of one's own, while memory grows and one cell is written. Conditions as told.
-/
import Derived.Test.YtncogjpmboglhaaGreatQ006
import Derived.Test.YtncogjpmboglhaaGreatQ011
import Derived.Shelf.Slices.In.SortNone
import Derived.Shelf.Sort.Plain
import Derived.Shelf.Slices.CompactI
import Derived.Shelf.Slices.SearchI
import Derived.Test.YtncogjpmboglhaaGreatProg
import Derived.Test.YtncogjpmboglhaaGreatQ004
import Derived.Lib.Bytealg
import Derived.WalkKit
import Derived.ProofKit
import Derived.OpenShut
import Derived.Carry
import Derived.ChangeMaps5
import Derived.ChangeArms
set_option maxRecDepth 100000
set_option maxHeartbeats 64000000
namespace Go.Proofs.YtncogjpmboglhaaGreat.Bk
open Go.RowKit Rw
theorem own_fewer {α : Type} {E : Ek α} {W : World} {B C : Nat} {v : Value} {l : List α} (h : Own E W B v l) (hc : C ≤ B) : Own E W C v l := by
 refine ⟨h.1,?_⟩
 rcases h.2 with h2 | ⟨g,cap,cur,h1,h2,h3⟩
 ·exact Or.inl h2
 ·exact Or.inr ⟨g,cap,cur,h1,Nat.le_trans hc h2,h3⟩
theorem own_on {α : Type} {E : Ek α} {W W' : World} {B : Nat} {v : Value} {l : List α} (h : Own E W B v l) (hb : Below W.heap.size W W') : Own E W' B v l :=
 h.kept (w' := W') (row := none) ⟨hb.os,hb.tape,hb.output,hb.size,fun k hk _ => hb.block k hk⟩ (by cases v.ownBlock <;> simp)
theorem own_cell {α : Type} {E : Ek α} {W : World} {B : Nat} {v : Value} {l : List α} (h : Own E W B v l) (b k : Nat) (x : Value) (hb : b < B) : Own E (W.setCell ⟨b,k,none⟩ x) B v l :=
 h.kept (w' := W.setCell ⟨b,k,none⟩ x) (row := some b) ⟨rfl,rfl,rfl,by simp [World.setCell],fun j _ hne => RowKit.Below.heap_setCell _ _ _ _ (fun e => hne (by rw [e]))⟩ (by
  cases hv : v.ownBlock with
  | none => exact Or.inl rfl
  | some j =>
   refine Or.inr fun e => ?_
   injection e with e
   have h1 := (h.lt j hv).1
   omega)
theorem add_one (x y : Operand) (t : TypeId) (w : World) (k : Nat) (hk : k ≤ 900) : (do eqGuard .add t x y (.int .i64 k) (.int .i64 1); binOp .add t (.int .i64 k) (.int .i64 1) : Sem Value).run Tryz.prog w = .ok (.int .i64 ((k : Int) + 1)) w := by
 have h : IntKind.i64.wrap ((k : Int) + 1) = (k : Int) + 1 := IntWalk.i64_in _ (by omega)
 simp [eqGuard,binOp,Op.intArith,go_sem,h]
theorem box_set {W : World} {rb k : Nat} {cs : Array Value} {t : TypeId} (h : Box W rb cs t) (x : Value) : Box (W.setCell ⟨rb,k,none⟩ x) rb (cs.setIfInBounds k x) t := heap_setCell_same W rb k cs t x h
end Go.Proofs.YtncogjpmboglhaaGreat.Bk
namespace Go.Proofs
open Go.Shelf
def Tryz.sortI_ren : Go.Shelf.Ren := ⟨fun | 189 => 66 | 125 => 112 | 257 => 111 | 128 => 147 | 129 => 148 | 294 => 138 | 295 => 139 | 296 => 140 | 297 => 141 | 298 => 142 | 299 => 143 | 216 => 144 | 300 => 145 | 301 => 146 | 328 => 160 | 329 => 161 | 330 => 162 | 331 => 163 | 332 => 164 | 215 => 103 | 343 => 169 | n => n,fun | 28 => 25 | 3 => 3 | 46 => 157 | 0 => 0 | 51 => 187 | 53 => 189 | 4 => 4 | 183 => 180 | 182 => 179 | 131 => 123 | 5 => 5 | 9 => 9 | 218 => 202 | 222 => 206 | 228 => 209 | 229 => 210 | n => n,fun | n => n⟩
theorem Tryz.sortI : Go.Proofs.Lays.n189 Tryz.prog Tryz.sortI_ren := {
 mixed := by kernel_rfl
 f125 := Tryz.func112.trans (congrArg some (by kernel_rfl))
 f128 := Tryz.func147.trans (congrArg some (by kernel_rfl))
 f129 := Tryz.func148.trans (congrArg some (by kernel_rfl))
 f189 := Tryz.func66.trans (congrArg some (by kernel_rfl))
 f215 := Tryz.func103.trans (congrArg some (by kernel_rfl))
 f216 := Tryz.func144.trans (congrArg some (by kernel_rfl))
 f257 := Tryz.func111.trans (congrArg some (by kernel_rfl))
 f294 := Tryz.func138.trans (congrArg some (by kernel_rfl))
 f295 := Tryz.func139.trans (congrArg some (by kernel_rfl))
 f296 := Tryz.func140.trans (congrArg some (by kernel_rfl))
 f297 := Tryz.func141.trans (congrArg some (by kernel_rfl))
 f298 := Tryz.func142.trans (congrArg some (by kernel_rfl))
 f299 := Tryz.func143.trans (congrArg some (by kernel_rfl))
 f300 := Tryz.func145.trans (congrArg some (by kernel_rfl))
 f301 := Tryz.func146.trans (congrArg some (by kernel_rfl))
 f328 := Tryz.func160.trans (congrArg some (by kernel_rfl))
 f329 := Tryz.func161.trans (congrArg some (by kernel_rfl))
 f330 := Tryz.func162.trans (congrArg some (by kernel_rfl))
 f331 := Tryz.func163.trans (congrArg some (by kernel_rfl))
 f332 := Tryz.func164.trans (congrArg some (by kernel_rfl))
 f343 := Tryz.func169.trans (congrArg some (by kernel_rfl))
 t0 := Tryz.underlying0
 a0 := Tryz.isAgg0
 z0 := Tryz.sizeOf0
 v0 := Tryz.zeroValue0
 t3 := Tryz.underlying3
 a3 := Tryz.isAgg3
 z3 := Tryz.sizeOf3
 v3 := Tryz.zeroValue3
 t4 := Tryz.underlying4
 a4 := Tryz.isAgg4
 z4 := Tryz.sizeOf4
 v4 := Tryz.zeroValue4
 t5 := Tryz.underlying5
 a5 := Tryz.isAgg5
 z5 := Tryz.sizeOf5
 v5 := Tryz.zeroValue5
 t9 := Tryz.underlying9
 a9 := Tryz.isAgg9
 z9 := Tryz.sizeOf9
 v9 := Tryz.zeroValue9
 t28 := Tryz.underlying25
 a28 := Tryz.isAgg25
 z28 := Tryz.sizeOf25
 v28 := Tryz.zeroValue25
 t46 := Tryz.underlying157
 a46 := Tryz.isAgg157
 z46 := Tryz.sizeOf157
 v46 := Tryz.zeroValue157
 t51 := Tryz.underlying187
 a51 := Tryz.isAgg187
 z51 := Tryz.sizeOf187
 v51 := Tryz.zeroValue187
 t53 := Tryz.underlying189
 a53 := Tryz.isAgg189
 z53 := Tryz.sizeOf189
 v53 := Tryz.zeroValue189
 t131 := Tryz.underlying123
 a131 := Tryz.isAgg123
 z131 := Tryz.sizeOf123
 v131 := Tryz.zeroValue123
 t182 := Tryz.underlying179
 a182 := Tryz.isAgg179
 z182 := Tryz.sizeOf179
 v182 := Tryz.zeroValue179
 t183 := Tryz.underlying180
 a183 := Tryz.isAgg180
 z183 := Tryz.sizeOf180
 v183 := Tryz.zeroValue180
 t218 := Tryz.underlying202
 a218 := Tryz.isAgg202
 z218 := Tryz.sizeOf202
 v218 := Tryz.zeroValue202
 t222 := Tryz.underlying206
 a222 := Tryz.isAgg206
 z222 := Tryz.sizeOf206
 v222 := Tryz.zeroValue206
 t228 := Tryz.underlying209
 a228 := Tryz.isAgg209
 z228 := Tryz.sizeOf209
 v228 := Tryz.zeroValue209
 t229 := Tryz.underlying210
 a229 := Tryz.isAgg210
 z229 := Tryz.sizeOf210
 v229 := Tryz.zeroValue210 }
def Tryz.cptI_ren : Go.Shelf.Ren := ⟨fun | 20 => 67 | n => n,fun | 0 => 0 | 3 => 3 | 4 => 4 | 22 => 25 | n => n,fun | n => n⟩
theorem Tryz.cptI : Go.Proofs.Lays2.n20 Tryz.prog Tryz.cptI_ren := {
 mixed := by kernel_rfl
 i3 := by kernel_rfl
 f20 := Tryz.func67.trans (congrArg some (by kernel_rfl))
 t0 := Tryz.underlying0
 a0 := Tryz.isAgg0
 z0 := Tryz.sizeOf0
 v0 := Tryz.zeroValue0
 t3 := Tryz.underlying3
 a3 := Tryz.isAgg3
 z3 := Tryz.sizeOf3
 v3 := Tryz.zeroValue3
 t4 := Tryz.underlying4
 a4 := Tryz.isAgg4
 z4 := Tryz.sizeOf4
 v4 := Tryz.zeroValue4
 t22 := Tryz.underlying25
 a22 := Tryz.isAgg25
 z22 := Tryz.sizeOf25
 v22 := Tryz.zeroValue25 }
def Tryz.bsI_ren : Go.Shelf.Ren := ⟨fun | 25 => 134 | 31 => 144 | 32 => 159 | 37 => 103 | n => n,fun | 0 => 0 | 3 => 3 | 4 => 4 | 22 => 25 | 40 => 157 | n => n,fun | n => n⟩
theorem Tryz.bsI : Go.Proofs.Lays2.n25 Tryz.prog Tryz.bsI_ren := {
 mixed := by kernel_rfl
 f25 := Tryz.func134.trans (congrArg some (by kernel_rfl))
 f31 := Tryz.func144.trans (congrArg some (by kernel_rfl))
 f32 := Tryz.func159.trans (congrArg some (by kernel_rfl))
 f37 := Tryz.func103.trans (congrArg some (by kernel_rfl))
 t0 := Tryz.underlying0
 a0 := Tryz.isAgg0
 z0 := Tryz.sizeOf0
 v0 := Tryz.zeroValue0
 t3 := Tryz.underlying3
 a3 := Tryz.isAgg3
 z3 := Tryz.sizeOf3
 v3 := Tryz.zeroValue3
 t4 := Tryz.underlying4
 a4 := Tryz.isAgg4
 z4 := Tryz.sizeOf4
 v4 := Tryz.zeroValue4
 t22 := Tryz.underlying25
 a22 := Tryz.isAgg25
 z22 := Tryz.sizeOf25
 v22 := Tryz.zeroValue25
 t40 := Tryz.underlying157
 a40 := Tryz.isAgg157
 z40 := Tryz.sizeOf157
 v40 := Tryz.zeroValue157 }
end Go.Proofs
namespace Go.Proofs.YtncogjpmboglhaaGreat.Rl
open Go.RowKit Pu Pr
def has (m : List Cn) (n : ByteArray) : Bool := m.any fun x => decide (x.1 = n)
def meetsB (a b : List Cn) : Bool := match foldC a.length a b with
 | .ok _ => true
 | .error _ => false
theorem ins_length : ∀ (m : List Cn) (c : Cn) (m' : List Cn),RiseC m → insC m c = some m' → m'.length = m.length + (if has m c.1 then 0 else 1)
 | [],c,m',_,h => by
  obtain rfl := Option.some.inj h
  rfl
 | x :: r,c,m',hr,h => by
  obtain ⟨h1,h2⟩ := List.pairwise_cons.1 hr
  simp only [insC] at h
  split at h
  ·rename_i hl
   cases hi : insC r c with
   | none => rw [hi] at h; cases h
   | some n =>
    rw [hi] at h
    obtain rfl := Option.some.inj h
    have e := ins_length r c n h2 hi
    have hx : has (x :: r) c.1 = has r c.1 := by simp [has,less_ne hl]
    rw [hx]
    simp only [List.length_cons]
    omega
  ·rename_i hl
   split at h
   ·rename_i he
    cases hb : bothK x.2 c.2 with
    | none => rw [hb] at h; cases h
    | some k =>
     rw [hb] at h
     obtain rfl := Option.some.inj h
     have hx : has (x :: r) c.1 = true := by simp [has,he]
     rw [hx]
     rfl
   ·rename_i he
    obtain rfl := Option.some.inj h
    have hx : has (x :: r) c.1 = false := by
     simp only [has,List.any_cons,Bool.or_eq_false_iff,decide_eq_false_iff_not,List.any_eq_false,decide_eq_true_eq]
     refine ⟨he,fun y hy e => ?_⟩
     have h3 := h1 y hy
     rw [e] at h3
     exact hl h3
    rw [hx]
    rfl
/-! ### match -/
/-! ### cover -/
def impliesK : Kd → Kd → Bool
 | .rg p q,.rg r s => decide (r ≤ p) && decide (q ≤ s)
 | .tx s,.tx t => s.data.toList == t.data.toList
 | .tx s,.pr t => pfx t s
 | .pr s,.pr t => pfx t s
 | _,_ => false
def coversL (a b : List Cn) : Bool := a.all fun x => b.any fun y => decide (y.1 = x.1) && impliesK y.2 x.2
end Go.Proofs.YtncogjpmboglhaaGreat.Rl
namespace Go.Proofs.YtncogjpmboglhaaGreat.Pr
open Go.RowKit Pu
def cntC : List Cn → ByteArray → Nat
 | [],_ => 0
 | x :: r,n => if Op.bytesLess x.1.toList n.toList = true then cntC r n + 1 else 0
theorem cntC_le : ∀ l n,cntC l n ≤ l.length
 | [],n => Nat.le_refl _
 | x :: r,n => by
  have := cntC_le r n
  simp only [cntC]
  split <;> simp; omega
def thereC (l : List Cn) (n : ByteArray) : Bool := match l[cntC l n]? with
 | some x => decide (x.1 = n)
 | none => false
def putC (m : List Cn) (c : Cn) : Option (List Cn) := match m[cntC m c.1]? with
 | some x => if x.1 = c.1 then (bothK x.2 c.2).map fun k => m.set (cntC m c.1) (x.1,k) else some (m.take (cntC m c.1) ++ c :: m.drop (cntC m c.1))
 | none => some (m.take (cntC m c.1) ++ c :: m.drop (cntC m c.1))
theorem insC_at : ∀ (m : List Cn) (c : Cn),insC m c = putC m c
 | [],c => rfl
 | x :: r,c => by
  unfold putC
  simp only [insC,cntC]
  split
  ·rw [insC_at r c,putC]
   simp only [List.getElem?_cons_succ,List.take_succ_cons,List.drop_succ_cons,List.set_cons_succ]
   cases h : r[cntC r c.1]? with
   | none => simp
   | some y =>
    simp only
    split
    ·simp [Option.map_map,Function.comp_def]
    ·simp
  ·simp
theorem ins_there {m : List Cn} {c : Cn} (h : thereC m c.1 = true) : ∃ x,m[cntC m c.1]? = some x ∧ x.1 = c.1 ∧ insC m c = (bothK x.2 c.2).map fun k => m.set (cntC m c.1) (x.1,k) := by
 rw [insC_at]
 unfold thereC at h
 unfold putC
 cases hx : m[cntC m c.1]? with
 | none => rw [hx] at h; cases h
 | some x =>
  rw [hx] at h
  have e : x.1 = c.1 := by simpa using h
  exact ⟨x,rfl,e,by simp only; rw [if_pos e]⟩
theorem ins_not {m : List Cn} {c : Cn} (h : thereC m c.1 = false) : insC m c = some (m.take (cntC m c.1) ++ c :: m.drop (cntC m c.1)) := by
 rw [insC_at]
 unfold thereC at h
 unfold putC
 cases hx : m[cntC m c.1]? with
 | none => rfl
 | some x =>
  rw [hx] at h
  have e : ¬ x.1 = c.1 := by simpa using h
  simp only
  rw [if_neg e]
end Go.Proofs.YtncogjpmboglhaaGreat.Pr
namespace Go.Proofs.YtncogjpmboglhaaGreat.Ar
open Go.ChangeShapes Go.WideShapes Go.RowKit
def readable (P : Program) (ts : List TypeId) : Bool := ts.all fun t => P.readableRec t && decide (t < P.types.size)
theorem carry {H : Type} {enc : TypeId × Value → H} {P : Program} (hl : laidOutB P = true) {W W' : World} (hb : Below W.heap.size W W') :
  ∀ (ts : List TypeId) (vs : List Value) (ds : List (DataW H)) (ps : List MemPlace),readable P ts = true → DataW.TrodAll enc P W 0 (fun _ => true) true ts vs ds ps → (∀ x ∈ ps,x.block < W.heap.size) →
   DataW.TrodAll enc P W' 0 (fun b => decide (b < W.heap.size)) true ts vs ds ps
 | [],vs,ds,ps,_,h,_ => by
  obtain ⟨rfl,rfl,rfl⟩ := trodAll_nil h
  exact trodAll_mk0
 | t :: ts,vs,ds,ps,hr,h,hlt => by
  obtain ⟨v,vs',d,ds',p,q,rfl,rfl,rfl,h1,h2⟩ := trodAll_cons h
  simp only [readable,List.all_cons,Bool.and_eq_true,decide_eq_true_eq] at hr
  exact trodAll_cons_mk (Below.trod hl hr.1.1 hr.1.2 h1 hb (fun x hx => hlt x (List.mem_append_left _ hx)))
   (carry hl hb ts vs' ds' q hr.2 h2 (fun x hx => hlt x (List.mem_append_right _ hx)))
end Go.Proofs.YtncogjpmboglhaaGreat.Ar
