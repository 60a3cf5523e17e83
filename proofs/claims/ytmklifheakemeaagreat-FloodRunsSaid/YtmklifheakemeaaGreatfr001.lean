/-
  Numbers in memory, as lists. Conditions as told.
-/
import Derived.Test.YtmklifheakemeaaGreatfr000
import Derived.Lib.AppendZerosOnto
import Derived.Lib.Overlaps
import Derived.Deep.RegionLaw
import Derived.Laws.Externs
import Derived.Test.YtmklifheakemeaaGreatProg
import Derived.WalkKit
import Derived.Orders
import Derived.Laws.AppendOwn
import Derived.Laws.OwnMore
set_option maxRecDepth 100000
set_option maxHeartbeats 64000000
namespace Go.Proofs.YtmklifheakemeaaGreat.Nm
open Go.RowKit Rw
def EI : Ek Int := ⟨3,22,1,8,.int .i64 0,fun n => .int .i64 n,fun n => [.int .i64 n]⟩
theorem infoI0 : (Tryz.prog.info? 3).map (fun i => (i.zero,i.size,i.bytes)) = some (some (.int .i64 0),1,8) := by kernel_rfl
theorem okI : EI.Ok where
 hu := Tryz.underlying22
 info := by
  have h := infoI0
  cases hi : Tryz.prog.info? 3 with
  | none => rw [hi] at h; cases h
  | some i =>
   rw [hi] at h
   simp only [Option.map_some,Option.some.injEq,Prod.mk.injEq] at h
   exact ⟨i,hi,h.1,h.2.1,h.2.2⟩
 zs := rfl
 len := fun _ => rfl
 one := fun x u hu => by
  simp only [EI,List.mem_cons,List.not_mem_nil,or_false] at hu
  rw [hu]
  rfl
 pos := by decide
 few := by decide
 load := fun w p x h => by
  have h0 := h 0 _ rfl
  rw [add_zero] at h0
  show (Instr.loadAt 3 (.pointer (some p))).run Tryz.prog w = .ok (.int .i64 x) w
  simp [go_sem,h0]
abbrev RowI (W : World) (v : Value) (l : List Int) : Prop := Row EI W v l
abbrev OwnI (W : World) (B : Nat) (v : Value) (l : List Int) : Prop := Own EI W B v l
theorem flatI : ∀ l : List Int,flat EI l = l.map (fun n => .int .i64 n)
 | [] => rfl
 | x :: r => by
  show EI.cells x ++ flat EI r = _
  rw [flatI r]
  rfl
end Go.Proofs.YtmklifheakemeaaGreat.Nm
namespace Go.Proofs.YtmklifheakemeaaGreat.Rw
open Go.RowKit
variable {α : Type} {E : Ek α}
theorem below_setRow {B g : Nat} {W w : World} (h : Below B W w) (hB : B ≤ g) (cs : Array Value) : Below B W (w.setRow g cs) :=
 ⟨h.os,h.tape,h.output,by simp [World.setRow]; exact h.size,fun k hk => by
  have hne : g ≠ k := by omega
  have h2 := h.block k hk
  simp [World.setRow,Array.getElem?_modify,hne,h2]⟩
theorem Box.set {w : World} {g : Nat} {cur : Array Value} {t : TypeId} (h : Box w g cur t) (cs : Array Value) : Box (w.setRow g cs) g cs t := setRow_heap w g cur cs t (0,0) h
theorem Box.other {w : World} {g b : Nat} {cur : Array Value} {t : TypeId} (h : Box w b cur t) (hne : b ≠ g) (cs : Array Value) : Box (w.setRow g cs) b cur t := (setRow_other w g b cs hne).trans h
theorem Box.shape {w : World} {b : Nat} {cur : Array Value} {t : TypeId} (h : Box w b cur t) : w.shape? b = some (t,cur.size) := by
 unfold Box at h
 simp [World.shape?,h]
theorem own_open {W : World} {B : Nat} {v : Value} {l : List α} (h : Own E W B v l) : (v = .slice none 0 0 ∧ l = []) ∨ ∃ g cap cur,v = .slice (some ⟨g,0,none⟩) l.length cap ∧ B ≤ g ∧ Box W g cur E.t ∧ l.length ≤ cap ∧ cap ≤ maxLen ∧ cur.size = cap * E.n ∧ cur.toList.take (l.length * E.n) = flat E l := by
 rcases h.2 with ⟨h1,h2⟩ | ⟨g,cap,cur,h1,h2,h3,h4,h5,h6,h7⟩
 ·exact Or.inl ⟨h1,List.eq_nil_of_length_eq_zero h2⟩
 ·exact Or.inr ⟨g,cap,cur,h1,h2,h3,h4,h5,h6,h7⟩
theorem own_shut (K : E.Ok) {W : World} {B g cap n : Nat} {cur : Array Value} {l : List α} (hn : n = l.length) (hB : B ≤ g) (hb : Box W g cur E.t) (h1 : n ≤ cap) (h2 : cap ≤ maxLen) (h3 : cur.size = cap * E.n) (h4 : cur.toList.take (n * E.n) = flat E l) : Own E W B (.slice (some ⟨g,0,none⟩) n cap) l := by
 subst hn
 exact ⟨flat_length K l,Or.inr ⟨g,cap,cur,rfl,hB,hb,h1,h2,h3,h4⟩⟩
theorem flat_take (K : E.Ok) (l : List α) (k : Nat) : (flat E l).take (k * E.n) = flat E (l.take k) := by
 rcases Nat.le_total k l.length with h | h
 ·conv => lhs; rw [← List.take_append_drop k l,flat_append]
  have e : (flat E (l.take k)).length = k * E.n := by rw [flat_length K,List.length_take,Nat.min_eq_left h]
  rw [← e,List.take_left]
 ·rw [List.take_of_length_le h,List.take_of_length_le]
  rw [flat_length K]
  exact Nat.mul_le_mul_right _ h
theorem flat_drop (K : E.Ok) (l : List α) (k : Nat) : (flat E l).drop (k * E.n) = flat E (l.drop k) := by
 rcases Nat.le_total k l.length with h | h
 ·conv => lhs; rw [← List.take_append_drop k l,flat_append]
  have e : (flat E (l.take k)).length = k * E.n := by rw [flat_length K,List.length_take,Nat.min_eq_left h]
  rw [← e,List.drop_left]
 ·rw [List.drop_of_length_le h,List.drop_of_length_le]
  ·rfl
  rw [flat_length K]
  exact Nat.mul_le_mul_right _ h
theorem box_rest (K : E.Ok) {W : World} {g : Nat} {cur : Array Value} {t : TypeId} {l : List α} (hb : Box W g cur t) (ht : cur.toList.take (l.length * E.n) = flat E l) (k : Nat) : ∀ j u,(flat E (l.drop k))[j]? = some u → W.cell? ((⟨g,k * E.n,none⟩ : Addr).add j) = some u := by
 intro j u hj
 rw [Addr.add_lit,hb.cell]
 rw [← flat_drop K,List.getElem?_drop,← ht,List.getElem?_take] at hj
 split at hj
 ·simpa using hj
 ·cases hj
theorem box_one {W : World} {b : Nat} {cs : Array Value} {t : TypeId} {x : α} (hb : Box W b cs t) (hc : cs.toList = E.cells x) : ∀ j u,(flat E [x])[j]? = some u → W.cell? ((⟨b,0,none⟩ : Addr).add j) = some u := by
 intro j u hj
 rw [add_own,hb.cell]
 rw [flat_one',← hc] at hj
 simpa using hj
theorem cut_hi (K : E.Ok) (g k len cap : Nat) (h : k ≤ len) (hc : k < cap) (w : World) : (Instr.sliceAt E.ts (.slice (some ⟨g,0,none⟩) len cap) (some (.int .i64 k)) none none).run Tryz.prog w = .ok (.slice (some ⟨g,k * E.n,none⟩) (len - k) (cap - k)) w := by
 rw [slice_hi K ⟨g,0,none⟩ k len cap h w,if_neg (by omega),add_own]
theorem copy_box (K : E.Ok) {w : World} {g o nd cd ns sc : Nat} {a : Addr} {cur : Array Value} {m : List α} (hb : Box w g cur E.t) (hm : ∀ j u,(flat E m)[j]? = some u → w.cell? (a.add j) = some u) (hk : min ns nd = m.length) (hr : (o + m.length) * E.n ≤ cur.size) (ty : TypeId) :
  (Builtin.copy_ #[E.ts,E.ts] ty #[.slice (some ⟨g,o * E.n,none⟩) nd cd,.slice (some a) ns sc]).run Tryz.prog w = .ok (.int .i64 m.length) (w.setRow g (cur.toList.take (o * E.n) ++ flat E m ++ cur.toList.drop ((o + m.length) * E.n)).toArray) := by
 obtain ⟨i,i1,i2,i3,i4⟩ := K.info
 have hl := run_loadCells_list (P := Tryz.prog) w a (flat E m) hm
 have hst := run_storeCells_at Tryz.prog g (o * E.n) E.t (flat E m) 0 cur w hb (by rw [flat_length K,Nat.add_zero,← Nat.add_mul]; exact hr) (flat_cell K m)
 rw [flat_length K] at hl
 have e : o * E.n + 0 + (flat E m).length = (o + m.length) * E.n := by rw [flat_length K,Nat.add_zero,Nat.add_mul]
 rw [e,Nat.add_zero] at hst
 simp [Builtin.copy_,run_underlying K.hu,Builtin.lenOf,Builtin.firstCells,sizeOf,typeInfo,i1,i3,hk,hl,goInt]
 simpa using congrArg (fun r => r.andThen fun _ w => Result.ok (Value.int .i64 m.length) w) hst
/-! ### one element more, in the middle -/
section
variable {l : List α} {k cap : Nat} {cur cs : Array Value} {c : α}
theorem shift_mid (K : E.Ok) (hk : k < l.length) (hcap : l.length + 1 ≤ cap) (hsz : cur.size = cap * E.n) (ht : cur.toList.take (l.length * E.n) = flat E l) (g b : Nat) (_hne : b ≠ g) :
  ∃ R1 R2 : Array Value,
   (∀ (W : World) (ty : TypeId) (nd dc ns sc : Nat),Box W g cur E.t → min ns nd = l.length - k → (Builtin.copy_ #[E.ts,E.ts] ty #[.slice (some ⟨g,(k + 1) * E.n,none⟩) nd dc,.slice (some ⟨g,k * E.n,none⟩) ns sc]).run Tryz.prog W = .ok (.int .i64 ((l.length - k : Nat) : Int)) (W.setRow g R1)) ∧
   (∀ (W : World) (ty : TypeId) (nd dc : Nat),Box W g R1 E.t → Box W b cs E.t → cs.toList = E.cells c → 1 ≤ nd → (Builtin.copy_ #[E.ts,E.ts] ty #[.slice (some ⟨g,k * E.n,none⟩) nd dc,.slice (some ⟨b,0,none⟩) 1 1]).run Tryz.prog W = .ok (.int .i64 1) (W.setRow g R2)) ∧
   (∀ (W : World) (B : Nat),B ≤ g → cap ≤ maxLen → Box W g R2 E.t → Own E W B (.slice (some ⟨g,0,none⟩) (l.length + 1) cap) (l.take k ++ c :: l.drop k)) := by
 have hkl : (l.drop k).length = l.length - k := by simp
 have hs1 : (cur.toList.take ((k + 1) * E.n) ++ flat E (l.drop k) ++ cur.toList.drop ((k + 1 + (l.drop k).length) * E.n)).length = cap * E.n := by
  have h1 : (k + 1) * E.n ≤ cap * E.n := Nat.mul_le_mul_right _ (by omega)
  have h2 : (k + 1 + (l.drop k).length) * E.n ≤ cap * E.n := Nat.mul_le_mul_right _ (by omega)
  simp only [List.length_append,List.length_take,List.length_drop,Array.length_toList,flat_length K,hsz]
  rw [Nat.min_eq_left h1]
  have h3 : (k + 1 + (l.drop k).length) * E.n = (k + 1) * E.n + (l.drop k).length * E.n := Nat.add_mul ..
  simp only [List.length_drop] at h2 h3 ⊢
  omega
 refine ⟨(cur.toList.take ((k + 1) * E.n) ++ flat E (l.drop k) ++ cur.toList.drop ((k + 1 + (l.drop k).length) * E.n)).toArray,
  ((cur.toList.take ((k + 1) * E.n) ++ flat E (l.drop k) ++ cur.toList.drop ((k + 1 + (l.drop k).length) * E.n)).take (k * E.n) ++ flat E [c] ++ (cur.toList.take ((k + 1) * E.n) ++ flat E (l.drop k) ++ cur.toList.drop ((k + 1 + (l.drop k).length) * E.n)).drop ((k + 1) * E.n)).toArray,?_,?_,?_⟩
 ·intro W ty nd dc ns sc hb hm
  have h := copy_box K (o := k + 1) (m := l.drop k) (nd := nd) (cd := dc) (ns := ns) (sc := sc) hb (box_rest K hb ht k) (by rw [hkl]; exact hm) (by rw [hkl,hsz]; exact Nat.mul_le_mul_right _ (by omega)) ty
  rw [hkl] at h ⊢
  exact h
 ·intro W ty nd dc hb hx hc hn
  have h := copy_box K (o := k) (m := [c]) (nd := nd) (cd := dc) (ns := 1) (sc := 1) hb (box_one hx hc) (by simp; omega) (by rw [List.size_toArray,hs1]; exact Nat.mul_le_mul_right _ (by simp; omega)) ty
  simpa using h
 ·intro W B hB hm hb
  have p1 : (cur.toList.take ((k + 1) * E.n)).length = (k + 1) * E.n := by
   rw [List.length_take,Array.length_toList,hsz]
   exact Nat.min_eq_left (Nat.mul_le_mul_right _ (by omega))
  have p2 : (cur.toList.take ((k + 1) * E.n) ++ flat E (l.drop k) ++ cur.toList.drop ((k + 1 + (l.drop k).length) * E.n)).take (k * E.n) = flat E (l.take k) := by
   rw [List.append_assoc,List.take_append_of_le_length (by rw [p1]; exact Nat.mul_le_mul_right _ (by omega)),List.take_take,Nat.min_eq_left (Nat.mul_le_mul_right _ (by omega)),← flat_take K,← ht,List.take_take,Nat.min_eq_left (Nat.mul_le_mul_right _ (by omega))]
  have p3 : (cur.toList.take ((k + 1) * E.n) ++ flat E (l.drop k) ++ cur.toList.drop ((k + 1 + (l.drop k).length) * E.n)).drop ((k + 1) * E.n) = flat E (l.drop k) ++ cur.toList.drop ((k + 1 + (l.drop k).length) * E.n) := by
   rw [List.append_assoc,List.drop_left' p1]
  have e : flat E (l.take k) ++ flat E [c] ++ flat E (l.drop k) = flat E (l.take k ++ c :: l.drop k) := by
   rw [flat_append,show c :: l.drop k = [c] ++ l.drop k from rfl,flat_append,List.append_assoc]
  have ln : (l.take k ++ c :: l.drop k).length = l.length + 1 := by simp; omega
  have q : (flat E (l.take k) ++ flat E [c] ++ flat E (l.drop k)).length = (l.length + 1) * E.n := by rw [e,flat_length K,ln]
  refine own_shut K ln.symm hB hb hcap hm ?_ ?_
  ·rw [List.size_toArray,p2,p3,← List.append_assoc,List.length_append,q,List.length_drop,show cur.toList.length = cap * E.n from Array.length_toList.trans hsz,hkl]
   have h1 : (l.length + 1) * E.n ≤ cap * E.n := Nat.mul_le_mul_right _ hcap
   rw [show k + 1 + (l.length - k) = l.length + 1 by omega]
   omega
  ·rw [p2,p3,← List.append_assoc]
   exact (List.take_left' q).trans e
theorem grow_mid (K : E.Ok) (tn : TypeId) (htn : Tryz.prog.underlying tn = some (.int .i64)) (hk : k < l.length) (hl : l.length ≤ 1000) (hcap : cap < l.length + 1) (hlc : l.length ≤ cap) (ht : cur.toList.take (l.length * E.n) = flat E l) (W : World) (g b : Nat) (hb : Box W g cur E.t) (_hbW : b < W.heap.size) :
  ∃ (G : Nat) (R1 R2 R3 : Array Value),l.length + 1 ≤ G ∧ G ≤ maxLen ∧
   (∀ ty,(Builtin.append_ #[E.ts,tn] ty #[.slice (some ⟨g,0,none⟩) k cap,.int .i64 ((l.length : Int) + 1 - k)]).run Tryz.prog W = .ok (.slice (some ⟨W.heap.size,0,none⟩) (l.length + 1) G) (W.drew.alloc (.cells R1 E.t))) ∧
   (∀ (w : World) (ty : TypeId) (nd dc : Nat),Box w W.heap.size R1 E.t → Box w b cs E.t → cs.toList = E.cells c → 1 ≤ nd → (Builtin.copy_ #[E.ts,E.ts] ty #[.slice (some ⟨W.heap.size,k * E.n,none⟩) nd dc,.slice (some ⟨b,0,none⟩) 1 1]).run Tryz.prog w = .ok (.int .i64 1) (w.setRow W.heap.size R2)) ∧
   (∀ (w : World) (ty : TypeId) (nd dc ns sc : Nat),Box w W.heap.size R2 E.t → Box w g cur E.t → min ns nd = l.length - k → (Builtin.copy_ #[E.ts,E.ts] ty #[.slice (some ⟨W.heap.size,(k + 1) * E.n,none⟩) nd dc,.slice (some ⟨g,k * E.n,none⟩) ns sc]).run Tryz.prog w = .ok (.int .i64 ((l.length - k : Nat) : Int)) (w.setRow W.heap.size R3)) ∧
   (∀ (w : World) (B : Nat),B ≤ W.heap.size → Box w W.heap.size R3 E.t → Own E w B (.slice (some ⟨W.heap.size,0,none⟩) (l.length + 1) G) (l.take k ++ c :: l.drop k)) := by
 obtain ⟨i,i1,i2,i3,i4⟩ := K.info
 have hf := K.few
 have hpos := K.pos
 have hkl : (l.drop k).length = l.length - k := by simp
 have hold : (Builtin.firstCells i.size k (.slice (some ⟨g,0,none⟩) k cap)).run Tryz.prog W.drew = .ok (flat E (l.take k)).toArray W.drew :=
  run_firstCells_some (P := Tryz.prog) (w := W.drew) i.size k ⟨g,0,none⟩ k cap (flat E (l.take k)) (by rw [flat_length K,List.length_take,Nat.min_eq_left (by omega),i3]) (fun j u hj => by
   rw [add_own]
   show W.cell? _ = _
   rw [hb.cell]
   rw [← flat_take K,← ht,List.getElem?_take] at hj
   split at hj
   ·rw [List.getElem?_take] at hj
    split at hj
    ·simpa using hj
    ·cases hj
   ·cases hj)
 have happ := fun ty => Lib.run_append_grow_zeros (P := Tryz.prog) W E.ts tn ty E.t i _ .i64 .i64 K.hu htn i1 i2 (some ⟨g,0,none⟩) k cap (flat E (l.take k)) hold (l.length + 1 - k) (by omega) (by rw [i3]; exact hpos) (by omega) (by omega)
  (by rw [i4]; exact Nat.le_trans (Nat.mul_le_mul (show l.length + 1 - k ≤ 2000 by omega) hf) (by decide))
  (growslice_fits (by omega) (by rw [i4]; exact Nat.le_trans (Nat.mul_le_mul (show k + (l.length + 1 - k) ≤ 2000 by omega) hf) (by decide)))
 rw [show k + (l.length + 1 - k) = l.length + 1 by omega] at happ
 have hG1 := grownCap_ge W (l.length + 1) cap E.t
 have hG2 := grownCap_le_maxLen W (l.length + 1) cap E.t (by unfold maxLen; omega)
 generalize grownCap W (l.length + 1) cap E.t = G at happ hG1 hG2
 obtain ⟨R1,hR1⟩ : ∃ R1 : Array Value,R1 = (flat E (l.take k)).toArray ++ Builtin.zeroCells E.z.cells (l.length + 1 - k) ++ Builtin.zeroCells E.z.cells (G - (l.length + 1)) := ⟨_,rfl⟩
 rw [← hR1] at happ
 have hs0 : R1.size = G * E.n := by
  rw [hR1]
  simp only [Array.size_append,List.size_toArray,size_zeroCells,K.zs,flat_length K,List.length_take,Nat.min_eq_left (Nat.le_of_lt hk),← Nat.add_mul]
  rw [show k + (l.length + 1 - k) + (G - (l.length + 1)) = G by omega]
 have hh : R1.toList.take (k * E.n) = flat E (l.take k) := by
  rw [hR1]
  simp only [Array.toList_append,List.append_assoc]
  have e : (flat E (l.take k)).length = k * E.n := by rw [flat_length K,List.length_take,Nat.min_eq_left (by omega)]
  rw [← e]
  simp
 have q1 : (flat E [c]).length = 1 * E.n := by rw [flat_length K]; rfl
 have q0 : (R1.toList.take (k * E.n)).length = k * E.n := by
  rw [hh,flat_length K,List.length_take,Nat.min_eq_left (by omega)]
 have hs2 : (R1.toList.take (k * E.n) ++ flat E [c] ++ R1.toList.drop ((k + [c].length) * E.n)).length = G * E.n := by
  have h1 : (k + 1) * E.n ≤ G * E.n := Nat.mul_le_mul_right _ (by omega)
  have h2 : (k + 1) * E.n = k * E.n + 1 * E.n := Nat.add_mul ..
  simp only [List.length_append,q0,q1,List.length_drop,Array.length_toList,hs0,List.length_singleton]
  omega
 refine ⟨G,R1,(R1.toList.take (k * E.n) ++ flat E [c] ++ R1.toList.drop ((k + [c].length) * E.n)).toArray,
  ((R1.toList.take (k * E.n) ++ flat E [c] ++ R1.toList.drop ((k + [c].length) * E.n)).take ((k + 1) * E.n) ++ flat E (l.drop k) ++ (R1.toList.take (k * E.n) ++ flat E [c] ++ R1.toList.drop ((k + [c].length) * E.n)).drop ((k + 1 + (l.drop k).length) * E.n)).toArray,hG1,hG2,?_,?_,?_,?_⟩
 ·intro ty
  have h := happ ty
  rw [show ((l.length + 1 - k : Nat) : Int) = (l.length : Int) + 1 - k by omega] at h
  exact h
 ·intro w ty nd dc hb' hx hc hn
  have h := copy_box K (o := k) (m := [c]) (nd := nd) (cd := dc) (ns := 1) (sc := 1) hb' (box_one hx hc) (by simp; omega) (by rw [hs0]; exact Nat.mul_le_mul_right _ (by simp; omega)) ty
  simpa using h
 ·intro w ty nd dc ns sc hb' hx hm
  have h := copy_box K (o := k + 1) (m := l.drop k) (nd := nd) (cd := dc) (ns := ns) (sc := sc) hb' (box_rest K hx ht k) (by rw [hkl]; exact hm) (by rw [hkl,List.size_toArray,hs2]; exact Nat.mul_le_mul_right _ (by omega)) ty
  rw [hkl] at h ⊢
  exact h
 ·intro w B hB hb'
  have p2 : (R1.toList.take (k * E.n) ++ flat E [c] ++ R1.toList.drop ((k + [c].length) * E.n)).take ((k + 1) * E.n) = flat E (l.take k) ++ flat E [c] := by
   have e : (R1.toList.take (k * E.n) ++ flat E [c]).length = (k + 1) * E.n := by rw [List.length_append,q0,q1,← Nat.add_mul]
   rw [← e,List.take_left,hh]
  have e : flat E (l.take k) ++ flat E [c] ++ flat E (l.drop k) = flat E (l.take k ++ c :: l.drop k) := by
   rw [flat_append,show c :: l.drop k = [c] ++ l.drop k from rfl,flat_append,List.append_assoc]
  have ln : (l.take k ++ c :: l.drop k).length = l.length + 1 := by simp; omega
  have q : (flat E (l.take k) ++ flat E [c] ++ flat E (l.drop k)).length = (l.length + 1) * E.n := by rw [e,flat_length K,ln]
  refine own_shut K ln.symm hB hb' hG1 hG2 ?_ ?_
  ·rw [List.size_toArray,p2,List.length_append,q,List.length_drop,hs2,hkl]
   have h1 : (l.length + 1) * E.n ≤ G * E.n := Nat.mul_le_mul_right _ hG1
   rw [show k + 1 + (l.length - k) = l.length + 1 by omega]
   omega
  ·rw [p2]
   exact (List.take_left' q).trans e
end
theorem wpList_append_run2 {P : Program} {ops : Array Oper} {rest : List Oper} {o : Oper} {a : Act} {Q : Exit → Act → World → Prop} {w w' : World} (hgd : o.guard = none) (s x : Operand) (t t' : TypeId)
  (ho : o.op = .call { callee := .builtin .append,args := #[s,x],argTypes := #[t,t'] }) {v xv v' : Value} (hs : a.eval s = v) (hx : a.eval x = xv) (hr : (Builtin.append_ #[t,t'] o.type #[v,xv]).run P w = .ok v' w')
  (h : wpList P ops Q rest (a.put o.dst v') w') : wpList P ops Q (o :: rest) a w := by
 refine wpList_plain hgd fun K hK => ?_
 unfold Oper.wp execOp
 simp only [ho,resolve,invoke,builtin,Sem.run_bind,Sem.run_pure,Result.andThen_ok,List.map_toArray,List.map_cons,List.map_nil,hs,hx,hr]
 exact hK _ _ h
theorem step_copy_run {P : Program} {ops : Array Oper} {o : Oper} {a : Act} {w w' : World} {K : Act → World → Prop} {Q : Exit → Act → World → Prop} {E : Prop}
  (hg : o.guard = none) (s x : Operand) (t : TypeId) (hop : o.op = .call { callee := .builtin .copy,args := #[s,x],argTypes := #[t,t] }) {v xv v' : Value} (hs : a.eval s = v) (hx : a.eval x = xv)
  (hr : (Builtin.copy_ #[t,t] o.type #[v,xv]).run P w = .ok v' w') (hK : K (a.put o.dst v') w') :
  if Region.wanted o (yielded ops a.tmps) = true then Oper.wp P o a w K Q else E := by
 have hw : Region.wanted o (yielded ops a.tmps) = true := by simp [Region.wanted,hg]
 rw [if_pos hw]
 unfold Oper.wp execOp
 simp only [hop,resolve,invoke,builtin,Sem.run_bind,Sem.run_pure,Result.andThen_ok,List.map_toArray,List.map_cons,List.map_nil,hs,hx,hr]
 exact hK
end Go.Proofs.YtmklifheakemeaaGreat.Rw
namespace Go.Proofs.YtmklifheakemeaaGreat.Rg
open Go.RowKit
def left (L : Array Bool) : Nat := L.toList.countP (fun b => !b)
theorem left_set (L : Array Bool) (i : Nat) (h : L.getD i true = false) : left (L.setIfInBounds i true) + 1 = left L := by
 obtain ⟨l⟩ := L
 have hi : i < l.length := by
  rcases Nat.lt_or_ge i l.length with h0 | h0
  ·exact h0
  ·exact absurd h (by simp [Array.getD,Nat.not_lt.2 h0])
 have hv : l[i] = false := by simpa [Array.getD,hi] using h
 unfold left
 simp only [List.setIfInBounds_toArray]
 rw [List.countP_set hi,hv]
 have hp : 0 < l.countP (fun b => !b) := List.countP_pos_iff.2 ⟨l[i],List.getElem_mem hi,by rw [hv]; rfl⟩
 simp
 omega
theorem left_zero (L : Array Bool) (h : left L = 0) (i : Nat) : L.getD i true = true := by
 obtain ⟨l⟩ := L
 unfold left at h
 rw [List.countP_eq_zero] at h
 rcases Nat.lt_or_ge i l.length with h0 | h0
 ·have := h l[i] (List.getElem_mem h0)
  simp [Array.getD,h0]
  simpa using this
 ·simp [Array.getD,Nat.not_lt.2 h0]
def fore (ops : Array Oper) : Bool := (List.range ops.size).all fun i => match ops[i]? with
 | some o => o.after.all fun e => !Region.binds .any e || decide (e.on < i)
 | none => true
def done (L : Array Bool) (i : Nat) : Prop := L.getD i false = true
theorem all_done {ops : Array Oper} (hf : fore ops = true) {L : Array Bool} (hs : L.size = ops.size) (h : Region.ready .any ops L = []) : ∀ n,n ≤ ops.size → ∀ i,i < n → done L i := by
 intro n
 induction n with
 | zero => intro _ i hi; omega
 | succ n ih =>
  intro hn i hi
  rcases Nat.lt_or_ge i n with h1 | h1
  ·exact ih (by omega) i h1
  ·obtain rfl : i = n := by omega
   cases hd : L.getD i true
   ·exfalso
    have hm : i ∈ Region.ready .any ops L := by
     rw [mem_ready]
     refine ⟨hd,ops[i],Array.getElem?_eq_getElem (by omega),fun e he hbd => ?_⟩
     have h2 := List.all_eq_true.1 hf i (List.mem_range.2 (by omega))
     rw [Array.getElem?_eq_getElem (by omega)] at h2
     have h3 := Array.all_eq_true'.1 h2 e he
     rw [hbd] at h3
     exact ih (by omega) e.on (by simpa using h3)
    rw [h] at hm
    cases hm
   ·unfold done
    have hi2 : i < L.size := by omega
    simp [Array.getD,hi2] at hd ⊢
    exact hd
section
variable {P : Program} {ops : Array Oper} {Q : Exit → Act → World → Prop}
theorem any_of_inv (I : Array Bool → Act → World → Prop) (hf : fore ops = true)
  (hstep : ∀ L a w i o,L.size = ops.size → I L a w → ops[i]? = some o → ¬ done L i → (∀ e ∈ o.after,Region.binds .any e = true → done L e.on) → wpOp P ops Q i (I (L.setIfInBounds i true)) a w)
  (hend : ∀ L a w,I L a w → (∀ i,i < ops.size → done L i) → Q .normal a w) :
  ∀ (fuel : Nat) (L : Array Bool) (a : Act) (w : World),L.size = ops.size → left L ≤ fuel → I L a w → wpAny P .any ops Q fuel L a w := by
 intro fuel
 induction fuel with
 | zero =>
  intro L a w hs hl hI
  have hr : Region.ready .any ops L = [] := by
   rw [List.eq_nil_iff_forall_not_mem]
   intro i hi
   have h1 := (mem_ready.1 hi).1
   rw [left_zero L (by omega) i] at h1
   cases h1
  exact ⟨hr,hend L a w hI (all_done hf hs hr ops.size (Nat.le_refl _))⟩
 | succ fuel ih =>
  intro L a w hs hl hI
  refine ⟨fun hr => hend L a w hI (all_done hf hs hr ops.size (Nat.le_refl _)),fun i hi => ?_⟩
  obtain ⟨h1,o,h2,h3⟩ := mem_ready.1 hi
  have hlt : i < ops.size := (Array.getElem?_eq_some_iff.1 h2).1
  have hnd : ¬ done L i := by
   unfold done
   have : i < L.size := by omega
   simp [Array.getD,this] at h1 ⊢
   exact h1
  have hst := hstep L a w i o hs hI h2 hnd (fun e he hb => h3 e he hb)
  have hmono : ∀ a' w',I (L.setIfInBounds i true) a' w' → wpAny P .any ops Q fuel (L.setIfInBounds i true) a' w' := fun a' w' h =>
   ih _ a' w' (by simpa using hs) (by have := left_set L i h1; omega) h
  unfold wpOp at hst ⊢
  rw [h2] at hst ⊢
  simp only at hst ⊢
  split at hst
  ·rename_i hw
   rw [if_pos hw]
   rcases hst with hst | hst
   ·exact Or.inl (Oper.wp_mono hmono hst)
   ·exact Or.inr hst
  ·rename_i hw
   rw [if_neg hw]
   exact hmono _ _ hst
theorem region_inv (I : Array Bool → Act → World → Prop) {id : Nat} {a : Act} {w : World} {l : List Oper} (hm : P.follows .mixedOrders = true) (hf : fore l.toArray = true)
  (h0 : I (Array.replicate l.length false) a { w with drawn := w.drawn + 1 })
  (hstep : ∀ L a w i o,L.size = l.length → I L a w → l[i]? = some o → ¬ done L i → (∀ e ∈ o.after,Region.binds .any e = true → done L e.on) → wpOp P l.toArray Q i (I (L.setIfInBounds i true)) a w)
  (hend : ∀ L a w,I L a w → (∀ i,i < l.length → done L i) → Q .normal a w) : (Code.region id l.toArray true).wp P Q a w := by
 refine wp_region_any hm (any_of_inv (ops := l.toArray) I hf (fun L a w i o hs hI ho => hstep L a w i o (by simpa using hs) hI (by simpa using ho)) (fun L a w hI hd => hend L a w hI (by simpa using hd)) _ _ _ _ (by simp) ?_ (by simpa using h0))
 unfold left
 have h2 := List.countP_le_length (p := fun b : Bool => !b) (l := List.replicate l.length false)
 simpa using h2
end
theorem done_set {L : Array Bool} {i : Nat} (h : i < L.size) (j : Nat) : done (L.setIfInBounds i true) j ↔ j = i ∨ done L j := by
 unfold done
 by_cases e : j = i
 ·subst e; simp [Array.getD,h]
 ·by_cases hj : j < L.size
  ·have h2 : i ≠ j := fun x => e x.symm
   simp [Array.getD,hj,e,h2]
  ·simp [Array.getD,hj,e]
theorem none_done (n j : Nat) : ¬ done (Array.replicate n false) j := by
 unfold done
 by_cases hj : j < n <;> simp [Array.getD,hj]
theorem op_value {P : Program} {ops : Array Oper} {Q : Exit → Act → World → Prop} {K : Act → World → Prop} {a : Act} {w w' : World} {i : Nat} {o : Oper} {v : Value}
  (ho : ops[i]? = some o) (hg : o.guard = none) (hr : (execOp a.eval o).run P w = .ok (.value v) w') (h : K (a.put o.dst v) w') : wpOp P ops Q i K a w := by
 unfold wpOp
 rw [ho]
 have hw : Region.wanted o (yielded ops a.tmps) = true := by simp [Region.wanted,hg]
 simp only [hw,if_true]
 refine Or.inl ?_
 unfold Oper.wp
 rw [hr]
 exact h
theorem v_run {P : Program} {s : Sem Value} {w w' : World} {v : Value} (h : s.run P w = .ok v w') : (do pure (Next.value (← s)) : Sem Next).run P w = .ok (.value v) w' := by
 simp [go_sem,h]
theorem ex_append {P : Program} (ρ : Operand → Value) (o : Oper) (s x : Operand) (t : TypeId) (ho : o.op = .call { callee := .builtin .append,args := #[s,x],argTypes := #[t,t] }) {v x' v' : Value} {w w' : World}
  (hs : ρ s = v) (hx : ρ x = x') (hrun : (Builtin.append_ #[t,t] o.type #[v,x']).run P w = .ok v' w') : (execOp ρ o).run P w = .ok (.value v') w' := by
 simp [execOp,ho,resolve,invoke,builtin,hs,hx,hrun,Result.andThen]
theorem ex_index {P : Program} (ρ : Operand → Value) (o : Oper) (t : TypeId) (x i : Operand) (ho : o.op = .indexAddr t x i) {v : Value} {w : World} (hr : (Instr.indexAt t (ρ x) (ρ i)).run P w = .ok v w) :
  (execOp ρ o).run P w = .ok (.value v) w := by
 simp [execOp,ho,hr,Result.andThen]
theorem ex_load {P : Program} (ρ : Operand → Value) (o : Oper) (t : TypeId) (x : Operand) (ho : o.op = .load t x) {v : Value} {w : World} (hr : (Instr.loadAt t (ρ x)).run P w = .ok v w) :
  (execOp ρ o).run P w = .ok (.value v) w := by
 simp [execOp,ho,hr,Result.andThen]
theorem ex_build {P : Program} (ρ : Operand → Value) (o : Oper) (t : TypeId) (n : Nat) (parts : Array (Nat × Operand)) (ho : o.op = .buildSlice t n parts) {ps : Array (Nat × Value)} (hp : parts.map (fun x => (x.1,ρ x.2)) = ps) {v : Value} {w w' : World} (hr : (Instr.buildSlice t n ps).run P w = .ok v w') :
  (execOp ρ o).run P w = .ok (.value v) w' := by
 subst hp
 simp [execOp,ho,hr,Result.andThen]
theorem ex_move {P : Program} (ρ : Operand → Value) (o : Oper) (x : Operand) (ho : o.op = .move x) (w : World) : (execOp ρ o).run P w = .ok (.value (ρ x)) w := by
 simp [execOp,ho]
theorem ex_assign {P : Program} (ρ : Operand → Value) (o : Oper) (x : Operand) (ho : o.op = .assign x) (w : World) : (execOp ρ o).run P w = .ok (.value (ρ x)) w := by
 simp [execOp,ho]
theorem size_put (a : Act) (d : Nat) (v : Value) : (a.put (some d) v).tmps.size = a.tmps.size := by simp [Act.put]
theorem get_put (a : Act) (d : Nat) (v : Value) (j : Nat) (hd : j ≠ d) : (a.put (some d) v).tmps[j]? = a.tmps[j]? := by
 have h2 : d ≠ j := fun x => hd x.symm
 simp [Act.put,h2]
theorem eval_some {a : Act} {j : Nat} {v : Value} (h : a.tmps[j]? = some v) : a.eval (.tmp j) = v := by
 have h1 := (Array.getElem?_eq_some_iff.1 h).1
 have h2 := (Array.getElem?_eq_some_iff.1 h).2
 simp [Act.eval,Array.getD,h1,h2]
theorem op_skip {P : Program} {ops : Array Oper} {Q : Exit → Act → World → Prop} {K : Act → World → Prop} {a : Act} {w w' : World} {i : Nat} {o : Oper}
  (ho : ops[i]? = some o) (hg : o.guard = none) (hr : (execOp a.eval o).run P w = .ok .skip w') (h : K (a.put o.dst undef) w') : wpOp P ops Q i K a w := by
 unfold wpOp
 rw [ho]
 have hw : Region.wanted o (yielded ops a.tmps) = true := by simp [Region.wanted,hg]
 simp only [hw,if_true]
 refine Or.inl ?_
 unfold Oper.wp
 rw [hr]
 exact h
theorem frame_mid {a : Act} {bl : List Value} (d0 m : Nat) (df : a.defers = []) (sz : a.tmps.size = bl.length) (hle : d0 + m ≤ bl.length) (kp : ∀ j,(j < d0 ∨ d0 + m ≤ j) → a.tmps[j]? = bl[j]?) :
  ∃ mid : List Value,mid.length = m ∧ a = ⟨(bl.take d0 ++ (mid ++ bl.drop (d0 + m))).toArray,[]⟩ := by
 obtain ⟨tmps,defers⟩ := a
 have hd : defers = [] := df
 have hs : tmps.size = bl.length := sz
 have hk : ∀ j,(j < d0 ∨ d0 + m ≤ j) → tmps[j]? = bl[j]? := kp
 subst hd
 have hl : ((tmps.toList.drop d0).take m).length = m := by simp; omega
 refine ⟨(tmps.toList.drop d0).take m,hl,congrArg (fun x => (⟨x,[]⟩ : Act)) ?_⟩
 apply Array.ext_getElem?
 intro j
 conv => rhs; rw [List.getElem?_toArray]
 by_cases h1 : j < d0
 ·rw [hk j (Or.inl h1),List.getElem?_append_left (by simp; omega),List.getElem?_take,if_pos h1]
 ·have ht : (bl.take d0).length = d0 := by simp; omega
  rw [List.getElem?_append_right (by omega),ht]
  by_cases h2 : j < d0 + m
  ·rw [List.getElem?_append_left (by omega),List.getElem?_take,if_pos (by omega),List.getElem?_drop,Array.getElem?_toList,show d0 + (j - d0) = j by omega]
  ·rw [hk j (Or.inr (by omega)),List.getElem?_append_right (by omega),hl,List.getElem?_drop,show d0 + m + (j - d0 - m) = j by omega]
end Go.Proofs.YtmklifheakemeaaGreat.Rg
namespace Go.Proofs.YtmklifheakemeaaGreat.Rw
open Go.RowKit
theorem step_call_run {P : Program} {ops : Array Oper} {o : Oper} {a : Act} {w : World} {K : Act → World → Prop} {Q : Exit → Act → World → Prop} {E : Prop} {f : FuncId} {args : Array Value} {R : Ending → World → Prop}
  (hg : o.guard = none) (hr : (execOp a.eval o).run P w = .ok (.enter f args) w) (hc : Calls P f args w R) (hR : ∀ e w',R e w' → ∃ v,e = .returned v ∧ K (a.put o.dst v) w') :
  if Region.wanted o (yielded ops a.tmps) = true then Oper.wp P o a w K Q else E := by
 have hw : Region.wanted o (yielded ops a.tmps) = true := by simp [Region.wanted,hg]
 rw [if_pos hw]
 unfold Oper.wp
 rw [hr,Oper.upon_enter]
 refine hc.mono ?_
 intro e w' h
 obtain ⟨v,rfl,hk⟩ := hR e w' h
 exact hk
theorem call_fn {P : Program} {f : FuncId} {fn : Func} {c : Code} (hf : P.funcs[f]? = some fn) (hname : (fn.name == "runtime.NumGoroutine") = false) (hb : fn.body = some c) (args : Array Value) (w : World) : (callFunc f args).run P w = .ok (.enter f args) w := by
 have h1 : fn.name ≠ "runtime.NumGoroutine" := by simpa using hname
 simp [callFunc,hf,h1,hb]
theorem ex_call1 {P : Program} (ρ : Operand → Value) (o : Oper) (x : Operand) (t : TypeId) (f : FuncId) (ho : o.op = .call { callee := .value (.func f),args := #[x],argTypes := #[t] }) {v : Value} (hx : ρ x = v) (hf : ρ (.func f) = .func (.func f) #[] #[]) (w : World)
  (hc : (callFunc f #[v]).run P w = .ok (.enter f #[v]) w) : (execOp ρ o).run P w = .ok (.enter f #[v]) w := by
 simp [execOp,ho,resolve,invoke,hx,hf,Deferred.ofValue,hc]
theorem ex_call2 {P : Program} (ρ : Operand → Value) (o : Oper) (x y : Operand) (t s : TypeId) (f : FuncId) (ho : o.op = .call { callee := .value (.func f),args := #[x,y],argTypes := #[t,s] }) {v u : Value} (hx : ρ x = v) (hy : ρ y = u) (hf : ρ (.func f) = .func (.func f) #[] #[]) (w : World)
  (hc : (callFunc f #[v,u]).run P w = .ok (.enter f #[v,u]) w) : (execOp ρ o).run P w = .ok (.enter f #[v,u]) w := by
 simp [execOp,ho,resolve,invoke,hx,hy,hf,Deferred.ofValue,hc]
end Go.Proofs.YtmklifheakemeaaGreat.Rw
namespace Go.Proofs.YtmklifheakemeaaGreat.Rg
open Go.RowKit
theorem op_call {P : Program} {ops : Array Oper} {Q : Exit → Act → World → Prop} {K : Act → World → Prop} {a : Act} {w : World} {i : Nat} {o : Oper} {f : FuncId} {args : Array Value} {R : Ending → World → Prop}
  (ho : ops[i]? = some o) (hg : o.guard = none) (hr : (execOp a.eval o).run P w = .ok (.enter f args) w) (hc : Calls P f args w R) (hR : ∀ e w',R e w' → ∃ v,e = .returned v ∧ K (a.put o.dst v) w') : wpOp P ops Q i K a w := by
 unfold wpOp
 rw [ho]
 have hw : Region.wanted o (yielded ops a.tmps) = true := by simp [Region.wanted,hg]
 simp only [hw,if_true]
 refine Or.inl ?_
 unfold Oper.wp
 rw [hr,Oper.upon_enter]
 refine hc.mono ?_
 intro e w' h
 obtain ⟨v,rfl,hk⟩ := hR e w' h
 exact hk
theorem ex_field {P : Program} (ρ : Operand → Value) (o : Oper) (s : TypeId) (x : Operand) (f : Nat) (ho : o.op = .fieldAddr s x f) {v : Value} {w : World} (hr : (Instr.fieldAt s (ρ x) f).run P w = .ok v w) : (execOp ρ o).run P w = .ok (.value v) w := by
 unfold execOp
 rw [ho]
 exact v_run hr
theorem wpOp_mono {P : Program} {ops : Array Oper} {Q : Exit → Act → World → Prop} {i : Nat} {K K' : Act → World → Prop} {a : Act} {w : World} (h : ∀ a w,K a w → K' a w) (hw : wpOp P ops Q i K a w) : wpOp P ops Q i K' a w := by
 unfold wpOp at hw ⊢
 cases ho : ops[i]? with
 | none =>
  rw [ho] at hw
  exact h _ _ hw
 | some o =>
  rw [ho] at hw
  simp only at hw ⊢
  split at hw
  ·rename_i h1
   rw [if_pos h1]
   rcases hw with hw | hw
   ·exact Or.inl (Oper.wp_mono h hw)
   ·exact Or.inr hw
  ·rename_i h1
   rw [if_neg h1]
   exact h _ _ hw
def SeqFrom (P : Program) (ops : Array Oper) (Q : Exit → Act → World → Prop) : Nat → Nat → Act → World → Prop
 | 0,_,a,w => Q .normal a w
 | n + 1,k,a,w => wpOp P ops Q k (fun a w => SeqFrom P ops Q n (k + 1) a w) a w
structure SeenL (i M : Nat) (dst last : Nat → Nat) (V : Nat → Value → World → Prop) (base : Act) (o : Oper) (a : Act) (w : World) : Prop where
 kp : ∀ j u,(∀ k,k < M → dst k ≠ j) → base.tmps[j]? = some u → a.eval (.tmp j) = u
 at_ : ∀ e ∈ o.after,Region.binds .any e = true → (last e.on = i ∨ M ≤ last e.on) → V e.on (a.eval (.tmp (dst e.on))) w
 got : ∀ e ∈ o.after,Region.binds .any e = true → a.tmps[dst e.on]? = some (a.eval (.tmp (dst e.on)))
structure PhL (l : List Oper) (M : Nat) (dst last : Nat → Nat) (V : Nat → Value → World → Prop) (base : Act) (w : World) (L : Array Bool) (a : Act) (x : World) : Prop where
 no : ∀ i,M ≤ i → ¬ done L i
 cl : ∀ i o,done L i → l[i]? = some o → ∀ e ∈ o.after,Region.binds .any e = true → done L e.on
 df : a.defers = base.defers
 sz : a.tmps.size = base.tmps.size
 kp : ∀ j,(∀ i,i < M → dst i ≠ j) → a.tmps[j]? = base.tmps[j]?
 bel : Below w.heap.size w x
 val : ∃ vs : Nat → Value,∀ i,i < M → done L i → a.tmps[dst i]? = some (vs i) ∧ (¬ done L (last i) → V i (vs i) x)
theorem region_live {P : Program} {Q : Exit → Act → World → Prop} {id : Nat} {base : Act} {w : World} {l : List Oper} (N M : Nat) (dst last : Nat → Nat) (V : Nat → Value → World → Prop)
  (hm : P.follows .mixedOrders = true) (hf : fore l.toArray = true) (hN : l.length = N) (hMN : M ≤ N) (hinj : ∀ i j,i < M → j < M → dst i = dst j → i = j) (hs : ∀ i,i < M → dst i < base.tmps.size)
  (hop : ∀ i o,i < M → l[i]? = some o → ∀ a w' (D : Nat → Prop),¬ D i → (∀ j oj,D j → l[j]? = some oj → ∀ e ∈ oj.after,Region.binds .any e = true → D e.on) → (∀ e ∈ o.after,Region.binds .any e = true → D e.on) → Below w.heap.size w w' → SeenL i M dst last V base o a w' → ∀ K : Act → World → Prop,(∀ v w'',V i v w'' → Below w.heap.size w' w'' → (∀ j u,j < M → D j → ¬ D (last j) → last j ≠ i → j ≠ i → V j u w' → V j u w'') → K (a.put (some (dst i)) v) w'') → wpOp P l.toArray Q i K a w')
  (hall : M < N → ∀ D : Nat → Prop,(∀ j o,D j → l[j]? = some o → ∀ e ∈ o.after,Region.binds .any e = true → D e.on) → (∀ o,l[M]? = some o → ∀ e ∈ o.after,Region.binds .any e = true → D e.on) → ∀ i,i < M → D i)
  (hnext : ∀ k o,M < k → k < N → l[k]? = some o → ∃ e ∈ o.after,Region.binds .any e = true ∧ e.on = k - 1)
  (hseq : ∀ a w',a.defers = base.defers → a.tmps.size = base.tmps.size → (∀ j,(∀ i,i < M → dst i ≠ j) → a.tmps[j]? = base.tmps[j]?) → (∃ vs : Nat → Value,∀ i,i < M → a.tmps[dst i]? = some (vs i) ∧ (M ≤ last i → V i (vs i) w')) → Below w.heap.size w w' → SeqFrom P l.toArray Q (N - M) M a w') : (Code.region id l.toArray true).wp P Q base w := by
 refine region_inv (fun L a x => PhL l M dst last V base w L a x ∨ ∃ s,1 ≤ s ∧ M + s ≤ N ∧ (∀ i,i < N → (done L i ↔ i < M + s)) ∧ SeqFrom P l.toArray Q (N - M - s) (M + s) a x) hm hf ?_ ?_ ?_
 ·exact Or.inl ⟨fun i _ => none_done _ _,fun i o h => absurd h (none_done _ _),rfl,rfl,fun _ _ => rfl,(Below.refl _ _).drew,fun _ => .bool true,fun i _ h => absurd h (none_done _ _)⟩
 ·intro L a x i o hsz hI ho hnd hdep
  have hi : i < l.length := (List.getElem?_eq_some_iff.1 ho).1
  have hiL : i < L.size := by omega
  rcases hI with I | ⟨s,h1,h2,h3,h4⟩
  ·rcases Nat.lt_or_ge i M with hiM | hiM
   ·obtain ⟨vs,q1⟩ := I.val
    have hon : ∀ e ∈ o.after,Region.binds .any e = true → e.on < M := fun e he hb => by
     have h7 := List.all_eq_true.1 hf i (List.mem_range.2 (by simpa using hi))
     have ho' : (l.toArray)[i]? = some o := by simpa using ho
     rw [ho'] at h7
     have h8 := Array.all_eq_true'.1 h7 e he
     rw [hb] at h8
     have : e.on < i := by simpa using h8
     omega
    have seen : SeenL i M dst last V base o a x := ⟨fun j u hj hu => eval_some (by rw [I.kp j hj]; exact hu),fun e he hbd hl => by
     obtain ⟨p1,p2⟩ := q1 e.on (hon e he hbd) (hdep e he hbd)
     rw [eval_some p1]
     refine p2 ?_
     rcases hl with hl | hl
     ·rw [hl]; exact hnd
     ·exact I.no _ hl,fun e he hbd => by
     obtain ⟨p1,p2⟩ := q1 e.on (hon e he hbd) (hdep e he hbd)
     rw [eval_some p1]
     exact p1⟩
    refine hop i o hiM ho a x (done L) hnd I.cl hdep I.bel seen _ fun v w'' hvw hbw hpr => Or.inl ?_
    refine ⟨fun k hk hd => ?_,fun k q hk hq e he hb => ?_,I.df,by rw [size_put]; exact I.sz,fun j hj => ?_,I.bel.trans hbw,fun k => if k = i then v else vs k,fun k hkM hk => ?_⟩
    ·rcases (done_set hiL k).1 hd with h9 | h9
     ·omega
     ·exact I.no k hk h9
    ·rw [done_set hiL] at hk ⊢
     rcases hk with rfl | hk
     ·rw [hq] at ho
      cases ho
      exact Or.inr (hdep e he hb)
     ·exact Or.inr (I.cl k q hk hq e he hb)
    ·rw [get_put _ _ _ _ (fun e => hj i hiM e.symm)]
     exact I.kp j hj
    ·by_cases e : k = i
     ·subst e
      have : dst k < a.tmps.size := by rw [I.sz]; exact hs k hkM
      simp only [if_true]
      exact ⟨by simp [Act.put,this],fun _ => hvw⟩
     ·simp only [if_neg e]
      rw [get_put _ _ _ _ (fun e2 => e (hinj k i hkM hiM e2))]
      rcases (done_set hiL k).1 hk with h9 | h9
      ·exact absurd h9 e
      ·obtain ⟨p1,p2⟩ := q1 k hkM h9
       refine ⟨p1,fun hn => ?_⟩
       have n1 : last k ≠ i := fun e3 => hn ((done_set hiL _).2 (Or.inl e3))
       have n2 : ¬ done L (last k) := fun e3 => hn ((done_set hiL _).2 (Or.inr e3))
       exact hpr k _ hkM h9 n2 n1 e (p2 n2)
   ·have hiM2 : i = M := by
     rcases Nat.lt_or_ge M i with h9 | h9
     ·obtain ⟨e,he,hb,hon⟩ := hnext i o h9 (by omega) ho
      have hd := hdep e he hb
      rw [hon] at hd
      exact absurd hd (I.no _ (by omega))
     ·omega
    subst hiM2
    have hD := hall (by omega) (done L) I.cl (fun o' ho' e he hb => by
     rw [ho] at ho'
     cases ho'
     exact hdep e he hb)
    obtain ⟨vs,q1⟩ := I.val
    have hq := hseq a x I.df I.sz I.kp ⟨vs,fun k hk => ⟨(q1 k hk (hD k hk)).1,fun hl => (q1 k hk (hD k hk)).2 (I.no _ hl)⟩⟩ I.bel
    rw [show N - i = (N - i - 1) + 1 by omega] at hq
    refine wpOp_mono (fun a' x' h => Or.inr ⟨1,Nat.le_refl _,by omega,fun k hk => ?_,h⟩) hq
    rw [done_set hiL]
    constructor
    ·rintro (rfl | h9)
     ·omega
     ·rcases Nat.lt_or_ge k i with h8 | h8
      ·omega
      ·exact absurd h9 (I.no k h8)
    ·intro h9
     by_cases e : k = i
     ·exact Or.inl e
     ·exact Or.inr (hD k (by omega))
  ·have hge : M + s ≤ i := by
    rcases Nat.lt_or_ge i (M + s) with h9 | h9
    ·exact absurd ((h3 i (by omega)).2 h9) hnd
    ·exact h9
   have hie : i = M + s := by
    rcases Nat.lt_or_ge (M + s) i with h9 | h9
    ·obtain ⟨e,he,hb,hon⟩ := hnext i o (by omega) (by omega) ho
     have hd := hdep e he hb
     rw [hon] at hd
     have := (h3 (i - 1) (by omega)).1 hd
     omega
    ·omega
   subst hie
   rw [show N - M - s = (N - M - (s + 1)) + 1 by omega] at h4
   refine wpOp_mono (fun a' x' h => Or.inr ⟨s + 1,by omega,by omega,fun k hk => ?_,h⟩) h4
   rw [done_set hiL]
   constructor
   ·rintro (rfl | h9)
    ·omega
    ·have := (h3 k hk).1 h9
     omega
   ·intro h9
    by_cases e : k = M + s
    ·exact Or.inl e
    ·exact Or.inr ((h3 k hk).2 (by omega))
 ·intro L a x hI hd
  rcases hI with I | ⟨s,h1,h2,h3,h4⟩
  ·rcases Nat.lt_or_ge M N with h9 | h9
   ·exact absurd (hd M (by omega)) (I.no M (Nat.le_refl _))
   ·obtain ⟨vs,q1⟩ := I.val
    have hq := hseq a x I.df I.sz I.kp ⟨vs,fun k hk => ⟨(q1 k hk (hd k (by omega))).1,fun hl => (q1 k hk (hd k (by omega))).2 (I.no _ hl)⟩⟩ I.bel
    rw [show N - M = 0 by omega] at hq
    exact hq
  ·have := (h3 (N - 1) (by omega)).1 (hd (N - 1) (by omega))
   rw [show N - M - s = 0 by omega] at h4
   exact h4
theorem ex_buildS {P : Program} (ρ : Operand → Value) (o : Oper) (t : TypeId) (parts : Array (Nat × Operand)) (ho : o.op = .build t parts) {ps : Array (Nat × Value)} (hp : parts.map (fun x => (x.1,ρ x.2)) = ps) {v : Value} {w : World} (hr : (Instr.build t ps).run P w = .ok v w) :
  (execOp ρ o).run P w = .ok (.value v) w := by
 subst hp
 simp [execOp,ho,hr,Result.andThen]
theorem ex_store {P : Program} (ρ : Operand → Value) (o : Oper) (t : TypeId) (x y : Operand) (ho : o.op = .store t x y) {w w' : World} (hr : (Instr.storeAt t (ρ x) (ρ y)).run P w = .ok () w') :
  (execOp ρ o).run P w = .ok .skip w' := by
 simp [execOp,ho,hr,Result.andThen]
theorem op_store {P : Program} {ops : Array Oper} {Q : Exit → Act → World → Prop} {K : Act → World → Prop} {a : Act} {w w' : World} {i : Nat} {o : Oper} (t : TypeId) (x y : Operand) {p v : Value}
  (ho : ops[i]? = some o) (hg : o.guard = none) (hop : o.op = .store t x y) (hd : o.dst = none) (hx : a.eval x = p) (hy : a.eval y = v) (hr : (Instr.storeAt t p v).run P w = .ok () w') (h : K a w') : wpOp P ops Q i K a w := by
 refine op_skip ho hg (ex_store a.eval o t x y hop (by rw [hx,hy]; exact hr)) ?_
 rw [hd]
 exact h
def depsOf (l : List Oper) (i : Nat) : List Nat := match l[i]? with
 | some o => (o.after.toList.filter fun e => Region.binds .any e).map fun e => e.on
 | none => []
def reachL (l : List Oper) : Nat → List Nat → List Nat
 | 0,s => s
 | n + 1,s => reachL l n (s ++ s.flatMap (depsOf l))
theorem deps_in {l : List Oper} {D : Nat → Prop} {i : Nat} (h : ∀ o,l[i]? = some o → ∀ e ∈ o.after,Region.binds .any e = true → D e.on) : ∀ j ∈ depsOf l i,D j := by
 intro j hj
 unfold depsOf at hj
 cases ho : l[i]? with
 | none => rw [ho] at hj; cases hj
 | some o =>
  rw [ho] at hj
  obtain ⟨e,he,rfl⟩ := List.mem_map.1 hj
  obtain ⟨h1,h2⟩ := List.mem_filter.1 he
  exact h o ho e (Array.mem_toList_iff.1 h1) h2
theorem reach_in {l : List Oper} {D : Nat → Prop} (hc : ∀ j o,D j → l[j]? = some o → ∀ e ∈ o.after,Region.binds .any e = true → D e.on) : ∀ n s,(∀ j ∈ s,D j) → ∀ j ∈ reachL l n s,D j
 | 0,_,hs => hs
 | n + 1,s,hs => reach_in hc n _ fun j hj => by
  rcases List.mem_append.1 hj with h | h
  ·exact hs j h
  ·obtain ⟨i,hi,hd⟩ := List.mem_flatMap.1 h
   exact deps_in (fun o ho => hc i o (hs i hi) ho) j hd
theorem hall_of {l : List Oper} {M : Nat} (n : Nat) (h : (List.range M).all (fun i => (reachL l n (depsOf l M)).contains i) = true) (D : Nat → Prop) (hc : ∀ j o,D j → l[j]? = some o → ∀ e ∈ o.after,Region.binds .any e = true → D e.on) (hm : ∀ o,l[M]? = some o → ∀ e ∈ o.after,Region.binds .any e = true → D e.on) : ∀ i,i < M → D i := by
 intro i hi
 have h2 := List.all_eq_true.1 h i (List.mem_range.2 hi)
 exact reach_in hc n _ (deps_in hm) i (List.contains_iff_mem.1 h2)
end Go.Proofs.YtmklifheakemeaaGreat.Rg
namespace Go.Proofs.YtmklifheakemeaaGreat.Rw
open Go.RowKit
theorem app_fresh {α : Type} {E : Ek α} (K : E.Ok) {w : World} (B : Nat) {g : Nat} {x : Value} {m : List α} (hbox : Box w g #[] E.t) (hBg : B ≤ g) (hx : Row E w x m) (hm : m.length ≤ 1000) (ty : TypeId) :
  ∃ v' w',(Builtin.append_ #[E.ts,E.ts] ty #[.slice (some ⟨g,0,none⟩) 0 0,x]).run Tryz.prog w = .ok v' w' ∧ Own E w' B v' m ∧ Below w.heap.size w w' := by
 have ho : Own E w B (.slice (some ⟨g,0,none⟩) 0 0) ([] : List α) := own_shut K rfl hBg hbox (Nat.le_refl _) (Nat.zero_le _) (by simp) (by simp [flat])
 have hl := hbox.lt
 obtain ⟨v',w',r,o',gr⟩ := app_row K B ho hx (by simp) hm (by omega) ty
 refine ⟨v',w',r,by simpa using o',?_⟩
 obtain ⟨i,i1,i2,i3,i4⟩ := K.info
 rcases hx with ⟨rfl,rfl⟩ | ⟨ad,c,rfl,h2,h3,h4⟩
 ·have r2 := run_append_owned_none (P := Tryz.prog) (w := w) B E.ts ty E.t i E.n K.hu i1 _ _ _ ho
  rw [r2] at r
  injection r with _ e
  rw [← e]
  exact Below.refl _ _
 ·rcases Nat.eq_zero_or_pos m.length with h0 | h0
  ·have r2 := run_append_room (P := Tryz.prog) (w := w) E.ts ty E.t i K.hu i1 g 0 0 #[] hbox ad m.length c (flat E m) (by rw [flat_length K,i3]) h4 (flat_cell K m) (by omega) (by rw [flat_length K,h0]; simp)
   rw [r2] at r
   injection r with _ e
   rw [← e]
   have hf : flat E m = [] := List.eq_nil_of_length_eq_zero (by rw [flat_length K,h0]; simp)
   have hs := Box.set hbox ((#[] : Array Value).toList.take (0 * i.size) ++ flat E m ++ (#[] : Array Value).toList.drop (0 * i.size + (flat E m).length)).toArray
   refine ⟨rfl,rfl,rfl,by simp [World.setRow],fun k hk => ?_⟩
   by_cases hkg : k = g
   ·subst hkg
    refine hs.trans ?_
    rw [hf]
    simpa using hbox.symm
   ·exact setRow_other w g k _ hkg
  ·have r2 := run_append_grow (P := Tryz.prog) (w := w) E.ts ty E.t i E.z K.hu i1 i2 ⟨g,0,none⟩ 0 0 [] (by simp) (fun j v h => by simp at h) ad m.length c (flat E m) (by rw [flat_length K,i3]) h4 (by omega) (by omega) (by
    rw [Nat.zero_add,nextslicecap_zero h0,i4]
    exact Nat.le_trans (Nat.mul_le_mul hm K.few) (by decide))
   rw [r2] at r
   injection r with _ e
   rw [← e]
   exact (Below.refl _ _).drew.alloc (Nat.le_refl _) _
end Go.Proofs.YtmklifheakemeaaGreat.Rw
