/-
  A broker's rows lie in no block that holds a broker: what a store into. Conditions as told.
-/
import Derived.Test.YtmklifheakemeaaGreatfr013
import Derived.Test.YtmklifheakemeaaGreatfr006
import Derived.Deep.RegionLaw
import Derived.Lib.QuietBelow
import Derived.BigQuiet
import Derived.Test.YtmklifheakemeaaGreatfr010
import Derived.Test.YtmklifheakemeaaGreatfr015
import Derived.Test.YtmklifheakemeaaGreatfr011
import Derived.Test.YtmklifheakemeaaGreatfr008
import Derived.Test.YtmklifheakemeaaGreatfr001
import Derived.Test.YtmklifheakemeaaGreatfr000
import Derived.Test.YtmklifheakemeaaGreatfr002
set_option maxRecDepth 100000
set_option maxHeartbeats 64000000
namespace Go.Proofs.YtmklifheakemeaaGreat.Bk
open Go.RowKit Rw YtmklifheakemeaaGreat.Nm Pr
theorem cell_box {W : World} {b : Nat} {cs : Array Value} {t : TypeId} (hb : Box W b cs t) {a : Addr} {v : Value} (h : W.cell? a = some v) (e : a.block = b) : cs[a.off]? = some v := by
 unfold World.cell? at h
 unfold Box at hb
 rw [e,hb] at h
 have h2 : a.spot = none ∧ cs[a.off]? = some v := by simpa using h
 exact h2.2
theorem cell_keep {W W' : World} {b : Nat} (hk : ∀ j,j < W.heap.size → j ≠ b → W'.heap[j]? = W.heap[j]?) {a : Addr} {v : Value} (h : W.cell? a = some v) (e : a.block ≠ b) : W'.cell? a = some v := by
 have hlt := World.block_lt_of_cell? W _ h
 unfold World.cell? at h ⊢
 rw [hk _ hlt e]
 exact h
theorem add_blk (a : Addr) (j : Nat) : (a.add j).block = a.block := by unfold Addr.add; split <;> rfl
theorem row_keep {α : Type} {E : Ek α} (_K : E.Ok) {W W' : World} {b : Nat} {v : Value} {l : List α} (h : Row E W v l) (hk : ∀ j,j < W.heap.size → j ≠ b → W'.heap[j]? = W.heap[j]?) (hno : ∀ (a : Addr) (c : α),(∀ j u,(E.cells c)[j]? = some u → W.cell? (a.add j) = some u) → a.block ≠ b) : Row E W' v l := by
 rcases h with h | ⟨a,cap,h1,h2,h3,h4⟩
 ·exact Or.inl h
 ·refine Or.inr ⟨a,cap,h1,h2,h3,fun j u hj => ?_⟩
  cases l with
  | nil => simp [flat] at hj
  | cons c r =>
   have hne : a.block ≠ b := hno a c fun j u hj => h4 j u (by
    rw [flat,List.getElem?_append_left (by exact (List.getElem?_eq_some_iff.1 hj).1)]
    exact hj)
   exact cell_keep hk (h4 j u hj) (by rw [add_blk]; exact hne)
theorem two_ints {α : Type} {E : Ek α} {W : World} {b : Nat} {cs : Array Value} {t : TypeId} (hb : Box W b cs t) (hE : ∀ c : α,∃ i j : Int,(E.cells c)[0]? = some (.int .i64 i) ∧ (E.cells c)[1]? = some (.int .i64 j)) (hcs : ∀ (k : Nat) (i j : Int),cs[k]? = some (.int .i64 i) → cs[k + 1]? = some (.int .i64 j) → False) (a : Addr) (c : α) (h : ∀ j u,(E.cells c)[j]? = some u → W.cell? (a.add j) = some u) : a.block ≠ b := fun e => by
 obtain ⟨i,j,h0,h1⟩ := hE c
 have c0 := cell_box hb (h 0 _ h0) (by rw [add_blk]; exact e)
 have c1 := cell_box hb (h 1 _ h1) (by rw [add_blk]; exact e)
 have o0 : (a.add 0).off = a.off := by rw [Addr.add_zero']
 have o1 : (a.add 1).off = a.off + 1 := by rw [add_pos _ _ (by decide)]
 rw [o0] at c0
 rw [o1] at c1
 exact hcs a.off i j c0 c1
theorem no_text {W : World} {b : Nat} {cs : Array Value} {t : TypeId} (hb : Box W b cs t) (hcs : ∀ (k : Nat) (s : ByteArray),cs[k]? ≠ some (.string s)) (a : Addr) (c : C5) (h : ∀ j u,(EC.cells c)[j]? = some u → W.cell? (a.add j) = some u) : a.block ≠ b := fun e => by
 have c0 := cell_box hb (h 0 _ rfl) (by rw [add_blk]; exact e)
 exact hcs _ _ c0
theorem br_ints (me : Int) (s1 s2 s3 s4 s5 : Sl) : ∀ (k : Nat) (i j : Int),(brcells me s1 s2 s3 s4 s5)[k]? = some (.int .i64 i) → (brcells me s1 s2 s3 s4 s5)[k + 1]? = some (.int .i64 j) → False := by
 intro k i j h1 h2
 match k with
 | 0 => simp at h2
 | 1 => simp at h1
 | 2 => simp at h1
 | 3 => simp at h1
 | 4 => simp at h1
 | 5 => simp at h1
 | k + 6 => simp at h1
theorem br_text (me : Int) (s1 s2 s3 s4 s5 : Sl) : ∀ (k : Nat) (s : ByteArray),(brcells me s1 s2 s3 s4 s5)[k]? ≠ some (.string s) := by
 intro k s h
 match k with
 | 0 => simp at h
 | 1 => simp at h
 | 2 => simp at h
 | 3 => simp at h
 | 4 => simp at h
 | 5 => simp at h
 | k + 6 => simp at h
theorem brin_keep {W W' : World} {k : Nat} {me : Int} {s1 s2 s3 s4 s5 : Sl} {b : Br} {nv av sv ev ov : Sl} (h : BrIn W b nv av sv ev ov) (hb : Box W k (brcells me s1 s2 s3 s4 s5) 28) (hk : ∀ j,j < W.heap.size → j ≠ k → W'.heap[j]? = W.heap[j]?) (hn : RowI W' (slv nv) b.near) : BrIn W' b nv av sv ev ov where
 near := hn
 adv := by
  obtain ⟨l,h1,h2⟩ := h.adv
  exact ⟨l,row_keep okD h1 hk (two_ints hb (fun c => ⟨_,_,rfl,rfl⟩) (br_ints me s1 s2 s3 s4 s5)),h2.mono fun x a hx => ⟨hx.1,hx.2.1,row_keep okC hx.2.2 hk (no_text hb (br_text me s1 s2 s3 s4 s5))⟩⟩
 seen := row_keep okJ h.seen hk (two_ints hb (fun c => ⟨_,_,rfl,rfl⟩) (br_ints me s1 s2 s3 s4 s5))
 ent := by
  obtain ⟨l,h1,h2⟩ := h.ent
  exact ⟨l,row_keep okN h1 hk (two_ints hb (fun c => ⟨_,_,rfl,rfl⟩) (br_ints me s1 s2 s3 s4 s5)),h2.mono fun x a hx => ⟨hx.1,hx.2.1,hx.2.2.1,hx.2.2.2.1,row_keep okC hx.2.2.2.2 hk (no_text hb (br_text me s1 s2 s3 s4 s5))⟩⟩
 own := by
  obtain ⟨l,h1,h2⟩ := h.own
  exact ⟨l,row_keep okW h1 hk (two_ints hb (fun c => ⟨_,_,rfl,rfl⟩) (br_ints me s1 s2 s3 s4 s5)),h2.mono fun x a hx => ⟨hx.1,row_keep okC hx.2 hk (no_text hb (br_text me s1 s2 s3 s4 s5))⟩⟩
end Go.Proofs.YtmklifheakemeaaGreat.Bk
namespace Go.Proofs.YtmklifheakemeaaGreat.Bk
open Go.RowKit Go.Sort Rw YtmklifheakemeaaGreat.Nm Pr
theorem storeBr {W : World} {b : Nat} {z0 z1 z2 z3 z4 z5 : Value} (h : Box W b #[z0,z1,z2,z3,z4,z5] 28) (me : Int) (o1 o2 o3 o4 o5 : Option Addr) (n1 c1 n2 c2 n3 c3 n4 c4 n5 c5 : Nat) :
  (Instr.storeAt 28 (.pointer (some ⟨b,0,none⟩)) (.agg #[.int .i64 me,.slice o1 n1 c1,.slice o2 n2 c2,.slice o3 n3 c3,.slice o4 n4 c4,.slice o5 n5 c5])).run Tryz.prog W = .ok () (setB W b (.int .i64 me) (.slice o1 n1 c1) (.slice o2 n2 c2) (.slice o3 n3 c3) (.slice o4 n4 c4) (.slice o5 n5 c5)) := by
 obtain ⟨x0,x1,x2,x3,x4,x5⟩ := h.cs6
 obtain ⟨f0,f1,f2,f3,f4,f5⟩ := h.fs6
 simp [go_sem,x0,x1,x2,x3,x4,x5,f0,f1,f2,f3,f4,f5]
theorem ex_call3g {P : Program} (ρ : Operand → Value) (o : Oper) (x y z : Operand) (t s r : TypeId) (f : FuncId) (ho : o.op = .call { callee := .value (.func f),args := #[x,y,z],argTypes := #[t,s,r] }) {v u q : Value} (hx : ρ x = v) (hy : ρ y = u) (hz : ρ z = q) (hf : ρ (.func f) = .func (.func f) #[] #[]) (w : World)
  (hc : (callFunc f #[v,u,q]).run P w = .ok (.enter f #[v,u,q]) w) : (execOp ρ o).run P w = .ok (.enter f #[v,u,q]) w := by
 simp [execOp,ho,resolve,invoke,hx,hy,hz,hf,Deferred.ofValue,hc]
end Go.Proofs.YtmklifheakemeaaGreat.Bk
namespace Go.Proofs.YtmklifheakemeaaGreat.Av
open Go.RowKit Rw YtmklifheakemeaaGreat.Nm Pr Bk
theorem findI_none (l : List XID) (x : XID) (h : ∀ (j : Nat) (y : XID),l[j]? = some y → y ≠ x) : findI l x = -1 := by
 induction l with
 | nil => rfl
 | cons a l ih =>
  rw [findI,if_neg (h 0 a rfl),ih fun j y hj => h (j + 1) y (by simpa using hj),if_pos rfl]
theorem findI_at (l : List XID) (k : Nat) (x : XID) (h : l[k]? = some x) (hall : ∀ (j : Nat) (z : XID),j < k → l[j]? = some z → z ≠ x) : findI l x = k := by
 induction l generalizing k with
 | nil => simp at h
 | cons a l ih =>
  cases k with
  | zero =>
   obtain rfl : a = x := by simpa using h
   rw [findI,if_pos rfl]
   rfl
  | succ k =>
   have h2 := ih k (by simpa using h) fun j z hj hz => hall (j + 1) z (by omega) (by simpa using hz)
   rw [findI,if_neg (hall 0 a (by omega) rfl),h2,if_neg (by omega)]
   omega
theorem findI_in (l : List XID) (x : XID) : decide ((0 : Int) ≤ findI l x) = decide (x ∈ l) := by
 induction l with
 | nil => simp [findI]
 | cons a l ih =>
  have hb := findI_bd l x
  rw [findI]
  by_cases h : a = x
  ·rw [if_pos h]; simp [h]
  ·rw [if_neg h]
   have h' : ¬ x = a := fun e => h e.symm
   simp only [List.mem_cons,h',false_or]
   rw [← ih]
   by_cases h2 : findI l x = -1
   ·rw [if_pos h2,h2]
   ·rw [if_neg h2]
    have h3 : 0 ≤ findI l x := by omega
    have h4 : 0 ≤ findI l x + 1 := by omega
    simp [h3,h4]
theorem index_any (sv : Sl) (l : List XID) (x : XID) (w : World) (hs : RowJ w (slv sv) l) :
  Calls Tryz.prog 128 #[slv sv,idv x] w fun e w' => e = .returned (.int .i64 (findI l x)) ∧ Below w.heap.size w w' := by
 obtain ⟨c,d⟩ := x
 obtain ⟨so,sn,sc⟩ := sv
 obtain ⟨ao,ac,hv⟩ := hs.len
 have hv : Value.slice so sn sc = .slice ao l.length ac := hv
 obtain ⟨rfl,rfl,rfl⟩ : so = ao ∧ sn = l.length ∧ sc = ac := by simpa using hv
 have h0 := newB w (.cells #[.int .i64 c,.int .i64 d] 31)
 have h2 := box_new w #[.int .i64 c,.int .i64 d] 31
 have B := Lib.hid h0
 have HS := Lib.hid (hs.on h0)
 have X3 := Lib.hid h2
 have lm := hs.most
 unfold maxLen at lm
 obtain ⟨n,hn⟩ : ∃ n,n = l.length := ⟨_,rfl⟩
 rw [← hn] at HS lm ⊢
 have HN := Lib.hid hn.symm
 clear h0 h2 hs hv hn
 go_enter Tryz.func128,Tryz.ntmps128
 go_upto_region 1 with fail
 generalize w.alloc (.cells #[.int .i64 c,.int .i64 d] 31) = W at *
 go_wp2
 go_loopw [8] (fun i wr => ∃ k : Nat,k ≤ n ∧ i = .int .i64 k ∧ Below W.heap.size W wr ∧ ∀ (j : Nat) (y : XID),j < k → l[j]? = some y → y ≠ (c,d)) (fun i _ => n - (intOf i).toNat)
 case atStart => exact ⟨0,Nat.zero_le _,rfl,Below.refl _ _,fun j y h => by omega⟩
 case round =>
  obtain ⟨k,hk,rfl,hbe,hall⟩ := hrel
  have BE := Lib.hid hbe
  have AL := Lib.hid hall
  clear hbe hall
  by_cases hlt : k < n
  ·obtain ⟨y,hy⟩ : ∃ y,l[k]? = some y := ⟨_,List.getElem?_eq_getElem (by rw [HN.out]; exact hlt)⟩
   obtain ⟨p,ix,px⟩ := elJ HS.out rfl HN.out hy
   have DD : Below W.heap.size W wr.drew := BE.out.drew
   obtain ⟨p0,p1⟩ := px wr BE.out
   obtain ⟨y1,y2⟩ := y
   simp only at p0 p1
   obtain ⟨x0,x1⟩ := (X3.out.on BE.out).cs2
   have hw3 : IntKind.i64.wrap ((k : Int) + 1) = (k : Int) + 1 := IntWalk.i64_in _ (by omega)
   obtain ⟨r,hr⟩ : ∃ r,(c == y1 && d == y2) = r := ⟨_,rfl⟩
   have he := eqId c d y1 y2 r hr
   have DB := Lib.hid DD
   have HY := Lib.hid hy
   have HR := Lib.hid hr
   clear px hy hr DD
   cases r
   ·go_wp2_with fail
    go_quiet (fail)
    go_wp2
    go_roundw
    case rel => exact ⟨k + 1,by omega,by go_num,⟨BE.out.os,BE.out.tape,BE.out.output,BE.out.size,BE.out.block⟩,fun j y' hj h1 => by
     rcases Nat.lt_or_ge j k with h3 | h3
     ·exact AL.out j y' h3 h1
     ·obtain rfl : j = k := by omega
      have e1 := HY.out
      rw [h1] at e1
      rw [Option.some.inj e1]
      intro e
      obtain ⟨rfl,rfl⟩ : y1 = c ∧ y2 = d := by simpa using e
      have := HR.out
      simp at this⟩
    case measure => simp [intOf]; omega
   ·go_wp2_with fail
    go_quiet (fail)
    go_wp2
    go_ret
    have h8 := HR.out
    obtain ⟨rfl,rfl⟩ : c = y1 ∧ d = y2 := by simpa using h8
    exact ⟨by rw [findI_at l k (c,d) HY.out AL.out]; rfl,B.out.trans (Below.mono ⟨BE.out.os,BE.out.tape,BE.out.output,BE.out.size,BE.out.block⟩ B.out.size)⟩
  ·obtain rfl : k = n := by omega
   go_wp2
   go_ret
   have hd : findI l (c,d) = -1 := findI_none l (c,d) fun j y hj => AL.out j y (by rw [← HN.out]; exact (List.getElem?_eq_some_iff.1 hj).1) hj
   exact ⟨by rw [hd]; rfl,B.out.trans (BE.out.mono B.out.size)⟩
theorem contains_any (sv : Sl) (l : List XID) (x : XID) (w : World) (hs : RowJ w (slv sv) l) :
  Calls Tryz.prog 88 #[slv sv,idv x] w fun e w' => e = .returned (.bool (decide (x ∈ l))) ∧ Below w.heap.size w w' := by
 have h0 := newB w (.cells #[.int .i64 x.1,.int .i64 x.2] 31)
 have h2 := box_new w #[.int .i64 x.1,.int .i64 x.2] 31
 have C := index_any sv l x _ (hs.on h0)
 have R := Lib.hid (findI_in l x)
 obtain ⟨c,d⟩ := x
 obtain ⟨so,sn,sc⟩ := sv
 have B := Lib.hid h0
 obtain ⟨x0,x1⟩ := h2.cs2
 generalize findI l (c,d) = r at *
 generalize decide ((c,d) ∈ l) = s at *
 clear h0 h2 hs
 go_enter Tryz.func88,Tryz.ntmps88
 go_wp2_with fail
 refine C.mono ?_
 rintro e w1 ⟨rfl,hb⟩
 go_wp2
 go_ret
 exact ⟨by have h := R.out; subst h; rfl,B.out.trans (hb.mono B.out.size)⟩
theorem aseen_any (me : Int) (nv av ev ov : Value) (sv : Sl) (l : List XID) (x : XID) (w : World) (hs : RowJ w (slv sv) l) :
  Calls Tryz.prog 31 #[.agg #[.int .i64 me,nv,av,slv sv,ev,ov],idv x] w fun e w' => e = .returned (.bool (decide (x ∈ l))) ∧ Below w.heap.size w w' := by
 obtain ⟨h0,h1,h2⟩ := two_new w #[.int .i64 me,nv,av,slv sv,ev,ov] #[.int .i64 x.1,.int .i64 x.2] 28 31
 have C := contains_any sv l x _ (hs.on h0)
 obtain ⟨c,d⟩ := x
 obtain ⟨so,sn,sc⟩ := sv
 have B := Lib.hid h0
 have b3 := h1.cell 3
 obtain ⟨x0,x1⟩ := h2.cs2
 simp only [List.getElem?_toArray,List.getElem?_cons_zero,List.getElem?_cons_succ] at b3
 generalize decide ((c,d) ∈ l) = s at *
 clear h0 h1 h2 hs
 go_enter Tryz.func31,Tryz.ntmps31
 go_wp2_with fail
 refine C.mono ?_
 rintro e w1 ⟨rfl,hb⟩
 go_wp2
 go_ret
 exact ⟨rfl,B.out.trans (hb.mono B.out.size)⟩
end Go.Proofs.YtmklifheakemeaaGreat.Av
namespace Go.Proofs.YtmklifheakemeaaGreat.Av
open Go.RowKit Rw YtmklifheakemeaaGreat.Nm Pr Bk Go.Sort
theorem put_take {α : Type} [Inhabited α] (enc : α → Value) (d : Array α) (cur : Array Value) (h : d.size ≤ cur.size) : (putCells enc 0 d cur).toList.take d.size = d.toList.map enc := by
 apply List.ext_getElem?
 intro j
 rw [List.getElem?_take]
 by_cases hj : j < d.size
 ·have hc : j < cur.size := by omega
  simp [putCells,hj,hc]
 ·simp [hj]
theorem own_sorted {α β : Type} [Inhabited β] {E : Ek α} (K : E.Ok) {w : World} {B g cap : Nat} {l l' : List α} (h : Own E w B (.slice (some ⟨g,0,none⟩) l.length cap) l) (enc : β → Value) (d : Array β) (hd : d.toList.map enc = flat E l') (hl : l'.length = l.length) (n : Nat) (os : Array Obj) :
  Own E (grow (putRow enc (Sort.ahead w n) g 0 d) os) B (.slice (some ⟨g,0,none⟩) l.length cap) l' ∧ w.grownBy (grow (putRow enc (Sort.ahead w n) g 0 d) os) (some g) := by
 have hds : d.size = l.length * E.n := by
  rw [← hl,← flat_length K l',← hd]
  simp
 rcases own_open h with ⟨e,_⟩ | ⟨g',cap',cur,e,h1,h2,h3,h4,h5,h6⟩
 ·cases e
 obtain ⟨rfl,rfl⟩ : g = g' ∧ cap = cap' := by simpa using e
 have hlt := lt_of_heap h2
 have hb : (grow (putRow enc (Sort.ahead w n) g 0 d) os).heap[g]? = some (.cells (putCells enc 0 d cur) E.t (0,0)) := by
  rw [heap_grow_old _ _ (by simp [putRow,mapBlock,Sort.ahead]; exact hlt)]
  unfold Box at h2
  simp only [putRow,mapBlock,Sort.ahead,Array.getElem?_modify,if_true,h2]
  rfl
 have hfit : d.size ≤ cur.size := by
  rw [hds,h5]
  exact Nat.mul_le_mul_right _ h3
 refine ⟨⟨by rw [flat_length K],Or.inr ⟨g,cap,_,by rw [hl],h1,hb,by rw [hl]; exact h3,h4,by simp [putCells]; exact h5,?_⟩⟩,⟨rfl,rfl,rfl,by simp [putRow,mapBlock,Sort.ahead],fun k hk hne => ?_⟩⟩
 ·rw [hl,← hds,put_take enc d cur hfit,hd]
 ·rw [heap_grow_old _ _ (by simp [putRow,mapBlock,Sort.ahead]; exact hk)]
  have hkg : g ≠ k := fun e => hne (by rw [e])
  simp [putRow,mapBlock,Sort.ahead,Array.getElem?_modify,hkg]
theorem holds_own {α : Type} {E : Ek α} {w : World} {B g cap : Nat} {l : List α} (K : E.Ok) {β : Type} [Inhabited β] (enc : β → Value) (d : Array β) (hd : d.toList.map enc = flat E l) (h : Own E w B (.slice (some ⟨g,0,none⟩) l.length cap) l) : Holds enc w g 0 d ∧ g < w.heap.size := by
 rcases own_open h with ⟨e,_⟩ | ⟨g',cap',cur,e,h1,h2,h3,h4,h5,h6⟩
 ·cases e
 obtain ⟨rfl,rfl⟩ : g = g' ∧ cap = cap' := by simpa using e
 refine ⟨fun j hj => ?_,h2.lt⟩
 rw [Nat.zero_add]
 refine ⟨?_,h2.fr j⟩
 rw [h2.cell j]
 have hsz : d.size = l.length * E.n := by
  rw [← flat_length K l,← hd]
  simp
 have h7 : (cur.toList.take (l.length * E.n))[j]? = (d.toList.map enc)[j]? := by rw [h6,hd]
 rw [List.getElem?_take,if_pos (by omega)] at h7
 rw [Array.getElem?_toList] at h7
 rw [h7,List.getElem?_map,Array.getElem?_toList,getElem!_pos d j hj,Array.getElem?_eq_getElem hj]
 rfl
theorem sortI_any (w : World) (B : Nat) (v : Value) (l : List Int) (h : OwnI w B v l) (hlen : l.length ≤ 900) : Calls Tryz.prog 33 #[v] w fun e w' => e = .returned (.tuple #[]) ∧ ∃ l' : List Int,OwnI w' B v l' ∧ l'.Perm l ∧ l'.Pairwise (· ≤ ·) ∧ w.grownBy w' v.ownBlock := by
 rcases own_open h with ⟨rfl,rfl⟩ | ⟨g,cap,cur,rfl,h1,h2,h3,h4,h5,h6⟩
 ·have hc := Any.slices_Sort_int_none Tryz.sortI none 0 w
  refine Calls.mono hc ?_
  rintro e w' ⟨rfl,rfl⟩
  exact ⟨rfl,[],h,List.Perm.refl _,List.Pairwise.nil,Rw.grown_refl _ _⟩
 ·obtain ⟨hh,hlt⟩ := holds_own Nm.okI (Value.int .i64) l.toArray (by rw [flatI]) h
  have hc := Any.slices_Sort_int Tryz.sortI g 0 cap l w hh hlt (by omega)
  refine Calls.mono hc ?_
  rintro e w' ⟨rfl,n,os,rfl⟩
  have hs := own_sorted Nm.okI (l' := l.mergeSort fun x y => decide (x ≤ y)) h (Value.int .i64) (l.mergeSort fun x y => decide (x ≤ y)).toArray (by rw [flatI]) (List.length_mergeSort l) n os
  refine ⟨rfl,_,hs.1,List.mergeSort_perm _ _,?_,hs.2⟩
  have hp := List.pairwise_mergeSort (le := fun x y : Int => decide (x ≤ y)) (fun a b c h1 h2 => by simp at h1 h2 ⊢; omega) (fun a b => by simp; omega) l
  exact hp.imp (fun {a b} hab => by simpa using hab)
theorem cpt_step (d : Array Int) (n : Nat) (hs : ∀ i j,i ≤ j → j < n → d[i]! ≤ d[j]!) : ∀ m,m ≤ n → (∀ x ∈ Lib.compactUpTo d m,∃ j,j < m ∧ d[j]! = x) ∧ (∀ j,j < m → d[j]! ∈ Lib.compactUpTo d m) ∧ (Lib.compactUpTo d m).Pairwise (· < ·)
 | 0,_ => ⟨fun x h => by simp [Lib.compactUpTo] at h,fun j h => by omega,by simp [Lib.compactUpTo]⟩
 | m + 1,hm => by
  obtain ⟨h1,h2,h3⟩ := cpt_step d n hs m (by omega)
  rw [Lib.compactUpTo_succ]
  cases hk : Lib.keeps d m with
  | false =>
   simp only [Bool.false_eq_true,if_false,List.append_nil]
   have hk' : m ≠ 0 ∧ d[m]! = d[m - 1]! := by
    have h := of_decide_eq_false hk
    rw [not_or] at h
    exact ⟨h.1,Classical.not_not.1 h.2⟩
   refine ⟨fun x hx => ?_,fun j hj => ?_,h3⟩
   ·obtain ⟨j,hj,e⟩ := h1 x hx
    exact ⟨j,by omega,e⟩
   ·rcases Nat.lt_or_ge j m with h | h
    ·exact h2 j h
    ·obtain rfl : j = m := by omega
     rw [hk'.2]
     exact h2 _ (by omega)
  | true =>
   simp only [if_true]
   have hk' : m = 0 ∨ d[m]! ≠ d[m - 1]! := of_decide_eq_true hk
   refine ⟨fun x hx => ?_,fun j hj => ?_,?_⟩
   ·rcases List.mem_append.1 hx with h | h
    ·obtain ⟨j,hj,e⟩ := h1 x h
     exact ⟨j,by omega,e⟩
    ·exact ⟨m,by omega,(List.mem_singleton.1 h).symm⟩
   ·rcases Nat.lt_or_ge j m with h | h
    ·exact List.mem_append_left _ (h2 j h)
    ·obtain rfl : j = m := by omega
     exact List.mem_append_right _ (by simp)
   ·rw [List.pairwise_append]
    refine ⟨h3,List.pairwise_singleton _ _,fun a ha b hb => ?_⟩
    obtain ⟨j,hj,rfl⟩ := h1 a ha
    rw [List.mem_singleton.1 hb]
    have a1 := hs j (m - 1) (by omega) (by omega)
    have a2 := hs (m - 1) m (by omega) (by omega)
    rcases hk' with h | h
    ·omega
    ·omega
theorem compact_is (l : List Int) (hs : l.Pairwise (· ≤ ·)) : (Lib.compact l).Pairwise (· < ·) ∧ (∀ x,x ∈ Lib.compact l ↔ x ∈ l) ∧ (Lib.compact l).length ≤ l.length := by
 have hd : ∀ i j,i ≤ j → j < l.length → l.toArray[i]! ≤ l.toArray[j]! := by
  intro i j hij hj
  rw [getElem!_pos l.toArray i (by simp; omega),getElem!_pos l.toArray j (by simpa using hj)]
  rcases Nat.lt_or_ge i j with h | h
  ·have := List.pairwise_iff_getElem.1 hs i j (by omega) hj h
   simpa using this
  ·obtain rfl : i = j := by omega
   exact Int.le_refl _
 obtain ⟨h1,h2,h3⟩ := cpt_step l.toArray l.length hd l.length (Nat.le_refl _)
 refine ⟨h3,fun x => ⟨fun hx => ?_,fun hx => ?_⟩,?_⟩
 ·obtain ⟨j,hj,rfl⟩ := h1 x hx
  rw [getElem!_pos l.toArray j (by simpa using hj)]
  simp
 ·obtain ⟨j,hj,rfl⟩ := List.mem_iff_getElem.1 hx
  have := h2 j hj
  rw [getElem!_pos l.toArray j (by simpa using hj)] at this
  simpa [Lib.compact] using this
 ·unfold Lib.compact Lib.compactUpTo
  rw [List.length_map]
  exact Nat.le_trans (List.length_filter_le _ _) (by simp)
theorem cptI_any (w : World) (B : Nat) (v : Sl) (l : List Int) (h : OwnI w B (slv v) l) (hs : l.Pairwise (· ≤ ·)) (hlen : l.length ≤ 900) : Calls Tryz.prog 34 #[slv v] w fun e w' => (∃ v' : Sl,e = .returned (slv v') ∧ ∃ l' : List Int,OwnI w' B (slv v') l' ∧ l'.Pairwise (· < ·) ∧ ∀ x,x ∈ l' ↔ x ∈ l) ∧ w.grownBy w' (slv v).ownBlock := by
 obtain ⟨vo,vn,vc⟩ := v
 rcases own_open h with ⟨h0,rfl⟩ | ⟨g,cap,cur,h0,h1,h2,h3,h4,h5,h6⟩
 ·obtain ⟨rfl,rfl,rfl⟩ : vo = none ∧ vn = 0 ∧ vc = 0 := by simpa using h0
  have hc := Any.slices_Compact_int_empty Tryz.cptI none 0 w
  refine Calls.mono hc ?_
  rintro e w' ⟨rfl,rfl⟩
  exact ⟨⟨(none,0,0),rfl,[],h,List.Pairwise.nil,fun _ => Iff.rfl⟩,Rw.grown_refl _ _⟩
 ·obtain ⟨rfl,rfl,rfl⟩ : vo = some ⟨g,0,none⟩ ∧ vn = l.length ∧ vc = cap := by simpa using h0
  obtain ⟨hh,hlt⟩ := holds_own Nm.okI (Value.int .i64) l.toArray (by rw [flatI]) h
  have hc := Any.slices_Compact_int Tryz.cptI g 0 vc l w hh (by omega) h3
  obtain ⟨c1,c2,c3⟩ := compact_is l hs
  refine Calls.mono hc ?_
  rintro e w' ⟨rfl,n,rfl⟩
  have ht := own_sorted Nm.okI (l' := Lib.compact l ++ List.replicate (l.length - (Lib.compact l).length) 0) h (Value.int .i64) (Lib.compact l ++ List.replicate (l.length - (Lib.compact l).length) 0).toArray (by rw [flatI]) (by rw [List.length_append,List.length_replicate]; omega) n #[]
  have hg : grow (putRow (Value.int .i64) (Sort.ahead w n) g 0 (Lib.compact l ++ List.replicate (l.length - (Lib.compact l).length) 0).toArray) #[] = putRow (Value.int .i64) (Sort.ahead w n) g 0 (Lib.compact l ++ List.replicate (l.length - (Lib.compact l).length) 0).toArray := grow_empty _
  rw [hg] at ht
  refine ⟨⟨(some ⟨g,0,none⟩,(Lib.compact l).length,vc),rfl,Lib.compact l,?_,c1,c2⟩,ht.2⟩
  rcases own_open ht.1 with ⟨e,_⟩ | ⟨g',cap',cur',e,k1,k2,k3,k4,k5,k6⟩
  ·cases e
  ·obtain ⟨rfl,_,rfl⟩ : g = g' ∧ l.length = _ ∧ vc = cap' := by simpa using e
   refine own_shut Nm.okI rfl k1 k2 (Nat.le_trans c3 h3) k4 k5 ?_
   have k7 := congrArg (List.take ((Lib.compact l).length * EI.n)) k6
   rw [List.take_take,flat_take Nm.okI,Nat.min_eq_left (Nat.mul_le_mul_right _ (by rw [List.length_append]; omega)),List.take_left'] at k7
   ·exact k7
   ·rfl
end Go.Proofs.YtmklifheakemeaaGreat.Av
namespace Go.Proofs.YtmklifheakemeaaGreat.Pr
open Go.RowKit Pu Rw Va Kp In
end Go.Proofs.YtmklifheakemeaaGreat.Pr
namespace Go.Proofs.YtmklifheakemeaaGreat.Pr
open Go.RowKit Pu Rw Va Kp
def smallC (c : Cn) : Prop := c.1.size ≤ 100 ∧ (kT c.2).size ≤ 100 ∧ (-9223372036854775808 ≤ kLo c.2 ∧ kLo c.2 ≤ 9223372036854775807) ∧ (-9223372036854775808 ≤ kHi c.2 ∧ kHi c.2 ≤ 9223372036854775807)
def SmallP (l : List Cn) : Prop := l.length ≤ 100 ∧ ∀ c ∈ l,smallC c
structure NF (l : List Cn) : Prop where
 rise : RiseC l
 five : l.length ≤ 5
 good : ∀ c ∈ l,goodC c = true
 small : ∀ c ∈ l,smallC c
theorem NF.goodK {l : List Cn} (h : NF l) : ∀ c ∈ l,Pr.goodK c.2 = true := fun c hc => by
 have := h.good c hc
 simp only [goodC,Bool.and_eq_true] at this
 exact this.2
theorem r5_inj {a b : Cn} (h : r5 a = r5 b) : a = b := by
 obtain ⟨n,a⟩ := a
 obtain ⟨m,b⟩ := b
 simp only [r5,Prod.mk.injEq] at h
 obtain ⟨rfl,h1,h2,h3,h4⟩ := h
 cases a <;> cases b <;> simp [kN,kLo,kHi,kT] at h1 h2 h3 h4 <;> simp [*]
end Go.Proofs.YtmklifheakemeaaGreat.Pr
namespace Go.Proofs.YtmklifheakemeaaGreat.Rl
open Go.RowKit Pu Pr
def ofC (p : List Cn) (n : ByteArray) : Option Cn := p.find? fun c => decide (c.1 = n)
theorem of_mem {p : List Cn} {n : ByteArray} {y : Cn} (h : ofC p n = some y) : y ∈ p ∧ y.1 = n := ⟨List.mem_of_find?_eq_some h,by simpa using List.find?_some h⟩
theorem of_at {p : List Cn} {n : ByteArray} {k : Nat} {y : Cn} (hk : p[k]? = some y) (he : y.1 = n) (hn : ∀ (j : Nat) (z : Cn),j < k → p[j]? = some z → z.1 ≠ n) : ofC p n = some y := by
 unfold ofC
 rw [List.find?_eq_some_iff_getElem]
 obtain ⟨hlt,hy⟩ := List.getElem?_eq_some_iff.1 hk
 refine ⟨by simpa using he,k,hlt,hy,fun j hj => ?_⟩
 have := hn j p[j] hj (List.getElem?_eq_getElem (by omega))
 simpa using this
theorem of_none {p : List Cn} {n : ByteArray} (hn : ∀ (j : Nat) (z : Cn),j < p.length → p[j]? = some z → z.1 ≠ n) : ofC p n = none := by
 unfold ofC
 rw [List.find?_eq_none]
 intro x hx
 obtain ⟨j,hj,e⟩ := List.getElem_of_mem hx
 have := hn j x hj (by rw [List.getElem?_eq_getElem hj,e])
 simpa using this
def covO (b : List Cn) (x : Cn) : Bool := match ofC b x.1 with
 | some y => impliesK y.2 x.2
 | none => false
theorem covers_of {a b : List Cn} (hb : RiseC b) : coversL a b = a.all (covO b) := by
 unfold coversL
 congr 1
 funext x
 unfold covO
 cases hf : ofC b x.1 with
 | none =>
  rw [List.any_eq_false]
  intro y hy
  have := List.find?_eq_none.1 hf y hy
  simp only [decide_eq_true_eq] at this
  simp [this]
 | some y =>
  obtain ⟨h1,h2⟩ := of_mem hf
  rw [Bool.eq_iff_iff,List.any_eq_true]
  constructor
  ·rintro ⟨z,hz,h3⟩
   simp only [Bool.and_eq_true,decide_eq_true_eq] at h3
   rw [uniqC hb h1 hz (h2.trans h3.1.symm)]
   exact h3.2
  ·intro h3
   exact ⟨y,h1,by simp [h2,h3]⟩
theorem wider_some {n : ByteArray} {c d k : Kd} (hc : goodK c = true) (hd : goodK d = true) (h : bothK c d = some k) : eqlC (r5 (n,k)) (r5 (n,d)) = impliesK d c := by
 obtain ⟨k1,k2⟩ := both_some c d k hc hd h
 rw [Bool.eq_iff_iff,eqlC_iff]
 constructor
 ·intro e
  have e2 := r5_inj e
  obtain rfl : k = d := congrArg Prod.snd e2
  exact holds_implies k c hd fun v hv => by rw [k2,Bool.and_eq_true] at hv; exact hv.1
 ·intro hi
  have : k = d := same_holds k d k1 hd fun v => by
   rw [k2,Bool.eq_iff_iff,Bool.and_eq_true]
   exact ⟨fun h => h.2,fun h => ⟨implies_holds d c hi v h,h⟩⟩
  rw [this]
theorem wider_none {c d : Kd} (hd : goodK d = true) (h : bothK c d = none) : impliesK d c = false := by
 rw [Bool.eq_false_iff]
 intro hi
 obtain ⟨v,hv⟩ := some_holds d hd
 have := both_none c d h v
 rw [hv,implies_holds d c hi v hv] at this
 cases this
/-! ### samples -/
/-! ### both together -/
end Go.Proofs.YtmklifheakemeaaGreat.Rl
namespace Go.Proofs.YtmklifheakemeaaGreat.Rg
open Go.RowKit Rw
end Go.Proofs.YtmklifheakemeaaGreat.Rg
namespace Go.Proofs.YtmklifheakemeaaGreat.Rg
open Go.RowKit Rw
end Go.Proofs.YtmklifheakemeaaGreat.Rg
namespace Go.Proofs.YtmklifheakemeaaGreat.At
open Go.RowKit Va
/-! ### the publications that numbers make -/
end Go.Proofs.YtmklifheakemeaaGreat.At
namespace Go.Proofs.YtmklifheakemeaaGreat.At
open Go.RowKit Go.Sort Va In
end Go.Proofs.YtmklifheakemeaaGreat.At
