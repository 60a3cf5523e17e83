/-
  put of package adverts: an ID, an advertisement in its place. Conditions as told.
-/
import Derived.Test.YtncogjpmboglhaaGreatG015
import Derived.Test.YtncogjpmboglhaaGreatG014
import Derived.Test.YtncogjpmboglhaaGreatG010
import Derived.Test.YtncogjpmboglhaaGreatG023
import Derived.Laws.IdiomCopy
import Derived.Test.YtncogjpmboglhaaGreatG008
import Derived.Test.YtncogjpmboglhaaGreatG004
import Derived.Test.YtncogjpmboglhaaGreatG013
set_option maxRecDepth 100000
set_option maxHeartbeats 64000000
namespace Go.Proofs.YtncogjpmboglhaaGreat.Av
open Go.RowKit Go.Sort Rw YtncogjpmboglhaaGreat.Nm Pr Bk
theorem place_leJ (l : List XID) (y : XID) : placeK keyJ l y ≤ l.length := by
 rw [placeK_map]
 exact Nat.le_trans (place_le _ _) (by simp)
theorem putJ_any (B : Nat) (v : Sl) (l : List XID) (x : XID) (w : World) (ho : Own EJ w B (slv v) l) (hr : RiseK keyJ l) (hl : l.length ≤ 900) (hB : B ≤ w.heap.size) :
  Calls Tryz.prog 86 #[slv v,idv x,.func (.func 39) #[] #[]] w fun e w' => (∃ v' : Sl,e = .returned (slv v') ∧ Own EJ w' B (slv v') (insAt l (placeK keyJ l (keyJ x)) x)) ∧ Below B w w' ∧ (∀ j,j < w.heap.size → some j ≠ (slv v).ownBlock → w'.heap[j]? = w.heap[j]?) := by
 have h0 := newB w (.cells #[.int .i64 x.1,.int .i64 x.2] 38)
 have X := box_new w #[.int .i64 x.1,.int .i64 x.2] 38
 have C := Lib.hid (bsJ_any (slv v) l x _ ((Row.of_own ho).on h0) hr hl)
 obtain ⟨ks,hks⟩ : ∃ k,k = placeK keyJ l (keyJ x) := ⟨_,rfl⟩
 have KL : ks ≤ l.length := by rw [hks]; exact place_leJ _ _
 rw [← hks] at C
 rw [← hks]
 generalize thereK keyJ l (keyJ x) = th at *
 have OW := Lib.hid (Bk.own_on ho h0)
 have HV := Lib.hid (show (slv v).ownBlock ≠ none → ∃ g,(slv v).ownBlock = some g ∧ g < w.heap.size from fun hne => by
  cases hb : (slv v).ownBlock with
  | none => exact absurd hb hne
  | some g => exact ⟨g,rfl,(ho.lt g hb).2⟩)
 have B0 := Lib.hid ((Below.refl B w).alloc hB (.cells #[.int .i64 x.1,.int .i64 x.2] 38))
 have BN0 := Lib.hid h0
 have KK := Lib.hid KL
 have LL := Lib.hid hl
 have BB := Lib.hid hB
 clear h0 ho hr hl hB hks KL
 obtain ⟨c1,c2⟩ := x
 obtain ⟨vo,vn,vc⟩ := v
 simp only at C X
 obtain ⟨x0,x1⟩ := X.cs2
 have XX := Lib.hid X
 clear X
 go_enter Tryz.func86,Tryz.ntmps86
 go_wp2_with fail
 have W1 := Lib.hid (show w.heap.size ≤ (w.alloc (.cells #[.int .i64 c1,.int .i64 c2] 38)).heap.size by simp)
 generalize w.alloc (.cells #[.int .i64 c1,.int .i64 c2] 38) = W at *
 refine C.out.mono ?_
 rintro e w1 ⟨rfl,hb⟩
 have Y := XX.out.on hb
 obtain ⟨y0,y1⟩ := Y.cs2
 have O1 := Lib.hid (Bk.own_on OW.out hb)
 have B1 := Lib.hid (B0.out.trans (hb.mono (Nat.le_trans BB.out W1.out)))
 have BW := Lib.hid (fun j (hj : j < w.heap.size) => (hb.block j (Nat.lt_of_lt_of_le hj W1.out)).trans (BN0.out.block j hj))
 have S1 := Lib.hid (Nat.le_trans W1.out hb.size)
 clear C Y hb x0 x1
 go_wp2_with fail
 have hl := LL.out
 have NB := newB w1 (.cells #[.int .i64 c1,.int .i64 c2] 38)
 refine (insert_anyJ B _ l ks (c1,c2) w1.heap.size _ (Bk.own_on O1.out NB) (box_new w1 #[.int .i64 c1,.int .i64 c2] 38) ?_ KK.out (by omega) (Nat.le_trans (Nat.le_trans BB.out S1.out) NB.size)).mono ?_
 ·intro he
  obtain ⟨g,hg,hlt⟩ := HV.out (by rw [he]; simp)
  rw [he] at hg
  have := Option.some.inj hg
  have := S1.out
  omega
 rintro e w2 ⟨v',rfl,ho,hb,hoth⟩
 obtain ⟨a1,a2,hv⟩ := (Row.of_own ho).len
 have Q := Lib.hid (show (∃ v'' : Sl,Ending.returned v' = .returned (slv v'') ∧ Own EJ w2 B (slv v'') (insAt l ks (c1,c2))) ∧ Below B w w2 ∧ (∀ j,j < w.heap.size → some j ≠ (slv (vo,vn,vc)).ownBlock → w2.heap[j]? = w.heap[j]?) from ⟨⟨(a1,_,a2),by rw [hv],by subst hv; simpa [insAt] using ho⟩,(B1.out.trans (NB.mono (Nat.le_trans BB.out S1.out))).trans hb,fun j hj hne => (hoth j (Nat.lt_of_lt_of_le (Nat.lt_of_lt_of_le hj S1.out) NB.size) hne).trans ((NB.block j (Nat.lt_of_lt_of_le hj S1.out)).trans (BW.out j hj))⟩)
 clear ho hb hv hl NB
 go_wp2
 go_ret
 exact Q.out
theorem place_leD (l : List XAd) (y : XID) : placeK keyD l y ≤ l.length := by
 rw [placeK_map]
 exact Nat.le_trans (place_le _ _) (by simp)
theorem putD_any (B : Nat) (v : Sl) (l : List XAd) (x : XAd) (w : World) (ho : Own ED w B (slv v) l) (hr : RiseK keyD l) (hl : l.length ≤ 900) (hB : B ≤ w.heap.size) :
  Calls Tryz.prog 84 #[slv v,valD x,.func (.func 41) #[] #[]] w fun e w' => (∃ v' : Sl,e = .returned (slv v') ∧ Own ED w' B (slv v') (insAt l (placeK keyD l (keyD x)) x)) ∧ Below B w w' ∧ (∀ j,j < w.heap.size → some j ≠ (slv v).ownBlock → w'.heap[j]? = w.heap[j]?) := by
 have h0 := newB w (.cells #[.int .i64 x.1,.int .i64 x.2.1,slv x.2.2.1,.int .i64 x.2.2.2] 41)
 have X := box_new w #[.int .i64 x.1,.int .i64 x.2.1,slv x.2.2.1,.int .i64 x.2.2.2] 41
 have C := Lib.hid (bsD_any (slv v) l x _ ((Row.of_own ho).on h0) hr hl)
 obtain ⟨ks,hks⟩ : ∃ k,k = placeK keyD l (keyD x) := ⟨_,rfl⟩
 have KL : ks ≤ l.length := by rw [hks]; exact place_leD _ _
 have e1 : keyD x = (x.1,x.2.1) := rfl
 rw [← e1] at C
 rw [← hks] at C
 rw [← hks]
 generalize thereK keyD l (keyD x) = th at *
 have OW := Lib.hid (Bk.own_on ho h0)
 have HV := Lib.hid (show (slv v).ownBlock ≠ none → ∃ g,(slv v).ownBlock = some g ∧ g < w.heap.size from fun hne => by
  cases hb : (slv v).ownBlock with
  | none => exact absurd hb hne
  | some g => exact ⟨g,rfl,(ho.lt g hb).2⟩)
 have B0 := Lib.hid ((Below.refl B w).alloc hB (.cells #[.int .i64 x.1,.int .i64 x.2.1,slv x.2.2.1,.int .i64 x.2.2.2] 41))
 have BN0 := Lib.hid h0
 have KK := Lib.hid KL
 have LL := Lib.hid hl
 have BB := Lib.hid hB
 clear h0 ho hr hl hB hks KL
 obtain ⟨c1,c2,⟨c3,c4,c5⟩,c6⟩ := x
 obtain ⟨vo,vn,vc⟩ := v
 simp only at C X
 obtain ⟨x0,x1,x2,x3⟩ := X.cs4
 have XX := Lib.hid X
 clear X
 go_enter Tryz.func84,Tryz.ntmps84
 go_wp2_with fail
 have W1 := Lib.hid (show w.heap.size ≤ (w.alloc (.cells #[.int .i64 c1,.int .i64 c2,.slice c3 c4 c5,.int .i64 c6] 41)).heap.size by simp)
 generalize w.alloc (.cells #[.int .i64 c1,.int .i64 c2,.slice c3 c4 c5,.int .i64 c6] 41) = W at *
 refine C.out.mono ?_
 rintro e w1 ⟨rfl,hb⟩
 have Y := XX.out.on hb
 obtain ⟨y0,y1,y2,y3⟩ := Y.cs4
 have O1 := Lib.hid (Bk.own_on OW.out hb)
 have B1 := Lib.hid (B0.out.trans (hb.mono (Nat.le_trans BB.out W1.out)))
 have BW := Lib.hid (fun j (hj : j < w.heap.size) => (hb.block j (Nat.lt_of_lt_of_le hj W1.out)).trans (BN0.out.block j hj))
 have S1 := Lib.hid (Nat.le_trans W1.out hb.size)
 clear C Y hb x0 x1 x2 x3
 go_wp2_with fail
 have hl := LL.out
 have NB := newB w1 (.cells #[.int .i64 c1,.int .i64 c2,.slice c3 c4 c5,.int .i64 c6] 41)
 refine (insert_anyD B _ l ks (c1,c2,(c3,c4,c5),c6) w1.heap.size _ (Bk.own_on O1.out NB) (box_new w1 #[.int .i64 c1,.int .i64 c2,.slice c3 c4 c5,.int .i64 c6] 41) ?_ KK.out (by omega) (Nat.le_trans (Nat.le_trans BB.out S1.out) NB.size)).mono ?_
 ·intro he
  obtain ⟨g,hg,hlt⟩ := HV.out (by rw [he]; simp)
  rw [he] at hg
  have := Option.some.inj hg
  have := S1.out
  omega
 rintro e w2 ⟨v',rfl,ho,hb,hoth⟩
 obtain ⟨a1,a2,hv⟩ := (Row.of_own ho).len
 have Q := Lib.hid (show (∃ v'' : Sl,Ending.returned v' = .returned (slv v'') ∧ Own ED w2 B (slv v'') (insAt l ks (c1,c2,(c3,c4,c5),c6))) ∧ Below B w w2 ∧ (∀ j,j < w.heap.size → some j ≠ (slv (vo,vn,vc)).ownBlock → w2.heap[j]? = w.heap[j]?) from ⟨⟨(a1,_,a2),by rw [hv],by subst hv; simpa [insAt] using ho⟩,(B1.out.trans (NB.mono (Nat.le_trans BB.out S1.out))).trans hb,fun j hj hne => (hoth j (Nat.lt_of_lt_of_le (Nat.lt_of_lt_of_le hj S1.out) NB.size) hne).trans ((NB.block j (Nat.lt_of_lt_of_le hj S1.out)).trans (BW.out j hj))⟩)
 clear ho hb hv hl NB
 go_wp2
 go_ret
 exact Q.out
def Off (ob : Option Nat) (W x : World) : Prop := (∀ j,j < W.heap.size → some j ≠ ob → x.heap[j]? = W.heap[j]?) ∧ W.heap.size ≤ x.heap.size
def Tag (ob : Option Nat) (W : World) (t : TypeId) : Prop := ∀ g,ob = some g → ∃ d,Box W g d t
theorem tag_own {α : Type} {E : Ek α} {W : World} {B : Nat} {v : Value} {l : List α} (h : Own E W B v l) : Tag v.ownBlock W E.t := by
 intro g hg
 rcases own_open h with ⟨rfl,_⟩ | ⟨g',c',cur,rfl,_,h2,_⟩
 ·cases hg
 ·obtain rfl : g' = g := by simpa [Value.ownBlock] using hg
  exact ⟨cur,h2⟩
theorem Off.own {α : Type} {E : Ek α} {ob : Option Nat} {W x : World} {B : Nat} {v : Value} {l : List α} {t : TypeId} (h : Off ob W x) (ho : Own E W B v l) (hg : Tag ob W t) (hne : (E.t == t) = false) : Own E x B v l := by
 refine ⟨ho.1,?_⟩
 rcases ho.2 with h2 | ⟨g',cap,cur,h1,h2,h3,h4⟩
 ·exact Or.inl h2
 ·refine Or.inr ⟨g',cap,cur,h1,h2,?_,h4⟩
  rw [h.1 g' (lt_of_heap h3) fun e => by
   obtain ⟨d,hd⟩ := hg g' e.symm
   exact box_ne (show Box W g' cur E.t from h3) hd hne rfl]
  exact h3
theorem Off.box {ob : Option Nat} {W x : World} {b : Nat} {cs : Array Value} {s t : TypeId} (h : Off ob W x) (hb : Box W b cs s) (hg : Tag ob W t) (hne : (s == t) = false) : Box x b cs s := (h.1 b hb.lt fun e => by
 obtain ⟨d,hd⟩ := hg b e.symm
 exact box_ne hb hd hne rfl).trans hb
theorem PM.off {w0 wr x : World} {B : Nat} {v : Value} {p : List C5} {ob : Option Nat} {t : TypeId} (h : PM w0 B wr v p) (hb : Off ob wr x) (hg : Tag ob wr t) (hne : (47 == t) = false) : PM w0 B x v p := h.imp id fun h => hb.own h hg hne
theorem AdM.off {w0 wr x : World} {B : Nat} {y : XAd} {a : Ad} {ob : Option Nat} {t : TypeId} (h : AdM w0 B wr y a) (hb : Off ob wr x) (hg : Tag ob wr t) (hne : (47 == t) = false) : AdM w0 B x y a := ⟨h.1,h.2.1,h.2.2.off hb hg hne⟩
theorem EnM.off {w0 wr x : World} {B : Nat} {y : XEn} {a : En} {ob : Option Nat} {t : TypeId} (h : EnM w0 B wr y a) (hb : Off ob wr x) (hg : Tag ob wr t) (hne : (47 == t) = false) : EnM w0 B x y a := ⟨h.1,h.2.1,h.2.2.1,h.2.2.2.1,h.2.2.2.2.off hb hg hne⟩
theorem OwM.off {w0 wr x : World} {B : Nat} {y : XOw} {a : Ow} {ob : Option Nat} {t : TypeId} (h : OwM w0 B wr y a) (hb : Off ob wr x) (hg : Tag ob wr t) (hne : (47 == t) = false) : OwM w0 B x y a := ⟨h.1,h.2.off hb hg hne⟩
theorem Cp.offD {w0 wr x : World} {B : Nat} {b : Br} {nv av sv ev ov av' : Sl} {al : List Ad} (h : Cp w0 B wr b nv av sv ev ov) (hb : Off (slv av).ownBlock wr x) (hx : ∃ l,OwnD x B (slv av') l ∧ All2 (AdM w0 B x) l al) : Cp w0 B x { b with adv := al } nv av' sv ev ov := by
 obtain ⟨l0,hl0,_⟩ := h.adv
 have hg := tag_own hl0
 exact {
  near := hb.own h.near hg (by decide)
  seen := hb.own h.seen hg (by decide)
  adv := hx
  ent := by obtain ⟨l,h1,h2⟩ := h.ent; exact ⟨l,hb.own h1 hg (by decide),h2.mono fun _ _ h => h.off hb hg (by decide)⟩
  own := by obtain ⟨l,h1,h2⟩ := h.own; exact ⟨l,hb.own h1 hg (by decide),h2.mono fun _ _ h => h.off hb hg (by decide)⟩ }
theorem Cp.offN {w0 wr x : World} {B : Nat} {b : Br} {nv av sv ev ov ev' : Sl} {el : List En} (h : Cp w0 B wr b nv av sv ev ov) (hb : Off (slv ev).ownBlock wr x) (hx : ∃ l,OwnN x B (slv ev') l ∧ All2 (EnM w0 B x) l el) : Cp w0 B x { b with ent := el } nv av sv ev' ov := by
 obtain ⟨l0,hl0,_⟩ := h.ent
 have hg := tag_own hl0
 exact {
  near := hb.own h.near hg (by decide)
  seen := hb.own h.seen hg (by decide)
  adv := by obtain ⟨l,h1,h2⟩ := h.adv; exact ⟨l,hb.own h1 hg (by decide),h2.mono fun _ _ h => h.off hb hg (by decide)⟩
  ent := hx
  own := by obtain ⟨l,h1,h2⟩ := h.own; exact ⟨l,hb.own h1 hg (by decide),h2.mono fun _ _ h => h.off hb hg (by decide)⟩ }
theorem Cp.offJ {w0 wr x : World} {B : Nat} {b : Br} {nv av sv ev ov sv' : Sl} {sl : List XID} (h : Cp w0 B wr b nv av sv ev ov) (hb : Off (slv sv).ownBlock wr x) (hx : OwnJ x B (slv sv') sl) : Cp w0 B x { b with seen := sl } nv av sv' ev ov := by
 have hg := tag_own h.seen
 exact {
  near := hb.own h.near hg (by decide)
  seen := hx
  adv := by obtain ⟨l,h1,h2⟩ := h.adv; exact ⟨l,hb.own h1 hg (by decide),h2.mono fun _ _ h => h.off hb hg (by decide)⟩
  ent := by obtain ⟨l,h1,h2⟩ := h.ent; exact ⟨l,hb.own h1 hg (by decide),h2.mono fun _ _ h => h.off hb hg (by decide)⟩
  own := by obtain ⟨l,h1,h2⟩ := h.own; exact ⟨l,hb.own h1 hg (by decide),h2.mono fun _ _ h => h.off hb hg (by decide)⟩ }
theorem all2_ins {α β : Type} {R : α → β → Prop} {l : List α} {m : List β} (h : All2 R l m) (k : Nat) {a : α} {b : β} (hr : R a b) : All2 R (insAt l k a) (insAt m k b) :=
 ((h.take k).append (.cons hr .nil)).append (h.drop k)
theorem keys_eq {w0 wr : World} {B : Nat} : ∀ {l : List XAd} {al : List Ad},All2 (AdM w0 B wr) l al → l.map keyD = al.map Ad.id
 | _,_,.nil => rfl
 | _,_,.cons h t => by rw [List.map_cons,List.map_cons,keys_eq t]; exact congrArg (· :: _) h.1
theorem riseK_map {α : Type} (key : α → XID) (l : List α) : RiseK key l ↔ RiseK (fun x : XID => x) (l.map key) := by
 unfold RiseK
 rw [List.pairwise_map]
theorem box_setCells {g : Nat} {t : TypeId} : ∀ (vs : List Value) (o : Nat) (w : World) (cur : Array Value),Box w g cur t → ∃ cur',Box (w.setCells g o vs) g cur' t ∧ cur'.size = cur.size ∧ cur'.toList.take o = cur.toList.take o
 | [],o,w,cur,h => ⟨cur,h,rfl,rfl⟩
 | v :: r,o,w,cur,h => by
  obtain ⟨cur',h1,h2,h3⟩ := box_setCells r (o + 1) (w.setCell ⟨g,o,none⟩ v) _ (box_set (k := o) h v)
  refine ⟨cur',h1,by rw [h2]; simp,?_⟩
  have h4 := congrArg (List.take o) h3
  rw [List.take_take,List.take_take,Nat.min_eq_left (by omega)] at h4
  rw [h4,Array.toList_setIfInBounds,List.take_set_of_le (Nat.le_refl _)]
theorem but_setCells (g : Nat) : ∀ (vs : List Value) (o : Nat) (w : World),But g w (w.setCells g o vs)
 | [],_,_w => ⟨fun _ _ _ => rfl,Nat.le_refl _⟩
 | v :: r,o,w => (but_cell w g o v).trans (but_setCells g r (o + 1) _)
theorem below_setCells {B g : Nat} (hB : B ≤ g) : ∀ (vs : List Value) (o : Nat) (W w : World),Below B W w → Below B W (w.setCells g o vs)
 | [],_,_,_,h => h
 | v :: r,o,W,_w,h => below_setCells hB r (o + 1) W _ (h.setCell (p := ⟨g,o,none⟩) hB v)
theorem clear_own {α : Type} {E : Ek α} (K : E.Ok) (hz : ∀ v ∈ E.z.cells.toList,v.oneCell' = true) {W : World} {B g n cap i : Nat} {L : List α} (h : Own E W B (.slice (some ⟨g,0,none⟩) n cap) L) (hi : i < n) (ty : TypeId) :
  ∃ W',(Builtin.clear_ #[E.ts] ty #[.slice (some ⟨g,i * E.n,none⟩) (n - i) (cap - i)]).run Tryz.prog W = .ok (.tuple #[]) W' ∧ Own E W' B (.slice (some ⟨g,0,none⟩) i cap) (L.take i) ∧ But g W W' ∧ (∀ B' W0,B' ≤ g → Below B' W0 W → Below B' W0 W') := by
 have hln := own_row_len h
 rcases own_open h with ⟨h1,_⟩ | ⟨g',cap',cur,h1,h2,h3,h4,h5,h6,h7⟩
 ·cases h1
 ·obtain ⟨rfl,_,rfl⟩ : g = g' ∧ n = L.length ∧ cap = cap' := by simpa using h1
  have hzs : (Builtin.zeroCells E.z.cells (n - i)).toList.length = (n - i) * E.n := by simp [Builtin.zeroCells,K.zs]
  have h10 : i * E.n + (n - i) * E.n = n * E.n := by rw [← Nat.add_mul,Nat.add_sub_cancel' (Nat.le_of_lt hi)]
  have h11 : n * E.n ≤ cap * E.n := Nat.mul_le_mul_right _ (by omega)
  have hone : ∀ v ∈ (Builtin.zeroCells E.z.cells (n - i)).toList,v.oneCell' = true := by
   intro v hv
   simp only [Builtin.zeroCells,Array.toList_map,List.mem_map] at hv
   obtain ⟨j,_,rfl⟩ := hv
   have hp := K.pos
   have hlt : j % E.z.cells.size < E.z.cells.size := Nat.mod_lt _ (by rw [K.zs]; exact hp)
   refine hz _ ?_
   rw [getElem!_pos E.z.cells (j % E.z.cells.size) hlt,Array.mem_toList_iff]
   exact Array.getElem_mem hlt
  have hst := run_storeCells_cells (P := Tryz.prog) g (i * E.n) (Builtin.zeroCells E.z.cells (n - i)).toList 0 W (by
   intro j hj
   rw [hzs] at hj
   rw [Nat.add_zero,h3.cell]
   have : i * E.n + j < cur.size := by rw [h6]; omega
   simp [this]) (fun j _ => h3.fr _) hone
  rw [Nat.add_zero] at hst
  obtain ⟨ii,i1,i2,i3,i4⟩ := K.info
  obtain ⟨cur',c1,c2,c3⟩ := box_setCells (Builtin.zeroCells E.z.cells (n - i)).toList (i * E.n) W cur h3
  refine ⟨W.setCells g (i * E.n) (Builtin.zeroCells E.z.cells (n - i)).toList,?_,?_,but_setCells _ _ _ _,fun B' W0 hB hb => below_setCells hB _ _ _ _ hb⟩
  ·obtain ⟨m,hm⟩ : ∃ m,n - i = m + 1 := ⟨n - i - 1,by omega⟩
   rw [hm] at hst ⊢
   have hv : ∀ w,(zeroValue E.t).run Tryz.prog w = .ok E.z w := fun w => by simp [go_sem,zeroValue,typeInfo,i1,i2]
   simp [Builtin.clear_,run_underlying K.hu,hv,hst]
  ·refine own_shut K (by rw [List.length_take]; omega) h2 c1 (by omega) h5 (by rw [c2]; exact h6) ?_
   rw [c3]
   have h8 := congrArg (List.take (i * E.n)) h7
   rw [List.take_take,flat_take K,Nat.min_eq_left (by rw [← hln] at hi; exact Nat.mul_le_mul_right _ (Nat.le_of_lt hi))] at h8
   exact h8
structure DelSt {α : Type} (keep : α → Bool) (l : List α) (i j : Nat) (L : List α) : Prop where
 len : L.length = l.length
 lt : i < j
 lo : L.take i = (l.take j).filter keep
 hi : L.drop j = l.drop j
theorem DelSt.at {α : Type} {keep : α → Bool} {l : List α} {i j : Nat} {L : List α} (h : DelSt keep l i j L) : L[j]? = l[j]? := by
 have := congrArg (fun m => m[0]?) h.hi
 simpa using this
theorem DelSt.skip {α : Type} {keep : α → Bool} {l : List α} {i j : Nat} {L : List α} {x : α} (h : DelSt keep l i j L) (hx : l[j]? = some x) (hk : keep x = false) : DelSt keep l i (j + 1) L where
 len := h.len
 lt := Nat.lt_succ_of_lt h.lt
 lo := by
  rw [h.lo,List.take_add_one,hx]
  simp [hk]
 hi := by
  have := congrArg (List.drop 1) h.hi
  simpa [List.drop_drop] using this
theorem DelSt.keep {α : Type} {keep : α → Bool} {l : List α} {i j : Nat} {L : List α} {x : α} (h : DelSt keep l i j L) (hx : l[j]? = some x) (hk : keep x = true) : DelSt keep l (i + 1) (j + 1) (L.set i x) where
 len := by rw [List.length_set]; exact h.len
 lt := by have := h.lt; omega
 lo := by
  have hj := (List.getElem?_eq_some_iff.1 hx).1
  have hl := h.lt
  have hL := h.len
  rw [List.take_add_one,List.take_set_of_le (Nat.le_refl _),h.lo,List.getElem?_set_self (by omega),List.take_add_one,hx]
  simp [hk]
 hi := by
  have := congrArg (List.drop 1) h.hi
  rw [List.drop_set_of_lt (by have := h.lt; omega)]
  simpa [List.drop_drop] using this
theorem filter_first {α : Type} {keep : α → Bool} {l : List α} {k : Nat} {x : α} (hx : l[k]? = some x) (hk : keep x = false) (hall : ∀ (j : Nat) (y : α),j < k → l[j]? = some y → keep y = true) : DelSt keep l k (k + 1) l where
 len := rfl
 lt := Nat.lt_succ_self _
 lo := by
  rw [List.take_add_one,hx,List.filter_append]
  have : (l.take k).filter keep = l.take k := by
   rw [List.filter_eq_self]
   intro y hy
   obtain ⟨j,hj⟩ := List.mem_iff_getElem?.1 hy
   have hj' := (List.getElem?_eq_some_iff.1 hj).1
   rw [List.length_take] at hj'
   rw [List.getElem?_take_of_lt (by omega)] at hj
   exact hall j y (by omega) hj
  rw [this]
  simp [hk]
 hi := rfl
theorem findI_neg {α : Type} {key : α → XID} {l : List α} {x : XID} (h : findI (l.map key) x = -1) : ∀ (j : Nat) (y : α),l[j]? = some y → key y ≠ x := by
 intro j y hj hy
 have h1 := findI_in (l.map key) x
 rw [h] at h1
 have : x ∈ l.map key := List.mem_map.2 ⟨y,List.mem_of_getElem? hj,hy⟩
 simp [this] at h1
theorem findI_get : ∀ {l : List XID} {x : XID} {k : Nat},findI l x = k → l[k]? = some x ∧ ∀ (j : Nat) (y : XID),j < k → l[j]? = some y → y ≠ x
 | [],x,k,h => by simp [findI] at h <;> omega
 | a :: l,x,k,h => by
  unfold findI at h
  by_cases hax : a = x
  ·rw [if_pos hax] at h
   obtain rfl : k = 0 := by omega
   exact ⟨by simpa using hax,fun j y hj => by omega⟩
  ·rw [if_neg hax] at h
   by_cases h2 : findI l x = -1
   ·rw [if_pos h2] at h; omega
   ·rw [if_neg h2] at h
    cases k with
    | zero => have := findI_bd l x; omega
    | succ k =>
     obtain ⟨h3,h4⟩ := findI_get (l := l) (x := x) (k := k) (by omega)
     refine ⟨by simpa using h3,fun j y hj hy => ?_⟩
     cases j with
     | zero =>
      obtain rfl : a = y := by simpa using hy
      exact hax
     | succ j => exact h4 j y (by omega) (by simpa using hy)
theorem stoD {w : World} {B g n cap k : Nat} {l : List XAd} (x : XAd) (h : Own ED w B (.slice (some ⟨g,0,none⟩) n cap) l) (hk : k < l.length) :
  StoQ ED B g (.slice (some ⟨g,0,none⟩) n cap) (l.set k x) w ((((w.setCell ⟨g,k * 4,none⟩ (.int .i64 x.1)).setCell ⟨g,k * 4 + 1,none⟩ (.int .i64 x.2.1)).setCell ⟨g,k * 4 + 2,none⟩ (slv x.2.2.1)).setCell ⟨g,k * 4 + 3,none⟩ (.int .i64 x.2.2.2)) := by
 have hln := own_row_len h
 subst hln
 have h : w.ownsRow B 41 4 (.slice (some ⟨g,0,none⟩) l.length cap) l.length (flat ED l) := h
 have s1 := (h.stored (k * 4) (.int .i64 x.1)).1
 have s2 := (s1.stored (k * 4 + 1) (.int .i64 x.2.1)).1
 have s3 := (s2.stored (k * 4 + 2) (slv x.2.2.1)).1
 have s4 := (s3.stored (k * 4 + 3) (.int .i64 x.2.2.2)).1
 refine ⟨?_,((((but_cell _ g _ _).trans (but_cell _ g _ _)).trans (but_cell _ g _ _)).trans (but_cell _ g _ _)),fun B' W hB hb => ((((hb.setCell (p := ⟨g,_,none⟩) hB _).setCell (p := ⟨g,_,none⟩) hB _).setCell (p := ⟨g,_,none⟩) hB _).setCell (p := ⟨g,_,none⟩) hB _)⟩
 have e := flatD_set l k x hk
 show World.ownsRow _ B 41 4 _ (l.set k x).length (flat ED (l.set k x))
 rw [e,List.length_set]
 exact s4
theorem cloD_any (x : XAd) (b2 : Nat) (c d : Int) (r : Bool) (hr : decide (keyD x = (c,d)) = r) (w : World) (h : Box w b2 #[.int .i64 c,.int .i64 d] 38) : Calls Tryz.prog 89 #[valD x,.pointer (some ⟨b2,0,none⟩)] w fun e w' => e = .returned (.bool r) ∧ Below w.heap.size w w' := by
 obtain ⟨y1,y2,⟨yo,yn,yc⟩,y4⟩ := x
 have n0 := newB w (.cells #[.int .i64 y1,.int .i64 y2,.slice yo yn yc,.int .i64 y4] 41)
 have hx := box_new w #[.int .i64 y1,.int .i64 y2,.slice yo yn yc,.int .i64 y4] 41
 have x1 := hx.cell 1
 have x0 := hx.cell 0
 obtain ⟨z0,z1⟩ := (h.on n0).cs2
 simp only [List.getElem?_toArray,List.getElem?_cons_zero,List.getElem?_cons_succ] at x0 x1
 have he := eqId y1 y2 c d r (by
  rw [← hr]
  by_cases h1 : y1 = c <;> by_cases h2 : y2 = d <;> simp [h1,h2])
 have N0 := Lib.hid n0
 clear n0 hx h hr
 go_enter Tryz.func89,Tryz.ntmps89
 go_wp2
 go_ret
 exact ⟨rfl,N0.out⟩
theorem ixfD_any (v : Sl) (l : List XAd) (b2 : Nat) (c d : Int) (w : World) (hs : Row ED w (slv v) l) (hb2 : Box w b2 #[.int .i64 c,.int .i64 d] 38) :
  Calls Tryz.prog 130 #[slv v,.func (.func 89) #[] #[.pointer (some ⟨b2,0,none⟩)]] w fun e w' => e = .returned (.int .i64 (findI (l.map keyD) (c,d))) ∧ Below w.heap.size w w' := by
 obtain ⟨so,sn,sc⟩ := v
 obtain ⟨ao,ac,hv⟩ := hs.len
 have hv : Value.slice so sn sc = .slice ao l.length ac := hv
 obtain ⟨rfl,rfl,rfl⟩ : so = ao ∧ sn = l.length ∧ sc = ac := by simpa using hv
 have HS := Lib.hid hs
 have X2 := Lib.hid hb2
 have lm := hs.most
 unfold maxLen at lm
 obtain ⟨n,hn⟩ : ∃ n,n = l.length := ⟨_,rfl⟩
 rw [← hn] at HS lm ⊢
 have HN := Lib.hid hn.symm
 clear hb2 hs hv hn
 go_enter Tryz.func130,Tryz.ntmps130
 go_wp2
 go_loopw [8] (fun i wr => ∃ k : Nat,k ≤ n ∧ i = .int .i64 k ∧ Below w.heap.size w wr ∧ ∀ (j : Nat) (y : XAd),j < k → l[j]? = some y → keyD y ≠ (c,d)) (fun i _ => n - (intOf i).toNat)
 case atStart => exact ⟨0,Nat.zero_le _,rfl,Below.refl _ _,fun j y h => by omega⟩
 case round =>
  obtain ⟨k,hk,rfl,hbe,hall⟩ := hrel
  have BE := Lib.hid hbe
  have AL := Lib.hid hall
  clear hbe hall
  by_cases hlt : k < n
  ·obtain ⟨y,hy⟩ : ∃ y,l[k]? = some y := ⟨_,List.getElem?_eq_getElem (by rw [HN.out]; exact hlt)⟩
   obtain ⟨p,ix,px⟩ := elD HS.out rfl HN.out hy
   obtain ⟨p0,p1,p2,p3⟩ := px wr BE.out
   obtain ⟨r,hr⟩ : ∃ r,decide (keyD y = (c,d)) = r := ⟨_,rfl⟩
   have CL := Lib.hid (cloD_any y b2 c d r hr wr (X2.out.on BE.out))
   have HY := Lib.hid hy
   have HR := Lib.hid hr
   obtain ⟨y1,y2,⟨yo,yn,yc⟩,y4⟩ := y
   simp only at p0 p1 p2 p3
   have hw3 : IntKind.i64.wrap ((k : Int) + 1) = (k : Int) + 1 := IntWalk.i64_in _ (by omega)
   clear px hy hr
   go_wp2_with fail
   refine CL.out.mono ?_
   rintro e w1 ⟨rfl,hb⟩
   have B1 := Lib.hid (BE.out.trans (hb.mono BE.out.size))
   clear hb CL ix p0 p1 p2 p3
   cases r
   ·go_wp2
    go_roundw
    case rel => exact ⟨k + 1,by omega,by go_num,B1.out,fun j y' hj h1 => by
     rcases Nat.lt_or_ge j k with h3 | h3
     ·exact AL.out j y' h3 h1
     ·obtain rfl : j = k := by omega
      have e1 := HY.out
      rw [h1] at e1
      rw [Option.some.inj e1]
      exact of_decide_eq_false HR.out⟩
    case measure => simp [intOf]; omega
   ·go_wp2
    go_ret
    exact ⟨by rw [findI_at (l.map keyD) k (c,d) (by rw [List.getElem?_map,HY.out]; exact congrArg some (of_decide_eq_true HR.out)) (fun j z hj hz => by
     rw [List.getElem?_map] at hz
     cases hz2 : l[j]? with
     | none => rw [hz2] at hz; cases hz
     | some u => rw [hz2] at hz; rw [← Option.some.inj hz]; exact AL.out j u hj hz2)]; rfl,B1.out⟩
  ·obtain rfl : k = n := by omega
   go_wp2
   go_ret
   exact ⟨by rw [findI_none (l.map keyD) (c,d) (fun j z hz => by
     rw [List.getElem?_map] at hz
     cases hz2 : l[j]? with
     | none => rw [hz2] at hz; cases hz
     | some u => rw [hz2] at hz; rw [← Option.some.inj hz]; exact AL.out j u (by rw [← HN.out]; exact (List.getElem?_eq_some_iff.1 hz2).1) hz2)]; rfl,BE.out⟩
abbrev keepD (c d : Int) (x : XAd) : Bool := decide (keyD x ≠ (c,d))
theorem delD_any (B : Nat) (v : Sl) (l : List XAd) (b2 : Nat) (c d : Int) (w : World) (ho : Own ED w B (slv v) l) (hb2 : Box w b2 #[.int .i64 c,.int .i64 d] 38) (hB : B ≤ w.heap.size) :
  Calls Tryz.prog 88 #[slv v,.func (.func 89) #[] #[.pointer (some ⟨b2,0,none⟩)]] w fun e w' => (∃ v' : Sl,e = .returned (slv v') ∧ Own ED w' B (slv v') (l.filter (keepD c d))) ∧ Below B w w' ∧ Off (slv v).ownBlock w w' := by
 obtain ⟨so,sn,sc⟩ := v
 obtain ⟨ao,ac,hv⟩ := (Row.of_own ho).len
 have hv : Value.slice so sn sc = .slice ao l.length ac := hv
 obtain ⟨rfl,rfl,rfl⟩ : so = ao ∧ sn = l.length ∧ sc = ac := by simpa using hv
 have IX := Lib.hid (ixfD_any (so,l.length,sc) l b2 c d w (Row.of_own ho) hb2)
 have HO := Lib.hid ho
 have X2 := Lib.hid hb2
 have lm := (Row.of_own ho).most
 unfold maxLen at lm
 have BZ := Lib.hid (show w.heap.size ≤ w.heap.size from Nat.le_refl _)
 obtain ⟨n,hn⟩ : ∃ n,n = l.length := ⟨_,rfl⟩
 rw [← hn] at HO lm IX ⊢
 have HN := Lib.hid hn.symm
 obtain ⟨q,hq⟩ : ∃ q,findI (l.map keyD) (c,d) = q := ⟨_,rfl⟩
 rw [hq] at IX
 have HQ := Lib.hid hq
 have HB := Lib.hid hB
 have LB := Lib.hid (show ∀ g,(slv (so,n,sc)).ownBlock = some g → B ≤ g from fun g hg => (HO.out.lt g hg).1)
 clear hb2 ho hv hn hB
 by_cases hneg : q = -1
 ·subst hneg
  go_enter Tryz.func88,Tryz.ntmps88
  go_wp2_with fail
  refine IX.out.mono ?_
  rintro e w1 ⟨rfl,hb⟩
  have FE := Lib.hid (show l.filter (keepD c d) = l from by
   rw [List.filter_eq_self]
   intro y hy
   obtain ⟨j,hj⟩ := List.mem_iff_getElem?.1 hy
   exact decide_eq_true (findI_neg hq j y hj))
  have BH := Lib.hid hb
  clear hb hq
  go_wp2
  go_ret
  exact ⟨⟨(so,n,sc),rfl,by rw [FE.out]; exact Bk.own_on HO.out BH.out⟩,BH.out.mono HB.out,fun j hj _ => BH.out.block j hj,BH.out.size⟩
 ·obtain ⟨k,rfl⟩ : ∃ k : Nat,q = k := ⟨q.toNat,by have := findI_bd (l.map keyD) (c,d); omega⟩
  obtain ⟨g1,g2⟩ := findI_get hq
  obtain ⟨x,hx,hxk⟩ : ∃ x,l[k]? = some x ∧ keyD x = (c,d) := by
   rw [List.getElem?_map] at g1
   cases hz : l[k]? with
   | none => rw [hz] at g1; cases g1
   | some x => rw [hz] at g1; exact ⟨x,rfl,Option.some.inj g1⟩
  have ST0 := Lib.hid (filter_first (keep := keepD c d) hx (decide_eq_false (by simp [hxk])) (fun j y hj hy => decide_eq_true (g2 j (keyD y) hj (by rw [List.getElem?_map,hy]; rfl))))
  have hkl : k < n := by rw [← HN.out]; exact (List.getElem?_eq_some_iff.1 hx).1
  obtain ⟨g,rfl,hBg⟩ : ∃ g,so = some ⟨g,0,none⟩ ∧ B ≤ g := own_some HO.out (show 0 < n by omega)
  have BG := Lib.hid hBg
  have TG := Lib.hid (tag_own HO.out)
  have hcap : n ≤ sc := by
   rcases own_open HO.out with ⟨h1,_⟩ | ⟨g',c',cur,h1,h2,h3,h4,h5,h6,h7⟩
   ·cases h1
   ·have e1 : sc = c' := by simpa using congrArg (fun v => match v with | Value.slice _ _ c => c | _ => 0) h1
    have := HN.out
    omega
  have hw0 : IntKind.i64.wrap ((k : Int) + 1) = (k : Int) + 1 := IntWalk.i64_in _ (by omega)
  have hk1 : ((k : Int) == -1) = false := by rw [beq_eq_false_iff_ne]; omega
  clear hq g1 g2 hx hxk x hneg hBg LB
  go_enter Tryz.func88,Tryz.ntmps88
  go_wp2_with fail
  refine IX.out.mono ?_
  rintro e w1 ⟨rfl,hb⟩
  have O1 := Lib.hid (Bk.own_on HO.out hb)
  have B1 := Lib.hid (hb.mono HB.out)
  have F1 := Lib.hid (show Off (some g) w w1 from ⟨fun j hj _ => hb.block j hj,hb.size⟩)
  clear hb IX
  go_wp2
  clear hw0 hk1
  go_loopw [5,6] (fun s5 s6 wr => ∃ (i j : Nat) (L : List XAd),s5 = .int .i64 i ∧ s6 = .int .i64 j ∧ j ≤ n ∧ DelSt (keepD c d) l i j L ∧ Own ED wr B (.slice (some ⟨g,0,none⟩) n sc) L ∧ Below B w wr ∧ Off (some g) w wr) (fun _ s6 _ => n - (intOf s6).toNat)
  case atStart => exact ⟨k,k + 1,l,rfl,by go_num,by omega,ST0.out,O1.out,B1.out,F1.out⟩
  case round =>
   obtain ⟨i,j,L,rfl,rfl,hj,hst,how,hbe,hof⟩ := hrel
   have ST := Lib.hid hst
   have OW := Lib.hid how
   have BE := Lib.hid hbe
   have OF := Lib.hid hof
   have hij := hst.lt
   have LN := Lib.hid (show L.length = n from hst.len.trans HN.out)
   clear hst how hbe hof O1 B1 F1 ST0
   by_cases hlt : j < n
   ·obtain ⟨y,hy⟩ : ∃ y,l[j]? = some y := ⟨_,List.getElem?_eq_getElem (by rw [HN.out]; exact hlt)⟩
    have hyL : L[j]? = some y := by rw [ST.out.at,hy]
    obtain ⟨p,ix,px⟩ := elD (Row.of_own OW.out) rfl LN.out hyL
    obtain ⟨p0,p1,p2,p3⟩ := px wr (Below.refl _ _)
    obtain ⟨r,hr⟩ : ∃ r,decide (keyD y = (c,d)) = r := ⟨_,rfl⟩
    have HY := Lib.hid hy
    have hw3 : IntKind.i64.wrap ((j : Int) + 1) = (j : Int) + 1 := IntWalk.i64_in _ (by omega)
    have hw5 : IntKind.i64.wrap ((i : Int) + 1) = (i : Int) + 1 := IntWalk.i64_in _ (by omega)
    obtain ⟨z,hz⟩ : ∃ z,L[i]? = some z := ⟨_,List.getElem?_eq_getElem (by rw [LN.out]; omega)⟩
    have HZ := Lib.hid hz
    have X2w := OF.out.box X2.out TG.out (by decide)
    have CLO := cloD_any y b2 c d r hr
    have KP := Lib.hid (show keepD c d y = !r from by rw [← hr]; simp [keepD])
    obtain ⟨y1,y2,⟨yo,yn,yc⟩,y4⟩ := y
    simp only at p0 p1 p2 p3
    have NB := Lib.hid (newB wr (.cells #[.int .i64 y1,.int .i64 y2,.slice yo yn yc,.int .i64 y4] 41))
    have CL := Lib.hid (CLO _ (X2w.on NB.out))
    clear hy hyL px hr hz CLO X2w
    go_wp2_with fail
    refine CL.out.mono ?_
    rintro e w2 ⟨rfl,hb⟩
    have BB := Lib.hid (NB.out.trans (hb.mono NB.out.size))
    have Y7 := (box_new wr #[.int .i64 y1,.int .i64 y2,.slice yo yn yc,.int .i64 y4] 41).on hb
    obtain ⟨q0,q1,q2,q3⟩ := Y7.cs4
    have O2 := Lib.hid (Bk.own_on OW.out BB.out)
    clear hb CL ix p0 p1 p2 p3 Y7
    cases r
    ·have ix := index_own okD g i n sc (by omega)
     have ix : ∀ w,(Instr.indexAt 26 (.slice (some ⟨g,0,none⟩) n sc) (.int .i64 i)).run Tryz.prog w = .ok (.pointer (some ⟨g,i * 4,none⟩)) w := ix
     have ca := own_row_at okD O2.out HZ.out w2 (Below.refl _ _)
     have ce0 := ca 0 _ rfl
     have ce1 := ca 1 _ rfl
     have ce2 := ca 2 _ rfl
     have ce3 := ca 3 _ rfl
     simp [Addr.add,ED] at ce0 ce1 ce2 ce3
     obtain ⟨cur,hbx⟩ := own_tag O2.out
     have f := fun j => hbx.fr j
     have gl := hbx.lt
     have SQ : StoQ ED B g (.slice (some ⟨g,0,none⟩) n sc) (L.set i (y1,y2,(yo,yn,yc),y4)) w2 ((((w2.setCell ⟨g,i * 4,none⟩ (.int .i64 y1)).setCell ⟨g,i * 4 + 1,none⟩ (.int .i64 y2)).setCell ⟨g,i * 4 + 2,none⟩ (.slice yo yn yc)).setCell ⟨g,i * 4 + 3,none⟩ (.int .i64 y4)) := stoD (y1,y2,(yo,yn,yc),y4) O2.out (by rw [LN.out]; omega)
     have SQ := Lib.hid SQ
     clear hbx ca
     go_upto_region 10 with fail
     generalize ((((w2.setCell ⟨g,i * 4,none⟩ (.int .i64 y1)).setCell ⟨g,i * 4 + 1,none⟩ (.int .i64 y2)).setCell ⟨g,i * 4 + 2,none⟩ (.slice yo yn yc)).setCell ⟨g,i * 4 + 3,none⟩ (.int .i64 y4)) = w3 at *
     clear f gl ce0 ce1 ce2 ce3 ix
     go_wp2
     go_roundw
     case rel => exact ⟨i + 1,j + 1,L.set i (y1,y2,(yo,yn,yc),y4),by go_num,by go_num,by omega,ST.out.keep HY.out KP.out,SQ.out.1,SQ.out.2.2 B w BG.out (BE.out.trans (BB.out.mono (Nat.le_trans HB.out OF.out.2))),⟨fun q hq hne => (SQ.out.2.1.1 q (Nat.lt_of_lt_of_le (Nat.lt_of_lt_of_le hq OF.out.2) BB.out.size) (fun e => hne (by rw [e]))).trans ((BB.out.block q (Nat.lt_of_lt_of_le hq OF.out.2)).trans (OF.out.1 q hq hne)),Nat.le_trans OF.out.2 (Nat.le_trans BB.out.size SQ.out.2.1.2)⟩⟩
     case measure => simp [intOf]; omega
    ·go_wp2
     go_roundw
     case rel => exact ⟨i,j + 1,L,rfl,by go_num,by omega,ST.out.skip HY.out KP.out,O2.out,BE.out.trans (BB.out.mono (Nat.le_trans HB.out OF.out.2)),⟨fun q hq hne => (BB.out.block q (Nat.lt_of_lt_of_le hq OF.out.2)).trans (OF.out.1 q hq hne),Nat.le_trans OF.out.2 BB.out.size⟩⟩
     case measure => simp [intOf]; omega
   ·obtain rfl : n = j := by omega
    obtain ⟨W',hr,h1,h2,h3⟩ := clear_own okD (by decide) OW.out hij (ty := 0)
    have sh := cut_hi (E := ED) okD g i n sc (by omega) (by omega)
    have sl := slice_lo (E := ED) okD ⟨g,0,none⟩ i n sc (by omega)
    have sh : ∀ w,(Instr.sliceAt 26 (.slice (some ⟨g,0,none⟩) n sc) (some (.int .i64 i)) none none).run Tryz.prog w = .ok (.slice (some ⟨g,i * 4,none⟩) (n - i) (sc - i)) w := sh
    have sl : ∀ w,(Instr.sliceAt 26 (.slice (some ⟨g,0,none⟩) n sc) none (some (.int .i64 i)) none).run Tryz.prog w = .ok (.slice (some ⟨g,0,none⟩) i sc) w := sl
    have hr : (Builtin.clear_ #[26] 0 #[.slice (some ⟨g,i * 4,none⟩) (n - i) (sc - i)]).run Tryz.prog wr = .ok (.tuple #[]) W' := hr
    have Q := Lib.hid (show (∃ v' : Sl,Ending.returned (.slice (some ⟨g,0,none⟩) i sc) = .returned (slv v') ∧ Own ED W' B (slv v') (l.filter (keepD c d))) ∧ Below B w W' ∧ Off (slv (some ⟨g,0,none⟩,n,sc)).ownBlock w W' from ⟨⟨(some ⟨g,0,none⟩,i,sc),rfl,by
     have e1 : l.take n = l := List.take_of_length_le (by rw [HN.out]; exact Nat.le_refl _)
     have e2 := ST.out.lo
     rw [e1] at e2
     rw [← e2]
     exact h1⟩,h3 B w BG.out BE.out,⟨fun q hq hne => (h2.1 q (Nat.lt_of_lt_of_le hq OF.out.2) (fun e => hne (by rw [e]; rfl))).trans (OF.out.1 q hq hne),Nat.le_trans OF.out.2 h2.2⟩⟩)
    clear h1 h2 h3 hlt
    go_wp2_with (first | (at_builtin; refine wpList_clear_run rfl _ _ 26 rfl rfl rfl hr ?_) | fail)
    go_ret
    exact Q.out
abbrev keyT (x : XEn) : XID := (x.1,x.2.1)
theorem flatN_all : ∀ (l : List XEn) (k : Nat) (x : XEn),k < l.length → flat EN (l.set k x) = ((((((((flat EN l).set (k * 7) (.int .i64 x.1)).set (k * 7 + 1) (.int .i64 x.2.1)).set (k * 7 + 2) (.int .i64 x.2.2.1)).set (k * 7 + 3) (.int .i64 x.2.2.2.1)).set (k * 7 + 4) (slv x.2.2.2.2.1)).set (k * 7 + 5) (.int .i64 x.2.2.2.2.2.1)).set (k * 7 + 6) (.bool x.2.2.2.2.2.2))
 | [],k,x,h => by simp at h
 | y :: r,0,x,_ => rfl
 | y :: r,k + 1,x,h => by
  have ih := flatN_all r k x (by simpa using h)
  rw [show (k + 1) * 7 + 6 = (k * 7 + 6) + 1 + 1 + 1 + 1 + 1 + 1 + 1 by omega,show (k + 1) * 7 + 5 = (k * 7 + 5) + 1 + 1 + 1 + 1 + 1 + 1 + 1 by omega,show (k + 1) * 7 + 4 = (k * 7 + 4) + 1 + 1 + 1 + 1 + 1 + 1 + 1 by omega,show (k + 1) * 7 + 3 = (k * 7 + 3) + 1 + 1 + 1 + 1 + 1 + 1 + 1 by omega,show (k + 1) * 7 + 2 = (k * 7 + 2) + 1 + 1 + 1 + 1 + 1 + 1 + 1 by omega,show (k + 1) * 7 + 1 = (k * 7 + 1) + 1 + 1 + 1 + 1 + 1 + 1 + 1 by omega,show (k + 1) * 7 = (k * 7) + 1 + 1 + 1 + 1 + 1 + 1 + 1 by omega]
  simp only [List.set_cons_succ,flat,EN,cellsN,List.cons_append,List.nil_append] at ih ⊢
  rw [ih]
theorem stoN {w : World} {B g n cap k : Nat} {l : List XEn} (x : XEn) (h : Own EN w B (.slice (some ⟨g,0,none⟩) n cap) l) (hk : k < l.length) :
  StoQ EN B g (.slice (some ⟨g,0,none⟩) n cap) (l.set k x) w (((((((w.setCell ⟨g,k * 7,none⟩ (.int .i64 x.1)).setCell ⟨g,k * 7 + 1,none⟩ (.int .i64 x.2.1)).setCell ⟨g,k * 7 + 2,none⟩ (.int .i64 x.2.2.1)).setCell ⟨g,k * 7 + 3,none⟩ (.int .i64 x.2.2.2.1)).setCell ⟨g,k * 7 + 4,none⟩ (slv x.2.2.2.2.1)).setCell ⟨g,k * 7 + 5,none⟩ (.int .i64 x.2.2.2.2.2.1)).setCell ⟨g,k * 7 + 6,none⟩ (.bool x.2.2.2.2.2.2)) := by
 have hln := own_row_len h
 subst hln
 have h : w.ownsRow B 43 7 (.slice (some ⟨g,0,none⟩) l.length cap) l.length (flat EN l) := h
 have s1 := (h.stored (k * 7) (.int .i64 x.1)).1
 have s2 := (s1.stored (k * 7 + 1) (.int .i64 x.2.1)).1
 have s3 := (s2.stored (k * 7 + 2) (.int .i64 x.2.2.1)).1
 have s4 := (s3.stored (k * 7 + 3) (.int .i64 x.2.2.2.1)).1
 have s5 := (s4.stored (k * 7 + 4) (slv x.2.2.2.2.1)).1
 have s6 := (s5.stored (k * 7 + 5) (.int .i64 x.2.2.2.2.2.1)).1
 have s7 := (s6.stored (k * 7 + 6) (.bool x.2.2.2.2.2.2)).1
 refine ⟨?_,(((((((but_cell _ g _ _).trans (but_cell _ g _ _)).trans (but_cell _ g _ _)).trans (but_cell _ g _ _)).trans (but_cell _ g _ _)).trans (but_cell _ g _ _)).trans (but_cell _ g _ _)),fun B' W hB hb => (((((((hb.setCell (p := ⟨g,_,none⟩) hB _).setCell (p := ⟨g,_,none⟩) hB _).setCell (p := ⟨g,_,none⟩) hB _).setCell (p := ⟨g,_,none⟩) hB _).setCell (p := ⟨g,_,none⟩) hB _).setCell (p := ⟨g,_,none⟩) hB _).setCell (p := ⟨g,_,none⟩) hB _)⟩
 have e := flatN_all l k x hk
 show World.ownsRow _ B 43 7 _ (l.set k x).length (flat EN (l.set k x))
 rw [e,List.length_set]
 exact s7
theorem cloN_any (x : XEn) (b2 : Nat) (c d : Int) (r : Bool) (hr : decide (keyT x = (c,d)) = r) (w : World) (h : Box w b2 #[.int .i64 c,.int .i64 d] 38) : Calls Tryz.prog 91 #[valN x,.pointer (some ⟨b2,0,none⟩)] w fun e w' => e = .returned (.bool r) ∧ Below w.heap.size w w' := by
 obtain ⟨y1,y2,y3,y4,⟨yo,yn,yc⟩,y6,y7⟩ := x
 have n0 := newB w (.cells #[.int .i64 y1,.int .i64 y2,.int .i64 y3,.int .i64 y4,.slice yo yn yc,.int .i64 y6,.bool y7] 43)
 have hx := box_new w #[.int .i64 y1,.int .i64 y2,.int .i64 y3,.int .i64 y4,.slice yo yn yc,.int .i64 y6,.bool y7] 43
 have x1 := hx.cell 1
 have x0 := hx.cell 0
 obtain ⟨z0,z1⟩ := (h.on n0).cs2
 simp only [List.getElem?_toArray,List.getElem?_cons_zero,List.getElem?_cons_succ] at x0 x1
 have he := eqId y1 y2 c d r (by
  rw [← hr]
  by_cases h1 : y1 = c <;> by_cases h2 : y2 = d <;> simp [h1,h2])
 have N0 := Lib.hid n0
 clear n0 hx h hr
 go_enter Tryz.func91,Tryz.ntmps91
 go_wp2
 go_ret
 exact ⟨rfl,N0.out⟩
theorem ixfN_any (v : Sl) (l : List XEn) (b2 : Nat) (c d : Int) (w : World) (hs : Row EN w (slv v) l) (hb2 : Box w b2 #[.int .i64 c,.int .i64 d] 38) :
  Calls Tryz.prog 131 #[slv v,.func (.func 91) #[] #[.pointer (some ⟨b2,0,none⟩)]] w fun e w' => e = .returned (.int .i64 (findI (l.map keyT) (c,d))) ∧ Below w.heap.size w w' := by
 obtain ⟨so,sn,sc⟩ := v
 obtain ⟨ao,ac,hv⟩ := hs.len
 have hv : Value.slice so sn sc = .slice ao l.length ac := hv
 obtain ⟨rfl,rfl,rfl⟩ : so = ao ∧ sn = l.length ∧ sc = ac := by simpa using hv
 have HS := Lib.hid hs
 have X2 := Lib.hid hb2
 have lm := hs.most
 unfold maxLen at lm
 obtain ⟨n,hn⟩ : ∃ n,n = l.length := ⟨_,rfl⟩
 rw [← hn] at HS lm ⊢
 have HN := Lib.hid hn.symm
 clear hb2 hs hv hn
 go_enter Tryz.func131,Tryz.ntmps131
 go_wp2
 go_loopw [8] (fun i wr => ∃ k : Nat,k ≤ n ∧ i = .int .i64 k ∧ Below w.heap.size w wr ∧ ∀ (j : Nat) (y : XEn),j < k → l[j]? = some y → keyT y ≠ (c,d)) (fun i _ => n - (intOf i).toNat)
 case atStart => exact ⟨0,Nat.zero_le _,rfl,Below.refl _ _,fun j y h => by omega⟩
 case round =>
  obtain ⟨k,hk,rfl,hbe,hall⟩ := hrel
  have BE := Lib.hid hbe
  have AL := Lib.hid hall
  clear hbe hall
  by_cases hlt : k < n
  ·obtain ⟨y,hy⟩ : ∃ y,l[k]? = some y := ⟨_,List.getElem?_eq_getElem (by rw [HN.out]; exact hlt)⟩
   obtain ⟨p,ix,px⟩ := elN HS.out rfl HN.out hy
   obtain ⟨p0,p1,p2,p3,p4,p5,p6⟩ := px wr BE.out
   obtain ⟨r,hr⟩ : ∃ r,decide (keyT y = (c,d)) = r := ⟨_,rfl⟩
   have CL := Lib.hid (cloN_any y b2 c d r hr wr (X2.out.on BE.out))
   have HY := Lib.hid hy
   have HR := Lib.hid hr
   obtain ⟨y1,y2,y3,y4,⟨yo,yn,yc⟩,y6,y7⟩ := y
   simp only at p0 p1 p2 p3 p4 p5 p6
   have hw3 : IntKind.i64.wrap ((k : Int) + 1) = (k : Int) + 1 := IntWalk.i64_in _ (by omega)
   clear px hy hr
   go_wp2_with fail
   refine CL.out.mono ?_
   rintro e w1 ⟨rfl,hb⟩
   have B1 := Lib.hid (BE.out.trans (hb.mono BE.out.size))
   clear hb CL ix p0 p1 p2 p3 p4 p5 p6
   cases r
   ·go_wp2
    go_roundw
    case rel => exact ⟨k + 1,by omega,by go_num,B1.out,fun j y' hj h1 => by
     rcases Nat.lt_or_ge j k with h3 | h3
     ·exact AL.out j y' h3 h1
     ·obtain rfl : j = k := by omega
      have e1 := HY.out
      rw [h1] at e1
      rw [Option.some.inj e1]
      exact of_decide_eq_false HR.out⟩
    case measure => simp [intOf]; omega
   ·go_wp2
    go_ret
    exact ⟨by rw [findI_at (l.map keyT) k (c,d) (by rw [List.getElem?_map,HY.out]; exact congrArg some (of_decide_eq_true HR.out)) (fun j z hj hz => by
     rw [List.getElem?_map] at hz
     cases hz2 : l[j]? with
     | none => rw [hz2] at hz; cases hz
     | some u => rw [hz2] at hz; rw [← Option.some.inj hz]; exact AL.out j u hj hz2)]; rfl,B1.out⟩
  ·obtain rfl : k = n := by omega
   go_wp2
   go_ret
   exact ⟨by rw [findI_none (l.map keyT) (c,d) (fun j z hz => by
     rw [List.getElem?_map] at hz
     cases hz2 : l[j]? with
     | none => rw [hz2] at hz; cases hz
     | some u => rw [hz2] at hz; rw [← Option.some.inj hz]; exact AL.out j u (by rw [← HN.out]; exact (List.getElem?_eq_some_iff.1 hz2).1) hz2)]; rfl,BE.out⟩
abbrev keepN (c d : Int) (x : XEn) : Bool := decide (keyT x ≠ (c,d))
theorem delN_any (B : Nat) (v : Sl) (l : List XEn) (b2 : Nat) (c d : Int) (w : World) (ho : Own EN w B (slv v) l) (hb2 : Box w b2 #[.int .i64 c,.int .i64 d] 38) (hB : B ≤ w.heap.size) :
  Calls Tryz.prog 90 #[slv v,.func (.func 91) #[] #[.pointer (some ⟨b2,0,none⟩)]] w fun e w' => (∃ v' : Sl,e = .returned (slv v') ∧ Own EN w' B (slv v') (l.filter (keepN c d))) ∧ Below B w w' ∧ Off (slv v).ownBlock w w' := by
 obtain ⟨so,sn,sc⟩ := v
 obtain ⟨ao,ac,hv⟩ := (Row.of_own ho).len
 have hv : Value.slice so sn sc = .slice ao l.length ac := hv
 obtain ⟨rfl,rfl,rfl⟩ : so = ao ∧ sn = l.length ∧ sc = ac := by simpa using hv
 have IX := Lib.hid (ixfN_any (so,l.length,sc) l b2 c d w (Row.of_own ho) hb2)
 have HO := Lib.hid ho
 have X2 := Lib.hid hb2
 have lm := (Row.of_own ho).most
 unfold maxLen at lm
 have BZ := Lib.hid (show w.heap.size ≤ w.heap.size from Nat.le_refl _)
 obtain ⟨n,hn⟩ : ∃ n,n = l.length := ⟨_,rfl⟩
 rw [← hn] at HO lm IX ⊢
 have HN := Lib.hid hn.symm
 obtain ⟨q,hq⟩ : ∃ q,findI (l.map keyT) (c,d) = q := ⟨_,rfl⟩
 rw [hq] at IX
 have HQ := Lib.hid hq
 have HB := Lib.hid hB
 have LB := Lib.hid (show ∀ g,(slv (so,n,sc)).ownBlock = some g → B ≤ g from fun g hg => (HO.out.lt g hg).1)
 clear hb2 ho hv hn hB
 by_cases hneg : q = -1
 ·subst hneg
  go_enter Tryz.func90,Tryz.ntmps90
  go_wp2_with fail
  refine IX.out.mono ?_
  rintro e w1 ⟨rfl,hb⟩
  have FE := Lib.hid (show l.filter (keepN c d) = l from by
   rw [List.filter_eq_self]
   intro y hy
   obtain ⟨j,hj⟩ := List.mem_iff_getElem?.1 hy
   exact decide_eq_true (findI_neg hq j y hj))
  have BH := Lib.hid hb
  clear hb hq
  go_wp2
  go_ret
  exact ⟨⟨(so,n,sc),rfl,by rw [FE.out]; exact Bk.own_on HO.out BH.out⟩,BH.out.mono HB.out,fun j hj _ => BH.out.block j hj,BH.out.size⟩
 ·obtain ⟨k,rfl⟩ : ∃ k : Nat,q = k := ⟨q.toNat,by have := findI_bd (l.map keyT) (c,d); omega⟩
  obtain ⟨g1,g2⟩ := findI_get hq
  obtain ⟨x,hx,hxk⟩ : ∃ x,l[k]? = some x ∧ keyT x = (c,d) := by
   rw [List.getElem?_map] at g1
   cases hz : l[k]? with
   | none => rw [hz] at g1; cases g1
   | some x => rw [hz] at g1; exact ⟨x,rfl,Option.some.inj g1⟩
  have ST0 := Lib.hid (filter_first (keep := keepN c d) hx (decide_eq_false (by simp [hxk])) (fun j y hj hy => decide_eq_true (g2 j (keyT y) hj (by rw [List.getElem?_map,hy]; rfl))))
  have hkl : k < n := by rw [← HN.out]; exact (List.getElem?_eq_some_iff.1 hx).1
  obtain ⟨g,rfl,hBg⟩ : ∃ g,so = some ⟨g,0,none⟩ ∧ B ≤ g := own_some HO.out (show 0 < n by omega)
  have BG := Lib.hid hBg
  have TG := Lib.hid (tag_own HO.out)
  have hcap : n ≤ sc := by
   rcases own_open HO.out with ⟨h1,_⟩ | ⟨g',c',cur,h1,h2,h3,h4,h5,h6,h7⟩
   ·cases h1
   ·have e1 : sc = c' := by simpa using congrArg (fun v => match v with | Value.slice _ _ c => c | _ => 0) h1
    have := HN.out
    omega
  have hw0 : IntKind.i64.wrap ((k : Int) + 1) = (k : Int) + 1 := IntWalk.i64_in _ (by omega)
  have hk1 : ((k : Int) == -1) = false := by rw [beq_eq_false_iff_ne]; omega
  clear hq g1 g2 hx hxk x hneg hBg LB
  go_enter Tryz.func90,Tryz.ntmps90
  go_wp2_with fail
  refine IX.out.mono ?_
  rintro e w1 ⟨rfl,hb⟩
  have O1 := Lib.hid (Bk.own_on HO.out hb)
  have B1 := Lib.hid (hb.mono HB.out)
  have F1 := Lib.hid (show Off (some g) w w1 from ⟨fun j hj _ => hb.block j hj,hb.size⟩)
  clear hb IX
  go_wp2
  clear hw0 hk1
  go_loopw [5,6] (fun s5 s6 wr => ∃ (i j : Nat) (L : List XEn),s5 = .int .i64 i ∧ s6 = .int .i64 j ∧ j ≤ n ∧ DelSt (keepN c d) l i j L ∧ Own EN wr B (.slice (some ⟨g,0,none⟩) n sc) L ∧ Below B w wr ∧ Off (some g) w wr) (fun _ s6 _ => n - (intOf s6).toNat)
  case atStart => exact ⟨k,k + 1,l,rfl,by go_num,by omega,ST0.out,O1.out,B1.out,F1.out⟩
  case round =>
   obtain ⟨i,j,L,rfl,rfl,hj,hst,how,hbe,hof⟩ := hrel
   have ST := Lib.hid hst
   have OW := Lib.hid how
   have BE := Lib.hid hbe
   have OF := Lib.hid hof
   have hij := hst.lt
   have LN := Lib.hid (show L.length = n from hst.len.trans HN.out)
   clear hst how hbe hof O1 B1 F1 ST0
   by_cases hlt : j < n
   ·obtain ⟨y,hy⟩ : ∃ y,l[j]? = some y := ⟨_,List.getElem?_eq_getElem (by rw [HN.out]; exact hlt)⟩
    have hyL : L[j]? = some y := by rw [ST.out.at,hy]
    obtain ⟨p,ix,px⟩ := elN (Row.of_own OW.out) rfl LN.out hyL
    obtain ⟨p0,p1,p2,p3,p4,p5,p6⟩ := px wr (Below.refl _ _)
    obtain ⟨r,hr⟩ : ∃ r,decide (keyT y = (c,d)) = r := ⟨_,rfl⟩
    have HY := Lib.hid hy
    have hw3 : IntKind.i64.wrap ((j : Int) + 1) = (j : Int) + 1 := IntWalk.i64_in _ (by omega)
    have hw5 : IntKind.i64.wrap ((i : Int) + 1) = (i : Int) + 1 := IntWalk.i64_in _ (by omega)
    obtain ⟨z,hz⟩ : ∃ z,L[i]? = some z := ⟨_,List.getElem?_eq_getElem (by rw [LN.out]; omega)⟩
    have HZ := Lib.hid hz
    have X2w := OF.out.box X2.out TG.out (by decide)
    have CLO := cloN_any y b2 c d r hr
    have KP := Lib.hid (show keepN c d y = !r from by rw [← hr]; simp [keepN])
    obtain ⟨y1,y2,y3,y4,⟨yo,yn,yc⟩,y6,y7⟩ := y
    simp only at p0 p1 p2 p3 p4 p5 p6
    have NB := Lib.hid (newB wr (.cells #[.int .i64 y1,.int .i64 y2,.int .i64 y3,.int .i64 y4,.slice yo yn yc,.int .i64 y6,.bool y7] 43))
    have CL := Lib.hid (CLO _ (X2w.on NB.out))
    clear hy hyL px hr hz CLO X2w
    go_wp2_with fail
    refine CL.out.mono ?_
    rintro e w2 ⟨rfl,hb⟩
    have BB := Lib.hid (NB.out.trans (hb.mono NB.out.size))
    have Y7 := (box_new wr #[.int .i64 y1,.int .i64 y2,.int .i64 y3,.int .i64 y4,.slice yo yn yc,.int .i64 y6,.bool y7] 43).on hb
    obtain ⟨q0,q1,q2,q3,q4,q5,q6⟩ := Y7.cs7
    have O2 := Lib.hid (Bk.own_on OW.out BB.out)
    clear hb CL ix p0 p1 p2 p3 p4 p5 p6 Y7
    cases r
    ·have ix := index_own okN g i n sc (by omega)
     have ix : ∀ w,(Instr.indexAt 28 (.slice (some ⟨g,0,none⟩) n sc) (.int .i64 i)).run Tryz.prog w = .ok (.pointer (some ⟨g,i * 7,none⟩)) w := ix
     have ca := own_row_at okN O2.out HZ.out w2 (Below.refl _ _)
     have ce0 := ca 0 _ rfl
     have ce1 := ca 1 _ rfl
     have ce2 := ca 2 _ rfl
     have ce3 := ca 3 _ rfl
     have ce4 := ca 4 _ rfl
     have ce5 := ca 5 _ rfl
     have ce6 := ca 6 _ rfl
     simp [Addr.add,EN] at ce0 ce1 ce2 ce3 ce4 ce5 ce6
     obtain ⟨cur,hbx⟩ := own_tag O2.out
     have f := fun j => hbx.fr j
     have gl := hbx.lt
     have SQ : StoQ EN B g (.slice (some ⟨g,0,none⟩) n sc) (L.set i (y1,y2,y3,y4,(yo,yn,yc),y6,y7)) w2 (((((((w2.setCell ⟨g,i * 7,none⟩ (.int .i64 y1)).setCell ⟨g,i * 7 + 1,none⟩ (.int .i64 y2)).setCell ⟨g,i * 7 + 2,none⟩ (.int .i64 y3)).setCell ⟨g,i * 7 + 3,none⟩ (.int .i64 y4)).setCell ⟨g,i * 7 + 4,none⟩ (.slice yo yn yc)).setCell ⟨g,i * 7 + 5,none⟩ (.int .i64 y6)).setCell ⟨g,i * 7 + 6,none⟩ (.bool y7)) := stoN (y1,y2,y3,y4,(yo,yn,yc),y6,y7) O2.out (by rw [LN.out]; omega)
     have SQ := Lib.hid SQ
     clear hbx ca
     go_upto_region 10 with fail
     generalize (((((((w2.setCell ⟨g,i * 7,none⟩ (.int .i64 y1)).setCell ⟨g,i * 7 + 1,none⟩ (.int .i64 y2)).setCell ⟨g,i * 7 + 2,none⟩ (.int .i64 y3)).setCell ⟨g,i * 7 + 3,none⟩ (.int .i64 y4)).setCell ⟨g,i * 7 + 4,none⟩ (.slice yo yn yc)).setCell ⟨g,i * 7 + 5,none⟩ (.int .i64 y6)).setCell ⟨g,i * 7 + 6,none⟩ (.bool y7)) = w3 at *
     clear f gl ce0 ce1 ce2 ce3 ce4 ce5 ce6 ix
     go_wp2
     go_roundw
     case rel => exact ⟨i + 1,j + 1,L.set i (y1,y2,y3,y4,(yo,yn,yc),y6,y7),by go_num,by go_num,by omega,ST.out.keep HY.out KP.out,SQ.out.1,SQ.out.2.2 B w BG.out (BE.out.trans (BB.out.mono (Nat.le_trans HB.out OF.out.2))),⟨fun q hq hne => (SQ.out.2.1.1 q (Nat.lt_of_lt_of_le (Nat.lt_of_lt_of_le hq OF.out.2) BB.out.size) (fun e => hne (by rw [e]))).trans ((BB.out.block q (Nat.lt_of_lt_of_le hq OF.out.2)).trans (OF.out.1 q hq hne)),Nat.le_trans OF.out.2 (Nat.le_trans BB.out.size SQ.out.2.1.2)⟩⟩
     case measure => simp [intOf]; omega
    ·go_wp2
     go_roundw
     case rel => exact ⟨i,j + 1,L,rfl,by go_num,by omega,ST.out.skip HY.out KP.out,O2.out,BE.out.trans (BB.out.mono (Nat.le_trans HB.out OF.out.2)),⟨fun q hq hne => (BB.out.block q (Nat.lt_of_lt_of_le hq OF.out.2)).trans (OF.out.1 q hq hne),Nat.le_trans OF.out.2 BB.out.size⟩⟩
     case measure => simp [intOf]; omega
   ·obtain rfl : n = j := by omega
    obtain ⟨W',hr,h1,h2,h3⟩ := clear_own okN (by decide) OW.out hij (ty := 0)
    have sh := cut_hi (E := EN) okN g i n sc (by omega) (by omega)
    have sl := slice_lo (E := EN) okN ⟨g,0,none⟩ i n sc (by omega)
    have sh : ∀ w,(Instr.sliceAt 28 (.slice (some ⟨g,0,none⟩) n sc) (some (.int .i64 i)) none none).run Tryz.prog w = .ok (.slice (some ⟨g,i * 7,none⟩) (n - i) (sc - i)) w := sh
    have sl : ∀ w,(Instr.sliceAt 28 (.slice (some ⟨g,0,none⟩) n sc) none (some (.int .i64 i)) none).run Tryz.prog w = .ok (.slice (some ⟨g,0,none⟩) i sc) w := sl
    have hr : (Builtin.clear_ #[28] 0 #[.slice (some ⟨g,i * 7,none⟩) (n - i) (sc - i)]).run Tryz.prog wr = .ok (.tuple #[]) W' := hr
    have Q := Lib.hid (show (∃ v' : Sl,Ending.returned (.slice (some ⟨g,0,none⟩) i sc) = .returned (slv v') ∧ Own EN W' B (slv v') (l.filter (keepN c d))) ∧ Below B w W' ∧ Off (slv (some ⟨g,0,none⟩,n,sc)).ownBlock w W' from ⟨⟨(some ⟨g,0,none⟩,i,sc),rfl,by
     have e1 : l.take n = l := List.take_of_length_le (by rw [HN.out]; exact Nat.le_refl _)
     have e2 := ST.out.lo
     rw [e1] at e2
     rw [← e2]
     exact h1⟩,h3 B w BG.out BE.out,⟨fun q hq hne => (h2.1 q (Nat.lt_of_lt_of_le hq OF.out.2) (fun e => hne (by rw [e]; rfl))).trans (OF.out.1 q hq hne),Nat.le_trans OF.out.2 h2.2⟩⟩)
    clear h1 h2 h3 hlt
    go_wp2_with (first | (at_builtin; refine wpList_clear_run rfl _ _ 28 rfl rfl rfl hr ?_) | fail)
    go_ret
    exact Q.out
def lrn4V (B : Nat) (b1 _b2 : Nat) (_me : Int) (_z1 : Value) (o2 : Option Addr) (n2 c2 : Nat) (_z3 _z4 _z5 : Value) (y1 y2 : Int) (yo : Option Addr) (yn yc : Nat) (y4 : Int) (p : List C5) (i : Nat) (v : Value) (x : World) : Prop :=
 match i with
 | 0 => v = .pointer (some ⟨b1,2,none⟩)
 | 1 => v = .slice o2 n2 c2
 | 2 => v = .agg #[.int .i64 y1,.int .i64 y2,.slice yo yn yc,.int .i64 y4]
 | 3 => ∃ s : Sl,v = valD (y1,y2,s,y4) ∧ OwnC x B (slv s) p
 | _ => True
noncomputable def lrn4C : Code := ((Tryz.f21.body.bind (findRegion 4)).getD .skip)
theorem lrn4V_on (B : Nat) (b1 b2 : Nat) (me : Int) (z1 : Value) (o2 : Option Addr) (n2 c2 : Nat) (z3 z4 z5 : Value) (y1 y2 : Int) (yo : Option Addr) (yn yc : Nat) (y4 : Int) (p : List C5) (i : Nat) (v : Value) (x x' : World) (h : lrn4V B b1 b2 me z1 o2 n2 c2 z3 z4 z5 y1 y2 yo yn yc y4 p i v x) (hb : Below x.heap.size x x') : lrn4V B b1 b2 me z1 o2 n2 c2 z3 z4 z5 y1 y2 yo yn yc y4 p i v x' := by
 by_cases hi : i < 4
 ·rcases (by omega : i = 0 ∨ i = 1 ∨ i = 2 ∨ i = 3) with rfl | rfl | rfl | rfl
  ·exact h
  ·exact h
  ·exact h
  ·obtain ⟨s,h1,h2⟩ := h; exact ⟨s,h1,Bk.own_on h2 hb⟩
 ·unfold lrn4V
  split <;> first | omega | trivial
theorem lrn4 (Q : Exit → Act → World → Prop) (W : World) (B0 : Nat) (l : List XAd) (b1 b2 : Nat) (me : Int) (z1 : Value) (o2 : Option Addr) (n2 c2 : Nat) (z3 z4 z5 : Value) (y1 y2 : Int) (yo : Option Addr) (yn yc : Nat) (y4 : Int) (p : List C5) (u0 u1 u4 u5 u6 u7 u8 u9 u10 u11 u12 u13 u14 u15 u16 u17 u18 u19 u20 u21 u22 u23 u24 u25 : Value)
  (h1 : Box W b1 #[.int .i64 me,z1,.slice o2 n2 c2,z3,z4,z5] 31) (h2 : Box W b2 #[.int .i64 y1,.int .i64 y2,.slice yo yn yc,.int .i64 y4] 41) (ho : OwnD W B0 (.slice o2 n2 c2) l) (hr : RiseK keyD l) (hl : l.length ≤ 900) (hB : B0 ≤ W.heap.size) (hb0 : b1 < B0) (hp : RowC W (.slice yo yn yc) p) (lp : p.length ≤ 900)
  (hQ : ∀ (w1 : World) (v13 v14 v15 v16 v17 v18 : Value) (s1 : Option Addr) (s2 s3 : Nat) (t1 : Option Addr) (t2 t3 : Nat),Box w1 b1 #[.int .i64 me,z1,.slice o2 n2 c2,z3,z4,z5] 31 → OwnD w1 B0 (.slice t1 t2 t3) (insAt l (placeK keyD l (y1,y2)) (y1,y2,(s1,s2,s3),y4)) → OwnC w1 W.heap.size (.slice s1 s2 s3) p → Off (slv (o2,n2,c2)).ownBlock W w1 → Below B0 W w1 → Q .normal ⟨(u0 :: u1 :: .pointer (some ⟨b1,0,none⟩) :: .pointer (some ⟨b2,0,none⟩) :: u4 :: u5 :: u6 :: u7 :: u8 :: u9 :: u10 :: u11 :: u12 :: v13 :: v14 :: v15 :: v16 :: v17 :: v18 :: u19 :: u20 :: u21 :: u22 :: u23 :: u24 :: u25 :: []).toArray,[]⟩ (w1.setCell ⟨b1,2,none⟩ (.slice t1 t2 t3))) :
  Code.wp Tryz.prog lrn4C Q ⟨(u0 :: u1 :: .pointer (some ⟨b1,0,none⟩) :: .pointer (some ⟨b2,0,none⟩) :: u4 :: u5 :: u6 :: u7 :: u8 :: u9 :: u10 :: u11 :: u12 :: u13 :: u14 :: u15 :: u16 :: u17 :: u18 :: u19 :: u20 :: u21 :: u22 :: u23 :: u24 :: u25 :: []).toArray,[]⟩ W := by
 have HQ := Lib.hid hQ
 have H1 := Lib.hid h1
 have H2 := Lib.hid h2
 have HO := Lib.hid ho
 have HR := Lib.hid hr
 have HL := Lib.hid hl
 have HB := Lib.hid hB
 have H0 := Lib.hid hb0
 have HP := Lib.hid hp
 have LP := Lib.hid lp
 clear hQ h1 h2 ho hr hl hB hb0 hp lp
 have stab := lrn4V_on W.heap.size b1 b2 me z1 o2 n2 c2 z3 z4 z5 y1 y2 yo yn yc y4 p
 unfold lrn4C
 conv => arg 2; whnf
 have nd : ∀ j,(j < 13 ∨ 17 ≤ j) → ∀ i,i < 4 → (fun i => 13 + i) i ≠ j := by
  intro j hj i hi h
  simp only at h
  omega
 refine Rg.region_live 7 4 (fun i => 13 + i) (fun _ => 4) (lrn4V W.heap.size b1 b2 me z1 o2 n2 c2 z3 z4 z5 y1 y2 yo yn yc y4 p) (by kernel_rfl) (by kernel_rfl) rfl (by decide) (fun i j _ _ h => by have h2 : 13 + i = 13 + j := h; omega) (fun i hi => by show 13 + i < 26; omega) ?_ (fun _ => Rg.hall_of 14 (by kernel_rfl)) ?_ ?_
 ·intro i o hi ho a x D hnd hc hD hb seen K hK
  clear HQ
  rcases (by omega : i = 0 ∨ i = 1 ∨ i = 2 ∨ i = 3) with rfl | rfl | rfl | rfl
  ·obtain rfl := Option.some.inj ho
   have e2 : a.eval (.tmp 2) = .pointer (some ⟨b1,0,none⟩) := seen.kp 2 _ (nd 2 (by omega)) rfl
   exact Rg.op_value rfl rfl (Rg.ex_field a.eval _ 31 (.tmp 2) 2 rfl (by rw [e2]; simp [go_sem])) (hK _ _ rfl (Below.refl _ _) fun _ _ _ _ _ _ _ h => h)
  ·obtain rfl := Option.some.inj ho
   have e13 : a.eval (.tmp 13) = .pointer (some ⟨b1,2,none⟩) := seen.at_ ⟨0,.data⟩ (by simp) rfl (Or.inr (by decide))
   have y2 := (H1.out.on hb).cell 2
   simp only [List.getElem?_toArray,List.getElem?_cons_zero,List.getElem?_cons_succ] at y2
   exact Rg.op_value rfl rfl (Rg.ex_load a.eval _ 26 (.tmp 13) rfl (by rw [e13]; simp [go_sem,y2])) (hK _ _ rfl (Below.refl _ _) fun _ _ _ _ _ _ _ h => h)
  ·obtain rfl := Option.some.inj ho
   have e3 : a.eval (.tmp 3) = .pointer (some ⟨b2,0,none⟩) := seen.kp 3 _ (nd 3 (by omega)) rfl
   obtain ⟨y0,y1,y2,y3⟩ := (H2.out.on hb).cs4
   exact Rg.op_value rfl rfl (Rg.ex_load a.eval _ 41 (.tmp 3) rfl (by rw [e3]; simp [go_sem,y0,y1,y2,y3])) (hK _ _ rfl (Below.refl _ _) fun _ _ _ _ _ _ _ h => h)
  ·obtain rfl := Option.some.inj ho
   have e15 : a.eval (.tmp 15) = .agg #[.int .i64 y1,.int .i64 y2,.slice yo yn yc,.int .i64 y4] := seen.at_ ⟨2,.data⟩ (by simp) rfl (Or.inr (by decide))
   exact Rg.op_call rfl rfl (Rw.ex_call1 a.eval _ (.tmp 15) 41 85 rfl e15 rfl _ (call_fn Tryz.func85 rfl rfl _ _)) (cpAd_any (y1,y2,(yo,yn,yc),y4) p x (HP.out.on hb) LP.out) fun e w1 h => by
    obtain ⟨⟨s,rfl,h1⟩,h3⟩ := h
    exact ⟨_,rfl,hK _ _ ⟨s,rfl,own_fewer h1 hb.size⟩ (h3.mono hb.size) fun j u hj _ _ _ hne h => stab j u _ _ h h3⟩
 ·intro kk o h1 h2 ho
  rcases (by omega : kk = 5 ∨ kk = 6) with rfl | rfl
  ·obtain rfl := Option.some.inj ho
   exact ⟨⟨4,.phase⟩,by simp,rfl,rfl⟩
  ·obtain rfl := Option.some.inj ho
   exact ⟨⟨5,.data⟩,by simp,rfl,rfl⟩
 ·intro a w' df sz kp ⟨vs,hv⟩ hb
  have sz' : a.tmps.size = 26 := sz
  have g2 : a.tmps[2]? = some (.pointer (some ⟨b1,0,none⟩)) := (kp 2 (nd 2 (by omega))).trans rfl
  have g14 : a.tmps[14]? = some (.slice o2 n2 c2) := by
   have h : vs 1 = .slice o2 n2 c2 := (hv 1 (by omega)).2 (by decide)
   rw [← h]
   exact (hv 1 (by omega)).1
  obtain ⟨⟨s1,s2,s3⟩,hs,hc⟩ := (hv 3 (by omega)).2 (by decide)
  have g16 : a.tmps[16]? = some (valD (y1,y2,(s1,s2,s3),y4)) := ((hv 3 (by omega)).1).trans (congrArg some hs)
  have B1 := H1.out.on hb
  show Rg.SeqFrom _ _ _ 3 4 a w'
  simp only [Rg.SeqFrom]
  refine Rg.op_call rfl rfl (ex_call3g a.eval _ (.tmp 14) (.tmp 16) (.func 41) 26 41 91 84 rfl (Rg.eval_some g14) (Rg.eval_some g16) rfl rfl _ (call_fn Tryz.func84 rfl rfl _ _)) (putD_any B0 (o2,n2,c2) l (y1,y2,(s1,s2,s3),y4) w' (Bk.own_on HO.out hb) HR.out HL.out (Nat.le_trans HB.out hb.size)) fun e w1 h => ?_
  obtain ⟨⟨⟨t1,t2,t3⟩,rfl,hown⟩,hbel,hoth⟩ := h
  refine ⟨_,rfl,?_⟩
  have hp17 : (a.put (some 17) (.slice t1 t2 t3)).tmps[17]? = some (.slice t1 t2 t3) := by simp [Act.put,sz']
  show Go.wpOp _ _ _ 5 _ (a.put (some 17) (.slice t1 t2 t3)) _
  refine Rg.op_value rfl rfl (Rg.ex_field _ _ 31 (.tmp 2) 2 rfl (v := .pointer (some ⟨b1,2,none⟩)) (by rw [Rg.eval_some ((Rg.get_put _ 17 _ 2 (by decide)).trans g2)]; simp [go_sem])) ?_
  have hp18 : ((a.put (some 17) (.slice t1 t2 t3)).put (some 18) (.pointer (some ⟨b1,2,none⟩))).tmps[18]? = some (.pointer (some ⟨b1,2,none⟩)) := by simp [Act.put,sz']
  show Go.wpOp _ _ _ 6 _ ((a.put (some 17) (.slice t1 t2 t3)).put (some 18) (.pointer (some ⟨b1,2,none⟩))) _
  have B2 : Box w1 b1 _ _ := (hbel.block b1 H0.out).trans B1
  have cx := B2.cell 2
  have fx := B2.fr 2
  simp only [List.getElem?_toArray,List.getElem?_cons_zero,List.getElem?_cons_succ] at cx
  refine Rg.op_store 26 (.tmp 18) (.tmp 17) rfl rfl rfl rfl (Rg.eval_some hp18) (Rg.eval_some ((Rg.get_put _ 18 _ 17 (by decide)).trans hp17)) (w' := w1.setCell ⟨b1,2,none⟩ (.slice t1 t2 t3)) (by simp [go_sem,cx,fx]) ?_
  have of1 : Off (slv (o2,n2,c2)).ownBlock w' w1 := ⟨hoth,hbel.size⟩
  have of2 : Off (slv (o2,n2,c2)).ownBlock W w1 := ⟨fun j hj hne => (hoth j (Nat.lt_of_lt_of_le hj hb.size) hne).trans (hb.block j hj),Nat.le_trans hb.size hbel.size⟩
  have kp2 : ∀ j,(j < 13 ∨ 19 ≤ j) → ((a.put (some 17) (.slice t1 t2 t3)).put (some 18) (.pointer (some ⟨b1,2,none⟩))).tmps[j]? = (u0 :: u1 :: .pointer (some ⟨b1,0,none⟩) :: .pointer (some ⟨b2,0,none⟩) :: u4 :: u5 :: u6 :: u7 :: u8 :: u9 :: u10 :: u11 :: u12 :: u13 :: u14 :: u15 :: u16 :: u17 :: u18 :: u19 :: u20 :: u21 :: u22 :: u23 :: u24 :: u25 :: [])[j]? := fun j hj => (Rg.get_put _ 18 _ j (by omega)).trans ((Rg.get_put _ 17 _ j (by omega)).trans ((kp j (nd j (by omega))).trans List.getElem?_toArray))
  obtain ⟨mid,hmid,hfr⟩ := Rg.frame_mid (a := (a.put (some 17) (.slice t1 t2 t3)).put (some 18) (.pointer (some ⟨b1,2,none⟩))) 13 6 df (by simp [Rg.size_put,sz']) (by simp) kp2
  show Q .normal ((a.put (some 17) (.slice t1 t2 t3)).put (some 18) (.pointer (some ⟨b1,2,none⟩))) _
  rw [hfr]
  match mid,hmid with
  | [v13,v14,v15,v16,v17,v18],_ =>
   exact HQ.out w1 _ _ _ _ _ _ s1 s2 s3 t1 t2 t3 B2 hown (of1.own hc (tag_own (Bk.own_on HO.out hb)) (by decide)) of2 ((hb.mono HB.out).trans hbel)
abbrev RiseA (l : List Ad) : Prop := RiseK Ad.id l
abbrev RiseI (l : List XID) : Prop := RiseK (fun x : XID => x) l
def NearOwn (W : World) (nv : Sl) (l : List Int) : Prop := ∃ B,OwnI W B (slv nv) l
theorem NearOwn.on {W W' : World} {nv : Sl} {l : List Int} (h : NearOwn W nv l) (hb : Below W.heap.size W W') : NearOwn W' nv l := by obtain ⟨B,h⟩ := h; exact ⟨B,Bk.own_on h hb⟩
def LearnQ (W : World) (P : Prop) (r : Br × Bool) (e : Ending) (w' : World) : Prop := (∃ nv av sv ev ov : Sl,e = .returned (.tuple #[brv r.1.me nv av sv ev ov,.bool r.2]) ∧ BrIn w' r.1 nv av sv ev ov ∧ (P → NearOwn w' nv r.1.near)) ∧ Below W.heap.size W w'
theorem learnB_in {b : Br} {a : Ad} (h : a.id ∈ b.seen) : learnB b a = (b,false) := by unfold learnB; rw [if_pos h]
theorem learnB_out {b : Br} {a : Ad} (h : ¬ a.id ∈ b.seen) : learnB b a = ({ b with seen := insAt b.seen (placeI b.seen a.id) a.id,adv := insAt b.adv (placeI (b.adv.map Ad.id) a.id) a },true) := by unfold learnB; rw [if_neg h]
theorem learn_any (b : Br) (a : Ad) (nv av sv ev ov : Sl) (x : XAd) (w : World) (h : BrIn w b nv av sv ev ov) (ha : AdIn w x a) (hf : Few b) (hp : FewP b) (hla : a.p.length ≤ 900) (hr1 : RiseI b.seen) (hr2 : RiseA b.adv) :
  Calls Tryz.prog 21 #[brv b.me nv av sv ev ov,valD x] w (LearnQ w (NearOwn w nv b.near) (learnB b a)) := by
 obtain ⟨no,nn,nc⟩ := nv
 obtain ⟨ao,an,ac⟩ := av
 obtain ⟨so,sn,sc⟩ := sv
 obtain ⟨eo,en,ec⟩ := ev
 obtain ⟨oo,on_,oc⟩ := ov
 obtain ⟨y1,y2,⟨yo,yn,yc⟩,y4⟩ := x
 obtain ⟨h0,h1,h2⟩ := two_new w #[.int .i64 b.me,.slice no nn nc,.slice ao an ac,.slice so sn sc,.slice eo en ec,.slice oo on_ oc] #[.int .i64 y1,.int .i64 y2,.slice yo yn yc,.int .i64 y4] 31 41
 have h3 := newB ((w.alloc (.cells #[.int .i64 b.me,.slice no nn nc,.slice ao an ac,.slice so sn sc,.slice eo en ec,.slice oo on_ oc] 31)).alloc (.cells #[.int .i64 y1,.int .i64 y2,.slice yo yn yc,.int .i64 y4] 41)) (.cells #[.int .i64 0,.slice none 0 0,.slice none 0 0,.slice none 0 0,.slice none 0 0,.slice none 0 0] 31)
 have h4 := box_new ((w.alloc (.cells #[.int .i64 b.me,.slice no nn nc,.slice ao an ac,.slice so sn sc,.slice eo en ec,.slice oo on_ oc] 31)).alloc (.cells #[.int .i64 y1,.int .i64 y2,.slice yo yn yc,.int .i64 y4] 41)) #[.int .i64 0,.slice none 0 0,.slice none 0 0,.slice none 0 0,.slice none 0 0,.slice none 0 0] 31
 have hsz : ((w.alloc (.cells #[.int .i64 b.me,.slice no nn nc,.slice ao an ac,.slice so sn sc,.slice eo en ec,.slice oo on_ oc] 31)).alloc (.cells #[.int .i64 y1,.int .i64 y2,.slice yo yn yc,.int .i64 y4] 41)).heap.size = w.heap.size + 1 + 1 := by simp
 rw [hsz] at h4
 have BB := Lib.hid (h0.trans (h3.mono h0.size))
 have X1 := Lib.hid (h1.on h3)
 have X2 := Lib.hid (h2.on h3)
 have X3 := Lib.hid h4
 have HH := Lib.hid h
 have HA := Lib.hid ha
 have HF := Lib.hid hf
 have HP := Lib.hid hp
 have LA := Lib.hid hla
 have R1 := Lib.hid hr1
 have R2 := Lib.hid hr2
 have ei : a.id = (y1,y2) := ha.1.symm
 have SW := Lib.hid (aseen_any b.me (.slice no nn nc) (.slice ao an ac) (.slice eo en ec) (.slice oo on_ oc) (so,sn,sc) b.seen (y1,y2) _ (h.seen.on BB.out))
 obtain ⟨r,hr⟩ : ∃ r,decide ((y1,y2) ∈ b.seen) = r := ⟨_,rfl⟩
 rw [hr] at SW
 have HR := Lib.hid hr
 have EI := Lib.hid ei
 obtain ⟨x0,x1,x2,x3,x4,x5⟩ := X1.out.cs6
 obtain ⟨d0,d1,d2,d3⟩ := X2.out.cs4
 obtain ⟨z0,z1,z2,z3,z4,z5⟩ := X3.out.cs6
 obtain ⟨t0,t1,t2,t3,t4,t5⟩ := X3.out.fs6
 have zz := X3.out.lt
 clear h0 h1 h2 h3 h4 hsz h ha hf hp hla hr1 hr2 hr ei
 go_enter Tryz.func21,Tryz.ntmps21
 go_wp2_with fail
 generalize ((w.alloc (.cells #[.int .i64 b.me,.slice no nn nc,.slice ao an ac,.slice so sn sc,.slice eo en ec,.slice oo on_ oc] 31)).alloc (.cells #[.int .i64 y1,.int .i64 y2,.slice yo yn yc,.int .i64 y4] 41)).alloc (.cells #[.int .i64 0,.slice none 0 0,.slice none 0 0,.slice none 0 0,.slice none 0 0,.slice none 0 0] 31) = W at *
 refine SW.out.mono ?_
 rintro e1 w1 ⟨rfl,hb⟩
 have B1 := Lib.hid (BB.out.trans (hb.mono BB.out.size))
 have Y1 := X1.out.on hb
 have Y2 := X2.out.on hb
 have Y3 := X3.out.on hb
 clear SW hb x0 x1 x2 x3 x4 x5 d0 d1 d2 d3 z0 z1 z2 z3 z4 z5 t0 t1 t2 t3 t4 t5 zz X1 X2 X3
 obtain ⟨x0,x1,x2,x3,x4,x5⟩ := Y1.cs6
 obtain ⟨z0,z1,z2,z3,z4,z5⟩ := Y3.cs6
 obtain ⟨t0,t1,t2,t3,t4,t5⟩ := Y3.fs6
 have zz := Y3.lt
 cases r
 ·have nin : ¬ a.id ∈ b.seen := by rw [EI.out]; exact of_decide_eq_false HR.out
  have LQ := Lib.hid (learnB_out nin)
  have Z1 := Lib.hid Y1
  have Z2 := Lib.hid Y2
  have Z3 := Lib.hid Y3
  have L1 := Lib.hid Y1.lt
  have L3 := Lib.hid (show w.heap.size + 1 < w1.heap.size from Y2.lt)
  clear z0 z1 z2 z3 z4 z5 t0 t1 t2 t3 t4 t5 zz nin
  go_wp2_with fail
  refine (acopy_any b (no,nn,nc) (ao,an,ac) (so,sn,sc) (eo,en,ec) (oo,on_,oc) w w1 B1.out HH.out HF.out HP.out).mono ?_
  rintro e2 w2 ⟨⟨⟨p1,q1,s1⟩,⟨p2,q2,s2⟩,⟨p3,q3,s3⟩,⟨p4,q4,s4⟩,⟨p5,q5,s5⟩,rfl,cp⟩,hb2⟩
  have V1 := Z1.out.on hb2
  have V2 := Lib.hid (Z2.out.on hb2)
  have V3 := Lib.hid (Z3.out.on hb2)
  clear x0 x1 x2 x3 x4 x5
  obtain ⟨x0,x1,x2,x3,x4,x5⟩ := V1.cs6
  obtain ⟨t0,t1,t2,t3,t4,t5⟩ := V1.fs6
  have zz := V1.lt
  have FB := Lib.hid (setB_box V1 (.int .i64 b.me) (.slice p1 q1 s1) (.slice p2 q2 s2) (.slice p3 q3 s3) (.slice p4 q4 s4) (.slice p5 q5 s5))
  have FC := Lib.hid (cp.but (but_setB w2 w.heap.size (.int .i64 b.me) (.slice p1 q1 s1) (.slice p2 q2 s2) (.slice p3 q3 s3) (.slice p4 q4 s4) (.slice p5 q5 s5)) V1)
  have FL := Lib.hid (setB_below (b := w.heap.size) (B1.out.trans (hb2.mono B1.out.size)) (Nat.le_refl _) (.int .i64 b.me) (.slice p1 q1 s1) (.slice p2 q2 s2) (.slice p3 q3 s3) (.slice p4 q4 s4) (.slice p5 q5 s5))
  have F2 := Lib.hid ((but_setB w2 w.heap.size (.int .i64 b.me) (.slice p1 q1 s1) (.slice p2 q2 s2) (.slice p3 q3 s3) (.slice p4 q4 s4) (.slice p5 q5 s5)).box V2.out (by omega))
  have F3 := Lib.hid ((but_setB w2 w.heap.size (.int .i64 b.me) (.slice p1 q1 s1) (.slice p2 q2 s2) (.slice p3 q3 s3) (.slice p4 q4 s4) (.slice p5 q5 s5)).box V3.out (by omega))
  have SZ := Lib.hid (show w1.heap.size ≤ (setB w2 w.heap.size (.int .i64 b.me) (.slice p1 q1 s1) (.slice p2 q2 s2) (.slice p3 q3 s3) (.slice p4 q4 s4) (.slice p5 q5 s5)).heap.size by have := hb2.size; simp; omega)
  have L2 := Lib.hid (show w.heap.size < w1.heap.size from L1.out)
  clear V1 V2 V3 cp hb2 Z1 Z2 Z3 L1
  go_upto_region 4 with fail
  clear x0 x1 x2 x3 x4 x5 t0 t1 t2 t3 t4 t5 zz
  unfold setB at FB FC FL F2 F3 SZ
  generalize ((((((w2).setCell ⟨w.heap.size,0,none⟩ (.int .i64 b.me)).setCell ⟨w.heap.size,1,none⟩ (.slice p1 q1 s1)).setCell ⟨w.heap.size,2,none⟩ (.slice p2 q2 s2)).setCell ⟨w.heap.size,3,none⟩ (.slice p3 q3 s3)).setCell ⟨w.heap.size,4,none⟩ (.slice p4 q4 s4)).setCell ⟨w.heap.size,5,none⟩ (.slice p5 q5 s5) = w3 at *
  obtain ⟨la,hla1,hla2⟩ := FC.out.adv
  have HL1 := Lib.hid hla1
  have HL2 := Lib.hid hla2
  have KE := Lib.hid (keys_eq hla2)
  clear hla1 hla2
  refine lrn4 _ w3 w1.heap.size la w.heap.size (w.heap.size + 1) b.me (.slice p1 q1 s1) p2 q2 s2 (.slice p3 q3 s3) (.slice p4 q4 s4) (.slice p5 q5 s5) y1 y2 yo yn yc y4 a.p _ _ _ _ _ _ _ _ _ _ _ _ _ _ _ _ _ _ _ _ _ _ _ _ FB.out F2.out HL1.out ?_ ?_ SZ.out L2.out (HA.out.2.2.on FL.out) LA.out ?_
  ·rw [riseK_map,KE.out,← riseK_map]; exact R2.out
  ·rw [HL2.out.len]; exact HF.out.adv
  intro w4 v13 v14 v15 v16 v17 v18 s1' s2' s3' t1 t2 t3 hbx hown hc hoff hbel
  have CP2 := Lib.hid (FC.out.offD (av' := (t1,t2,t3)) (al := insAt b.adv (placeI (b.adv.map Ad.id) a.id) a) hoff ⟨_,hown,by
   have hg := tag_own HL1.out
   have h2 := HL2.out.mono fun _ _ q => q.off hoff hg (by decide)
   have hk : placeK keyD la (y1,y2) = placeI (b.adv.map Ad.id) a.id := by rw [placeK_map,KE.out,EI.out]
   rw [← hk]
   exact all2_ins h2 _ ⟨HA.out.1,HA.out.2.1,Or.inr (own_fewer hc SZ.out)⟩⟩)
  have G2 := Lib.hid (show Box w4 (w.heap.size + 1) _ _ from (hbel.block _ L3.out).trans F2.out)
  have G3 := Lib.hid (show Box w4 (w.heap.size + 1 + 1) _ _ from hoff.box F3.out (tag_own HL1.out) (by decide))
  have G1 := Lib.hid (show Box (w4.setCell ⟨w.heap.size,2,none⟩ (.slice t1 t2 t3)) w.heap.size #[.int .i64 b.me,.slice p1 q1 s1,.slice t1 t2 t3,.slice p3 q3 s3,.slice p4 q4 s4,.slice p5 q5 s5] 31 by simpa using box_set (k := 2) hbx (.slice t1 t2 t3))
  have CP3 := Lib.hid (CP2.out.but (but_cell w4 w.heap.size 2 (.slice t1 t2 t3)) hbx)
  have G2' := Lib.hid ((but_cell w4 w.heap.size 2 (.slice t1 t2 t3)).box G2.out (by omega))
  have G3' := Lib.hid ((but_cell w4 w.heap.size 2 (.slice t1 t2 t3)).box G3.out (by omega))
  have GL := Lib.hid (show Below w.heap.size w (w4.setCell ⟨w.heap.size,2,none⟩ (.slice t1 t2 t3)) from (FL.out.trans (hbel.mono (Nat.le_of_lt L2.out))).setCell (p := ⟨w.heap.size,2,none⟩) (Nat.le_refl _) _)
  have GZ := Lib.hid (show w1.heap.size ≤ (w4.setCell ⟨w.heap.size,2,none⟩ (.slice t1 t2 t3)).heap.size by have := SZ.out; have := hbel.size; simp; omega)
  clear hbx hown hc hoff hbel CP2 G2 G3 FB FC F2 F3 FL SZ HL1 HL2 KE
  generalize w4.setCell ⟨w.heap.size,2,none⟩ (.slice t1 t2 t3) = w5 at *
  have x3 := G1.out.cell 3
  have d1 := G2'.out.cell 1
  have d0 := G2'.out.cell 0
  simp only [List.getElem?_toArray,List.getElem?_cons_zero,List.getElem?_cons_succ] at x3 d0 d1
  go_wp2_with fail
  refine (putJ_any w1.heap.size (p3,q3,s3) b.seen (y1,y2) w5 CP3.out.seen R1.out HF.out.seen GZ.out).mono ?_
  rintro e3 w6 ⟨⟨⟨r1,r2,r3⟩,rfl,hown⟩,hbel,hoth⟩
  have hoff : Off (slv (p3,q3,s3)).ownBlock w5 w6 := ⟨hoth,hbel.size⟩
  have CP4 := Lib.hid (CP3.out.offJ (sv' := (r1,r2,r3)) (sl := insAt b.seen (placeI b.seen a.id) a.id) hoff (by
   have hk : placeK keyJ b.seen (keyJ (y1,y2)) = placeI b.seen a.id := by rw [placeK_map,EI.out]; simp
   rw [← hk,EI.out]
   exact hown))
  have hg := tag_own CP3.out.seen
  have K1 := hoff.box G1.out hg (by decide)
  have K3 := hoff.box G3'.out hg (by decide)
  have KL := GL.out.trans (hbel.mono (Nat.le_of_lt L2.out))
  have M1 := Lib.hid (show Box (w6.setCell ⟨w.heap.size,3,none⟩ (.slice r1 r2 r3)) w.heap.size #[.int .i64 b.me,.slice p1 q1 s1,.slice t1 t2 t3,.slice r1 r2 r3,.slice p4 q4 s4,.slice p5 q5 s5] 31 by simpa using box_set (k := 3) K1 (.slice r1 r2 r3))
  have M3 := Lib.hid ((but_cell w6 w.heap.size 3 (.slice r1 r2 r3)).box K3 (by omega))
  have MC := Lib.hid (CP4.out.but (but_cell w6 w.heap.size 3 (.slice r1 r2 r3)) K1)
  have ML := Lib.hid (show Below w.heap.size w (w6.setCell ⟨w.heap.size,3,none⟩ (.slice r1 r2 r3)) from KL.setCell (p := ⟨w.heap.size,3,none⟩) (Nat.le_refl _) _)
  clear x3 d0 d1
  have x3 := K1.cell 3
  have t3 := K1.fr 3
  have zz := K1.lt
  simp only [List.getElem?_toArray,List.getElem?_cons_zero,List.getElem?_cons_succ] at x3
  clear hown hbel hoth hoff hg K1 K3 KL CP4 CP3 G1 G2' G3' GL GZ
  go_upto_region 6 with fail
  clear x3 t3 zz
  generalize w6.setCell ⟨w.heap.size,3,none⟩ (.slice r1 r2 r3) = w7 at *
  have U1 := M1.out
  have U3 := M3.out
  obtain ⟨x0,x1,x2,x3,x4,x5⟩ := U1.cs6
  obtain ⟨z0,z1,z2,z3,z4,z5⟩ := U3.cs6
  obtain ⟨f0,f1,f2,f3,f4,f5⟩ := U3.fs6
  have zz := U3.lt
  have FB := Lib.hid (setB_box U3 (.int .i64 b.me) (.slice p1 q1 s1) (.slice t1 t2 t3) (.slice r1 r2 r3) (.slice p4 q4 s4) (.slice p5 q5 s5))
  have FC := Lib.hid (MC.out.but (but_setB w7 (w.heap.size + 1 + 1) (.int .i64 b.me) (.slice p1 q1 s1) (.slice t1 t2 t3) (.slice r1 r2 r3) (.slice p4 q4 s4) (.slice p5 q5 s5)) U3)
  have FL := Lib.hid (setB_below (b := w.heap.size + 1 + 1) ML.out (by omega) (.int .i64 b.me) (.slice p1 q1 s1) (.slice t1 t2 t3) (.slice r1 r2 r3) (.slice p4 q4 s4) (.slice p5 q5 s5))
  clear U1 U3 M1 M3 MC ML
  go_wp2_with fail
  obtain ⟨v0,v1,v2,v3,v4,v5⟩ := FB.out.cs6
  refine bodyPost_ret (v := .tuple #[.agg #[.int .i64 b.me,.slice p1 q1 s1,.slice t1 t2 t3,.slice r1 r2 r3,.slice p4 q4 s4,.slice p5 q5 s5],.bool true]) (by simp [results,Tryz.results21,go_sem,v0,v1,v2,v3,v4,v5]) rfl ?_
  rw [LQ.out]
  exact ⟨⟨(p1,q1,s1),(t1,t2,t3),(r1,r2,r3),(p4,q4,s4),(p5,q5,s5),rfl,FC.out.br FL.out,fun _ => ⟨_,FC.out.near⟩⟩,FL.out⟩
 ·have hin : a.id ∈ b.seen := by rw [EI.out]; exact of_decide_eq_true HR.out
  have LQ := Lib.hid (learnB_in hin)
  have FB := Lib.hid (setB_box Y3 (.int .i64 b.me) (.slice no nn nc) (.slice ao an ac) (.slice so sn sc) (.slice eo en ec) (.slice oo on_ oc))
  have FL := Lib.hid (setB_below (b := w.heap.size + 1 + 1) B1.out (by omega) (.int .i64 b.me) (.slice no nn nc) (.slice ao an ac) (.slice so sn sc) (.slice eo en ec) (.slice oo on_ oc))
  clear hin Y1 Y2 Y3
  go_wp2_with fail
  obtain ⟨v0,v1,v2,v3,v4,v5⟩ := FB.out.cs6
  refine bodyPost_ret (v := .tuple #[.agg #[.int .i64 b.me,.slice no nn nc,.slice ao an ac,.slice so sn sc,.slice eo en ec,.slice oo on_ oc],.bool false]) (by simp [results,Tryz.results21,go_sem,v0,v1,v2,v3,v4,v5]) rfl ?_
  rw [LQ.out]
  exact ⟨⟨(no,nn,nc),(ao,an,ac),(so,sn,sc),(eo,en,ec),(oo,on_,oc),rfl,HH.out.on FL.out,fun h => h.on FL.out⟩,FL.out⟩
def forgetF (b : Br) (x : XID) (f : Int) : Br × Bool := match findA b.adv x with
 | none => (b,false)
 | some a => if a.par = f then ({ b with adv := b.adv.filter fun e => decide (e.id ≠ x),ent := b.ent.filter fun e => decide (e.tree ≠ x) },true) else (b,false)
theorem filter_cut {al : List Ad} (hr : RiseA al) {k : Nat} {a : Ad} {x : XID} (hk : al[k]? = some a) (hx : a.id = x) : al.filter (fun e => decide (e.id ≠ x)) = cutAt al k := by
 subst hx
 unfold cutAt
 have h1 : al = al.take k ++ (a :: al.drop (k + 1)) := by
  have hlt := (List.getElem?_eq_some_iff.1 hk).1
  have he := (List.getElem?_eq_some_iff.1 hk).2
  rw [← he,List.getElem_cons_drop,List.take_append_drop]
 conv => lhs; rw [h1]
 rw [List.filter_append,List.filter_cons_of_neg (by simp)]
 have hp := List.pairwise_iff_getElem.1 hr
 have e1 : (al.take k).filter (fun e => decide (e.id ≠ a.id)) = al.take k := by
  rw [List.filter_eq_self]
  intro y hy
  obtain ⟨j,hj⟩ := List.mem_iff_getElem?.1 hy
  have hjl := (List.getElem?_eq_some_iff.1 hj).1
  rw [List.length_take] at hjl
  rw [List.getElem?_take_of_lt (by omega)] at hj
  have := riseK_lt hr (show j < k by omega) hj hk
  refine decide_eq_true fun e => ?_
  rw [e,lessI_irr] at this
  cases this
 have e2 : (al.drop (k + 1)).filter (fun e => decide (e.id ≠ a.id)) = al.drop (k + 1) := by
  rw [List.filter_eq_self]
  intro y hy
  obtain ⟨j,hj⟩ := List.mem_iff_getElem?.1 hy
  rw [List.getElem?_drop] at hj
  have := riseK_lt hr (show k < k + 1 + j by omega) hk hj
  refine decide_eq_true fun e => ?_
  rw [e,lessI_irr] at this
  cases this
 rw [e1,e2]
theorem forgetF_eq {b : Br} (hr : RiseA b.adv) (x : XID) (f : Int) : forgetF b x f = forgetB b x f := by
 unfold forgetF forgetB
 by_cases h : findI (b.adv.map Ad.id) x = -1
 ·have hn : findA b.adv x = none := findA_none fun j a hj => findI_neg (key := Ad.id) h j a hj
  rw [hn]
  cases b.adv[(findI (b.adv.map Ad.id) x).toNat]? with
  | none => rfl
  | some a => simp only; rw [if_pos h]
 ·obtain ⟨k,hk⟩ : ∃ k : Nat,findI (b.adv.map Ad.id) x = k := ⟨(findI (b.adv.map Ad.id) x).toNat,by have := findI_bd (b.adv.map Ad.id) x; omega⟩
  obtain ⟨g1,g2⟩ := findI_get hk
  rw [List.getElem?_map] at g1
  cases ha : b.adv[k]? with
  | none => rw [ha] at g1; cases g1
  | some a =>
   rw [ha] at g1
   have hx : a.id = x := Option.some.inj g1
   have hf : findA b.adv x = some a := findA_at ha hx fun j z hj hz => g2 j z.id hj (by rw [List.getElem?_map,hz]; rfl)
   rw [hf,hk,Int.toNat_natCast,ha]
   simp only
   rw [if_neg (show ¬ ((k : Int) = -1) by omega)]
   split
   ·rw [filter_cut hr ha hx]
   ·rfl
theorem all2_fil {α β : Type} {R : α → β → Prop} (p : α → Bool) (q : β → Bool) : ∀ {l : List α} {m : List β},All2 R l m → (∀ a b,R a b → p a = q b) → All2 R (l.filter p) (m.filter q)
 | _,_,.nil,_ => .nil
 | _,_,.cons (a := a) (b := b) x t,h => by
  have e := h a b x
  rw [List.filter_cons,List.filter_cons,e]
  cases q b
  ·exact all2_fil p q t h
  ·exact .cons x (all2_fil p q t h)
theorem forget_any (b : Br) (x : XID) (f : Int) (nv av sv ev ov : Sl) (w : World) (h : BrIn w b nv av sv ev ov) (hf : Few b) (hp : FewP b) :
  Calls Tryz.prog 23 #[brv b.me nv av sv ev ov,idv x,.int .i64 f] w (LearnQ w (NearOwn w nv b.near) (forgetF b x f)) := by
 obtain ⟨no,nn,nc⟩ := nv
 obtain ⟨ao,an,ac⟩ := av
 obtain ⟨so,sn,sc⟩ := sv
 obtain ⟨eo,en,ec⟩ := ev
 obtain ⟨oo,on_,oc⟩ := ov
 obtain ⟨c,d⟩ := x
 obtain ⟨h0,h1,h2⟩ := two_new w #[.int .i64 b.me,.slice no nn nc,.slice ao an ac,.slice so sn sc,.slice eo en ec,.slice oo on_ oc] #[.int .i64 c,.int .i64 d] 31 38
 have h3 := newB ((w.alloc (.cells #[.int .i64 b.me,.slice no nn nc,.slice ao an ac,.slice so sn sc,.slice eo en ec,.slice oo on_ oc] 31)).alloc (.cells #[.int .i64 c,.int .i64 d] 38)) (.cells #[.int .i64 0,.slice none 0 0,.slice none 0 0,.slice none 0 0,.slice none 0 0,.slice none 0 0] 31)
 have h4 := box_new ((w.alloc (.cells #[.int .i64 b.me,.slice no nn nc,.slice ao an ac,.slice so sn sc,.slice eo en ec,.slice oo on_ oc] 31)).alloc (.cells #[.int .i64 c,.int .i64 d] 38)) #[.int .i64 0,.slice none 0 0,.slice none 0 0,.slice none 0 0,.slice none 0 0,.slice none 0 0] 31
 have hsz : ((w.alloc (.cells #[.int .i64 b.me,.slice no nn nc,.slice ao an ac,.slice so sn sc,.slice eo en ec,.slice oo on_ oc] 31)).alloc (.cells #[.int .i64 c,.int .i64 d] 38)).heap.size = w.heap.size + 1 + 1 := by simp
 rw [hsz] at h4
 have BB := Lib.hid (h0.trans (h3.mono h0.size))
 have X1 := Lib.hid (h1.on h3)
 have X2 := Lib.hid (h2.on h3)
 have X3 := Lib.hid h4
 have HH := Lib.hid h
 have HF := Lib.hid hf
 have HP := Lib.hid hp
 obtain ⟨la,ha1,ha2⟩ := h.adv
 have SW := Lib.hid (find_any b.me (.slice no nn nc) (.slice so sn sc) (.slice eo en ec) (.slice oo on_ oc) (ao,an,ac) la b.adv (c,d) _ (ha1.on BB.out) (ha2.mono fun _ _ q => q.on BB.out) hp.adv)
 obtain ⟨fa,hfa⟩ : ∃ fa,findA b.adv (c,d) = fa := ⟨_,rfl⟩
 rw [hfa] at SW
 have FA := Lib.hid hfa
 obtain ⟨x0,x1,x2,x3,x4,x5⟩ := X1.out.cs6
 obtain ⟨d0,d1⟩ := X2.out.cs2
 clear h0 h1 h2 h3 h4 hsz h hf hp hfa ha1 ha2 la
 go_enter Tryz.func23,Tryz.ntmps23
 go_wp2_with fail
 generalize ((w.alloc (.cells #[.int .i64 b.me,.slice no nn nc,.slice ao an ac,.slice so sn sc,.slice eo en ec,.slice oo on_ oc] 31)).alloc (.cells #[.int .i64 c,.int .i64 d] 38)).alloc (.cells #[.int .i64 0,.slice none 0 0,.slice none 0 0,.slice none 0 0,.slice none 0 0,.slice none 0 0] 31) = W at *
 refine SW.out.mono ?_
 rintro e1 w1 ⟨hq,hb⟩
 have B1 := Lib.hid (BB.out.trans (hb.mono BB.out.size))
 have Z1 := Lib.hid (X1.out.on hb)
 have Z2 := Lib.hid (X2.out.on hb)
 have Z3 := Lib.hid (X3.out.on hb)
 clear SW hb x0 x1 x2 x3 x4 x5 d0 d1 X1 X2 X3
 cases fa with
 | none =>
  have LQ := Lib.hid (show forgetF b (c,d) f = (b,false) by unfold forgetF; rw [FA.out])
  subst hq
  have nb := newB w1 (.cells #[.int .i64 0,.int .i64 0,.slice none 0 0,.int .i64 0] 41)
  have B2 := Lib.hid (B1.out.trans (nb.mono B1.out.size))
  have Y1 := Z1.out.on nb
  have Y3 := Z3.out.on nb
  obtain ⟨x0,x1,x2,x3,x4,x5⟩ := Y1.cs6
  obtain ⟨z0,z1,z2,z3,z4,z5⟩ := Y3.cs6
  obtain ⟨t0,t1,t2,t3,t4,t5⟩ := Y3.fs6
  have zz := Y3.lt
  have FB := Lib.hid (setB_box Y3 (.int .i64 b.me) (.slice no nn nc) (.slice ao an ac) (.slice so sn sc) (.slice eo en ec) (.slice oo on_ oc))
  have FL := Lib.hid (setB_below (b := w.heap.size + 1 + 1) B2.out (by omega) (.int .i64 b.me) (.slice no nn nc) (.slice ao an ac) (.slice so sn sc) (.slice eo en ec) (.slice oo on_ oc))
  clear Y1 Y3 nb
  go_wp2_with fail
  obtain ⟨v0,v1,v2,v3,v4,v5⟩ := FB.out.cs6
  refine bodyPost_ret (v := .tuple #[.agg #[.int .i64 b.me,.slice no nn nc,.slice ao an ac,.slice so sn sc,.slice eo en ec,.slice oo on_ oc],.bool false]) (by simp [results,Tryz.results23,go_sem,v0,v1,v2,v3,v4,v5]) rfl ?_
  rw [LQ.out]
  exact ⟨⟨(no,nn,nc),(ao,an,ac),(so,sn,sc),(eo,en,ec),(oo,on_,oc),rfl,HH.out.on FL.out,fun h => h.on FL.out⟩,FL.out⟩
 | some a =>
  obtain ⟨⟨r1,r2,⟨ro,rn,rc⟩,r4⟩,rfl,hr1,hr2,hr3⟩ := hq
  have nb := newB w1 (.cells #[.int .i64 r1,.int .i64 r2,.slice ro rn rc,.int .i64 r4] 41)
  have bx := box_new w1 #[.int .i64 r1,.int .i64 r2,.slice ro rn rc,.int .i64 r4] 41
  have b3 := bx.cell 3
  have B2 := Lib.hid (B1.out.trans (nb.mono B1.out.size))
  have Y1 := Z1.out.on nb
  have Y2 := Z2.out.on nb
  have Y3 := Z3.out.on nb
  have AP := Lib.hid (show a.par = r4 from hr2.symm)
  obtain ⟨x0,x1,x2,x3,x4,x5⟩ := Y1.cs6
  obtain ⟨z0,z1,z2,z3,z4,z5⟩ := Y3.cs6
  obtain ⟨t0,t1,t2,t3,t4,t5⟩ := Y3.fs6
  simp only [List.getElem?_toArray,List.getElem?_cons_zero,List.getElem?_cons_succ] at b3
  have zz := Y3.lt
  by_cases hpf : r4 = f
  ·have LQ := Lib.hid (show forgetF b (c,d) f = ({ b with adv := b.adv.filter fun e => decide (e.id ≠ (c,d)),ent := b.ent.filter fun e => decide (e.tree ≠ (c,d)) },true) by unfold forgetF; rw [FA.out]; simp only; rw [if_pos (by rw [AP.out]; exact hpf)])
   have hne : (r4 != f) = false := by simp [hpf]
   have Z1 := Lib.hid Y1
   have Z2 := Lib.hid Y2
   have Z3 := Lib.hid Y3
   have L1 := Lib.hid Y1.lt
   have L3 := Lib.hid (show w.heap.size + 1 < (w1.alloc (.cells #[.int .i64 r1,.int .i64 r2,.slice ro rn rc,.int .i64 r4] 41)).heap.size from Y2.lt)
   clear Y1 Y2 Y3 nb bx z0 z1 z2 z3 z4 z5 t0 t1 t2 t3 t4 t5 zz hr1 hr2 hr3 hpf
   go_wp2_with fail
   clear b3 x0 x1 x2 x3 x4 x5 hne
   generalize w1.alloc (.cells #[.int .i64 r1,.int .i64 r2,.slice ro rn rc,.int .i64 r4] 41) = w1a at *
   refine (acopy_any b (no,nn,nc) (ao,an,ac) (so,sn,sc) (eo,en,ec) (oo,on_,oc) w w1a B2.out HH.out HF.out HP.out).mono ?_
   rintro e2 w2 ⟨⟨⟨p1,q1,s1⟩,⟨p2,q2,s2⟩,⟨p3,q3,s3⟩,⟨p4,q4,s4⟩,⟨p5,q5,s5⟩,rfl,cp⟩,hb2⟩
   have V1 := Z1.out.on hb2
   have V2 := Lib.hid (Z2.out.on hb2)
   have V3 := Lib.hid (Z3.out.on hb2)
   obtain ⟨x0,x1,x2,x3,x4,x5⟩ := V1.cs6
   obtain ⟨t0,t1,t2,t3,t4,t5⟩ := V1.fs6
   have zz := V1.lt
   have FB := Lib.hid (setB_box V1 (.int .i64 b.me) (.slice p1 q1 s1) (.slice p2 q2 s2) (.slice p3 q3 s3) (.slice p4 q4 s4) (.slice p5 q5 s5))
   have FC := Lib.hid (cp.but (but_setB w2 w.heap.size (.int .i64 b.me) (.slice p1 q1 s1) (.slice p2 q2 s2) (.slice p3 q3 s3) (.slice p4 q4 s4) (.slice p5 q5 s5)) V1)
   have FL := Lib.hid (setB_below (b := w.heap.size) (B2.out.trans (hb2.mono B2.out.size)) (Nat.le_refl _) (.int .i64 b.me) (.slice p1 q1 s1) (.slice p2 q2 s2) (.slice p3 q3 s3) (.slice p4 q4 s4) (.slice p5 q5 s5))
   have F2 := Lib.hid ((but_setB w2 w.heap.size (.int .i64 b.me) (.slice p1 q1 s1) (.slice p2 q2 s2) (.slice p3 q3 s3) (.slice p4 q4 s4) (.slice p5 q5 s5)).box V2.out (by omega))
   have F3 := Lib.hid ((but_setB w2 w.heap.size (.int .i64 b.me) (.slice p1 q1 s1) (.slice p2 q2 s2) (.slice p3 q3 s3) (.slice p4 q4 s4) (.slice p5 q5 s5)).box V3.out (by omega))
   have SZ := Lib.hid (show w1a.heap.size ≤ (setB w2 w.heap.size (.int .i64 b.me) (.slice p1 q1 s1) (.slice p2 q2 s2) (.slice p3 q3 s3) (.slice p4 q4 s4) (.slice p5 q5 s5)).heap.size by have := hb2.size; simp; omega)
   have L2 := Lib.hid (show w.heap.size < w1a.heap.size from L1.out)
   clear V1 V2 V3 cp hb2 Z1 Z2 Z3 L1
   go_upto_region 5 with fail
   clear x0 x1 x2 x3 x4 x5 t0 t1 t2 t3 t4 t5 zz
   unfold setB at FB FC FL F2 F3 SZ
   generalize ((((((w2).setCell ⟨w.heap.size,0,none⟩ (.int .i64 b.me)).setCell ⟨w.heap.size,1,none⟩ (.slice p1 q1 s1)).setCell ⟨w.heap.size,2,none⟩ (.slice p2 q2 s2)).setCell ⟨w.heap.size,3,none⟩ (.slice p3 q3 s3)).setCell ⟨w.heap.size,4,none⟩ (.slice p4 q4 s4)).setCell ⟨w.heap.size,5,none⟩ (.slice p5 q5 s5) = w3 at *
   obtain ⟨la,hla1,hla2⟩ := FC.out.adv
   have DL := Lib.hid (delD_any w1a.heap.size (p2,q2,s2) la (w.heap.size + 1) c d w3 hla1 F2.out SZ.out)
   have TG := Lib.hid (tag_own hla1)
   have HL2 := Lib.hid hla2
   have x2 := FB.out.cell 2
   simp only [List.getElem?_toArray,List.getElem?_cons_zero,List.getElem?_cons_succ] at x2
   clear hla1 hla2
   go_wp2_with fail
   refine DL.out.mono ?_
   rintro e4 w4 ⟨⟨⟨t1,t2,t3⟩,rfl,hown⟩,hbel,hoff⟩
   have CP2 := Lib.hid (FC.out.offD (av' := (t1,t2,t3)) (al := b.adv.filter fun e => decide (e.id ≠ (c,d))) hoff ⟨_,hown,all2_fil _ _ (HL2.out.mono fun _ _ q => q.off hoff TG.out (by decide)) fun y z q => by
    show decide (keyD y ≠ (c,d)) = decide (z.id ≠ (c,d))
    rw [show keyD y = z.id from q.1]⟩)
   have G1 := hoff.box FB.out TG.out (by decide)
   have G2 := hoff.box F2.out TG.out (by decide)
   have G3 := hoff.box F3.out TG.out (by decide)
   have M1 := Lib.hid (show Box (w4.setCell ⟨w.heap.size,2,none⟩ (.slice t1 t2 t3)) w.heap.size #[.int .i64 b.me,.slice p1 q1 s1,.slice t1 t2 t3,.slice p3 q3 s3,.slice p4 q4 s4,.slice p5 q5 s5] 31 by simpa using box_set (k := 2) G1 (.slice t1 t2 t3))
   have M2 := Lib.hid ((but_cell w4 w.heap.size 2 (.slice t1 t2 t3)).box G2 (by omega))
   have M3 := Lib.hid ((but_cell w4 w.heap.size 2 (.slice t1 t2 t3)).box G3 (by omega))
   have MC := Lib.hid (CP2.out.but (but_cell w4 w.heap.size 2 (.slice t1 t2 t3)) G1)
   have ML := Lib.hid (show Below w.heap.size w (w4.setCell ⟨w.heap.size,2,none⟩ (.slice t1 t2 t3)) from (FL.out.trans (hbel.mono (Nat.le_of_lt L2.out))).setCell (p := ⟨w.heap.size,2,none⟩) (Nat.le_refl _) _)
   have MZ := Lib.hid (show w1a.heap.size ≤ (w4.setCell ⟨w.heap.size,2,none⟩ (.slice t1 t2 t3)).heap.size by have := SZ.out; have := hbel.size; simp; omega)
   clear x2
   have x2 := G1.cell 2
   have f2 := G1.fr 2
   have zz := G1.lt
   simp only [List.getElem?_toArray,List.getElem?_cons_zero,List.getElem?_cons_succ] at x2
   clear hown hbel hoff G1 G2 G3 CP2 FB FC F2 F3 FL SZ HL2 TG DL la
   go_upto_region 6 with fail
   clear x2 f2 zz
   generalize w4.setCell ⟨w.heap.size,2,none⟩ (.slice t1 t2 t3) = w5 at *
   obtain ⟨le,hle1,hle2⟩ := MC.out.ent
   replace hle2 : All2 (EnM w w1a.heap.size w5) le b.ent := hle2
   have DL := Lib.hid (delN_any w1a.heap.size (p4,q4,s4) le (w.heap.size + 1) c d w5 hle1 M2.out MZ.out)
   have TG := Lib.hid (tag_own hle1)
   have HL2 := Lib.hid hle2
   have x4 := M1.out.cell 4
   simp only [List.getElem?_toArray,List.getElem?_cons_zero,List.getElem?_cons_succ] at x4
   clear hle1 hle2
   go_wp2_with fail
   refine DL.out.mono ?_
   rintro e5 w6 ⟨⟨⟨r1,r2,r3⟩,rfl,hown⟩,hbel,hoff⟩
   have CP4 := Lib.hid (MC.out.offN (ev' := (r1,r2,r3)) (el := b.ent.filter fun e => decide (e.tree ≠ (c,d))) hoff ⟨_,hown,all2_fil _ _ (HL2.out.mono fun _ _ q => q.off hoff TG.out (by decide)) fun y z q => by
    show decide (keyT y ≠ (c,d)) = decide (z.tree ≠ (c,d))
    rw [show keyT y = z.tree from q.1]⟩)
   have K1 := hoff.box M1.out TG.out (by decide)
   have K3 := hoff.box M3.out TG.out (by decide)
   have KL := ML.out.trans (hbel.mono (Nat.le_of_lt L2.out))
   have U1 := Lib.hid (show Box (w6.setCell ⟨w.heap.size,4,none⟩ (.slice r1 r2 r3)) w.heap.size #[.int .i64 b.me,.slice p1 q1 s1,.slice t1 t2 t3,.slice p3 q3 s3,.slice r1 r2 r3,.slice p5 q5 s5] 31 by simpa using box_set (k := 4) K1 (.slice r1 r2 r3))
   have U3 := Lib.hid ((but_cell w6 w.heap.size 4 (.slice r1 r2 r3)).box K3 (by omega))
   have UC := Lib.hid (CP4.out.but (but_cell w6 w.heap.size 4 (.slice r1 r2 r3)) K1)
   have UL := Lib.hid (show Below w.heap.size w (w6.setCell ⟨w.heap.size,4,none⟩ (.slice r1 r2 r3)) from KL.setCell (p := ⟨w.heap.size,4,none⟩) (Nat.le_refl _) _)
   clear x4
   have x4 := K1.cell 4
   have f4 := K1.fr 4
   have zz := K1.lt
   simp only [List.getElem?_toArray,List.getElem?_cons_zero,List.getElem?_cons_succ] at x4
   clear hown hbel hoff K1 K3 KL CP4 MC M1 M2 M3 ML MZ HL2 TG DL le
   go_upto_region 7 with fail
   clear x4 f4 zz
   generalize w6.setCell ⟨w.heap.size,4,none⟩ (.slice r1 r2 r3) = w7 at *
   have Q1 := U1.out
   have Q3 := U3.out
   obtain ⟨x0,x1,x2,x3,x4,x5⟩ := Q1.cs6
   obtain ⟨z0,z1,z2,z3,z4,z5⟩ := Q3.cs6
   obtain ⟨f0,f1,f2,f3,f4,f5⟩ := Q3.fs6
   have zz := Q3.lt
   have FB := Lib.hid (setB_box Q3 (.int .i64 b.me) (.slice p1 q1 s1) (.slice t1 t2 t3) (.slice p3 q3 s3) (.slice r1 r2 r3) (.slice p5 q5 s5))
   have FC := Lib.hid (UC.out.but (but_setB w7 (w.heap.size + 1 + 1) (.int .i64 b.me) (.slice p1 q1 s1) (.slice t1 t2 t3) (.slice p3 q3 s3) (.slice r1 r2 r3) (.slice p5 q5 s5)) Q3)
   have FL := Lib.hid (setB_below (b := w.heap.size + 1 + 1) UL.out (by omega) (.int .i64 b.me) (.slice p1 q1 s1) (.slice t1 t2 t3) (.slice p3 q3 s3) (.slice r1 r2 r3) (.slice p5 q5 s5))
   clear Q1 Q3 U1 U3 UC UL
   go_wp2_with fail
   obtain ⟨v0,v1,v2,v3,v4,v5⟩ := FB.out.cs6
   refine bodyPost_ret (v := .tuple #[.agg #[.int .i64 b.me,.slice p1 q1 s1,.slice t1 t2 t3,.slice p3 q3 s3,.slice r1 r2 r3,.slice p5 q5 s5],.bool true]) (by simp [results,Tryz.results23,go_sem,v0,v1,v2,v3,v4,v5]) rfl ?_
   rw [LQ.out]
   exact ⟨⟨(p1,q1,s1),(t1,t2,t3),(p3,q3,s3),(r1,r2,r3),(p5,q5,s5),rfl,FC.out.br FL.out,fun _ => ⟨_,FC.out.near⟩⟩,FL.out⟩
  ·have LQ := Lib.hid (show forgetF b (c,d) f = (b,false) by unfold forgetF; rw [FA.out]; simp only; rw [if_neg (by rw [AP.out]; exact hpf)])
   have hne : (r4 != f) = true := by simp [hpf]
   have FB := Lib.hid (setB_box Y3 (.int .i64 b.me) (.slice no nn nc) (.slice ao an ac) (.slice so sn sc) (.slice eo en ec) (.slice oo on_ oc))
   have FL := Lib.hid (setB_below (b := w.heap.size + 1 + 1) B2.out (by omega) (.int .i64 b.me) (.slice no nn nc) (.slice ao an ac) (.slice so sn sc) (.slice eo en ec) (.slice oo on_ oc))
   clear Y1 Y2 Y3 nb bx hr1 hr2 hr3 hpf
   go_wp2_with fail
   obtain ⟨v0,v1,v2,v3,v4,v5⟩ := FB.out.cs6
   refine bodyPost_ret (v := .tuple #[.agg #[.int .i64 b.me,.slice no nn nc,.slice ao an ac,.slice so sn sc,.slice eo en ec,.slice oo on_ oc],.bool false]) (by simp [results,Tryz.results23,go_sem,v0,v1,v2,v3,v4,v5]) rfl ?_
   rw [LQ.out]
   exact ⟨⟨(no,nn,nc),(ao,an,ac),(so,sn,sc),(eo,en,ec),(oo,on_,oc),rfl,HH.out.on FL.out,fun h => h.on FL.out⟩,FL.out⟩
abbrev Tame (p : List C5) : Prop := ∀ x ∈ p,x.1.size ≤ maxLen ∧ x.2.2.2.2.size ≤ maxLen
def okAd (b : Br) (a : Ad) : Bool := decide (a.id ∈ b.seen) && (comesB b.near a.par && Wr.rightP a.p)
theorem rad_any (b : Br) (a : Ad) (nv av sv ev ov : Sl) (x : XAd) (w : World) (h : BrIn w b nv av sv ev ov) (ha : AdIn w x a) (hf : Few b) (hn : b.near.Pairwise (· ≤ ·)) (hr : RiseI b.seen) (ht : Tame a.p) :
  Calls Tryz.prog 48 #[brv b.me nv av sv ev ov,valD x] w fun e w' => e = .returned (.bool (okAd b a)) ∧ Below w.heap.size w w' := by
 obtain ⟨no,nn,nc⟩ := nv
 obtain ⟨ao,an,ac⟩ := av
 obtain ⟨so,sn,sc⟩ := sv
 obtain ⟨eo,en,ec⟩ := ev
 obtain ⟨oo,on_,oc⟩ := ov
 obtain ⟨x1,x2,⟨xo,xn,xc⟩,x4⟩ := x
 obtain ⟨h0,X,Y⟩ := two_new w #[.int .i64 b.me,.slice no nn nc,.slice ao an ac,.slice so sn sc,.slice eo en ec,.slice oo on_ oc] #[.int .i64 x1,.int .i64 x2,.slice xo xn xc,.int .i64 x4] 31 41
 have B0 := Lib.hid h0
 have HX := Lib.hid X
 have HY := Lib.hid Y
 have C1 := Lib.hid (bsJ_any (.slice so sn sc) b.seen (x1,x2) _ (h.seen.on h0) hr hf.seen)
 have C2 := Lib.hid (fun W' (q : Below w.heap.size w W') => comes_any b.me (no,nn,nc) (.slice ao an ac) (.slice so sn sc) (.slice eo en ec) (.slice oo on_ oc) b.near x4 W' (h.near.on q) hn hf.near)
 have C3 := Lib.hid (fun W' (q : Below w.heap.size w W') => Avp.pright_any (.slice xo xn xc) a.p W' (ha.2.2.on q) ht)
 rw [thereK_in hr] at C1
 have RS := Lib.hid (show okAd b a = (decide ((x1,x2) ∈ b.seen) && (comesB b.near x4 && Wr.rightP a.p)) by unfold okAd; rw [← ha.1,← ha.2.1])
 generalize okAd b a = res at *
 have em : decide ((x1,x2) ∈ List.map keyJ b.seen) = decide ((x1,x2) ∈ b.seen) := by rw [show List.map keyJ b.seen = b.seen from List.map_id' _]
 rw [em] at C1
 generalize decide ((x1,x2) ∈ b.seen) = r1 at *
 generalize comesB b.near x4 = r2 at *
 generalize Wr.rightP a.p = r3 at *
 generalize placeK keyJ b.seen (x1,x2) = pk at *
 obtain ⟨cx0,cx1,cx2,cx3,cx4,cx5⟩ := X.cs6
 obtain ⟨cy0,cy1,cy2,cy3⟩ := Y.cs4
 clear h0 X Y h ha hf hn hr ht em
 go_enter Tryz.func48,Tryz.ntmps48
 go_wp2_with fail
 refine C1.out.mono ?_
 rintro e1 w1 ⟨rfl,hb⟩
 have B1 := Lib.hid (B0.out.trans (hb.mono B0.out.size))
 have X1 := Lib.hid (HX.out.on hb)
 have Y1 := Lib.hid (HY.out.on hb)
 clear hb cx0 cx1 cx2 cx3 cx4 cx5 cy0 cy1 cy2 cy3 HX HY
 obtain ⟨cx0,cx1,cx2,cx3,cx4,cx5⟩ := X1.out.cs6
 obtain ⟨cy0,cy1,cy2,cy3⟩ := Y1.out.cs4
 cases r1
 ·go_wp2_with fail
  go_ret
  exact ⟨by rw [RS.out]; rfl,B1.out⟩
 ·go_wp2_with fail
  refine (C2.out _ B1.out).mono ?_
  rintro e2 w2 ⟨rfl,hb⟩
  have B2 := Lib.hid (B1.out.trans (hb.mono B1.out.size))
  have Y2 := Lib.hid (Y1.out.on hb)
  clear hb cx0 cx1 cx2 cx3 cx4 cx5 cy0 cy1 cy2 cy3
  obtain ⟨cy0,cy1,cy2,cy3⟩ := Y2.out.cs4
  cases r2
  ·go_wp2_with fail
   go_ret
   exact ⟨by rw [RS.out]; rfl,B2.out⟩
  ·go_wp2_with fail
   refine (C3.out _ B2.out).mono ?_
   rintro e3 w3 ⟨rfl,hb⟩
   have B3 := Lib.hid (B2.out.trans (hb.mono B2.out.size))
   clear hb cy0 cy1 cy2 cy3
   go_wp2
   go_ret
   exact ⟨by rw [RS.out]; rfl,B3.out⟩
def okEn (b : Br) (e : En) : Bool := match findA b.adv e.tree with
 | none => false
 | some a => !(e.from_ == a.par && !(a.par == -1)) && (comesB b.near e.from_ && (!(e.up && a.par == -1) && Wr.rightP e.p))
theorem findA_in {W : World} {l : List XAd} {al : List Ad} (hA : All2 (AdIn W) l al) (hr : RiseK keyD l) (t : XID) : (thereK keyD l t = false ∧ findA al t = none) ∨ (thereK keyD l t = true ∧ ∃ (y : XAd) (a : Ad),l[placeK keyD l t]? = some y ∧ findA al t = some a ∧ AdIn W y a) := by
 cases ht : thereK keyD l t with
 | false =>
  refine Or.inl ⟨rfl,findA_none fun j a hj e => ?_⟩
  obtain ⟨y,hy,hya⟩ := hA.at j a hj
  have hm : t ∈ l.map keyD := List.mem_map.2 ⟨y,List.mem_of_getElem? hy,by rw [← e]; exact hya.1⟩
  rw [thereK_in hr,decide_eq_true hm] at ht
  cases ht
 | true =>
  right
  refine ⟨rfl,?_⟩
  unfold thereK at ht
  cases hy : l[placeK keyD l t]? with
  | none => rw [hy] at ht; cases ht
  | some y =>
   rw [hy] at ht
   have hk : keyD y = t := of_decide_eq_true ht
   have hlt := (List.getElem?_eq_some_iff.1 hy).1
   obtain ⟨a,ha⟩ : ∃ a,al[placeK keyD l t]? = some a := ⟨_,List.getElem?_eq_getElem (by rw [← hA.len]; exact hlt)⟩
   obtain ⟨y',hy',hya⟩ := hA.at _ a ha
   rw [hy] at hy'
   obtain rfl := Option.some.inj hy'
   refine ⟨y,a,rfl,findA_at ha (by rw [← hya.1]; exact hk) (fun j z hj hz e => ?_),hya⟩
   obtain ⟨u,hu,huz⟩ := hA.at j z hz
   have h1 := riseK_lt hr hj hu hy
   rw [show keyD u = t from huz.1.trans e,hk,lessI_irr] at h1
   cases h1
theorem ren_any (b : Br) (e : En) (nv av sv ev ov : Sl) (x : XEn) (w : World) (h : BrIn w b nv av sv ev ov) (he : EnIn w x e) (hf : Few b) (hn : b.near.Pairwise (· ≤ ·)) (hr : RiseA b.adv) (ht : Tame e.p) :
  Calls Tryz.prog 51 #[brv b.me nv av sv ev ov,valN x] w fun r w' => r = .returned (.bool (okEn b e)) ∧ Below w.heap.size w w' := by
 obtain ⟨no,nn,nc⟩ := nv
 obtain ⟨ao,an,ac⟩ := av
 obtain ⟨so,sn,sc⟩ := sv
 obtain ⟨eo,en,ec⟩ := ev
 obtain ⟨oo,on_,oc⟩ := ov
 obtain ⟨x1,x2,x3,x4,⟨xo,xn,xc⟩,x6,x7⟩ := x
 obtain ⟨h0,X,Y⟩ := two_new w #[.int .i64 b.me,.slice no nn nc,.slice ao an ac,.slice so sn sc,.slice eo en ec,.slice oo on_ oc] #[.int .i64 x1,.int .i64 x2,.int .i64 x3,.int .i64 x4,.slice xo xn xc,.int .i64 x6,.bool x7] 31 43
 have B0 := Lib.hid h0
 have HX := Lib.hid X
 have HY := Lib.hid Y
 obtain ⟨la,ha1,ha2⟩ := h.adv
 have hrl : RiseK keyD la := by
  have := (riseK_map Ad.id b.adv).1 hr
  rw [riseK_map,show la.map keyD = b.adv.map Ad.id from by
   clear ha1 this hr hf h
   generalize b.adv = al at ha2
   induction ha2 with
   | nil => rfl
   | cons q _ ih => rw [List.map_cons,List.map_cons,ih]; exact congrArg (· :: _) q.1]
  exact this
 have hla : la.length ≤ 900 := by rw [ha2.len]; exact hf.adv
 have C1 := Lib.hid (bsD_any (.slice ao an ac) la (x1,x2,(none,0,0),0) _ (ha1.on h0) hrl hla)
 have C2 := Lib.hid (fun W' (q : Below w.heap.size w W') => comes_any b.me (no,nn,nc) (.slice ao an ac) (.slice so sn sc) (.slice eo en ec) (.slice oo on_ oc) b.near x6 W' (h.near.on q) hn hf.near)
 have C3 := Lib.hid (fun W' (q : Below w.heap.size w W') => Avp.pright_any (.slice xo xn xc) e.p W' (he.2.2.2.2.on q) ht)
 have FF := findA_in ha2 hrl (x1,x2)
 have HT := he.1
 have HFR := he.2.2.1
 have HUP := he.2.2.2.1
 have HA1 := Lib.hid ha1
 have LL := Lib.hid hla
 have RS := Lib.hid (show okEn b e = match findA b.adv (x1,x2) with | none => false | some a => !(x6 == a.par && !(a.par == -1)) && (comesB b.near x6 && (!(x7 && a.par == -1) && Wr.rightP e.p)) by unfold okEn; rw [← HT,← HFR,← HUP])
 generalize okEn b e = res at *
 generalize comesB b.near x6 = r2 at *
 generalize Wr.rightP e.p = r3 at *
 obtain ⟨cx0,cx1,cx2,cx3,cx4,cx5⟩ := X.cs6
 obtain ⟨cy0,cy1,cy2,cy3,cy4,cy5,cy6⟩ := Y.cs7
 clear h0 X Y h he hf hn hr ht hrl hla HT HFR HUP
 rcases FF with ⟨t0,f0⟩ | ⟨t0,y,a,hy,f0,hya⟩
 ·have C1 : Hid (Calls Tryz.prog 107 #[.slice ao an ac,.agg #[.int .i64 x1,.int .i64 x2,.slice none 0 0,.int .i64 0],.func (.func 41) #[] #[]] ((w.alloc (.cells #[.int .i64 b.me,.slice no nn nc,.slice ao an ac,.slice so sn sc,.slice eo en ec,.slice oo on_ oc] 31)).alloc (.cells #[.int .i64 x1,.int .i64 x2,.int .i64 x3,.int .i64 x4,.slice xo xn xc,.int .i64 x6,.bool x7] 43)) fun e1 w' => e1 = .returned (.tuple #[.int .i64 (placeK keyD la (x1,x2)),.bool false]) ∧ Below ((w.alloc (.cells #[.int .i64 b.me,.slice no nn nc,.slice ao an ac,.slice so sn sc,.slice eo en ec,.slice oo on_ oc] 31)).alloc (.cells #[.int .i64 x1,.int .i64 x2,.int .i64 x3,.int .i64 x4,.slice xo xn xc,.int .i64 x6,.bool x7] 43)).heap.size ((w.alloc (.cells #[.int .i64 b.me,.slice no nn nc,.slice ao an ac,.slice so sn sc,.slice eo en ec,.slice oo on_ oc] 31)).alloc (.cells #[.int .i64 x1,.int .i64 x2,.int .i64 x3,.int .i64 x4,.slice xo xn xc,.int .i64 x6,.bool x7] 43)) w') := by rw [← t0]; exact C1
  have RF := Lib.hid (show res = false by rw [RS.out,f0])
  clear RS t0 f0 HA1 ha1 ha2
  go_enter Tryz.func51,Tryz.ntmps51
  go_wp2_with fail
  refine C1.out.mono ?_
  rintro e1 w1 ⟨rfl,hb⟩
  have B1 := Lib.hid (B0.out.trans (hb.mono B0.out.size))
  clear hb
  go_wp2_with fail
  go_ret
  exact ⟨by rw [RF.out]; rfl,B1.out⟩
 ·have C1 : Hid (Calls Tryz.prog 107 #[.slice ao an ac,.agg #[.int .i64 x1,.int .i64 x2,.slice none 0 0,.int .i64 0],.func (.func 41) #[] #[]] ((w.alloc (.cells #[.int .i64 b.me,.slice no nn nc,.slice ao an ac,.slice so sn sc,.slice eo en ec,.slice oo on_ oc] 31)).alloc (.cells #[.int .i64 x1,.int .i64 x2,.int .i64 x3,.int .i64 x4,.slice xo xn xc,.int .i64 x6,.bool x7] 43)) fun e1 w' => e1 = .returned (.tuple #[.int .i64 (placeK keyD la (x1,x2)),.bool true]) ∧ Below ((w.alloc (.cells #[.int .i64 b.me,.slice no nn nc,.slice ao an ac,.slice so sn sc,.slice eo en ec,.slice oo on_ oc] 31)).alloc (.cells #[.int .i64 x1,.int .i64 x2,.int .i64 x3,.int .i64 x4,.slice xo xn xc,.int .i64 x6,.bool x7] 43)).heap.size ((w.alloc (.cells #[.int .i64 b.me,.slice no nn nc,.slice ao an ac,.slice so sn sc,.slice eo en ec,.slice oo on_ oc] 31)).alloc (.cells #[.int .i64 x1,.int .i64 x2,.int .i64 x3,.int .i64 x4,.slice xo xn xc,.int .i64 x6,.bool x7] 43)) w') := by rw [← t0]; exact C1
  obtain ⟨uo,uc,hv⟩ := ha1.len
  have hv : Value.slice ao an ac = .slice uo la.length uc := hv
  obtain ⟨rfl,rfl,rfl⟩ : ao = uo ∧ an = la.length ∧ ac = uc := by simpa using hv
  obtain ⟨p,ix,px⟩ := elD HA1.out rfl rfl hy
  obtain ⟨y1,y2,⟨yo,yn,yc⟩,y4⟩ := y
  have hpar : a.par = y4 := hya.2.1.symm
  have RS := Lib.hid (show res = (!(x6 == y4 && !(y4 == -1)) && (r2 && (!(x7 && y4 == -1) && r3))) by rw [RS.out,f0]; simp only; rw [hpar])
  obtain ⟨q1,hq1⟩ : ∃ q,(x6 == y4) = q := ⟨_,rfl⟩
  obtain ⟨q2,hq2⟩ : ∃ q,(y4 == -1) = q := ⟨_,rfl⟩
  rw [hq1,hq2] at RS
  generalize placeK keyD la (x1,x2) = pk at *
  generalize la.length = n at *
  clear t0 f0 HA1 ha1 ha2 hy hya hpar hv
  have PX := Lib.hid px
  clear px
  go_enter Tryz.func51,Tryz.ntmps51
  go_wp2_with fail
  refine C1.out.mono ?_
  rintro e1 w1 ⟨rfl,hb⟩
  have B1 := Lib.hid (B0.out.trans (hb.mono B0.out.size))
  have X1 := Lib.hid (HX.out.on hb)
  have Y1 := Lib.hid (HY.out.on hb)
  clear hb cx0 cx1 cx2 cx3 cx4 cx5 cy0 cy1 cy2 cy3 cy4 cy5 cy6 HX HY C1
  obtain ⟨cx0,cx1,cx2,cx3,cx4,cx5⟩ := X1.out.cs6
  obtain ⟨cy0,cy1,cy2,cy3,cy4,cy5,cy6⟩ := Y1.out.cs7
  have p3 := (PX.out w1 B1.out).2.2.2
  cases q1
  ·go_wp2_with fail
   go_quiet (fail)
   go_wp2_with fail
   have BQ := Lib.hid (show Below w.heap.size w (w1.drewN nq) from ⟨B1.out.os,B1.out.tape,B1.out.output,B1.out.size,B1.out.block⟩)
   have YQ := Lib.hid (show Box (w1.drewN nq) (w.heap.size + 1) #[.int .i64 x1,.int .i64 x2,.int .i64 x3,.int .i64 x4,.slice xo xn xc,.int .i64 x6,.bool x7] 43 from Y1.out)
   clear cx0 cx1 cx2 cx3 cx4 cx5 cy0 cy1 cy2 cy3 cy4 cy5 cy6 p3 ix X1 Y1 hq1
   refine (C2.out _ BQ.out).mono ?_
   rintro e2 w2 ⟨rfl,hb⟩
   have B2 := Lib.hid (BQ.out.trans (hb.mono BQ.out.size))
   have Y2 := Lib.hid (YQ.out.on hb)
   clear hb BQ YQ B1
   obtain ⟨cy0,cy1,cy2,cy3,cy4,cy5,cy6⟩ := Y2.out.cs7
   cases r2
   ·go_wp2_with fail
    go_ret
    exact ⟨by rw [RS.out]; simp,B2.out⟩
   cases x7
   ·go_wp2_with fail
    refine (C3.out _ B2.out).mono ?_
    rintro e3 w3 ⟨rfl,hb⟩
    have B3 := Lib.hid (B2.out.trans (hb.mono B2.out.size))
    clear hb cy0 cy1 cy2 cy3 cy4 cy5 cy6
    go_wp2
    go_ret
    exact ⟨by rw [RS.out]; simp,B3.out⟩
   cases q2
   ·go_wp2_with fail
    refine (C3.out _ B2.out).mono ?_
    rintro e3 w3 ⟨rfl,hb⟩
    have B3 := Lib.hid (B2.out.trans (hb.mono B2.out.size))
    clear hb cy0 cy1 cy2 cy3 cy4 cy5 cy6
    go_wp2
    go_ret
    exact ⟨by rw [RS.out]; simp,B3.out⟩
   ·go_wp2_with fail
    go_ret
    exact ⟨by rw [RS.out]; simp,B2.out⟩
  ·cases q2
   ·go_wp2_with fail
    go_quiet (fail)
    go_wp2_with fail
    go_ret
    exact ⟨by rw [RS.out]; simp,⟨B1.out.os,B1.out.tape,B1.out.output,B1.out.size,B1.out.block⟩⟩
   ·go_wp2_with fail
    go_quiet (fail)
    go_wp2_with fail
    have BQ := Lib.hid (show Below w.heap.size w (w1.drewN nq) from ⟨B1.out.os,B1.out.tape,B1.out.output,B1.out.size,B1.out.block⟩)
    have YQ := Lib.hid (show Box (w1.drewN nq) (w.heap.size + 1) #[.int .i64 x1,.int .i64 x2,.int .i64 x3,.int .i64 x4,.slice xo xn xc,.int .i64 x6,.bool x7] 43 from Y1.out)
    clear cx0 cx1 cx2 cx3 cx4 cx5 cy0 cy1 cy2 cy3 cy4 cy5 cy6 p3 ix X1 Y1 hq1
    refine (C2.out _ BQ.out).mono ?_
    rintro e2 w2 ⟨rfl,hb⟩
    have B2 := Lib.hid (BQ.out.trans (hb.mono BQ.out.size))
    have Y2 := Lib.hid (YQ.out.on hb)
    clear hb BQ YQ B1
    obtain ⟨cy0,cy1,cy2,cy3,cy4,cy5,cy6⟩ := Y2.out.cs7
    cases r2
    ·go_wp2_with fail
     go_ret
     exact ⟨by rw [RS.out]; simp,B2.out⟩
    cases x7
    ·go_wp2_with fail
     refine (C3.out _ B2.out).mono ?_
     rintro e3 w3 ⟨rfl,hb⟩
     have B3 := Lib.hid (B2.out.trans (hb.mono B2.out.size))
     clear hb cy0 cy1 cy2 cy3 cy4 cy5 cy6
     go_wp2
     go_ret
     exact ⟨by rw [RS.out]; simp,B3.out⟩
    ·go_wp2_with fail
     go_ret
     exact ⟨by rw [RS.out]; simp,B2.out⟩
theorem rclD_any (b : Br) (a : Ad) (nv av sv ev ov : Sl) (x : XAd) (b1 : Nat) (w : World) (hb1 : Box w b1 (brcells b.me nv av sv ev ov) 31) (h : BrIn w b nv av sv ev ov) (hx : AdIn w x a) (hf : Few b) (hn : b.near.Pairwise (· ≤ ·)) (hr : RiseI b.seen) (ht : Tame a.p) :
  Calls Tryz.prog 47 #[valD x,.pointer (some ⟨b1,0,none⟩)] w fun e w' => e = .returned (.bool (okAd b a)) ∧ Below w.heap.size w w' := by
 obtain ⟨no,nn,nc⟩ := nv
 obtain ⟨ao,an,ac⟩ := av
 obtain ⟨so,sn,sc⟩ := sv
 obtain ⟨eo,en,ec⟩ := ev
 obtain ⟨oo,on_,oc⟩ := ov
 obtain ⟨x1,x2,⟨xo,xn,xc⟩,x4⟩ := x
 have q := newB w (.cells #[.int .i64 x1,.int .i64 x2,.slice xo xn xc,.int .i64 x4] 41)
 have Y := box_new w #[.int .i64 x1,.int .i64 x2,.slice xo xn xc,.int .i64 x4] 41
 have X := hb1.on q
 have C := Lib.hid (rad_any b a (no,nn,nc) (ao,an,ac) (so,sn,sc) (eo,en,ec) (oo,on_,oc) (x1,x2,(xo,xn,xc),x4) _ (h.on q) (hx.on q) hf hn hr ht)
 generalize okAd b a = r at *
 have B0 := Lib.hid q
 obtain ⟨cx0,cx1,cx2,cx3,cx4,cx5⟩ := X.cs6
 obtain ⟨cy0,cy1,cy2,cy3⟩ := Y.cs4
 clear q X Y h hx hf hn hr ht hb1
 go_enter Tryz.func47,Tryz.ntmps47
 go_wp2_with fail
 refine C.out.mono ?_
 rintro e w1 ⟨rfl,hb⟩
 have B1 := Lib.hid (B0.out.trans (hb.mono B0.out.size))
 clear hb
 go_wp2
 go_ret
 exact ⟨rfl,B1.out⟩
theorem rclN_any (b : Br) (a : En) (nv av sv ev ov : Sl) (x : XEn) (b1 : Nat) (w : World) (hb1 : Box w b1 (brcells b.me nv av sv ev ov) 31) (h : BrIn w b nv av sv ev ov) (hx : EnIn w x a) (hf : Few b) (hn : b.near.Pairwise (· ≤ ·)) (hr : RiseA b.adv) (ht : Tame a.p) :
  Calls Tryz.prog 50 #[valN x,.pointer (some ⟨b1,0,none⟩)] w fun e w' => e = .returned (.bool (okEn b a)) ∧ Below w.heap.size w w' := by
 obtain ⟨no,nn,nc⟩ := nv
 obtain ⟨ao,an,ac⟩ := av
 obtain ⟨so,sn,sc⟩ := sv
 obtain ⟨eo,en,ec⟩ := ev
 obtain ⟨oo,on_,oc⟩ := ov
 obtain ⟨x1,x2,x3,x4,⟨xo,xn,xc⟩,x6,x7⟩ := x
 have q := newB w (.cells #[.int .i64 x1,.int .i64 x2,.int .i64 x3,.int .i64 x4,.slice xo xn xc,.int .i64 x6,.bool x7] 43)
 have Y := box_new w #[.int .i64 x1,.int .i64 x2,.int .i64 x3,.int .i64 x4,.slice xo xn xc,.int .i64 x6,.bool x7] 43
 have X := hb1.on q
 have C := Lib.hid (ren_any b a (no,nn,nc) (ao,an,ac) (so,sn,sc) (eo,en,ec) (oo,on_,oc) (x1,x2,x3,x4,(xo,xn,xc),x6,x7) _ (h.on q) (hx.on q) hf hn hr ht)
 generalize okEn b a = r at *
 have B0 := Lib.hid q
 obtain ⟨cx0,cx1,cx2,cx3,cx4,cx5⟩ := X.cs6
 obtain ⟨cy0,cy1,cy2,cy3,cy4,cy5,cy6⟩ := Y.cs7
 clear q X Y h hx hf hn hr ht hb1
 go_enter Tryz.func50,Tryz.ntmps50
 go_wp2_with fail
 refine C.out.mono ?_
 rintro e w1 ⟨rfl,hb⟩
 have B1 := Lib.hid (B0.out.trans (hb.mono B0.out.size))
 clear hb
 go_wp2
 go_ret
 exact ⟨rfl,B1.out⟩
theorem rclW_any (a : Ow) (x : XOw) (w : World) (hx : OwIn w x a) (ht : Tame a.p) :
  Calls Tryz.prog 53 #[valW x] w fun e w' => e = .returned (.bool (Wr.rightP a.p)) ∧ Below w.heap.size w w' := by
 obtain ⟨x1,x2,⟨xo,xn,xc⟩⟩ := x
 have q := newB w (.cells #[.int .i64 x1,.int .i64 x2,.slice xo xn xc] 45)
 have Y := box_new w #[.int .i64 x1,.int .i64 x2,.slice xo xn xc] 45
 have C := Lib.hid (Avp.pright_any (.slice xo xn xc) a.p _ (hx.2.on q) ht)
 generalize Wr.rightP a.p = r at *
 have B0 := Lib.hid q
 obtain ⟨cy0,cy1,cy2⟩ := Y.cs3
 clear q Y hx ht
 go_enter Tryz.func53,Tryz.ntmps53
 go_wp2_with fail
 refine C.out.mono ?_
 rintro e w1 ⟨rfl,hb⟩
 have B1 := Lib.hid (B0.out.trans (hb.mono B0.out.size))
 clear hb
 go_wp2
 go_ret
 exact ⟨rfl,B1.out⟩
theorem allD_any (b1 : Nat) (v : Sl) (l : List XAd) (al : List Ad) (ok : Ad → Bool) (w : World) (hv : Row ED w (slv v) l) (hA : All2 (AdIn w) l al)
  (hC : ∀ (x : XAd) (a : Ad) (W' : World),a ∈ al → Below w.heap.size w W' → AdIn W' x a → Calls Tryz.prog 47 #[valD x,.pointer (some ⟨b1,0,none⟩)] W' fun e w' => e = .returned (.bool (ok a)) ∧ Below W'.heap.size W' w') :
  Calls Tryz.prog 46 #[slv v,.func (.func 47) #[] #[.pointer (some ⟨b1,0,none⟩)]] w fun e w' => e = .returned (.bool (al.all ok)) ∧ Below w.heap.size w w' := by
 obtain ⟨so,sn,sc⟩ := v
 obtain ⟨ao,ac,hs⟩ := hv.len
 have hs : Value.slice so sn sc = .slice ao l.length ac := hs
 obtain ⟨rfl,rfl,rfl⟩ : so = ao ∧ sn = l.length ∧ sc = ac := by simpa using hs
 have HL := Lib.hid hv
 have HA := Lib.hid hA
 have HC := Lib.hid hC
 have lm := hv.most
 unfold maxLen at lm
 obtain ⟨n,hn⟩ : ∃ n,n = l.length := ⟨_,rfl⟩
 rw [← hn] at HL lm ⊢
 have HN := Lib.hid hn.symm
 obtain ⟨res,hres⟩ : ∃ r,al.all ok = r := ⟨_,rfl⟩
 rw [hres]
 have RS := Lib.hid hres
 clear hv hA hC hs hn hres
 go_enter Tryz.func46,Tryz.ntmps46
 go_wp2
 go_loopw [9] (fun i wr => ∃ k : Nat,k ≤ n ∧ i = .int .i64 k ∧ Below w.heap.size w wr ∧ ∀ (j : Nat) (a : Ad),j < k → al[j]? = some a → ok a = true) (fun i _ => n - (intOf i).toNat)
 case atStart => exact ⟨0,Nat.zero_le _,rfl,Below.refl _ _,fun j y h => by omega⟩
 case round =>
  obtain ⟨k,hk,rfl,hbe,hall⟩ := hrel
  have BE := Lib.hid hbe
  have AL := Lib.hid hall
  clear hbe hall
  by_cases hlt : k < n
  ·obtain ⟨a,hak⟩ : ∃ a,al[k]? = some a := ⟨_,List.getElem?_eq_getElem (by rw [← HA.out.len,HN.out]; exact hlt)⟩
   obtain ⟨x,hx,hxa⟩ := HA.out.at k a hak
   obtain ⟨p,ix,px⟩ := elD HL.out rfl HN.out hx
   obtain ⟨p0,p1,p2,p3⟩ := px wr BE.out
   have CC := fun W' (q : Below w.heap.size w W') => HC.out x a W' (List.mem_of_getElem? hak) q (hxa.on q)
   have HAK := Lib.hid hak
   obtain ⟨r,hr⟩ : ∃ r,ok a = r := ⟨_,rfl⟩
   rw [hr] at CC
   have HR := Lib.hid hr
   clear hx hak hxa px hr
   obtain ⟨x1,x2,⟨xo,xn,xc⟩,x4⟩ := x
   simp only at p0 p1 p2 p3
   have NB := newB wr (.cells #[.int .i64 x1,.int .i64 x2,.slice xo xn xc,.int .i64 x4] 41)
   have C := Lib.hid (CC _ (BE.out.trans (NB.mono BE.out.size)))
   have BN := Lib.hid (BE.out.trans (NB.mono BE.out.size))
   have hw3 : IntKind.i64.wrap ((k : Int) + 1) = (k : Int) + 1 := IntWalk.i64_in _ (by omega)
   clear CC NB
   go_wp2_with fail
   refine C.out.mono ?_
   rintro e w1 ⟨rfl,hb⟩
   have B1 := Lib.hid (BN.out.trans (hb.mono BN.out.size))
   clear hb C ix p0 p1 p2 p3
   cases r
   ·have R := Lib.hid (show res = false by
     rw [← RS.out]
     exact List.all_eq_false.2 ⟨a,List.mem_of_getElem? HAK.out,by rw [HR.out]; simp⟩)
    go_wp2
    go_ret
    exact ⟨by rw [R.out]; rfl,B1.out⟩
   ·go_wp2
    go_roundw
    case rel => exact ⟨k + 1,by omega,by go_num,B1.out,fun j y hj h1 => by
     rcases Nat.lt_or_ge j k with h3 | h3
     ·exact AL.out j y h3 h1
     ·obtain rfl : j = k := by omega
      have e1 := HAK.out
      rw [h1] at e1
      rw [Option.some.inj e1]
      exact HR.out⟩
    case measure => simp [intOf]; omega
  ·obtain rfl : k = n := by omega
   have R := Lib.hid (show res = true by
    rw [← RS.out]
    refine List.all_eq_true.2 fun y hy => ?_
    obtain ⟨j,hj⟩ := List.mem_iff_getElem?.1 hy
    exact AL.out j y (by have := (List.getElem?_eq_some_iff.1 hj).1; have := HA.out.len; have := HN.out; omega) hj)
   go_wp2
   go_ret
   exact ⟨by rw [R.out]; rfl,BE.out⟩
theorem allN_any (b1 : Nat) (v : Sl) (l : List XEn) (al : List En) (ok : En → Bool) (w : World) (hv : Row EN w (slv v) l) (hA : All2 (EnIn w) l al)
  (hC : ∀ (x : XEn) (a : En) (W' : World),a ∈ al → Below w.heap.size w W' → EnIn W' x a → Calls Tryz.prog 50 #[valN x,.pointer (some ⟨b1,0,none⟩)] W' fun e w' => e = .returned (.bool (ok a)) ∧ Below W'.heap.size W' w') :
  Calls Tryz.prog 49 #[slv v,.func (.func 50) #[] #[.pointer (some ⟨b1,0,none⟩)]] w fun e w' => e = .returned (.bool (al.all ok)) ∧ Below w.heap.size w w' := by
 obtain ⟨so,sn,sc⟩ := v
 obtain ⟨ao,ac,hs⟩ := hv.len
 have hs : Value.slice so sn sc = .slice ao l.length ac := hs
 obtain ⟨rfl,rfl,rfl⟩ : so = ao ∧ sn = l.length ∧ sc = ac := by simpa using hs
 have HL := Lib.hid hv
 have HA := Lib.hid hA
 have HC := Lib.hid hC
 have lm := hv.most
 unfold maxLen at lm
 obtain ⟨n,hn⟩ : ∃ n,n = l.length := ⟨_,rfl⟩
 rw [← hn] at HL lm ⊢
 have HN := Lib.hid hn.symm
 obtain ⟨res,hres⟩ : ∃ r,al.all ok = r := ⟨_,rfl⟩
 rw [hres]
 have RS := Lib.hid hres
 clear hv hA hC hs hn hres
 go_enter Tryz.func49,Tryz.ntmps49
 go_wp2
 go_loopw [9] (fun i wr => ∃ k : Nat,k ≤ n ∧ i = .int .i64 k ∧ Below w.heap.size w wr ∧ ∀ (j : Nat) (a : En),j < k → al[j]? = some a → ok a = true) (fun i _ => n - (intOf i).toNat)
 case atStart => exact ⟨0,Nat.zero_le _,rfl,Below.refl _ _,fun j y h => by omega⟩
 case round =>
  obtain ⟨k,hk,rfl,hbe,hall⟩ := hrel
  have BE := Lib.hid hbe
  have AL := Lib.hid hall
  clear hbe hall
  by_cases hlt : k < n
  ·obtain ⟨a,hak⟩ : ∃ a,al[k]? = some a := ⟨_,List.getElem?_eq_getElem (by rw [← HA.out.len,HN.out]; exact hlt)⟩
   obtain ⟨x,hx,hxa⟩ := HA.out.at k a hak
   obtain ⟨p,ix,px⟩ := elN HL.out rfl HN.out hx
   obtain ⟨p0,p1,p2,p3,p4,p5,p6⟩ := px wr BE.out
   have CC := fun W' (q : Below w.heap.size w W') => HC.out x a W' (List.mem_of_getElem? hak) q (hxa.on q)
   have HAK := Lib.hid hak
   obtain ⟨r,hr⟩ : ∃ r,ok a = r := ⟨_,rfl⟩
   rw [hr] at CC
   have HR := Lib.hid hr
   clear hx hak hxa px hr
   obtain ⟨x1,x2,x3,x4,⟨xo,xn,xc⟩,x6,x7⟩ := x
   simp only at p0 p1 p2 p3 p4 p5 p6
   have NB := newB wr (.cells #[.int .i64 x1,.int .i64 x2,.int .i64 x3,.int .i64 x4,.slice xo xn xc,.int .i64 x6,.bool x7] 43)
   have C := Lib.hid (CC _ (BE.out.trans (NB.mono BE.out.size)))
   have BN := Lib.hid (BE.out.trans (NB.mono BE.out.size))
   have hw3 : IntKind.i64.wrap ((k : Int) + 1) = (k : Int) + 1 := IntWalk.i64_in _ (by omega)
   clear CC NB
   go_wp2_with fail
   refine C.out.mono ?_
   rintro e w1 ⟨rfl,hb⟩
   have B1 := Lib.hid (BN.out.trans (hb.mono BN.out.size))
   clear hb C ix p0 p1 p2 p3 p4 p5 p6
   cases r
   ·have R := Lib.hid (show res = false by
     rw [← RS.out]
     exact List.all_eq_false.2 ⟨a,List.mem_of_getElem? HAK.out,by rw [HR.out]; simp⟩)
    go_wp2
    go_ret
    exact ⟨by rw [R.out]; rfl,B1.out⟩
   ·go_wp2
    go_roundw
    case rel => exact ⟨k + 1,by omega,by go_num,B1.out,fun j y hj h1 => by
     rcases Nat.lt_or_ge j k with h3 | h3
     ·exact AL.out j y h3 h1
     ·obtain rfl : j = k := by omega
      have e1 := HAK.out
      rw [h1] at e1
      rw [Option.some.inj e1]
      exact HR.out⟩
    case measure => simp [intOf]; omega
  ·obtain rfl : k = n := by omega
   have R := Lib.hid (show res = true by
    rw [← RS.out]
    refine List.all_eq_true.2 fun y hy => ?_
    obtain ⟨j,hj⟩ := List.mem_iff_getElem?.1 hy
    exact AL.out j y (by have := (List.getElem?_eq_some_iff.1 hj).1; have := HA.out.len; have := HN.out; omega) hj)
   go_wp2
   go_ret
   exact ⟨by rw [R.out]; rfl,BE.out⟩
theorem allW_any (v : Sl) (l : List XOw) (al : List Ow) (ok : Ow → Bool) (w : World) (hv : Row EW w (slv v) l) (hA : All2 (OwIn w) l al)
  (hC : ∀ (x : XOw) (a : Ow) (W' : World),a ∈ al → Below w.heap.size w W' → OwIn W' x a → Calls Tryz.prog 53 #[valW x] W' fun e w' => e = .returned (.bool (ok a)) ∧ Below W'.heap.size W' w') :
  Calls Tryz.prog 52 #[slv v,.func (.func 53) #[] #[]] w fun e w' => e = .returned (.bool (al.all ok)) ∧ Below w.heap.size w w' := by
 obtain ⟨so,sn,sc⟩ := v
 obtain ⟨ao,ac,hs⟩ := hv.len
 have hs : Value.slice so sn sc = .slice ao l.length ac := hs
 obtain ⟨rfl,rfl,rfl⟩ : so = ao ∧ sn = l.length ∧ sc = ac := by simpa using hs
 have HL := Lib.hid hv
 have HA := Lib.hid hA
 have HC := Lib.hid hC
 have lm := hv.most
 unfold maxLen at lm
 obtain ⟨n,hn⟩ : ∃ n,n = l.length := ⟨_,rfl⟩
 rw [← hn] at HL lm ⊢
 have HN := Lib.hid hn.symm
 obtain ⟨res,hres⟩ : ∃ r,al.all ok = r := ⟨_,rfl⟩
 rw [hres]
 have RS := Lib.hid hres
 clear hv hA hC hs hn hres
 go_enter Tryz.func52,Tryz.ntmps52
 go_wp2
 go_loopw [9] (fun i wr => ∃ k : Nat,k ≤ n ∧ i = .int .i64 k ∧ Below w.heap.size w wr ∧ ∀ (j : Nat) (a : Ow),j < k → al[j]? = some a → ok a = true) (fun i _ => n - (intOf i).toNat)
 case atStart => exact ⟨0,Nat.zero_le _,rfl,Below.refl _ _,fun j y h => by omega⟩
 case round =>
  obtain ⟨k,hk,rfl,hbe,hall⟩ := hrel
  have BE := Lib.hid hbe
  have AL := Lib.hid hall
  clear hbe hall
  by_cases hlt : k < n
  ·obtain ⟨a,hak⟩ : ∃ a,al[k]? = some a := ⟨_,List.getElem?_eq_getElem (by rw [← HA.out.len,HN.out]; exact hlt)⟩
   obtain ⟨x,hx,hxa⟩ := HA.out.at k a hak
   obtain ⟨p,ix,px⟩ := elW HL.out rfl HN.out hx
   obtain ⟨p0,p1,p2⟩ := px wr BE.out
   have CC := fun W' (q : Below w.heap.size w W') => HC.out x a W' (List.mem_of_getElem? hak) q (hxa.on q)
   have HAK := Lib.hid hak
   obtain ⟨r,hr⟩ : ∃ r,ok a = r := ⟨_,rfl⟩
   rw [hr] at CC
   have HR := Lib.hid hr
   clear hx hak hxa px hr
   obtain ⟨x1,x2,⟨xo,xn,xc⟩⟩ := x
   simp only at p0 p1 p2
   have NB := newB wr (.cells #[.int .i64 x1,.int .i64 x2,.slice xo xn xc] 45)
   have C := Lib.hid (CC _ (BE.out.trans (NB.mono BE.out.size)))
   have BN := Lib.hid (BE.out.trans (NB.mono BE.out.size))
   have hw3 : IntKind.i64.wrap ((k : Int) + 1) = (k : Int) + 1 := IntWalk.i64_in _ (by omega)
   clear CC NB
   go_wp2_with fail
   refine C.out.mono ?_
   rintro e w1 ⟨rfl,hb⟩
   have B1 := Lib.hid (BN.out.trans (hb.mono BN.out.size))
   clear hb C ix p0 p1 p2
   cases r
   ·have R := Lib.hid (show res = false by
     rw [← RS.out]
     exact List.all_eq_false.2 ⟨a,List.mem_of_getElem? HAK.out,by rw [HR.out]; simp⟩)
    go_wp2
    go_ret
    exact ⟨by rw [R.out]; rfl,B1.out⟩
   ·go_wp2
    go_roundw
    case rel => exact ⟨k + 1,by omega,by go_num,B1.out,fun j y hj h1 => by
     rcases Nat.lt_or_ge j k with h3 | h3
     ·exact AL.out j y h3 h1
     ·obtain rfl : j = k := by omega
      have e1 := HAK.out
      rw [h1] at e1
      rw [Option.some.inj e1]
      exact HR.out⟩
    case measure => simp [intOf]; omega
  ·obtain rfl : k = n := by omega
   have R := Lib.hid (show res = true by
    rw [← RS.out]
    refine List.all_eq_true.2 fun y hy => ?_
    obtain ⟨j,hj⟩ := List.mem_iff_getElem?.1 hy
    exact AL.out j y (by have := (List.getElem?_eq_some_iff.1 hj).1; have := HA.out.len; have := HN.out; omega) hj)
   go_wp2
   go_ret
   exact ⟨by rw [R.out]; rfl,BE.out⟩
abbrev cAd (a b : Ad) : Int := cmpJ a.id b.id
abbrev cEn (a b : En) : Int := orI (cmpJ a.tree b.tree) (cmpJ a.sub b.sub)
abbrev cOw (a b : Ow) : Int := cmpJ a.id b.id
def okBr (b : Br) : Bool := riseB cmpI b.near && (riseB cmpJ b.seen && (riseB cAd b.adv && (riseB cEn b.ent && (riseB cOw b.own && (b.adv.all (okAd b) && (b.ent.all (okEn b) && b.own.all (fun o => Wr.rightP o.p)))))))
structure TameB (b : Br) : Prop where
 adv : ∀ a ∈ b.adv,Tame a.p
 ent : ∀ a ∈ b.ent,Tame a.p
 own : ∀ a ∈ b.own,Tame a.p
theorem riseB_map {α β : Type} {R : α → β → Prop} {c : α → α → Int} {d : β → β → Int} (h : ∀ x a y b,R x a → R y b → c x y = d a b) : ∀ {l : List α} {m : List β},All2 R l m → riseB c l = riseB d m
 | _,_,.nil => rfl
 | _,_,.cons _ .nil => rfl
 | _,_,.cons x (.cons y t) => by
  have ih := riseB_map h (.cons y t)
  unfold riseB
  rw [h _ _ _ _ x y,ih]
theorem riseB_pair {α : Type} {c : α → α → Int} (ht : ∀ x y z,c x y < 0 → c y z < 0 → c x z < 0) : ∀ {l : List α},riseB c l = true → l.Pairwise fun x y => c x y < 0
 | [],_ => List.Pairwise.nil
 | [x],_ => List.pairwise_singleton _ _
 | x :: y :: l,h => by
  unfold riseB at h
  rw [Bool.and_eq_true] at h
  have ih := riseB_pair ht h.2
  have hxy : c x y < 0 := of_decide_eq_true h.1
  refine List.pairwise_cons.2 ⟨fun z hz => ?_,ih⟩
  rcases List.mem_cons.1 hz with rfl | hz
  ·exact hxy
  ·exact ht x y z hxy ((List.pairwise_cons.1 ih).1 z hz)
theorem cmpJ_lt {x y : XID} : cmpJ x y < 0 ↔ lessI x y = true := cmpJ_neg x y
theorem cmpJ_tr (x y z : XID) (h1 : cmpJ x y < 0) (h2 : cmpJ y z < 0) : cmpJ x z < 0 := cmpJ_lt.2 (lessI_trans (cmpJ_lt.1 h1) (cmpJ_lt.1 h2))
theorem near_le {l : List Int} (h : riseB cmpI l = true) : l.Pairwise (· ≤ ·) := by
 have := riseB_pair (c := cmpI) (fun x y z h1 h2 => by rw [cmpI_neg] at *; omega) h
 exact this.imp fun {a b} q => by have := (cmpI_neg a b).1 q; omega
theorem seen_rise {l : List XID} (h : riseB cmpJ l = true) : RiseI l := (riseB_pair cmpJ_tr h).imp fun {_a _b} q => cmpJ_lt.1 q
theorem adv_rise {l : List Ad} (h : riseB cAd l = true) : RiseA l := (riseB_pair (fun x y z => cmpJ_tr x.id y.id z.id) h).imp fun {_a _b} q => cmpJ_lt.1 q
theorem aright_any (b : Br) (nv av sv ev ov : Sl) (w : World) (h : BrIn w b nv av sv ev ov) (hf : Few b) (ht : TameB b) :
  Calls Tryz.prog 7 #[brv b.me nv av sv ev ov] w fun e w' => e = .returned (.bool (okBr b)) ∧ Below w.heap.size w w' := by
 obtain ⟨no,nn,nc⟩ := nv
 obtain ⟨ao,an,ac⟩ := av
 obtain ⟨so,sn,sc⟩ := sv
 obtain ⟨eo,en,ec⟩ := ev
 obtain ⟨oo,on_,oc⟩ := ov
 obtain ⟨la,ha1,ha2⟩ := h.adv
 obtain ⟨le,he1,he2⟩ := h.ent
 obtain ⟨lo,ho1,ho2⟩ := h.own
 have q0 := newB w (.cells #[.int .i64 b.me,.slice no nn nc,.slice ao an ac,.slice so sn sc,.slice eo en ec,.slice oo on_ oc] 31)
 have X := box_new w #[.int .i64 b.me,.slice no nn nc,.slice ao an ac,.slice so sn sc,.slice eo en ec,.slice oo on_ oc] 31
 have C1 := fun W' (q : Below w.heap.size w W') => riseI_any (.slice no nn nc) b.near W' (h.near.on q)
 have C2 := fun W' (q : Below w.heap.size w W') => riseJ_any (.slice so sn sc) b.seen W' (h.seen.on q)
 have C3 := fun W' (q : Below w.heap.size w W') => riseD_any (.slice ao an ac) la W' (ha1.on q)
 have C4 := fun W' (q : Below w.heap.size w W') => riseN_any (.slice eo en ec) le W' (he1.on q)
 have C5 := fun W' (q : Below w.heap.size w W') => riseW_any (.slice oo on_ oc) lo W' (ho1.on q)
 rw [riseB_map (R := AdIn w) (d := cAd) (fun x a y b h1 h2 => by rw [cAd,← h1.1,← h2.1]) ha2] at C3
 rw [riseB_map (R := EnIn w) (d := cEn) (fun x a y b h1 h2 => by rw [cEn,← h1.1,← h2.1,← h1.2.1,← h2.2.1]; rfl) he2] at C4
 rw [riseB_map (R := OwIn w) (d := cOw) (fun x a y b h1 h2 => by rw [cOw,← h1.1,← h2.1]) ho2] at C5
 have C6 := fun (g1 : riseB cmpI b.near = true) (g2 : riseB cmpJ b.seen = true) W' (q : Below w.heap.size w W') (hx : Box W' w.heap.size #[.int .i64 b.me,.slice no nn nc,.slice ao an ac,.slice so sn sc,.slice eo en ec,.slice oo on_ oc] 31) => allD_any w.heap.size (ao,an,ac) la b.adv (okAd b) W' (ha1.on q) (ha2.mono fun _ _ z => z.on q) (fun x a W2 hm q2 hxa => rclD_any b a (no,nn,nc) (ao,an,ac) (so,sn,sc) (eo,en,ec) (oo,on_,oc) x w.heap.size W2 (hx.on q2) ((h.on q).on q2) hxa hf (near_le g1) (seen_rise g2) (ht.adv a hm))
 have C7 := fun (g1 : riseB cmpI b.near = true) (g3 : riseB cAd b.adv = true) W' (q : Below w.heap.size w W') (hx : Box W' w.heap.size #[.int .i64 b.me,.slice no nn nc,.slice ao an ac,.slice so sn sc,.slice eo en ec,.slice oo on_ oc] 31) => allN_any w.heap.size (eo,en,ec) le b.ent (okEn b) W' (he1.on q) (he2.mono fun _ _ z => z.on q) (fun x a W2 hm q2 hxa => rclN_any b a (no,nn,nc) (ao,an,ac) (so,sn,sc) (eo,en,ec) (oo,on_,oc) x w.heap.size W2 (hx.on q2) ((h.on q).on q2) hxa hf (near_le g1) (adv_rise g3) (ht.ent a hm))
 have C8 := fun W' (q : Below w.heap.size w W') => allW_any (oo,on_,oc) lo b.own (fun o => Wr.rightP o.p) W' (ho1.on q) (ho2.mono fun _ _ z => z.on q) (fun x a W2 hm q2 hxa => rclW_any a x W2 hxa (ht.own a hm))
 have RS := Lib.hid (show okBr b = (riseB cmpI b.near && (riseB cmpJ b.seen && (riseB cAd b.adv && (riseB cEn b.ent && (riseB cOw b.own && (b.adv.all (okAd b) && (b.ent.all (okEn b) && b.own.all (fun o => Wr.rightP o.p)))))))) from rfl)
 generalize okBr b = res at *
 generalize riseB cmpI b.near = r1 at *
 generalize riseB cmpJ b.seen = r2 at *
 generalize riseB cAd b.adv = r3 at *
 generalize riseB cEn b.ent = r4 at *
 generalize riseB cOw b.own = r5 at *
 generalize b.adv.all (okAd b) = r6 at *
 generalize b.ent.all (okEn b) = r7 at *
 generalize b.own.all (fun o => Wr.rightP o.p) = r8 at *
 have C1 := Lib.hid C1
 have C2 := Lib.hid C2
 have C3 := Lib.hid C3
 have C4 := Lib.hid C4
 have C5 := Lib.hid C5
 have C6 := Lib.hid C6
 have C7 := Lib.hid C7
 have C8 := Lib.hid C8
 have B0 := Lib.hid q0
 have X0 := Lib.hid X
 obtain ⟨cx0,cx1,cx2,cx3,cx4,cx5⟩ := X.cs6
 clear q0 X h hf ht ha1 ha2 he1 he2 ho1 ho2
 go_enter Tryz.func7,Tryz.ntmps7
 go_wp2_with fail
 generalize w.alloc (.cells #[.int .i64 b.me,.slice no nn nc,.slice ao an ac,.slice so sn sc,.slice eo en ec,.slice oo on_ oc] 31) = W0 at *
 refine (C1.out _ B0.out).mono ?_
 rintro e1 W1 ⟨rfl,hb⟩
 have B1 := Lib.hid (B0.out.trans (hb.mono B0.out.size))
 have X1 := Lib.hid (X0.out.on hb)
 clear hb cx0 cx1 cx2 cx3 cx4 cx5
 obtain ⟨cx0,cx1,cx2,cx3,cx4,cx5⟩ := X1.out.cs6
 cases r1
 ·go_wp2_with fail
  go_ret
  exact ⟨by rw [RS.out]; rfl,B1.out⟩
 ·go_wp2_with fail
  refine (C2.out _ B1.out).mono ?_
  rintro e2 W2 ⟨rfl,hb⟩
  have B2 := Lib.hid (B1.out.trans (hb.mono B1.out.size))
  have X2 := Lib.hid (X1.out.on hb)
  clear hb cx0 cx1 cx2 cx3 cx4 cx5
  obtain ⟨cx0,cx1,cx2,cx3,cx4,cx5⟩ := X2.out.cs6
  cases r2
  ·go_wp2_with fail
   go_ret
   exact ⟨by rw [RS.out]; rfl,B2.out⟩
  ·go_wp2_with fail
   refine (C3.out _ B2.out).mono ?_
   rintro e3 W3 ⟨rfl,hb⟩
   have B3 := Lib.hid (B2.out.trans (hb.mono B2.out.size))
   have X3 := Lib.hid (X2.out.on hb)
   clear hb cx0 cx1 cx2 cx3 cx4 cx5
   obtain ⟨cx0,cx1,cx2,cx3,cx4,cx5⟩ := X3.out.cs6
   cases r3
   ·go_wp2_with fail
    go_ret
    exact ⟨by rw [RS.out]; rfl,B3.out⟩
   ·go_wp2_with fail
    refine (C4.out _ B3.out).mono ?_
    rintro e4 W4 ⟨rfl,hb⟩
    have B4 := Lib.hid (B3.out.trans (hb.mono B3.out.size))
    have X4 := Lib.hid (X3.out.on hb)
    clear hb cx0 cx1 cx2 cx3 cx4 cx5
    obtain ⟨cx0,cx1,cx2,cx3,cx4,cx5⟩ := X4.out.cs6
    cases r4
    ·go_wp2_with fail
     go_ret
     exact ⟨by rw [RS.out]; rfl,B4.out⟩
    ·go_wp2_with fail
     refine (C5.out _ B4.out).mono ?_
     rintro e5 W5 ⟨rfl,hb⟩
     have B5 := Lib.hid (B4.out.trans (hb.mono B4.out.size))
     have X5 := Lib.hid (X4.out.on hb)
     clear hb cx0 cx1 cx2 cx3 cx4 cx5
     obtain ⟨cx0,cx1,cx2,cx3,cx4,cx5⟩ := X5.out.cs6
     cases r5
     ·go_wp2_with fail
      go_ret
      exact ⟨by rw [RS.out]; rfl,B5.out⟩
     ·go_wp2_with fail
      refine (C6.out (by trivial) (by trivial) _ B5.out X5.out).mono ?_
      rintro e6 W6 ⟨rfl,hb⟩
      have B6 := Lib.hid (B5.out.trans (hb.mono B5.out.size))
      have X6 := Lib.hid (X5.out.on hb)
      clear hb cx0 cx1 cx2 cx3 cx4 cx5
      obtain ⟨cx0,cx1,cx2,cx3,cx4,cx5⟩ := X6.out.cs6
      cases r6
      ·go_wp2_with fail
       go_ret
       exact ⟨by rw [RS.out]; rfl,B6.out⟩
      ·go_wp2_with fail
       refine (C7.out (by trivial) (by trivial) _ B6.out X6.out).mono ?_
       rintro e7 W7 ⟨rfl,hb⟩
       have B7 := Lib.hid (B6.out.trans (hb.mono B6.out.size))
       have X7 := Lib.hid (X6.out.on hb)
       clear hb cx0 cx1 cx2 cx3 cx4 cx5
       obtain ⟨cx0,cx1,cx2,cx3,cx4,cx5⟩ := X7.out.cs6
       cases r7
       ·go_wp2_with fail
        go_ret
        exact ⟨by rw [RS.out]; rfl,B7.out⟩
       ·go_wp2_with fail
        refine (C8.out _ B7.out).mono ?_
        rintro e8 W8 ⟨rfl,hb⟩
        have B8 := Lib.hid (B7.out.trans (hb.mono B7.out.size))
        clear hb cx0 cx1 cx2 cx3 cx4 cx5
        go_wp2_with fail
        go_ret
        exact ⟨by rw [RS.out]; rfl,B8.out⟩
theorem riseB_of {α : Type} {c : α → α → Int} : ∀ {l : List α},(l.Pairwise fun x y => c x y < 0) → riseB c l = true
 | [],_ => rfl
 | [_],_ => rfl
 | x :: y :: l,h => by
  have h1 := List.pairwise_cons.1 h
  unfold riseB
  rw [decide_eq_true (h1.1 y (by simp)),Bool.true_and]
  exact riseB_of h1.2
theorem cmpI_tr (x y z : Int) (h1 : cmpI x y < 0) (h2 : cmpI y z < 0) : cmpI x z < 0 := by rw [cmpI_neg] at *; omega
theorem cEn_neg (a b : En) : cEn a b < 0 ↔ (lessI a.tree b.tree = true ∨ (a.tree = b.tree ∧ lessI a.sub b.sub = true)) := by
 unfold cEn orI
 by_cases h : cmpJ a.tree b.tree = 0
 ·rw [if_pos h,cmpJ_neg]
  have e := (cmpJ_zero _ _).1 h
  constructor
  ·exact fun q => Or.inr ⟨e,q⟩
  ·rintro (q | ⟨_,q⟩)
   ·rw [e,lessI_irr] at q; cases q
   ·exact q
 ·rw [if_neg h,cmpJ_neg]
  constructor
  ·exact Or.inl
  ·rintro (q | ⟨q,_⟩)
   ·exact q
   ·exact absurd ((cmpJ_zero _ _).2 q) h
theorem cEn_tr (x y z : En) (h1 : cEn x y < 0) (h2 : cEn y z < 0) : cEn x z < 0 := by
 rw [cEn_neg] at *
 rcases h1 with h1 | ⟨e1,h1⟩ <;> rcases h2 with h2 | ⟨e2,h2⟩
 ·exact Or.inl (lessI_trans h1 h2)
 ·exact Or.inl (by rw [← e2]; exact h1)
 ·exact Or.inl (by rw [e1]; exact h2)
 ·exact Or.inr ⟨e1.trans e2,lessI_trans h1 h2⟩
structure OkBr (b : Br) : Prop where
 near : b.near.Pairwise (· < ·)
 seen : RiseI b.seen
 adv : RiseA b.adv
 ent : b.ent.Pairwise fun x y => cEn x y < 0
 own : RiseK Ow.id b.own
 oks : ∀ a ∈ b.adv,a.id ∈ b.seen ∧ comesB b.near a.par = true ∧ Wr.rightP a.p = true
 oke : ∀ e ∈ b.ent,okEn b e = true
 oko : ∀ o ∈ b.own,Wr.rightP o.p = true
theorem okBr_iff (b : Br) : okBr b = true ↔ OkBr b := by
 unfold okBr
 simp only [Bool.and_eq_true,List.all_eq_true]
 constructor
 ·rintro ⟨h1,h2,h3,h4,h5,h6,h7,h8⟩
  refine ⟨(riseB_pair cmpI_tr h1).imp fun {a b} q => (cmpI_neg a b).1 q,seen_rise h2,adv_rise h3,riseB_pair cEn_tr h4,(riseB_pair (fun x y z => cmpJ_tr x.id y.id z.id) h5).imp fun {a b} q => cmpJ_lt.1 q,fun a ha => ?_,h7,h8⟩
  have := h6 a ha
  unfold okAd at this
  simp only [Bool.and_eq_true,decide_eq_true_eq] at this
  exact this
 ·rintro ⟨h1,h2,h3,h4,h5,h6,h7,h8⟩
  refine ⟨riseB_of (h1.imp fun {a b} q => (cmpI_neg a b).2 q),riseB_of (h2.imp fun {a b} q => cmpJ_lt.2 q),riseB_of (h3.imp fun {a b} q => cmpJ_lt.2 q),riseB_of h4,riseB_of (h5.imp fun {a b} q => cmpJ_lt.2 q),fun a ha => ?_,h7,h8⟩
  unfold okAd
  simp only [Bool.and_eq_true,decide_eq_true_eq]
  exact h6 a ha
theorem mem_ins {α : Type} (l : List α) (k : Nat) (x y : α) : y ∈ insAt l k x ↔ y = x ∨ y ∈ l := by
 unfold insAt
 rw [List.mem_append,List.mem_append,List.mem_singleton]
 conv => rhs; rw [← List.take_append_drop k l,List.mem_append]
 constructor
 ·rintro ((h | h) | h)
  ·exact Or.inr (Or.inl h)
  ·exact Or.inl h
  ·exact Or.inr (Or.inr h)
 ·rintro (h | h | h)
  ·exact Or.inl (Or.inr h)
  ·exact Or.inl (Or.inl h)
  ·exact Or.inr h
theorem place_lo {α : Type} (key : α → XID) : ∀ (l : List α) (x : XID),∀ y ∈ l.take (placeK key l x),lessI (key y) x = true
 | [],_,y,h => by simp at h
 | a :: l,x,y,h => by
  unfold placeK at h
  by_cases ha : lessI (key a) x = true
  ·simp only [List.takeWhile_cons,ha,if_true,List.length_cons,List.take_succ_cons,List.mem_cons] at h
   rcases h with rfl | h
   ·exact ha
   ·exact place_lo key l x y h
  ·simp [ha] at h
theorem place_hi {α : Type} {key : α → XID} : ∀ {l : List α} (_ : RiseK key l) (x : XID) (_ : ∀ y ∈ l,key y ≠ x),∀ y ∈ l.drop (placeK key l x),lessI x (key y) = true
 | [],_,_,_,y,h => by simp at h
 | a :: l,hr,x,hn,y,h => by
  unfold placeK at h
  have hr' := List.pairwise_cons.1 hr
  by_cases ha : lessI (key a) x = true
  ·simp only [List.takeWhile_cons,ha,if_true,List.length_cons,List.drop_succ_cons] at h
   exact place_hi hr'.2 x (fun y hy => hn y (List.mem_cons_of_mem _ hy)) y h
  ·simp [ha] at h
   have hax : lessI x (key a) = true := by
    rcases lessI_total (key a) x with q | q | q
    ·exact absurd q ha
    ·exact absurd q (hn a (by simp))
    ·exact q
   rcases h with rfl | h
   ·exact hax
   ·exact lessI_trans hax (hr'.1 y h)
theorem ins_rise {α : Type} {key : α → XID} {l : List α} (hr : RiseK key l) (x : α) (hn : ∀ y ∈ l,key y ≠ key x) : RiseK key (insAt l (placeK key l (key x)) x) := by
 unfold insAt
 have h1 : RiseK key (l.take (placeK key l (key x))) := hr.sublist (List.take_sublist _ _)
 have h2 : RiseK key (l.drop (placeK key l (key x))) := hr.sublist (List.drop_sublist _ _)
 have lo := place_lo key l (key x)
 have hi := place_hi hr (key x) hn
 unfold RiseK at *
 rw [List.append_assoc,List.pairwise_append]
 refine ⟨h1,?_,fun a ha b hb => ?_⟩
 ·rw [List.singleton_append,List.pairwise_cons]
  exact ⟨fun b hb => hi b hb,h2⟩
 ·rw [List.singleton_append,List.mem_cons] at hb
  rcases hb with rfl | hb
  ·exact lo a ha
  ·exact lessI_trans (lo a ha) (hi b hb)
theorem findA_some {l : List Ad} {x : XID} {a : Ad} (h : findA l x = some a) : a ∈ l ∧ a.id = x := by
 unfold findA at h
 exact ⟨List.mem_of_find?_eq_some h,by simpa using List.find?_some h⟩
theorem findA_uniq {l : List Ad} (hr : RiseA l) {a : Ad} (ha : a ∈ l) : findA l a.id = some a := by
 obtain ⟨k,hk⟩ := List.mem_iff_getElem?.1 ha
 refine findA_at hk rfl fun j z hj hz e => ?_
 have := riseK_lt hr hj hz hk
 rw [e,lessI_irr] at this
 cases this
theorem findA_of {l m : List Ad} (hl : RiseA l) (hm : RiseA m) {x : XID} (h : ∀ a,a.id = x → (a ∈ l ↔ a ∈ m)) : findA l x = findA m x := by
 cases h1 : findA l x with
 | none =>
  cases h2 : findA m x with
  | none => rfl
  | some a =>
   obtain ⟨q1,q2⟩ := findA_some h2
   have := findA_uniq hl ((h a q2).2 q1)
   rw [q2,h1] at this
   cases this
 | some a =>
  obtain ⟨q1,q2⟩ := findA_some h1
  have := findA_uniq hm ((h a q2).1 q1)
  rw [q2] at this
  exact this.symm
theorem okEn_of {b c : Br} {e : En} (hn : c.near = b.near) (hf : findA c.adv e.tree = findA b.adv e.tree) (h : okEn b e = true) : okEn c e = true := by
 unfold okEn at *
 rw [hf,hn]
 exact h
theorem learn_ok {b : Br} (h : OkBr b) (a : Ad) (hp : comesB b.near a.par = true) (hq : Wr.rightP a.p = true) : OkBr (learnB b a).1 := by
 by_cases hin : a.id ∈ b.seen
 ·rw [learnB_in hin]; exact h
 ·rw [learnB_out hin]
  have hna : ∀ y ∈ b.adv,y.id ≠ a.id := fun y hy e => hin (by rw [← e]; exact (h.oks y hy).1)
  have hns : ∀ y ∈ b.seen,y ≠ a.id := fun y hy e => hin (by rw [← e]; exact hy)
  have ra : RiseA (insAt b.adv (placeI (b.adv.map Ad.id) a.id) a) := by
   rw [← placeK_map]
   exact ins_rise h.adv a hna
  have rs : RiseI (insAt b.seen (placeI b.seen a.id) a.id) := by
   have := ins_rise (key := fun x : XID => x) h.seen a.id hns
   rw [placeK_map,List.map_id'] at this
   exact this
  refine ⟨h.near,rs,ra,h.ent,h.own,fun y hy => ?_,fun e he => ?_,h.oko⟩
  ·rcases (mem_ins _ _ _ _).1 hy with rfl | hy
   ·exact ⟨(mem_ins _ _ _ _).2 (Or.inl rfl),hp,hq⟩
   ·exact ⟨(mem_ins _ _ _ _).2 (Or.inr (h.oks y hy).1),(h.oks y hy).2⟩
  ·refine okEn_of (b := b) rfl (findA_of ra h.adv fun y hy => ?_) (h.oke e he)
   rw [mem_ins]
   refine ⟨fun q => q.resolve_left fun e2 => ?_,Or.inr⟩
   have hk := h.oke e he
   unfold okEn at hk
   cases hf : findA b.adv e.tree with
   | none => rw [hf] at hk; cases hk
   | some z =>
    obtain ⟨z1,z2⟩ := findA_some hf
    exact hna z z1 (by rw [z2,← hy,e2])
theorem forget_ok {b : Br} (h : OkBr b) (x : XID) (f : Int) : OkBr (forgetF b x f).1 := by
 unfold forgetF
 cases findA b.adv x with
 | none => exact h
 | some a =>
  simp only
  split
  ·have ra : RiseA (b.adv.filter fun e => decide (e.id ≠ x)) := h.adv.sublist List.filter_sublist
   refine ⟨h.near,h.seen,ra,h.ent.sublist List.filter_sublist,h.own,fun y hy => h.oks y ((List.mem_filter.1 hy).1),fun e he => ?_,h.oko⟩
   have ht : e.tree ≠ x := of_decide_eq_true (List.mem_filter.1 he).2
   refine okEn_of (b := b) rfl (findA_of ra h.adv fun y hy => ?_) (h.oke e (List.mem_filter.1 he).1)
   rw [List.mem_filter]
   exact ⟨fun q => q.1,fun q => ⟨q,decide_eq_true (by rw [hy]; exact ht)⟩⟩
  ·exact h
end Go.Proofs.YtncogjpmboglhaaGreat.Av
namespace Go.Proofs.YtncogjpmboglhaaGreat.Sb
open Go.RowKit Go.Sort Rw YtncogjpmboglhaaGreat.Nm Pr Bk Av
abbrev RiseE (m : List En) : Prop := m.Pairwise fun x y => cEn x y < 0
def fromT (m : List En) (t : XID) : Nat := (m.takeWhile fun e => lessI e.tree t).length
def brE (m : List En) (t : XID) : List En := (m.drop (fromT m t)).takeWhile fun e => decide (e.tree = t)
def covB (r : List En) (p : List C5) : Bool := r.any fun e => e.up && coversC e.p p
def tightR (r : List En) : Bool := r.all fun e => e.up || covB r e.p
def tightB (b : Br) : Bool := b.adv.all fun a => a.par == -1 || tightR (brE b.ent a.id)
def raiseStep (s : List En × List En) (k : Nat) : List En × List En := match s.1[k]? with
 | none => s
 | some e => if e.up = true ∨ covB s.1 e.p = true then s else (s.1.set k (upE e),s.2 ++ [upE e])
def raiseK (r : List En) (k : Nat) : List En × List En := (List.range k).foldl raiseStep (r,[])
theorem raiseK_succ (r : List En) (k : Nat) : raiseK r (k + 1) = raiseStep (raiseK r k) k := by
 simp [raiseK,List.range_succ]
theorem findI_eq : ∀ (l : List XID) (x : XID),findI l x = findK l x
 | [],_ => rfl
 | a :: l,x => by rw [findI,findK,findI_eq l x]
theorem lessP_iff (x y : En) : lessP (keyE x) (keyE y) = true ↔ cEn x y < 0 := by
 rw [cEn_neg]
 unfold lessP
 simp [eqI_iff]
theorem lessP_irr (x : XID × XID) : lessP x x = false := by simp [lessP,lessI_irr]
def thereE (m : List En) (t s : XID) : Bool := match m[placeP (m.map keyE) (t,s)]? with
 | none => false
 | some e => decide (keyE e = (t,s))
theorem take_less : ∀ (l : List (XID × XID)) (x : XID × XID) (j : Nat) (y : XID × XID),j < placeP l x → l[j]? = some y → lessP y x = true
 | [],_,_,_,_,h => by simp at h
 | a :: l,x,j,y,hj,h => by
  unfold placeP at hj
  by_cases ha : lessP a x = true
  ·rw [List.takeWhile_cons,if_pos ha,List.length_cons] at hj
   cases j with
   | zero => rw [← Option.some.inj (show some a = some y from h)]; exact ha
   | succ j => exact take_less l x j y (by unfold placeP; omega) (by simpa using h)
  ·rw [List.takeWhile_cons,if_neg ha] at hj
   simp at hj
theorem place_not : ∀ (l : List (XID × XID)) (x y : XID × XID),l[placeP l x]? = some y → lessP y x = false
 | [],_,_,h => by simp [placeP] at h
 | a :: l,x,y,h => by
  unfold placeP at h
  by_cases ha : lessP a x = true
  ·rw [List.takeWhile_cons,if_pos ha,List.length_cons] at h
   exact place_not l x y (by unfold placeP; simpa using h)
  ·rw [List.takeWhile_cons,if_neg ha] at h
   rw [← Option.some.inj (show some a = some y from h)]
   simpa using ha
theorem find_there {m : List En} (hr : RiseE m) (t s : XID) : findK (m.map keyE) (t,s) = if thereE m t s = true then (placeP (m.map keyE) (t,s) : Int) else -1 := by
 unfold thereE
 cases hp : m[placeP (m.map keyE) (t,s)]? with
 | none =>
  rw [if_neg (by simp)]
  refine findK_none _ _ fun j y hj e => ?_
  have hl : m.length ≤ placeP (m.map keyE) (t,s) := List.getElem?_eq_none_iff.1 hp
  have hj2 := (List.getElem?_eq_some_iff.1 hj).1
  rw [List.length_map] at hj2
  have h := take_less _ (t,s) j y (by omega) hj
  rw [e,lessP_irr] at h
  cases h
 | some e =>
  have hpk : (m.map keyE)[placeP (m.map keyE) (t,s)]? = some (keyE e) := by rw [List.getElem?_map,hp]; rfl
  by_cases he : keyE e = (t,s)
  ·simp only [he,decide_true,if_true]
   rw [he] at hpk
   refine findK_at _ _ _ hpk fun j z hj hz q => ?_
   have h := take_less _ (t,s) j z hj hz
   rw [q,lessP_irr] at h
   cases h
  ·rw [if_neg (by simpa using he)]
   refine findK_none _ _ fun j y hj q => ?_
   rcases Nat.lt_trichotomy j (placeP (m.map keyE) (t,s)) with h | h | h
   ·have h := take_less _ (t,s) j y h hj
    rw [q,lessP_irr] at h
    cases h
   ·subst h
    rw [hpk] at hj
    exact he ((Option.some.inj hj).trans q)
   ·rw [List.getElem?_map] at hj
    cases hz : m[j]? with
    | none => rw [hz] at hj; cases hj
    | some z =>
     rw [hz] at hj
     have h1 := List.pairwise_iff_getElem.1 hr _ _ (List.getElem?_eq_some_iff.1 hp).1 (List.getElem?_eq_some_iff.1 hz).1 h
     rw [(List.getElem?_eq_some_iff.1 hp).2,(List.getElem?_eq_some_iff.1 hz).2,← lessP_iff] at h1
     have h2 := place_not _ _ _ hpk
     rw [show keyE z = (t,s) from (Option.some.inj hj).trans q] at h1
     rw [h1] at h2
     cases h2
theorem tree_le {x y : En} (h : cEn x y < 0) : lessI x.tree y.tree = true ∨ x.tree = y.tree := by
 rcases (cEn_neg x y).1 h with q | q
 ·exact Or.inl q
 ·exact Or.inr q.1
theorem drop_len {α : Type} (p : α → Bool) : ∀ l : List α,l.drop (l.takeWhile p).length = l.dropWhile p
 | [] => rfl
 | a :: l => by
  by_cases h : p a = true
  ·simp [h,drop_len p l]
  ·simp [h]
theorem lo_out : ∀ {m : List En} (t : XID) (_ : RiseE m),∀ e ∈ m.dropWhile (fun e => lessI e.tree t),lessI e.tree t = false
 | [],_,_,e,h => by simp at h
 | a :: m,t,hr,e,h => by
  have hr' := List.pairwise_cons.1 hr
  by_cases ha : lessI a.tree t = true
  ·rw [List.dropWhile_cons,if_pos ha] at h
   exact lo_out t hr'.2 e h
  ·rw [List.dropWhile_cons,if_neg ha] at h
   rcases List.mem_cons.1 h with rfl | h
   ·simpa using ha
   ·cases hq : lessI e.tree t with
    | false => rfl
    | true =>
     exfalso
     rcases tree_le (hr'.1 e h) with q | q
     ·exact ha (lessI_trans q hq)
     ·exact ha (by rw [q]; exact hq)
theorem hi_out : ∀ {m : List En} (t : XID) (_ : RiseE m) (_ : ∀ e ∈ m,lessI e.tree t = false),∀ e ∈ m.dropWhile (fun e => decide (e.tree = t)),lessI t e.tree = true
 | [],_,_,_,e,h => by simp at h
 | a :: m,t,hr,hl,e,h => by
  have hr' := List.pairwise_cons.1 hr
  by_cases ha : a.tree = t
  ·rw [List.dropWhile_cons,if_pos (by simpa using ha)] at h
   exact hi_out t hr'.2 (fun e he => hl e (List.mem_cons_of_mem _ he)) e h
  ·rw [List.dropWhile_cons,if_neg (by simpa using ha)] at h
   have hta : lessI t a.tree = true := by
    rcases lessI_total a.tree t with q | q | q
    ·rw [hl a (by simp)] at q; cases q
    ·exact absurd q ha
    ·exact q
   rcases List.mem_cons.1 h with rfl | h
   ·exact hta
   ·rcases tree_le (hr'.1 e h) with q | q
    ·exact lessI_trans hta q
    ·rw [← q]; exact hta
theorem ne_less {x t : XID} (h : lessI x t = true) : x ≠ t := by rintro rfl; rw [lessI_irr] at h; cases h
theorem br_split {m : List En} (hr : RiseE m) (t : XID) : ∃ c,m = m.take (fromT m t) ++ brE m t ++ c ∧ (m.take (fromT m t)).length = fromT m t ∧ (∀ e ∈ m.take (fromT m t),e.tree ≠ t) ∧ (∀ e ∈ brE m t,e.tree = t) ∧ (∀ e ∈ c,e.tree ≠ t) := by
 have e1 : m.take (fromT m t) = m.takeWhile fun e => lessI e.tree t := by
  unfold fromT
  conv => lhs; arg 2; rw [← List.takeWhile_append_dropWhile (p := fun e : En => lessI e.tree t) (l := m)]
  rw [List.take_left]
 have e2 : m.drop (fromT m t) = m.dropWhile fun e => lessI e.tree t := drop_len _ _
 refine ⟨(m.drop (fromT m t)).dropWhile fun e => decide (e.tree = t),?_,?_,?_,?_,?_⟩
 ·unfold brE
  rw [List.append_assoc,List.takeWhile_append_dropWhile,List.take_append_drop]
 ·rw [e1]; rfl
 ·rw [e1]
  intro e he
  exact ne_less (List.all_eq_true.1 List.all_takeWhile e he)
 ·intro e he
  unfold brE at he
  exact of_decide_eq_true (List.all_eq_true.1 (List.all_takeWhile (p := fun e : En => decide (e.tree = t))) e he)
 ·rw [e2]
  intro e he
  have h1 : RiseE (m.dropWhile fun e => lessI e.tree t) := hr.sublist (List.dropWhile_sublist _)
  exact (ne_less (hi_out t h1 (lo_out t hr) e he)).symm
theorem fil_none {α : Type} {p : α → Bool} {l : List α} (h : ∀ e ∈ l,p e = false) : l.filter p = [] := by
 rw [List.filter_eq_nil_iff]
 intro e he
 rw [h e he]
 simp
theorem br_filter {m : List En} (hr : RiseE m) (t : XID) : brE m t = m.filter fun e => decide (e.tree = t) := by
 obtain ⟨c,h1,_,h2,h3,h4⟩ := br_split hr t
 generalize brE m t = r at *
 generalize m.take (fromT m t) = a at *
 subst h1
 rw [List.filter_append,List.filter_append,fil_none (l := a) fun e he => by simpa using h2 e he,fil_none (l := c) fun e he => by simpa using h4 e he,List.nil_append,List.append_nil]
 exact (List.filter_eq_self.2 fun e he => by simpa using h3 e he).symm
theorem cov_br {m : List En} (hr : RiseE m) (t : XID) (p : List C5) : covB (brE m t) p = coveredE m t p := by
 rw [br_filter hr,covB,List.any_filter]
 rfl
theorem mem_br {m : List En} (hr : RiseE m) (t : XID) (e : En) : e ∈ brE m t ↔ e ∈ m ∧ e.tree = t := by
 rw [br_filter hr,List.mem_filter,decide_eq_true_eq]
theorem cov_mid {a r c : List En} {t : XID} (ha : ∀ e ∈ a,e.tree ≠ t) (hr : ∀ e ∈ r,e.tree = t) (hc : ∀ e ∈ c,e.tree ≠ t) (p : List C5) : coveredE (a ++ r ++ c) t p = covB r p := by
 have none_ : ∀ l : List En,(∀ e ∈ l,e.tree ≠ t) → l.any (covE t p) = false := fun l hl => by
  rw [List.any_eq_false]
  intro e he
  unfold covE
  rw [decide_eq_false (hl e he)]
  simp
 unfold coveredE covB
 rw [List.any_append,List.any_append,none_ a ha,none_ c hc,Bool.false_or,Bool.or_false]
 induction r with
 | nil => rfl
 | cons x r ih =>
  rw [List.any_cons,List.any_cons,ih fun e he => hr e (List.mem_cons_of_mem _ he)]
  congr 1
  unfold covE
  rw [decide_eq_true (hr x (by simp)),Bool.true_and]
theorem raiseStep_keys (s : List En × List En) (k : Nat) : (raiseStep s k).1.map keyE = s.1.map keyE := by
 unfold raiseStep
 split
 ·rfl
 ·rename_i e he
  split
  ·rfl
  ·rw [List.map_set]
   refine List.ext_getElem? fun j => ?_
   rw [List.getElem?_set]
   split
   ·rename_i hj
    subst hj
    split
    ·rw [List.getElem?_map,he]
     rfl
    ·rename_i hl
     rw [List.getElem?_eq_none (by simpa using hl)]
   ·rfl
theorem raiseK_keys (r : List En) : ∀ k,(raiseK r k).1.map keyE = r.map keyE
 | 0 => rfl
 | k + 1 => by rw [raiseK_succ,raiseStep_keys,raiseK_keys r k]
theorem raiseK_len (r : List En) (k : Nat) : (raiseK r k).1.length = r.length := by
 have h := congrArg List.length (raiseK_keys r k)
 simpa using h
theorem raiseK_up (r : List En) : ∀ k,(raiseK r k).2.length ≤ k
 | 0 => Nat.le_refl _
 | k + 1 => by
  have ih := raiseK_up r k
  rw [raiseK_succ]
  unfold raiseStep
  split
  ·omega
  ·split
   ·omega
   ·simp; omega
theorem keys_tree {r r' : List En} {t : XID} (h : r'.map keyE = r.map keyE) (hr : ∀ e ∈ r,e.tree = t) : ∀ e ∈ r',e.tree = t := by
 intro e he
 have h1 : keyE e ∈ r.map keyE := by rw [← h]; exact List.mem_map.2 ⟨e,he,rfl⟩
 obtain ⟨z,hz,hk⟩ := List.mem_map.1 h1
 rw [← show z.tree = e.tree from congrArg Prod.fst hk]
 exact hr z hz
theorem take_raise {a r c : List En} {t : XID} (ha : ∀ e ∈ a,e.tree ≠ t) (hr : ∀ e ∈ r,e.tree = t) (hc : ∀ e ∈ c,e.tree ≠ t) : takeK t (a ++ r ++ c) (a ++ r ++ c).length = (a ++ (raiseK r r.length).1 ++ c,(raiseK r r.length).2) := by
 have s1 : ∀ k,k ≤ a.length → takeK t (a ++ r ++ c) k = (a ++ r ++ c,[]) := by
  intro k
  induction k with
  | zero => intro _; rfl
  | succ k ih =>
   intro hk
   rw [takeK_succ,ih (by omega)]
   unfold takeStep
   have e1 : (a ++ r ++ c)[k]? = some a[k] := by rw [List.append_assoc,List.getElem?_append_left (by omega),List.getElem?_eq_getElem (by omega)]
   rw [e1]
   simp only
   rw [if_neg fun h => ha _ (List.getElem_mem _) h.1]
 have s2 : ∀ j,j ≤ r.length → takeK t (a ++ r ++ c) (a.length + j) = (a ++ (raiseK r j).1 ++ c,(raiseK r j).2) := by
  intro j
  induction j with
  | zero => intro _; rw [Nat.add_zero,s1 _ (Nat.le_refl _)]; rfl
  | succ j ih =>
   intro hj
   have hl := raiseK_len r j
   have hk := keys_tree (raiseK_keys r j) hr
   rw [← Nat.add_assoc,takeK_succ,ih (by omega),raiseK_succ]
   generalize raiseK r j = s at *
   obtain ⟨r',u⟩ := s
   simp only at hl hk ⊢
   unfold takeStep raiseStep
   have e1 : (a ++ r' ++ c)[a.length + j]? = r'[j]? := by rw [List.append_assoc,List.getElem?_append_right (by omega),Nat.add_sub_cancel_left,List.getElem?_append_left (by omega)]
   simp only [e1]
   rw [List.getElem?_eq_getElem (show j < r'.length by omega)]
   simp only
   have ht := hk _ (List.getElem_mem (show j < r'.length by omega))
   rw [cov_mid ha hk hc]
   by_cases h1 : (r'[j]'(by omega)).up = true ∨ covB r' (r'[j]'(by omega)).p = true
   ·rw [if_pos h1,if_neg]
    rintro ⟨_,g2,g3⟩
    rcases h1 with h1 | h1
    ·rw [h1] at g2; cases g2
    ·rw [h1] at g3; cases g3
   ·rw [if_neg h1,if_pos ⟨ht,by simpa using fun q => h1 (Or.inl q),by simpa using fun q => h1 (Or.inr q)⟩]
    have e2 : (a ++ r' ++ c).set (a.length + j) (upE (r'[j]'(by omega))) = a ++ r'.set j (upE (r'[j]'(by omega))) ++ c := by
     rw [List.append_assoc,List.set_append_right _ _ (by omega),Nat.add_sub_cancel_left,List.set_append_left _ _ (by omega),List.append_assoc]
    rw [e2]
 have s3 : ∀ j,j ≤ c.length → takeK t (a ++ r ++ c) (a.length + r.length + j) = (a ++ (raiseK r r.length).1 ++ c,(raiseK r r.length).2) := by
  intro j
  induction j with
  | zero => intro _; rw [Nat.add_zero,s2 _ (Nat.le_refl _)]
  | succ j ih =>
   intro hj
   have hl := raiseK_len r r.length
   rw [← Nat.add_assoc,takeK_succ,ih (by omega)]
   unfold takeStep
   have e1 : (a ++ (raiseK r r.length).1 ++ c)[a.length + r.length + j]? = some (c[j]'(by omega)) := by
    rw [List.getElem?_append_right (by rw [List.length_append,hl]; omega),List.length_append,hl,Nat.add_sub_cancel_left,List.getElem?_eq_getElem (by omega)]
   rw [e1]
   simp only
   rw [if_neg fun h => hc _ (List.getElem_mem _) h.1]
 have h := s3 c.length (Nat.le_refl _)
 rw [List.length_append,List.length_append]
 exact h
def TightE (b : Br) : Prop := ∀ a ∈ b.adv,a.par ≠ -1 → ∀ e ∈ b.ent,e.tree = a.id → e.up = false → coveredE b.ent a.id e.p = true
theorem tight_iff {b : Br} (hr : RiseE b.ent) : tightB b = true ↔ TightE b := by
 unfold tightB TightE tightR
 simp only [List.all_eq_true,Bool.or_eq_true,beq_iff_eq]
 constructor
 ·intro h a ha hp e he ht hu
  have h1 := (h a ha).resolve_left hp e ((mem_br hr _ _).2 ⟨he,ht⟩)
  rw [cov_br hr] at h1
  exact h1.resolve_left (by rw [hu]; simp)
 ·intro h a ha
  by_cases hp : a.par = -1
  ·exact Or.inl hp
  ·refine Or.inr fun e he => ?_
   obtain ⟨h1,h2⟩ := (mem_br hr _ _).1 he
   rw [cov_br hr]
   cases hu : e.up with
   | true => exact Or.inl rfl
   | false => exact Or.inr (h a ha hp e h1 h2 hu)
theorem cov_iff (m : List En) (t : XID) (p : List C5) : coveredE m t p = true ↔ ∃ e ∈ m,e.tree = t ∧ e.up = true ∧ coversC e.p p = true := by
 unfold coveredE
 rw [List.any_eq_true]
 simp [covE]
theorem learn_tight {b : Br} (h : OkBr b) (a : Ad) (ht : TightE b) : TightE (learnB b a).1 := by
 by_cases hin : a.id ∈ b.seen
 ·rw [learnB_in hin]; exact ht
 ·rw [learnB_out hin]
  intro y hy hp e he hte hu
  rcases (mem_ins _ _ _ _).1 hy with rfl | hy
  ·exfalso
   have hk := h.oke e he
   unfold okEn at hk
   cases hf : findA b.adv e.tree with
   | none => rw [hf] at hk; cases hk
   | some z =>
    obtain ⟨z1,z2⟩ := findA_some hf
    exact hin (by rw [← hte,← z2]; exact (h.oks z z1).1)
  ·exact ht y hy hp e he hte hu
theorem forget_tight {b : Br} (x : XID) (f : Int) (ht : TightE b) : TightE (forgetF b x f).1 := by
 unfold forgetF
 cases findA b.adv x with
 | none => exact ht
 | some a =>
  simp only
  split
  ·intro y hy hp e he hte hu
   have hy' := List.mem_filter.1 hy
   have he' := List.mem_filter.1 he
   obtain ⟨z,h1,h2,h3,h4⟩ := (cov_iff _ _ _).1 (ht y hy'.1 hp e he'.1 hte hu)
   refine (cov_iff _ _ _).2 ⟨z,List.mem_filter.2 ⟨h1,?_⟩,h2,h3,h4⟩
   rw [h2]
   exact hy'.2
  ·exact ht
theorem add_tight {b : Br} (h : OkBr b) (e : En) (ht : TightE b) : TightE (addB b e).1 := by
 unfold addB
 split
 ·exact ht
 ·rename_i a ha
  split
  ·exact ht
  ·rename_i h1
   split
   ·exact ht
   ·split
    ·exact ht
    ·have hid : a.id = e.tree := by
      rcases findK_or (b.adv.map Ad.id) e.tree with q | ⟨k,q,r⟩
      ·exact absurd (findI_eq _ _ ▸ q) h1
      ·rw [findI_eq,q,Int.toNat_natCast] at ha
       rw [List.getElem?_map,ha] at r
       exact Option.some.inj r
     have hA : a ∈ b.adv := List.mem_of_getElem? ha
     intro y hy hp z hz hte hu
     have more : ∀ p,coveredE b.ent y.id p = true → coveredE (insAt b.ent (placeP (b.ent.map keyE) (keyE e)) { e with up := decide (a.par ≠ -1) && !coveredE b.ent e.tree e.p }) y.id p = true := fun p hp => by
      obtain ⟨q,q1,q2⟩ := (cov_iff _ _ _).1 hp
      exact (cov_iff _ _ _).2 ⟨q,(mem_ins _ _ _ _).2 (Or.inr q1),q2⟩
     rcases (mem_ins _ _ _ _).1 hz with rfl | hz
     ·have hya : y = a := by
       have g1 := findA_uniq h.adv hA
       have g2 := findA_uniq h.adv hy
       rw [show y.id = a.id from hte.symm.trans hid.symm,g1] at g2
       exact (Option.some.inj g2).symm
      have hu' : (decide (a.par ≠ -1) && !coveredE b.ent e.tree e.p) = false := hu
      rw [← hya,decide_eq_true hp,Bool.true_and] at hu'
      refine more _ ?_
      rw [← show e.tree = y.id from hte]
      simpa using hu'
     ·exact more _ (ht y hy hp z hz hte hu)
theorem mem_cut_or {α : Type} {l : List α} {k : Nat} {x y : α} (hk : l[k]? = some x) (hy : y ∈ l) : y = x ∨ y ∈ cutAt l k := by
 have hlt := (List.getElem?_eq_some_iff.1 hk).1
 have e : l = l.take k ++ x :: l.drop (k + 1) := by
  conv => lhs; rw [← List.take_append_drop k l]
  rw [List.drop_eq_getElem_cons hlt,(List.getElem?_eq_some_iff.1 hk).2]
 rw [e] at hy
 unfold cutAt
 rcases List.mem_append.1 hy with h | h
 ·exact Or.inr (List.mem_append_left _ h)
 ·rcases List.mem_cons.1 h with h | h
  ·exact Or.inl h
  ·exact Or.inr (List.mem_append_right _ h)
theorem cut_mem {α : Type} {l : List α} {k : Nat} {y : α} (h : y ∈ cutAt l k) : y ∈ l := by
 unfold cutAt at h
 rcases List.mem_append.1 h with h | h
 ·exact List.mem_of_mem_take h
 ·exact List.mem_of_mem_drop h
theorem set_mem {α : Type} {l : List α} {k : Nat} {x y z : α} (hk : l[k]? = some x) (hz : z ∈ l) : z = x ∨ z ∈ l.set k y := by
 obtain ⟨j,hj⟩ := List.mem_iff_getElem?.1 hz
 by_cases hjk : k = j
 ·subst hjk
  rw [hk] at hj
  exact Or.inl (Option.some.inj hj).symm
 ·right
  refine List.mem_iff_getElem?.2 ⟨j,?_⟩
  rw [List.getElem?_set_ne hjk]
  exact hj
theorem step_cov {t : XID} {s : List En × List En} {k : Nat} (u : XID) (p : List C5) (h : coveredE s.1 u p = true) : coveredE (takeStep t s k).1 u p = true := by
 unfold takeStep
 split
 ·exact h
 ·rename_i e he
  split
  ·obtain ⟨z,h1,h2,h3,h4⟩ := (cov_iff _ _ _).1 h
   rcases set_mem (y := upE e) he h1 with rfl | h5
   ·rename_i hq
    rw [hq.2.1] at h3
    cases h3
   ·exact (cov_iff _ _ _).2 ⟨z,h5,h2,h3,h4⟩
  ·exact h
theorem takeK_inv (t : XID) (m : List En) : ∀ k,k ≤ m.length → (∀ j,j < k → ∀ e,(takeK t m k).1[j]? = some e → e.tree = t → e.up = false → coveredE (takeK t m k).1 t e.p = true) ∧ (∀ u p,coveredE m u p = true → coveredE (takeK t m k).1 u p = true) ∧ (∀ e,e ∈ (takeK t m k).1 → e.tree ≠ t → e ∈ m)
 | 0,_ => ⟨fun j hj => absurd hj (Nat.not_lt_zero _),fun _ _ h => h,fun _ h _ => h⟩
 | k + 1,hk => by
  obtain ⟨h1,h2,h3⟩ := takeK_inv t m k (by omega)
  rw [takeK_succ]
  refine ⟨fun j hj e he htr hu => ?_,fun u p h => step_cov u p (h2 u p h),fun e he hne => ?_⟩
  ·have hl := (takeK_len t m k).1
   generalize takeK t m k = s at *
   obtain ⟨z,hz⟩ : ∃ z,s.1[k]? = some z := ⟨_,List.getElem?_eq_getElem (by omega)⟩
   by_cases hc : z.tree = t ∧ z.up = false ∧ coveredE s.1 t z.p = false
   ·have e1 : takeStep t s k = (s.1.set k (upE z),s.2 ++ [upE z]) := by unfold takeStep; rw [hz]; simp only; rw [if_pos hc]
    have mono := step_cov (t := t) (s := s) (k := k) t
    rw [e1] at he mono ⊢
    rw [List.getElem?_set] at he
    split at he
    ·split at he
     ·rw [← Option.some.inj he] at hu
      cases hu
     ·cases he
    ·exact mono _ (h1 j (by omega) e he htr hu)
   ·have e1 : takeStep t s k = s := by unfold takeStep; rw [hz]; simp only; rw [if_neg hc]
    rw [e1] at he ⊢
    rcases Nat.lt_or_ge j k with h0 | h0
    ·exact h1 j h0 e he htr hu
    ·obtain rfl : j = k := by omega
     rw [hz] at he
     obtain rfl := Option.some.inj he
     cases hv : coveredE s.1 t z.p with
     | true => rfl
     | false => exact absurd ⟨htr,hu,hv⟩ hc
  ·unfold takeStep at he
   split at he
   ·exact h3 e he hne
   ·rename_i z hz
    split at he
    ·rename_i hq
     rcases List.mem_or_eq_of_mem_set he with h5 | h5
     ·exact h3 e h5 hne
     ·rw [h5] at hne
      exact absurd hq.1 hne
    ·exact h3 e he hne
theorem take_tight {b : Br} (t x : XID) (f : Int) (ht : TightE b) : TightE (takeB b t x f).1 := by
 unfold takeB
 split
 ·exact ht
 ·rename_i e0 he0
  split
  ·exact ht
  ·rename_i h1
   split
   ·exact ht
   ·have h5 : e0.tree = t := by
     rcases findK_or (b.ent.map keyE) (t,x) with q | ⟨k,q,r⟩
     ·exact absurd q h1
     ·rw [q,Int.toNat_natCast] at he0
      rw [List.getElem?_map,he0] at r
      exact congrArg Prod.fst (Option.some.inj r)
    generalize (findK (b.ent.map keyE) (t,x)).toNat = k at *
    split
    ·rename_i hup
     intro y hy hp z hz hte hu
     obtain ⟨q,q1,q2,q3,q4⟩ := (cov_iff _ _ _).1 (ht y hy hp z (cut_mem hz) hte hu)
     refine (cov_iff _ _ _).2 ⟨q,(mem_cut_or he0 q1).resolve_left ?_,q2,q3,q4⟩
     rintro rfl
     rw [hup] at q3
     cases q3
    ·intro y hy hp z hz hte hu
     obtain ⟨g1,g2,g3⟩ := takeK_inv t (cutAt b.ent k) (cutAt b.ent k).length (Nat.le_refl _)
     by_cases hyt : y.id = t
     ·obtain ⟨j,hj⟩ := List.mem_iff_getElem?.1 hz
      have hlt := (List.getElem?_eq_some_iff.1 hj).1
      rw [(takeK_len t (cutAt b.ent k) _).1] at hlt
      rw [hyt] at hte ⊢
      exact g1 j hlt z hj hte hu
     ·have hzt : z.tree ≠ t := by rw [hte]; exact hyt
      obtain ⟨q,q1,q2,q3,q4⟩ := (cov_iff _ _ _).1 (ht y hy hp z (cut_mem (g3 z hz hzt)) hte hu)
      refine g2 _ _ ((cov_iff _ _ _).2 ⟨q,(mem_cut_or he0 q1).resolve_left ?_,q2,q3,q4⟩)
      rintro rfl
      exact hyt (q2.symm.trans h5)
end Go.Proofs.YtncogjpmboglhaaGreat.Sb
