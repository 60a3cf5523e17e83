/-
  put of package adverts: an ID, an advertisement in its place. Conditions as told.
-/
import Derived.Test.YtncogjpmboglhaaGreatQ027
import Derived.Test.YtncogjpmboglhaaGreatQ028
import Derived.Test.YtncogjpmboglhaaGreatQ020
import Derived.Test.YtncogjpmboglhaaGreatQ029
import Derived.Test.YtncogjpmboglhaaGreatQ031
import Derived.Test.YtncogjpmboglhaaGreatQ018
import Derived.Test.YtncogjpmboglhaaGreatQ001
set_option maxRecDepth 100000
set_option maxHeartbeats 64000000
namespace Go.Proofs.YtncogjpmboglhaaGreat.Av
open Go.RowKit Go.Sort Rw YtncogjpmboglhaaGreat.Nm Pr Bk
theorem place_leJ (l : List XID) (y : XID) : placeK keyJ l y ≤ l.length := by
 rw [placeK_map]
 exact Nat.le_trans (place_le _ _) (by simp)
theorem putJ_any (B : Nat) (v : Sl) (l : List XID) (x : XID) (w : World) (ho : Own EJ w B (slv v) l) (hr : RiseK keyJ l) (hl : l.length ≤ 900) (hB : B ≤ w.heap.size) :
  Calls Tryz.prog 86 #[slv v,idv x,.func (.func 39) #[] #[]] w fun e w' => (∃ v' : Sl,e = .returned (slv v') ∧ Own EJ w' B (slv v') (insAt l (placeK keyJ l (keyJ x)) x)) ∧ Below B w w' ∧ (∀ j,j < w.heap.size → some j ≠ (slv v).ownBlock → w'.heap[j]? = w.heap[j]?) := by
 have h0 := newB w (.cells #[.int .i64 x.1,.int .i64 x.2] 38)
 have X := box_new w #[.int .i64 x.1,.int .i64 x.2] 38
 have C := Lib.hid (bsJ_any (slv v) l x _ ((Row.of_own ho).on h0) hr hl)
 obtain ⟨ks,hks⟩ : ∃ k,k = placeK keyJ l (keyJ x) := ⟨_,rfl⟩
 have KL : ks ≤ l.length := by rw [hks]; exact place_leJ _ _
 rw [← hks] at C
 rw [← hks]
 generalize thereK keyJ l (keyJ x) = th at *
 have OW := Lib.hid (Bk.own_on ho h0)
 have HV := Lib.hid (show (slv v).ownBlock ≠ none → ∃ g,(slv v).ownBlock = some g ∧ g < w.heap.size from fun hne => by
  cases hb : (slv v).ownBlock with
  | none => exact absurd hb hne
  | some g => exact ⟨g,rfl,(ho.lt g hb).2⟩)
 have B0 := Lib.hid ((Below.refl B w).alloc hB (.cells #[.int .i64 x.1,.int .i64 x.2] 38))
 have BN0 := Lib.hid h0
 have KK := Lib.hid KL
 have LL := Lib.hid hl
 have BB := Lib.hid hB
 clear h0 ho hr hl hB hks KL
 obtain ⟨c1,c2⟩ := x
 obtain ⟨vo,vn,vc⟩ := v
 simp only at C X
 obtain ⟨x0,x1⟩ := X.cs2
 have XX := Lib.hid X
 clear X
 go_enter Tryz.func86,Tryz.ntmps86
 go_wp2_with fail
 have W1 := Lib.hid (show w.heap.size ≤ (w.alloc (.cells #[.int .i64 c1,.int .i64 c2] 38)).heap.size by simp)
 generalize w.alloc (.cells #[.int .i64 c1,.int .i64 c2] 38) = W at *
 refine C.out.mono ?_
 rintro e w1 ⟨rfl,hb⟩
 have Y := XX.out.on hb
 obtain ⟨y0,y1⟩ := Y.cs2
 have O1 := Lib.hid (Bk.own_on OW.out hb)
 have B1 := Lib.hid (B0.out.trans (hb.mono (Nat.le_trans BB.out W1.out)))
 have BW := Lib.hid (fun j (hj : j < w.heap.size) => (hb.block j (Nat.lt_of_lt_of_le hj W1.out)).trans (BN0.out.block j hj))
 have S1 := Lib.hid (Nat.le_trans W1.out hb.size)
 clear C Y hb x0 x1
 go_wp2_with fail
 have hl := LL.out
 have NB := newB w1 (.cells #[.int .i64 c1,.int .i64 c2] 38)
 refine (insert_anyJ B _ l ks (c1,c2) w1.heap.size _ (Bk.own_on O1.out NB) (box_new w1 #[.int .i64 c1,.int .i64 c2] 38) ?_ KK.out (by omega) (Nat.le_trans (Nat.le_trans BB.out S1.out) NB.size)).mono ?_
 ·intro he
  obtain ⟨g,hg,hlt⟩ := HV.out (by rw [he]; simp)
  rw [he] at hg
  have := Option.some.inj hg
  have := S1.out
  omega
 rintro e w2 ⟨v',rfl,ho,hb,hoth⟩
 obtain ⟨a1,a2,hv⟩ := (Row.of_own ho).len
 have Q := Lib.hid (show (∃ v'' : Sl,Ending.returned v' = .returned (slv v'') ∧ Own EJ w2 B (slv v'') (insAt l ks (c1,c2))) ∧ Below B w w2 ∧ (∀ j,j < w.heap.size → some j ≠ (slv (vo,vn,vc)).ownBlock → w2.heap[j]? = w.heap[j]?) from ⟨⟨(a1,_,a2),by rw [hv],by subst hv; simpa [insAt] using ho⟩,(B1.out.trans (NB.mono (Nat.le_trans BB.out S1.out))).trans hb,fun j hj hne => (hoth j (Nat.lt_of_lt_of_le (Nat.lt_of_lt_of_le hj S1.out) NB.size) hne).trans ((NB.block j (Nat.lt_of_lt_of_le hj S1.out)).trans (BW.out j hj))⟩)
 clear ho hb hv hl NB
 go_wp2
 go_ret
 exact Q.out
theorem place_leD (l : List XAd) (y : XID) : placeK keyD l y ≤ l.length := by
 rw [placeK_map]
 exact Nat.le_trans (place_le _ _) (by simp)
theorem putD_any (B : Nat) (v : Sl) (l : List XAd) (x : XAd) (w : World) (ho : Own ED w B (slv v) l) (hr : RiseK keyD l) (hl : l.length ≤ 900) (hB : B ≤ w.heap.size) :
  Calls Tryz.prog 84 #[slv v,valD x,.func (.func 41) #[] #[]] w fun e w' => (∃ v' : Sl,e = .returned (slv v') ∧ Own ED w' B (slv v') (insAt l (placeK keyD l (keyD x)) x)) ∧ Below B w w' ∧ (∀ j,j < w.heap.size → some j ≠ (slv v).ownBlock → w'.heap[j]? = w.heap[j]?) := by
 have h0 := newB w (.cells #[.int .i64 x.1,.int .i64 x.2.1,slv x.2.2.1,.int .i64 x.2.2.2] 41)
 have X := box_new w #[.int .i64 x.1,.int .i64 x.2.1,slv x.2.2.1,.int .i64 x.2.2.2] 41
 have C := Lib.hid (bsD_any (slv v) l x _ ((Row.of_own ho).on h0) hr hl)
 obtain ⟨ks,hks⟩ : ∃ k,k = placeK keyD l (keyD x) := ⟨_,rfl⟩
 have KL : ks ≤ l.length := by rw [hks]; exact place_leD _ _
 have e1 : keyD x = (x.1,x.2.1) := rfl
 rw [← e1] at C
 rw [← hks] at C
 rw [← hks]
 generalize thereK keyD l (keyD x) = th at *
 have OW := Lib.hid (Bk.own_on ho h0)
 have HV := Lib.hid (show (slv v).ownBlock ≠ none → ∃ g,(slv v).ownBlock = some g ∧ g < w.heap.size from fun hne => by
  cases hb : (slv v).ownBlock with
  | none => exact absurd hb hne
  | some g => exact ⟨g,rfl,(ho.lt g hb).2⟩)
 have B0 := Lib.hid ((Below.refl B w).alloc hB (.cells #[.int .i64 x.1,.int .i64 x.2.1,slv x.2.2.1,.int .i64 x.2.2.2] 41))
 have BN0 := Lib.hid h0
 have KK := Lib.hid KL
 have LL := Lib.hid hl
 have BB := Lib.hid hB
 clear h0 ho hr hl hB hks KL
 obtain ⟨c1,c2,⟨c3,c4,c5⟩,c6⟩ := x
 obtain ⟨vo,vn,vc⟩ := v
 simp only at C X
 obtain ⟨x0,x1,x2,x3⟩ := X.cs4
 have XX := Lib.hid X
 clear X
 go_enter Tryz.func84,Tryz.ntmps84
 go_wp2_with fail
 have W1 := Lib.hid (show w.heap.size ≤ (w.alloc (.cells #[.int .i64 c1,.int .i64 c2,.slice c3 c4 c5,.int .i64 c6] 41)).heap.size by simp)
 generalize w.alloc (.cells #[.int .i64 c1,.int .i64 c2,.slice c3 c4 c5,.int .i64 c6] 41) = W at *
 refine C.out.mono ?_
 rintro e w1 ⟨rfl,hb⟩
 have Y := XX.out.on hb
 obtain ⟨y0,y1,y2,y3⟩ := Y.cs4
 have O1 := Lib.hid (Bk.own_on OW.out hb)
 have B1 := Lib.hid (B0.out.trans (hb.mono (Nat.le_trans BB.out W1.out)))
 have BW := Lib.hid (fun j (hj : j < w.heap.size) => (hb.block j (Nat.lt_of_lt_of_le hj W1.out)).trans (BN0.out.block j hj))
 have S1 := Lib.hid (Nat.le_trans W1.out hb.size)
 clear C Y hb x0 x1 x2 x3
 go_wp2_with fail
 have hl := LL.out
 have NB := newB w1 (.cells #[.int .i64 c1,.int .i64 c2,.slice c3 c4 c5,.int .i64 c6] 41)
 refine (insert_anyD B _ l ks (c1,c2,(c3,c4,c5),c6) w1.heap.size _ (Bk.own_on O1.out NB) (box_new w1 #[.int .i64 c1,.int .i64 c2,.slice c3 c4 c5,.int .i64 c6] 41) ?_ KK.out (by omega) (Nat.le_trans (Nat.le_trans BB.out S1.out) NB.size)).mono ?_
 ·intro he
  obtain ⟨g,hg,hlt⟩ := HV.out (by rw [he]; simp)
  rw [he] at hg
  have := Option.some.inj hg
  have := S1.out
  omega
 rintro e w2 ⟨v',rfl,ho,hb,hoth⟩
 obtain ⟨a1,a2,hv⟩ := (Row.of_own ho).len
 have Q := Lib.hid (show (∃ v'' : Sl,Ending.returned v' = .returned (slv v'') ∧ Own ED w2 B (slv v'') (insAt l ks (c1,c2,(c3,c4,c5),c6))) ∧ Below B w w2 ∧ (∀ j,j < w.heap.size → some j ≠ (slv (vo,vn,vc)).ownBlock → w2.heap[j]? = w.heap[j]?) from ⟨⟨(a1,_,a2),by rw [hv],by subst hv; simpa [insAt] using ho⟩,(B1.out.trans (NB.mono (Nat.le_trans BB.out S1.out))).trans hb,fun j hj hne => (hoth j (Nat.lt_of_lt_of_le (Nat.lt_of_lt_of_le hj S1.out) NB.size) hne).trans ((NB.block j (Nat.lt_of_lt_of_le hj S1.out)).trans (BW.out j hj))⟩)
 clear ho hb hv hl NB
 go_wp2
 go_ret
 exact Q.out
def Off (ob : Option Nat) (W x : World) : Prop := (∀ j,j < W.heap.size → some j ≠ ob → x.heap[j]? = W.heap[j]?) ∧ W.heap.size ≤ x.heap.size
def Tag (ob : Option Nat) (W : World) (t : TypeId) : Prop := ∀ g,ob = some g → ∃ d,Box W g d t
theorem tag_own {α : Type} {E : Ek α} {W : World} {B : Nat} {v : Value} {l : List α} (h : Own E W B v l) : Tag v.ownBlock W E.t := by
 intro g hg
 rcases own_open h with ⟨rfl,_⟩ | ⟨g',c',cur,rfl,_,h2,_⟩
 ·cases hg
 ·obtain rfl : g' = g := by simpa [Value.ownBlock] using hg
  exact ⟨cur,h2⟩
theorem Off.own {α : Type} {E : Ek α} {ob : Option Nat} {W x : World} {B : Nat} {v : Value} {l : List α} {t : TypeId} (h : Off ob W x) (ho : Own E W B v l) (hg : Tag ob W t) (hne : (E.t == t) = false) : Own E x B v l := by
 refine ⟨ho.1,?_⟩
 rcases ho.2 with h2 | ⟨g',cap,cur,h1,h2,h3,h4⟩
 ·exact Or.inl h2
 ·refine Or.inr ⟨g',cap,cur,h1,h2,?_,h4⟩
  rw [h.1 g' (lt_of_heap h3) fun e => by
   obtain ⟨d,hd⟩ := hg g' e.symm
   exact box_ne (show Box W g' cur E.t from h3) hd hne rfl]
  exact h3
theorem Off.box {ob : Option Nat} {W x : World} {b : Nat} {cs : Array Value} {s t : TypeId} (h : Off ob W x) (hb : Box W b cs s) (hg : Tag ob W t) (hne : (s == t) = false) : Box x b cs s := (h.1 b hb.lt fun e => by
 obtain ⟨d,hd⟩ := hg b e.symm
 exact box_ne hb hd hne rfl).trans hb
theorem PM.off {w0 wr x : World} {B : Nat} {v : Value} {p : List C5} {ob : Option Nat} {t : TypeId} (h : PM w0 B wr v p) (hb : Off ob wr x) (hg : Tag ob wr t) (hne : (47 == t) = false) : PM w0 B x v p := h.imp id fun h => hb.own h hg hne
theorem AdM.off {w0 wr x : World} {B : Nat} {y : XAd} {a : Ad} {ob : Option Nat} {t : TypeId} (h : AdM w0 B wr y a) (hb : Off ob wr x) (hg : Tag ob wr t) (hne : (47 == t) = false) : AdM w0 B x y a := ⟨h.1,h.2.1,h.2.2.off hb hg hne⟩
theorem EnM.off {w0 wr x : World} {B : Nat} {y : XEn} {a : En} {ob : Option Nat} {t : TypeId} (h : EnM w0 B wr y a) (hb : Off ob wr x) (hg : Tag ob wr t) (hne : (47 == t) = false) : EnM w0 B x y a := ⟨h.1,h.2.1,h.2.2.1,h.2.2.2.1,h.2.2.2.2.off hb hg hne⟩
theorem OwM.off {w0 wr x : World} {B : Nat} {y : XOw} {a : Ow} {ob : Option Nat} {t : TypeId} (h : OwM w0 B wr y a) (hb : Off ob wr x) (hg : Tag ob wr t) (hne : (47 == t) = false) : OwM w0 B x y a := ⟨h.1,h.2.off hb hg hne⟩
theorem Cp.offD {w0 wr x : World} {B : Nat} {b : Br} {nv av sv ev ov av' : Sl} {al : List Ad} (h : Cp w0 B wr b nv av sv ev ov) (hb : Off (slv av).ownBlock wr x) (hx : ∃ l,OwnD x B (slv av') l ∧ All2 (AdM w0 B x) l al) : Cp w0 B x { b with adv := al } nv av' sv ev ov := by
 obtain ⟨l0,hl0,_⟩ := h.adv
 have hg := tag_own hl0
 exact {
  near := hb.own h.near hg (by decide)
  seen := hb.own h.seen hg (by decide)
  adv := hx
  ent := by obtain ⟨l,h1,h2⟩ := h.ent; exact ⟨l,hb.own h1 hg (by decide),h2.mono fun _ _ h => h.off hb hg (by decide)⟩
  own := by obtain ⟨l,h1,h2⟩ := h.own; exact ⟨l,hb.own h1 hg (by decide),h2.mono fun _ _ h => h.off hb hg (by decide)⟩ }
theorem Cp.offN {w0 wr x : World} {B : Nat} {b : Br} {nv av sv ev ov ev' : Sl} {el : List En} (h : Cp w0 B wr b nv av sv ev ov) (hb : Off (slv ev).ownBlock wr x) (hx : ∃ l,OwnN x B (slv ev') l ∧ All2 (EnM w0 B x) l el) : Cp w0 B x { b with ent := el } nv av sv ev' ov := by
 obtain ⟨l0,hl0,_⟩ := h.ent
 have hg := tag_own hl0
 exact {
  near := hb.own h.near hg (by decide)
  seen := hb.own h.seen hg (by decide)
  adv := by obtain ⟨l,h1,h2⟩ := h.adv; exact ⟨l,hb.own h1 hg (by decide),h2.mono fun _ _ h => h.off hb hg (by decide)⟩
  ent := hx
  own := by obtain ⟨l,h1,h2⟩ := h.own; exact ⟨l,hb.own h1 hg (by decide),h2.mono fun _ _ h => h.off hb hg (by decide)⟩ }
theorem Cp.offJ {w0 wr x : World} {B : Nat} {b : Br} {nv av sv ev ov sv' : Sl} {sl : List XID} (h : Cp w0 B wr b nv av sv ev ov) (hb : Off (slv sv).ownBlock wr x) (hx : OwnJ x B (slv sv') sl) : Cp w0 B x { b with seen := sl } nv av sv' ev ov := by
 have hg := tag_own h.seen
 exact {
  near := hb.own h.near hg (by decide)
  seen := hx
  adv := by obtain ⟨l,h1,h2⟩ := h.adv; exact ⟨l,hb.own h1 hg (by decide),h2.mono fun _ _ h => h.off hb hg (by decide)⟩
  ent := by obtain ⟨l,h1,h2⟩ := h.ent; exact ⟨l,hb.own h1 hg (by decide),h2.mono fun _ _ h => h.off hb hg (by decide)⟩
  own := by obtain ⟨l,h1,h2⟩ := h.own; exact ⟨l,hb.own h1 hg (by decide),h2.mono fun _ _ h => h.off hb hg (by decide)⟩ }
theorem all2_ins {α β : Type} {R : α → β → Prop} {l : List α} {m : List β} (h : All2 R l m) (k : Nat) {a : α} {b : β} (hr : R a b) : All2 R (insAt l k a) (insAt m k b) :=
 ((h.take k).append (.cons hr .nil)).append (h.drop k)
theorem keys_eq {w0 wr : World} {B : Nat} : ∀ {l : List XAd} {al : List Ad},All2 (AdM w0 B wr) l al → l.map keyD = al.map Ad.id
 | _,_,.nil => rfl
 | _,_,.cons h t => by rw [List.map_cons,List.map_cons,keys_eq t]; exact congrArg (· :: _) h.1
theorem riseK_map {α : Type} (key : α → XID) (l : List α) : RiseK key l ↔ RiseK (fun x : XID => x) (l.map key) := by
 unfold RiseK
 rw [List.pairwise_map]
def lrn4V (B : Nat) (b1 _b2 : Nat) (_me : Int) (_z1 : Value) (o2 : Option Addr) (n2 c2 : Nat) (_z3 _z4 _z5 : Value) (y1 y2 : Int) (yo : Option Addr) (yn yc : Nat) (y4 : Int) (p : List C5) (i : Nat) (v : Value) (x : World) : Prop :=
 match i with
 | 0 => v = .pointer (some ⟨b1,2,none⟩)
 | 1 => v = .slice o2 n2 c2
 | 2 => v = .agg #[.int .i64 y1,.int .i64 y2,.slice yo yn yc,.int .i64 y4]
 | 3 => ∃ s : Sl,v = valD (y1,y2,s,y4) ∧ OwnC x B (slv s) p
 | _ => True
noncomputable def lrn4C : Code := ((Tryz.f21.body.bind (findRegion 4)).getD .skip)
theorem lrn4V_on (B : Nat) (b1 b2 : Nat) (me : Int) (z1 : Value) (o2 : Option Addr) (n2 c2 : Nat) (z3 z4 z5 : Value) (y1 y2 : Int) (yo : Option Addr) (yn yc : Nat) (y4 : Int) (p : List C5) (i : Nat) (v : Value) (x x' : World) (h : lrn4V B b1 b2 me z1 o2 n2 c2 z3 z4 z5 y1 y2 yo yn yc y4 p i v x) (hb : Below x.heap.size x x') : lrn4V B b1 b2 me z1 o2 n2 c2 z3 z4 z5 y1 y2 yo yn yc y4 p i v x' := by
 by_cases hi : i < 4
 ·rcases (by omega : i = 0 ∨ i = 1 ∨ i = 2 ∨ i = 3) with rfl | rfl | rfl | rfl
  ·exact h
  ·exact h
  ·exact h
  ·obtain ⟨s,h1,h2⟩ := h; exact ⟨s,h1,Bk.own_on h2 hb⟩
 ·unfold lrn4V
  split <;> first | omega | trivial
theorem lrn4 (Q : Exit → Act → World → Prop) (W : World) (B0 : Nat) (l : List XAd) (b1 b2 : Nat) (me : Int) (z1 : Value) (o2 : Option Addr) (n2 c2 : Nat) (z3 z4 z5 : Value) (y1 y2 : Int) (yo : Option Addr) (yn yc : Nat) (y4 : Int) (p : List C5) (u0 u1 u4 u5 u6 u7 u8 u9 u10 u11 u12 u13 u14 u15 u16 u17 u18 u19 u20 u21 u22 u23 u24 u25 : Value)
  (h1 : Box W b1 #[.int .i64 me,z1,.slice o2 n2 c2,z3,z4,z5] 31) (h2 : Box W b2 #[.int .i64 y1,.int .i64 y2,.slice yo yn yc,.int .i64 y4] 41) (ho : OwnD W B0 (.slice o2 n2 c2) l) (hr : RiseK keyD l) (hl : l.length ≤ 900) (hB : B0 ≤ W.heap.size) (hb0 : b1 < B0) (hp : RowC W (.slice yo yn yc) p) (lp : p.length ≤ 900)
  (hQ : ∀ (w1 : World) (v13 v14 v15 v16 v17 v18 : Value) (s1 : Option Addr) (s2 s3 : Nat) (t1 : Option Addr) (t2 t3 : Nat),Box w1 b1 #[.int .i64 me,z1,.slice o2 n2 c2,z3,z4,z5] 31 → OwnD w1 B0 (.slice t1 t2 t3) (insAt l (placeK keyD l (y1,y2)) (y1,y2,(s1,s2,s3),y4)) → OwnC w1 W.heap.size (.slice s1 s2 s3) p → Off (slv (o2,n2,c2)).ownBlock W w1 → Below B0 W w1 → Q .normal ⟨(u0 :: u1 :: .pointer (some ⟨b1,0,none⟩) :: .pointer (some ⟨b2,0,none⟩) :: u4 :: u5 :: u6 :: u7 :: u8 :: u9 :: u10 :: u11 :: u12 :: v13 :: v14 :: v15 :: v16 :: v17 :: v18 :: u19 :: u20 :: u21 :: u22 :: u23 :: u24 :: u25 :: []).toArray,[]⟩ (w1.setCell ⟨b1,2,none⟩ (.slice t1 t2 t3))) :
  Code.wp Tryz.prog lrn4C Q ⟨(u0 :: u1 :: .pointer (some ⟨b1,0,none⟩) :: .pointer (some ⟨b2,0,none⟩) :: u4 :: u5 :: u6 :: u7 :: u8 :: u9 :: u10 :: u11 :: u12 :: u13 :: u14 :: u15 :: u16 :: u17 :: u18 :: u19 :: u20 :: u21 :: u22 :: u23 :: u24 :: u25 :: []).toArray,[]⟩ W := by
 have HQ := Lib.hid hQ
 have H1 := Lib.hid h1
 have H2 := Lib.hid h2
 have HO := Lib.hid ho
 have HR := Lib.hid hr
 have HL := Lib.hid hl
 have HB := Lib.hid hB
 have H0 := Lib.hid hb0
 have HP := Lib.hid hp
 have LP := Lib.hid lp
 clear hQ h1 h2 ho hr hl hB hb0 hp lp
 have stab := lrn4V_on W.heap.size b1 b2 me z1 o2 n2 c2 z3 z4 z5 y1 y2 yo yn yc y4 p
 unfold lrn4C
 conv => arg 2; whnf
 have nd : ∀ j,(j < 13 ∨ 17 ≤ j) → ∀ i,i < 4 → (fun i => 13 + i) i ≠ j := by
  intro j hj i hi h
  simp only at h
  omega
 refine Rg.region_live 7 4 (fun i => 13 + i) (fun _ => 4) (lrn4V W.heap.size b1 b2 me z1 o2 n2 c2 z3 z4 z5 y1 y2 yo yn yc y4 p) (by kernel_rfl) (by kernel_rfl) rfl (by decide) (fun i j _ _ h => by have h2 : 13 + i = 13 + j := h; omega) (fun i hi => by show 13 + i < 26; omega) ?_ (fun _ => Rg.hall_of 14 (by kernel_rfl)) ?_ ?_
 ·intro i o hi ho a x D hnd hc hD hb seen K hK
  clear HQ
  rcases (by omega : i = 0 ∨ i = 1 ∨ i = 2 ∨ i = 3) with rfl | rfl | rfl | rfl
  ·obtain rfl := Option.some.inj ho
   have e2 : a.eval (.tmp 2) = .pointer (some ⟨b1,0,none⟩) := seen.kp 2 _ (nd 2 (by omega)) rfl
   exact Rg.op_value rfl rfl (Rg.ex_field a.eval _ 31 (.tmp 2) 2 rfl (by rw [e2]; simp [go_sem])) (hK _ _ rfl (Below.refl _ _) fun _ _ _ _ _ _ _ h => h)
  ·obtain rfl := Option.some.inj ho
   have e13 : a.eval (.tmp 13) = .pointer (some ⟨b1,2,none⟩) := seen.at_ ⟨0,.data⟩ (by simp) rfl (Or.inr (by decide))
   have y2 := (H1.out.on hb).cell 2
   simp only [List.getElem?_toArray,List.getElem?_cons_zero,List.getElem?_cons_succ] at y2
   exact Rg.op_value rfl rfl (Rg.ex_load a.eval _ 26 (.tmp 13) rfl (by rw [e13]; simp [go_sem,y2])) (hK _ _ rfl (Below.refl _ _) fun _ _ _ _ _ _ _ h => h)
  ·obtain rfl := Option.some.inj ho
   have e3 : a.eval (.tmp 3) = .pointer (some ⟨b2,0,none⟩) := seen.kp 3 _ (nd 3 (by omega)) rfl
   obtain ⟨y0,y1,y2,y3⟩ := (H2.out.on hb).cs4
   exact Rg.op_value rfl rfl (Rg.ex_load a.eval _ 41 (.tmp 3) rfl (by rw [e3]; simp [go_sem,y0,y1,y2,y3])) (hK _ _ rfl (Below.refl _ _) fun _ _ _ _ _ _ _ h => h)
  ·obtain rfl := Option.some.inj ho
   have e15 : a.eval (.tmp 15) = .agg #[.int .i64 y1,.int .i64 y2,.slice yo yn yc,.int .i64 y4] := seen.at_ ⟨2,.data⟩ (by simp) rfl (Or.inr (by decide))
   exact Rg.op_call rfl rfl (Rw.ex_call1 a.eval _ (.tmp 15) 41 85 rfl e15 rfl _ (call_fn Tryz.func85 rfl rfl _ _)) (cpAd_any (y1,y2,(yo,yn,yc),y4) p x (HP.out.on hb) LP.out) fun e w1 h => by
    obtain ⟨⟨s,rfl,h1⟩,h3⟩ := h
    exact ⟨_,rfl,hK _ _ ⟨s,rfl,own_fewer h1 hb.size⟩ (h3.mono hb.size) fun j u hj _ _ _ hne h => stab j u _ _ h h3⟩
 ·intro kk o h1 h2 ho
  rcases (by omega : kk = 5 ∨ kk = 6) with rfl | rfl
  ·obtain rfl := Option.some.inj ho
   exact ⟨⟨4,.phase⟩,by simp,rfl,rfl⟩
  ·obtain rfl := Option.some.inj ho
   exact ⟨⟨5,.data⟩,by simp,rfl,rfl⟩
 ·intro a w' df sz kp ⟨vs,hv⟩ hb
  have sz' : a.tmps.size = 26 := sz
  have g2 : a.tmps[2]? = some (.pointer (some ⟨b1,0,none⟩)) := (kp 2 (nd 2 (by omega))).trans rfl
  have g14 : a.tmps[14]? = some (.slice o2 n2 c2) := by
   have h : vs 1 = .slice o2 n2 c2 := (hv 1 (by omega)).2 (by decide)
   rw [← h]
   exact (hv 1 (by omega)).1
  obtain ⟨⟨s1,s2,s3⟩,hs,hc⟩ := (hv 3 (by omega)).2 (by decide)
  have g16 : a.tmps[16]? = some (valD (y1,y2,(s1,s2,s3),y4)) := ((hv 3 (by omega)).1).trans (congrArg some hs)
  have B1 := H1.out.on hb
  show Rg.SeqFrom _ _ _ 3 4 a w'
  simp only [Rg.SeqFrom]
  refine Rg.op_call rfl rfl (ex_call3g a.eval _ (.tmp 14) (.tmp 16) (.func 41) 26 41 91 84 rfl (Rg.eval_some g14) (Rg.eval_some g16) rfl rfl _ (call_fn Tryz.func84 rfl rfl _ _)) (putD_any B0 (o2,n2,c2) l (y1,y2,(s1,s2,s3),y4) w' (Bk.own_on HO.out hb) HR.out HL.out (Nat.le_trans HB.out hb.size)) fun e w1 h => ?_
  obtain ⟨⟨⟨t1,t2,t3⟩,rfl,hown⟩,hbel,hoth⟩ := h
  refine ⟨_,rfl,?_⟩
  have hp17 : (a.put (some 17) (.slice t1 t2 t3)).tmps[17]? = some (.slice t1 t2 t3) := by simp [Act.put,sz']
  show Go.wpOp _ _ _ 5 _ (a.put (some 17) (.slice t1 t2 t3)) _
  refine Rg.op_value rfl rfl (Rg.ex_field _ _ 31 (.tmp 2) 2 rfl (v := .pointer (some ⟨b1,2,none⟩)) (by rw [Rg.eval_some ((Rg.get_put _ 17 _ 2 (by decide)).trans g2)]; simp [go_sem])) ?_
  have hp18 : ((a.put (some 17) (.slice t1 t2 t3)).put (some 18) (.pointer (some ⟨b1,2,none⟩))).tmps[18]? = some (.pointer (some ⟨b1,2,none⟩)) := by simp [Act.put,sz']
  show Go.wpOp _ _ _ 6 _ ((a.put (some 17) (.slice t1 t2 t3)).put (some 18) (.pointer (some ⟨b1,2,none⟩))) _
  have B2 : Box w1 b1 _ _ := (hbel.block b1 H0.out).trans B1
  have cx := B2.cell 2
  have fx := B2.fr 2
  simp only [List.getElem?_toArray,List.getElem?_cons_zero,List.getElem?_cons_succ] at cx
  refine Rg.op_store 26 (.tmp 18) (.tmp 17) rfl rfl rfl rfl (Rg.eval_some hp18) (Rg.eval_some ((Rg.get_put _ 18 _ 17 (by decide)).trans hp17)) (w' := w1.setCell ⟨b1,2,none⟩ (.slice t1 t2 t3)) (by simp [go_sem,cx,fx]) ?_
  have of1 : Off (slv (o2,n2,c2)).ownBlock w' w1 := ⟨hoth,hbel.size⟩
  have of2 : Off (slv (o2,n2,c2)).ownBlock W w1 := ⟨fun j hj hne => (hoth j (Nat.lt_of_lt_of_le hj hb.size) hne).trans (hb.block j hj),Nat.le_trans hb.size hbel.size⟩
  have kp2 : ∀ j,(j < 13 ∨ 19 ≤ j) → ((a.put (some 17) (.slice t1 t2 t3)).put (some 18) (.pointer (some ⟨b1,2,none⟩))).tmps[j]? = (u0 :: u1 :: .pointer (some ⟨b1,0,none⟩) :: .pointer (some ⟨b2,0,none⟩) :: u4 :: u5 :: u6 :: u7 :: u8 :: u9 :: u10 :: u11 :: u12 :: u13 :: u14 :: u15 :: u16 :: u17 :: u18 :: u19 :: u20 :: u21 :: u22 :: u23 :: u24 :: u25 :: [])[j]? := fun j hj => (Rg.get_put _ 18 _ j (by omega)).trans ((Rg.get_put _ 17 _ j (by omega)).trans ((kp j (nd j (by omega))).trans List.getElem?_toArray))
  obtain ⟨mid,hmid,hfr⟩ := Rg.frame_mid (a := (a.put (some 17) (.slice t1 t2 t3)).put (some 18) (.pointer (some ⟨b1,2,none⟩))) 13 6 df (by simp [Rg.size_put,sz']) (by simp) kp2
  show Q .normal ((a.put (some 17) (.slice t1 t2 t3)).put (some 18) (.pointer (some ⟨b1,2,none⟩))) _
  rw [hfr]
  match mid,hmid with
  | [v13,v14,v15,v16,v17,v18],_ =>
   exact HQ.out w1 _ _ _ _ _ _ s1 s2 s3 t1 t2 t3 B2 hown (of1.own hc (tag_own (Bk.own_on HO.out hb)) (by decide)) of2 ((hb.mono HB.out).trans hbel)
abbrev RiseA (l : List Ad) : Prop := RiseK Ad.id l
abbrev RiseI (l : List XID) : Prop := RiseK (fun x : XID => x) l
def NearOwn (W : World) (nv : Sl) (l : List Int) : Prop := ∃ B,OwnI W B (slv nv) l
theorem NearOwn.on {W W' : World} {nv : Sl} {l : List Int} (h : NearOwn W nv l) (hb : Below W.heap.size W W') : NearOwn W' nv l := by obtain ⟨B,h⟩ := h; exact ⟨B,Bk.own_on h hb⟩
def LearnQ (W : World) (P : Prop) (r : Br × Bool) (e : Ending) (w' : World) : Prop := (∃ nv av sv ev ov : Sl,e = .returned (.tuple #[brv r.1.me nv av sv ev ov,.bool r.2]) ∧ BrIn w' r.1 nv av sv ev ov ∧ (P → NearOwn w' nv r.1.near)) ∧ Below W.heap.size W w'
theorem learnB_in {b : Br} {a : Ad} (h : a.id ∈ b.seen) : learnB b a = (b,false) := by unfold learnB; rw [if_pos h]
theorem learnB_out {b : Br} {a : Ad} (h : ¬ a.id ∈ b.seen) : learnB b a = ({ b with seen := insAt b.seen (placeI b.seen a.id) a.id,adv := insAt b.adv (placeI (b.adv.map Ad.id) a.id) a },true) := by unfold learnB; rw [if_neg h]
theorem learn_any (b : Br) (a : Ad) (nv av sv ev ov : Sl) (x : XAd) (w : World) (h : BrIn w b nv av sv ev ov) (ha : AdIn w x a) (hf : Few b) (hp : FewP b) (hla : a.p.length ≤ 900) (hr1 : RiseI b.seen) (hr2 : RiseA b.adv) :
  Calls Tryz.prog 21 #[brv b.me nv av sv ev ov,valD x] w (LearnQ w (NearOwn w nv b.near) (learnB b a)) := by
 obtain ⟨no,nn,nc⟩ := nv
 obtain ⟨ao,an,ac⟩ := av
 obtain ⟨so,sn,sc⟩ := sv
 obtain ⟨eo,en,ec⟩ := ev
 obtain ⟨oo,on_,oc⟩ := ov
 obtain ⟨y1,y2,⟨yo,yn,yc⟩,y4⟩ := x
 obtain ⟨h0,h1,h2⟩ := two_new w #[.int .i64 b.me,.slice no nn nc,.slice ao an ac,.slice so sn sc,.slice eo en ec,.slice oo on_ oc] #[.int .i64 y1,.int .i64 y2,.slice yo yn yc,.int .i64 y4] 31 41
 have h3 := newB ((w.alloc (.cells #[.int .i64 b.me,.slice no nn nc,.slice ao an ac,.slice so sn sc,.slice eo en ec,.slice oo on_ oc] 31)).alloc (.cells #[.int .i64 y1,.int .i64 y2,.slice yo yn yc,.int .i64 y4] 41)) (.cells #[.int .i64 0,.slice none 0 0,.slice none 0 0,.slice none 0 0,.slice none 0 0,.slice none 0 0] 31)
 have h4 := box_new ((w.alloc (.cells #[.int .i64 b.me,.slice no nn nc,.slice ao an ac,.slice so sn sc,.slice eo en ec,.slice oo on_ oc] 31)).alloc (.cells #[.int .i64 y1,.int .i64 y2,.slice yo yn yc,.int .i64 y4] 41)) #[.int .i64 0,.slice none 0 0,.slice none 0 0,.slice none 0 0,.slice none 0 0,.slice none 0 0] 31
 have hsz : ((w.alloc (.cells #[.int .i64 b.me,.slice no nn nc,.slice ao an ac,.slice so sn sc,.slice eo en ec,.slice oo on_ oc] 31)).alloc (.cells #[.int .i64 y1,.int .i64 y2,.slice yo yn yc,.int .i64 y4] 41)).heap.size = w.heap.size + 1 + 1 := by simp
 rw [hsz] at h4
 have BB := Lib.hid (h0.trans (h3.mono h0.size))
 have X1 := Lib.hid (h1.on h3)
 have X2 := Lib.hid (h2.on h3)
 have X3 := Lib.hid h4
 have HH := Lib.hid h
 have HA := Lib.hid ha
 have HF := Lib.hid hf
 have HP := Lib.hid hp
 have LA := Lib.hid hla
 have R1 := Lib.hid hr1
 have R2 := Lib.hid hr2
 have ei : a.id = (y1,y2) := ha.1.symm
 have SW := Lib.hid (aseen_any b.me (.slice no nn nc) (.slice ao an ac) (.slice eo en ec) (.slice oo on_ oc) (so,sn,sc) b.seen (y1,y2) _ (h.seen.on BB.out))
 obtain ⟨r,hr⟩ : ∃ r,decide ((y1,y2) ∈ b.seen) = r := ⟨_,rfl⟩
 rw [hr] at SW
 have HR := Lib.hid hr
 have EI := Lib.hid ei
 obtain ⟨x0,x1,x2,x3,x4,x5⟩ := X1.out.cs6
 obtain ⟨d0,d1,d2,d3⟩ := X2.out.cs4
 obtain ⟨z0,z1,z2,z3,z4,z5⟩ := X3.out.cs6
 obtain ⟨t0,t1,t2,t3,t4,t5⟩ := X3.out.fs6
 have zz := X3.out.lt
 clear h0 h1 h2 h3 h4 hsz h ha hf hp hla hr1 hr2 hr ei
 go_enter Tryz.func21,Tryz.ntmps21
 go_wp2_with fail
 generalize ((w.alloc (.cells #[.int .i64 b.me,.slice no nn nc,.slice ao an ac,.slice so sn sc,.slice eo en ec,.slice oo on_ oc] 31)).alloc (.cells #[.int .i64 y1,.int .i64 y2,.slice yo yn yc,.int .i64 y4] 41)).alloc (.cells #[.int .i64 0,.slice none 0 0,.slice none 0 0,.slice none 0 0,.slice none 0 0,.slice none 0 0] 31) = W at *
 refine SW.out.mono ?_
 rintro e1 w1 ⟨rfl,hb⟩
 have B1 := Lib.hid (BB.out.trans (hb.mono BB.out.size))
 have Y1 := X1.out.on hb
 have Y2 := X2.out.on hb
 have Y3 := X3.out.on hb
 clear SW hb x0 x1 x2 x3 x4 x5 d0 d1 d2 d3 z0 z1 z2 z3 z4 z5 t0 t1 t2 t3 t4 t5 zz X1 X2 X3
 obtain ⟨x0,x1,x2,x3,x4,x5⟩ := Y1.cs6
 obtain ⟨z0,z1,z2,z3,z4,z5⟩ := Y3.cs6
 obtain ⟨t0,t1,t2,t3,t4,t5⟩ := Y3.fs6
 have zz := Y3.lt
 cases r
 ·have nin : ¬ a.id ∈ b.seen := by rw [EI.out]; exact of_decide_eq_false HR.out
  have LQ := Lib.hid (learnB_out nin)
  have Z1 := Lib.hid Y1
  have Z2 := Lib.hid Y2
  have Z3 := Lib.hid Y3
  have L1 := Lib.hid Y1.lt
  have L3 := Lib.hid (show w.heap.size + 1 < w1.heap.size from Y2.lt)
  clear z0 z1 z2 z3 z4 z5 t0 t1 t2 t3 t4 t5 zz nin
  go_wp2_with fail
  refine (acopy_any b (no,nn,nc) (ao,an,ac) (so,sn,sc) (eo,en,ec) (oo,on_,oc) w w1 B1.out HH.out HF.out HP.out).mono ?_
  rintro e2 w2 ⟨⟨⟨p1,q1,s1⟩,⟨p2,q2,s2⟩,⟨p3,q3,s3⟩,⟨p4,q4,s4⟩,⟨p5,q5,s5⟩,rfl,cp⟩,hb2⟩
  have V1 := Z1.out.on hb2
  have V2 := Lib.hid (Z2.out.on hb2)
  have V3 := Lib.hid (Z3.out.on hb2)
  clear x0 x1 x2 x3 x4 x5
  obtain ⟨x0,x1,x2,x3,x4,x5⟩ := V1.cs6
  obtain ⟨t0,t1,t2,t3,t4,t5⟩ := V1.fs6
  have zz := V1.lt
  have FB := Lib.hid (setB_box V1 (.int .i64 b.me) (.slice p1 q1 s1) (.slice p2 q2 s2) (.slice p3 q3 s3) (.slice p4 q4 s4) (.slice p5 q5 s5))
  have FC := Lib.hid (cp.but (but_setB w2 w.heap.size (.int .i64 b.me) (.slice p1 q1 s1) (.slice p2 q2 s2) (.slice p3 q3 s3) (.slice p4 q4 s4) (.slice p5 q5 s5)) V1)
  have FL := Lib.hid (setB_below (b := w.heap.size) (B1.out.trans (hb2.mono B1.out.size)) (Nat.le_refl _) (.int .i64 b.me) (.slice p1 q1 s1) (.slice p2 q2 s2) (.slice p3 q3 s3) (.slice p4 q4 s4) (.slice p5 q5 s5))
  have F2 := Lib.hid ((but_setB w2 w.heap.size (.int .i64 b.me) (.slice p1 q1 s1) (.slice p2 q2 s2) (.slice p3 q3 s3) (.slice p4 q4 s4) (.slice p5 q5 s5)).box V2.out (by omega))
  have F3 := Lib.hid ((but_setB w2 w.heap.size (.int .i64 b.me) (.slice p1 q1 s1) (.slice p2 q2 s2) (.slice p3 q3 s3) (.slice p4 q4 s4) (.slice p5 q5 s5)).box V3.out (by omega))
  have SZ := Lib.hid (show w1.heap.size ≤ (setB w2 w.heap.size (.int .i64 b.me) (.slice p1 q1 s1) (.slice p2 q2 s2) (.slice p3 q3 s3) (.slice p4 q4 s4) (.slice p5 q5 s5)).heap.size by have := hb2.size; simp; omega)
  have L2 := Lib.hid (show w.heap.size < w1.heap.size from L1.out)
  clear V1 V2 V3 cp hb2 Z1 Z2 Z3 L1
  go_upto_region 4 with fail
  clear x0 x1 x2 x3 x4 x5 t0 t1 t2 t3 t4 t5 zz
  unfold setB at FB FC FL F2 F3 SZ
  generalize ((((((w2).setCell ⟨w.heap.size,0,none⟩ (.int .i64 b.me)).setCell ⟨w.heap.size,1,none⟩ (.slice p1 q1 s1)).setCell ⟨w.heap.size,2,none⟩ (.slice p2 q2 s2)).setCell ⟨w.heap.size,3,none⟩ (.slice p3 q3 s3)).setCell ⟨w.heap.size,4,none⟩ (.slice p4 q4 s4)).setCell ⟨w.heap.size,5,none⟩ (.slice p5 q5 s5) = w3 at *
  obtain ⟨la,hla1,hla2⟩ := FC.out.adv
  have HL1 := Lib.hid hla1
  have HL2 := Lib.hid hla2
  have KE := Lib.hid (keys_eq hla2)
  clear hla1 hla2
  refine lrn4 _ w3 w1.heap.size la w.heap.size (w.heap.size + 1) b.me (.slice p1 q1 s1) p2 q2 s2 (.slice p3 q3 s3) (.slice p4 q4 s4) (.slice p5 q5 s5) y1 y2 yo yn yc y4 a.p _ _ _ _ _ _ _ _ _ _ _ _ _ _ _ _ _ _ _ _ _ _ _ _ FB.out F2.out HL1.out ?_ ?_ SZ.out L2.out (HA.out.2.2.on FL.out) LA.out ?_
  ·rw [riseK_map,KE.out,← riseK_map]; exact R2.out
  ·rw [HL2.out.len]; exact HF.out.adv
  intro w4 v13 v14 v15 v16 v17 v18 s1' s2' s3' t1 t2 t3 hbx hown hc hoff hbel
  have CP2 := Lib.hid (FC.out.offD (av' := (t1,t2,t3)) (al := insAt b.adv (placeI (b.adv.map Ad.id) a.id) a) hoff ⟨_,hown,by
   have hg := tag_own HL1.out
   have h2 := HL2.out.mono fun _ _ q => q.off hoff hg (by decide)
   have hk : placeK keyD la (y1,y2) = placeI (b.adv.map Ad.id) a.id := by rw [placeK_map,KE.out,EI.out]
   rw [← hk]
   exact all2_ins h2 _ ⟨HA.out.1,HA.out.2.1,Or.inr (own_fewer hc SZ.out)⟩⟩)
  have G2 := Lib.hid (show Box w4 (w.heap.size + 1) _ _ from (hbel.block _ L3.out).trans F2.out)
  have G3 := Lib.hid (show Box w4 (w.heap.size + 1 + 1) _ _ from hoff.box F3.out (tag_own HL1.out) (by decide))
  have G1 := Lib.hid (show Box (w4.setCell ⟨w.heap.size,2,none⟩ (.slice t1 t2 t3)) w.heap.size #[.int .i64 b.me,.slice p1 q1 s1,.slice t1 t2 t3,.slice p3 q3 s3,.slice p4 q4 s4,.slice p5 q5 s5] 31 by simpa using box_set (k := 2) hbx (.slice t1 t2 t3))
  have CP3 := Lib.hid (CP2.out.but (but_cell w4 w.heap.size 2 (.slice t1 t2 t3)) hbx)
  have G2' := Lib.hid ((but_cell w4 w.heap.size 2 (.slice t1 t2 t3)).box G2.out (by omega))
  have G3' := Lib.hid ((but_cell w4 w.heap.size 2 (.slice t1 t2 t3)).box G3.out (by omega))
  have GL := Lib.hid (show Below w.heap.size w (w4.setCell ⟨w.heap.size,2,none⟩ (.slice t1 t2 t3)) from (FL.out.trans (hbel.mono (Nat.le_of_lt L2.out))).setCell (p := ⟨w.heap.size,2,none⟩) (Nat.le_refl _) _)
  have GZ := Lib.hid (show w1.heap.size ≤ (w4.setCell ⟨w.heap.size,2,none⟩ (.slice t1 t2 t3)).heap.size by have := SZ.out; have := hbel.size; simp; omega)
  clear hbx hown hc hoff hbel CP2 G2 G3 FB FC F2 F3 FL SZ HL1 HL2 KE
  generalize w4.setCell ⟨w.heap.size,2,none⟩ (.slice t1 t2 t3) = w5 at *
  have x3 := G1.out.cell 3
  have d1 := G2'.out.cell 1
  have d0 := G2'.out.cell 0
  simp only [List.getElem?_toArray,List.getElem?_cons_zero,List.getElem?_cons_succ] at x3 d0 d1
  go_wp2_with fail
  refine (putJ_any w1.heap.size (p3,q3,s3) b.seen (y1,y2) w5 CP3.out.seen R1.out HF.out.seen GZ.out).mono ?_
  rintro e3 w6 ⟨⟨⟨r1,r2,r3⟩,rfl,hown⟩,hbel,hoth⟩
  have hoff : Off (slv (p3,q3,s3)).ownBlock w5 w6 := ⟨hoth,hbel.size⟩
  have CP4 := Lib.hid (CP3.out.offJ (sv' := (r1,r2,r3)) (sl := insAt b.seen (placeI b.seen a.id) a.id) hoff (by
   have hk : placeK keyJ b.seen (keyJ (y1,y2)) = placeI b.seen a.id := by rw [placeK_map,EI.out]; simp
   rw [← hk,EI.out]
   exact hown))
  have hg := tag_own CP3.out.seen
  have K1 := hoff.box G1.out hg (by decide)
  have K3 := hoff.box G3'.out hg (by decide)
  have KL := GL.out.trans (hbel.mono (Nat.le_of_lt L2.out))
  have M1 := Lib.hid (show Box (w6.setCell ⟨w.heap.size,3,none⟩ (.slice r1 r2 r3)) w.heap.size #[.int .i64 b.me,.slice p1 q1 s1,.slice t1 t2 t3,.slice r1 r2 r3,.slice p4 q4 s4,.slice p5 q5 s5] 31 by simpa using box_set (k := 3) K1 (.slice r1 r2 r3))
  have M3 := Lib.hid ((but_cell w6 w.heap.size 3 (.slice r1 r2 r3)).box K3 (by omega))
  have MC := Lib.hid (CP4.out.but (but_cell w6 w.heap.size 3 (.slice r1 r2 r3)) K1)
  have ML := Lib.hid (show Below w.heap.size w (w6.setCell ⟨w.heap.size,3,none⟩ (.slice r1 r2 r3)) from KL.setCell (p := ⟨w.heap.size,3,none⟩) (Nat.le_refl _) _)
  clear x3 d0 d1
  have x3 := K1.cell 3
  have t3 := K1.fr 3
  have zz := K1.lt
  simp only [List.getElem?_toArray,List.getElem?_cons_zero,List.getElem?_cons_succ] at x3
  clear hown hbel hoth hoff hg K1 K3 KL CP4 CP3 G1 G2' G3' GL GZ
  go_upto_region 6 with fail
  clear x3 t3 zz
  generalize w6.setCell ⟨w.heap.size,3,none⟩ (.slice r1 r2 r3) = w7 at *
  have U1 := M1.out
  have U3 := M3.out
  obtain ⟨x0,x1,x2,x3,x4,x5⟩ := U1.cs6
  obtain ⟨z0,z1,z2,z3,z4,z5⟩ := U3.cs6
  obtain ⟨f0,f1,f2,f3,f4,f5⟩ := U3.fs6
  have zz := U3.lt
  have FB := Lib.hid (setB_box U3 (.int .i64 b.me) (.slice p1 q1 s1) (.slice t1 t2 t3) (.slice r1 r2 r3) (.slice p4 q4 s4) (.slice p5 q5 s5))
  have FC := Lib.hid (MC.out.but (but_setB w7 (w.heap.size + 1 + 1) (.int .i64 b.me) (.slice p1 q1 s1) (.slice t1 t2 t3) (.slice r1 r2 r3) (.slice p4 q4 s4) (.slice p5 q5 s5)) U3)
  have FL := Lib.hid (setB_below (b := w.heap.size + 1 + 1) ML.out (by omega) (.int .i64 b.me) (.slice p1 q1 s1) (.slice t1 t2 t3) (.slice r1 r2 r3) (.slice p4 q4 s4) (.slice p5 q5 s5))
  clear U1 U3 M1 M3 MC ML
  go_wp2_with fail
  obtain ⟨v0,v1,v2,v3,v4,v5⟩ := FB.out.cs6
  refine bodyPost_ret (v := .tuple #[.agg #[.int .i64 b.me,.slice p1 q1 s1,.slice t1 t2 t3,.slice r1 r2 r3,.slice p4 q4 s4,.slice p5 q5 s5],.bool true]) (by simp [results,Tryz.results21,go_sem,v0,v1,v2,v3,v4,v5]) rfl ?_
  rw [LQ.out]
  exact ⟨⟨(p1,q1,s1),(t1,t2,t3),(r1,r2,r3),(p4,q4,s4),(p5,q5,s5),rfl,FC.out.br FL.out,fun _ => ⟨_,FC.out.near⟩⟩,FL.out⟩
 ·have hin : a.id ∈ b.seen := by rw [EI.out]; exact of_decide_eq_true HR.out
  have LQ := Lib.hid (learnB_in hin)
  have FB := Lib.hid (setB_box Y3 (.int .i64 b.me) (.slice no nn nc) (.slice ao an ac) (.slice so sn sc) (.slice eo en ec) (.slice oo on_ oc))
  have FL := Lib.hid (setB_below (b := w.heap.size + 1 + 1) B1.out (by omega) (.int .i64 b.me) (.slice no nn nc) (.slice ao an ac) (.slice so sn sc) (.slice eo en ec) (.slice oo on_ oc))
  clear hin Y1 Y2 Y3
  go_wp2_with fail
  obtain ⟨v0,v1,v2,v3,v4,v5⟩ := FB.out.cs6
  refine bodyPost_ret (v := .tuple #[.agg #[.int .i64 b.me,.slice no nn nc,.slice ao an ac,.slice so sn sc,.slice eo en ec,.slice oo on_ oc],.bool false]) (by simp [results,Tryz.results21,go_sem,v0,v1,v2,v3,v4,v5]) rfl ?_
  rw [LQ.out]
  exact ⟨⟨(no,nn,nc),(ao,an,ac),(so,sn,sc),(eo,en,ec),(oo,on_,oc),rfl,HH.out.on FL.out,fun h => h.on FL.out⟩,FL.out⟩
end Go.Proofs.YtncogjpmboglhaaGreat.Av
