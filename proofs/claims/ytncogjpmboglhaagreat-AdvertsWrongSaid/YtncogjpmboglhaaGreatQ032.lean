/-
  put of package adverts: an ID, an advertisement in its place. Conditions as told.
-/
import Derived.Test.YtncogjpmboglhaaGreatQ027
import Derived.Test.YtncogjpmboglhaaGreatQ028
import Derived.Test.YtncogjpmboglhaaGreatQ020
import Derived.Test.YtncogjpmboglhaaGreatQ029
import Derived.Test.YtncogjpmboglhaaGreatQ031
import Derived.Test.YtncogjpmboglhaaGreatQ018
import Derived.Test.YtncogjpmboglhaaGreatQ001
set_option maxRecDepth 100000
set_option maxHeartbeats 64000000
namespace Go.Proofs.YtncogjpmboglhaaGreat.Av
open Go.RowKit Go.Sort Rw YtncogjpmboglhaaGreat.Nm Pr Bk
theorem place_leJ (l : List XID) (y : XID) : placeK keyJ l y ≤ l.length := by
 rw [placeK_map]
 exact Nat.le_trans (place_le _ _) (by simp)
theorem putJ_any (B : Nat) (v : Sl) (l : List XID) (x : XID) (w : World) (ho : Own EJ w B (slv v) l) (hr : RiseK keyJ l) (hl : l.length ≤ 900) (hB : B ≤ w.heap.size) :
  Calls Tryz.prog 86 #[slv v,idv x,.func (.func 39) #[] #[]] w fun e w' => (∃ v' : Sl,e = .returned (slv v') ∧ Own EJ w' B (slv v') (insAt l (placeK keyJ l (keyJ x)) x)) ∧ Below B w w' ∧ (∀ j,j < w.heap.size → some j ≠ (slv v).ownBlock → w'.heap[j]? = w.heap[j]?) := by
 have h0 := newB w (.cells #[.int .i64 x.1,.int .i64 x.2] 38)
 have X := box_new w #[.int .i64 x.1,.int .i64 x.2] 38
 have C := Lib.hid (bsJ_any (slv v) l x _ ((Row.of_own ho).on h0) hr hl)
 obtain ⟨ks,hks⟩ : ∃ k,k = placeK keyJ l (keyJ x) := ⟨_,rfl⟩
 have KL : ks ≤ l.length := by rw [hks]; exact place_leJ _ _
 rw [← hks] at C
 rw [← hks]
 generalize thereK keyJ l (keyJ x) = th at *
 have OW := Lib.hid (Bk.own_on ho h0)
 have HV := Lib.hid (show (slv v).ownBlock ≠ none → ∃ g,(slv v).ownBlock = some g ∧ g < w.heap.size from fun hne => by
  cases hb : (slv v).ownBlock with
  | none => exact absurd hb hne
  | some g => exact ⟨g,rfl,(ho.lt g hb).2⟩)
 have B0 := Lib.hid ((Below.refl B w).alloc hB (.cells #[.int .i64 x.1,.int .i64 x.2] 38))
 have BN0 := Lib.hid h0
 have KK := Lib.hid KL
 have LL := Lib.hid hl
 have BB := Lib.hid hB
 clear h0 ho hr hl hB hks KL
 obtain ⟨c1,c2⟩ := x
 obtain ⟨vo,vn,vc⟩ := v
 simp only at C X
 obtain ⟨x0,x1⟩ := X.cs2
 have XX := Lib.hid X
 clear X
 go_enter Tryz.func86,Tryz.ntmps86
 go_wp2_with fail
 have W1 := Lib.hid (show w.heap.size ≤ (w.alloc (.cells #[.int .i64 c1,.int .i64 c2] 38)).heap.size by simp)
 generalize w.alloc (.cells #[.int .i64 c1,.int .i64 c2] 38) = W at *
 refine C.out.mono ?_
 rintro e w1 ⟨rfl,hb⟩
 have Y := XX.out.on hb
 obtain ⟨y0,y1⟩ := Y.cs2
 have O1 := Lib.hid (Bk.own_on OW.out hb)
 have B1 := Lib.hid (B0.out.trans (hb.mono (Nat.le_trans BB.out W1.out)))
 have BW := Lib.hid (fun j (hj : j < w.heap.size) => (hb.block j (Nat.lt_of_lt_of_le hj W1.out)).trans (BN0.out.block j hj))
 have S1 := Lib.hid (Nat.le_trans W1.out hb.size)
 clear C Y hb x0 x1
 go_wp2_with fail
 have hl := LL.out
 have NB := newB w1 (.cells #[.int .i64 c1,.int .i64 c2] 38)
 refine (insert_anyJ B _ l ks (c1,c2) w1.heap.size _ (Bk.own_on O1.out NB) (box_new w1 #[.int .i64 c1,.int .i64 c2] 38) ?_ KK.out (by omega) (Nat.le_trans (Nat.le_trans BB.out S1.out) NB.size)).mono ?_
 ·intro he
  obtain ⟨g,hg,hlt⟩ := HV.out (by rw [he]; simp)
  rw [he] at hg
  have := Option.some.inj hg
  have := S1.out
  omega
 rintro e w2 ⟨v',rfl,ho,hb,hoth⟩
 obtain ⟨a1,a2,hv⟩ := (Row.of_own ho).len
 have Q := Lib.hid (show (∃ v'' : Sl,Ending.returned v' = .returned (slv v'') ∧ Own EJ w2 B (slv v'') (insAt l ks (c1,c2))) ∧ Below B w w2 ∧ (∀ j,j < w.heap.size → some j ≠ (slv (vo,vn,vc)).ownBlock → w2.heap[j]? = w.heap[j]?) from ⟨⟨(a1,_,a2),by rw [hv],by subst hv; simpa [insAt] using ho⟩,(B1.out.trans (NB.mono (Nat.le_trans BB.out S1.out))).trans hb,fun j hj hne => (hoth j (Nat.lt_of_lt_of_le (Nat.lt_of_lt_of_le hj S1.out) NB.size) hne).trans ((NB.block j (Nat.lt_of_lt_of_le hj S1.out)).trans (BW.out j hj))⟩)
 clear ho hb hv hl NB
 go_wp2
 go_ret
 exact Q.out
theorem place_leD (l : List XAd) (y : XID) : placeK keyD l y ≤ l.length := by
 rw [placeK_map]
 exact Nat.le_trans (place_le _ _) (by simp)
theorem putD_any (B : Nat) (v : Sl) (l : List XAd) (x : XAd) (w : World) (ho : Own ED w B (slv v) l) (hr : RiseK keyD l) (hl : l.length ≤ 900) (hB : B ≤ w.heap.size) :
  Calls Tryz.prog 84 #[slv v,valD x,.func (.func 41) #[] #[]] w fun e w' => (∃ v' : Sl,e = .returned (slv v') ∧ Own ED w' B (slv v') (insAt l (placeK keyD l (keyD x)) x)) ∧ Below B w w' ∧ (∀ j,j < w.heap.size → some j ≠ (slv v).ownBlock → w'.heap[j]? = w.heap[j]?) := by
 have h0 := newB w (.cells #[.int .i64 x.1,.int .i64 x.2.1,slv x.2.2.1,.int .i64 x.2.2.2] 41)
 have X := box_new w #[.int .i64 x.1,.int .i64 x.2.1,slv x.2.2.1,.int .i64 x.2.2.2] 41
 have C := Lib.hid (bsD_any (slv v) l x _ ((Row.of_own ho).on h0) hr hl)
 obtain ⟨ks,hks⟩ : ∃ k,k = placeK keyD l (keyD x) := ⟨_,rfl⟩
 have KL : ks ≤ l.length := by rw [hks]; exact place_leD _ _
 have e1 : keyD x = (x.1,x.2.1) := rfl
 rw [← e1] at C
 rw [← hks] at C
 rw [← hks]
 generalize thereK keyD l (keyD x) = th at *
 have OW := Lib.hid (Bk.own_on ho h0)
 have HV := Lib.hid (show (slv v).ownBlock ≠ none → ∃ g,(slv v).ownBlock = some g ∧ g < w.heap.size from fun hne => by
  cases hb : (slv v).ownBlock with
  | none => exact absurd hb hne
  | some g => exact ⟨g,rfl,(ho.lt g hb).2⟩)
 have B0 := Lib.hid ((Below.refl B w).alloc hB (.cells #[.int .i64 x.1,.int .i64 x.2.1,slv x.2.2.1,.int .i64 x.2.2.2] 41))
 have BN0 := Lib.hid h0
 have KK := Lib.hid KL
 have LL := Lib.hid hl
 have BB := Lib.hid hB
 clear h0 ho hr hl hB hks KL
 obtain ⟨c1,c2,⟨c3,c4,c5⟩,c6⟩ := x
 obtain ⟨vo,vn,vc⟩ := v
 simp only at C X
 obtain ⟨x0,x1,x2,x3⟩ := X.cs4
 have XX := Lib.hid X
 clear X
 go_enter Tryz.func84,Tryz.ntmps84
 go_wp2_with fail
 have W1 := Lib.hid (show w.heap.size ≤ (w.alloc (.cells #[.int .i64 c1,.int .i64 c2,.slice c3 c4 c5,.int .i64 c6] 41)).heap.size by simp)
 generalize w.alloc (.cells #[.int .i64 c1,.int .i64 c2,.slice c3 c4 c5,.int .i64 c6] 41) = W at *
 refine C.out.mono ?_
 rintro e w1 ⟨rfl,hb⟩
 have Y := XX.out.on hb
 obtain ⟨y0,y1,y2,y3⟩ := Y.cs4
 have O1 := Lib.hid (Bk.own_on OW.out hb)
 have B1 := Lib.hid (B0.out.trans (hb.mono (Nat.le_trans BB.out W1.out)))
 have BW := Lib.hid (fun j (hj : j < w.heap.size) => (hb.block j (Nat.lt_of_lt_of_le hj W1.out)).trans (BN0.out.block j hj))
 have S1 := Lib.hid (Nat.le_trans W1.out hb.size)
 clear C Y hb x0 x1 x2 x3
 go_wp2_with fail
 have hl := LL.out
 have NB := newB w1 (.cells #[.int .i64 c1,.int .i64 c2,.slice c3 c4 c5,.int .i64 c6] 41)
 refine (insert_anyD B _ l ks (c1,c2,(c3,c4,c5),c6) w1.heap.size _ (Bk.own_on O1.out NB) (box_new w1 #[.int .i64 c1,.int .i64 c2,.slice c3 c4 c5,.int .i64 c6] 41) ?_ KK.out (by omega) (Nat.le_trans (Nat.le_trans BB.out S1.out) NB.size)).mono ?_
 ·intro he
  obtain ⟨g,hg,hlt⟩ := HV.out (by rw [he]; simp)
  rw [he] at hg
  have := Option.some.inj hg
  have := S1.out
  omega
 rintro e w2 ⟨v',rfl,ho,hb,hoth⟩
 obtain ⟨a1,a2,hv⟩ := (Row.of_own ho).len
 have Q := Lib.hid (show (∃ v'' : Sl,Ending.returned v' = .returned (slv v'') ∧ Own ED w2 B (slv v'') (insAt l ks (c1,c2,(c3,c4,c5),c6))) ∧ Below B w w2 ∧ (∀ j,j < w.heap.size → some j ≠ (slv (vo,vn,vc)).ownBlock → w2.heap[j]? = w.heap[j]?) from ⟨⟨(a1,_,a2),by rw [hv],by subst hv; simpa [insAt] using ho⟩,(B1.out.trans (NB.mono (Nat.le_trans BB.out S1.out))).trans hb,fun j hj hne => (hoth j (Nat.lt_of_lt_of_le (Nat.lt_of_lt_of_le hj S1.out) NB.size) hne).trans ((NB.block j (Nat.lt_of_lt_of_le hj S1.out)).trans (BW.out j hj))⟩)
 clear ho hb hv hl NB
 go_wp2
 go_ret
 exact Q.out
def Off (ob : Option Nat) (W x : World) : Prop := (∀ j,j < W.heap.size → some j ≠ ob → x.heap[j]? = W.heap[j]?) ∧ W.heap.size ≤ x.heap.size
def Tag (ob : Option Nat) (W : World) (t : TypeId) : Prop := ∀ g,ob = some g → ∃ d,Box W g d t
theorem tag_own {α : Type} {E : Ek α} {W : World} {B : Nat} {v : Value} {l : List α} (h : Own E W B v l) : Tag v.ownBlock W E.t := by
 intro g hg
 rcases own_open h with ⟨rfl,_⟩ | ⟨g',c',cur,rfl,_,h2,_⟩
 ·cases hg
 ·obtain rfl : g' = g := by simpa [Value.ownBlock] using hg
  exact ⟨cur,h2⟩
theorem Off.own {α : Type} {E : Ek α} {ob : Option Nat} {W x : World} {B : Nat} {v : Value} {l : List α} {t : TypeId} (h : Off ob W x) (ho : Own E W B v l) (hg : Tag ob W t) (hne : (E.t == t) = false) : Own E x B v l := by
 refine ⟨ho.1,?_⟩
 rcases ho.2 with h2 | ⟨g',cap,cur,h1,h2,h3,h4⟩
 ·exact Or.inl h2
 ·refine Or.inr ⟨g',cap,cur,h1,h2,?_,h4⟩
  rw [h.1 g' (lt_of_heap h3) fun e => by
   obtain ⟨d,hd⟩ := hg g' e.symm
   exact box_ne (show Box W g' cur E.t from h3) hd hne rfl]
  exact h3
theorem Off.box {ob : Option Nat} {W x : World} {b : Nat} {cs : Array Value} {s t : TypeId} (h : Off ob W x) (hb : Box W b cs s) (hg : Tag ob W t) (hne : (s == t) = false) : Box x b cs s := (h.1 b hb.lt fun e => by
 obtain ⟨d,hd⟩ := hg b e.symm
 exact box_ne hb hd hne rfl).trans hb
theorem PM.off {w0 wr x : World} {B : Nat} {v : Value} {p : List C5} {ob : Option Nat} {t : TypeId} (h : PM w0 B wr v p) (hb : Off ob wr x) (hg : Tag ob wr t) (hne : (47 == t) = false) : PM w0 B x v p := h.imp id fun h => hb.own h hg hne
theorem AdM.off {w0 wr x : World} {B : Nat} {y : XAd} {a : Ad} {ob : Option Nat} {t : TypeId} (h : AdM w0 B wr y a) (hb : Off ob wr x) (hg : Tag ob wr t) (hne : (47 == t) = false) : AdM w0 B x y a := ⟨h.1,h.2.1,h.2.2.off hb hg hne⟩
theorem EnM.off {w0 wr x : World} {B : Nat} {y : XEn} {a : En} {ob : Option Nat} {t : TypeId} (h : EnM w0 B wr y a) (hb : Off ob wr x) (hg : Tag ob wr t) (hne : (47 == t) = false) : EnM w0 B x y a := ⟨h.1,h.2.1,h.2.2.1,h.2.2.2.1,h.2.2.2.2.off hb hg hne⟩
theorem OwM.off {w0 wr x : World} {B : Nat} {y : XOw} {a : Ow} {ob : Option Nat} {t : TypeId} (h : OwM w0 B wr y a) (hb : Off ob wr x) (hg : Tag ob wr t) (hne : (47 == t) = false) : OwM w0 B x y a := ⟨h.1,h.2.off hb hg hne⟩
theorem Cp.offD {w0 wr x : World} {B : Nat} {b : Br} {nv av sv ev ov av' : Sl} {al : List Ad} (h : Cp w0 B wr b nv av sv ev ov) (hb : Off (slv av).ownBlock wr x) (hx : ∃ l,OwnD x B (slv av') l ∧ All2 (AdM w0 B x) l al) : Cp w0 B x { b with adv := al } nv av' sv ev ov := by
 obtain ⟨l0,hl0,_⟩ := h.adv
 have hg := tag_own hl0
 exact {
  near := hb.own h.near hg (by decide)
  seen := hb.own h.seen hg (by decide)
  adv := hx
  ent := by obtain ⟨l,h1,h2⟩ := h.ent; exact ⟨l,hb.own h1 hg (by decide),h2.mono fun _ _ h => h.off hb hg (by decide)⟩
  own := by obtain ⟨l,h1,h2⟩ := h.own; exact ⟨l,hb.own h1 hg (by decide),h2.mono fun _ _ h => h.off hb hg (by decide)⟩ }
theorem Cp.offN {w0 wr x : World} {B : Nat} {b : Br} {nv av sv ev ov ev' : Sl} {el : List En} (h : Cp w0 B wr b nv av sv ev ov) (hb : Off (slv ev).ownBlock wr x) (hx : ∃ l,OwnN x B (slv ev') l ∧ All2 (EnM w0 B x) l el) : Cp w0 B x { b with ent := el } nv av sv ev' ov := by
 obtain ⟨l0,hl0,_⟩ := h.ent
 have hg := tag_own hl0
 exact {
  near := hb.own h.near hg (by decide)
  seen := hb.own h.seen hg (by decide)
  adv := by obtain ⟨l,h1,h2⟩ := h.adv; exact ⟨l,hb.own h1 hg (by decide),h2.mono fun _ _ h => h.off hb hg (by decide)⟩
  ent := hx
  own := by obtain ⟨l,h1,h2⟩ := h.own; exact ⟨l,hb.own h1 hg (by decide),h2.mono fun _ _ h => h.off hb hg (by decide)⟩ }
theorem Cp.offJ {w0 wr x : World} {B : Nat} {b : Br} {nv av sv ev ov sv' : Sl} {sl : List XID} (h : Cp w0 B wr b nv av sv ev ov) (hb : Off (slv sv).ownBlock wr x) (hx : OwnJ x B (slv sv') sl) : Cp w0 B x { b with seen := sl } nv av sv' ev ov := by
 have hg := tag_own h.seen
 exact {
  near := hb.own h.near hg (by decide)
  seen := hx
  adv := by obtain ⟨l,h1,h2⟩ := h.adv; exact ⟨l,hb.own h1 hg (by decide),h2.mono fun _ _ h => h.off hb hg (by decide)⟩
  ent := by obtain ⟨l,h1,h2⟩ := h.ent; exact ⟨l,hb.own h1 hg (by decide),h2.mono fun _ _ h => h.off hb hg (by decide)⟩
  own := by obtain ⟨l,h1,h2⟩ := h.own; exact ⟨l,hb.own h1 hg (by decide),h2.mono fun _ _ h => h.off hb hg (by decide)⟩ }
theorem all2_ins {α β : Type} {R : α → β → Prop} {l : List α} {m : List β} (h : All2 R l m) (k : Nat) {a : α} {b : β} (hr : R a b) : All2 R (insAt l k a) (insAt m k b) :=
 ((h.take k).append (.cons hr .nil)).append (h.drop k)
theorem keys_eq {w0 wr : World} {B : Nat} : ∀ {l : List XAd} {al : List Ad},All2 (AdM w0 B wr) l al → l.map keyD = al.map Ad.id
 | _,_,.nil => rfl
 | _,_,.cons h t => by rw [List.map_cons,List.map_cons,keys_eq t]; exact congrArg (· :: _) h.1
theorem riseK_map {α : Type} (key : α → XID) (l : List α) : RiseK key l ↔ RiseK (fun x : XID => x) (l.map key) := by
 unfold RiseK
 rw [List.pairwise_map]
def lrn4V (B : Nat) (b1 _b2 : Nat) (_me : Int) (_z1 : Value) (o2 : Option Addr) (n2 c2 : Nat) (_z3 _z4 _z5 : Value) (y1 y2 : Int) (yo : Option Addr) (yn yc : Nat) (y4 : Int) (p : List C5) (i : Nat) (v : Value) (x : World) : Prop :=
 match i with
 | 0 => v = .pointer (some ⟨b1,2,none⟩)
 | 1 => v = .slice o2 n2 c2
 | 2 => v = .agg #[.int .i64 y1,.int .i64 y2,.slice yo yn yc,.int .i64 y4]
 | 3 => ∃ s : Sl,v = valD (y1,y2,s,y4) ∧ OwnC x B (slv s) p
 | _ => True
noncomputable def lrn4C : Code := ((Tryz.f21.body.bind (findRegion 4)).getD .skip)
theorem lrn4V_on (B : Nat) (b1 b2 : Nat) (me : Int) (z1 : Value) (o2 : Option Addr) (n2 c2 : Nat) (z3 z4 z5 : Value) (y1 y2 : Int) (yo : Option Addr) (yn yc : Nat) (y4 : Int) (p : List C5) (i : Nat) (v : Value) (x x' : World) (h : lrn4V B b1 b2 me z1 o2 n2 c2 z3 z4 z5 y1 y2 yo yn yc y4 p i v x) (hb : Below x.heap.size x x') : lrn4V B b1 b2 me z1 o2 n2 c2 z3 z4 z5 y1 y2 yo yn yc y4 p i v x' := by
 by_cases hi : i < 4
 ·rcases (by omega : i = 0 ∨ i = 1 ∨ i = 2 ∨ i = 3) with rfl | rfl | rfl | rfl
  ·exact h
  ·exact h
  ·exact h
  ·obtain ⟨s,h1,h2⟩ := h; exact ⟨s,h1,Bk.own_on h2 hb⟩
 ·unfold lrn4V
  split <;> first | omega | trivial
abbrev RiseA (l : List Ad) : Prop := RiseK Ad.id l
abbrev RiseI (l : List XID) : Prop := RiseK (fun x : XID => x) l
def NearOwn (W : World) (nv : Sl) (l : List Int) : Prop := ∃ B,OwnI W B (slv nv) l
theorem NearOwn.on {W W' : World} {nv : Sl} {l : List Int} (h : NearOwn W nv l) (hb : Below W.heap.size W W') : NearOwn W' nv l := by obtain ⟨B,h⟩ := h; exact ⟨B,Bk.own_on h hb⟩
def LearnQ (W : World) (P : Prop) (r : Br × Bool) (e : Ending) (w' : World) : Prop := (∃ nv av sv ev ov : Sl,e = .returned (.tuple #[brv r.1.me nv av sv ev ov,.bool r.2]) ∧ BrIn w' r.1 nv av sv ev ov ∧ (P → NearOwn w' nv r.1.near)) ∧ Below W.heap.size W w'
theorem learnB_in {b : Br} {a : Ad} (h : a.id ∈ b.seen) : learnB b a = (b,false) := by unfold learnB; rw [if_pos h]
theorem learnB_out {b : Br} {a : Ad} (h : ¬ a.id ∈ b.seen) : learnB b a = ({ b with seen := insAt b.seen (placeI b.seen a.id) a.id,adv := insAt b.adv (placeI (b.adv.map Ad.id) a.id) a },true) := by unfold learnB; rw [if_neg h]
end Go.Proofs.YtncogjpmboglhaaGreat.Av
