/-
  Rows of one's own of messages to neighbours, with predicates of their . Conditions as told.
-/
import Derived.Test.YtmklifheakemeaaGreatfr031
import Derived.Test.YtmklifheakemeaaGreatfr038
import Derived.Test.YtmklifheakemeaaGreatfr029
import Derived.Test.YtmklifheakemeaaGreatfr039
import Derived.Test.YtmklifheakemeaaGreatfr021
import Derived.Test.YtmklifheakemeaaGreatfr016
import Derived.Test.YtmklifheakemeaaGreatfr027
import Derived.Test.YtmklifheakemeaaGreatfr041
import Derived.Test.YtmklifheakemeaaGreatfr022
import Derived.Test.YtmklifheakemeaaGreatfr030
import Derived.Test.YtmklifheakemeaaGreatfr017
import Derived.Test.YtmklifheakemeaaGreatfr019
import Derived.Test.YtmklifheakemeaaGreatfr043
set_option maxRecDepth 100000
set_option maxHeartbeats 64000000
namespace Go.Proofs.YtmklifheakemeaaGreat.Fl
open Go.RowKit Go.Sort Rw YtmklifheakemeaaGreat.Nm Pr Bk Av
def OuO (W : World) (B : Nat) (x : XOu) (o : Ou) : Prop := x.1 = o.to_ ∧ x.2.1 = o.kind ∧ (x.2.2.1,x.2.2.2.1) = o.tree ∧ (x.2.2.2.2.1,x.2.2.2.2.2.1) = o.id ∧ OwnC W B (slv x.2.2.2.2.2.2.1) o.p ∧ x.2.2.2.2.2.2.2 = (none,0,0)
theorem OuO.le {W : World} {B B' : Nat} {x : XOu} {o : Ou} (h : OuO W B x o) (hB : B' ≤ B) : OuO W B' x o := ⟨h.1,h.2.1,h.2.2.1,h.2.2.2.1,own_fewer h.2.2.2.2.1 hB,h.2.2.2.2.2⟩
structure OuR (W : World) (B : Nat) (v : Value) (lx : List XOu) (l : List Ou) : Prop where
 row : OwnU W B v lx
 all : All2 (OuO W B) lx l
theorem OuR.on {W W' : World} {B : Nat} {v : Value} {lx : List XOu} {l : List Ou} (h : OuR W B v lx l) (hb : Below W.heap.size W W') : OuR W' B v lx l := ⟨Bk.own_on h.row hb,h.all.mono fun _ _ q => ⟨q.1,q.2.1,q.2.2.1,q.2.2.2.1,Bk.own_on q.2.2.2.2.1 hb,q.2.2.2.2.2⟩⟩
theorem OuR.le {W : World} {B B' : Nat} {v : Value} {lx : List XOu} {l : List Ou} (h : OuR W B v lx l) (hB : B' ≤ B) : OuR W B' v lx l := ⟨own_fewer h.row hB,h.all.mono fun _ _ q => q.le hB⟩
theorem OuR.nil (W : World) (B : Nat) : OuR W B (.slice none 0 0) [] [] := ⟨own_nil _ _,.nil⟩
theorem OuR.but {W W' : World} {B g : Nat} {v : Value} {lx : List XOu} {l : List Ou} {cs : Array Value} {t : TypeId} (h : OuR W B v lx l) (hk : But g W W') (hg : Box W g cs t) (h1 : (43 == t) = false) (h2 : (70 == t) = false) : OuR W' B v lx l := ⟨hk.own h.row hg h1,h.all.mono fun _ _ q => ⟨q.1,q.2.1,q.2.2.1,q.2.2.2.1,hk.own q.2.2.2.2.1 hg h2,q.2.2.2.2.2⟩⟩
theorem OuR.len {W : World} {B : Nat} {v : Value} {lx : List XOu} {l : List Ou} (h : OuR W B v lx l) : lx.length = l.length := h.all.len
theorem OuR.more {W W' : World} {B : Nat} {v v' : Value} {lx ly : List XOu} {l m : List Ou} (h : OuR W B v lx l) (gr : W.grownBy W' v.ownBlock) (ho : OwnU W' B v' (lx ++ ly)) (hx : All2 (OuO W B) ly m) : OuR W' B v' (lx ++ ly) (l ++ m) :=
 ⟨ho,All2.append (h.all.mono fun _ _ q => ⟨q.1,q.2.1,q.2.2.1,q.2.2.2.1,own_app h.row gr q.2.2.2.2.1 (by decide),q.2.2.2.2.2⟩) (hx.mono fun _ _ q => ⟨q.1,q.2.1,q.2.2.1,q.2.2.2.1,own_app h.row gr q.2.2.2.2.1 (by decide),q.2.2.2.2.2⟩)⟩
theorem others_succ {near : List Int} {f k : Int} {t x : XID} {p : List C5} {q : Nat} {y : Int} (h : near[q]? = some y) : othersO (near.take (q + 1)) f k t x p = othersO (near.take q) f k t x p ++ (if (y != f) = true then [⟨y,k,t,x,p⟩] else []) := by
 unfold othersO
 rw [List.take_add_one,h,List.filter_append,List.map_append]
 congr 1
 simp only [Option.toList_some,List.filter_cons,List.filter_nil]
 split <;> rfl
theorem others_le (near : List Int) (f k : Int) (t x : XID) (p : List C5) : (othersO near f k t x p).length ≤ near.length := by
 unfold othersO
 rw [List.length_map]
 exact List.length_filter_le _ _
theorem floth_any (me but k tc ts ic is_ : Int) (nv : Sl) (av sv ev ov : Value) (pv : Sl) (p : List C5) (l : List Int) (w : World) (hs : RowI w (slv nv) l) (hlen : l.length ≤ 900) (hp : RowC w (slv pv) p) (hpl : p.length ≤ 900) :
  Calls Tryz.prog 28 #[.agg #[.int .i64 me,slv nv,av,sv,ev,ov],.int .i64 but,.agg #[.int .i64 k,.int .i64 tc,.int .i64 ts,.int .i64 ic,.int .i64 is_,slv pv,.slice none 0 0]] w fun e w' => (∃ (v : Sl) (lx : List XOu),e = .returned (slv v) ∧ OuR w' w.heap.size (slv v) lx (othersO l but k (tc,ts) (ic,is_) p)) ∧ Below w.heap.size w w' := by
 obtain ⟨no,nn,nc⟩ := nv
 obtain ⟨po,pn,pc⟩ := pv
 obtain ⟨q1,q2,hq⟩ := hs.len
 obtain ⟨rfl,hnn,rfl⟩ : no = q1 ∧ nn = l.length ∧ nc = q2 := by
  have h : Value.slice no nn nc = .slice q1 l.length q2 := hq
  simpa using h
 clear hq
 obtain ⟨h0,h1,h2⟩ := two_new w #[.int .i64 me,.slice no nn nc,av,sv,ev,ov] #[.int .i64 k,.int .i64 tc,.int .i64 ts,.int .i64 ic,.int .i64 is_,.slice po pn pc,.slice none 0 0] 28 41
 have B0 := Lib.hid h0
 have X5 := Lib.hid h2
 have HS := Lib.hid (hs.on h0)
 have HP := Lib.hid (hp.on h0)
 have HPL := Lib.hid hpl
 have HN := Lib.hid hnn
 have c1 := h1.cell 1
 simp only [List.getElem?_toArray,List.getElem?_cons_zero,List.getElem?_cons_succ] at c1
 have nb : nn ≤ 900 := by omega
 have W2 := Lib.hid h2.lt
 clear h0 h1 h2 hs hlen hnn hp hpl
 show Calls Tryz.prog 28 #[.agg #[.int .i64 me,.slice no nn nc,av,sv,ev,ov],.int .i64 but,.agg #[.int .i64 k,.int .i64 tc,.int .i64 ts,.int .i64 ic,.int .i64 is_,.slice po pn pc,.slice none 0 0]] w _
 go_enter Tryz.func28,Tryz.ntmps28
 go_upto_region 1 with fail
 generalize (w.alloc (.cells #[.int .i64 me,.slice no nn nc,av,sv,ev,ov] 28)).alloc (.cells #[.int .i64 k,.int .i64 tc,.int .i64 ts,.int .i64 ic,.int .i64 is_,.slice po pn pc,.slice none 0 0] 41) = W at *
 go_wp2
 go_loopw [7,13] (fun v i wr => ∃ (q : Nat) (lx : List XOu),q ≤ nn ∧ i = .int .i64 q ∧ Below W.heap.size W wr ∧ OuR wr W.heap.size v lx (othersO (l.take q) but k (tc,ts) (ic,is_) p)) (fun _ i _ => nn - (intOf i).toNat)
 case atStart => exact ⟨0,[],Nat.zero_le _,rfl,Below.refl _ _,OuR.nil _ _⟩
 case round =>
  obtain ⟨q,lx,hq,rfl,hbe,hown⟩ := hrel
  have BE := Lib.hid hbe
  have OE := Lib.hid hown
  clear hbe hown
  by_cases hlt : q < nn
  ·obtain ⟨y,hy⟩ : ∃ y,l[q]? = some y := ⟨_,List.getElem?_eq_getElem (by rw [← HN.out]; exact hlt)⟩
   obtain ⟨g,ix,_,px⟩ := row_el Nm.okI HS.out rfl HN.out.symm hy
   have p0 : wr.cell? g = some (.int .i64 y) := by simpa [Addr.add] using px wr BE.out 0 _ rfl
   have ix : ∀ w,(Instr.indexAt 22 (.slice no nn nc) (.int .i64 q)).run Tryz.prog w = .ok (.pointer (some g)) w := ix
   have FS := Lib.hid (others_succ (f := but) (k := k) (t := (tc,ts)) (x := (ic,is_)) (p := p) hy)
   have hw3 : IntKind.i64.wrap ((q : Int) + 1) = (q : Int) + 1 := IntWalk.i64_in _ (by omega)
   obtain ⟨r,hr⟩ : ∃ r,(y != but) = r := ⟨_,rfl⟩
   rw [hr] at FS
   clear px hy
   cases r
   ·go_wp2
    go_roundw
    case rel => exact ⟨q + 1,lx,by omega,by go_num,BE.out,by
     rw [FS.out]
     simpa using OE.out⟩
    case measure => simp [intOf]; omega
   ·have x_ := X5.out.on BE.out
    obtain ⟨x0,x1,x2,x3,x4,x5,x6⟩ := x_.cs7
    have CM := Lib.hid (cm_any k tc ts ic is_ (po,pn,pc) p wr (HP.out.on BE.out) HPL.out)
    clear x_
    go_wp2_with fail
    refine CM.out.mono ?_
    rintro e1 w1 ⟨⟨⟨s1,s2,s3⟩,rfl,hc⟩,hb⟩
    clear x0 x1 x2 x3 x4 x5 x6 p0 CM
    have NB := Lib.hid (newB w1 (.cells #[.int .i64 y,.int .i64 k,.int .i64 tc,.int .i64 ts,.int .i64 ic,.int .i64 is_,.slice s1 s2 s3,.slice none 0 0] 43))
    have hlit := row_lit okU w1 [((y,k,tc,ts,ic,is_,(s1,s2,s3),(none,0,0)) : XOu)] 1 rfl (by simp) #[.int .i64 y,.int .i64 k,.int .i64 tc,.int .i64 ts,.int .i64 ic,.int .i64 is_,.slice s1 s2 s3,.slice none 0 0] rfl
    have o2 := (OE.out.on hb).on NB.out
    have hB : W.heap.size ≤ (w1.alloc (.cells #[.int .i64 y,.int .i64 k,.int .i64 tc,.int .i64 ts,.int .i64 ic,.int .i64 is_,.slice s1 s2 s3,.slice none 0 0] 43)).heap.size := by have h1 := BE.out.size; have h2 := hb.size; simp; omega
    obtain ⟨v',w',r',o',gr⟩ := app_row okU W.heap.size o2.row (Row.of_own hlit) (by
     rw [o2.len]
     have h1 := others_le (l.take q) but k (tc,ts) (ic,is_) p
     rw [List.length_take] at h1
     omega) (by simp) hB 35
    have r' : (Builtin.append_ #[35,35] 35 #[u7,.slice (some ⟨w1.heap.size,0,none⟩) 1 1]).run Tryz.prog (w1.alloc (.cells #[.int .i64 y,.int .i64 k,.int .i64 tc,.int .i64 ts,.int .i64 ic,.int .i64 is_,.slice s1 s2 s3,.slice none 0 0] 43)) = .ok v' w' := by
     simpa [EU] using r'
    have BG := Lib.hid (((BE.out.trans (hb.mono BE.out.size)).trans (NB.out.mono (by have h1 := BE.out.size; have h2 := hb.size; omega))).grown gr hB fun j hj => (o2.row.lt j hj).1)
    have OG := Lib.hid (o2.more gr o' (.cons (b := ⟨y,k,(tc,ts),(ic,is_),p⟩) ⟨rfl,rfl,rfl,rfl,own_fewer (Bk.own_on hc NB.out) BE.out.size,rfl⟩ .nil))
    clear hlit o2 hB o' gr OE hb hc
    go_wp2_with (first | (at_builtin; refine wpList_append_run rfl _ _ 35 rfl rfl rfl r' ?_) | fail)
    go_roundw
    case rel => exact ⟨q + 1,_,by omega,by go_num,BG.out,by
     rw [FS.out]
     simpa using OG.out⟩
    case measure => simp [intOf]; omega
  ·obtain rfl : nn = q := by omega
   have e : l.take nn = l := List.take_of_length_le (by have := HN.out; omega)
   rw [e] at OE
   obtain ⟨vo1,vo2,hv⟩ := (Row.of_own OE.out.row).len
   subst hv
   clear e
   go_wp2
   go_ret
   exact ⟨⟨(vo1,_,vo2),lx,rfl,OE.out.le (by have := W2.out; omega)⟩,B0.out.trans (BE.out.mono B0.out.size)⟩
theorem BrC.app {W W' : World} {B : Nat} {v : Value} {l : List XOu} {b : Br} {nv av sv ev ov : Sl} (ho : OwnU W B v l) (gr : W.grownBy W' v.ownBlock) (h : BrC W b nv av sv ev ov) : BrC W' b nv av sv ev ov := by
 rcases own_open ho with ⟨h1,_⟩ | ⟨g,c,cur,h1,_,h2,_⟩
 ·rw [h1] at gr
  exact h.on ((Below.refl _ _).grown gr (Nat.le_refl _) (fun j hj => by cases hj))
 ·rw [h1] at gr
  exact h.but2 (but_grown (b := g) gr) h2 (by decide) (by decide) (by decide) (by decide) (by decide) (by decide)
def jo10V (B : Nat) (b3 _b10 _n : Nat) (_x1 _x2 : Int) (_pa : Option Addr) (_pb _pd : Nat) (par : Int) (y1 y2 y3 y4 : Int) (po : Option Addr) (pn pc : Nat) (y6 : Int) (y7 : Bool) (p : List C5) (rv : Value) (_lx : List XOu) (_l : List Ou) (i : Nat) (v : Value) (x : World) : Prop :=
 match i with
 | 0 => v = rv
 | 1 => v = .pointer (some ⟨b3,3,none⟩)
 | 2 => v = .int .i64 par
 | 3 => v = .agg #[.int .i64 y1,.int .i64 y2,.int .i64 y3,.int .i64 y4,.slice po pn pc,.int .i64 y6,.bool y7]
 | 4 => ∃ s : Sl,v = .agg #[.int .i64 3,.int .i64 y1,.int .i64 y2,.int .i64 y3,.int .i64 y4,slv s,.slice none 0 0] ∧ OwnC x B (slv s) p
 | 5 => ∃ s : Sl,v = valU (par,3,y1,y2,y3,y4,s,(none,0,0)) ∧ OwnC x B (slv s) p
 | 6 => ∃ s : Sl,OwnU x B v [(par,3,y1,y2,y3,y4,s,(none,0,0))] ∧ OwnC x B (slv s) p
 | _ => True
noncomputable def jo10C : Code := ((Tryz.f36.body.bind (findRegion 10)).getD .skip)
theorem jo10V_on (B : Nat) (b3 b10 n : Nat) (x1 x2 : Int) (pa : Option Addr) (pb pd : Nat) (par : Int) (y1 y2 y3 y4 : Int) (po : Option Addr) (pn pc : Nat) (y6 : Int) (y7 : Bool) (p : List C5) (rv : Value) (lx : List XOu) (l : List Ou) (i : Nat) (v : Value) (x x' : World) (h : jo10V B b3 b10 n x1 x2 pa pb pd par y1 y2 y3 y4 po pn pc y6 y7 p rv lx l i v x) (hb : Below x.heap.size x x') : jo10V B b3 b10 n x1 x2 pa pb pd par y1 y2 y3 y4 po pn pc y6 y7 p rv lx l i v x' := by
 by_cases hi : i < 7
 ·rcases (by omega : i = 0 ∨ i = 1 ∨ i = 2 ∨ i = 3 ∨ i = 4 ∨ i = 5 ∨ i = 6) with rfl | rfl | rfl | rfl | rfl | rfl | rfl
  ·exact h
  ·exact h
  ·exact h
  ·exact h
  ·obtain ⟨s,h1,h2⟩ := h; exact ⟨s,h1,Bk.own_on h2 hb⟩
  ·obtain ⟨s,h1,h2⟩ := h; exact ⟨s,h1,Bk.own_on h2 hb⟩
  ·obtain ⟨s,h1,h2⟩ := h; exact ⟨s,Bk.own_on h1 hb,Bk.own_on h2 hb⟩
 ·unfold jo10V
  split <;> first | omega | trivial
theorem jo10 (Q : Exit → Act → World → Prop) (W : World) (b3 b10 n : Nat) (x1 x2 : Int) (pa : Option Addr) (pb pd : Nat) (par : Int) (y1 y2 y3 y4 : Int) (po : Option Addr) (pn pc : Nat) (y6 : Int) (y7 : Bool) (p : List C5) (rv : Value) (lx : List XOu) (l : List Ou) (u0 u1 u2 u4 u5 u7 u8 u9 u11 u12 u13 u14 u15 u16 u17 u18 u19 u20 u21 u22 u23 u24 u25 u26 u27 u28 u29 u30 u31 u32 u33 u34 u35 u36 u37 u38 u39 u40 u41 u42 u43 u44 u45 u46 u47 u48 : Value)
  (x3 : Box W b3 #[.int .i64 x1,.int .i64 x2,.slice pa pb pd,.int .i64 par] 74) (x10 : Box W b10 #[.int .i64 y1,.int .i64 y2,.int .i64 y3,.int .i64 y4,.slice po pn pc,.int .i64 y6,.bool y7] 66) (ar : OuR W n rv lx l) (hn : n ≤ W.heap.size) (hl : lx.length ≤ 900) (hp : RowC W (.slice po pn pc) p) (lp : p.length ≤ 900)
  (hQ : ∀ (x : World) (w6 : Value) (s : Sl) (v38 v39 v40 v41 v42 v43 v44 v45 : Value),OuR x n w6 (lx ++ [(par,3,y1,y2,y3,y4,s,(none,0,0))]) (l ++ [⟨par,3,(y1,y2),(y3,y4),p⟩]) → Below n W x → (∀ (b : Nat) (cs : Array Value) (t : TypeId),(t == 43) = false → Box W b cs t → Box x b cs t) → (∀ (b : Br) (nv av sv ev ov : Sl),BrC W b nv av sv ev ov → BrC x b nv av sv ev ov) → (∀ (B : Nat) (v : Value) (p : List C5),OwnC W B v p → OwnC x B v p) → Q .normal ⟨(u0 :: u1 :: u2 :: .pointer (some ⟨b3,0,none⟩) :: u4 :: u5 :: w6 :: u7 :: u8 :: u9 :: .pointer (some ⟨b10,0,none⟩) :: u11 :: u12 :: u13 :: u14 :: u15 :: u16 :: u17 :: u18 :: u19 :: u20 :: u21 :: u22 :: u23 :: u24 :: u25 :: u26 :: u27 :: u28 :: u29 :: u30 :: u31 :: u32 :: u33 :: u34 :: u35 :: u36 :: u37 :: v38 :: v39 :: v40 :: v41 :: v42 :: v43 :: v44 :: v45 :: u46 :: u47 :: u48 :: []).toArray,[]⟩ x) :
  Code.wp Tryz.prog jo10C Q ⟨(u0 :: u1 :: u2 :: .pointer (some ⟨b3,0,none⟩) :: u4 :: u5 :: rv :: u7 :: u8 :: u9 :: .pointer (some ⟨b10,0,none⟩) :: u11 :: u12 :: u13 :: u14 :: u15 :: u16 :: u17 :: u18 :: u19 :: u20 :: u21 :: u22 :: u23 :: u24 :: u25 :: u26 :: u27 :: u28 :: u29 :: u30 :: u31 :: u32 :: u33 :: u34 :: u35 :: u36 :: u37 :: u38 :: u39 :: u40 :: u41 :: u42 :: u43 :: u44 :: u45 :: u46 :: u47 :: u48 :: []).toArray,[]⟩ W := by
 have HQ := Lib.hid hQ
 have H3 := Lib.hid x3
 have H10 := Lib.hid x10
 have AR := Lib.hid ar
 have HN := Lib.hid hn
 have HL := Lib.hid hl
 have HP := Lib.hid hp
 have LP := Lib.hid lp
 clear hQ x3 x10 ar hn hl hp lp
 have stab := jo10V_on W.heap.size b3 b10 n x1 x2 pa pb pd par y1 y2 y3 y4 po pn pc y6 y7 p rv lx l
 unfold jo10C
 conv => arg 2; whnf
 have nd : ∀ j,(∀ i,i < 7 → [38,39,40,41,42,43,44].getD i 0 ≠ j) → ∀ i,i < 7 → (fun i => [38,39,40,41,42,43,44].getD i 0) i ≠ j := fun j h => h
 refine Rg.region_live 9 7 (fun i => [38,39,40,41,42,43,44].getD i 0) (fun _ => 7) (jo10V W.heap.size b3 b10 n x1 x2 pa pb pd par y1 y2 y3 y4 po pn pc y6 y7 p rv lx l) (by kernel_rfl) (by kernel_rfl) rfl (by decide) (fun i j hi hj h => (by decide : ∀ i,i < 7 → ∀ j,j < 7 → [38,39,40,41,42,43,44].getD i 0 = [38,39,40,41,42,43,44].getD j 0 → i = j) i hi j hj h) (fun i hi => (by decide : ∀ i,i < 7 → [38,39,40,41,42,43,44].getD i 0 < 49) i hi) ?_ (fun _ => Rg.hall_of 14 (by kernel_rfl)) ?_ ?_
 ·intro i o hi ho a x D hnd hc hD hb seen K hK
  clear HQ
  rcases (by omega : i = 0 ∨ i = 1 ∨ i = 2 ∨ i = 3 ∨ i = 4 ∨ i = 5 ∨ i = 6) with rfl | rfl | rfl | rfl | rfl | rfl | rfl
  ·obtain rfl := Option.some.inj ho
   have e6 : a.eval (.tmp 6) = rv := seen.kp 6 _ (nd 6 (by decide)) rfl
   exact Rg.op_value rfl rfl (Rg.ex_move a.eval _ (.tmp 6) rfl x) (hK _ _ e6 (Below.refl _ _) fun _ _ _ _ _ _ _ h => h)
  ·obtain rfl := Option.some.inj ho
   have e3 : a.eval (.tmp 3) = .pointer (some ⟨b3,0,none⟩) := seen.kp 3 _ (nd 3 (by decide)) rfl
   exact Rg.op_value rfl rfl (Rg.ex_field a.eval _ 74 (.tmp 3) 2 rfl (by rw [e3]; simp [go_sem])) (hK _ _ rfl (Below.refl _ _) fun _ _ _ _ _ _ _ h => h)
  ·obtain rfl := Option.some.inj ho
   have e39 : a.eval (.tmp 39) = .pointer (some ⟨b3,3,none⟩) := seen.at_ ⟨1,.data⟩ (by simp) rfl (Or.inr (by decide))
   have y3 := (H3.out.on hb).cell 3
   simp only [List.getElem?_toArray,List.getElem?_cons_zero,List.getElem?_cons_succ] at y3
   exact Rg.op_value rfl rfl (Rg.ex_load a.eval _ 3 (.tmp 39) rfl (by rw [e39]; simp [go_sem,y3])) (hK _ _ rfl (Below.refl _ _) fun _ _ _ _ _ _ _ h => h)
  ·obtain rfl := Option.some.inj ho
   have e10 : a.eval (.tmp 10) = .pointer (some ⟨b10,0,none⟩) := seen.kp 10 _ (nd 10 (by decide)) rfl
   obtain ⟨y0,y1,y2,y3,y4,y5,y6⟩ := (H10.out.on hb).cs7
   exact Rg.op_value rfl rfl (Rg.ex_load a.eval _ 66 (.tmp 10) rfl (by rw [e10]; simp [go_sem,y0,y1,y2,y3,y4,y5,y6])) (hK _ _ rfl (Below.refl _ _) fun _ _ _ _ _ _ _ h => h)
  ·obtain rfl := Option.some.inj ho
   have e41 : a.eval (.tmp 41) = .agg #[.int .i64 y1,.int .i64 y2,.int .i64 y3,.int .i64 y4,.slice po pn pc,.int .i64 y6,.bool y7] := seen.at_ ⟨3,.data⟩ (by simp) rfl (Or.inr (by decide))
   exact Rg.op_call rfl rfl (Rw.ex_call1 a.eval _ (.tmp 41) 66 95 rfl e41 rfl _ (call_fn Tryz.func95 rfl rfl _ _)) (flsub_any (y1,y2,y3,y4,(po,pn,pc),y6,y7) p x (HP.out.on hb) LP.out) fun e w1 h => by
    obtain ⟨⟨s,rfl,q1⟩,q2⟩ := h
    exact ⟨_,rfl,hK _ _ ⟨s,rfl,own_fewer q1 hb.size⟩ (q2.mono hb.size) fun j u _ _ _ _ _ h => stab j u _ _ h q2⟩
  ·obtain rfl := Option.some.inj ho
   have e40 : a.eval (.tmp 40) = .int .i64 par := seen.at_ ⟨2,.data⟩ (by simp) rfl (Or.inr (by decide))
   have E42 := seen.at_ ⟨4,.data⟩ (by simp) rfl (Or.inr (by decide))
   obtain ⟨s,q0,q1⟩ := E42
   have q0 : a.eval (.tmp 42) = .agg #[.int .i64 3,.int .i64 y1,.int .i64 y2,.int .i64 y3,.int .i64 y4,slv s,.slice none 0 0] := q0
   exact Rg.op_value rfl rfl (Rg.ex_buildS a.eval _ 43 #[(0,.tmp 40),(1,.tmp 42)] rfl (ps := #[(0,.int .i64 par),(1,.agg #[.int .i64 3,.int .i64 y1,.int .i64 y2,.int .i64 y3,.int .i64 y4,slv s,.slice none 0 0])]) (by simp only [List.map_toArray,List.map_cons,List.map_nil,e40,q0]) (by simp [go_sem])) (hK _ _ ⟨s,rfl,q1⟩ (Below.refl _ _) fun _ _ _ _ _ _ _ h => h)
  ·obtain rfl := Option.some.inj ho
   have E43 := seen.at_ ⟨5,.data⟩ (by simp) rfl (Or.inr (by decide))
   obtain ⟨s,q0,q1⟩ := E43
   have q0 : a.eval (.tmp 43) = valU (par,3,y1,y2,y3,y4,s,(none,0,0)) := q0
   have hl := row_lit okU x [((par,3,y1,y2,y3,y4,s,(none,0,0)) : XOu)] 1 rfl (by simp) (cellsU (par,3,y1,y2,y3,y4,s,(none,0,0))).toArray (by simp [flat,EU])
   have nb := newB x (.cells (cellsU (par,3,y1,y2,y3,y4,s,(none,0,0))).toArray 43)
   exact Rg.op_value rfl rfl (Rg.ex_build a.eval _ 35 1 #[(0,.tmp 43)] rfl (ps := #[(0,valU (par,3,y1,y2,y3,y4,s,(none,0,0)))]) (by simp [q0]) (by simp [go_sem])) (hK (.slice (some ⟨x.heap.size,0,none⟩) 1 1) (x.alloc (.cells (cellsU (par,3,y1,y2,y3,y4,s,(none,0,0))).toArray 43)) ⟨s,own_fewer hl hb.size,Bk.own_on q1 nb⟩ (nb.mono hb.size) fun j u _ _ _ _ _ h => stab j u _ _ h nb)
 ·intro kk o h1 h2 ho
  rcases (by omega : kk = 8) with rfl
  ·obtain rfl := Option.some.inj ho
   exact ⟨⟨7,.data⟩,by simp,rfl,rfl⟩
 ·intro a w' df sz kp ⟨vs,hv⟩ hb
  have sz' : a.tmps.size = 49 := sz
  have g38 : a.tmps[38]? = some (rv) := by
   have h : vs 0 = rv := (hv 0 (by omega)).2 (by decide)
   rw [← h]
   exact (hv 0 (by omega)).1
  have g44 : a.tmps[44]? = some (vs 6) := (hv 6 (by omega)).1
  have G44 := (hv 6 (by omega)).2 (by decide)
  obtain ⟨s,q1,q2⟩ := G44
  have ar := AR.out.on hb
  generalize hq : vs 6 = v6 at *
  obtain ⟨a1,c1,hv6⟩ := (Row.of_own q1).len
  obtain ⟨v',x',r,o',gr⟩ := app_row okU n ar.row (Row.of_own q1) (by have := HL.out; omega) (by simp) (Nat.le_trans HN.out hb.size) 35
  show Rg.SeqFrom _ _ _ 2 7 a w'
  simp only [Rg.SeqFrom]
  refine Rg.op_value rfl rfl (Rg.ex_append a.eval _ (.tmp 38) (.tmp 44) 35 rfl (Rg.eval_some g38) (Rg.eval_some g44) r) ?_
  have e45 : (a.put (some 45) v').eval (.tmp 45) = v' := Rg.eval_some (by simp [Act.put,sz'])
  refine Rg.op_value rfl rfl (Rg.ex_assign _ _ (.tmp 45) rfl x') ?_
  show Q .normal ((a.put (some 45) v').put (some 6) ((a.put (some 45) v').eval (.tmp 45))) x'
  rw [e45]
  have hp := ar.more gr o' (m := [⟨par,3,(y1,y2),(y3,y4),p⟩]) (.cons (show OuO _ _ _ _ from ⟨rfl,rfl,rfl,rfl,own_fewer q2 HN.out,rfl⟩) .nil)
  have hbt : Below n W x' := (hb.mono HN.out).grown gr (Nat.le_trans HN.out hb.size) (fun j hj => (ar.row.lt j hj).1)
  have hbx : ∀ (b : Nat) (cs : Array Value) (t : TypeId),(t == 43) = false → Box W b cs t → Box x' b cs t := fun b cs t hne h => box_app ar.row gr (h.on hb) hne
  have hmx : ∀ (b : Br) (nv av sv ev ov : Sl),BrC W b nv av sv ev ov → BrC x' b nv av sv ev ov := fun b _ _ _ _ _ h => BrC.app ar.row gr (h.on hb)
  have hcx : ∀ (B : Nat) (v : Value) (p : List C5),OwnC W B v p → OwnC x' B v p := fun _ _ _ h => own_app ar.row gr (Bk.own_on h hb) (by decide)
  show Q .normal ((a.put (some 45) v').put (some 6) v') x'
  have ka : ∀ j,j ≠ 45 → j ≠ 6 → ((a.put (some 45) v').put (some 6) v').tmps[j]? = a.tmps[j]? := fun j h1 h2 => by rw [Rg.get_put _ _ _ _ (by omega),Rg.get_put _ _ _ _ (by omega)]
  have kt : ((a.put (some 45) v').put (some 6) v').tmps[6]? = some (v') := by simp [Act.put,sz']
  have kp2 : ∀ j,(j < 38 ∨ 46 ≤ j) → ((a.put (some 45) v').put (some 6) v').tmps[j]? = (u0 :: u1 :: u2 :: .pointer (some ⟨b3,0,none⟩) :: u4 :: u5 :: v' :: u7 :: u8 :: u9 :: .pointer (some ⟨b10,0,none⟩) :: u11 :: u12 :: u13 :: u14 :: u15 :: u16 :: u17 :: u18 :: u19 :: u20 :: u21 :: u22 :: u23 :: u24 :: u25 :: u26 :: u27 :: u28 :: u29 :: u30 :: u31 :: u32 :: u33 :: u34 :: u35 :: u36 :: u37 :: u38 :: u39 :: u40 :: u41 :: u42 :: u43 :: u44 :: u45 :: u46 :: u47 :: u48 :: [])[j]? := fun j hj => by
   by_cases hj2 : j = 6
   ·subst hj2
    exact kt
   ·have hs : (u0 :: u1 :: u2 :: .pointer (some ⟨b3,0,none⟩) :: u4 :: u5 :: v' :: u7 :: u8 :: u9 :: .pointer (some ⟨b10,0,none⟩) :: u11 :: u12 :: u13 :: u14 :: u15 :: u16 :: u17 :: u18 :: u19 :: u20 :: u21 :: u22 :: u23 :: u24 :: u25 :: u26 :: u27 :: u28 :: u29 :: u30 :: u31 :: u32 :: u33 :: u34 :: u35 :: u36 :: u37 :: u38 :: u39 :: u40 :: u41 :: u42 :: u43 :: u44 :: u45 :: u46 :: u47 :: u48 :: [] : List Value) = (u0 :: u1 :: u2 :: .pointer (some ⟨b3,0,none⟩) :: u4 :: u5 :: rv :: u7 :: u8 :: u9 :: .pointer (some ⟨b10,0,none⟩) :: u11 :: u12 :: u13 :: u14 :: u15 :: u16 :: u17 :: u18 :: u19 :: u20 :: u21 :: u22 :: u23 :: u24 :: u25 :: u26 :: u27 :: u28 :: u29 :: u30 :: u31 :: u32 :: u33 :: u34 :: u35 :: u36 :: u37 :: u38 :: u39 :: u40 :: u41 :: u42 :: u43 :: u44 :: u45 :: u46 :: u47 :: u48 :: []).set 6 (v') := rfl
    rw [hs,List.getElem?_set_ne (Ne.symm hj2)]
    exact (ka j (by omega) hj2).trans ((kp j (nd j fun i hi h => by have := (by decide : ∀ i,i < 7 → 38 ≤ [38,39,40,41,42,43,44].getD i 0 ∧ [38,39,40,41,42,43,44].getD i 0 < 46) i hi; omega)).trans List.getElem?_toArray)
  obtain ⟨mid,hmid,hfr⟩ := Rg.frame_mid (a := (a.put (some 45) v').put (some 6) v') 38 8 (by simp [Act.put,df]) (by simp [Act.put,sz']) (by simp) kp2
  rw [hfr]
  match mid,hmid with
  | [v38,v39,v40,v41,v42,v43,v44,v45],_ =>
   exact HQ.out x' _ s _ _ _ _ _ _ _ _ hp hbt hbx hmx hcx
def ad7V (_B : Nat) (_b4 _b8 : Nat) (me : Int) (s1 : Option Addr) (s2 s3 : Nat) (s4 : Option Addr) (s5 s6 : Nat) (s7 : Option Addr) (s8 s9 : Nat) (s10 : Option Addr) (s11 s12 : Nat) (s13 : Option Addr) (s14 s15 : Nat) (rv uv v_ : Value) (_X1 : World) (i : Nat) (v : Value) (_x : World) : Prop :=
 match i with
 | 0 => v = .agg #[.int .i64 me,.slice s1 s2 s3,.slice s4 s5 s6,.slice s7 s8 s9,.slice s10 s11 s12,.slice s13 s14 s15]
 | 1 => v = rv
 | 2 => v = uv
 | 3 => v = v_
 | 4 => True
 | 5 => v = v_
 | _ => True
def ad7F (W : World) (_b4 b8 : Nat) (me : Int) (s1 : Option Addr) (s2 s3 : Nat) (s4 : Option Addr) (s5 s6 : Nat) (s7 : Option Addr) (s8 s9 : Nat) (s10 : Option Addr) (s11 s12 : Nat) (s13 : Option Addr) (s14 s15 : Nat) (_rv _uv _v_ : Value) (X1 : World) (D : Nat → Prop) (x : World) : Prop := (¬ D 3 → x = W.drew) ∧ (D 3 → ¬ D 4 → x = X1) ∧ (D 4 → x = setB X1 b8 (.int .i64 me) (.slice s1 s2 s3) (.slice s4 s5 s6) (.slice s7 s8 s9) (.slice s10 s11 s12) (.slice s13 s14 s15))
noncomputable def ad7C : Code := ((Tryz.f9.body.bind (findRegion 7)).getD .skip)
theorem ad7 (Q : Exit → Act → World → Prop) (W : World) (b4 b8 : Nat) (me : Int) (s1 : Option Addr) (s2 s3 : Nat) (s4 : Option Addr) (s5 s6 : Nat) (s7 : Option Addr) (s8 s9 : Nat) (s10 : Option Addr) (s11 s12 : Nat) (s13 : Option Addr) (s14 s15 : Nat) (rv uv v_ : Value) (X1 : World) (z0 z1 z2 z3 z4 z5 : Value) (u0 u1 u2 u3 u5 u6 u7 u9 u10 u11 u14 u15 u16 u17 u18 u19 u20 u21 u22 u23 u24 u25 u26 u27 u28 u29 u30 u31 u32 u33 u34 u35 u36 u37 u38 u39 u40 u41 u42 : Value)
  (h40 : Box W b4 #[.int .i64 me,.slice s1 s2 s3,.slice s4 s5 s6,.slice s7 s8 s9,.slice s10 s11 s12,.slice s13 s14 s15] 28) (h41 : Box X1 b4 #[.int .i64 me,.slice s1 s2 s3,.slice s4 s5 s6,.slice s7 s8 s9,.slice s10 s11 s12,.slice s13 s14 s15] 28) (h8 : Box X1 b8 #[z0,z1,z2,z3,z4,z5] 28) (hne : b4 ≠ b8) (hr : (Builtin.append_ #[35,35] 35 #[rv,uv]).run Tryz.prog W.drew = .ok v_ X1)
  (hQ : ∀ a : Act,a.defers = [] → a.tmps[8]? = some (.pointer (some ⟨b8,0,none⟩)) → a.tmps[9]? = some v_ → Q .normal a (setB X1 b8 (.int .i64 me) (.slice s1 s2 s3) (.slice s4 s5 s6) (.slice s7 s8 s9) (.slice s10 s11 s12) (.slice s13 s14 s15))) :
  Code.wp Tryz.prog ad7C Q ⟨(u0 :: u1 :: u2 :: u3 :: .pointer (some ⟨b4,0,none⟩) :: u5 :: u6 :: u7 :: .pointer (some ⟨b8,0,none⟩) :: u9 :: u10 :: u11 :: rv :: uv :: u14 :: u15 :: u16 :: u17 :: u18 :: u19 :: u20 :: u21 :: u22 :: u23 :: u24 :: u25 :: u26 :: u27 :: u28 :: u29 :: u30 :: u31 :: u32 :: u33 :: u34 :: u35 :: u36 :: u37 :: u38 :: u39 :: u40 :: u41 :: u42 :: []).toArray,[]⟩ W := by
 have HQ := Lib.hid hQ
 have H40 := Lib.hid h40
 have H41 := Lib.hid h41
 have H8 := Lib.hid h8
 have NE := Lib.hid hne
 have HR := Lib.hid hr
 clear hQ h40 h41 h8 hne hr
 have bx4 : ∀ D x,ad7F W b4 b8 me s1 s2 s3 s4 s5 s6 s7 s8 s9 s10 s11 s12 s13 s14 s15 rv uv v_ X1 D x → Box x b4 #[.int .i64 me,.slice s1 s2 s3,.slice s4 s5 s6,.slice s7 s8 s9,.slice s10 s11 s12,.slice s13 s14 s15] 28 := fun D x hF => by
  by_cases d4 : D 4
  ·rw [hF.2.2 d4]
   exact (Go.Proofs.YtmklifheakemeaaGreat.Av.but_setB X1 b8 (.int .i64 me) (.slice s1 s2 s3) (.slice s4 s5 s6) (.slice s7 s8 s9) (.slice s10 s11 s12) (.slice s13 s14 s15)).box H41.out NE.out
  ·by_cases d3 : D 3
   ·rw [hF.2.1 d3 d4]; exact H41.out
   ·rw [hF.1 d3]; exact H40.out.on (Below.refl _ _).drew
 unfold ad7C
 conv => arg 2; whnf
 have nd : ∀ j,(∀ i,i < 6 → [some 39,some 40,some 41,some 42,none,some 9].getD i none ≠ some j) → ∀ i,i < 6 → (fun i => [some 39,some 40,some 41,some 42,none,some 9].getD i none) i ≠ some j := fun j h => h
 refine Rg.region_done 6 (fun i => [some 39,some 40,some 41,some 42,none,some 9].getD i none) (fun _ => 6) (ad7V W.heap.size b4 b8 me s1 s2 s3 s4 s5 s6 s7 s8 s9 s10 s11 s12 s13 s14 s15 rv uv v_ X1) (ad7F W b4 b8 me s1 s2 s3 s4 s5 s6 s7 s8 s9 s10 s11 s12 s13 s14 s15 rv uv v_ X1) (by kernel_rfl) (by kernel_rfl) rfl (fun i j e hi hj h1 h2 => (by decide : ∀ i,i < 6 → ∀ j,j < 6 → ([some 39,some 40,some 41,some 42,none,some 9].getD i none).isSome = true → [some 39,some 40,some 41,some 42,none,some 9].getD i none = [some 39,some 40,some 41,some 42,none,some 9].getD j none → i = j) i hi j hj (by have h1 : [some 39,some 40,some 41,some 42,none,some 9].getD i none = some e := h1; rw [h1]; rfl) (h1.trans h2.symm)) (fun i e hi h => (by decide : ∀ i,i < 6 → ∀ q ∈ [some 39,some 40,some 41,some 42,none,some 9].getD i none,q < 43) i hi e h) (⟨fun _ => rfl,fun h => h.elim,fun h => h.elim⟩) ?_ ?_
 ·intro i o hi ho a x D hnd hc hD hF seen K hK
  clear HQ
  have still : ∀ i,i ≠ 3 ∧ i ≠ 4 → ad7F W b4 b8 me s1 s2 s3 s4 s5 s6 s7 s8 s9 s10 s11 s12 s13 s14 s15 rv uv v_ X1 (fun j => j = i ∨ D j) x := fun i hns => ⟨fun h => hF.1 fun h2 => h (Or.inr h2),fun h1 h2 => hF.2.1 (h1.resolve_left (Ne.symm hns.1)) fun h3 => h2 (Or.inr h3),fun h => hF.2.2 (h.resolve_left (Ne.symm hns.2))⟩
  rcases (by omega : i = 0 ∨ i = 1 ∨ i = 2 ∨ i = 3 ∨ i = 4 ∨ i = 5) with rfl | rfl | rfl | rfl | rfl | rfl
  ·obtain rfl := Option.some.inj ho
   have e4 : a.eval (.tmp 4) = .pointer (some ⟨b4,0,none⟩) := seen.kp 4 _ (nd 4 (by decide)) rfl
   obtain ⟨y0,y1,y2,y3,y4,y5⟩ := (bx4 D x hF).cs6
   exact Rg.op_value rfl rfl (Rg.ex_load a.eval _ 28 (.tmp 4) rfl (by rw [e4]; simp [go_sem,y0,y1,y2,y3,y4,y5])) (hK _ _ rfl (still 0 (by decide)) fun _ _ _ _ _ _ _ h => h)
  ·obtain rfl := Option.some.inj ho
   have e12 : a.eval (.tmp 12) = rv := seen.kp 12 _ (nd 12 (by decide)) rfl
   exact Rg.op_value rfl rfl (Rg.ex_move a.eval _ (.tmp 12) rfl x) (hK _ _ e12 (still 1 (by decide)) fun _ _ _ _ _ _ _ h => h)
  ·obtain rfl := Option.some.inj ho
   have e13 : a.eval (.tmp 13) = uv := seen.kp 13 _ (nd 13 (by decide)) rfl
   exact Rg.op_value rfl rfl (Rg.ex_move a.eval _ (.tmp 13) rfl x) (hK _ _ e13 (still 2 (by decide)) fun _ _ _ _ _ _ _ h => h)
  ·obtain rfl := Option.some.inj ho
   have e40 : a.eval (.tmp 40) = rv := seen.at_ ⟨1,.data⟩ (by simp) rfl (Or.inr (by decide)) _ rfl
   have e41 : a.eval (.tmp 41) = uv := seen.at_ ⟨2,.data⟩ (by simp) rfl (Or.inr (by decide)) _ rfl
   have n4 : ¬ D 4 := fun h => hnd (hc 4 _ h rfl ⟨3,.chain⟩ (by simp) rfl)
   have hx : x = W.drew := hF.1 hnd
   exact Rg.op_value rfl rfl (Rg.ex_append a.eval _ (.tmp 40) (.tmp 41) 35 rfl e40 e41 (w' := X1) (v' := v_) (by rw [hx]; exact HR.out)) (hK _ X1 rfl ⟨fun h => absurd (Or.inl rfl) h,fun _ _ => rfl,fun h => absurd (h.resolve_left (by decide)) n4⟩ (fun j u hj dj nl nx ni h => by
    rcases (by omega : j = 0 ∨ j = 1 ∨ j = 2 ∨ j = 3 ∨ j = 4 ∨ j = 5) with rfl | rfl | rfl | rfl | rfl | rfl
    ·exact h
    ·exact h
    ·exact h
    ·exact h
    ·exact h
    ·exact h))
  ·obtain rfl := Option.some.inj ho
   have e8 : a.eval (.tmp 8) = .pointer (some ⟨b8,0,none⟩) := seen.kp 8 _ (nd 8 (by decide)) rfl
   have e39 : a.eval (.tmp 39) = .agg #[.int .i64 me,.slice s1 s2 s3,.slice s4 s5 s6,.slice s7 s8 s9,.slice s10 s11 s12,.slice s13 s14 s15] := seen.at_ ⟨0,.data⟩ (by simp) rfl (Or.inr (by decide)) _ rfl
   have d3 : D 3 := hD ⟨3,.chain⟩ (by simp) rfl
   have hx : x = X1 := hF.2.1 d3 hnd
   have hs := storeBr H8.out me s1 s4 s7 s10 s13 s2 s3 s5 s6 s8 s9 s11 s12 s14 s15
   have ff : ad7F W b4 b8 me s1 s2 s3 s4 s5 s6 s7 s8 s9 s10 s11 s12 s13 s14 s15 rv uv v_ X1 (fun j => j = 4 ∨ D j) (setB X1 b8 (.int .i64 me) (.slice s1 s2 s3) (.slice s4 s5 s6) (.slice s7 s8 s9) (.slice s10 s11 s12) (.slice s13 s14 s15)) := ⟨fun h => absurd (Or.inr d3) h,fun _ h => absurd (Or.inl rfl) h,fun _ => rfl⟩
   generalize setB X1 b8 (.int .i64 me) (.slice s1 s2 s3) (.slice s4 s5 s6) (.slice s7 s8 s9) (.slice s10 s11 s12) (.slice s13 s14 s15) = x2 at *
   subst hx
   have q := hK (.bool true) x2 trivial ff (fun j u hj dj nl nx ni h => by
    rcases (by omega : j = 0 ∨ j = 1 ∨ j = 2 ∨ j = 3 ∨ j = 4 ∨ j = 5) with rfl | rfl | rfl | rfl | rfl | rfl
    ·exact h
    ·exact h
    ·exact h
    ·exact h
    ·exact h
    ·exact h)
   exact Rg.op_store 28 (.tmp 8) (.tmp 39) rfl rfl rfl rfl e8 e39 hs q
  ·obtain rfl := Option.some.inj ho
   have e42 : a.eval (.tmp 42) = v_ := seen.at_ ⟨3,.data⟩ (by simp) rfl (Or.inr (by decide)) _ rfl
   exact Rg.op_value rfl rfl (Rg.ex_assign a.eval _ (.tmp 42) rfl x) (hK _ _ e42 (still 5 (by decide)) fun _ _ _ _ _ _ _ h => h)
 ·intro a x df sz kp ⟨vs,hv⟩ ⟨D,hall,hF⟩
  have g9 : a.tmps[9]? = some v_ := by
   have h : vs 5 = v_ := (hv 5 (by omega)).2 (by decide)
   rw [← h]
   exact (hv 5 (by omega)).1 9 rfl
  rw [hF.2.2 (hall 4 (by omega))]
  exact HQ.out a df ((kp 8 (nd 8 (by decide))).trans rfl) g9
def un4V (_B : Nat) (_b3 _b5 _b6 : Nat) (me : Int) (s1 : Option Addr) (s2 s3 : Nat) (s4 : Option Addr) (s5 s6 : Nat) (s7 : Option Addr) (s8 s9 : Nat) (s10 : Option Addr) (s11 s12 : Nat) (s13 : Option Addr) (s14 s15 : Nat) (f c d : Int) (near : List Int) (i : Nat) (v : Value) (x : World) : Prop :=
 match i with
 | 0 => v = .agg #[.int .i64 me,.slice s1 s2 s3,.slice s4 s5 s6,.slice s7 s8 s9,.slice s10 s11 s12,.slice s13 s14 s15]
 | 1 => v = .agg #[.int .i64 me,.slice s1 s2 s3,.slice s4 s5 s6,.slice s7 s8 s9,.slice s10 s11 s12,.slice s13 s14 s15]
 | 2 => v = .int .i64 f
 | 3 => v = .agg #[.int .i64 c,.int .i64 d]
 | 4 => v = .agg #[.int .i64 2,.int .i64 c,.int .i64 d,.int .i64 0,.int .i64 0,.slice none 0 0,.slice none 0 0]
 | 5 => ∃ (s : Sl) (lx : List XOu),v = slv s ∧ OuR x _B (slv s) lx (othersO near f 2 (c,d) (0,0) [])
 | 6 => True
 | 7 => ∃ (s : Sl) (lx : List XOu),v = slv s ∧ OuR x _B (slv s) lx (othersO near f 2 (c,d) (0,0) [])
 | _ => True
def un4F (W : World) (_b3 _b5 b6 : Nat) (me : Int) (s1 : Option Addr) (s2 s3 : Nat) (s4 : Option Addr) (s5 s6 : Nat) (s7 : Option Addr) (s8 s9 : Nat) (s10 : Option Addr) (s11 s12 : Nat) (s13 : Option Addr) (s14 s15 : Nat) (_f _c _d : Int) (_near : List Int) (D : Nat → Prop) (x : World) : Prop := (¬ D 5 → x = W.drew) ∧ (¬ D 6 → Below W.heap.size W x) ∧ (D 6 → ∃ y,Below W.heap.size W y ∧ x = setB y b6 (.int .i64 me) (.slice s1 s2 s3) (.slice s4 s5 s6) (.slice s7 s8 s9) (.slice s10 s11 s12) (.slice s13 s14 s15))
noncomputable def un4C : Code := ((Tryz.f10.body.bind (findRegion 4)).getD .skip)
theorem un4 (Q : Exit → Act → World → Prop) (W : World) (b3 b5 b6 : Nat) (me : Int) (s1 : Option Addr) (s2 s3 : Nat) (s4 : Option Addr) (s5 s6 : Nat) (s7 : Option Addr) (s8 s9 : Nat) (s10 : Option Addr) (s11 s12 : Nat) (s13 : Option Addr) (s14 s15 : Nat) (f c d : Int) (near : List Int) (z0 z1 z2 z3 z4 z5 : Value) (u0 u2 u4 u7 u8 u9 u10 u11 u12 u13 u14 u15 u16 u17 u18 u19 u20 u21 u22 u23 u24 : Value)
  (h3 : Box W b3 #[.int .i64 me,.slice s1 s2 s3,.slice s4 s5 s6,.slice s7 s8 s9,.slice s10 s11 s12,.slice s13 s14 s15] 28) (h5 : Box W b5 #[.int .i64 c,.int .i64 d] 31) (h6 : Box W b6 #[z0,z1,z2,z3,z4,z5] 28) (n3 : b3 ≠ b6) (n5 : b5 ≠ b6) (hn : RowI W (.slice s1 s2 s3) near) (hl : near.length ≤ 900)
  (hQ : ∀ (a : Act) (y : World) (s : Sl) (lx : List XOu),a.defers = [] → a.tmps[6]? = some (.pointer (some ⟨b6,0,none⟩)) → a.tmps[7]? = some (slv s) → Below W.heap.size W y → OuR (setB y b6 (.int .i64 me) (.slice s1 s2 s3) (.slice s4 s5 s6) (.slice s7 s8 s9) (.slice s10 s11 s12) (.slice s13 s14 s15)) W.heap.size (slv s) lx (othersO near f 2 (c,d) (0,0) []) → Q .normal a (setB y b6 (.int .i64 me) (.slice s1 s2 s3) (.slice s4 s5 s6) (.slice s7 s8 s9) (.slice s10 s11 s12) (.slice s13 s14 s15))) :
  Code.wp Tryz.prog un4C Q ⟨(u0 :: .int .i64 f :: u2 :: .pointer (some ⟨b3,0,none⟩) :: u4 :: .pointer (some ⟨b5,0,none⟩) :: .pointer (some ⟨b6,0,none⟩) :: u7 :: u8 :: u9 :: u10 :: u11 :: u12 :: u13 :: u14 :: u15 :: u16 :: u17 :: u18 :: u19 :: u20 :: u21 :: u22 :: u23 :: u24 :: []).toArray,[]⟩ W := by
 have HQ := Lib.hid hQ
 have H3 := Lib.hid h3
 have H5 := Lib.hid h5
 have H6 := Lib.hid h6
 have N3 := Lib.hid n3
 have N5 := Lib.hid n5
 have HN := Lib.hid hn
 have LN := Lib.hid hl
 clear hQ h3 h5 h6 n3 n5 hn hl
 have bx3 : ∀ D x,un4F W b3 b5 b6 me s1 s2 s3 s4 s5 s6 s7 s8 s9 s10 s11 s12 s13 s14 s15 f c d near D x → Box x b3 #[.int .i64 me,.slice s1 s2 s3,.slice s4 s5 s6,.slice s7 s8 s9,.slice s10 s11 s12,.slice s13 s14 s15] 28 := fun D x hF => by
  by_cases d6 : D 6
  ·obtain ⟨y,hy,rfl⟩ := hF.2.2 d6
   exact (Go.Proofs.YtmklifheakemeaaGreat.Av.but_setB y b6 (.int .i64 me) (.slice s1 s2 s3) (.slice s4 s5 s6) (.slice s7 s8 s9) (.slice s10 s11 s12) (.slice s13 s14 s15)).box (H3.out.on hy) N3.out
  ·exact H3.out.on (hF.2.1 d6)
 have bx5 : ∀ D x,un4F W b3 b5 b6 me s1 s2 s3 s4 s5 s6 s7 s8 s9 s10 s11 s12 s13 s14 s15 f c d near D x → Box x b5 #[.int .i64 c,.int .i64 d] 31 := fun D x hF => by
  by_cases d6 : D 6
  ·obtain ⟨y,hy,rfl⟩ := hF.2.2 d6
   exact (Go.Proofs.YtmklifheakemeaaGreat.Av.but_setB y b6 (.int .i64 me) (.slice s1 s2 s3) (.slice s4 s5 s6) (.slice s7 s8 s9) (.slice s10 s11 s12) (.slice s13 s14 s15)).box (H5.out.on hy) N5.out
  ·exact H5.out.on (hF.2.1 d6)
 unfold un4C
 conv => arg 2; whnf
 have nd : ∀ j,(∀ i,i < 8 → [some 19,some 20,some 21,some 22,some 23,some 24,none,some 7].getD i none ≠ some j) → ∀ i,i < 8 → (fun i => [some 19,some 20,some 21,some 22,some 23,some 24,none,some 7].getD i none) i ≠ some j := fun j h => h
 refine Rg.region_done 8 (fun i => [some 19,some 20,some 21,some 22,some 23,some 24,none,some 7].getD i none) (fun _ => 8) (un4V W.heap.size b3 b5 b6 me s1 s2 s3 s4 s5 s6 s7 s8 s9 s10 s11 s12 s13 s14 s15 f c d near) (un4F W b3 b5 b6 me s1 s2 s3 s4 s5 s6 s7 s8 s9 s10 s11 s12 s13 s14 s15 f c d near) (by kernel_rfl) (by kernel_rfl) rfl (fun i j e hi hj h1 h2 => (by decide : ∀ i,i < 8 → ∀ j,j < 8 → ([some 19,some 20,some 21,some 22,some 23,some 24,none,some 7].getD i none).isSome = true → [some 19,some 20,some 21,some 22,some 23,some 24,none,some 7].getD i none = [some 19,some 20,some 21,some 22,some 23,some 24,none,some 7].getD j none → i = j) i hi j hj (by have h1 : [some 19,some 20,some 21,some 22,some 23,some 24,none,some 7].getD i none = some e := h1; rw [h1]; rfl) (h1.trans h2.symm)) (fun i e hi h => (by decide : ∀ i,i < 8 → ∀ q ∈ [some 19,some 20,some 21,some 22,some 23,some 24,none,some 7].getD i none,q < 25) i hi e h) (⟨fun _ => rfl,fun _ => (Below.refl _ _).drew,fun h => h.elim⟩) ?_ ?_
 ·intro i o hi ho a x D hnd hc hD hF seen K hK
  clear HQ
  have still : ∀ i,i ≠ 5 ∧ i ≠ 6 → un4F W b3 b5 b6 me s1 s2 s3 s4 s5 s6 s7 s8 s9 s10 s11 s12 s13 s14 s15 f c d near (fun j => j = i ∨ D j) x := fun i hns => ⟨fun h => hF.1 fun h2 => h (Or.inr h2),fun h => hF.2.1 fun h2 => h (Or.inr h2),fun h => hF.2.2 (h.resolve_left (Ne.symm hns.2))⟩
  rcases (by omega : i = 0 ∨ i = 1 ∨ i = 2 ∨ i = 3 ∨ i = 4 ∨ i = 5 ∨ i = 6 ∨ i = 7) with rfl | rfl | rfl | rfl | rfl | rfl | rfl | rfl
  ·obtain rfl := Option.some.inj ho
   have e3 : a.eval (.tmp 3) = .pointer (some ⟨b3,0,none⟩) := seen.kp 3 _ (nd 3 (by decide)) rfl
   obtain ⟨y0,y1,y2,y3,y4,y5⟩ := (bx3 D x hF).cs6
   exact Rg.op_value rfl rfl (Rg.ex_load a.eval _ 28 (.tmp 3) rfl (by rw [e3]; simp [go_sem,y0,y1,y2,y3,y4,y5])) (hK _ _ rfl (still 0 (by decide)) fun _ _ _ _ _ _ _ h => h)
  ·obtain rfl := Option.some.inj ho
   have e3 : a.eval (.tmp 3) = .pointer (some ⟨b3,0,none⟩) := seen.kp 3 _ (nd 3 (by decide)) rfl
   obtain ⟨y0,y1,y2,y3,y4,y5⟩ := (bx3 D x hF).cs6
   exact Rg.op_value rfl rfl (Rg.ex_load a.eval _ 28 (.tmp 3) rfl (by rw [e3]; simp [go_sem,y0,y1,y2,y3,y4,y5])) (hK _ _ rfl (still 1 (by decide)) fun _ _ _ _ _ _ _ h => h)
  ·obtain rfl := Option.some.inj ho
   have e1 : a.eval (.tmp 1) = .int .i64 f := seen.kp 1 _ (nd 1 (by decide)) rfl
   exact Rg.op_value rfl rfl (Rg.ex_move a.eval _ (.tmp 1) rfl x) (hK _ _ e1 (still 2 (by decide)) fun _ _ _ _ _ _ _ h => h)
  ·obtain rfl := Option.some.inj ho
   have e5 : a.eval (.tmp 5) = .pointer (some ⟨b5,0,none⟩) := seen.kp 5 _ (nd 5 (by decide)) rfl
   obtain ⟨y0,y1⟩ := (bx5 D x hF).cs2
   exact Rg.op_value rfl rfl (Rg.ex_load a.eval _ 31 (.tmp 5) rfl (by rw [e5]; simp [go_sem,y0,y1])) (hK _ _ rfl (still 3 (by decide)) fun _ _ _ _ _ _ _ h => h)
  ·obtain rfl := Option.some.inj ho
   have e22 : a.eval (.tmp 22) = .agg #[.int .i64 c,.int .i64 d] := seen.at_ ⟨3,.data⟩ (by simp) rfl (Or.inr (by decide)) _ rfl
   exact Rg.op_value rfl rfl (Rg.ex_buildS a.eval _ 41 #[(0,.const (.int .i64 2)),(1,.tmp 22)] rfl (ps := #[(0,.int .i64 2),(1,.agg #[.int .i64 c,.int .i64 d])]) (by simp only [List.map_toArray,List.map_cons,List.map_nil,e22]; rfl) (by simp [go_sem])) (hK _ _ rfl (still 4 (by decide)) fun _ _ _ _ _ _ _ h => h)
  ·obtain rfl := Option.some.inj ho
   have e20 : a.eval (.tmp 20) = .agg #[.int .i64 me,.slice s1 s2 s3,.slice s4 s5 s6,.slice s7 s8 s9,.slice s10 s11 s12,.slice s13 s14 s15] := seen.at_ ⟨1,.data⟩ (by simp) rfl (Or.inr (by decide)) _ rfl
   have e21 : a.eval (.tmp 21) = .int .i64 f := seen.at_ ⟨2,.data⟩ (by simp) rfl (Or.inr (by decide)) _ rfl
   have e23 : a.eval (.tmp 23) = .agg #[.int .i64 2,.int .i64 c,.int .i64 d,.int .i64 0,.int .i64 0,.slice none 0 0,.slice none 0 0] := seen.at_ ⟨4,.data⟩ (by simp) rfl (Or.inr (by decide)) _ rfl
   have n6 : ¬ D 6 := fun h => hnd (hc 6 _ h rfl ⟨5,.chain⟩ (by simp) rfl)
   have n7 : ¬ D 7 := fun h => hnd (hc 7 _ h rfl ⟨5,.data⟩ (by simp) rfl)
   have hb := hF.2.1 n6
   exact Rg.op_call rfl rfl (ex_call3g a.eval _ (.tmp 20) (.tmp 21) (.tmp 23) 28 3 41 28 rfl e20 e21 e23 rfl _ (call_fn Tryz.func28 rfl rfl _ _)) (floth_any me f 2 c d 0 0 (s1,s2,s3) _ _ _ _ (none,0,0) [] near x (HN.out.on hb) LN.out (row_nil _) (Nat.zero_le _)) fun e w1 h => by
    obtain ⟨⟨s,lx,rfl,h1⟩,h3⟩ := h
    exact ⟨_,rfl,hK _ w1 ⟨s,lx,rfl,h1.le hb.size⟩ ⟨fun h => absurd (Or.inl rfl) h,fun _ => hb.trans (h3.mono hb.size),fun h => absurd (h.resolve_left (by decide)) n6⟩ (fun j u hj dj nl nx ni h => by
    rcases (by omega : j = 0 ∨ j = 1 ∨ j = 2 ∨ j = 3 ∨ j = 4 ∨ j = 5 ∨ j = 6 ∨ j = 7) with rfl | rfl | rfl | rfl | rfl | rfl | rfl | rfl
    ·exact h
    ·exact h
    ·exact h
    ·exact h
    ·exact h
    ·exact absurd rfl ni
    ·exact h
    ·exact absurd dj n7)⟩
  ·obtain rfl := Option.some.inj ho
   have e6 : a.eval (.tmp 6) = .pointer (some ⟨b6,0,none⟩) := seen.kp 6 _ (nd 6 (by decide)) rfl
   have e19 : a.eval (.tmp 19) = .agg #[.int .i64 me,.slice s1 s2 s3,.slice s4 s5 s6,.slice s7 s8 s9,.slice s10 s11 s12,.slice s13 s14 s15] := seen.at_ ⟨0,.data⟩ (by simp) rfl (Or.inr (by decide)) _ rfl
   have d5 : D 5 := hD ⟨5,.chain⟩ (by simp) rfl
   have hb := hF.2.1 hnd
   have n7 : ¬ D 7 := fun h => hnd (hc 7 _ h rfl ⟨6,.chain⟩ (by simp) rfl)
   have hs := storeBr (H6.out.on hb) me s1 s4 s7 s10 s13 s2 s3 s5 s6 s8 s9 s11 s12 s14 s15
   have ff : un4F W b3 b5 b6 me s1 s2 s3 s4 s5 s6 s7 s8 s9 s10 s11 s12 s13 s14 s15 f c d near (fun j => j = 6 ∨ D j) (setB x b6 (.int .i64 me) (.slice s1 s2 s3) (.slice s4 s5 s6) (.slice s7 s8 s9) (.slice s10 s11 s12) (.slice s13 s14 s15)) := ⟨fun h => absurd (Or.inr d5) h,fun h => absurd (Or.inl rfl) h,fun _ => ⟨x,hb,rfl⟩⟩
   have bs := Go.Proofs.YtmklifheakemeaaGreat.Av.but_setB x b6 (.int .i64 me) (.slice s1 s2 s3) (.slice s4 s5 s6) (.slice s7 s8 s9) (.slice s10 s11 s12) (.slice s13 s14 s15)
   have h6x := H6.out.on hb
   generalize setB x b6 (.int .i64 me) (.slice s1 s2 s3) (.slice s4 s5 s6) (.slice s7 s8 s9) (.slice s10 s11 s12) (.slice s13 s14 s15) = x2 at *
   have q := hK (.bool true) x2 trivial ff (fun j u hj dj nl nx ni h => by
    rcases (by omega : j = 0 ∨ j = 1 ∨ j = 2 ∨ j = 3 ∨ j = 4 ∨ j = 5 ∨ j = 6 ∨ j = 7) with rfl | rfl | rfl | rfl | rfl | rfl | rfl | rfl
    ·exact h
    ·exact h
    ·exact h
    ·exact h
    ·exact h
    ·obtain ⟨s,lx,h1,h2⟩ := h; exact ⟨s,lx,h1,h2.but bs h6x (by decide) (by decide)⟩
    ·exact h
    ·exact absurd dj n7)
   exact Rg.op_store 28 (.tmp 6) (.tmp 19) rfl rfl rfl rfl e6 e19 hs q
  ·obtain rfl := Option.some.inj ho
   have E24 := seen.at_ ⟨5,.data⟩ (by simp) rfl (Or.inr (by decide)) _ rfl
   exact Rg.op_value rfl rfl (Rg.ex_assign a.eval _ (.tmp 24) rfl x) (hK _ _ E24 (still 7 (by decide)) fun _ _ _ _ _ _ _ h => h)
 ·intro a x df sz kp ⟨vs,hv⟩ ⟨D,hall,hF⟩
  obtain ⟨s,lx,h1,h2⟩ := (hv 7 (by omega)).2 (by decide)
  have g7 : a.tmps[7]? = some (slv s) := by
   rw [← h1]
   exact (hv 7 (by omega)).1 7 rfl
  obtain ⟨y,hy,rfl⟩ := hF.2.2 (hall 6 (by omega))
  exact HQ.out a y s lx df ((kp 6 (nd 6 (by decide))).trans rfl) g7 hy h2
end Go.Proofs.YtmklifheakemeaaGreat.Fl
namespace Go.Proofs.YtmklifheakemeaaGreat.Fl
open Go.RowKit Go.Sort Rw YtmklifheakemeaaGreat.Nm Pr Bk Av Rl Sb
def FlQ (W : World) (P : Prop) (r : Br × List Ou) (e : Ending) (w' : World) : Prop := (∃ (nv av sv ev ov s : Sl) (lx : List XOu),e = .returned (.tuple #[brv r.1.me nv av sv ev ov,slv s]) ∧ BrN w' r.1 nv av sv ev ov ∧ (P → BrC w' r.1 nv av sv ev ov) ∧ OuR w' W.heap.size (slv s) lx r.2) ∧ Below W.heap.size W w'
theorem forget_me (b : Br) (x : XID) (f : Int) : (forgetF b x f).1.me = b.me ∧ (forgetF b x f).1.near = b.near := by
 unfold forgetF
 split
 ·exact ⟨rfl,rfl⟩
 ·split <;> exact ⟨rfl,rfl⟩
theorem flun_any (b : Br) (s1 : Option Addr) (s2 s3 : Nat) (s4 : Option Addr) (s5 s6 : Nat) (s7 : Option Addr) (s8 s9 : Nat) (s10 : Option Addr) (s11 s12 : Nat) (s13 : Option Addr) (s14 s15 : Nat) (f c d : Int) (w : World) (h : BrN w b (s1,s2,s3) (s4,s5,s6) (s7,s8,s9) (s10,s11,s12) (s13,s14,s15)) (hf : Few b) (hfp : FewP b) (hr : RiseA b.adv) :
  Calls Tryz.prog 10 #[.agg #[.int .i64 b.me,.slice s1 s2 s3,.slice s4 s5 s6,.slice s7 s8 s9,.slice s10 s11 s12,.slice s13 s14 s15],.int .i64 f,.agg #[.int .i64 c,.int .i64 d]] w (FlQ w (BrC w b (s1,s2,s3) (s4,s5,s6) (s7,s8,s9) (s10,s11,s12) (s13,s14,s15)) (unadvB b f (c,d))) := by
 obtain ⟨h0,h1,h2,h3⟩ := three_new w #[.int .i64 b.me,.slice s1 s2 s3,.slice s4 s5 s6,.slice s7 s8 s9,.slice s10 s11 s12,.slice s13 s14 s15] #[.int .i64 c,.int .i64 d] #[.int .i64 0,.slice none 0 0,.slice none 0 0,.slice none 0 0,.slice none 0 0,.slice none 0 0] 28 31 28
 have FG := Lib.hid (fun W hb => forget_own b (c,d) f (s1,s2,s3) (s4,s5,s6) (s7,s8,s9) (s10,s11,s12) (s13,s14,s15) W (h.br.on (show Below w.heap.size w W from hb)) hf hfp)
 have NO := Lib.hid h.no
 have LN := Lib.hid hf.near
 have RC := Lib.hid (show ∀ W,Below w.heap.size w W → BrC w b (s1,s2,s3) (s4,s5,s6) (s7,s8,s9) (s10,s11,s12) (s13,s14,s15) → BrC W b (s1,s2,s3) (s4,s5,s6) (s7,s8,s9) (s10,s11,s12) (s13,s14,s15) from fun W hb hc => hc.on hb)
 have UE := Lib.hid (show unadvB b f (c,d) = ((forgetF b (c,d) f).1,if (forgetF b (c,d) f).2 = true then othersO b.near f 2 (c,d) (0,0) [] else []) from by unfold unadvB; rw [forgetF_eq hr])
 have FM := Lib.hid (forget_me b (c,d) f)
 obtain ⟨me,hme⟩ : ∃ me,me = b.me := ⟨_,rfl⟩
 have ME := Lib.hid hme
 simp only [← hme] at h0 h1 h2 h3 FG ⊢
 have GB_1 := Lib.hid (h0)
 have X4_2 := Lib.hid (h1)
 have X6_3 := Lib.hid (h2)
 have X8_4 := Lib.hid (h3)
 clear h0 h1 h2 h3 h hf hfp hr hme
 go_enter Tryz.func10,Tryz.ntmps10
 go_upto_region 1 with fail
 generalize (((w.alloc (.cells #[.int .i64 me,.slice s1 s2 s3,.slice s4 s5 s6,.slice s7 s8 s9,.slice s10 s11 s12,.slice s13 s14 s15] 28)).alloc (.cells #[.int .i64 c,.int .i64 d] 31)).alloc (.cells #[.int .i64 0,.slice none 0 0,.slice none 0 0,.slice none 0 0,.slice none 0 0,.slice none 0 0] 28)) = W at *
 have SW := Lib.hid (FG.out W GB_1.out)
 clear FG
 have RC2 := Lib.hid (RC.out W GB_1.out)
 have NO2 := Lib.hid (NO.out.on GB_1.out)
 clear RC NO
 obtain ⟨x0,x1,x2,x3,x4,x5⟩ := X4_2.out.cs6
 obtain ⟨y0,y1⟩ := X6_3.out.cs2
 go_wp2_with fail
 refine SW.out.mono ?_
 rintro e1 w1 ⟨⟨⟨m1,m2,m3⟩,⟨m4,m5,m6⟩,⟨m7,m8,m9⟩,⟨m10,m11,m12⟩,⟨m13,m14,m15⟩,rfl,hbr,hno,hbc⟩,hb⟩
 clear SW
 clear x0 x1 x2 x3 x4 x5 y0 y1
 have GB_5 := Lib.hid (GB_1.out.trans (hb.mono GB_1.out.size))
 have X4_5 := Lib.hid (X4_2.out.on hb)
 have X6_5 := Lib.hid (X6_3.out.on hb)
 have X8_5 := Lib.hid (X8_4.out.on hb)
 clear GB_1 X4_2 X6_3 X8_4
 generalize hr : (forgetF b (c,d) f).2 = r at *
 have BN := Lib.hid (show BrN w1 (forgetF b (c,d) f).1 (m1,m2,m3) (m4,m5,m6) (m7,m8,m9) (m10,m11,m12) (m13,m14,m15) from ⟨hbr,hno NO2.out⟩)
 have BNC := Lib.hid (show BrC w b (s1,s2,s3) (s4,s5,s6) (s7,s8,s9) (s10,s11,s12) (s13,s14,s15) → BrC w1 (forgetF b (c,d) f).1 (m1,m2,m3) (m4,m5,m6) (m7,m8,m9) (m10,m11,m12) (m13,m14,m15) from fun h => hbc (Or.inl (RC2.out h)))
 clear hbr hno hbc hb hr RC2 NO2
 rw [show (forgetF b (c,d) f).1.me = me from by rw [FM.out.1,ME.out]]
 obtain ⟨k0,k1,k2,k3,k4,k5⟩ := X4_5.out.cs6
 obtain ⟨kf0,kf1,kf2,kf3,kf4,kf5⟩ := X4_5.out.fs6
 have zz := X4_5.out.lt
 have bs := Go.Proofs.YtmklifheakemeaaGreat.Av.but_setB w1 w.heap.size (.int .i64 me) (.slice m1 m2 m3) (.slice m4 m5 m6) (.slice m7 m8 m9) (.slice m10 m11 m12) (.slice m13 m14 m15)
 have G0 := Lib.hid (setB_below (b := w.heap.size) GB_5.out (Nat.le_refl _) (.int .i64 me) (.slice m1 m2 m3) (.slice m4 m5 m6) (.slice m7 m8 m9) (.slice m10 m11 m12) (.slice m13 m14 m15))
 have G1 := Lib.hid (bs.box X6_5.out (by omega))
 have G2 := Lib.hid (bs.box X8_5.out (by omega))
 have G3 := Lib.hid (BN.out.keep (s1 := (s1,s2,s3)) (s2 := (s4,s5,s6)) (s3 := (s7,s8,s9)) (s4 := (s10,s11,s12)) (s5 := (s13,s14,s15)) (me := me) X4_5.out bs)
 have G4 := Lib.hid (fun h => BrC.but2 (BNC.out h) bs X4_5.out (by decide) (by decide) (by decide) (by decide) (by decide) (by decide))
 have G5 := Lib.hid (setB_box X4_5.out (.int .i64 me) (.slice m1 m2 m3) (.slice m4 m5 m6) (.slice m7 m8 m9) (.slice m10 m11 m12) (.slice m13 m14 m15))
 clear bs GB_5 X6_5 X8_5 BN BNC X4_5
 go_upto_region 2 with fail
 clear zz k0 k1 k2 k3 k4 k5 kf0 kf1 kf2 kf3 kf4 kf5
 unfold setB at G0 G1 G2 G3 G4 G5
 generalize ((((((w1.setCell ⟨w.heap.size,0,none⟩ (.int .i64 me)).setCell ⟨w.heap.size,1,none⟩ (.slice m1 m2 m3)).setCell ⟨w.heap.size,2,none⟩ (.slice m4 m5 m6)).setCell ⟨w.heap.size,3,none⟩ (.slice m7 m8 m9)).setCell ⟨w.heap.size,4,none⟩ (.slice m10 m11 m12)).setCell ⟨w.heap.size,5,none⟩ (.slice m13 m14 m15)) = w2 at *
 have GB_6 := Lib.hid (G0.out)
 have X6_7 := Lib.hid (G1.out)
 have X8_8 := Lib.hid (G2.out)
 have BN_9 := Lib.hid (G3.out)
 have BNC_10 := Lib.hid (G4.out)
 have X4_11 := Lib.hid (G5.out)
 clear G0 G1 G2 G3 G4 G5
 cases r
 ·have x0 := X4_11.out.cell 0
  have x1 := X4_11.out.cell 1
  have x2 := X4_11.out.cell 2
  have x3 := X4_11.out.cell 3
  have x4 := X4_11.out.cell 4
  have x5 := X4_11.out.cell 5
  simp only [List.getElem?_toArray,List.getElem?_cons_zero,List.getElem?_cons_succ] at x0 x1 x2 x3 x4 x5
  obtain ⟨r0,r1,r2,r3,r4,r5⟩ := X8_8.out.cs6
  obtain ⟨rf0,rf1,rf2,rf3,rf4,rf5⟩ := X8_8.out.fs6
  have zz := X8_8.out.lt
  have bs := Go.Proofs.YtmklifheakemeaaGreat.Av.but_setB w2 (w.heap.size + 1 + 1) (.int .i64 me) (.slice m1 m2 m3) (.slice m4 m5 m6) (.slice m7 m8 m9) (.slice m10 m11 m12) (.slice m13 m14 m15)
  have GG := Lib.hid (setB_box X8_8.out (.int .i64 me) (.slice m1 m2 m3) (.slice m4 m5 m6) (.slice m7 m8 m9) (.slice m10 m11 m12) (.slice m13 m14 m15))
  have BL := Lib.hid (setB_below (b := w.heap.size + 1 + 1) GB_6.out (by omega) (.int .i64 me) (.slice m1 m2 m3) (.slice m4 m5 m6) (.slice m7 m8 m9) (.slice m10 m11 m12) (.slice m13 m14 m15))
  have HB := Lib.hid (BN_9.out.keep (s1 := (none,0,0)) (s2 := (none,0,0)) (s3 := (none,0,0)) (s4 := (none,0,0)) (s5 := (none,0,0)) (me := 0) X8_8.out bs)
  have HB2 := Lib.hid (fun h => BrC.but2 (BNC_10.out h) bs X8_8.out (by decide) (by decide) (by decide) (by decide) (by decide) (by decide))
  clear bs
  go_wp2_with fail
  obtain ⟨v0,v1,v2,v3,v4,v5⟩ := GG.out.cs6
  refine bodyPost_ret (v := .tuple #[.agg #[.int .i64 me,.slice m1 m2 m3,.slice m4 m5 m6,.slice m7 m8 m9,.slice m10 m11 m12,.slice m13 m14 m15],.slice none 0 0]) (by simp [results,Tryz.results10,go_sem,v0,v1,v2,v3,v4,v5]) rfl ?_
  rw [UE.out,if_neg (by simp)]
  exact ⟨⟨(m1,m2,m3),(m4,m5,m6),(m7,m8,m9),(m10,m11,m12),(m13,m14,m15),(none,0,0),[],by rw [FM.out.1,ME.out],HB.out,HB2.out,OuR.nil _ _⟩,BL.out⟩
 ·go_upto_region 4 with fail
  have HN := Lib.hid (show RowI w2 (.slice m1 m2 m3) b.near from by have h := BN_9.out.br.near; rw [FM.out.2] at h; exact h)
  refine un4 _ w2 w.heap.size (w.heap.size + 1) (w.heap.size + 1 + 1) me m1 m2 m3 m4 m5 m6 m7 m8 m9 m10 m11 m12 m13 m14 m15 f c d b.near _ _ _ _ _ _ _ _ _ _ _ _ _ _ _ _ _ _ _ _ _ _ _ _ _ _ _ X4_11.out X6_7.out X8_8.out (by omega) (by omega) HN.out LN.out ?_
  intro a y s lx hd h6 h7 hy hou
  have bs := Go.Proofs.YtmklifheakemeaaGreat.Av.but_setB y (w.heap.size + 1 + 1) (.int .i64 me) (.slice m1 m2 m3) (.slice m4 m5 m6) (.slice m7 m8 m9) (.slice m10 m11 m12) (.slice m13 m14 m15)
  have X8y := X8_8.out.on hy
  have GG := setB_box X8y (.int .i64 me) (.slice m1 m2 m3) (.slice m4 m5 m6) (.slice m7 m8 m9) (.slice m10 m11 m12) (.slice m13 m14 m15)
  have BL := Lib.hid (setB_below (b := w.heap.size + 1 + 1) (GB_6.out.trans (hy.mono GB_6.out.size)) (by omega) (.int .i64 me) (.slice m1 m2 m3) (.slice m4 m5 m6) (.slice m7 m8 m9) (.slice m10 m11 m12) (.slice m13 m14 m15))
  have HB := Lib.hid ((BN_9.out.on hy).keep (s1 := (none,0,0)) (s2 := (none,0,0)) (s3 := (none,0,0)) (s4 := (none,0,0)) (s5 := (none,0,0)) (me := 0) X8y bs)
  have HB2 := Lib.hid (fun h => BrC.but2 (BrC.on (BNC_10.out h) hy) bs X8y (by decide) (by decide) (by decide) (by decide) (by decide) (by decide))
  have HO := Lib.hid (hou.le GB_6.out.size)
  clear bs X8y hou hy
  obtain ⟨v0,v1,v2,v3,v4,v5⟩ := GG.cs6
  simp only [Exit.then]
  apply_assumption
  go_wp2_with fail
  refine bodyPost_ret (v := .tuple #[.agg #[.int .i64 me,.slice m1 m2 m3,.slice m4 m5 m6,.slice m7 m8 m9,.slice m10 m11 m12,.slice m13 m14 m15],slv s]) (by simp [results,Tryz.results10,go_sem,h6,h7,v0,v1,v2,v3,v4,v5]) hd ?_
  rw [UE.out]
  simp only [if_true]
  exact ⟨⟨(m1,m2,m3),(m4,m5,m6),(m7,m8,m9),(m10,m11,m12),(m13,m14,m15),s,lx,by rw [FM.out.1,ME.out],HB.out,HB2.out,HO.out⟩,BL.out⟩
end Go.Proofs.YtmklifheakemeaaGreat.Fl
namespace Go.Proofs.YtmklifheakemeaaGreat.Sb
open Go.RowKit Go.Sort Rw YtmklifheakemeaaGreat.Nm Pr Bk Av Rl
theorem cut_in {W : World} {v : Sl} {l : List XEn} {m : List En} (hv : RowN W (slv v) l) (hA : All2 (EnIn W) l m) (t : XID) : RowN W (slv (cutV v (fromT m t) (brE m t).length)) ((l.drop (fromT m t)).take (brE m t).length) ∧ All2 (EnIn W) ((l.drop (fromT m t)).take (brE m t).length) (brE m t) := by
 refine ⟨(row_cut hv _ _ (by rw [hA.len]; exact fromT_len m t)).2,?_⟩
 have h := (hA.drop (fromT m t)).take (brE m t).length
 have e : (m.drop (fromT m t)).take (brE m t).length = brE m t := by
  unfold brE
  conv => lhs; arg 2; rw [← List.takeWhile_append_dropWhile (p := fun e : En => decide (e.tree = t)) (l := m.drop (fromT m t))]
  rw [List.take_left]
 rw [e] at h
 exact h
theorem br_sub (m : List En) (t : XID) : ∀ e ∈ brE m t,e ∈ m := fun _ he => List.mem_of_mem_drop ((List.takeWhile_sublist _).subset he)
theorem scov_any (me : Int) (nv av sv ov : Value) (ev : Sl) (l : List XEn) (m : List En) (t : XID) (pv : Value) (p' : List C5) (w : World) (hs : RowN w (slv ev) l) (hu : All2 (EnIn w) l m) (hr : RiseE m) (hl : l.length ≤ 1000) (hp : RowC w pv p') (hok : ∀ e ∈ m,PredOk e.p) (hop : PredOk p') :
  Calls Tryz.prog 146 #[.agg #[.int .i64 me,nv,av,sv,slv ev,ov],idv t,pv] w fun e w' => e = .returned (.bool (coveredE m t p')) ∧ Below w.heap.size w w' := by
 obtain ⟨pa,pc,rfl⟩ := hp.len
 obtain ⟨so,n,sc⟩ := ev
 obtain ⟨c,d⟩ := t
 obtain ⟨h0,X,Y⟩ := two_new w #[.int .i64 me,nv,av,sv,.slice so n sc,ov] #[.int .i64 c,.int .i64 d] 28 31
 have B := Lib.hid h0
 have x4 := X.cell 4
 obtain ⟨y0,y1⟩ := Y.cs2
 simp only [List.getElem?_toArray,List.getElem?_cons_zero,List.getElem?_cons_succ] at x4
 have BR := Lib.hid (branch_any (so,n,sc) l m (c,d) _ (hs.on h0) (hu.mono fun _ _ q => q.on h0) hr hl)
 obtain ⟨q1,q2⟩ := cut_in (hs.on h0) (hu.mono fun _ _ q => q.on h0) (c,d)
 have Q1 := Lib.hid q1
 have Q2 := Lib.hid q2
 have HP := Lib.hid (hp.on h0)
 have OK := Lib.hid (fun e he => hok e (br_sub m (c,d) e he))
 have CB := Lib.hid (cov_br hr (c,d) p')
 generalize p'.length = pn at *
 generalize coveredE m (c,d) p' = r at *
 generalize cutV (so,n,sc) (fromT m (c,d)) (brE m (c,d)).length = z at *
 obtain ⟨z1,z2,z3⟩ := z
 clear h0 X Y hs hu hr hl hp hok q1 q2
 go_enter Tryz.func146,Tryz.ntmps146
 go_wp2_with fail
 generalize (w.alloc (.cells #[.int .i64 me,nv,av,sv,.slice so n sc,ov] 28)).alloc (.cells #[.int .i64 c,.int .i64 d] 31) = W at *
 refine BR.out.mono ?_
 rintro e1 w1 ⟨rfl,hb⟩
 have HB := Lib.hid hb
 have CV := Lib.hid (covered_any (z1,z2,z3) (.slice pa pn pc) _ (brE m (c,d)) p' w1 (Q1.out.on hb) (Q2.out.mono fun _ _ q => q.on hb) (HP.out.on hb) OK.out hop)
 clear x4 y0 y1 hb BR
 go_wp2_with fail
 refine CV.out.mono ?_
 rintro e2 w2 ⟨rfl,hb2⟩
 go_wp2
 go_ret
 exact ⟨by rw [← CB.out]; rfl,B.out.trans ((HB.out.trans (hb2.mono HB.out.size)).mono B.out.size)⟩
theorem predOk_len {p : List C5} (h : PredOk p) : p.length ≤ 900 := by
 obtain ⟨a,na,rfl⟩ := h
 rw [List.length_map]
 have := na.five
 omega
theorem own_blk {α : Type} {E : Ek α} {W : World} {B : Nat} {v : Value} {l : List α} (h : Own E W B v l) : ∀ b,v.ownBlock = some b → B ≤ b := by
 intro b hb
 rcases own_open h with ⟨rfl,_⟩ | ⟨g',cap',cur,rfl,h2,_⟩
 ·cases hb
 ·obtain rfl : g' = b := by simpa [Value.ownBlock] using hb
  exact h2
theorem PM.less {w0 wr : World} {B B' : Nat} {v : Value} {p : List C5} (h : PM w0 B wr v p) (hB : B' ≤ B) : PM w0 B' wr v p := h.imp id fun h => own_fewer h hB
theorem Cp.less {w0 wr : World} {B B' : Nat} {b : Br} {nv av sv ev ov : Sl} (h : Cp w0 B wr b nv av sv ev ov) (hB : B' ≤ B) : Cp w0 B' wr b nv av sv ev ov where
 near := own_fewer h.near hB
 seen := own_fewer h.seen hB
 adv := by obtain ⟨l,h1,h2⟩ := h.adv; exact ⟨l,own_fewer h1 hB,h2.mono fun _ _ q => ⟨q.1,q.2.1,PM.less q.2.2 hB⟩⟩
 ent := by obtain ⟨l,h1,h2⟩ := h.ent; exact ⟨l,own_fewer h1 hB,h2.mono fun _ _ q => ⟨q.1,q.2.1,q.2.2.1,q.2.2.2.1,PM.less q.2.2.2.2 hB⟩⟩
 own := by obtain ⟨l,h1,h2⟩ := h.own; exact ⟨l,own_fewer h1 hB,h2.mono fun _ _ q => ⟨q.1,PM.less q.2 hB⟩⟩
def addF (b : Br) (e : En) : Br × Bool := match findA b.adv e.tree with
 | none => (b,false)
 | some a => if thereE b.ent e.tree e.sub = true then (b,false) else if e.from_ = a.par ∧ a.par ≠ -1 then (b,false) else
  ({ b with ent := insAt b.ent (placeP (b.ent.map keyE) (e.tree,e.sub)) { e with up := !(a.par == -1) && !coveredE b.ent e.tree e.p } },!(a.par == -1) && !coveredE b.ent e.tree e.p)
theorem addF_eq {b : Br} (hr : RiseE b.ent) {e : En} : addF b e = addB b e := by
 unfold addF addB
 have ft := find_there hr e.tree e.sub
 have ek : keyE e = (e.tree,e.sub) := rfl
 rw [ek,ft]
 by_cases h : findI (b.adv.map Ad.id) e.tree = -1
 ·have hn : findA b.adv e.tree = none := findA_none fun j a hj => findI_neg (key := Ad.id) h j a hj
  rw [hn]
  cases b.adv[(findI (b.adv.map Ad.id) e.tree).toNat]? with
  | none => rfl
  | some a => simp only; rw [if_pos h]
 ·obtain ⟨k,hk⟩ : ∃ k : Nat,findI (b.adv.map Ad.id) e.tree = k := ⟨(findI (b.adv.map Ad.id) e.tree).toNat,by have := findI_bd (b.adv.map Ad.id) e.tree; omega⟩
  obtain ⟨g1,g2⟩ := findI_get hk
  rw [List.getElem?_map] at g1
  cases ha : b.adv[k]? with
  | none => rw [ha] at g1; cases g1
  | some a =>
   rw [ha] at g1
   have hx : a.id = e.tree := Option.some.inj g1
   have hf : findA b.adv e.tree = some a := findA_at ha hx fun j z hj hz => g2 j z.id hj (by rw [List.getElem?_map,hz]; rfl)
   rw [hf,hk,Int.toNat_natCast,ha]
   simp only
   rw [if_neg (show ¬ ((k : Int) = -1) by omega)]
   have e1 : (!(a.par == -1)) = decide (a.par ≠ -1) := by by_cases hp : a.par = -1 <;> simp [hp]
   rw [e1]
   by_cases ht : thereE b.ent e.tree e.sub = true
   ·rw [if_pos ht,if_pos ht,if_pos (by omega)]
   ·rw [if_neg ht,if_neg ht,if_neg (show ¬ ((-1 : Int) ≠ -1) by simp)]
    by_cases hp : e.from_ = a.par ∧ a.par ≠ -1
    ·rw [if_pos hp,if_pos ⟨by rw [hp.1]; exact hp.2,hp.1⟩]
    ·rw [if_neg hp,if_neg fun q => hp ⟨q.2,by rw [← q.2]; exact q.1⟩]
theorem sadd_own (b : Br) (e : En) (nv av sv ev ov : Sl) (x : XEn) (w : World) (h : BrIn w b nv av sv ev ov) (he : EnIn w x e) (hf : Few b) (hp : FewP b) (hr : RiseE b.ent) (hok : ∀ e ∈ b.ent,PredOk e.p) (hoe : PredOk e.p) :
  Calls Tryz.prog 94 #[brv b.me nv av sv ev ov,valN x] w (LearnQ2 w (NearOwn w nv b.near) (BrC w b nv av sv ev ov) (addB b e)) := by
 obtain ⟨no,nn,nc⟩ := nv
 obtain ⟨ao,an,ac⟩ := av
 obtain ⟨so,sn,sc⟩ := sv
 obtain ⟨eo,en,ec⟩ := ev
 obtain ⟨oo,on_,oc⟩ := ov
 obtain ⟨y1,y2,y3,y4,⟨yo,yn,yc⟩,y6,y7⟩ := x
 obtain ⟨h0,h1,h2,h3⟩ := three_new w #[.int .i64 b.me,.slice no nn nc,.slice ao an ac,.slice so sn sc,.slice eo en ec,.slice oo on_ oc] #[.int .i64 y1,.int .i64 y2,.int .i64 y3,.int .i64 y4,.slice yo yn yc,.int .i64 y6,.bool y7] #[.int .i64 0,.slice none 0 0,.slice none 0 0,.slice none 0 0,.slice none 0 0,.slice none 0 0] 28 66 28
 have BB := Lib.hid h0
 have X1 := Lib.hid h1
 have X2 := Lib.hid h2
 have X3 := Lib.hid h3
 have HH := Lib.hid h
 have EE := Lib.hid he
 have HF := Lib.hid hf
 have HP := Lib.hid hp
 have HR := Lib.hid hr
 have OK := Lib.hid hok
 have OE := Lib.hid hoe
 obtain ⟨la,ha1,ha2⟩ := h.adv
 have SW := Lib.hid (find_any b.me (.slice no nn nc) (.slice so sn sc) (.slice eo en ec) (.slice oo on_ oc) (ao,an,ac) la b.adv (y1,y2) _ (ha1.on BB.out) (ha2.mono fun _ _ q => q.on BB.out) hp.adv)
 have ET := Lib.hid (show e.tree = (y1,y2) from he.1.symm)
 have ES := Lib.hid (show e.sub = (y3,y4) from he.2.1.symm)
 have EF := Lib.hid (show e.from_ = y6 from he.2.2.1.symm)
 obtain ⟨x0,x1,x2,x3,x4,x5⟩ := X1.out.cs6
 obtain ⟨d0,d1,d2,d3,d4,d5,d6⟩ := X2.out.cs7
 clear h0 h1 h2 h3 h he hf hp hr hok hoe ha1 ha2 la
 go_enter Tryz.func94,Tryz.ntmps94
 go_wp2_with fail
 generalize ((w.alloc (.cells #[.int .i64 b.me,.slice no nn nc,.slice ao an ac,.slice so sn sc,.slice eo en ec,.slice oo on_ oc] 28)).alloc (.cells #[.int .i64 y1,.int .i64 y2,.int .i64 y3,.int .i64 y4,.slice yo yn yc,.int .i64 y6,.bool y7] 66)).alloc (.cells #[.int .i64 0,.slice none 0 0,.slice none 0 0,.slice none 0 0,.slice none 0 0,.slice none 0 0] 28) = W at *
 refine SW.out.mono ?_
 rintro e1 w1 ⟨hq,hb⟩
 have B1 := Lib.hid (BB.out.trans (hb.mono BB.out.size))
 have Z1 := Lib.hid (X1.out.on hb)
 have Z2 := Lib.hid (X2.out.on hb)
 have Z3 := Lib.hid (X3.out.on hb)
 clear hb SW X1 X2 X3
 clear x0 x1 x2 x3 x4 x5
 clear d0 d1 d2 d3 d4 d5 d6
 obtain ⟨⟨r1,r2,⟨ro,rn,rc⟩,r4⟩,kn,rfl,hin⟩ : ∃ (r : XAd) (kn : Bool),e1 = .returned (.tuple #[valD r,.bool kn]) ∧ ((kn = false ∧ findA b.adv (y1,y2) = none) ∨ (kn = true ∧ ∃ a,findA b.adv (y1,y2) = some a ∧ r.2.2.2 = a.par)) := by
  cases hfa : findA b.adv (y1,y2) with
  | none =>
   rw [hfa] at hq
   exact ⟨_,false,hq,Or.inl ⟨rfl,rfl⟩⟩
  | some a =>
   rw [hfa] at hq
   obtain ⟨r,h1,h2⟩ := hq
   exact ⟨r,true,h1,Or.inr ⟨rfl,a,rfl,h2.2.1⟩⟩
 have HI := Lib.hid hin
 have nb := newB w1 (.cells #[.int .i64 r1,.int .i64 r2,.slice ro rn rc,.int .i64 r4] 74)
 have AB := Lib.hid (box_new w1 #[.int .i64 r1,.int .i64 r2,.slice ro rn rc,.int .i64 r4] 74)
 have B2 := Lib.hid (B1.out.trans (nb.mono B1.out.size))
 have Y1 := Lib.hid (Z1.out.on nb)
 have Y2 := Lib.hid (Z2.out.on nb)
 have Y3 := Lib.hid (Z3.out.on nb)
 obtain ⟨les,hs1,hs2⟩ := HH.out.ent
 have PL := Lib.hid (place_any (eo,en,ec) les b.ent (y1,y2) (y3,y4) _ (hs1.on B2.out) (hs2.mono fun _ _ q => q.on B2.out) HR.out (by rw [hs2.len]; have := HF.out.ent; omega))
 have LES1 := Lib.hid hs1
 have LES2 := Lib.hid hs2
 obtain ⟨k,hk⟩ : ∃ k,placeP (b.ent.map keyE) ((y1,y2),(y3,y4)) = k := ⟨_,rfl⟩
 obtain ⟨th,hth⟩ : ∃ k,thereE b.ent (y1,y2) (y3,y4) = k := ⟨_,rfl⟩
 rw [hk,hth] at PL
 have HK := Lib.hid hk
 have TH := Lib.hid hth
 have KL := Lib.hid (show k ≤ b.ent.length by rw [← hk]; simpa using place_le (b.ent.map keyE) ((y1,y2),(y3,y4)))
 have x4 := Y1.out.cell 4
 simp only [List.getElem?_toArray,List.getElem?_cons_zero,List.getElem?_cons_succ] at x4
 have d1 := Y2.out.cell 1
 have d0 := Y2.out.cell 0
 have d2 := Y2.out.cell 2
 have d3 := Y2.out.cell 3
 simp only [List.getElem?_toArray,List.getElem?_cons_zero,List.getElem?_cons_succ] at d0 d1 d2 d3
 clear hin hq nb hs1 hs2 hk hth Z1 Z2 Z3
 go_wp2_with fail
 generalize hw2 : w1.alloc (.cells #[.int .i64 r1,.int .i64 r2,.slice ro rn rc,.int .i64 r4] 74) = w2 at *
 refine PL.out.mono ?_
 rintro e2 w3 ⟨rfl,hb⟩
 have BW := Lib.hid (B2.out.trans (hb.mono B2.out.size))
 have T1 := Lib.hid (Y1.out.on hb)
 have T2 := Lib.hid (Y2.out.on hb)
 have T3 := Lib.hid (Y3.out.on hb)
 have TA := AB.out.on hb
 clear x4
 clear d0 d1 d2 d3
 have a3 := TA.cell 3
 have d5 := T2.out.cell 5
 simp only [List.getElem?_toArray,List.getElem?_cons_zero,List.getElem?_cons_succ] at a3 d5
 obtain ⟨fq,hfq⟩ : ∃ q,(y6 == r4) = q := ⟨_,rfl⟩
 obtain ⟨rt,hrt⟩ : ∃ q,(r4 == -1) = q := ⟨_,rfl⟩
 have FQ := Lib.hid hfq
 have RT := Lib.hid hrt
 clear hb PL TA Y1 Y2 Y3 AB hw2
 cases kn
 ·have LQ := Lib.hid (show addB b e = (b,false) from by
   rw [← addF_eq HR.out]
   unfold addF
   have h0 : findA b.adv e.tree = none := by
    rw [ET.out]
    rcases HI.out with ⟨_,h⟩ | ⟨h,_⟩
    ·exact h
    ·cases h
   rw [h0])
  have Q1 := T1.out
  have Q3 := T3.out
  obtain ⟨x0,x1,x2,x3,x4,x5⟩ := Q1.cs6
  obtain ⟨z0,z1,z2,z3,z4,z5⟩ := Q3.cs6
  obtain ⟨zf0,zf1,zf2,zf3,zf4,zf5⟩ := Q3.fs6
  have zlt := Q3.lt
  have FB := Lib.hid (setB_box Q3 (.int .i64 b.me) (.slice no nn nc) (.slice ao an ac) (.slice so sn sc) (.slice eo en ec) (.slice oo on_ oc))
  have FL := Lib.hid (setB_below (b := w.heap.size + 1 + 1) BW.out (by omega) (.int .i64 b.me) (.slice no nn nc) (.slice ao an ac) (.slice so sn sc) (.slice eo en ec) (.slice oo on_ oc))
  clear Q1 Q3
  go_wp2_with fail
  clear z0 z1 z2 z3 z4 z5
  obtain ⟨v0,v1,v2,v3,v4,v5⟩ := FB.out.cs6
  refine bodyPost_ret (v := .tuple #[.agg #[.int .i64 b.me,.slice no nn nc,.slice ao an ac,.slice so sn sc,.slice eo en ec,.slice oo on_ oc],.bool false]) (by simp [results,Tryz.results94,go_sem,v0,v1,v2,v3,v4,v5]) rfl ?_
  rw [LQ.out]
  exact ⟨⟨(no,nn,nc),(ao,an,ac),(so,sn,sc),(eo,en,ec),(oo,on_,oc),rfl,HH.out.on FL.out,fun h => h.on FL.out,fun h => (h.resolve_right (by simp)).on FL.out⟩,FL.out⟩
 ·cases th
  ·cases rt
   ·cases fq
    ·have x1 := T2.out.cell 1
     have x0 := T2.out.cell 0
     have x2 := T2.out.cell 2
     have x3 := T2.out.cell 3
     have x4 := T2.out.cell 4
     have x6 := T2.out.cell 6
     simp only [List.getElem?_toArray,List.getElem?_cons_zero,List.getElem?_cons_succ] at x0 x1 x2 x3 x4 x6
     have PE := Lib.hid (show RowC w3 (.slice yo yn yc) e.p from (EE.out.2.2.2.2).on BW.out)
     have CP := Lib.hid (cpE_any (y1,y2,y3,y4,(yo,yn,yc),y6,y7) e.p w3 PE.out (predOk_len OE.out))
     go_wp2_with fail
     refine CP.out.mono ?_
     rintro e4 w3b ⟨⟨⟨u1,u2,u3⟩,rfl,ho⟩,hb⟩
     clear x0 x1 x2 x3 x4 x6
     clear a3 d5
     have V2 := T2.out.on hb
     obtain ⟨x0,x1,x2,x3,x4,x5,x6⟩ := V2.cs7
     obtain ⟨xf0,xf1,xf2,xf3,xf4,xf5,xf6⟩ := V2.fs7
     have xlt := V2.lt
     have bs := but_setE w3b (w.heap.size + 1) (.int .i64 y1) (.int .i64 y2) (.int .i64 y3) (.int .i64 y4) (.slice u1 u2 u3) (.int .i64 y6) (.bool y7)
     have E2 := Lib.hid (setE_box V2 (.int .i64 y1) (.int .i64 y2) (.int .i64 y3) (.int .i64 y4) (.slice u1 u2 u3) (.int .i64 y6) (.bool y7))
     have E1 := Lib.hid (bs.box (T1.out.on hb) (by omega))
     have E3 := Lib.hid (bs.box (T3.out.on hb) (by omega))
     have EO := Lib.hid (bs.own ho V2 (by decide))
     have EL := Lib.hid (setE_below (b := w.heap.size + 1) (BW.out.trans (hb.mono BW.out.size)) (by omega) (.int .i64 y1) (.int .i64 y2) (.int .i64 y3) (.int .i64 y4) (.slice u1 u2 u3) (.int .i64 y6) (.bool y7))
     have ES2 := Lib.hid (show w3.heap.size ≤ (setE w3b (w.heap.size + 1) (.int .i64 y1) (.int .i64 y2) (.int .i64 y3) (.int .i64 y4) (.slice u1 u2 u3) (.int .i64 y6) (.bool y7)).heap.size by have := hb.size; simp; omega)
     have L4 := Lib.hid (show w.heap.size + 1 + 1 < w3.heap.size from T3.out.lt)
     clear V2 ho hb CP T1 T2 T3 BW bs
     go_upto_region 7 with fail
     clear x0 x1 x2 x3 x4 x5 x6 xf0 xf1 xf2 xf3 xf4 xf5 xf6 xlt
     unfold setE at E2 E1 E3 EO EL ES2
     generalize (((((((w3b).setCell ⟨w.heap.size + 1,0,none⟩ (.int .i64 y1)).setCell ⟨w.heap.size + 1,1,none⟩ (.int .i64 y2)).setCell ⟨w.heap.size + 1,2,none⟩ (.int .i64 y3)).setCell ⟨w.heap.size + 1,3,none⟩ (.int .i64 y4)).setCell ⟨w.heap.size + 1,4,none⟩ (.slice u1 u2 u3)).setCell ⟨w.heap.size + 1,5,none⟩ (.int .i64 y6)).setCell ⟨w.heap.size + 1,6,none⟩ (.bool y7) = w4b at *
     have x1 := E2.out.cell 1
     have x0 := E2.out.cell 0
     have x4 := E2.out.cell 4
     simp only [List.getElem?_toArray,List.getElem?_cons_zero,List.getElem?_cons_succ] at x0 x1 x4
     obtain ⟨z0,z1,z2,z3,z4,z5⟩ := E1.out.cs6
     have CV := Lib.hid (scov_any b.me (.slice no nn nc) (.slice ao an ac) (.slice so sn sc) (.slice oo on_ oc) (eo,en,ec) les b.ent (y1,y2) (.slice u1 u2 u3) e.p w4b (LES1.out.on EL.out) (LES2.out.mono fun _ _ q => q.on EL.out) HR.out (by rw [LES2.out.len]; have := HF.out.ent; omega) (Row.of_own EO.out) OK.out OE.out)
     obtain ⟨cv,hcv⟩ : ∃ c,coveredE b.ent (y1,y2) e.p = c := ⟨_,rfl⟩
     rw [hcv] at CV
     have CVQ := Lib.hid hcv
     clear hcv
     go_wp2_with fail
     refine CV.out.mono ?_
     rintro e5 w4c ⟨rfl,hb⟩
     clear x0 x1 x4
     clear z0 z1 z2 z3 z4 z5
     replace E2 := Lib.hid (E2.out.on hb)
     replace E1 := Lib.hid (E1.out.on hb)
     replace E3 := Lib.hid (E3.out.on hb)
     replace EO := Lib.hid (Bk.own_on EO.out hb)
     replace ES2 := Lib.hid (Nat.le_trans ES2.out hb.size)
     replace EL := Lib.hid (EL.out.trans (hb.mono EL.out.size))
     clear CV hb
     have x6 := E2.out.cell 6
     have xf6 := E2.out.fr 6
     have xlt := E2.out.lt
     simp only [List.getElem?_toArray,List.getElem?_cons_zero,List.getElem?_cons_succ] at x6
     have bs := but_cell w4c (w.heap.size + 1) 6 (.bool (!cv))
     have T2 := Lib.hid (show Box (w4c.setCell ⟨w.heap.size + 1,6,none⟩ (.bool (!cv))) (w.heap.size + 1) #[.int .i64 y1,.int .i64 y2,.int .i64 y3,.int .i64 y4,.slice u1 u2 u3,.int .i64 y6,.bool (!cv)] 66 by simpa using box_set (k := 6) E2.out (.bool (!cv)))
     have T1 := Lib.hid (bs.box E1.out (by omega))
     have T3 := Lib.hid (bs.box E3.out (by omega))
     have OC := Lib.hid (bs.own EO.out E2.out (by decide))
     have BW := Lib.hid (EL.out.setCell (p := ⟨w.heap.size + 1,6,none⟩) (by simp) (.bool (!cv)))
     have S45 := Lib.hid (show w3.heap.size ≤ (w4c.setCell ⟨w.heap.size + 1,6,none⟩ (.bool (!cv))).heap.size by have := ES2.out; simp; omega)
     clear bs E1 E2 E3 EO EL ES2
     go_upto_region 8 with fail
     clear x6 xf6 xlt
     generalize w4c.setCell ⟨w.heap.size + 1,6,none⟩ (.bool (!cv)) = w5 at *
     have LQ := Lib.hid (show addB b e = ({ b with ent := insAt b.ent k { e with up := (!cv) } },(!cv)) from by
      rw [← addF_eq HR.out]
      unfold addF
      obtain ⟨a,h0,h1⟩ : ∃ a,findA b.adv e.tree = some a ∧ r4 = a.par := by
       rw [ET.out]
       rcases HI.out with ⟨h,_⟩ | ⟨_,h⟩
       ·cases h
       ·exact h
      rw [h0]
      simp only
      rw [if_neg (by rw [ET.out,ES.out,TH.out]; simp),if_neg ?_,show placeP (b.ent.map keyE) (e.tree,e.sub) = k by rw [ET.out,ES.out]; exact HK.out,← h1,RT.out]
      ·rw [ET.out,CVQ.out]
       rfl
      ·rintro ⟨g,_⟩
       rw [EF.out,← h1] at g
       have := FQ.out
       simp at this
       exact this g)
     have Q1 := T1.out
     obtain ⟨x0,x1,x2,x3,x4,x5⟩ := Q1.cs6
     clear Q1
     go_wp2_with fail
     refine (acopy_own b (no,nn,nc) (ao,an,ac) (so,sn,sc) (eo,en,ec) (oo,on_,oc) w w5 BW.out HH.out HF.out HP.out).mono ?_
     rintro e6 w6 ⟨⟨⟨p1,q1,s1⟩,⟨p2,q2,s2⟩,⟨p3,q3,s3⟩,⟨p4,q4,s4⟩,⟨p5,q5,s5⟩,rfl,cp⟩,hb6⟩
     clear x0 x1 x2 x3 x4 x5
     have V1 := T1.out.on hb6
     have V2 := Lib.hid (T2.out.on hb6)
     have V3 := Lib.hid (T3.out.on hb6)
     obtain ⟨x0,x1,x2,x3,x4,x5⟩ := V1.cs6
     obtain ⟨xf0,xf1,xf2,xf3,xf4,xf5⟩ := V1.fs6
     have xlt := V1.lt
     have bs := but_setB w6 w.heap.size (.int .i64 b.me) (.slice p1 q1 s1) (.slice p2 q2 s2) (.slice p3 q3 s3) (.slice p4 q4 s4) (.slice p5 q5 s5)
     have FB := Lib.hid (setB_box V1 (.int .i64 b.me) (.slice p1 q1 s1) (.slice p2 q2 s2) (.slice p3 q3 s3) (.slice p4 q4 s4) (.slice p5 q5 s5))
     have FC := Lib.hid (Sb.Cp.less (cp.but bs V1) (show w3.heap.size ≤ w5.heap.size from S45.out))
     have FO := Lib.hid (bs.own (Bk.own_on OC.out hb6) V1 (by decide))
     have FL := Lib.hid (setB_below (b := w.heap.size) (BW.out.trans (hb6.mono BW.out.size)) (Nat.le_refl _) (.int .i64 b.me) (.slice p1 q1 s1) (.slice p2 q2 s2) (.slice p3 q3 s3) (.slice p4 q4 s4) (.slice p5 q5 s5))
     have F2 := Lib.hid (bs.box V2.out (by omega))
     have F3 := Lib.hid (bs.box V3.out (by omega))
     have SZ := Lib.hid (show w3.heap.size ≤ (setB w6 w.heap.size (.int .i64 b.me) (.slice p1 q1 s1) (.slice p2 q2 s2) (.slice p3 q3 s3) (.slice p4 q4 s4) (.slice p5 q5 s5)).heap.size by have := hb6.size; have := S45.out; simp; omega)
     clear V1 V2 V3 cp hb6 bs T1 T2 T3 OC BW
     go_upto_region 9 with fail
     clear x0 x1 x2 x3 x4 x5 xf0 xf1 xf2 xf3 xf4 xf5 xlt
     unfold setB at FB FC FL F2 F3 SZ FO
     generalize ((((((w6).setCell ⟨w.heap.size,0,none⟩ (.int .i64 b.me)).setCell ⟨w.heap.size,1,none⟩ (.slice p1 q1 s1)).setCell ⟨w.heap.size,2,none⟩ (.slice p2 q2 s2)).setCell ⟨w.heap.size,3,none⟩ (.slice p3 q3 s3)).setCell ⟨w.heap.size,4,none⟩ (.slice p4 q4 s4)).setCell ⟨w.heap.size,5,none⟩ (.slice p5 q5 s5) = w7 at *
     obtain ⟨le,hle1,hle2⟩ := FC.out.ent
     have HL1 := Lib.hid hle1
     have HL2 := Lib.hid hle2
     clear hle1 hle2
     have nb := newB w7 (.cells #[.int .i64 y1,.int .i64 y2,.int .i64 y3,.int .i64 y4,.slice u1 u2 u3,.int .i64 y6,.bool (!cv)] 66)
     have bx := box_new w7 #[.int .i64 y1,.int .i64 y2,.int .i64 y3,.int .i64 y4,.slice u1 u2 u3,.int .i64 y6,.bool (!cv)] 66
     have IN := Lib.hid (insert_anyN w3.heap.size (.slice p4 q4 s4) le k (y1,y2,y3,y4,(u1,u2,u3),y6,(!cv)) w7.heap.size _ (Bk.own_on HL1.out nb) bx (fun e => by
      obtain ⟨d,hd⟩ := tag_own HL1.out _ e
      have := hd.lt
      omega) (by rw [HL2.out.len]; exact KL.out) (by rw [HL2.out.len]; exact HF.out.ent) (Nat.le_trans SZ.out nb.size))
     have FB2 := Lib.hid (FB.out.on nb)
     have F22 := Lib.hid (F2.out.on nb)
     have F32 := Lib.hid (F3.out.on nb)
     have FO2 := Lib.hid (Bk.own_on FO.out nb)
     have FC2 := Lib.hid (FC.out.grow nb)
     have FL2 := Lib.hid (FL.out.trans (nb.mono FL.out.size))
     have HA2 := Lib.hid (HL2.out.mono fun _ _ q => q.grow nb)
     have HO2 := Lib.hid (tag_own (Bk.own_on HL1.out nb))
     have x4 := FB.out.cell 4
     simp only [List.getElem?_toArray,List.getElem?_cons_zero,List.getElem?_cons_succ] at x4
     obtain ⟨d0,d1,d2,d3,d4,d5,d6⟩ := F2.out.cs7
     clear nb bx
     go_wp2_with fail
     refine IN.out.mono ?_
     rintro e8 w8 ⟨v8,rfl,hown,hbel,hoth⟩
     clear x4
     clear d0 d1 d2 d3 d4 d5 d6
     generalize w7.alloc (.cells #[.int .i64 y1,.int .i64 y2,.int .i64 y3,.int .i64 y4,.slice u1 u2 u3,.int .i64 y6,.bool (!cv)] 66) = w7a at *
     obtain ⟨t1,t2,hv8⟩ := (Row.of_own hown).len
     subst hv8
     generalize (le.take k ++ (y1,y2,y3,y4,(u1,u2,u3),y6,(!cv)) :: le.drop k).length = tn at *
     have hoff : Off (Value.slice p4 q4 s4).ownBlock w7a w8 := ⟨hoth,hbel.size⟩
     have CP := Lib.hid (FC2.out.offN (ev' := (t1,tn,t2)) (el := insAt b.ent k { e with up := (!cv) }) hoff ⟨insAt le k (y1,y2,y3,y4,(u1,u2,u3),y6,(!cv)),by unfold insAt; rw [List.append_assoc]; exact hown,all2_ins (HA2.out.mono fun _ _ q => q.off hoff HO2.out (by decide)) k ⟨EE.out.1,EE.out.2.1,EE.out.2.2.1,rfl,Or.inr (hoff.own FO2.out HO2.out (by decide))⟩⟩)
     have G1 := hoff.box FB2.out HO2.out (by decide)
     have G3 := hoff.box F32.out HO2.out (by decide)
     have G2 := Lib.hid (show Box w8 (w.heap.size + 1) #[.int .i64 y1,.int .i64 y2,.int .i64 y3,.int .i64 y4,.slice u1 u2 u3,.int .i64 y6,.bool (!cv)] 66 from (hoth _ F22.out.lt (fun e => by
      have := own_blk HL1.out _ e.symm
      have := L4.out
      omega)).trans F22.out)
     have NC := Lib.hid (show Box (w8.setCell ⟨w.heap.size,4,none⟩ (.slice t1 tn t2)) w.heap.size #[.int .i64 b.me,.slice p1 q1 s1,.slice p2 q2 s2,.slice p3 q3 s3,.slice t1 tn t2,.slice p5 q5 s5] 28 by simpa using box_set (k := 4) G1 (.slice t1 tn t2))
     have MC := Lib.hid (CP.out.but (but_cell w8 w.heap.size 4 (.slice t1 tn t2)) G1)
     have M3 := Lib.hid ((but_cell w8 w.heap.size 4 (.slice t1 tn t2)).box G3 (by omega))
     have M2 := Lib.hid ((but_cell w8 w.heap.size 4 (.slice t1 tn t2)).box G2.out (by omega))
     have ML := Lib.hid (show Below w.heap.size w (w8.setCell ⟨w.heap.size,4,none⟩ (.slice t1 tn t2)) from (FL2.out.trans (hbel.mono (by have := L4.out; omega))).setCell (p := ⟨w.heap.size,4,none⟩) (Nat.le_refl _) _)
     have x4 := G1.cell 4
     have xf4 := G1.fr 4
     have xlt := G1.lt
     simp only [List.getElem?_toArray,List.getElem?_cons_zero,List.getElem?_cons_succ] at x4
     clear hown hbel hoth hoff G1 G2 G3 CP FB FB2 FC FC2 FO FO2 F2 F22 F3 F32 FL FL2 HL1 HL2 HA2 HO2 IN SZ
     go_upto_region 10 with fail
     clear x4 xf4 xlt
     generalize w8.setCell ⟨w.heap.size,4,none⟩ (.slice t1 tn t2) = w9 at *
     have Q1 := NC.out
     have Q2 := M2.out
     have Q3 := M3.out
     obtain ⟨x0,x1,x2,x3,x4,x5⟩ := Q1.cs6
     have d6 := Q2.cell 6
     simp only [List.getElem?_toArray,List.getElem?_cons_zero,List.getElem?_cons_succ] at d6
     obtain ⟨z0,z1,z2,z3,z4,z5⟩ := Q3.cs6
     obtain ⟨zf0,zf1,zf2,zf3,zf4,zf5⟩ := Q3.fs6
     have zlt := Q3.lt
     have FB := Lib.hid ((setB_box Q3 (.int .i64 b.me) (.slice p1 q1 s1) (.slice p2 q2 s2) (.slice p3 q3 s3) (.slice t1 tn t2) (.slice p5 q5 s5)).on (Below.refl _ _).drew)
     have FC := Lib.hid ((MC.out.but (but_setB w9 (w.heap.size + 1 + 1) (.int .i64 b.me) (.slice p1 q1 s1) (.slice p2 q2 s2) (.slice p3 q3 s3) (.slice t1 tn t2) (.slice p5 q5 s5)) Q3).grow (Below.refl _ _).drew)
     have FL := Lib.hid (setB_below (b := w.heap.size + 1 + 1) ML.out (by omega) (.int .i64 b.me) (.slice p1 q1 s1) (.slice p2 q2 s2) (.slice p3 q3 s3) (.slice t1 tn t2) (.slice p5 q5 s5)).drew
     clear Q1 Q2 Q3 NC MC M2 M3 ML
     go_wp2
     go_region
     all_goals simp only [Exit.then]
     all_goals apply_assumption
     all_goals
      clear x0 x1 x2 x3 x4 x5
      clear z0 z1 z2 z3 z4 z5 zf0 zf1 zf2 zf3 zf4 zf5 zlt
      clear d6
      unfold setB at FB FC FL
      generalize (((((((w9).setCell ⟨w.heap.size + 1 + 1,0,none⟩ (.int .i64 b.me)).setCell ⟨w.heap.size + 1 + 1,1,none⟩ (.slice p1 q1 s1)).setCell ⟨w.heap.size + 1 + 1,2,none⟩ (.slice p2 q2 s2)).setCell ⟨w.heap.size + 1 + 1,3,none⟩ (.slice p3 q3 s3)).setCell ⟨w.heap.size + 1 + 1,4,none⟩ (.slice t1 tn t2)).setCell ⟨w.heap.size + 1 + 1,5,none⟩ (.slice p5 q5 s5)).drew = wz at *
      obtain ⟨v0,v1,v2,v3,v4,v5⟩ := FB.out.cs6
      go_wp2
      refine bodyPost_ret (v := .tuple #[.agg #[.int .i64 b.me,.slice p1 q1 s1,.slice p2 q2 s2,.slice p3 q3 s3,.slice t1 tn t2,.slice p5 q5 s5],.bool (!cv)]) (by simp [results,Tryz.results94,go_sem,v0,v1,v2,v3,v4,v5]) rfl ?_
      rw [LQ.out]
      exact ⟨⟨(p1,q1,s1),(p2,q2,s2),(p3,q3,s3),(t1,tn,t2),(p5,q5,s5),rfl,FC.out.vbr,fun _ => ⟨_,FC.out.near⟩,fun _ => ⟨_,_,FC.out⟩⟩,FL.out⟩
    ·have LQ := Lib.hid (show addB b e = (b,false) from by
      rw [← addF_eq HR.out]
      unfold addF
      obtain ⟨a,h0,h1⟩ : ∃ a,findA b.adv e.tree = some a ∧ r4 = a.par := by
       rw [ET.out]
       rcases HI.out with ⟨h,_⟩ | ⟨_,h⟩
       ·cases h
       ·exact h
      rw [h0]
      simp only
      rw [if_neg (by rw [ET.out,ES.out,TH.out]; simp),if_pos ?_]
      refine ⟨?_,?_⟩
      ·rw [EF.out,← h1]
       have := FQ.out
       simpa using this
      ·rw [← h1]
       have := RT.out
       simpa using this)
     have Q1 := T1.out
     have Q3 := T3.out
     obtain ⟨x0,x1,x2,x3,x4,x5⟩ := Q1.cs6
     obtain ⟨z0,z1,z2,z3,z4,z5⟩ := Q3.cs6
     obtain ⟨zf0,zf1,zf2,zf3,zf4,zf5⟩ := Q3.fs6
     have zlt := Q3.lt
     have FB := Lib.hid (setB_box Q3 (.int .i64 b.me) (.slice no nn nc) (.slice ao an ac) (.slice so sn sc) (.slice eo en ec) (.slice oo on_ oc))
     have FL := Lib.hid (setB_below (b := w.heap.size + 1 + 1) BW.out (by omega) (.int .i64 b.me) (.slice no nn nc) (.slice ao an ac) (.slice so sn sc) (.slice eo en ec) (.slice oo on_ oc))
     clear Q1 Q3
     go_wp2_with fail
     clear z0 z1 z2 z3 z4 z5
     obtain ⟨v0,v1,v2,v3,v4,v5⟩ := FB.out.cs6
     refine bodyPost_ret (v := .tuple #[.agg #[.int .i64 b.me,.slice no nn nc,.slice ao an ac,.slice so sn sc,.slice eo en ec,.slice oo on_ oc],.bool false]) (by simp [results,Tryz.results94,go_sem,v0,v1,v2,v3,v4,v5]) rfl ?_
     rw [LQ.out]
     exact ⟨⟨(no,nn,nc),(ao,an,ac),(so,sn,sc),(eo,en,ec),(oo,on_,oc),rfl,HH.out.on FL.out,fun h => h.on FL.out,fun h => (h.resolve_right (by simp)).on FL.out⟩,FL.out⟩
   ·cases fq
    all_goals
     have x1 := T2.out.cell 1
     have x0 := T2.out.cell 0
     have x2 := T2.out.cell 2
     have x3 := T2.out.cell 3
     have x4 := T2.out.cell 4
     have x6 := T2.out.cell 6
     simp only [List.getElem?_toArray,List.getElem?_cons_zero,List.getElem?_cons_succ] at x0 x1 x2 x3 x4 x6
     have PE := Lib.hid (show RowC w3 (.slice yo yn yc) e.p from (EE.out.2.2.2.2).on BW.out)
     have CP := Lib.hid (cpE_any (y1,y2,y3,y4,(yo,yn,yc),y6,y7) e.p w3 PE.out (predOk_len OE.out))
     go_wp2_with fail
     refine CP.out.mono ?_
     rintro e4 w3b ⟨⟨⟨u1,u2,u3⟩,rfl,ho⟩,hb⟩
     clear x0 x1 x2 x3 x4 x6
     clear a3 d5
     have V2 := T2.out.on hb
     obtain ⟨x0,x1,x2,x3,x4,x5,x6⟩ := V2.cs7
     obtain ⟨xf0,xf1,xf2,xf3,xf4,xf5,xf6⟩ := V2.fs7
     have xlt := V2.lt
     have bs := but_setE w3b (w.heap.size + 1) (.int .i64 y1) (.int .i64 y2) (.int .i64 y3) (.int .i64 y4) (.slice u1 u2 u3) (.int .i64 y6) (.bool y7)
     have E2 := Lib.hid (setE_box V2 (.int .i64 y1) (.int .i64 y2) (.int .i64 y3) (.int .i64 y4) (.slice u1 u2 u3) (.int .i64 y6) (.bool y7))
     have E1 := Lib.hid (bs.box (T1.out.on hb) (by omega))
     have E3 := Lib.hid (bs.box (T3.out.on hb) (by omega))
     have EO := Lib.hid (bs.own ho V2 (by decide))
     have EL := Lib.hid (setE_below (b := w.heap.size + 1) (BW.out.trans (hb.mono BW.out.size)) (by omega) (.int .i64 y1) (.int .i64 y2) (.int .i64 y3) (.int .i64 y4) (.slice u1 u2 u3) (.int .i64 y6) (.bool y7))
     have ES2 := Lib.hid (show w3.heap.size ≤ (setE w3b (w.heap.size + 1) (.int .i64 y1) (.int .i64 y2) (.int .i64 y3) (.int .i64 y4) (.slice u1 u2 u3) (.int .i64 y6) (.bool y7)).heap.size by have := hb.size; simp; omega)
     have L4 := Lib.hid (show w.heap.size + 1 + 1 < w3.heap.size from T3.out.lt)
     clear V2 ho hb CP T1 T2 T3 BW bs
     go_upto_region 7 with fail
     clear x0 x1 x2 x3 x4 x5 x6 xf0 xf1 xf2 xf3 xf4 xf5 xf6 xlt
     unfold setE at E2 E1 E3 EO EL ES2
     generalize (((((((w3b).setCell ⟨w.heap.size + 1,0,none⟩ (.int .i64 y1)).setCell ⟨w.heap.size + 1,1,none⟩ (.int .i64 y2)).setCell ⟨w.heap.size + 1,2,none⟩ (.int .i64 y3)).setCell ⟨w.heap.size + 1,3,none⟩ (.int .i64 y4)).setCell ⟨w.heap.size + 1,4,none⟩ (.slice u1 u2 u3)).setCell ⟨w.heap.size + 1,5,none⟩ (.int .i64 y6)).setCell ⟨w.heap.size + 1,6,none⟩ (.bool y7) = w4b at *
     have x6 := E2.out.cell 6
     have xf6 := E2.out.fr 6
     have xlt := E2.out.lt
     simp only [List.getElem?_toArray,List.getElem?_cons_zero,List.getElem?_cons_succ] at x6
     have bs := but_cell w4b (w.heap.size + 1) 6 (.bool false)
     have T2 := Lib.hid (show Box (w4b.setCell ⟨w.heap.size + 1,6,none⟩ (.bool false)) (w.heap.size + 1) #[.int .i64 y1,.int .i64 y2,.int .i64 y3,.int .i64 y4,.slice u1 u2 u3,.int .i64 y6,.bool false] 66 by simpa using box_set (k := 6) E2.out (.bool false))
     have T1 := Lib.hid (bs.box E1.out (by omega))
     have T3 := Lib.hid (bs.box E3.out (by omega))
     have OC := Lib.hid (bs.own EO.out E2.out (by decide))
     have BW := Lib.hid (EL.out.setCell (p := ⟨w.heap.size + 1,6,none⟩) (by simp) (.bool false))
     have S45 := Lib.hid (show w3.heap.size ≤ (w4b.setCell ⟨w.heap.size + 1,6,none⟩ (.bool false)).heap.size by have := ES2.out; simp; omega)
     clear bs E1 E2 E3 EO EL ES2
     go_upto_region 8 with fail
     clear x6 xf6 xlt
     generalize w4b.setCell ⟨w.heap.size + 1,6,none⟩ (.bool false) = w5 at *
     have LQ := Lib.hid (show addB b e = ({ b with ent := insAt b.ent k { e with up := false } },false) from by
      rw [← addF_eq HR.out]
      unfold addF
      obtain ⟨a,h0,h1⟩ : ∃ a,findA b.adv e.tree = some a ∧ r4 = a.par := by
       rw [ET.out]
       rcases HI.out with ⟨h,_⟩ | ⟨_,h⟩
       ·cases h
       ·exact h
      rw [h0]
      simp only
      rw [if_neg (by rw [ET.out,ES.out,TH.out]; simp),if_neg ?_,show placeP (b.ent.map keyE) (e.tree,e.sub) = k by rw [ET.out,ES.out]; exact HK.out,← h1,RT.out]
      ·rfl
      ·rintro ⟨_,g⟩
       rw [← h1] at g
       have := RT.out
       simp at this
       exact g this)
     have Q1 := T1.out
     obtain ⟨x0,x1,x2,x3,x4,x5⟩ := Q1.cs6
     clear Q1
     go_wp2_with fail
     refine (acopy_own b (no,nn,nc) (ao,an,ac) (so,sn,sc) (eo,en,ec) (oo,on_,oc) w w5 BW.out HH.out HF.out HP.out).mono ?_
     rintro e6 w6 ⟨⟨⟨p1,q1,s1⟩,⟨p2,q2,s2⟩,⟨p3,q3,s3⟩,⟨p4,q4,s4⟩,⟨p5,q5,s5⟩,rfl,cp⟩,hb6⟩
     clear x0 x1 x2 x3 x4 x5
     have V1 := T1.out.on hb6
     have V2 := Lib.hid (T2.out.on hb6)
     have V3 := Lib.hid (T3.out.on hb6)
     obtain ⟨x0,x1,x2,x3,x4,x5⟩ := V1.cs6
     obtain ⟨xf0,xf1,xf2,xf3,xf4,xf5⟩ := V1.fs6
     have xlt := V1.lt
     have bs := but_setB w6 w.heap.size (.int .i64 b.me) (.slice p1 q1 s1) (.slice p2 q2 s2) (.slice p3 q3 s3) (.slice p4 q4 s4) (.slice p5 q5 s5)
     have FB := Lib.hid (setB_box V1 (.int .i64 b.me) (.slice p1 q1 s1) (.slice p2 q2 s2) (.slice p3 q3 s3) (.slice p4 q4 s4) (.slice p5 q5 s5))
     have FC := Lib.hid (Sb.Cp.less (cp.but bs V1) (show w3.heap.size ≤ w5.heap.size from S45.out))
     have FO := Lib.hid (bs.own (Bk.own_on OC.out hb6) V1 (by decide))
     have FL := Lib.hid (setB_below (b := w.heap.size) (BW.out.trans (hb6.mono BW.out.size)) (Nat.le_refl _) (.int .i64 b.me) (.slice p1 q1 s1) (.slice p2 q2 s2) (.slice p3 q3 s3) (.slice p4 q4 s4) (.slice p5 q5 s5))
     have F2 := Lib.hid (bs.box V2.out (by omega))
     have F3 := Lib.hid (bs.box V3.out (by omega))
     have SZ := Lib.hid (show w3.heap.size ≤ (setB w6 w.heap.size (.int .i64 b.me) (.slice p1 q1 s1) (.slice p2 q2 s2) (.slice p3 q3 s3) (.slice p4 q4 s4) (.slice p5 q5 s5)).heap.size by have := hb6.size; have := S45.out; simp; omega)
     clear V1 V2 V3 cp hb6 bs T1 T2 T3 OC BW
     go_upto_region 9 with fail
     clear x0 x1 x2 x3 x4 x5 xf0 xf1 xf2 xf3 xf4 xf5 xlt
     unfold setB at FB FC FL F2 F3 SZ FO
     generalize ((((((w6).setCell ⟨w.heap.size,0,none⟩ (.int .i64 b.me)).setCell ⟨w.heap.size,1,none⟩ (.slice p1 q1 s1)).setCell ⟨w.heap.size,2,none⟩ (.slice p2 q2 s2)).setCell ⟨w.heap.size,3,none⟩ (.slice p3 q3 s3)).setCell ⟨w.heap.size,4,none⟩ (.slice p4 q4 s4)).setCell ⟨w.heap.size,5,none⟩ (.slice p5 q5 s5) = w7 at *
     obtain ⟨le,hle1,hle2⟩ := FC.out.ent
     have HL1 := Lib.hid hle1
     have HL2 := Lib.hid hle2
     clear hle1 hle2
     have nb := newB w7 (.cells #[.int .i64 y1,.int .i64 y2,.int .i64 y3,.int .i64 y4,.slice u1 u2 u3,.int .i64 y6,.bool false] 66)
     have bx := box_new w7 #[.int .i64 y1,.int .i64 y2,.int .i64 y3,.int .i64 y4,.slice u1 u2 u3,.int .i64 y6,.bool false] 66
     have IN := Lib.hid (insert_anyN w3.heap.size (.slice p4 q4 s4) le k (y1,y2,y3,y4,(u1,u2,u3),y6,false) w7.heap.size _ (Bk.own_on HL1.out nb) bx (fun e => by
      obtain ⟨d,hd⟩ := tag_own HL1.out _ e
      have := hd.lt
      omega) (by rw [HL2.out.len]; exact KL.out) (by rw [HL2.out.len]; exact HF.out.ent) (Nat.le_trans SZ.out nb.size))
     have FB2 := Lib.hid (FB.out.on nb)
     have F22 := Lib.hid (F2.out.on nb)
     have F32 := Lib.hid (F3.out.on nb)
     have FO2 := Lib.hid (Bk.own_on FO.out nb)
     have FC2 := Lib.hid (FC.out.grow nb)
     have FL2 := Lib.hid (FL.out.trans (nb.mono FL.out.size))
     have HA2 := Lib.hid (HL2.out.mono fun _ _ q => q.grow nb)
     have HO2 := Lib.hid (tag_own (Bk.own_on HL1.out nb))
     have x4 := FB.out.cell 4
     simp only [List.getElem?_toArray,List.getElem?_cons_zero,List.getElem?_cons_succ] at x4
     obtain ⟨d0,d1,d2,d3,d4,d5,d6⟩ := F2.out.cs7
     clear nb bx
     go_wp2_with fail
     refine IN.out.mono ?_
     rintro e8 w8 ⟨v8,rfl,hown,hbel,hoth⟩
     clear x4
     clear d0 d1 d2 d3 d4 d5 d6
     generalize w7.alloc (.cells #[.int .i64 y1,.int .i64 y2,.int .i64 y3,.int .i64 y4,.slice u1 u2 u3,.int .i64 y6,.bool false] 66) = w7a at *
     obtain ⟨t1,t2,hv8⟩ := (Row.of_own hown).len
     subst hv8
     generalize (le.take k ++ (y1,y2,y3,y4,(u1,u2,u3),y6,false) :: le.drop k).length = tn at *
     have hoff : Off (Value.slice p4 q4 s4).ownBlock w7a w8 := ⟨hoth,hbel.size⟩
     have CP := Lib.hid (FC2.out.offN (ev' := (t1,tn,t2)) (el := insAt b.ent k { e with up := false }) hoff ⟨insAt le k (y1,y2,y3,y4,(u1,u2,u3),y6,false),by unfold insAt; rw [List.append_assoc]; exact hown,all2_ins (HA2.out.mono fun _ _ q => q.off hoff HO2.out (by decide)) k ⟨EE.out.1,EE.out.2.1,EE.out.2.2.1,rfl,Or.inr (hoff.own FO2.out HO2.out (by decide))⟩⟩)
     have G1 := hoff.box FB2.out HO2.out (by decide)
     have G3 := hoff.box F32.out HO2.out (by decide)
     have G2 := Lib.hid (show Box w8 (w.heap.size + 1) #[.int .i64 y1,.int .i64 y2,.int .i64 y3,.int .i64 y4,.slice u1 u2 u3,.int .i64 y6,.bool false] 66 from (hoth _ F22.out.lt (fun e => by
      have := own_blk HL1.out _ e.symm
      have := L4.out
      omega)).trans F22.out)
     have NC := Lib.hid (show Box (w8.setCell ⟨w.heap.size,4,none⟩ (.slice t1 tn t2)) w.heap.size #[.int .i64 b.me,.slice p1 q1 s1,.slice p2 q2 s2,.slice p3 q3 s3,.slice t1 tn t2,.slice p5 q5 s5] 28 by simpa using box_set (k := 4) G1 (.slice t1 tn t2))
     have MC := Lib.hid (CP.out.but (but_cell w8 w.heap.size 4 (.slice t1 tn t2)) G1)
     have M3 := Lib.hid ((but_cell w8 w.heap.size 4 (.slice t1 tn t2)).box G3 (by omega))
     have M2 := Lib.hid ((but_cell w8 w.heap.size 4 (.slice t1 tn t2)).box G2.out (by omega))
     have ML := Lib.hid (show Below w.heap.size w (w8.setCell ⟨w.heap.size,4,none⟩ (.slice t1 tn t2)) from (FL2.out.trans (hbel.mono (by have := L4.out; omega))).setCell (p := ⟨w.heap.size,4,none⟩) (Nat.le_refl _) _)
     have x4 := G1.cell 4
     have xf4 := G1.fr 4
     have xlt := G1.lt
     simp only [List.getElem?_toArray,List.getElem?_cons_zero,List.getElem?_cons_succ] at x4
     clear hown hbel hoth hoff G1 G2 G3 CP FB FB2 FC FC2 FO FO2 F2 F22 F3 F32 FL FL2 HL1 HL2 HA2 HO2 IN SZ
     go_upto_region 10 with fail
     clear x4 xf4 xlt
     generalize w8.setCell ⟨w.heap.size,4,none⟩ (.slice t1 tn t2) = w9 at *
     have Q1 := NC.out
     have Q2 := M2.out
     have Q3 := M3.out
     obtain ⟨x0,x1,x2,x3,x4,x5⟩ := Q1.cs6
     have d6 := Q2.cell 6
     simp only [List.getElem?_toArray,List.getElem?_cons_zero,List.getElem?_cons_succ] at d6
     obtain ⟨z0,z1,z2,z3,z4,z5⟩ := Q3.cs6
     obtain ⟨zf0,zf1,zf2,zf3,zf4,zf5⟩ := Q3.fs6
     have zlt := Q3.lt
     have FB := Lib.hid ((setB_box Q3 (.int .i64 b.me) (.slice p1 q1 s1) (.slice p2 q2 s2) (.slice p3 q3 s3) (.slice t1 tn t2) (.slice p5 q5 s5)).on (Below.refl _ _).drew)
     have FC := Lib.hid ((MC.out.but (but_setB w9 (w.heap.size + 1 + 1) (.int .i64 b.me) (.slice p1 q1 s1) (.slice p2 q2 s2) (.slice p3 q3 s3) (.slice t1 tn t2) (.slice p5 q5 s5)) Q3).grow (Below.refl _ _).drew)
     have FL := Lib.hid (setB_below (b := w.heap.size + 1 + 1) ML.out (by omega) (.int .i64 b.me) (.slice p1 q1 s1) (.slice p2 q2 s2) (.slice p3 q3 s3) (.slice t1 tn t2) (.slice p5 q5 s5)).drew
     clear Q1 Q2 Q3 NC MC M2 M3 ML
     go_wp2
     go_region
     all_goals simp only [Exit.then]
     all_goals apply_assumption
     all_goals
      clear x0 x1 x2 x3 x4 x5
      clear z0 z1 z2 z3 z4 z5 zf0 zf1 zf2 zf3 zf4 zf5 zlt
      clear d6
      unfold setB at FB FC FL
      generalize (((((((w9).setCell ⟨w.heap.size + 1 + 1,0,none⟩ (.int .i64 b.me)).setCell ⟨w.heap.size + 1 + 1,1,none⟩ (.slice p1 q1 s1)).setCell ⟨w.heap.size + 1 + 1,2,none⟩ (.slice p2 q2 s2)).setCell ⟨w.heap.size + 1 + 1,3,none⟩ (.slice p3 q3 s3)).setCell ⟨w.heap.size + 1 + 1,4,none⟩ (.slice t1 tn t2)).setCell ⟨w.heap.size + 1 + 1,5,none⟩ (.slice p5 q5 s5)).drew = wz at *
      obtain ⟨v0,v1,v2,v3,v4,v5⟩ := FB.out.cs6
      go_wp2
      refine bodyPost_ret (v := .tuple #[.agg #[.int .i64 b.me,.slice p1 q1 s1,.slice p2 q2 s2,.slice p3 q3 s3,.slice t1 tn t2,.slice p5 q5 s5],.bool false]) (by simp [results,Tryz.results94,go_sem,v0,v1,v2,v3,v4,v5]) rfl ?_
      rw [LQ.out]
      exact ⟨⟨(p1,q1,s1),(p2,q2,s2),(p3,q3,s3),(t1,tn,t2),(p5,q5,s5),rfl,FC.out.vbr,fun _ => ⟨_,FC.out.near⟩,fun _ => ⟨_,_,FC.out⟩⟩,FL.out⟩
  ·have LQ := Lib.hid (show addB b e = (b,false) from by
    rw [← addF_eq HR.out]
    unfold addF
    obtain ⟨a,h0,h1⟩ : ∃ a,findA b.adv e.tree = some a ∧ r4 = a.par := by
     rw [ET.out]
     rcases HI.out with ⟨h,_⟩ | ⟨_,h⟩
     ·cases h
     ·exact h
    rw [h0]
    simp only
    rw [if_pos (by rw [ET.out,ES.out,TH.out])])
   have Q1 := T1.out
   have Q3 := T3.out
   obtain ⟨x0,x1,x2,x3,x4,x5⟩ := Q1.cs6
   obtain ⟨z0,z1,z2,z3,z4,z5⟩ := Q3.cs6
   obtain ⟨zf0,zf1,zf2,zf3,zf4,zf5⟩ := Q3.fs6
   have zlt := Q3.lt
   have FB := Lib.hid (setB_box Q3 (.int .i64 b.me) (.slice no nn nc) (.slice ao an ac) (.slice so sn sc) (.slice eo en ec) (.slice oo on_ oc))
   have FL := Lib.hid (setB_below (b := w.heap.size + 1 + 1) BW.out (by omega) (.int .i64 b.me) (.slice no nn nc) (.slice ao an ac) (.slice so sn sc) (.slice eo en ec) (.slice oo on_ oc))
   clear Q1 Q3
   go_wp2_with fail
   clear z0 z1 z2 z3 z4 z5
   obtain ⟨v0,v1,v2,v3,v4,v5⟩ := FB.out.cs6
   refine bodyPost_ret (v := .tuple #[.agg #[.int .i64 b.me,.slice no nn nc,.slice ao an ac,.slice so sn sc,.slice eo en ec,.slice oo on_ oc],.bool false]) (by simp [results,Tryz.results94,go_sem,v0,v1,v2,v3,v4,v5]) rfl ?_
   rw [LQ.out]
   exact ⟨⟨(no,nn,nc),(ao,an,ac),(so,sn,sc),(eo,en,ec),(oo,on_,oc),rfl,HH.out.on FL.out,fun h => h.on FL.out,fun h => (h.resolve_right (by simp)).on FL.out⟩,FL.out⟩
end Go.Proofs.YtmklifheakemeaaGreat.Sb
namespace Go.Proofs.YtmklifheakemeaaGreat.Fl
open Go.RowKit Go.Sort Rw YtmklifheakemeaaGreat.Nm Pr Bk Av Rl Sb
theorem meets_d (av_ bv : Value) (p q : List C5) (w : World) (ha : RowC w av_ p) (hb : RowC w bv q) (hp : PredOk p) (hq : PredOk q) :
  Calls Tryz.prog 24 #[av_,bv] w fun e w' => e = .returned (.bool (meetsC p q)) ∧ Below w.heap.size w w' := by
 obtain ⟨a,na,rfl⟩ := hp
 obtain ⟨b,nb,rfl⟩ := hq
 unfold meetsC
 rw [unR_map,unR_map]
 exact rmeets_any av_ bv a b w ha hb na nb
structure JI (b0 b : Br) (k : Nat) : Prop where
 at_ : AdI b0 b k
 ok : OkBr b
 pe : ∀ e ∈ b.ent,PredOk e.p
theorem join_k {b : Br} (hok : OkBr b) (pe : ∀ e ∈ b.ent,PredOk e.p) (po : ∀ o ∈ b.own,PredOk o.p) (f : Int) (x : XID) (p : List C5) (o0 : List Ou) (k : Nat) (hk : k ≤ b.own.length) : JI b (foldK b.own (advF f x p) (b,o0) k).1 k ∧ (foldK b.own (advF f x p) (b,o0) k).2.length ≤ o0.length + k := by
 obtain ⟨h1,h2,h3⟩ := foldK_ok (l := b.own) (b0 := b) (o0 := o0) (fun o => meetsC o.p p) (fun o => advE x o) (fun _ => f) (fun e => PredOk e.p) pe (fun a ha _ => po a ha) k hk
 exact ⟨⟨h1,foldK_P OkBr hok (fun s o ho hs => step_ok hs _ _ _ (comes_own _) (hok.oko o ho)) k hk,h2⟩,h3⟩
theorem JI.few {b0 b : Br} {k : Nat} (h : JI b0 b k) (hf : Few b0) (hl : b0.ent.length + b0.own.length ≤ 900) (hk : k ≤ b0.own.length) : Few b := ⟨by rw [h.at_.near]; exact hf.near,by rw [h.at_.adv]; exact hf.adv,by rw [h.at_.seen]; exact hf.seen,by have := h.at_.len; omega,by rw [h.at_.own]; exact hf.own⟩
theorem JI.fewp {b0 b : Br} {k : Nat} (h : JI b0 b k) (hf : FewP b0) : FewP b := ⟨by rw [h.at_.adv]; exact hf.adv,fun e he => predOk_len (h.pe e he),by rw [h.at_.own]; exact hf.own⟩
def joinB (b : Br) (a : Ad) : Br × List Ou := foldK b.own (advF a.par a.id a.p) (b,[]) b.own.length
theorem join_any (b : Br) (s1 : Option Addr) (s2 s3 : Nat) (s4 : Option Addr) (s5 s6 : Nat) (s7 : Option Addr) (s8 s9 : Nat) (s10 : Option Addr) (s11 s12 : Nat) (s13 : Option Addr) (s14 s15 : Nat) (x1 x2 : Int) (pa : Option Addr) (pb pd : Nat) (par : Int) (p : List C5) (w : World) (h : BrC w b (s1,s2,s3) (s4,s5,s6) (s7,s8,s9) (s10,s11,s12) (s13,s14,s15)) (ha : RowC w (.slice pa pb pd) p) (hf : Few b) (hfp : FewP b) (l3 : b.ent.length + b.own.length ≤ 900) (hok : OkBr b) (pe : ∀ e ∈ b.ent,PredOk e.p) (po : ∀ o ∈ b.own,PredOk o.p) (pp : PredOk p) :
  Calls Tryz.prog 36 #[.agg #[.int .i64 b.me,.slice s1 s2 s3,.slice s4 s5 s6,.slice s7 s8 s9,.slice s10 s11 s12,.slice s13 s14 s15],.agg #[.int .i64 x1,.int .i64 x2,.slice pa pb pd,.int .i64 par]] w fun e w' => (∃ (nv av sv ev ov s : Sl) (lx : List XOu),e = .returned (.tuple #[brv b.me nv av sv ev ov,slv s]) ∧ BrC w' (joinB b ⟨(x1,x2),p,par⟩).1 nv av sv ev ov ∧ OuR w' w.heap.size (slv s) lx (joinB b ⟨(x1,x2),p,par⟩).2) ∧ Below w.heap.size w w' := by
 have HP := Lib.hid ha
 have HF := Lib.hid hf
 have FP := Lib.hid hfp
 have L3 := Lib.hid l3
 have PP := Lib.hid pp
 have PO := Lib.hid po
 have FO := Lib.hid (join_k hok pe po par (x1,x2) p [])
 have JB := Lib.hid (show joinB b ⟨(x1,x2),p,par⟩ = (foldK b.own (advF par (x1,x2) p) (b,[]) b.own.length) from rfl)
 obtain ⟨h0,h1,h2,h3⟩ := three_new w #[.int .i64 b.me,.slice s1 s2 s3,.slice s4 s5 s6,.slice s7 s8 s9,.slice s10 s11 s12,.slice s13 s14 s15] #[.int .i64 x1,.int .i64 x2,.slice pa pb pd,.int .i64 par] #[.int .i64 0,.slice none 0 0,.slice none 0 0,.slice none 0 0,.slice none 0 0,.slice none 0 0] 28 74 28
 obtain ⟨me,hme⟩ : ∃ me,me = b.me := ⟨_,rfl⟩
 have ME := Lib.hid hme
 simp only [← hme] at h0 h1 h2 h3 ⊢
 obtain ⟨lw,ho1,ho2⟩ := h.br.own
 have HOB := Lib.hid (h.on h0)
 have GB_1 := Lib.hid (h0)
 have X2_2 := Lib.hid (h1)
 have X3_3 := Lib.hid (h2)
 have X4_4 := Lib.hid (h3)
 have BC_5 := Lib.hid (h.on h0)
 have PR_6 := Lib.hid (ha.on h0)
 obtain ⟨n5,hn5⟩ : ∃ n,n = b.own.length := ⟨_,rfl⟩
 have N5 := Lib.hid hn5
 have SO := Lib.hid (show s14 = n5 from by
  obtain ⟨_,_,hv⟩ := ho1.len
  have h4 : s14 = lw.length := by simpa using congrArg (fun v => match v with | Value.slice _ n _ => n | _ => 0) hv
  rw [hn5,h4,ho2.len])
 have N9 := Lib.hid (show n5 ≤ 900 from by rw [hn5]; exact hf.own)
 rw [JB.out]
 clear h0 h1 h2 h3 h ha hf hfp l3 hok pe po pp ho1 ho2 lw hme hn5 HOB
 have so := SO.out
 subst so
 go_enter Tryz.func36,Tryz.ntmps36
 go_upto_region 1 with fail
 generalize (((w.alloc (.cells #[.int .i64 me,.slice s1 s2 s3,.slice s4 s5 s6,.slice s7 s8 s9,.slice s10 s11 s12,.slice s13 s14 s15] 28)).alloc (.cells #[.int .i64 x1,.int .i64 x2,.slice pa pb pd,.int .i64 par] 74)).alloc (.cells #[.int .i64 0,.slice none 0 0,.slice none 0 0,.slice none 0 0,.slice none 0 0,.slice none 0 0] 28)) = W at *
 have WS := Lib.hid GB_1.out.size
 have X4L := Lib.hid (show w.heap.size + 1 + 1 < W.heap.size from X4_4.out.lt)
 obtain ⟨c0,c1,c2,c3,c4,c5⟩ := X2_2.out.cs6
 go_wp2_with fail
 clear c0 c1 c2 c3 c4 c5
 go_loopw [6,14] (fun v i wr => ∃ (k : Nat) (m1 : Option Addr) (m2 m3 : Nat) (m4 : Option Addr) (m5 m6 : Nat) (m7 : Option Addr) (m8 m9 : Nat) (m10 : Option Addr) (m11 m12 : Nat) (m13 : Option Addr) (m14 m15 : Nat) (lx : List XOu),k ≤ s14 ∧ i = .int .i64 k ∧ Below w.heap.size w wr ∧ Box wr w.heap.size #[.int .i64 me,.slice m1 m2 m3,.slice m4 m5 m6,.slice m7 m8 m9,.slice m10 m11 m12,.slice m13 m14 m15] 28 ∧ Box wr (w.heap.size + 1) #[.int .i64 x1,.int .i64 x2,.slice pa pb pd,.int .i64 par] 74 ∧ Box wr (w.heap.size + 1 + 1) #[.int .i64 0,.slice none 0 0,.slice none 0 0,.slice none 0 0,.slice none 0 0,.slice none 0 0] 28 ∧ BrC wr b (s1,s2,s3) (s4,s5,s6) (s7,s8,s9) (s10,s11,s12) (s13,s14,s15) ∧ BrC wr (foldK b.own (advF par (x1,x2) p) (b,[]) k).1 (m1,m2,m3) (m4,m5,m6) (m7,m8,m9) (m10,m11,m12) (m13,m14,m15) ∧ OuR wr W.heap.size v lx (foldK b.own (advF par (x1,x2) p) (b,[]) k).2 ∧ W.heap.size ≤ wr.heap.size) (fun _ i _ => s14 - (intOf i).toNat)
 case atStart => exact ⟨0,s1,s2,s3,s4,s5,s6,s7,s8,s9,s10,s11,s12,s13,s14,s15,[],Nat.zero_le _,rfl,GB_1.out,X2_2.out,X3_3.out,X4_4.out,BC_5.out,BC_5.out,OuR.nil _ _,Nat.le_refl _⟩
 case round =>
  clear GB_1 X2_2 X3_3 X4_4 BC_5 PR_6
  obtain ⟨k,m1,m2,m3,m4,m5,m6,m7,m8,m9,m10,m11,m12,m13,m14,m15,lx,hk,rfl,hgb,hx2,hx3,hx4,hbc,hbm,hou,hws⟩ := hrel
  have GB_27 := Lib.hid (hgb)
  have X2_28 := Lib.hid (hx2)
  have X3_29 := Lib.hid (hx3)
  have X4_30 := Lib.hid (hx4)
  have BC_31 := Lib.hid (hbc)
  have BM_32 := Lib.hid (hbm)
  have OU_33 := Lib.hid (hou)
  have HW := Lib.hid hws
  clear hgb hx2 hx3 hx4 hbc hbm hou hws
  obtain ⟨hji,hol⟩ := FO.out k (by rw [← N5.out]; exact hk)
  have KI := Lib.hid hji
  have OL := Lib.hid hol
  clear hji hol
  by_cases hlt : k < s14
  ·have hlt' : (k : Int) < (s14 : Int) := by omega
   have hw : IntKind.i64.wrap ((k : Int) + 1) = (k : Int) + 1 := IntWalk.i64_in _ (by have := N9.out; omega)
   obtain ⟨o,hok_⟩ : ∃ o,b.own[k]? = some o := ⟨_,List.getElem?_eq_getElem (by rw [← N5.out]; exact hlt)⟩
   have US := Lib.hid (foldK_succ (advF par (x1,x2) p) (b,[]) hok_)
   have OKO := Lib.hid (PO.out o (List.mem_of_getElem? hok_))
   obtain ⟨lw,ho1,ho2⟩ := BC_31.out.br.own
   obtain ⟨z,hz1,hz2⟩ := ho2.at k o hok_
   obtain ⟨pq,ix,px⟩ := elW ho1 rfl (by rw [ho2.len]; exact N5.out.symm) hz1
   obtain ⟨p0,p1,p2⟩ := px wr (Below.refl _ _)
   obtain ⟨y1,y2,⟨yo,yn,yc⟩⟩ := z
   have ZI := Lib.hid (show o.id = (y1,y2) from hz2.1.symm)
   have PO_ := Lib.hid (show RowC wr (.slice yo yn yc) o.p from hz2.2)
   simp only at p0 p1 p2
   clear px hz1 hz2 ho1 ho2 lw hok_
   go_upto_region 5 with fail
   clear p0 p1 p2 ix
   have NN := newB wr (.cells #[.int .i64 y1,.int .i64 y2,.slice yo yn yc] 34)
   have GB_34 := Lib.hid (GB_27.out.trans (NN.mono GB_27.out.size))
   have X2_34 := Lib.hid (X2_28.out.on NN)
   have X3_34 := Lib.hid (X3_29.out.on NN)
   have X4_34 := Lib.hid (X4_30.out.on NN)
   have BC_34 := Lib.hid (BC_31.out.on NN)
   have BM_34 := Lib.hid (BM_32.out.on NN)
   have OU_34 := Lib.hid (OU_33.out.on NN)
   have PO__34 := Lib.hid (PO_.out.on NN)
   clear GB_27 X2_28 X3_29 X4_30 BC_31 BM_32 OU_33 PO_
   have XO_35 := Lib.hid (box_new wr #[.int .i64 y1,.int .i64 y2,.slice yo yn yc] 34)
   clear NN
   have HW2 := Lib.hid (show W.heap.size ≤ (wr.alloc (.cells #[.int .i64 y1,.int .i64 y2,.slice yo yn yc] 34)).heap.size from by have := HW.out; simp; omega)
   clear HW
   skip
   generalize hwa : wr.alloc (.cells #[.int .i64 y1,.int .i64 y2,.slice yo yn yc] 34) = wa at *
   have XOB := Lib.hid (show wr.heap.size < wa.heap.size from XO_35.out.lt)
   clear hwa
   obtain ⟨mt,hmt⟩ : ∃ r,meetsC o.p p = r := ⟨_,rfl⟩
   have MT := Lib.hid (meets_d (.slice yo yn yc) (.slice pa pb pd) o.p p wa PO__34.out (HP.out.on GB_34.out) OKO.out PP.out)
   rw [hmt] at MT
   have US2 := Lib.hid (show (foldK b.own (advF par (x1,x2) p) (b,[]) (k + 1)) = addStep (foldK b.own (advF par (x1,x2) p) (b,[]) k) mt (advE (x1,x2) o) par from by rw [← hmt]; exact US.out)
   clear hmt US
   obtain ⟨z0,z1,z2⟩ := XO_35.out.cs3
   obtain ⟨a_0,a_1,a_2,a_3⟩ := X3_34.out.cs4
   go_wp2_with fail
   refine MT.out.mono ?_
   rintro e4 wb ⟨rfl,hb⟩
   clear MT
   clear z0 z1 z2 a_0 a_1 a_2 a_3
   have GB_36 := Lib.hid (GB_34.out.trans (hb.mono GB_34.out.size))
   have X2_36 := Lib.hid (X2_34.out.on hb)
   have X3_36 := Lib.hid (X3_34.out.on hb)
   have X4_36 := Lib.hid (X4_34.out.on hb)
   have BC_36 := Lib.hid (BC_34.out.on hb)
   have BM_36 := Lib.hid (BM_34.out.on hb)
   have OU_36 := Lib.hid (OU_34.out.on hb)
   have PO__36 := Lib.hid (PO__34.out.on hb)
   have XO_36 := Lib.hid (XO_35.out.on hb)
   clear GB_34 X2_34 X3_34 X4_34 BC_34 BM_34 OU_34 PO__34 XO_35
   have HW3 := Lib.hid (Nat.le_trans HW2.out hb.size)
   clear hb HW2
   cases mt
   ·have US3 := Lib.hid (show (foldK b.own (advF par (x1,x2) p) (b,[]) (k + 1)) = (foldK b.own (advF par (x1,x2) p) (b,[]) k) from by rw [US2.out]; rfl)
    go_wp2_with fail
    go_roundw
    case rel => exact ⟨k + 1,m1,m2,m3,m4,m5,m6,m7,m8,m9,m10,m11,m12,m13,m14,m15,lx,hlt,by go_num,GB_36.out,X2_36.out,X3_36.out,X4_36.out,BC_36.out,by rw [US3.out]; exact BM_36.out,by rw [US3.out]; exact OU_36.out,HW3.out⟩
    case measure => simp [intOf]; omega
   ·have z0 := XO_36.out.cell 0
    have z1 := XO_36.out.cell 1
    have z2 := XO_36.out.cell 2
    simp only [List.getElem?_toArray,List.getElem?_cons_zero,List.getElem?_cons_succ] at z0 z1 z2
    obtain ⟨a_0,a_1,a_2,a_3⟩ := X3_36.out.cs4
    go_upto_region 8 with fail
    clear z0 z1 z2 a_0 a_1 a_2 a_3
    have NN := newB wb (.cells #[.int .i64 x1,.int .i64 x2,.int .i64 y1,.int .i64 y2,.slice yo yn yc,.int .i64 (-1),.bool false] 66)
    have GB_37 := Lib.hid (GB_36.out.trans (NN.mono GB_36.out.size))
    have X2_37 := Lib.hid (X2_36.out.on NN)
    have X3_37 := Lib.hid (X3_36.out.on NN)
    have X4_37 := Lib.hid (X4_36.out.on NN)
    have BC_37 := Lib.hid (BC_36.out.on NN)
    have BM_37 := Lib.hid (BM_36.out.on NN)
    have OU_37 := Lib.hid (OU_36.out.on NN)
    have PO__37 := Lib.hid (PO__36.out.on NN)
    have XO_37 := Lib.hid (XO_36.out.on NN)
    clear GB_36 X2_36 X3_36 X4_36 BC_36 BM_36 OU_36 PO__36 XO_36
    have XE_38 := Lib.hid (box_new wb #[.int .i64 x1,.int .i64 x2,.int .i64 y1,.int .i64 y2,.slice yo yn yc,.int .i64 (-1),.bool false] 66)
    clear NN
    generalize hwc : wb.alloc (.cells #[.int .i64 x1,.int .i64 x2,.int .i64 y1,.int .i64 y2,.slice yo yn yc,.int .i64 (-1),.bool false] 66) = wc at *
    have HWC := Lib.hid (show W.heap.size ≤ wc.heap.size from by rw [← hwc]; have := HW3.out; simp; omega)
    clear hwc HW3
    generalize wb.heap.size = bE at *
    have AD := Lib.hid (sadd_own (foldK b.own (advF par (x1,x2) p) (b,[]) k).1 (advE (x1,x2) o) (m1,m2,m3) (m4,m5,m6) (m7,m8,m9) (m10,m11,m12) (m13,m14,m15) (x1,x2,y1,y2,(yo,yn,yc),-1,false) wc BM_37.out.br ⟨rfl,ZI.out.symm,rfl,rfl,PO__37.out⟩ (KI.out.few HF.out L3.out (by rw [← N5.out]; exact hk)) (KI.out.fewp FP.out) KI.out.ok.ent KI.out.pe OKO.out)
    rw [KI.out.at_.me,← ME.out] at AD
    obtain ⟨x0,x1,x2,x3,x4,x5⟩ := X2_37.out.cs6
    obtain ⟨z0,z1,z2,z3,z4,z5,z6⟩ := XE_38.out.cs7
    go_wp2_with fail
    refine AD.out.mono ?_
    rintro e5 wd ⟨⟨⟨j1,j2,j3⟩,⟨j4,j5,j6⟩,⟨j7,j8,j9⟩,⟨j10,j11,j12⟩,⟨j13,j14,j15⟩,rfl,hr,hno,hx⟩,hb⟩
    clear AD
    clear x0 x1 x2 x3 x4 x5 z0 z1 z2 z3 z4 z5 z6
    have BX := Lib.hid (hx (Or.inl BM_37.out))
    clear hr hno hx
    clear BM_37
    have GB_39 := Lib.hid (GB_37.out.trans (hb.mono GB_37.out.size))
    have X2_39 := Lib.hid (X2_37.out.on hb)
    have X3_39 := Lib.hid (X3_37.out.on hb)
    have X4_39 := Lib.hid (X4_37.out.on hb)
    have BC_39 := Lib.hid (BC_37.out.on hb)
    have OU_39 := Lib.hid (OU_37.out.on hb)
    have PO__39 := Lib.hid (PO__37.out.on hb)
    have XO_39 := Lib.hid (XO_37.out.on hb)
    have XE_39 := Lib.hid (XE_38.out.on hb)
    clear GB_37 X2_37 X3_37 X4_37 BC_37 OU_37 PO__37 XO_37 XE_38
    have HWD := Lib.hid (Nat.le_trans HWC.out hb.size)
    clear hb HWC
    obtain ⟨up,hup⟩ : ∃ r,(addB (foldK b.own (advF par (x1,x2) p) (b,[]) k).1 (advE (x1,x2) o)).2 = r := ⟨_,rfl⟩
    rw [show (addB (foldK b.own (advF par (x1,x2) p) (b,[]) k).1 (advE (x1,x2) o)).1.me = me from by rw [(addB_same _ _).1,KI.out.at_.me,ME.out]]
    rw [hup]
    have US3 := Lib.hid (show (foldK b.own (advF par (x1,x2) p) (b,[]) (k + 1)) = ((addB (foldK b.own (advF par (x1,x2) p) (b,[]) k).1 (advE (x1,x2) o)).1,if up = true then (foldK b.own (advF par (x1,x2) p) (b,[]) k).2 ++ [subE par (advE (x1,x2) o)] else (foldK b.own (advF par (x1,x2) p) (b,[]) k).2) from by rw [US2.out]; unfold addStep; rw [if_neg (by simp),hup])
    clear hup US2
    have NEB := Lib.hid (show bE ≠ w.heap.size from fun e => by have h1 := XE_39.out; have h2 := X2_39.out; unfold Box at h1 h2; rw [e] at h1; rw [h1] at h2; injection h2 with h2; injection h2 with h2; simp at h2)
    have HWX := Lib.hid (show W.heap.size ≤ (setB wd w.heap.size (.int .i64 me) (.slice j1 j2 j3) (.slice j4 j5 j6) (.slice j7 j8 j9) (.slice j10 j11 j12) (.slice j13 j14 j15)).heap.size from by have := HWD.out; simp [setB]; omega)
    clear HWD
    clear XO_39
    obtain ⟨k0,k1,k2,k3,k4,k5⟩ := X2_39.out.cs6
    obtain ⟨kf0,kf1,kf2,kf3,kf4,kf5⟩ := X2_39.out.fs6
    have zz := X2_39.out.lt
    have bs := Go.Proofs.YtmklifheakemeaaGreat.Av.but_setB wd w.heap.size (.int .i64 me) (.slice j1 j2 j3) (.slice j4 j5 j6) (.slice j7 j8 j9) (.slice j10 j11 j12) (.slice j13 j14 j15)
    have G0 := Lib.hid (setB_below (b := w.heap.size) GB_39.out (Nat.le_refl _) (.int .i64 me) (.slice j1 j2 j3) (.slice j4 j5 j6) (.slice j7 j8 j9) (.slice j10 j11 j12) (.slice j13 j14 j15))
    have G1 := Lib.hid (bs.box X3_39.out (by omega))
    have G2 := Lib.hid (bs.box X4_39.out (by omega))
    have G3 := Lib.hid (BC_39.out.but2 bs X2_39.out (by decide) (by decide) (by decide) (by decide) (by decide) (by decide))
    have G4 := Lib.hid (BX.out.but2 bs X2_39.out (by decide) (by decide) (by decide) (by decide) (by decide) (by decide))
    have G5 := Lib.hid (OU_39.out.but bs X2_39.out (by decide) (by decide))
    have G6 := Lib.hid (bs.box XE_39.out NEB.out)
    have G7 := Lib.hid (mid_pred (s1 := (m1,m2,m3)) (s2 := (m4,m5,m6)) (s3 := (m7,m8,m9)) (s4 := (m10,m11,m12)) (s5 := (m13,m14,m15)) X2_39.out bs PO__39.out)
    have G8 := Lib.hid (setB_box X2_39.out (.int .i64 me) (.slice j1 j2 j3) (.slice j4 j5 j6) (.slice j7 j8 j9) (.slice j10 j11 j12) (.slice j13 j14 j15))
    clear bs GB_39 X3_39 X4_39 BC_39 BX OU_39 XE_39 PO__39 X2_39
    go_upto_region 9 with fail
    clear zz k0 k1 k2 k3 k4 k5 kf0 kf1 kf2 kf3 kf4 kf5
    unfold setB at G0 G1 G2 G3 G4 G5 G6 G7 G8 HWX
    generalize ((((((wd.setCell ⟨w.heap.size,0,none⟩ (.int .i64 me)).setCell ⟨w.heap.size,1,none⟩ (.slice j1 j2 j3)).setCell ⟨w.heap.size,2,none⟩ (.slice j4 j5 j6)).setCell ⟨w.heap.size,3,none⟩ (.slice j7 j8 j9)).setCell ⟨w.heap.size,4,none⟩ (.slice j10 j11 j12)).setCell ⟨w.heap.size,5,none⟩ (.slice j13 j14 j15)) = we at *
    have GB_40 := Lib.hid (G0.out)
    have X3_41 := Lib.hid (G1.out)
    have X4_42 := Lib.hid (G2.out)
    have BC_43 := Lib.hid (G3.out)
    have BX_44 := Lib.hid (G4.out)
    have OU_45 := Lib.hid (G5.out)
    have XE_46 := Lib.hid (G6.out)
    have PO__47 := Lib.hid (G7.out)
    have X2_48 := Lib.hid (G8.out)
    clear G0 G1 G2 G3 G4 G5 G6 G7 G8
    cases up
    ·have US4 := Lib.hid (show (foldK b.own (advF par (x1,x2) p) (b,[]) (k + 1)) = ((addB (foldK b.own (advF par (x1,x2) p) (b,[]) k).1 (advE (x1,x2) o)).1,(foldK b.own (advF par (x1,x2) p) (b,[]) k).2) from by rw [US3.out]; simp)
     go_wp2_with fail
     go_roundw
     case rel => exact ⟨k + 1,j1,j2,j3,j4,j5,j6,j7,j8,j9,j10,j11,j12,j13,j14,j15,lx,hlt,by go_num,GB_40.out,X2_48.out,X3_41.out,X4_42.out,BC_43.out,by rw [US4.out]; exact BX_44.out,by rw [US4.out]; exact OU_45.out,HWX.out⟩
     case measure => simp [intOf]; omega
    ·have US4 := Lib.hid (show (foldK b.own (advF par (x1,x2) p) (b,[]) (k + 1)) = ((addB (foldK b.own (advF par (x1,x2) p) (b,[]) k).1 (advE (x1,x2) o)).1,(foldK b.own (advF par (x1,x2) p) (b,[]) k).2 ++ [subE par (advE (x1,x2) o)]) from by rw [US3.out]; simp)
     go_upto_region 10 with fail
     refine jo10 _ we (w.heap.size + 1) bE W.heap.size x1 x2 pa pb pd par x1 x2 y1 y2 yo yn yc (-1) false o.p _ lx (foldK b.own (advF par (x1,x2) p) (b,[]) k).2 _ _ _ _ _ _ _ _ _ _ _ _ _ _ _ _ _ _ _ _ _ _ _ _ _ _ _ _ _ _ _ _ _ _ _ _ _ _ _ _ _ _ _ _ _ _ X3_41.out XE_46.out OU_45.out HWX.out (by rw [OU_45.out.len]; have h1 := OL.out; have h2 := N9.out; simp at h1; omega) PO__47.out (predOk_len OKO.out) ?_
     intro x w6 s v38 v39 v40 v41 v42 v43 v44 v45 hou hbl hbx hmx _
     have V0 := Lib.hid (GB_40.out.trans (hbl.mono (Nat.le_trans (Nat.le_of_lt (show w.heap.size < W.heap.size from by have := X4L.out; omega)) (Nat.le_refl _))))
     have V1 := Lib.hid (hbx _ _ _ (by decide) X2_48.out)
     have V2 := Lib.hid (hbx _ _ _ (by decide) X3_41.out)
     have V3 := Lib.hid (hbx _ _ _ (by decide) X4_42.out)
     have V4 := Lib.hid (hmx _ _ _ _ _ _ BC_43.out)
     have V5 := Lib.hid (hmx _ _ _ _ _ _ BX_44.out)
     have V6 := Lib.hid hou
     have V7 := Lib.hid (Nat.le_trans HWX.out hbl.size)
     clear hou hbl hbx hmx
     go_wp2_with fail
     go_roundw
     case rel => exact ⟨k + 1,j1,j2,j3,j4,j5,j6,j7,j8,j9,j10,j11,j12,j13,j14,j15,_,hlt,by go_num,V0.out,V1.out,V2.out,V3.out,V4.out,by rw [US4.out]; exact V5.out,by rw [US4.out,show subE par (advE (x1,x2) o) = ⟨par,3,(x1,x2),(y1,y2),o.p⟩ from by unfold subE advE; rw [ZI.out]]; exact V6.out,V7.out⟩
     case measure => simp [intOf]; omega
  ·obtain rfl : k = s14 := by omega
   have HJ := Lib.hid (show k = b.own.length from N5.out)
   obtain ⟨x0,x1,x2,x3,x4,x5⟩ := X2_28.out.cs6
   obtain ⟨r0,r1,r2,r3,r4,r5⟩ := X4_30.out.cs6
   obtain ⟨rf0,rf1,rf2,rf3,rf4,rf5⟩ := X4_30.out.fs6
   have zz := X4_30.out.lt
   have bs := Go.Proofs.YtmklifheakemeaaGreat.Av.but_setB wr (w.heap.size + 1 + 1) (.int .i64 me) (.slice m1 m2 m3) (.slice m4 m5 m6) (.slice m7 m8 m9) (.slice m10 m11 m12) (.slice m13 m14 m15)
   have GG := Lib.hid (setB_box X4_30.out (.int .i64 me) (.slice m1 m2 m3) (.slice m4 m5 m6) (.slice m7 m8 m9) (.slice m10 m11 m12) (.slice m13 m14 m15))
   have BL := Lib.hid (setB_below (b := w.heap.size + 1 + 1) GB_27.out (by omega) (.int .i64 me) (.slice m1 m2 m3) (.slice m4 m5 m6) (.slice m7 m8 m9) (.slice m10 m11 m12) (.slice m13 m14 m15))
   have HC := Lib.hid (BM_32.out.but2 bs X4_30.out (by decide) (by decide) (by decide) (by decide) (by decide) (by decide))
   have HO := Lib.hid (OU_33.out.but bs X4_30.out (by decide) (by decide))
   obtain ⟨va,vc,hv⟩ := (Row.of_own OU_33.out.row).len
   subst hv
   clear bs
   go_wp2_with fail
   obtain ⟨v0,v1,v2,v3,v4,v5⟩ := GG.out.cs6
   refine bodyPost_ret (v := .tuple #[.agg #[.int .i64 me,.slice m1 m2 m3,.slice m4 m5 m6,.slice m7 m8 m9,.slice m10 m11 m12,.slice m13 m14 m15],.slice va lx.length vc]) (by simp [results,Tryz.results36,go_sem,v0,v1,v2,v3,v4,v5]) rfl ?_
   rw [← HJ.out]
   exact ⟨⟨(m1,m2,m3),(m4,m5,m6),(m7,m8,m9),(m10,m11,m12),(m13,m14,m15),(va,lx.length,vc),lx,by rw [ME.out],HC.out,HO.out.le (by have := WS.out; omega)⟩,BL.out⟩
end Go.Proofs.YtmklifheakemeaaGreat.Fl
