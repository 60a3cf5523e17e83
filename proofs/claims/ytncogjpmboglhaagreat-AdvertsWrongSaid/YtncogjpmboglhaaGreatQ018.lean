/-
  The two loops of Learn that look for a place. Conditions as told.
-/
import Derived.Test.YtncogjpmboglhaaGreatQ014
import Derived.Lib.QuietBelow
import Derived.BigQuiet
import Derived.Test.YtncogjpmboglhaaGreatQ017
import Derived.Test.YtncogjpmboglhaaGreatQ007
import Derived.Test.YtncogjpmboglhaaGreatQ012
import Derived.Deep.RegionLaw
set_option maxRecDepth 100000
set_option maxHeartbeats 64000000
namespace Go.Proofs.YtncogjpmboglhaaGreat.Bk
open Go.RowKit Go.Sort Rw YtncogjpmboglhaaGreat.Nm Pr
noncomputable def learnB2 : Code := ((Tryz.f22.body.bind (findBlock 2)).getD .skip)
theorem learn_b2 (Q : Exit → Act → World → Prop) (W : World) (b2 b3 : Nat) (me c d : Int) (y1 y3 y4 y5 p3 q3 : Value) (so : Option Addr) (n sc : Nat) (l : List XAd) (u0 u1 u4 u5 u7 u8 u9 u10 u11 u12 u13 u14 u15 u16 u17 u18 u19 u20 u21 u22 u23 u24 u25 u26 u27 u28 u29 u30 u31 u32 u33 u34 u35 u36 u37 u38 u39 u40 u41 u42 u43 u44 u45 u46 u47 u48 u49 u50 u51 u52 u53 u54 u55 u56 u57 u58 u59 u60 u61 u62 u63 u64 u65 u66 u67 u68 u69 u70 u71 u72 u73 u74 u75 u76 u77 u78 : Value)
  (h2 : Box W b2 #[.int .i64 me,y1,.slice so n sc,y3,y4,y5] 31) (h3 : Box W b3 #[.int .i64 c,.int .i64 d,p3,q3] 41) (hs : RowD W (.slice so n sc) l) (hn : n = l.length) (hm : n ≤ 1000000)
  (hQ : ∀ (wr : World) (v45 v46 v47 v48 v49 v50 v51 v52 v53 v54 v55 v56 v57 v58 v59 v60 v61 v62 : Value),Below W.heap.size W wr → Q .normal ⟨(u0 :: u1 :: .pointer (some ⟨b2,0,none⟩) :: .pointer (some ⟨b3,0,none⟩) :: u4 :: u5 :: .int .i64 (placeI (l.map fun y => (y.1,y.2.1)) (c,d) : Nat) :: u7 :: u8 :: u9 :: u10 :: u11 :: u12 :: u13 :: u14 :: u15 :: u16 :: u17 :: u18 :: u19 :: u20 :: u21 :: u22 :: u23 :: u24 :: u25 :: u26 :: u27 :: u28 :: u29 :: u30 :: u31 :: u32 :: u33 :: u34 :: u35 :: u36 :: u37 :: u38 :: u39 :: u40 :: u41 :: u42 :: u43 :: u44 :: v45 :: v46 :: v47 :: v48 :: v49 :: v50 :: v51 :: v52 :: v53 :: v54 :: v55 :: v56 :: v57 :: v58 :: v59 :: v60 :: v61 :: v62 :: u63 :: u64 :: u65 :: u66 :: u67 :: u68 :: u69 :: u70 :: u71 :: u72 :: u73 :: u74 :: u75 :: u76 :: u77 :: u78 :: []).toArray,[]⟩ wr) :
  Code.wp Tryz.prog learnB2 Q ⟨(u0 :: u1 :: .pointer (some ⟨b2,0,none⟩) :: .pointer (some ⟨b3,0,none⟩) :: u4 :: u5 :: .int .i64 0 :: u7 :: u8 :: u9 :: u10 :: u11 :: u12 :: u13 :: u14 :: u15 :: u16 :: u17 :: u18 :: u19 :: u20 :: u21 :: u22 :: u23 :: u24 :: u25 :: u26 :: u27 :: u28 :: u29 :: u30 :: u31 :: u32 :: u33 :: u34 :: u35 :: u36 :: u37 :: u38 :: u39 :: u40 :: u41 :: u42 :: u43 :: u44 :: u45 :: u46 :: u47 :: u48 :: u49 :: u50 :: u51 :: u52 :: u53 :: u54 :: u55 :: u56 :: u57 :: u58 :: u59 :: u60 :: u61 :: u62 :: u63 :: u64 :: u65 :: u66 :: u67 :: u68 :: u69 :: u70 :: u71 :: u72 :: u73 :: u74 :: u75 :: u76 :: u77 :: u78 :: []).toArray,[]⟩ W := by
 have HQ := Lib.hid hQ
 have H2 := Lib.hid h2
 have H3 := Lib.hid h3
 have HS := Lib.hid hs
 have HN := Lib.hid hn
 clear hQ h2 h3 hs hn
 conv => arg 2; whnf
 go_wp2
 go_loopw [6] (fun i wr => ∃ k : Nat,k ≤ n ∧ i = .int .i64 k ∧ Below W.heap.size W wr ∧ ∀ (j : Nat) (y : Id),j < k → (l.map fun y => (y.1,y.2.1))[j]? = some y → lessI y (c,d) = true) (fun i _ => n - (intOf i).toNat)
 case atStart => exact ⟨0,Nat.zero_le _,rfl,Below.refl _ _,fun j y h => by omega⟩
 case round =>
  obtain ⟨k,hk,rfl,hbe,hall⟩ := hrel
  have BE := Lib.hid hbe
  have AL := Lib.hid hall
  clear hbe hall
  have q0 := cell_regrown (show wr.cell? ⟨b2,2,none⟩ = some (.slice so n sc) from (H2.out.on BE.out).cell 2)
  have r0 := cell_regrown (show wr.cell? ⟨b3,0,none⟩ = some (.int .i64 c) from (H3.out.on BE.out).cell 0)
  have r1 := cell_regrown (show wr.cell? ⟨b3,1,none⟩ = some (.int .i64 d) from (H3.out.on BE.out).cell 1)
  have hw3 : IntKind.i64.wrap ((k : Int) + 1) = (k : Int) + 1 := IntWalk.i64_in _ (by omega)
  by_cases hlt : k < n
  ·obtain ⟨y,hy⟩ : ∃ y,l[k]? = some y := ⟨_,List.getElem?_eq_getElem (by rw [← HN.out]; exact hlt)⟩
   obtain ⟨p,ix,px⟩ := elD HS.out rfl HN.out.symm hy
   have px2 := px wr BE.out
   obtain ⟨y1,y2,⟨y3o,y3n,y3c⟩,y4⟩ := y
   simp only at px2
   have p0 := cell_regrown px2.1
   have p1 := cell_regrown px2.2.1
   have dlt : decide ((k : Int) < (n : Int)) = true := decide_eq_true (by omega)
   have dln : decide (k < n) = true := decide_eq_true hlt
   obtain ⟨r,hr⟩ : ∃ r,lessI (y1,y2) (c,d) = r := ⟨_,rfl⟩
   have LS := Lib.hid (fun d' os => Calls.regrown_of (d := d') (os := os) ((less_any (y1,y2) (c,d) (grow (redrawn wr d') os)).mono fun _ _ h => ⟨by rw [h.1,hr],h.2⟩))
   have HY := Lib.hid (show (l.map fun y => (y.1,y.2.1))[k]? = some (y1,y2) by rw [List.getElem?_map,hy]; rfl)
   have HR := Lib.hid hr
   clear px px2 hy hr
   cases r
   ·go_wp2_with fail
    refine wp_region_quiet_below (by kernel_rfl) (by kernel_rfl) ?_
    repeat (go_big_quiet_step (first | (with_reducible exact LS.out _ _)))
    refine wpQuiet_nil ?_
    intro _ hw'
    obtain ⟨⟨dq,osq⟩,hw''⟩ := hw'
    subst hw''
    have Z6 := below_regrown wr dq osq
    have HF := Lib.hid (fun v45 v46 v47 v48 v49 v50 v51 v52 v53 v54 v55 v56 v57 v58 v59 v60 v61 v62 => HQ.out (grow (redrawn wr dq) osq) v45 v46 v47 v48 v49 v50 v51 v52 v53 v54 v55 v56 v57 v58 v59 v60 v61 v62 (BE.out.trans (Z6.mono BE.out.size)))
    rw [place_is (l.map fun y => (y.1,y.2.1)) (c,d) k AL.out (Or.inr ⟨_,HY.out,HR.out⟩)] at HF
    clear ix HQ q0 r0 r1 LS dlt dln p0 p1
    go_wp2
    exact HF.out _ _ _ _ _ _ _ _ _ _ _ _ _ _ _ _ _ _
   ·go_wp2_with fail
    refine wp_region_quiet_below (by kernel_rfl) (by kernel_rfl) ?_
    repeat (go_big_quiet_step (first | (with_reducible exact LS.out _ _)))
    refine wpQuiet_nil ?_
    intro _ hw'
    obtain ⟨⟨dq,osq⟩,hw''⟩ := hw'
    subst hw''
    have Z6 := Lib.hid (below_regrown wr dq osq)
    clear ix q0 r0 r1 LS dlt dln p0 p1
    go_wp2
    go_roundw
    case rel => exact ⟨k + 1,by omega,by go_num,BE.out.trans (Z6.out.mono BE.out.size),fun j y' hj h1 => by
     rcases Nat.lt_or_ge j k with h3 | h3
     ·exact AL.out j y' h3 h1
     ·obtain rfl : j = k := by omega
      have e1 := HY.out
      rw [h1] at e1
      rw [Option.some.inj e1]
      exact HR.out⟩
    case measure => simp [intOf]; omega
  ·obtain rfl : k = n := by omega
   have dlt : decide ((k : Int) < (k : Int)) = false := by simp
   have dln : decide (k < k) = false := by simp
   go_wp2_with fail
   refine wp_region_quiet_below (by kernel_rfl) (by kernel_rfl) ?_
   repeat (go_big_quiet_step (fail))
   refine wpQuiet_nil ?_
   intro _ hw'
   obtain ⟨⟨dq,osq⟩,hw''⟩ := hw'
   subst hw''
   have Z6 := below_regrown wr dq osq
   have HF := Lib.hid (fun v45 v46 v47 v48 v49 v50 v51 v52 v53 v54 v55 v56 v57 v58 v59 v60 v61 v62 => HQ.out (grow (redrawn wr dq) osq) v45 v46 v47 v48 v49 v50 v51 v52 v53 v54 v55 v56 v57 v58 v59 v60 v61 v62 (BE.out.trans (Z6.mono BE.out.size)))
   rw [place_is (l.map fun y => (y.1,y.2.1)) (c,d) k AL.out (Or.inl (by simpa using HN.out))] at HF
   clear HQ q0 r0 r1 dlt dln
   go_wp2
   exact HF.out _ _ _ _ _ _ _ _ _ _ _ _ _ _ _ _ _ _
def insAt {α : Type} (l : List α) (k : Nat) (x : α) : List α := l.take k ++ [x] ++ l.drop k
def learnB (b : Br) (a : Ad) : Br × Bool := if a.id ∈ b.seen then (b,false) else ({ b with seen := insAt b.seen (placeI b.seen a.id) a.id,adv := insAt b.adv (placeI (b.adv.map Ad.id) a.id) a },true)
abbrev setB (W : World) (b : Nat) (a0 a1 a2 a3 a4 a5 : Value) : World := (((((W.setCell ⟨b,0,none⟩ a0).setCell ⟨b,1,none⟩ a1).setCell ⟨b,2,none⟩ a2).setCell ⟨b,3,none⟩ a3).setCell ⟨b,4,none⟩ a4).setCell ⟨b,5,none⟩ a5
theorem setB_box {W : World} {b : Nat} {t : TypeId} {z0 z1 z2 z3 z4 z5 : Value} (h : Box W b #[z0,z1,z2,z3,z4,z5] t) (a0 a1 a2 a3 a4 a5 : Value) : Box (setB W b a0 a1 a2 a3 a4 a5) b #[a0,a1,a2,a3,a4,a5] t := by
 have h2 := box_set (k := 5) (box_set (k := 4) (box_set (k := 3) (box_set (k := 2) (box_set (k := 1) (box_set (k := 0) h a0) a1) a2) a3) a4) a5
 simp only [List.setIfInBounds_toArray,List.set_cons_zero,List.set_cons_succ] at h2
 exact h2
theorem setB_below {w W : World} {B b : Nat} (h : Below B w W) (hb : B ≤ b) (a0 a1 a2 a3 a4 a5 : Value) : Below B w (setB W b a0 a1 a2 a3 a4 a5) :=
 (((((h.setCell hb _).setCell hb _).setCell hb _).setCell hb _).setCell hb _).setCell hb _
theorem setB_heap (W : World) (b : Nat) (a0 a1 a2 a3 a4 a5 : Value) (j : Nat) (hj : j ≠ b) : (setB W b a0 a1 a2 a3 a4 a5).heap[j]? = W.heap[j]? := by
 have h : ∀ (W : World) (k : Nat) (x : Value),(W.setCell ⟨b,k,none⟩ x).heap[j]? = W.heap[j]? := fun W k x => RowKit.Below.heap_setCell W _ x _ hj
 unfold setB
 rw [h,h,h,h,h,h]
theorem setB_ownA {α : Type} {E : Ek α} {W : World} {B : Nat} {v : Value} {l : List α} (h : Own E W B v l) (b : Nat) (hb : b < B) (a0 a1 a2 a3 a4 a5 : Value) : Own E (setB W b a0 a1 a2 a3 a4 a5) B v l :=
 own_cell (own_cell (own_cell (own_cell (own_cell (own_cell h b 0 a0 hb) b 1 a1 hb) b 2 a2 hb) b 3 a3 hb) b 4 a4 hb) b 5 a5 hb
theorem three_new (w : World) (c d e : Array Value) (r s t : TypeId) : Below w.heap.size w (((w.alloc (.cells c r)).alloc (.cells d s)).alloc (.cells e t)) ∧ Box (((w.alloc (.cells c r)).alloc (.cells d s)).alloc (.cells e t)) w.heap.size c r ∧ Box (((w.alloc (.cells c r)).alloc (.cells d s)).alloc (.cells e t)) (w.heap.size + 1) d s ∧ Box (((w.alloc (.cells c r)).alloc (.cells d s)).alloc (.cells e t)) (w.heap.size + 1 + 1) e t := by
 refine ⟨(((Below.refl _ _).alloc (Nat.le_refl _) _).alloc (by simp) _).alloc (by simp; omega) _,((box_new w c r).more _).more _,?_,?_⟩
 ·have h := (box_new (w.alloc (.cells c r)) d s).more (.cells e t)
  simpa using h
 ·have h := box_new ((w.alloc (.cells c r)).alloc (.cells d s)) e t
  simpa using h
theorem box_twoJ {W : World} {b : Nat} {c d : Int} {p q : Value} (h : Box W b #[.int .i64 c,.int .i64 d,p,q] 41) : ∀ x,Below W.heap.size W x → ∀ j u,(cellsJ (c,d))[j]? = some u → x.cell? ((⟨b,0,none⟩ : Addr).add j) = some u := by
 intro x hb j u hj
 rw [add_own,(h.on hb).cell]
 match j with
 | 0 => exact hj
 | 1 => exact hj
 | j + 2 => simp at hj
theorem box_fourD {W : World} {b : Nat} {c d q : Int} {p : Sl} (h : Box W b #[.int .i64 c,.int .i64 d,slv p,.int .i64 q] 41) : ∀ x,Below W.heap.size W x → ∀ j u,(cellsD (c,d,p,q))[j]? = some u → x.cell? ((⟨b,0,none⟩ : Addr).add j) = some u := by
 intro x hb j u hj
 rw [add_own,(h.on hb).cell]
 match j with
 | 0 => exact hj
 | 1 => exact hj
 | 2 => exact hj
 | 3 => exact hj
 | j + 4 => simp at hj
theorem ids_eq {W : World} {l : List XAd} {m : List Ad} (h : All2 (AdIn W) l m) : (l.map fun y => (y.1,y.2.1)) = m.map Ad.id := by
 induction h with
 | nil => rfl
 | cons x t ih => rw [List.map_cons,List.map_cons,ih,x.1]
theorem place_le (l : List Id) (x : Id) : placeI l x ≤ l.length := by
 unfold placeI
 exact (List.takeWhile_sublist _).length_le
theorem own_high {α : Type} {E : Ek α} {W : World} {B : Nat} {v : Value} {l : List α} {b : Nat} (h : Own E W B v l) (hb : b < B) : v.ownBlock = none ∨ v.ownBlock ≠ some b := by
 cases hv : v.ownBlock with
 | none => exact Or.inl rfl
 | some j =>
  refine Or.inr fun e => ?_
  injection e with e
  have := (h.lt j hv).1
  omega
theorem rlearn_any (b : Br) (nv av sv ev ov : Sl) (z : XAd) (a : Ad) (w : World) (h : BrIn w b nv av sv ev ov) (hz : AdIn w z a) (l1 : b.seen.length ≤ 900) (l2 : b.adv.length ≤ 900) :
  Calls Tryz.prog 22 #[brv b.me nv av sv ev ov,valD z] w fun e w' => (∃ av' sv' : Sl,e = .returned (.tuple #[brv b.me nv av' sv' ev ov,.bool (learnB b a).2]) ∧ BrIn w' (learnB b a).1 nv av' sv' ev ov) ∧ Below w.heap.size w w' := by
 obtain ⟨no,nn,nc⟩ := nv
 obtain ⟨ao,an,ac⟩ := av
 obtain ⟨so,sn,sc⟩ := sv
 obtain ⟨eo,en,ec⟩ := ev
 obtain ⟨oo,on_,oc⟩ := ov
 obtain ⟨c,d,⟨po,pn,pc⟩,par⟩ := z
 obtain ⟨xs,hx1,hx2⟩ := h.adv
 have HZ := Lib.hid hz
 have IDS := Lib.hid (ids_eq hx2)
 have XL := Lib.hid (show xs.length ≤ 900 by rw [hx2.len]; exact l2)
 have hs := h.seen
 have HA2 := Lib.hid hx2
 obtain ⟨q1,q2,hq⟩ := hs.len
 obtain ⟨rfl,rfl,rfl⟩ : so = q1 ∧ sn = b.seen.length ∧ sc = q2 := by
  have : Value.slice so sn sc = .slice q1 b.seen.length q2 := hq
  simpa using this
 obtain ⟨q1,q2,hq⟩ := hx1.len
 obtain ⟨rfl,rfl,rfl⟩ : ao = q1 ∧ an = xs.length ∧ ac = q2 := by
  have : Value.slice ao an ac = .slice q1 xs.length q2 := hq
  simpa using this
 have SN := rseen_any b.me (.slice no nn nc) (.slice ao xs.length ac) (.slice eo en ec) (.slice oo on_ oc) (so,b.seen.length,sc) b.seen (c,d)
 have HH := Lib.hid h
 obtain ⟨h0,h1,h2,h3⟩ := three_new w #[.int .i64 b.me,.slice no nn nc,.slice ao xs.length ac,.slice so b.seen.length sc,.slice eo en ec,.slice oo on_ oc] #[.int .i64 c,.int .i64 d,.slice po pn pc,.int .i64 par] #[.int .i64 0,.slice none 0 0,.slice none 0 0,.slice none 0 0,.slice none 0 0,.slice none 0 0] 31 41 31
 obtain ⟨n1,hn1⟩ : ∃ n,n = b.seen.length := ⟨_,rfl⟩
 obtain ⟨n2,hn2⟩ : ∃ n,n = xs.length := ⟨_,rfl⟩
 have HD := hx1
 simp only [← hn1,← hn2] at h0 h1 h2 h3 hs HD HH SN ⊢
 have B0 := Lib.hid h0
 have X2 := Lib.hid h1
 have X3 := Lib.hid h2
 have X4 := Lib.hid h3
 have HS := Lib.hid hs
 have HD := Lib.hid HD
 have N1 := Lib.hid hn1
 have N2 := Lib.hid hn2
 have L1 := Lib.hid l1
 have AI := Lib.hid hz.1
 have hme : ∃ me,me = b.me := ⟨_,rfl⟩
 obtain ⟨me,hme⟩ := hme
 simp only [← hme] at X2 B0 X3 X4 SN ⊢
 clear h0 h1 h2 h3 hs hx1 hx2 h hz hq hn1 hn2 l1 l2 hme
 go_enter Tryz.func22,Tryz.ntmps22
 go_upto_region 1 with fail
 generalize (((w.alloc (.cells #[.int .i64 me,.slice no nn nc,.slice ao n2 ac,.slice so n1 sc,.slice eo en ec,.slice oo on_ oc] 31)).alloc (.cells #[.int .i64 c,.int .i64 d,.slice po pn pc,.int .i64 par] 41)).alloc (.cells #[.int .i64 0,.slice none 0 0,.slice none 0 0,.slice none 0 0,.slice none 0 0,.slice none 0 0] 31)) = W at *
 have SW := Lib.hid (SN W (HS.out.on B0.out))
 clear SN
 obtain ⟨x0,x1,x2,x3,x4,x5⟩ := X2.out.cs6
 obtain ⟨y0,y1,y2,y3⟩ := X3.out.cs4
 cases hsn : decide ((c,d) ∈ b.seen) with
 | true =>
  have LB := Lib.hid (show learnB b a = (b,false) from if_pos (by rw [← AI.out]; exact of_decide_eq_true hsn))
  rw [hsn] at SW
  clear hsn
  go_wp2_with fail
  refine SW.out.mono ?_
  rintro e1 w1 ⟨rfl,hb⟩
  have B1 := Lib.hid (B0.out.trans (hb.mono B0.out.size))
  have X2a := X2.out.on hb
  have X4a := X4.out.on hb
  clear SW x0 x1 x2 x3 x4 x5 y0 y1 y2 y3
  obtain ⟨x0,x1,x2,x3,x4,x5⟩ := X2a.cs6
  obtain ⟨r0,r1,r2,r3,r4,r5⟩ := X4a.cs6
  obtain ⟨t0,t1,t2,t3,t4,t5⟩ := X4a.fs6
  have zz := X4a.lt
  have FB := Lib.hid (setB_box X4a (.int .i64 me) (.slice no nn nc) (.slice ao n2 ac) (.slice so n1 sc) (.slice eo en ec) (.slice oo on_ oc))
  have BL := Lib.hid (setB_below (b := w.heap.size + 1 + 1) B1.out (by omega) (.int .i64 me) (.slice no nn nc) (.slice ao n2 ac) (.slice so n1 sc) (.slice eo en ec) (.slice oo on_ oc))
  clear hb X2 X3 X4 X2a X4a HS HD
  go_wp2_with fail
  obtain ⟨v0,v1,v2,v3,v4,v5⟩ := FB.out.cs6
  refine bodyPost_ret (v := .tuple #[.agg #[.int .i64 me,.slice no nn nc,.slice ao n2 ac,.slice so n1 sc,.slice eo en ec,.slice oo on_ oc],.bool false]) (by simp [results,Tryz.results22,go_sem,v0,v1,v2,v3,v4,v5]) rfl ?_
  rw [LB.out]
  exact ⟨⟨(ao,n2,ac),(so,n1,sc),rfl,HH.out.on BL.out⟩,BL.out⟩
 | false =>
  have LB := Lib.hid (show learnB b a = ({ b with seen := insAt b.seen (placeI b.seen a.id) a.id,adv := insAt b.adv (placeI (b.adv.map Ad.id) a.id) a },true) from if_neg (by rw [← AI.out]; exact of_decide_eq_false hsn))
  rw [hsn] at SW
  clear hsn
  go_wp2_with fail
  refine SW.out.mono ?_
  rintro e1 w1 ⟨rfl,hb⟩
  have B1 := Lib.hid (B0.out.trans (hb.mono B0.out.size))
  have Y2 := Lib.hid (X2.out.on hb)
  have Y3 := Lib.hid (X3.out.on hb)
  have Y4 := Lib.hid (X4.out.on hb)
  have S1 := Lib.hid (HS.out.on B1.out)
  clear SW hb X2 X3 X4 HS x0 x1 x2 x3 x4 x5 y0 y1 y2 y3
  go_upto_block 0 with (fail)
  refine learn_b0 _ w1 w.heap.size (w.heap.size + 1) me c d _ _ _ _ _ _ so n1 sc b.seen _ _ _ _ _ _ _ _ _ _ _ _ _ _ _ _ _ _ _ _ _ _ _ _ _ _ _ _ _ _ _ _ _ _ _ _ _ _ _ _ _ _ _ _ _ _ _ _ _ _ _ _ _ _ _ _ _ _ _ _ _ _ _ _ _ _ _ _ _ _ _ _ _ _ _ _ Y2.out Y3.out S1.out N1.out (by have := L1.out; have := N1.out; omega) ?_
  intro wr v12 v13 v14 v15 v16 v17 v18 v19 v20 v21 v22 v23 v24 v25 v26 v27 v28 hb
  have B2 := Lib.hid (B1.out.trans (hb.mono B1.out.size))
  have Z2 := Lib.hid (Y2.out.on hb)
  have Z3 := Lib.hid (Y3.out.on hb)
  have Z4 := Lib.hid (Y4.out.on hb)
  have S2 := Lib.hid (S1.out.on hb)
  clear hb B1 Y2 Y3 Y4 S1
  go_upto_region 6 with fail
  refine ins6 _ wr w.heap.size (w.heap.size + 1) me _ _ _ _ so n1 sc (placeI b.seen (c,d)) b.seen (c,d) _ _ _ _ _ _ _ _ _ _ _ _ _ _ _ _ _ _ _ _ _ _ _ _ _ _ _ _ _ _ _ _ _ _ _ _ _ _ _ _ _ _ _ _ _ _ _ _ _ _ _ _ _ _ _ _ _ _ _ _ _ _ _ _ _ _ _ _ _ _ _ _ _ _ _ _ Z2.out (box_twoJ Z3.out) S2.out (place_le _ _) L1.out ?_
  intro xw1 v29 v30 v31 v32 v33 v34 v35 v36 v37 v38 v39 v40 v41 v42 v43 v44 hbx ho hbl hoth hblk
  obtain ⟨sd1,sd2,hsv⟩ := (Row.of_own ho).len
  obtain ⟨sl,hsl⟩ : ∃ n,n = (b.seen.take (placeI b.seen (c,d)) ++ [(c,d)] ++ b.seen.drop (placeI b.seen (c,d))).length := ⟨_,rfl⟩
  rw [← hsl] at hsv
  subst hsv
  have B3 := Lib.hid (B2.out.trans (hbl _ (Nat.le_refl _)))
  have A2 := Lib.hid hbx
  have A3 := Lib.hid (hoth _ _ _ (by omega) Z3.out)
  have A4 := Lib.hid (hoth _ _ _ (by omega) Z4.out)
  have OS := Lib.hid (own_fewer ho (show w.heap.size + 3 ≤ wr.heap.size by have := Z4.out.lt; omega))
  have D3 := Lib.hid (HD.out.on B3.out)
  clear hbx ho hbl hoth hblk hsl B2 Z2 Z3 Z4 S2 HD
  go_upto_block 2 with (fail)
  refine learn_b2 _ xw1 w.heap.size (w.heap.size + 1) me c d _ _ _ _ _ _ ao n2 ac xs _ _ _ _ _ _ _ _ _ _ _ _ _ _ _ _ _ _ _ _ _ _ _ _ _ _ _ _ _ _ _ _ _ _ _ _ _ _ _ _ _ _ _ _ _ _ _ _ _ _ _ _ _ _ _ _ _ _ _ _ _ _ _ _ _ _ _ _ _ _ _ _ _ _ _ _ A2.out A3.out D3.out N2.out (by have := XL.out; have := N2.out; omega) ?_
  intro ws v45 v46 v47 v48 v49 v50 v51 v52 v53 v54 v55 v56 v57 v58 v59 v60 v61 v62 hb
  have B4 := Lib.hid (B3.out.trans (hb.mono B3.out.size))
  have C2 := Lib.hid (A2.out.on hb)
  have C3 := Lib.hid (A3.out.on hb)
  have C4 := Lib.hid (A4.out.on hb)
  have O4 := Lib.hid (own_on OS.out hb)
  have D4 := Lib.hid (D3.out.on hb)
  clear hb B3 A2 A3 A4 OS D3
  go_upto_region 10 with fail
  refine ins10 _ ws w.heap.size (w.heap.size + 1) me _ _ _ _ ao n2 ac (placeI (xs.map fun y => (y.1,y.2.1)) (c,d)) xs (c,d,(po,pn,pc),par) _ _ _ _ _ _ _ _ _ _ _ _ _ _ _ _ _ _ _ _ _ _ _ _ _ _ _ _ _ _ _ _ _ _ _ _ _ _ _ _ _ _ _ _ _ _ _ _ _ _ _ _ _ _ _ _ _ _ _ _ _ _ _ _ _ _ _ _ _ _ _ _ _ _ _ _ C2.out (box_fourD (p := (po,pn,pc)) C3.out) D4.out (by have := place_le (xs.map fun y => (y.1,y.2.1)) (c,d); rw [List.length_map] at this; exact this) XL.out ?_
  intro xw2 v63 v64 v65 v66 v67 v68 v69 v70 v71 v72 v73 v74 v75 v76 v77 hbx ho hbl hoth hblk
  obtain ⟨td1,td2,htv⟩ := (Row.of_own ho).len
  obtain ⟨tl,htl⟩ : ∃ n,n = (xs.take (placeI (xs.map fun y => (y.1,y.2.1)) (c,d)) ++ [(c,d,(po,pn,pc),par)] ++ xs.drop (placeI (xs.map fun y => (y.1,y.2.1)) (c,d))).length := ⟨_,rfl⟩
  rw [← htl] at htv
  subst htv
  have hb5 := hbl _ (Nat.le_refl w.heap.size)
  have B5 := Lib.hid (B4.out.trans hb5)
  have E2 := hbx
  have E4 := hoth _ _ _ (by omega) C4.out
  have OD := Lib.hid (own_fewer ho (show w.heap.size + 3 ≤ ws.heap.size by have := C4.out.lt; omega))
  have OS := Lib.hid (O4.out.kept (w' := xw2) (row := some w.heap.size) ⟨hb5.os,hb5.tape,hb5.output,hb5.size,fun k hk hne => hblk k hk (fun e => hne (by rw [e]))⟩ (own_high O4.out (by omega)))
  clear ho hbl hoth hblk htl hb5 hbx B4 C2 C3 C4 O4 D4
  obtain ⟨x0,x1,x2,x3,x4,x5⟩ := E2.cs6
  obtain ⟨r0,r1,r2,r3,r4,r5⟩ := E4.cs6
  obtain ⟨t0,t1,t2,t3,t4,t5⟩ := E4.fs6
  have zz := E4.lt
  have FB := Lib.hid (setB_box E4 (.int .i64 me) (.slice no nn nc) (.slice td1 tl td2) (.slice sd1 sl sd2) (.slice eo en ec) (.slice oo on_ oc))
  have BL := Lib.hid (setB_below (b := w.heap.size + 1 + 1) B5.out (by omega) (.int .i64 me) (.slice no nn nc) (.slice td1 tl td2) (.slice sd1 sl sd2) (.slice eo en ec) (.slice oo on_ oc))
  have FD := Lib.hid (setB_ownA OD.out (w.heap.size + 1 + 1) (by omega) (.int .i64 me) (.slice no nn nc) (.slice td1 tl td2) (.slice sd1 sl sd2) (.slice eo en ec) (.slice oo on_ oc))
  have FS := Lib.hid (setB_ownA OS.out (w.heap.size + 1 + 1) (by omega) (.int .i64 me) (.slice no nn nc) (.slice td1 tl td2) (.slice sd1 sl sd2) (.slice eo en ec) (.slice oo on_ oc))
  clear OD OS E2 E4
  go_wp2_with fail
  obtain ⟨v0,v1,v2,v3,v4,v5⟩ := FB.out.cs6
  refine bodyPost_ret (v := .tuple #[.agg #[.int .i64 me,.slice no nn nc,.slice td1 tl td2,.slice sd1 sl sd2,.slice eo en ec,.slice oo on_ oc],.bool true]) (by simp [results,Tryz.results22,go_sem,v0,v1,v2,v3,v4,v5]) rfl ?_
  rw [LB.out]
  refine ⟨⟨(td1,tl,td2),(sd1,sl,sd2),rfl,?_⟩,BL.out⟩
  have hI := HH.out.on BL.out
  refine ⟨hI.near,⟨_,Row.of_own FD.out,?_⟩,?_,hI.ent,hI.own⟩
  ·have hA := HA2.out.mono fun _ _ h => h.on BL.out
   rw [← AI.out,← IDS.out]
   exact ((hA.take _).append (.cons (HZ.out.on BL.out) .nil)).append (hA.drop _)
  ·rw [← AI.out]
   exact Row.of_own FS.out
def cutAt {α : Type} (l : List α) (k : Nat) : List α := l.take k ++ l.drop (k + 1)
def forgetB (b : Br) (x : Id) (f : Int) : Br × Bool := match b.adv[(findI (b.adv.map Ad.id) x).toNat]? with
 | none => (b,false)
 | some a => if findI (b.adv.map Ad.id) x = -1 then (b,false) else if a.par = f then ({ b with adv := cutAt b.adv (findI (b.adv.map Ad.id) x).toNat,ent := b.ent.filter fun e => decide (e.tree ≠ x) },true) else (b,false)
theorem find_or (l : List XAd) (x : Id) : findI (l.map fun y => (y.1,y.2.1)) x = -1 ∨ ∃ (k : Nat) (y : XAd),findI (l.map fun y => (y.1,y.2.1)) x = k ∧ l[k]? = some y := by
 induction l with
 | nil => exact Or.inl rfl
 | cons a l ih =>
  rw [List.map_cons,findI]
  by_cases h : (a.1,a.2.1) = x
  ·rw [if_pos h]
   exact Or.inr ⟨0,a,rfl,rfl⟩
  ·rw [if_neg h]
   rcases ih with h2 | ⟨k,y,h2,h3⟩
   ·rw [if_pos h2]
    exact Or.inl rfl
   ·rw [if_neg (by omega),h2]
    exact Or.inr ⟨k + 1,y,by omega,by simpa using h3⟩
theorem All2.fil {α β : Type} {R : α → β → Prop} (p : α → Bool) (q : β → Bool) (hpq : ∀ a b,R a b → p a = q b) : ∀ {l m},All2 R l m → All2 R (l.filter p) (m.filter q)
 | _,_,.nil => .nil
 | _,_,.cons (a := a) (b := b) x t => by
  have h := hpq a b x
  cases hb : q b
  ·rw [List.filter_cons_of_neg (by rw [h,hb]; simp),List.filter_cons_of_neg (by rw [hb]; simp)]
   exact t.fil p q hpq
  ·rw [List.filter_cons_of_pos (by rw [h,hb]),List.filter_cons_of_pos (by rw [hb])]
   exact .cons x (t.fil p q hpq)
theorem neId (a b c d : Int) (r : Bool) (h : (!(a == c && b == d)) = r) (w : World) : (binOp .neq 38 (.agg #[.int .i64 a,.int .i64 b]) (.agg #[.int .i64 c,.int .i64 d])).run Tryz.prog w = .ok (.bool r) w := by
 have st := stoodId
 subst h
 by_cases h1 : a = c <;> by_cases h2 : b = d <;> simp [go_sem,Tryz.underlying38,Tryz.underlying3,st,h1,h2]
def keepN (x : Id) (e : XEn) : Bool := decide ((e.1,e.2.1) ≠ x)
theorem fil_snoc {α : Type} (l : List α) (k : Nat) (y : α) (p : α → Bool) (h : l[k]? = some y) : (l.take (k + 1)).filter p = (l.take k).filter p ++ (if p y then [y] else []) := by
 rw [List.take_add_one,h,List.filter_append]
 cases hp : p y <;> simp [hp]
theorem rforget_any (b : Br) (nv av sv ev ov : Sl) (x : Id) (f : Int) (w : World) (h : BrIn w b nv av sv ev ov) (l2 : b.adv.length ≤ 900) (l3 : b.ent.length ≤ 900) :
  Calls Tryz.prog 24 #[brv b.me nv av sv ev ov,idv x,.int .i64 f] w fun e w' => (∃ av' ev' : Sl,e = .returned (.tuple #[brv b.me nv av' sv ev' ov,.bool (forgetB b x f).2]) ∧ BrIn w' (forgetB b x f).1 nv av' sv ev' ov) ∧ Below w.heap.size w w' := by
 obtain ⟨no,nn,nc⟩ := nv
 obtain ⟨ao,an,ac⟩ := av
 obtain ⟨so,sn,sc⟩ := sv
 obtain ⟨eo,en,ec⟩ := ev
 obtain ⟨oo,on_,oc⟩ := ov
 obtain ⟨c,d⟩ := x
 obtain ⟨xs,hx1,hx2⟩ := h.adv
 obtain ⟨es,he1,he2⟩ := h.ent
 have IDS := Lib.hid (ids_eq hx2)
 have XL := Lib.hid (show xs.length ≤ 900 by rw [hx2.len]; exact l2)
 have EL := Lib.hid (show es.length ≤ 900 by rw [he2.len]; exact l3)
 have HA2 := Lib.hid hx2
 have HE2 := Lib.hid he2
 obtain ⟨q1,q2,hq⟩ := hx1.len
 obtain ⟨rfl,rfl,rfl⟩ : ao = q1 ∧ an = xs.length ∧ ac = q2 := by
  have : Value.slice ao an ac = .slice q1 xs.length q2 := hq
  simpa using this
 obtain ⟨q1,q2,hq⟩ := he1.len
 obtain ⟨rfl,rfl,rfl⟩ : eo = q1 ∧ en = es.length ∧ ec = q2 := by
  have : Value.slice eo en ec = .slice q1 es.length q2 := hq
  simpa using this
 have FD := rfind_any b.me (.slice no nn nc) (.slice eo es.length ec) (.slice so sn sc) (.slice oo on_ oc) (ao,xs.length,ac) xs (c,d)
 have HH := Lib.hid h
 obtain ⟨h0,h1,h2,h3⟩ := three_new w #[.int .i64 b.me,.slice no nn nc,.slice ao xs.length ac,.slice so sn sc,.slice eo es.length ec,.slice oo on_ oc] #[.int .i64 c,.int .i64 d] #[.int .i64 0,.slice none 0 0,.slice none 0 0,.slice none 0 0,.slice none 0 0,.slice none 0 0] 31 38 31
 obtain ⟨n2,hn2⟩ : ∃ n,n = xs.length := ⟨_,rfl⟩
 obtain ⟨n3,hn3⟩ : ∃ n,n = es.length := ⟨_,rfl⟩
 simp only [← hn2,← hn3] at h0 h1 h2 h3 hx1 he1 HH FD ⊢
 have B0 := Lib.hid h0
 have X2 := Lib.hid h1
 have X3 := Lib.hid h2
 have X5 := Lib.hid h3
 have HS := Lib.hid hx1
 have HE := Lib.hid he1
 have N2 := Lib.hid hn2
 have N3 := Lib.hid hn3
 obtain ⟨me,hme⟩ : ∃ me,me = b.me := ⟨_,rfl⟩
 simp only [← hme] at X2 B0 X3 X5 FD ⊢
 clear h0 h1 h2 h3 hx1 he1 hx2 he2 h hq hn2 hn3 l2 l3 hme
 go_enter Tryz.func24,Tryz.ntmps24
 go_upto_region 1 with fail
 generalize (((w.alloc (.cells #[.int .i64 me,.slice no nn nc,.slice ao n2 ac,.slice so sn sc,.slice eo n3 ec,.slice oo on_ oc] 31)).alloc (.cells #[.int .i64 c,.int .i64 d] 38)).alloc (.cells #[.int .i64 0,.slice none 0 0,.slice none 0 0,.slice none 0 0,.slice none 0 0,.slice none 0 0] 31)) = W at *
 have SW := Lib.hid (FD W (HS.out.on B0.out))
 clear FD
 obtain ⟨x0,x1,x2,x3,x4,x5⟩ := X2.out.cs6
 obtain ⟨y0,y1⟩ := X3.out.cs2
 rcases find_or xs (c,d) with hf | ⟨k,y,hf,hy⟩
 ·have LB := Lib.hid (show forgetB b (c,d) f = (b,false) by
   have hf' := hf
   rw [IDS.out] at hf'
   unfold forgetB
   rw [hf']
   split
   ·rfl
   ·rw [if_pos rfl])
  rw [hf] at SW
  clear hf
  go_wp2_with fail
  refine SW.out.mono ?_
  rintro e1 w1 ⟨rfl,hb⟩
  have B1 := Lib.hid (B0.out.trans (hb.mono B0.out.size))
  have X2a := X2.out.on hb
  have X5a := X5.out.on hb
  clear SW hb x0 x1 x2 x3 x4 x5 y0 y1
  obtain ⟨x0,x1,x2,x3,x4,x5⟩ := X2a.cs6
  obtain ⟨r0,r1,r2,r3,r4,r5⟩ := X5a.cs6
  obtain ⟨t0,t1,t2,t3,t4,t5⟩ := X5a.fs6
  have zz := X5a.lt
  have FB := Lib.hid (setB_box X5a (.int .i64 me) (.slice no nn nc) (.slice ao n2 ac) (.slice so sn sc) (.slice eo n3 ec) (.slice oo on_ oc))
  have BL := Lib.hid (setB_below (b := w.heap.size + 1 + 1) B1.out (by omega) (.int .i64 me) (.slice no nn nc) (.slice ao n2 ac) (.slice so sn sc) (.slice eo n3 ec) (.slice oo on_ oc))
  clear X2 X3 X5 X2a X5a HS HE
  go_wp2_with fail
  obtain ⟨v0,v1,v2,v3,v4,v5⟩ := FB.out.cs6
  refine bodyPost_ret (v := .tuple #[.agg #[.int .i64 me,.slice no nn nc,.slice ao n2 ac,.slice so sn sc,.slice eo n3 ec,.slice oo on_ oc],.bool false]) (by simp [results,Tryz.results24,go_sem,v0,v1,v2,v3,v4,v5]) rfl ?_
  rw [LB.out]
  exact ⟨⟨(ao,n2,ac),(eo,n3,ec),rfl,HH.out.on BL.out⟩,BL.out⟩
 ·rw [hf] at SW
  have hk := (List.getElem?_eq_some_iff.1 hy).1
  have XL2 := XL.out
  have hkn : k < n2 := by rw [N2.out]; exact hk
  have HF := Lib.hid hf
  have HY := Lib.hid hy
  obtain ⟨p,ix,px⟩ := elD HS.out rfl N2.out.symm hy
  have LB := Lib.hid (show ∀ a,b.adv[k]? = some a → forgetB b (c,d) f = if a.par = f then ({ b with adv := cutAt b.adv k,ent := b.ent.filter fun e => decide (e.tree ≠ (c,d)) },true) else (b,false) from fun a ha => by
   have hf' := HF.out
   rw [IDS.out] at hf'
   unfold forgetB
   rw [hf',Int.toNat_natCast,ha]
   simp only
   rw [if_neg (by omega)])
  obtain ⟨z1,z2,⟨zo,zn,zc⟩,par⟩ := y
  obtain ⟨a,hak⟩ : ∃ a,b.adv[k]? = some a := ⟨_,List.getElem?_eq_getElem (by rw [← HA2.out.len]; exact hk)⟩
  have hap : a.par = par := by
   obtain ⟨z,hz1,hz2⟩ := HA2.out.at k a hak
   rw [HY.out] at hz1
   obtain rfl := Option.some.inj hz1
   exact hz2.2.1.symm
  have LC := LB.out a hak
  rw [hap] at LC
  have hik : decide ((k : Int) < 0) = false := decide_eq_false (by omega)
  go_wp2_with fail
  refine SW.out.mono ?_
  rintro e1 w1 ⟨rfl,hb⟩
  have B1 := Lib.hid (B0.out.trans (hb.mono B0.out.size))
  have X2a := X2.out.on hb
  have X3a := X3.out.on hb
  have X5a := X5.out.on hb
  have px2 := px w1 B1.out
  obtain ⟨p0,p1,p2,p3⟩ := px2
  clear SW hb px HF LB hf hy hap hak x0 x1 x2 x3 x4 x5 y0 y1
  by_cases hpf : par = f
  ·rw [if_pos hpf] at LC
   have LB := Lib.hid LC
   have hne : (par != f) = false := by simp [hpf]
   have HPF := Lib.hid hpf
   have Z2 := Lib.hid X2a
   have Z3 := Lib.hid X3a
   have Z5 := Lib.hid X5a
   obtain ⟨x0,x1,x2,x3,x4,x5⟩ := X2a.cs6
   obtain ⟨r0,r1,r2,r3,r4,r5⟩ := X5a.cs6
   obtain ⟨t0,t1,t2,t3,t4,t5⟩ := X5a.fs6
   have zz := X5a.lt
   clear LC hpf X2 X3 X5 X2a X3a X5a
   have S1 := Lib.hid (HS.out.on B1.out)
   go_upto_region 4 with fail
   refine cut4 _ w1 w.heap.size (w.heap.size + 1) me _ _ _ _ ao n2 ac k xs _ _ _ _ _ _ _ _ _ _ _ _ _ _ _ _ _ _ _ _ _ _ _ _ _ _ _ _ _ _ _ _ _ _ _ _ _ _ _ _ _ _ _ _ _ _ _ _ _ _ _ _ _ _ _ _ _ Z2.out S1.out (by omega) XL.out ?_
   intro xw v28 v29 v30 v31 v32 v33 v34 v35 v36 v37 v38 v39 v40 hbx ho hbl hoth hblk
   obtain ⟨td1,td2,htv⟩ := (Row.of_own ho).len
   obtain ⟨tl,htl⟩ : ∃ n,n = (xs.take k ++ xs.drop (k + 1)).length := ⟨_,rfl⟩
   rw [← htl] at htv
   subst htv
   have B2 := Lib.hid (B1.out.trans (hbl _ (Nat.le_refl _)))
   have A2 := Lib.hid hbx
   have A3 := Lib.hid (hoth _ _ _ (by omega) Z3.out)
   have A5 := Lib.hid (hoth _ _ _ (by omega) Z5.out)
   have OD := Lib.hid (own_fewer ho (show w.heap.size + 3 ≤ w1.heap.size by have := Z5.out.lt; omega))
   have E3 := Lib.hid (HE.out.on B2.out)
   have a4 := hbx.cell 4
   simp only [List.getElem?_toArray,List.getElem?_cons_zero,List.getElem?_cons_succ] at a4
   have W3 := Lib.hid A5.out.lt
   have nb := EL.out
   rw [← N3.out] at nb
   clear hbx ho hbl hoth hblk htl B1 Z2 Z3 Z5 S1 HS HE x0 x1 x2 x3 x4 x5 r0 r1 r2 r3 r4 r5 t0 t1 t2 t3 t4 t5 zz ix p0 p1 p2 p3 hne hik
   go_wp2
   go_loopw [9,44] (fun v i wr => ∃ q : Nat,q ≤ n3 ∧ i = .int .i64 q ∧ Below xw.heap.size xw wr ∧ OwnN wr xw.heap.size v ((es.take q).filter (keepN (c,d)))) (fun _ i _ => n3 - (intOf i).toNat)
   case atStart => exact ⟨0,Nat.zero_le _,rfl,Below.refl _ _,own_nil _ _⟩
   case round =>
    obtain ⟨q,hq,rfl,hbe,hown⟩ := hrel
    have BE := Lib.hid hbe
    have OE := Lib.hid hown
    clear hbe hown
    by_cases hlt : q < n3
    ·obtain ⟨e,hy⟩ : ∃ e,es[q]? = some e := ⟨_,List.getElem?_eq_getElem (by rw [← N3.out]; exact hlt)⟩
     obtain ⟨p,ix,px⟩ := elN E3.out rfl N3.out.symm hy
     obtain ⟨p0,p1,p2,p3,p4,p5,p6⟩ := px wr BE.out
     have FS := Lib.hid (fil_snoc es q e (keepN (c,d)) hy)
     obtain ⟨y1,y2,y3,y4,⟨yo,yn,yc⟩,y6,y7⟩ := e
     simp only at p0 p1 p2 p3 p4 p5 p6
     have NB := Lib.hid (newB wr (.cells #[.int .i64 y1,.int .i64 y2,.int .i64 y3,.int .i64 y4,.slice yo yn yc,.int .i64 y6,.bool y7] 43))
     obtain ⟨x0,x1⟩ := ((A3.out.on BE.out).on NB.out).cs2
     have hw3 : IntKind.i64.wrap ((q : Int) + 1) = (q : Int) + 1 := IntWalk.i64_in _ (by omega)
     obtain ⟨r,hr⟩ : ∃ r,(!(y1 == c && y2 == d)) = r := ⟨_,rfl⟩
     have he := neId y1 y2 c d r hr
     have KN := Lib.hid (show keepN (c,d) (y1,y2,y3,y4,(yo,yn,yc),y6,y7) = r by
      rw [← hr]
      unfold keepN
      by_cases h1 : y1 = c <;> by_cases h2 : y2 = d <;> simp [h1,h2])
     clear px hy hr
     cases r
     ·go_wp2
      go_roundw
      case rel => exact ⟨q + 1,by omega,by go_num,BE.out.trans (NB.out.mono BE.out.size),by
       rw [FS.out,KN.out]
       simpa using own_on OE.out NB.out⟩
      case measure => simp [intOf]; omega
     ·have NB2 := Lib.hid (newB (wr.alloc (.cells #[.int .i64 y1,.int .i64 y2,.int .i64 y3,.int .i64 y4,.slice yo yn yc,.int .i64 y6,.bool y7] 43)) (.cells #[.int .i64 y1,.int .i64 y2,.int .i64 y3,.int .i64 y4,.slice yo yn yc,.int .i64 y6,.bool y7] 43))
      have hlit := row_lit okN (wr.alloc (.cells #[.int .i64 y1,.int .i64 y2,.int .i64 y3,.int .i64 y4,.slice yo yn yc,.int .i64 y6,.bool y7] 43)) [(y1,y2,y3,y4,(yo,yn,yc),y6,y7)] 1 rfl (by simp) #[.int .i64 y1,.int .i64 y2,.int .i64 y3,.int .i64 y4,.slice yo yn yc,.int .i64 y6,.bool y7] rfl
      have o2 := own_on (own_on OE.out NB.out) NB2.out
      have hB : xw.heap.size ≤ ((wr.alloc (.cells #[.int .i64 y1,.int .i64 y2,.int .i64 y3,.int .i64 y4,.slice yo yn yc,.int .i64 y6,.bool y7] 43)).alloc (.cells #[.int .i64 y1,.int .i64 y2,.int .i64 y3,.int .i64 y4,.slice yo yn yc,.int .i64 y6,.bool y7] 43)).heap.size := by have h1 := BE.out.size; simp; omega
      obtain ⟨v',w',r',o',gr⟩ := app_row okN xw.heap.size o2 (Row.of_own hlit) (by have h1 := List.length_filter_le (keepN (c,d)) (es.take q); rw [List.length_take] at h1; omega) (by simp) hB 28
      have r' : (Builtin.append_ #[28,28] 28 #[u9,.slice (some ⟨wr.heap.size + 1,0,none⟩) 1 1]).run Tryz.prog ((wr.alloc (.cells #[.int .i64 y1,.int .i64 y2,.int .i64 y3,.int .i64 y4,.slice yo yn yc,.int .i64 y6,.bool y7] 43)).alloc (.cells #[.int .i64 y1,.int .i64 y2,.int .i64 y3,.int .i64 y4,.slice yo yn yc,.int .i64 y6,.bool y7] 43)) = .ok v' w' := by
       simpa [EN] using r'
      have BG := Lib.hid ((BE.out.trans ((NB.out.trans (NB2.out.mono NB.out.size)).mono BE.out.size)).grown gr hB fun j hj => (o2.lt j hj).1)
      have OG := Lib.hid o'
      clear hlit o2 hB o' gr OE
      go_wp2_with (first | (at_builtin; refine wpList_append_run rfl _ _ 28 rfl rfl rfl r' ?_) | fail)
      go_roundw
      case rel => exact ⟨q + 1,by omega,by go_num,BG.out,by
       rw [FS.out,KN.out]
       simpa using OG.out⟩
      case measure => simp [intOf]; omega
    ·obtain rfl : q = n3 := by omega
     have e : es.take q = es := List.take_of_length_le (by have := N3.out; omega)
     rw [e] at OE
     obtain ⟨vo1,vo2,hv⟩ := (Row.of_own OE.out).len
     obtain ⟨vl,hvl⟩ : ∃ n,n = (es.filter (keepN (c,d))).length := ⟨_,rfl⟩
     rw [← hvl] at hv
     subst hv
     have G2 := A2.out.on BE.out
     have c4 := G2.cell 4
     have g4 := G2.fr 4
     have gl := G2.lt
     simp only [List.getElem?_toArray,List.getElem?_cons_zero,List.getElem?_cons_succ] at c4
     clear hvl e a4 hlt hq nb
     go_upto_region 13 with fail
     have X2a := box_set (k := 4) G2 (.slice vo1 vl vo2)
     simp only [List.setIfInBounds_toArray,List.set_cons_zero,List.set_cons_succ] at X2a
     have X5a : Box _ _ _ _ := (RowKit.Below.heap_setCell wr ⟨w.heap.size,4,none⟩ (.slice vo1 vl vo2) _ (show w.heap.size + 1 + 1 ≠ w.heap.size by omega)).trans (A5.out.on BE.out)
     have OD2 := Lib.hid (own_cell (own_on OD.out BE.out) w.heap.size 4 (.slice vo1 vl vo2) (by omega))
     have OE2 := Lib.hid (own_cell OE.out w.heap.size 4 (.slice vo1 vl vo2) (by have := W3.out; omega))
     have BQ := Lib.hid ((B2.out.trans (BE.out.mono B2.out.size)).setCell (p := ⟨w.heap.size,4,none⟩) (Nat.le_refl _) (.slice vo1 vl vo2))
     clear G2 c4 g4 gl OD OE B2 A2 A3 A5 E3
     generalize wr.setCell ⟨w.heap.size,4,none⟩ (.slice vo1 vl vo2) = wq at *
     obtain ⟨x0,x1,x2,x3,x4,x5⟩ := X2a.cs6
     obtain ⟨r0,r1,r2,r3,r4,r5⟩ := X5a.cs6
     obtain ⟨t0,t1,t2,t3,t4,t5⟩ := X5a.fs6
     have zz := X5a.lt
     have FB := Lib.hid (setB_box X5a (.int .i64 me) (.slice no nn nc) (.slice td1 tl td2) (.slice so sn sc) (.slice vo1 vl vo2) (.slice oo on_ oc))
     have BL := Lib.hid (setB_below (b := w.heap.size + 1 + 1) BQ.out (by omega) (.int .i64 me) (.slice no nn nc) (.slice td1 tl td2) (.slice so sn sc) (.slice vo1 vl vo2) (.slice oo on_ oc))
     have FD := Lib.hid (setB_ownA OD2.out (w.heap.size + 1 + 1) (by omega) (.int .i64 me) (.slice no nn nc) (.slice td1 tl td2) (.slice so sn sc) (.slice vo1 vl vo2) (.slice oo on_ oc))
     have FE := Lib.hid (setB_ownA OE2.out (w.heap.size + 1 + 1) (by have := W3.out; omega) (.int .i64 me) (.slice no nn nc) (.slice td1 tl td2) (.slice so sn sc) (.slice vo1 vl vo2) (.slice oo on_ oc))
     clear OD2 OE2 BQ X2a X5a
     go_wp2_with fail
     obtain ⟨v0,v1,v2,v3,v4,v5⟩ := FB.out.cs6
     refine bodyPost_ret (v := .tuple #[.agg #[.int .i64 me,.slice no nn nc,.slice td1 tl td2,.slice so sn sc,.slice vo1 vl vo2,.slice oo on_ oc],.bool true]) (by simp [results,Tryz.results24,go_sem,v0,v1,v2,v3,v4,v5]) rfl ?_
     rw [LB.out]
     refine ⟨⟨(td1,tl,td2),(vo1,vl,vo2),rfl,?_⟩,BL.out⟩
     have hI := HH.out.on BL.out
     refine ⟨hI.near,⟨_,Row.of_own FD.out,?_⟩,hI.seen,⟨_,Row.of_own FE.out,?_⟩,hI.own⟩
     ·have hA := HA2.out.mono fun _ _ h => h.on BL.out
      exact (hA.take _).append (hA.drop _)
     ·have hE := HE2.out.mono fun _ _ h => h.on BL.out
      exact hE.fil _ _ fun a b h => by unfold keepN; rw [h.1]
  ·rw [if_neg hpf] at LC
   have LB := Lib.hid LC
   have hne : (par != f) = true := by simp [hpf]
   clear LC hpf
   obtain ⟨x0,x1,x2,x3,x4,x5⟩ := X2a.cs6
   obtain ⟨r0,r1,r2,r3,r4,r5⟩ := X5a.cs6
   obtain ⟨t0,t1,t2,t3,t4,t5⟩ := X5a.fs6
   have zz := X5a.lt
   clear X3a
   have FB := Lib.hid (setB_box X5a (.int .i64 me) (.slice no nn nc) (.slice ao n2 ac) (.slice so sn sc) (.slice eo n3 ec) (.slice oo on_ oc))
   have BL := Lib.hid (setB_below (b := w.heap.size + 1 + 1) B1.out (by omega) (.int .i64 me) (.slice no nn nc) (.slice ao n2 ac) (.slice so sn sc) (.slice eo n3 ec) (.slice oo on_ oc))
   clear X2 X3 X5 X2a X5a HS HE
   go_wp2_with fail
   obtain ⟨v0,v1,v2,v3,v4,v5⟩ := FB.out.cs6
   refine bodyPost_ret (v := .tuple #[.agg #[.int .i64 me,.slice no nn nc,.slice ao n2 ac,.slice so sn sc,.slice eo n3 ec,.slice oo on_ oc],.bool false]) (by simp [results,Tryz.results24,go_sem,v0,v1,v2,v3,v4,v5]) rfl ?_
   rw [LB.out]
   exact ⟨⟨(ao,n2,ac),(eo,n3,ec),rfl,HH.out.on BL.out⟩,BL.out⟩
structure Few (b : Br) : Prop where
 near : b.near.length ≤ 900
 adv : b.adv.length ≤ 900
 seen : b.seen.length ≤ 900
 ent : b.ent.length ≤ 900
 own : b.own.length ≤ 900
end Go.Proofs.YtncogjpmboglhaaGreat.Bk
namespace Go.Proofs.YtncogjpmboglhaaGreat.Av
open Go.RowKit Go.Sort Rw YtncogjpmboglhaaGreat.Nm Pr Bk
abbrev setD (W : World) (b : Nat) (a0 a1 a2 a3 : Value) : World := (((W.setCell ⟨b,0,none⟩ a0).setCell ⟨b,1,none⟩ a1).setCell ⟨b,2,none⟩ a2).setCell ⟨b,3,none⟩ a3
theorem setD_box {W : World} {b : Nat} {t : TypeId} {z0 z1 z2 z3 : Value} (h : Box W b #[z0,z1,z2,z3] t) (a0 a1 a2 a3 : Value) : Box (setD W b a0 a1 a2 a3) b #[a0,a1,a2,a3] t := by
 have h2 := box_set (k := 3) (box_set (k := 2) (box_set (k := 1) (box_set (k := 0) h a0) a1) a2) a3
 simpa using h2
theorem setD_below {B : Nat} {W0 W : World} {b : Nat} (h : Below B W0 W) (hb : B ≤ b) (a0 a1 a2 a3 : Value) : Below B W0 (setD W b a0 a1 a2 a3) :=
 (((h.setCell (p := ⟨b,0,none⟩) hb a0).setCell (p := ⟨b,1,none⟩) hb a1).setCell (p := ⟨b,2,none⟩) hb a2).setCell (p := ⟨b,3,none⟩) hb a3
theorem setD_own {α : Type} {E : Ek α} {W : World} {B : Nat} {v : Value} {l : List α} (h : Own E W B v l) (b : Nat) (hb : b < B) (a0 a1 a2 a3 : Value) : Own E (setD W b a0 a1 a2 a3) B v l :=
 own_cell (own_cell (own_cell (own_cell h b 0 a0 hb) b 1 a1 hb) b 2 a2 hb) b 3 a3 hb
theorem cpAd_any (x : XAd) (p : List C5) (w : World) (hp : RowC w (slv x.2.2.1) p) (hl : p.length ≤ 900) :
  Calls Tryz.prog 85 #[valD x] w fun e w' => (∃ v' : Sl,e = .returned (valD (x.1,x.2.1,v',x.2.2.2)) ∧ OwnC w' w.heap.size (slv v') p) ∧ Below w.heap.size w w' := by
 obtain ⟨a,b,⟨s1,s2,s3⟩,q⟩ := x
 obtain ⟨h0,X,Y⟩ := two_new w #[.int .i64 a,.int .i64 b,.slice s1 s2 s3,.int .i64 q] #[.int .i64 0,.int .i64 0,.slice none 0 0,.int .i64 0] 41 41
 have C := Lib.hid (cloneC_any (s1,s2,s3) p _ (hp.on h0) hl)
 have B := Lib.hid h0
 have x2 := X.cell 2
 simp only [List.getElem?_toArray,List.getElem?_cons_zero,List.getElem?_cons_succ] at x2
 have X := Lib.hid X
 have Y := Lib.hid Y
 clear h0 hp hl
 go_enter Tryz.func85,Tryz.ntmps85
 go_wp2_with fail
 generalize (w.alloc (.cells #[.int .i64 a,.int .i64 b,.slice s1 s2 s3,.int .i64 q] 41)).alloc (.cells #[.int .i64 0,.int .i64 0,.slice none 0 0,.int .i64 0] 41) = W at *
 refine C.out.mono ?_
 rintro e w1 ⟨⟨⟨u1,u2,u3⟩,rfl,ho⟩,hb⟩
 have X1 := X.out.on hb
 have Y1 := Y.out.on hb
 have hs : w.heap.size < W.heap.size := X.out.lt
 have O1 := Lib.hid (own_cell ho w.heap.size 2 (.slice u1 u2 u3) hs)
 have XB := Lib.hid (show Box _ _ #[.int .i64 a,.int .i64 b,.slice u1 u2 u3,.int .i64 q] _ from by simpa using box_set (k := 2) X1 (.slice u1 u2 u3))
 have YB := Lib.hid (show Box _ _ _ _ from (RowKit.Below.heap_setCell w1 ⟨w.heap.size,2,none⟩ (.slice u1 u2 u3) _ (show w.heap.size + 1 ≠ w.heap.size by omega)).trans Y1)
 have B1 := Lib.hid ((B.out.trans (hb.mono B.out.size)).setCell (p := ⟨w.heap.size,2,none⟩) (Nat.le_refl _) (.slice u1 u2 u3))
 have y2 := X1.cell 2
 have f2 := X1.fr 2
 have z2 := X1.lt
 simp only [List.getElem?_toArray,List.getElem?_cons_zero,List.getElem?_cons_succ] at y2
 clear X1 Y1 ho hb x2 C
 go_upto_region 2 with fail
 clear y2 f2 z2
 generalize w1.setCell ⟨w.heap.size,2,none⟩ (.slice u1 u2 u3) = w2 at *
 obtain ⟨x0,x1,x2,x3⟩ := XB.out.cs4
 obtain ⟨r0,r1,r2,r3⟩ := YB.out.cs4
 obtain ⟨t0,t1,t2,t3⟩ := YB.out.fs4
 have zz := YB.out.lt
 have hs2 : w.heap.size + 1 < W.heap.size := Y.out.lt
 have FB := Lib.hid (setD_box YB.out (.int .i64 a) (.int .i64 b) (.slice u1 u2 u3) (.int .i64 q))
 have BL := Lib.hid (setD_below (b := w.heap.size + 1) B1.out (by omega) (.int .i64 a) (.int .i64 b) (.slice u1 u2 u3) (.int .i64 q))
 have FO := Lib.hid (setD_own O1.out (w.heap.size + 1) hs2 (.int .i64 a) (.int .i64 b) (.slice u1 u2 u3) (.int .i64 q))
 have HS := Lib.hid hs
 clear hs hs2
 go_wp2_with fail
 obtain ⟨v0,v1,v2,v3⟩ := FB.out.cs4
 refine bodyPost_ret (v := .agg #[.int .i64 a,.int .i64 b,.slice u1 u2 u3,.int .i64 q]) (by simp [results,Tryz.results85,go_sem,v0,v1,v2,v3]) rfl ?_
 exact ⟨⟨(u1,u2,u3),rfl,own_fewer FO.out (Nat.le_of_lt HS.out)⟩,BL.out⟩
end Go.Proofs.YtncogjpmboglhaaGreat.Av
namespace Go.Proofs.YtncogjpmboglhaaGreat.Bk
open Go.RowKit Rw YtncogjpmboglhaaGreat.Nm Pr
theorem cell_box {W : World} {b : Nat} {cs : Array Value} {t : TypeId} (hb : Box W b cs t) {a : Addr} {v : Value} (h : W.cell? a = some v) (e : a.block = b) : cs[a.off]? = some v := by
 unfold World.cell? at h
 unfold Box at hb
 rw [e,hb] at h
 have h2 : a.spot = none ∧ cs[a.off]? = some v := by simpa using h
 exact h2.2
theorem cell_keep {W W' : World} {b : Nat} (hk : ∀ j,j < W.heap.size → j ≠ b → W'.heap[j]? = W.heap[j]?) {a : Addr} {v : Value} (h : W.cell? a = some v) (e : a.block ≠ b) : W'.cell? a = some v := by
 have hlt := World.block_lt_of_cell? W _ h
 unfold World.cell? at h ⊢
 rw [hk _ hlt e]
 exact h
theorem add_blk (a : Addr) (j : Nat) : (a.add j).block = a.block := by unfold Addr.add; split <;> rfl
theorem row_keep {α : Type} {E : Ek α} (_K : E.Ok) {W W' : World} {b : Nat} {v : Value} {l : List α} (h : Row E W v l) (hk : ∀ j,j < W.heap.size → j ≠ b → W'.heap[j]? = W.heap[j]?) (hno : ∀ (a : Addr) (c : α),(∀ j u,(E.cells c)[j]? = some u → W.cell? (a.add j) = some u) → a.block ≠ b) : Row E W' v l := by
 rcases h with h | ⟨a,cap,h1,h2,h3,h4⟩
 ·exact Or.inl h
 ·refine Or.inr ⟨a,cap,h1,h2,h3,fun j u hj => ?_⟩
  cases l with
  | nil => simp [flat] at hj
  | cons c r =>
   have hne : a.block ≠ b := hno a c fun j u hj => h4 j u (by
    rw [flat,List.getElem?_append_left (by exact (List.getElem?_eq_some_iff.1 hj).1)]
    exact hj)
   exact cell_keep hk (h4 j u hj) (by rw [add_blk]; exact hne)
theorem two_ints {α : Type} {E : Ek α} {W : World} {b : Nat} {cs : Array Value} {t : TypeId} (hb : Box W b cs t) (hE : ∀ c : α,∃ i j : Int,(E.cells c)[0]? = some (.int .i64 i) ∧ (E.cells c)[1]? = some (.int .i64 j)) (hcs : ∀ (k : Nat) (i j : Int),cs[k]? = some (.int .i64 i) → cs[k + 1]? = some (.int .i64 j) → False) (a : Addr) (c : α) (h : ∀ j u,(E.cells c)[j]? = some u → W.cell? (a.add j) = some u) : a.block ≠ b := fun e => by
 obtain ⟨i,j,h0,h1⟩ := hE c
 have c0 := cell_box hb (h 0 _ h0) (by rw [add_blk]; exact e)
 have c1 := cell_box hb (h 1 _ h1) (by rw [add_blk]; exact e)
 have o0 : (a.add 0).off = a.off := by rw [Addr.add_zero']
 have o1 : (a.add 1).off = a.off + 1 := by rw [add_pos _ _ (by decide)]
 rw [o0] at c0
 rw [o1] at c1
 exact hcs a.off i j c0 c1
theorem no_text {W : World} {b : Nat} {cs : Array Value} {t : TypeId} (hb : Box W b cs t) (hcs : ∀ (k : Nat) (s : ByteArray),cs[k]? ≠ some (.string s)) (a : Addr) (c : C5) (h : ∀ j u,(EC.cells c)[j]? = some u → W.cell? (a.add j) = some u) : a.block ≠ b := fun e => by
 have c0 := cell_box hb (h 0 _ rfl) (by rw [add_blk]; exact e)
 exact hcs _ _ c0
theorem br_ints (me : Int) (s1 s2 s3 s4 s5 : Sl) : ∀ (k : Nat) (i j : Int),(brcells me s1 s2 s3 s4 s5)[k]? = some (.int .i64 i) → (brcells me s1 s2 s3 s4 s5)[k + 1]? = some (.int .i64 j) → False := by
 intro k i j h1 h2
 match k with
 | 0 => simp at h2
 | 1 => simp at h1
 | 2 => simp at h1
 | 3 => simp at h1
 | 4 => simp at h1
 | 5 => simp at h1
 | k + 6 => simp at h1
theorem br_text (me : Int) (s1 s2 s3 s4 s5 : Sl) : ∀ (k : Nat) (s : ByteArray),(brcells me s1 s2 s3 s4 s5)[k]? ≠ some (.string s) := by
 intro k s h
 match k with
 | 0 => simp at h
 | 1 => simp at h
 | 2 => simp at h
 | 3 => simp at h
 | 4 => simp at h
 | 5 => simp at h
 | k + 6 => simp at h
theorem brin_keep {W W' : World} {k : Nat} {me : Int} {s1 s2 s3 s4 s5 : Sl} {b : Br} {nv av sv ev ov : Sl} (h : BrIn W b nv av sv ev ov) (hb : Box W k (brcells me s1 s2 s3 s4 s5) 31) (hk : ∀ j,j < W.heap.size → j ≠ k → W'.heap[j]? = W.heap[j]?) (hn : RowI W' (slv nv) b.near) : BrIn W' b nv av sv ev ov where
 near := hn
 adv := by
  obtain ⟨l,h1,h2⟩ := h.adv
  exact ⟨l,row_keep okD h1 hk (two_ints hb (fun c => ⟨_,_,rfl,rfl⟩) (br_ints me s1 s2 s3 s4 s5)),h2.mono fun x a hx => ⟨hx.1,hx.2.1,row_keep okC hx.2.2 hk (no_text hb (br_text me s1 s2 s3 s4 s5))⟩⟩
 seen := row_keep okJ h.seen hk (two_ints hb (fun c => ⟨_,_,rfl,rfl⟩) (br_ints me s1 s2 s3 s4 s5))
 ent := by
  obtain ⟨l,h1,h2⟩ := h.ent
  exact ⟨l,row_keep okN h1 hk (two_ints hb (fun c => ⟨_,_,rfl,rfl⟩) (br_ints me s1 s2 s3 s4 s5)),h2.mono fun x a hx => ⟨hx.1,hx.2.1,hx.2.2.1,hx.2.2.2.1,row_keep okC hx.2.2.2.2 hk (no_text hb (br_text me s1 s2 s3 s4 s5))⟩⟩
 own := by
  obtain ⟨l,h1,h2⟩ := h.own
  exact ⟨l,row_keep okW h1 hk (two_ints hb (fun c => ⟨_,_,rfl,rfl⟩) (br_ints me s1 s2 s3 s4 s5)),h2.mono fun x a hx => ⟨hx.1,row_keep okC hx.2 hk (no_text hb (br_text me s1 s2 s3 s4 s5))⟩⟩
end Go.Proofs.YtncogjpmboglhaaGreat.Bk
namespace Go.Proofs.YtncogjpmboglhaaGreat.Bk
open Go.RowKit Go.Sort Rw YtncogjpmboglhaaGreat.Nm Pr
theorem storeBr {W : World} {b : Nat} {z0 z1 z2 z3 z4 z5 : Value} (h : Box W b #[z0,z1,z2,z3,z4,z5] 31) (me : Int) (o1 o2 o3 o4 o5 : Option Addr) (n1 c1 n2 c2 n3 c3 n4 c4 n5 c5 : Nat) :
  (Instr.storeAt 31 (.pointer (some ⟨b,0,none⟩)) (.agg #[.int .i64 me,.slice o1 n1 c1,.slice o2 n2 c2,.slice o3 n3 c3,.slice o4 n4 c4,.slice o5 n5 c5])).run Tryz.prog W = .ok () (setB W b (.int .i64 me) (.slice o1 n1 c1) (.slice o2 n2 c2) (.slice o3 n3 c3) (.slice o4 n4 c4) (.slice o5 n5 c5)) := by
 obtain ⟨x0,x1,x2,x3,x4,x5⟩ := h.cs6
 obtain ⟨f0,f1,f2,f3,f4,f5⟩ := h.fs6
 simp [go_sem,x0,x1,x2,x3,x4,x5,f0,f1,f2,f3,f4,f5]
theorem loadBr {W : World} {b : Nat} {z0 z1 z2 z3 z4 z5 : Value} (h : Box W b #[z0,z1,z2,z3,z4,z5] 31) : (Instr.loadAt 31 (.pointer (some ⟨b,0,none⟩))).run Tryz.prog W = .ok (.agg #[z0,z1,z2,z3,z4,z5]) W := by
 obtain ⟨x0,x1,x2,x3,x4,x5⟩ := h.cs6
 simp [go_sem,x0,x1,x2,x3,x4,x5]
theorem ex_call3g {P : Program} (ρ : Operand → Value) (o : Oper) (x y z : Operand) (t s r : TypeId) (f : FuncId) (ho : o.op = .call { callee := .value (.func f),args := #[x,y,z],argTypes := #[t,s,r] }) {v u q : Value} (hx : ρ x = v) (hy : ρ y = u) (hz : ρ z = q) (hf : ρ (.func f) = .func (.func f) #[] #[]) (w : World)
  (hc : (callFunc f #[v,u,q]).run P w = .ok (.enter f #[v,u,q]) w) : (execOp ρ o).run P w = .ok (.enter f #[v,u,q]) w := by
 simp [execOp,ho,resolve,invoke,hx,hy,hz,hf,Deferred.ofValue,hc]
theorem box_J {W : World} {b : Nat} {c d : Int} (h : Box W b #[.int .i64 c,.int .i64 d] 38) : ∀ j u,(cellsJ (c,d))[j]? = some u → W.cell? ((⟨b,0,none⟩ : Addr).add j) = some u := by
 intro j u hj
 rw [add_own,h.cell]
 match j with
 | 0 => exact hj
 | 1 => exact hj
 | j + 2 => simp at hj
end Go.Proofs.YtncogjpmboglhaaGreat.Bk
namespace Go.Proofs.YtncogjpmboglhaaGreat.Av
open Go.RowKit Go.Sort Rw YtncogjpmboglhaaGreat.Nm Pr Bk
theorem own_row_at {α : Type} {E : Ek α} (K : E.Ok) {W : World} {B g n cap k : Nat} {l : List α} {x : α} (h : Own E W B (.slice (some ⟨g,0,none⟩) n cap) l) (hk : l[k]? = some x) : ∀ w,Below W.heap.size W w → ∀ j u,(E.cells x)[j]? = some u → w.cell? ((⟨g,k * E.n,none⟩ : Addr).add j) = some u := by
 obtain ⟨ao,c,hv⟩ := (Row.of_own h).len
 obtain ⟨rfl,rfl,rfl⟩ : some ⟨g,0,none⟩ = ao ∧ n = l.length ∧ cap = c := by simpa using hv
 obtain ⟨p,h1,_,h2⟩ := row_el K (Row.of_own h) rfl rfl hk
 have h3 := index_own K g k l.length cap (List.getElem?_eq_some_iff.1 hk).1 W
 rw [h1] at h3
 injection h3 with h4 _
 injection h4 with h5
 injection h5 with h6
 subst h6
 exact h2
theorem own_tag {α : Type} {E : Ek α} {W : World} {B g n cap : Nat} {l : List α} (h : Own E W B (.slice (some ⟨g,0,none⟩) n cap) l) : ∃ cur,Box W g cur E.t := by
 rcases own_open h with ⟨h1,_⟩ | ⟨g',c',cur,h1,_,h2,_⟩
 ·cases h1
 ·obtain ⟨rfl,_⟩ : g = g' ∧ True := by simp at h1; exact ⟨h1.1,trivial⟩
  exact ⟨cur,h2⟩
theorem box_ne {W : World} {b g : Nat} {c d : Array Value} {s t : TypeId} (hb : Box W b c s) (hg : Box W g d t) (hne : (s == t) = false) : b ≠ g := by
 rintro rfl
 unfold Box at hb hg
 rw [hb] at hg
 injection hg with h
 injection h with _ h2
 rw [h2] at hne
 simp at hne
def But (g : Nat) (W x : World) : Prop := (∀ k,k < W.heap.size → k ≠ g → x.heap[k]? = W.heap[k]?) ∧ W.heap.size ≤ x.heap.size
theorem But.box {g b : Nat} {W x : World} {cs : Array Value} {t : TypeId} (h : But g W x) (hb : Box W b cs t) (hne : b ≠ g) : Box x b cs t := (h.1 b hb.lt hne).trans hb
theorem But.own {α : Type} {E : Ek α} {g : Nat} {W x : World} {B : Nat} {v : Value} {l : List α} {d : Array Value} {t : TypeId} (h : But g W x) (ho : Own E W B v l) (hg : Box W g d t) (hne : (E.t == t) = false) : Own E x B v l := by
 refine ⟨ho.1,?_⟩
 rcases ho.2 with h2 | ⟨g',cap,cur,h1,h2,h3,h4⟩
 ·exact Or.inl h2
 ·exact Or.inr ⟨g',cap,cur,h1,h2,by rw [h.1 g' (lt_of_heap h3) (box_ne (show Box W g' cur E.t from h3) hg hne)]; exact h3,h4⟩
theorem flatD_set : ∀ (l : List XAd) (k : Nat) (x : XAd),k < l.length → flat ED (l.set k x) = ((((flat ED l).set (k * 4) (.int .i64 x.1)).set (k * 4 + 1) (.int .i64 x.2.1)).set (k * 4 + 2) (slv x.2.2.1)).set (k * 4 + 3) (.int .i64 x.2.2.2)
 | [],k,x,h => by simp at h
 | y :: r,0,x,_ => rfl
 | y :: r,k + 1,x,h => by
  have ih := flatD_set r k x (by simpa using h)
  rw [show (k + 1) * 4 + 3 = (k * 4 + 3) + 1 + 1 + 1 + 1 by omega,show (k + 1) * 4 + 2 = (k * 4 + 2) + 1 + 1 + 1 + 1 by omega,show (k + 1) * 4 + 1 = (k * 4 + 1) + 1 + 1 + 1 + 1 by omega,show (k + 1) * 4 = (k * 4) + 1 + 1 + 1 + 1 by omega]
  simp only [List.set_cons_succ,flat,ED,cellsD,List.cons_append,List.nil_append] at ih ⊢
  rw [ih]
theorem flatN_set : ∀ (l : List XEn) (k : Nat) (x : XEn) (s : Sl),l[k]? = some x → flat EN (l.set k (x.1,x.2.1,x.2.2.1,x.2.2.2.1,s,x.2.2.2.2.2.1,x.2.2.2.2.2.2)) = (flat EN l).set (k * 7 + 4) (slv s)
 | [],k,x,s,h => by simp at h
 | y :: r,0,x,s,h => by
  obtain rfl : y = x := by simpa using h
  rfl
 | y :: r,k + 1,x,s,h => by
  have ih := flatN_set r k x s (by simpa using h)
  rw [show (k + 1) * 7 + 4 = (k * 7 + 4) + 1 + 1 + 1 + 1 + 1 + 1 + 1 by omega]
  simp only [List.set_cons_succ,flat,EN,cellsN,List.cons_append,List.nil_append] at ih ⊢
  rw [ih]
theorem flatW_set : ∀ (l : List XOw) (k : Nat) (x : XOw) (s : Sl),l[k]? = some x → flat EW (l.set k (x.1,x.2.1,s)) = (flat EW l).set (k * 3 + 2) (slv s)
 | [],k,x,s,h => by simp at h
 | y :: r,0,x,s,h => by
  obtain rfl : y = x := by simpa using h
  rfl
 | y :: r,k + 1,x,s,h => by
  have ih := flatW_set r k x s (by simpa using h)
  rw [show (k + 1) * 3 + 2 = (k * 3 + 2) + 1 + 1 + 1 by omega]
  simp only [List.set_cons_succ,flat,EW,cellsW,List.cons_append,List.nil_append] at ih ⊢
  rw [ih]
def StoQ {α : Type} (E : Ek α) (B g : Nat) (v : Value) (l : List α) (w w' : World) : Prop := Own E w' B v l ∧ But g w w' ∧ (∀ B' W,B' ≤ g → Below B' W w → Below B' W w')
theorem but_cell (w : World) (g j : Nat) (u : Value) : But g w (w.setCell ⟨g,j,none⟩ u) := ⟨fun k _ hk => RowKit.Below.heap_setCell w ⟨g,j,none⟩ u k hk,by simp⟩
theorem But.trans {g : Nat} {a b c : World} (h1 : But g a b) (h2 : But g b c) : But g a c := ⟨fun k hk hne => (h2.1 k (Nat.lt_of_lt_of_le hk h1.2) hne).trans (h1.1 k hk hne),Nat.le_trans h1.2 h2.2⟩
theorem But.of_below {g : Nat} {a b : World} (h : Below a.heap.size a b) : But g a b := ⟨fun k hk _ => h.block k hk,h.size⟩
theorem storeD {w : World} {B g n cap k : Nat} {l : List XAd} (x : XAd) (h : OwnD w B (.slice (some ⟨g,0,none⟩) n cap) l) (hk : k < l.length) :
  ∃ w',(Instr.storeAt 41 (.pointer (some ⟨g,k * 4,none⟩)) (valD x)).run Tryz.prog w = .ok () w' ∧ StoQ ED B g (.slice (some ⟨g,0,none⟩) n cap) (l.set k x) w w' := by
 obtain ⟨y,hy⟩ : ∃ y,l[k]? = some y := ⟨_,List.getElem?_eq_getElem hk⟩
 have c := own_row_at okD h hy w (Below.refl _ _)
 have c0 := c 0 _ rfl
 have c1 := c 1 _ rfl
 have c2 := c 2 _ rfl
 have c3 := c 3 _ rfl
 simp [Addr.add,ED] at c0 c1 c2 c3
 obtain ⟨cur,hb⟩ := own_tag h
 have f := fun j => hb.fr j
 obtain ⟨ao,c',hv⟩ := (Row.of_own h).len
 obtain ⟨_,rfl,_⟩ : some ⟨g,0,none⟩ = ao ∧ n = l.length ∧ cap = c' := by simpa using hv
 have h : w.ownsRow B 41 4 (.slice (some ⟨g,0,none⟩) l.length cap) l.length (flat ED l) := h
 have s1 := (h.stored (k * 4) (.int .i64 x.1)).1
 have s2 := (s1.stored (k * 4 + 1) (.int .i64 x.2.1)).1
 have s3 := (s2.stored (k * 4 + 2) (slv x.2.2.1)).1
 have s4 := (s3.stored (k * 4 + 3) (.int .i64 x.2.2.2)).1
 refine ⟨(((w.setCell ⟨g,k * 4,none⟩ (.int .i64 x.1)).setCell ⟨g,k * 4 + 1,none⟩ (.int .i64 x.2.1)).setCell ⟨g,k * 4 + 2,none⟩ (slv x.2.2.1)).setCell ⟨g,k * 4 + 3,none⟩ (.int .i64 x.2.2.2),?_,?_,((but_cell _ g _ _).trans (but_cell _ g _ _)).trans ((but_cell _ g _ _).trans (but_cell _ g _ _)),fun B' W hB hb => (((hb.setCell (p := ⟨g,_,none⟩) hB _).setCell (p := ⟨g,_,none⟩) hB _).setCell (p := ⟨g,_,none⟩) hB _).setCell (p := ⟨g,_,none⟩) hB _⟩
 ·simp [go_sem,c0,c1,c2,c3,f]
 ·have e := flatD_set l k x hk
  show World.ownsRow _ B 41 4 _ (l.set k x).length (flat ED (l.set k x))
  rw [e,List.length_set]
  exact s4
theorem storeN {w : World} {B g n cap k : Nat} {l : List XEn} {x : XEn} (s1 : Option Addr) (s2 s3 : Nat) (h : OwnN w B (.slice (some ⟨g,0,none⟩) n cap) l) (hk : l[k]? = some x) :
  ∃ w',(Instr.storeAt 39 (.pointer (some ⟨g,k * 7 + 4,none⟩)) (.slice s1 s2 s3)).run Tryz.prog w = .ok () w' ∧ StoQ EN B g (.slice (some ⟨g,0,none⟩) n cap) (l.set k (x.1,x.2.1,x.2.2.1,x.2.2.2.1,(s1,s2,s3),x.2.2.2.2.2.1,x.2.2.2.2.2.2)) w w' := by
 have c := own_row_at okN h hk w (Below.refl _ _)
 have c4 := c 4 _ rfl
 simp [Addr.add,EN] at c4
 obtain ⟨cur,hb⟩ := own_tag h
 have f := hb.fr (k * 7 + 4)
 obtain ⟨ao,c',hv⟩ := (Row.of_own h).len
 obtain ⟨_,rfl,_⟩ : some ⟨g,0,none⟩ = ao ∧ n = l.length ∧ cap = c' := by simpa using hv
 have h : w.ownsRow B 43 7 (.slice (some ⟨g,0,none⟩) l.length cap) l.length (flat EN l) := h
 have t1 := (h.stored (k * 7 + 4) (.slice s1 s2 s3)).1
 refine ⟨w.setCell ⟨g,k * 7 + 4,none⟩ (.slice s1 s2 s3),by simp [go_sem,c4,f],?_,but_cell _ g _ _,fun B' W hB hb => hb.setCell (p := ⟨g,_,none⟩) hB _⟩
 have e := flatN_set l k x (s1,s2,s3) hk
 show World.ownsRow _ B 43 7 _ (List.length _) (flat EN _)
 rw [e,List.length_set]
 exact t1
theorem storeW {w : World} {B g n cap k : Nat} {l : List XOw} {x : XOw} (s1 : Option Addr) (s2 s3 : Nat) (h : OwnW w B (.slice (some ⟨g,0,none⟩) n cap) l) (hk : l[k]? = some x) :
  ∃ w',(Instr.storeAt 39 (.pointer (some ⟨g,k * 3 + 2,none⟩)) (.slice s1 s2 s3)).run Tryz.prog w = .ok () w' ∧ StoQ EW B g (.slice (some ⟨g,0,none⟩) n cap) (l.set k (x.1,x.2.1,(s1,s2,s3))) w w' := by
 have c := own_row_at okW h hk w (Below.refl _ _)
 have c2 := c 2 _ rfl
 simp [Addr.add,EW] at c2
 obtain ⟨cur,hb⟩ := own_tag h
 have f := hb.fr (k * 3 + 2)
 obtain ⟨ao,c',hv⟩ := (Row.of_own h).len
 obtain ⟨_,rfl,_⟩ : some ⟨g,0,none⟩ = ao ∧ n = l.length ∧ cap = c' := by simpa using hv
 have h : w.ownsRow B 45 3 (.slice (some ⟨g,0,none⟩) l.length cap) l.length (flat EW l) := h
 have t1 := (h.stored (k * 3 + 2) (.slice s1 s2 s3)).1
 refine ⟨w.setCell ⟨g,k * 3 + 2,none⟩ (.slice s1 s2 s3),by simp [go_sem,c2,f],?_,but_cell _ g _ _,fun B' W hB hb => hb.setCell (p := ⟨g,_,none⟩) hB _⟩
 have e := flatW_set l k x (s1,s2,s3) hk
 show World.ownsRow _ B 45 3 _ (List.length _) (flat EW _)
 rw [e,List.length_set]
 exact t1
theorem All2.set {α β : Type} {R : α → β → Prop} : ∀ {l : List α} {m : List β} (k : Nat) (a : α) (b : β),All2 R l m → m[k]? = some b → R a b → All2 R (l.set k a) m
 | _,_,_,_,_,.nil,h,_ => by simp at h
 | _,_,0,a,b,.cons x t,h,hr => by
  simp at h
  subst h
  exact .cons hr t
 | _,_,k + 1,a,b,.cons x t,h,hr => .cons x (All2.set k a b t (by simpa using h) hr)
def PM (w0 : World) (B : Nat) (wr : World) (v : Value) (p : List C5) : Prop := RowC w0 v p ∨ OwnC wr B v p
def AdM (w0 : World) (B : Nat) (wr : World) (x : XAd) (a : Ad) : Prop := (x.1,x.2.1) = a.id ∧ x.2.2.2 = a.par ∧ PM w0 B wr (slv x.2.2.1) a.p
def EnM (w0 : World) (B : Nat) (wr : World) (x : XEn) (a : En) : Prop := (x.1,x.2.1) = a.tree ∧ (x.2.2.1,x.2.2.2.1) = a.sub ∧ x.2.2.2.2.2.1 = a.from_ ∧ x.2.2.2.2.2.2 = a.up ∧ PM w0 B wr (slv x.2.2.2.2.1) a.p
def OwM (w0 : World) (B : Nat) (wr : World) (x : XOw) (a : Ow) : Prop := (x.1,x.2.1) = a.id ∧ PM w0 B wr (slv x.2.2) a.p
theorem PM.but {w0 wr x : World} {B : Nat} {v : Value} {p : List C5} {g : Nat} {d : Array Value} {t : TypeId} (h : PM w0 B wr v p) (hb : But g wr x) (hg : Box wr g d t) (hne : (47 == t) = false) : PM w0 B x v p := h.imp id fun h => hb.own h hg hne
theorem PM.row {w0 wr : World} {B : Nat} {v : Value} {p : List C5} (h : PM w0 B wr v p) (hb : Below w0.heap.size w0 wr) : RowC wr v p := h.elim (fun h => h.on hb) Row.of_own
theorem AdM.but {w0 wr x : World} {B : Nat} {y : XAd} {a : Ad} {g : Nat} {d : Array Value} {t : TypeId} (h : AdM w0 B wr y a) (hb : But g wr x) (hg : Box wr g d t) (hne : (47 == t) = false) : AdM w0 B x y a := ⟨h.1,h.2.1,h.2.2.but hb hg hne⟩
theorem EnM.but {w0 wr x : World} {B : Nat} {y : XEn} {a : En} {g : Nat} {d : Array Value} {t : TypeId} (h : EnM w0 B wr y a) (hb : But g wr x) (hg : Box wr g d t) (hne : (47 == t) = false) : EnM w0 B x y a := ⟨h.1,h.2.1,h.2.2.1,h.2.2.2.1,h.2.2.2.2.but hb hg hne⟩
theorem OwM.but {w0 wr x : World} {B : Nat} {y : XOw} {a : Ow} {g : Nat} {d : Array Value} {t : TypeId} (h : OwM w0 B wr y a) (hb : But g wr x) (hg : Box wr g d t) (hne : (47 == t) = false) : OwM w0 B x y a := ⟨h.1,h.2.but hb hg hne⟩
structure Cp (w0 : World) (B : Nat) (wr : World) (b : Br) (nv av sv ev ov : Sl) : Prop where
 near : OwnI wr B (slv nv) b.near
 seen : OwnJ wr B (slv sv) b.seen
 adv : ∃ l,OwnD wr B (slv av) l ∧ All2 (AdM w0 B wr) l b.adv
 ent : ∃ l,OwnN wr B (slv ev) l ∧ All2 (EnM w0 B wr) l b.ent
 own : ∃ l,OwnW wr B (slv ov) l ∧ All2 (OwM w0 B wr) l b.own
theorem Cp.but {w0 wr x : World} {B : Nat} {b : Br} {nv av sv ev ov : Sl} (h : Cp w0 B wr b nv av sv ev ov) {g : Nat} {d : Array Value} (hb : But g wr x) (hg : Box wr g d 31) : Cp w0 B x b nv av sv ev ov where
 near := hb.own h.near hg (by decide)
 seen := hb.own h.seen hg (by decide)
 adv := by obtain ⟨l,h1,h2⟩ := h.adv; exact ⟨l,hb.own h1 hg (by decide),h2.mono fun _ _ h => h.but hb hg (by decide)⟩
 ent := by obtain ⟨l,h1,h2⟩ := h.ent; exact ⟨l,hb.own h1 hg (by decide),h2.mono fun _ _ h => h.but hb hg (by decide)⟩
 own := by obtain ⟨l,h1,h2⟩ := h.own; exact ⟨l,hb.own h1 hg (by decide),h2.mono fun _ _ h => h.but hb hg (by decide)⟩
theorem Cp.br {w0 wr : World} {B : Nat} {b : Br} {nv av sv ev ov : Sl} (h : Cp w0 B wr b nv av sv ev ov) (hl : Below w0.heap.size w0 wr) : BrIn wr b nv av sv ev ov where
 near := Row.of_own h.near
 adv := by obtain ⟨l,h1,h2⟩ := h.adv; exact ⟨l,Row.of_own h1,h2.mono fun _ _ q => ⟨q.1,q.2.1,q.2.2.row hl⟩⟩
 seen := Row.of_own h.seen
 ent := by obtain ⟨l,h1,h2⟩ := h.ent; exact ⟨l,Row.of_own h1,h2.mono fun _ _ q => ⟨q.1,q.2.1,q.2.2.1,q.2.2.2.1,q.2.2.2.2.row hl⟩⟩
 own := by obtain ⟨l,h1,h2⟩ := h.own; exact ⟨l,Row.of_own h1,h2.mono fun _ _ q => ⟨q.1,q.2.row hl⟩⟩
structure Cs (w0 w wr : World) (b : Br) (nv av sv ev ov : Sl) : Prop where
 bel : Below w.heap.size w wr
 bx : Box wr w.heap.size #[.int .i64 b.me,slv nv,slv av,slv sv,slv ev,slv ov] 31
 bz : Box wr (w.heap.size + 1) #[.int .i64 0,.slice none 0 0,.slice none 0 0,.slice none 0 0,.slice none 0 0,.slice none 0 0] 31
 near : OwnI wr w.heap.size (slv nv) b.near
 seen : OwnJ wr w.heap.size (slv sv) b.seen
 adv : ∃ l,OwnD wr w.heap.size (slv av) l ∧ All2 (AdM w0 w.heap.size wr) l b.adv
 ent : ∃ l,OwnN wr w.heap.size (slv ev) l ∧ All2 (EnM w0 w.heap.size wr) l b.ent
 own : ∃ l,OwnW wr w.heap.size (slv ov) l ∧ All2 (OwM w0 w.heap.size wr) l b.own
theorem Cs.setD {w0 w wr x : World} {b : Br} {nv sv ev ov : Sl} {g n cap : Nat} {l l' : List XAd} (h : Cs w0 w wr b nv (some ⟨g,0,none⟩,n,cap) sv ev ov) (ho : OwnD wr w.heap.size (.slice (some ⟨g,0,none⟩) n cap) l) (hx : OwnD x w.heap.size (.slice (some ⟨g,0,none⟩) n cap) l') (hb : But g wr x) (hw : Below w.heap.size w x) (hA : All2 (AdM w0 w.heap.size x) l' b.adv) : Cs w0 w x b nv (some ⟨g,0,none⟩,n,cap) sv ev ov := by
 obtain ⟨cur,hg⟩ := own_tag ho
 exact {
  bel := hw
  bx := hb.box h.bx (box_ne h.bx hg (by decide))
  bz := hb.box h.bz (box_ne h.bz hg (by decide))
  near := hb.own h.near hg (by decide)
  seen := hb.own h.seen hg (by decide)
  adv := ⟨l',hx,hA⟩
  ent := by obtain ⟨l,h1,h2⟩ := h.ent; exact ⟨l,hb.own h1 hg (by decide),h2.mono fun _ _ h => h.but hb hg (by decide)⟩
  own := by obtain ⟨l,h1,h2⟩ := h.own; exact ⟨l,hb.own h1 hg (by decide),h2.mono fun _ _ h => h.but hb hg (by decide)⟩ }
theorem Cs.setN {w0 w wr x : World} {b : Br} {nv av sv ov : Sl} {g n cap : Nat} {l l' : List XEn} (h : Cs w0 w wr b nv av sv (some ⟨g,0,none⟩,n,cap) ov) (ho : OwnN wr w.heap.size (.slice (some ⟨g,0,none⟩) n cap) l) (hx : OwnN x w.heap.size (.slice (some ⟨g,0,none⟩) n cap) l') (hb : But g wr x) (hw : Below w.heap.size w x) (hA : All2 (EnM w0 w.heap.size x) l' b.ent) : Cs w0 w x b nv av sv (some ⟨g,0,none⟩,n,cap) ov := by
 obtain ⟨cur,hg⟩ := own_tag ho
 exact {
  bel := hw
  bx := hb.box h.bx (box_ne h.bx hg (by decide))
  bz := hb.box h.bz (box_ne h.bz hg (by decide))
  near := hb.own h.near hg (by decide)
  seen := hb.own h.seen hg (by decide)
  adv := by obtain ⟨l,h1,h2⟩ := h.adv; exact ⟨l,hb.own h1 hg (by decide),h2.mono fun _ _ h => h.but hb hg (by decide)⟩
  ent := ⟨l',hx,hA⟩
  own := by obtain ⟨l,h1,h2⟩ := h.own; exact ⟨l,hb.own h1 hg (by decide),h2.mono fun _ _ h => h.but hb hg (by decide)⟩ }
theorem Cs.setW {w0 w wr x : World} {b : Br} {nv av sv ev : Sl} {g n cap : Nat} {l l' : List XOw} (h : Cs w0 w wr b nv av sv ev (some ⟨g,0,none⟩,n,cap)) (ho : OwnW wr w.heap.size (.slice (some ⟨g,0,none⟩) n cap) l) (hx : OwnW x w.heap.size (.slice (some ⟨g,0,none⟩) n cap) l') (hb : But g wr x) (hw : Below w.heap.size w x) (hA : All2 (OwM w0 w.heap.size x) l' b.own) : Cs w0 w x b nv av sv ev (some ⟨g,0,none⟩,n,cap) := by
 obtain ⟨cur,hg⟩ := own_tag ho
 exact {
  bel := hw
  bx := hb.box h.bx (box_ne h.bx hg (by decide))
  bz := hb.box h.bz (box_ne h.bz hg (by decide))
  near := hb.own h.near hg (by decide)
  seen := hb.own h.seen hg (by decide)
  adv := by obtain ⟨l,h1,h2⟩ := h.adv; exact ⟨l,hb.own h1 hg (by decide),h2.mono fun _ _ h => h.but hb hg (by decide)⟩
  ent := by obtain ⟨l,h1,h2⟩ := h.ent; exact ⟨l,hb.own h1 hg (by decide),h2.mono fun _ _ h => h.but hb hg (by decide)⟩
  own := ⟨l',hx,hA⟩ }
theorem findI_none (l : List XID) (x : XID) (h : ∀ (j : Nat) (y : XID),l[j]? = some y → y ≠ x) : findI l x = -1 := by
 induction l with
 | nil => rfl
 | cons a l ih =>
  rw [findI,if_neg (h 0 a rfl),ih fun j y hj => h (j + 1) y (by simpa using hj),if_pos rfl]
theorem findI_at (l : List XID) (k : Nat) (x : XID) (h : l[k]? = some x) (hall : ∀ (j : Nat) (z : XID),j < k → l[j]? = some z → z ≠ x) : findI l x = k := by
 induction l generalizing k with
 | nil => simp at h
 | cons a l ih =>
  cases k with
  | zero =>
   obtain rfl : a = x := by simpa using h
   rw [findI,if_pos rfl]
   rfl
  | succ k =>
   have h2 := ih k (by simpa using h) fun j z hj hz => hall (j + 1) z (by omega) (by simpa using hz)
   rw [findI,if_neg (hall 0 a (by omega) rfl),h2,if_neg (by omega)]
   omega
theorem findI_in (l : List XID) (x : XID) : decide ((0 : Int) ≤ findI l x) = decide (x ∈ l) := by
 induction l with
 | nil => simp [findI]
 | cons a l ih =>
  have hb := findI_bd l x
  rw [findI]
  by_cases h : a = x
  ·rw [if_pos h]; simp [h]
  ·rw [if_neg h]
   have h' : ¬ x = a := fun e => h e.symm
   simp only [List.mem_cons,h',false_or]
   rw [← ih]
   by_cases h2 : findI l x = -1
   ·rw [if_pos h2,h2]
   ·rw [if_neg h2]
    have h3 : 0 ≤ findI l x := by omega
    have h4 : 0 ≤ findI l x + 1 := by omega
    simp [h3,h4]
theorem index_any (sv : Sl) (l : List XID) (x : XID) (w : World) (hs : RowJ w (slv sv) l) :
  Calls Tryz.prog 137 #[slv sv,idv x] w fun e w' => e = .returned (.int .i64 (findI l x)) ∧ Below w.heap.size w w' := by
 obtain ⟨c,d⟩ := x
 obtain ⟨so,sn,sc⟩ := sv
 obtain ⟨ao,ac,hv⟩ := hs.len
 have hv : Value.slice so sn sc = .slice ao l.length ac := hv
 obtain ⟨rfl,rfl,rfl⟩ : so = ao ∧ sn = l.length ∧ sc = ac := by simpa using hv
 have h0 := newB w (.cells #[.int .i64 c,.int .i64 d] 38)
 have h2 := box_new w #[.int .i64 c,.int .i64 d] 38
 have B := Lib.hid h0
 have HS := Lib.hid (hs.on h0)
 have X3 := Lib.hid h2
 have lm := hs.most
 unfold maxLen at lm
 obtain ⟨n,hn⟩ : ∃ n,n = l.length := ⟨_,rfl⟩
 rw [← hn] at HS lm ⊢
 have HN := Lib.hid hn.symm
 clear h0 h2 hs hv hn
 go_enter Tryz.func137,Tryz.ntmps137
 go_upto_region 1 with fail
 generalize w.alloc (.cells #[.int .i64 c,.int .i64 d] 38) = W at *
 go_wp2
 go_loopw [8] (fun i wr => ∃ k : Nat,k ≤ n ∧ i = .int .i64 k ∧ Below W.heap.size W wr ∧ ∀ (j : Nat) (y : XID),j < k → l[j]? = some y → y ≠ (c,d)) (fun i _ => n - (intOf i).toNat)
 case atStart => exact ⟨0,Nat.zero_le _,rfl,Below.refl _ _,fun j y h => by omega⟩
 case round =>
  obtain ⟨k,hk,rfl,hbe,hall⟩ := hrel
  have BE := Lib.hid hbe
  have AL := Lib.hid hall
  clear hbe hall
  by_cases hlt : k < n
  ·obtain ⟨y,hy⟩ : ∃ y,l[k]? = some y := ⟨_,List.getElem?_eq_getElem (by rw [HN.out]; exact hlt)⟩
   obtain ⟨p,ix,px⟩ := elJ HS.out rfl HN.out hy
   have DD : Below W.heap.size W wr.drew := BE.out.drew
   obtain ⟨p0,p1⟩ := px wr BE.out
   obtain ⟨y1,y2⟩ := y
   simp only at p0 p1
   obtain ⟨x0,x1⟩ := (X3.out.on BE.out).cs2
   have hw3 : IntKind.i64.wrap ((k : Int) + 1) = (k : Int) + 1 := IntWalk.i64_in _ (by omega)
   obtain ⟨r,hr⟩ : ∃ r,(c == y1 && d == y2) = r := ⟨_,rfl⟩
   have he := eqId c d y1 y2 r hr
   have DB := Lib.hid DD
   have HY := Lib.hid hy
   have HR := Lib.hid hr
   clear px hy hr DD
   cases r
   ·go_wp2_with fail
    go_quiet (fail)
    go_wp2
    go_roundw
    case rel => exact ⟨k + 1,by omega,by go_num,⟨BE.out.os,BE.out.tape,BE.out.output,BE.out.size,BE.out.block⟩,fun j y' hj h1 => by
     rcases Nat.lt_or_ge j k with h3 | h3
     ·exact AL.out j y' h3 h1
     ·obtain rfl : j = k := by omega
      have e1 := HY.out
      rw [h1] at e1
      rw [Option.some.inj e1]
      intro e
      obtain ⟨rfl,rfl⟩ : y1 = c ∧ y2 = d := by simpa using e
      have := HR.out
      simp at this⟩
    case measure => simp [intOf]; omega
   ·go_wp2_with fail
    go_quiet (fail)
    go_wp2
    go_ret
    have h8 := HR.out
    obtain ⟨rfl,rfl⟩ : c = y1 ∧ d = y2 := by simpa using h8
    exact ⟨by rw [findI_at l k (c,d) HY.out AL.out]; rfl,B.out.trans (Below.mono ⟨BE.out.os,BE.out.tape,BE.out.output,BE.out.size,BE.out.block⟩ B.out.size)⟩
  ·obtain rfl : k = n := by omega
   go_wp2
   go_ret
   have hd : findI l (c,d) = -1 := findI_none l (c,d) fun j y hj => AL.out j y (by rw [← HN.out]; exact (List.getElem?_eq_some_iff.1 hj).1) hj
   exact ⟨by rw [hd]; rfl,B.out.trans (BE.out.mono B.out.size)⟩
theorem contains_any (sv : Sl) (l : List XID) (x : XID) (w : World) (hs : RowJ w (slv sv) l) :
  Calls Tryz.prog 110 #[slv sv,idv x] w fun e w' => e = .returned (.bool (decide (x ∈ l))) ∧ Below w.heap.size w w' := by
 have h0 := newB w (.cells #[.int .i64 x.1,.int .i64 x.2] 38)
 have h2 := box_new w #[.int .i64 x.1,.int .i64 x.2] 38
 have C := index_any sv l x _ (hs.on h0)
 have R := Lib.hid (findI_in l x)
 obtain ⟨c,d⟩ := x
 obtain ⟨so,sn,sc⟩ := sv
 have B := Lib.hid h0
 obtain ⟨x0,x1⟩ := h2.cs2
 generalize findI l (c,d) = r at *
 generalize decide ((c,d) ∈ l) = s at *
 clear h0 h2 hs
 go_enter Tryz.func110,Tryz.ntmps110
 go_wp2_with fail
 refine C.mono ?_
 rintro e w1 ⟨rfl,hb⟩
 go_wp2
 go_ret
 exact ⟨by have h := R.out; subst h; rfl,B.out.trans (hb.mono B.out.size)⟩
theorem aseen_any (me : Int) (nv av ev ov : Value) (sv : Sl) (l : List XID) (x : XID) (w : World) (hs : RowJ w (slv sv) l) :
  Calls Tryz.prog 64 #[.agg #[.int .i64 me,nv,av,slv sv,ev,ov],idv x] w fun e w' => e = .returned (.bool (decide (x ∈ l))) ∧ Below w.heap.size w w' := by
 obtain ⟨h0,h1,h2⟩ := two_new w #[.int .i64 me,nv,av,slv sv,ev,ov] #[.int .i64 x.1,.int .i64 x.2] 31 38
 have C := contains_any sv l x _ (hs.on h0)
 obtain ⟨c,d⟩ := x
 obtain ⟨so,sn,sc⟩ := sv
 have B := Lib.hid h0
 have b3 := h1.cell 3
 obtain ⟨x0,x1⟩ := h2.cs2
 simp only [List.getElem?_toArray,List.getElem?_cons_zero,List.getElem?_cons_succ] at b3
 generalize decide ((c,d) ∈ l) = s at *
 clear h0 h1 h2 hs
 go_enter Tryz.func64,Tryz.ntmps64
 go_wp2_with fail
 refine C.mono ?_
 rintro e w1 ⟨rfl,hb⟩
 go_wp2
 go_ret
 exact ⟨rfl,B.out.trans (hb.mono B.out.size)⟩
abbrev newB0 (me : Int) (near : List Int) : Br := ⟨me,near,[],[],[],[]⟩
theorem anew_any (me : Int) (v : Sl) (l : List Int) (w : World) (hv : RowI w (slv v) l) (hl : l.length ≤ 900) :
  Calls Tryz.prog 12 #[.int .i64 me,slv v] w fun e w' => (∃ (l' : List Int) (nv : Sl),e = .returned (brv me nv (none,0,0) (none,0,0) (none,0,0) (none,0,0)) ∧ BrIn w' (newB0 me l') nv (none,0,0) (none,0,0) (none,0,0) (none,0,0) ∧ (∃ B,OwnI w' B (slv nv) l') ∧ l'.Pairwise (· < ·) ∧ ∀ x,x ∈ l' ↔ x ∈ l) ∧ Below w.heap.size w w' := by
 have n0 := newB w (.cells #[.int .i64 0,.slice none 0 0,.slice none 0 0,.slice none 0 0,.slice none 0 0,.slice none 0 0] 31)
 have X := Lib.hid (box_new w #[.int .i64 0,.slice none 0 0,.slice none 0 0,.slice none 0 0,.slice none 0 0,.slice none 0 0] 31)
 have C := Lib.hid (cloneI_any v l _ (hv.on n0) hl)
 have B0 := Lib.hid n0
 have HL := Lib.hid hl
 obtain ⟨vo,vn,vc⟩ := v
 clear hv hl n0
 go_enter Tryz.func12,Tryz.ntmps12
 go_wp2_with fail
 generalize w.alloc (.cells #[.int .i64 0,.slice none 0 0,.slice none 0 0,.slice none 0 0,.slice none 0 0,.slice none 0 0] 31) = W at *
 refine C.out.mono ?_
 rintro e1 w1 ⟨⟨⟨p1,p2,p3⟩,rfl,ho⟩,hb⟩
 have B1 := Lib.hid (B0.out.trans (hb.mono B0.out.size))
 have X1 := Lib.hid (X.out.on hb)
 have hlt : w.heap.size < W.heap.size := X.out.lt
 have C2 := Lib.hid (sortI_any w1 W.heap.size _ l ho HL.out)
 have OT := Lib.hid (fun g hg => (ho.lt g hg).1)
 have HW := Lib.hid hlt
 clear hb ho C X
 go_wp2_with fail
 refine C2.out.mono ?_
 rintro e2 w2 ⟨rfl,l2,ho2,hp2,hs2,hg2⟩
 have B2 := Lib.hid (B1.out.grown hg2 B1.out.size (fun j hj => Nat.le_trans (Nat.le_of_lt HW.out) (OT.out j hj)))
 have X2 := Lib.hid (show Box w2 w.heap.size _ _ from (hg2.block _ X1.out.lt (fun e => by have := OT.out _ e.symm; have := HW.out; omega)).trans X1.out)
 have C3 := Lib.hid (cptI_any w2 W.heap.size (p1,p2,p3) l2 ho2 hs2 (by rw [hp2.length_eq]; exact HL.out))
 have PM := Lib.hid hp2
 have OT2 := Lib.hid (fun g hg => (ho2.lt g hg).1)
 clear ho2 hp2 hs2 hg2 C2 OT X1
 go_wp2_with fail
 refine C3.out.mono ?_
 rintro e3 w3 ⟨⟨⟨t1,t2,t3⟩,rfl,l3,ho3,hs3,hm3⟩,hg3⟩
 have B3 := Lib.hid (B2.out.grown hg3 B2.out.size (fun j hj => Nat.le_trans (Nat.le_of_lt HW.out) (OT2.out j hj)))
 have Y := show Box w3 w.heap.size _ _ from (hg3.block _ X2.out.lt (fun e => by have := OT2.out _ e.symm; have := HW.out; omega)).trans X2.out
 obtain ⟨y0,y1,y2,y3,y4,y5⟩ := Y.cs6
 obtain ⟨f0,f1,f2,f3,f4,f5⟩ := Y.fs6
 have zz := Y.lt
 have FB := Lib.hid (setB_box Y (.int .i64 me) (.slice t1 t2 t3) (.slice none 0 0) (.slice none 0 0) (.slice none 0 0) (.slice none 0 0))
 have FL := Lib.hid (setB_below (b := w.heap.size) B3.out (Nat.le_refl _) (.int .i64 me) (.slice t1 t2 t3) (.slice none 0 0) (.slice none 0 0) (.slice none 0 0) (.slice none 0 0))
 have FO := Lib.hid (setB_ownA ho3 w.heap.size HW.out (.int .i64 me) (.slice t1 t2 t3) (.slice none 0 0) (.slice none 0 0) (.slice none 0 0) (.slice none 0 0))
 have Q := Lib.hid (show l3.Pairwise (· < ·) ∧ ∀ x,x ∈ l3 ↔ x ∈ l from ⟨hs3,fun x => (hm3 x).trans PM.out.mem_iff⟩)
 clear ho3 hs3 hm3 hg3 Y X2 C3 B2 B1 B0
 go_wp2_with fail
 obtain ⟨v0,v1,v2,v3,v4,v5⟩ := FB.out.cs6
 refine bodyPost_ret (v := .agg #[.int .i64 me,.slice t1 t2 t3,.slice none 0 0,.slice none 0 0,.slice none 0 0,.slice none 0 0]) (by simp [results,Tryz.results12,go_sem,v0,v1,v2,v3,v4,v5]) rfl ?_
 exact ⟨⟨l3,(t1,t2,t3),rfl,⟨Row.of_own FO.out,⟨[],row_nil _,.nil⟩,row_nil _,⟨[],row_nil _,.nil⟩,⟨[],row_nil _,.nil⟩⟩,⟨_,FO.out⟩,Q.out.1,Q.out.2⟩,FL.out⟩
end Go.Proofs.YtncogjpmboglhaaGreat.Av
namespace Go.Proofs.YtncogjpmboglhaaGreat.Bk
open Go.RowKit Go.Sort Rw YtncogjpmboglhaaGreat.Nm Pr
abbrev XOu := Int × Int × Int × Int × Int × Int × Sl × Sl
abbrev cellsU (x : XOu) : List Value := [.int .i64 x.1,.int .i64 x.2.1,.int .i64 x.2.2.1,.int .i64 x.2.2.2.1,.int .i64 x.2.2.2.2.1,.int .i64 x.2.2.2.2.2.1,slv x.2.2.2.2.2.2.1,slv x.2.2.2.2.2.2.2]
abbrev valU (x : XOu) : Value := .agg #[.int .i64 x.1,.int .i64 x.2.1,.int .i64 x.2.2.1,.int .i64 x.2.2.2.1,.int .i64 x.2.2.2.2.1,.int .i64 x.2.2.2.2.2.1,slv x.2.2.2.2.2.2.1,slv x.2.2.2.2.2.2.2]
def EU : Ek XOu := ⟨141,78,8,96,.agg #[.int .i64 0,.int .i64 0,.int .i64 0,.int .i64 0,.int .i64 0,.int .i64 0,.slice none 0 0,.slice none 0 0],valU,cellsU⟩
theorem infoU : (Tryz.prog.info? 141).map (fun i => (i.zero,i.size,i.bytes)) = some (some (.agg #[.int .i64 0,.int .i64 0,.int .i64 0,.int .i64 0,.int .i64 0,.int .i64 0,.slice none 0 0,.slice none 0 0]),8,96) := by kernel_rfl
theorem loadU (w : World) (p : Addr) (x : XOu) (h : ∀ j u,(cellsU x)[j]? = some u → w.cell? (p.add j) = some u) : (Instr.loadAt 141 (.pointer (some p))).run Tryz.prog w = .ok (valU x) w := by
 have h0 := h 0 _ rfl
 have h1 := h 1 _ rfl
 have h2 := h 2 _ rfl
 have h3 := h 3 _ rfl
 have h4 := h 4 _ rfl
 have h5 := h 5 _ rfl
 have h6 := h 6 _ rfl
 have h7 := h 7 _ rfl
 simp [Addr.add] at h0 h1 h2 h3 h4 h5 h6 h7
 simp [go_sem,h0,h1,h2,h3,h4,h5,h6,h7]
theorem okU : EU.Ok where
 hu := Tryz.underlying78
 info := by
  have h := infoU
  cases hi : Tryz.prog.info? 141 with
  | none => rw [hi] at h; cases h
  | some i =>
   rw [hi] at h
   simp only [Option.map_some,Option.some.injEq,Prod.mk.injEq] at h
   exact ⟨i,hi,h.1,h.2.1,h.2.2⟩
 zs := rfl
 len := fun _ => rfl
 one := fun x u hu => by
  simp only [EU,cellsU,List.mem_cons,List.not_mem_nil,or_false] at hu
  rcases hu with rfl | rfl | rfl | rfl | rfl | rfl | rfl | rfl <;> rfl
 pos := by decide
 few := by decide
 load := fun w p x h => loadU w p x h
abbrev RowU (W : World) (v : Value) (l : List XOu) : Prop := Row EU W v l
abbrev OwnU (W : World) (B : Nat) (v : Value) (l : List XOu) : Prop := Own EU W B v l
def othersL (near : List Int) (but : Int) (f : Int → XOu) : List XOu := (near.filter fun n => n != but).map f
theorem others_any (me but k tc ts ic is : Int) (nv : Sl) (av sv ev ov : Value) (pv lv : Sl) (l : List Int) (w : World) (hs : RowI w (slv nv) l) (hlen : l.length ≤ 900) :
  Calls Tryz.prog 98 #[.agg #[.int .i64 me,slv nv,av,sv,ev,ov],.int .i64 but,.agg #[.int .i64 k,.int .i64 tc,.int .i64 ts,.int .i64 ic,.int .i64 is,slv pv,slv lv]] w fun e w' => (∃ v : Sl,e = .returned (slv v) ∧ OwnU w' w.heap.size (slv v) (othersL l but fun n => (n,k,tc,ts,ic,is,pv,lv))) ∧ Below w.heap.size w w' := by
 obtain ⟨no,nn,nc⟩ := nv
 obtain ⟨po,pn,pc⟩ := pv
 obtain ⟨lo_,ln,lc⟩ := lv
 obtain ⟨q1,q2,hq⟩ := hs.len
 obtain ⟨rfl,hnn,rfl⟩ : no = q1 ∧ nn = l.length ∧ nc = q2 := by
  have h : Value.slice no nn nc = .slice q1 l.length q2 := hq
  simpa using h
 clear hq
 obtain ⟨h0,h1,h2⟩ := two_new w #[.int .i64 me,.slice no nn nc,av,sv,ev,ov] #[.int .i64 k,.int .i64 tc,.int .i64 ts,.int .i64 ic,.int .i64 is,.slice po pn pc,.slice lo_ ln lc] 31 77
 have B0 := Lib.hid h0
 have X5 := Lib.hid h2
 have HS := Lib.hid (hs.on h0)
 have HN := Lib.hid hnn
 have c1 := h1.cell 1
 simp only [List.getElem?_toArray,List.getElem?_cons_zero,List.getElem?_cons_succ] at c1
 have nb : nn ≤ 900 := by omega
 have W2 := Lib.hid h2.lt
 clear h0 h1 h2 hs hlen hnn
 go_enter Tryz.func98,Tryz.ntmps98
 go_upto_region 1 with fail
 generalize (w.alloc (.cells #[.int .i64 me,.slice no nn nc,av,sv,ev,ov] 31)).alloc (.cells #[.int .i64 k,.int .i64 tc,.int .i64 ts,.int .i64 ic,.int .i64 is,.slice po pn pc,.slice lo_ ln lc] 77) = W at *
 go_wp2
 go_loopw [7,13] (fun v i wr => ∃ q : Nat,q ≤ nn ∧ i = .int .i64 q ∧ Below W.heap.size W wr ∧ OwnU wr W.heap.size v (othersL (l.take q) but fun n => (n,k,tc,ts,ic,is,(po,pn,pc),(lo_,ln,lc)))) (fun _ i _ => nn - (intOf i).toNat)
 case atStart => exact ⟨0,Nat.zero_le _,rfl,Below.refl _ _,own_nil _ _⟩
 case round =>
  obtain ⟨q,hq,rfl,hbe,hown⟩ := hrel
  have BE := Lib.hid hbe
  have OE := Lib.hid hown
  clear hbe hown
  by_cases hlt : q < nn
  ·obtain ⟨y,hy⟩ : ∃ y,l[q]? = some y := ⟨_,List.getElem?_eq_getElem (by rw [← HN.out]; exact hlt)⟩
   obtain ⟨p,ix,_,px⟩ := row_el Nm.okI HS.out rfl HN.out.symm hy
   have p0 : wr.cell? p = some (.int .i64 y) := by simpa [Addr.add] using px wr BE.out 0 _ rfl
   have ix : ∀ w,(Instr.indexAt 25 (.slice no nn nc) (.int .i64 q)).run Tryz.prog w = .ok (.pointer (some p)) w := ix
   have FS := Lib.hid (show othersL (l.take (q + 1)) but (fun n => ((n,k,tc,ts,ic,is,(po,pn,pc),(lo_,ln,lc)) : XOu)) = othersL (l.take q) but (fun n => (n,k,tc,ts,ic,is,(po,pn,pc),(lo_,ln,lc))) ++ (if (y != but) = true then [(y,k,tc,ts,ic,is,(po,pn,pc),(lo_,ln,lc))] else []) by
    unfold othersL
    rw [fil_snoc l q y _ hy,List.map_append]
    cases y != but <;> rfl)
   have hw3 : IntKind.i64.wrap ((q : Int) + 1) = (q : Int) + 1 := IntWalk.i64_in _ (by omega)
   obtain ⟨r,hr⟩ : ∃ r,(y != but) = r := ⟨_,rfl⟩
   rw [hr] at FS
   clear px hy
   cases r
   ·go_wp2
    go_roundw
    case rel => exact ⟨q + 1,by omega,by go_num,BE.out,by
     rw [FS.out]
     simpa using OE.out⟩
    case measure => simp [intOf]; omega
   ·have x_ := X5.out.on BE.out
    obtain ⟨x0,x1,x2,x3,x4,x5,x6⟩ := x_.cs7
    have NB := Lib.hid (newB wr (.cells #[.int .i64 y,.int .i64 k,.int .i64 tc,.int .i64 ts,.int .i64 ic,.int .i64 is,.slice po pn pc,.slice lo_ ln lc] 141))
    have hlit := row_lit okU wr [(y,k,tc,ts,ic,is,(po,pn,pc),(lo_,ln,lc))] 1 rfl (by simp) #[.int .i64 y,.int .i64 k,.int .i64 tc,.int .i64 ts,.int .i64 ic,.int .i64 is,.slice po pn pc,.slice lo_ ln lc] rfl
    have o2 := own_on OE.out NB.out
    have hB : W.heap.size ≤ (wr.alloc (.cells #[.int .i64 y,.int .i64 k,.int .i64 tc,.int .i64 ts,.int .i64 ic,.int .i64 is,.slice po pn pc,.slice lo_ ln lc] 141)).heap.size := by have h1 := BE.out.size; simp; omega
    obtain ⟨v',w',r',o',gr⟩ := app_row okU W.heap.size o2 (Row.of_own hlit) (by
     unfold othersL
     rw [List.length_map]
     have h1 := List.length_filter_le (fun n => n != but) (l.take q)
     rw [List.length_take] at h1
     omega) (by simp) hB 78
    have r' : (Builtin.append_ #[78,78] 78 #[u7,.slice (some ⟨wr.heap.size,0,none⟩) 1 1]).run Tryz.prog (wr.alloc (.cells #[.int .i64 y,.int .i64 k,.int .i64 tc,.int .i64 ts,.int .i64 ic,.int .i64 is,.slice po pn pc,.slice lo_ ln lc] 141)) = .ok v' w' := by
     simpa [EU] using r'
    have BG := Lib.hid ((BE.out.trans (NB.out.mono BE.out.size)).grown gr hB fun j hj => (o2.lt j hj).1)
    have OG := Lib.hid o'
    clear hlit o2 hB o' gr OE x_
    go_wp2_with (first | (at_builtin; refine wpList_append_run rfl _ _ 78 rfl rfl rfl r' ?_) | fail)
    go_roundw
    case rel => exact ⟨q + 1,by omega,by go_num,BG.out,by
     rw [FS.out]
     simpa using OG.out⟩
    case measure => simp [intOf]; omega
  ·obtain rfl : nn = q := by omega
   have e : l.take nn = l := List.take_of_length_le (by have := HN.out; omega)
   rw [e] at OE
   obtain ⟨vo1,vo2,hv⟩ := (Row.of_own OE.out).len
   subst hv
   clear e
   go_wp2
   go_ret
   exact ⟨⟨(vo1,_,vo2),rfl,own_fewer OE.out (by have := W2.out; omega)⟩,B0.out.trans (BE.out.mono B0.out.size)⟩
end Go.Proofs.YtncogjpmboglhaaGreat.Bk
