/-
  Forget of package adverts: a broker without one advertisement, and its. Conditions as told.
-/
import Derived.Test.YtmklifheakemeaaGreatfr022
import Derived.Test.YtmklifheakemeaaGreatfr019
import Derived.Test.YtmklifheakemeaaGreatfr021
import Derived.Test.YtmklifheakemeaaGreatfr020
import Derived.Test.YtmklifheakemeaaGreatfr023
import Derived.Test.YtmklifheakemeaaGreatfr016
import Derived.Test.YtmklifheakemeaaGreatfr012
import Derived.Test.YtmklifheakemeaaGreatfr014
import Derived.Test.YtmklifheakemeaaGreatfr017
import Derived.Test.YtmklifheakemeaaGreatfr013
import Derived.Test.YtmklifheakemeaaGreatfr005
import Derived.Test.YtmklifheakemeaaGreatfr001
import Derived.Lib.Hide
import Derived.Test.YtmklifheakemeaaGreatfr026
import Derived.ChangeSlices
import Derived.Deep.Slices
set_option maxRecDepth 100000
set_option maxHeartbeats 64000000
namespace Go.Proofs.YtmklifheakemeaaGreat.Av
open Go.RowKit Go.Sort Rw YtmklifheakemeaaGreat.Nm Pr Bk
def forgetF (b : Br) (x : XID) (f : Int) : Br × Bool := match findA b.adv x with
 | none => (b,false)
 | some a => if a.par = f then ({ b with adv := b.adv.filter fun e => decide (e.id ≠ x),ent := b.ent.filter fun e => decide (e.tree ≠ x) },true) else (b,false)
theorem filter_cut {al : List Ad} (hr : RiseA al) {k : Nat} {a : Ad} {x : XID} (hk : al[k]? = some a) (hx : a.id = x) : al.filter (fun e => decide (e.id ≠ x)) = cutAt al k := by
 subst hx
 unfold cutAt
 have h1 : al = al.take k ++ (a :: al.drop (k + 1)) := by
  have hlt := (List.getElem?_eq_some_iff.1 hk).1
  have he := (List.getElem?_eq_some_iff.1 hk).2
  rw [← he,List.getElem_cons_drop,List.take_append_drop]
 conv => lhs; rw [h1]
 rw [List.filter_append,List.filter_cons_of_neg (by simp)]
 have hp := List.pairwise_iff_getElem.1 hr
 have e1 : (al.take k).filter (fun e => decide (e.id ≠ a.id)) = al.take k := by
  rw [List.filter_eq_self]
  intro y hy
  obtain ⟨j,hj⟩ := List.mem_iff_getElem?.1 hy
  have hjl := (List.getElem?_eq_some_iff.1 hj).1
  rw [List.length_take] at hjl
  rw [List.getElem?_take_of_lt (by omega)] at hj
  have := riseK_lt hr (show j < k by omega) hj hk
  refine decide_eq_true fun e => ?_
  rw [e,lessI_irr] at this
  cases this
 have e2 : (al.drop (k + 1)).filter (fun e => decide (e.id ≠ a.id)) = al.drop (k + 1) := by
  rw [List.filter_eq_self]
  intro y hy
  obtain ⟨j,hj⟩ := List.mem_iff_getElem?.1 hy
  rw [List.getElem?_drop] at hj
  have := riseK_lt hr (show k < k + 1 + j by omega) hk hj
  refine decide_eq_true fun e => ?_
  rw [e,lessI_irr] at this
  cases this
 rw [e1,e2]
theorem forgetF_eq {b : Br} (hr : RiseA b.adv) (x : XID) (f : Int) : forgetF b x f = forgetB b x f := by
 unfold forgetF forgetB
 by_cases h : findI (b.adv.map Ad.id) x = -1
 ·have hn : findA b.adv x = none := findA_none fun j a hj => findI_neg (key := Ad.id) h j a hj
  rw [hn]
  cases b.adv[(findI (b.adv.map Ad.id) x).toNat]? with
  | none => rfl
  | some a => simp only; rw [if_pos h]
 ·obtain ⟨k,hk⟩ : ∃ k : Nat,findI (b.adv.map Ad.id) x = k := ⟨(findI (b.adv.map Ad.id) x).toNat,by have := findI_bd (b.adv.map Ad.id) x; omega⟩
  obtain ⟨g1,g2⟩ := findI_get hk
  rw [List.getElem?_map] at g1
  cases ha : b.adv[k]? with
  | none => rw [ha] at g1; cases g1
  | some a =>
   rw [ha] at g1
   have hx : a.id = x := Option.some.inj g1
   have hf : findA b.adv x = some a := findA_at ha hx fun j z hj hz => g2 j z.id hj (by rw [List.getElem?_map,hz]; rfl)
   rw [hf,hk,Int.toNat_natCast,ha]
   simp only
   rw [if_neg (show ¬ ((k : Int) = -1) by omega)]
   split
   ·rw [filter_cut hr ha hx]
   ·rfl
theorem all2_fil {α β : Type} {R : α → β → Prop} (p : α → Bool) (q : β → Bool) : ∀ {l : List α} {m : List β},All2 R l m → (∀ a b,R a b → p a = q b) → All2 R (l.filter p) (m.filter q)
 | _,_,.nil,_ => .nil
 | _,_,.cons (a := a) (b := b) x t,h => by
  have e := h a b x
  rw [List.filter_cons,List.filter_cons,e]
  cases q b
  ·exact all2_fil p q t h
  ·exact .cons x (all2_fil p q t h)
theorem forget_own (b : Br) (x : XID) (f : Int) (nv av sv ev ov : Sl) (w : World) (h : BrIn w b nv av sv ev ov) (hf : Few b) (hp : FewP b) :
  Calls Tryz.prog 37 #[brv b.me nv av sv ev ov,idv x,.int .i64 f] w (LearnQ2 w (NearOwn w nv b.near) (BrC w b nv av sv ev ov) (forgetF b x f)) := by
 obtain ⟨no,nn,nc⟩ := nv
 obtain ⟨ao,an,ac⟩ := av
 obtain ⟨so,sn,sc⟩ := sv
 obtain ⟨eo,en,ec⟩ := ev
 obtain ⟨oo,on_,oc⟩ := ov
 obtain ⟨c,d⟩ := x
 obtain ⟨h0,h1,h2⟩ := two_new w #[.int .i64 b.me,.slice no nn nc,.slice ao an ac,.slice so sn sc,.slice eo en ec,.slice oo on_ oc] #[.int .i64 c,.int .i64 d] 28 31
 have h3 := newB ((w.alloc (.cells #[.int .i64 b.me,.slice no nn nc,.slice ao an ac,.slice so sn sc,.slice eo en ec,.slice oo on_ oc] 28)).alloc (.cells #[.int .i64 c,.int .i64 d] 31)) (.cells #[.int .i64 0,.slice none 0 0,.slice none 0 0,.slice none 0 0,.slice none 0 0,.slice none 0 0] 28)
 have h4 := box_new ((w.alloc (.cells #[.int .i64 b.me,.slice no nn nc,.slice ao an ac,.slice so sn sc,.slice eo en ec,.slice oo on_ oc] 28)).alloc (.cells #[.int .i64 c,.int .i64 d] 31)) #[.int .i64 0,.slice none 0 0,.slice none 0 0,.slice none 0 0,.slice none 0 0,.slice none 0 0] 28
 have hsz : ((w.alloc (.cells #[.int .i64 b.me,.slice no nn nc,.slice ao an ac,.slice so sn sc,.slice eo en ec,.slice oo on_ oc] 28)).alloc (.cells #[.int .i64 c,.int .i64 d] 31)).heap.size = w.heap.size + 1 + 1 := by simp
 rw [hsz] at h4
 have BB := Lib.hid (h0.trans (h3.mono h0.size))
 have X1 := Lib.hid (h1.on h3)
 have X2 := Lib.hid (h2.on h3)
 have X3 := Lib.hid h4
 have HH := Lib.hid h
 have HF := Lib.hid hf
 have HP := Lib.hid hp
 obtain ⟨la,ha1,ha2⟩ := h.adv
 have SW := Lib.hid (find_any b.me (.slice no nn nc) (.slice so sn sc) (.slice eo en ec) (.slice oo on_ oc) (ao,an,ac) la b.adv (c,d) _ (ha1.on BB.out) (ha2.mono fun _ _ q => q.on BB.out) hp.adv)
 obtain ⟨fa,hfa⟩ : ∃ fa,findA b.adv (c,d) = fa := ⟨_,rfl⟩
 rw [hfa] at SW
 have FA := Lib.hid hfa
 obtain ⟨x0,x1,x2,x3,x4,x5⟩ := X1.out.cs6
 obtain ⟨d0,d1⟩ := X2.out.cs2
 clear h0 h1 h2 h3 h4 hsz h hf hp hfa ha1 ha2 la
 go_enter Tryz.func37,Tryz.ntmps37
 go_wp2_with fail
 generalize ((w.alloc (.cells #[.int .i64 b.me,.slice no nn nc,.slice ao an ac,.slice so sn sc,.slice eo en ec,.slice oo on_ oc] 28)).alloc (.cells #[.int .i64 c,.int .i64 d] 31)).alloc (.cells #[.int .i64 0,.slice none 0 0,.slice none 0 0,.slice none 0 0,.slice none 0 0,.slice none 0 0] 28) = W at *
 refine SW.out.mono ?_
 rintro e1 w1 ⟨hq,hb⟩
 have B1 := Lib.hid (BB.out.trans (hb.mono BB.out.size))
 have Z1 := Lib.hid (X1.out.on hb)
 have Z2 := Lib.hid (X2.out.on hb)
 have Z3 := Lib.hid (X3.out.on hb)
 clear SW hb x0 x1 x2 x3 x4 x5 d0 d1 X1 X2 X3
 cases fa with
 | none =>
  have LQ := Lib.hid (show forgetF b (c,d) f = (b,false) by unfold forgetF; rw [FA.out])
  subst hq
  have nb := newB w1 (.cells #[.int .i64 0,.int .i64 0,.slice none 0 0,.int .i64 0] 74)
  have B2 := Lib.hid (B1.out.trans (nb.mono B1.out.size))
  have Y1 := Z1.out.on nb
  have Y3 := Z3.out.on nb
  obtain ⟨x0,x1,x2,x3,x4,x5⟩ := Y1.cs6
  obtain ⟨z0,z1,z2,z3,z4,z5⟩ := Y3.cs6
  obtain ⟨t0,t1,t2,t3,t4,t5⟩ := Y3.fs6
  have zz := Y3.lt
  have FB := Lib.hid (setB_box Y3 (.int .i64 b.me) (.slice no nn nc) (.slice ao an ac) (.slice so sn sc) (.slice eo en ec) (.slice oo on_ oc))
  have FL := Lib.hid (setB_below (b := w.heap.size + 1 + 1) B2.out (by omega) (.int .i64 b.me) (.slice no nn nc) (.slice ao an ac) (.slice so sn sc) (.slice eo en ec) (.slice oo on_ oc))
  clear Y1 Y3 nb
  go_wp2_with fail
  obtain ⟨v0,v1,v2,v3,v4,v5⟩ := FB.out.cs6
  refine bodyPost_ret (v := .tuple #[.agg #[.int .i64 b.me,.slice no nn nc,.slice ao an ac,.slice so sn sc,.slice eo en ec,.slice oo on_ oc],.bool false]) (by simp [results,Tryz.results37,go_sem,v0,v1,v2,v3,v4,v5]) rfl ?_
  rw [LQ.out]
  exact ⟨⟨(no,nn,nc),(ao,an,ac),(so,sn,sc),(eo,en,ec),(oo,on_,oc),rfl,HH.out.on FL.out,fun h => h.on FL.out,fun h => (h.resolve_right (by simp)).on FL.out⟩,FL.out⟩
 | some a =>
  obtain ⟨⟨r1,r2,⟨ro,rn,rc⟩,r4⟩,rfl,hr1,hr2,hr3⟩ := hq
  have nb := newB w1 (.cells #[.int .i64 r1,.int .i64 r2,.slice ro rn rc,.int .i64 r4] 74)
  have bx := box_new w1 #[.int .i64 r1,.int .i64 r2,.slice ro rn rc,.int .i64 r4] 74
  have b3 := bx.cell 3
  have B2 := Lib.hid (B1.out.trans (nb.mono B1.out.size))
  have Y1 := Z1.out.on nb
  have Y2 := Z2.out.on nb
  have Y3 := Z3.out.on nb
  have AP := Lib.hid (show a.par = r4 from hr2.symm)
  obtain ⟨x0,x1,x2,x3,x4,x5⟩ := Y1.cs6
  obtain ⟨z0,z1,z2,z3,z4,z5⟩ := Y3.cs6
  obtain ⟨t0,t1,t2,t3,t4,t5⟩ := Y3.fs6
  simp only [List.getElem?_toArray,List.getElem?_cons_zero,List.getElem?_cons_succ] at b3
  have zz := Y3.lt
  by_cases hpf : r4 = f
  ·have LQ := Lib.hid (show forgetF b (c,d) f = ({ b with adv := b.adv.filter fun e => decide (e.id ≠ (c,d)),ent := b.ent.filter fun e => decide (e.tree ≠ (c,d)) },true) by unfold forgetF; rw [FA.out]; simp only; rw [if_pos (by rw [AP.out]; exact hpf)])
   have hne : (r4 != f) = false := by simp [hpf]
   have Z1 := Lib.hid Y1
   have Z2 := Lib.hid Y2
   have Z3 := Lib.hid Y3
   have L1 := Lib.hid Y1.lt
   have L3 := Lib.hid (show w.heap.size + 1 < (w1.alloc (.cells #[.int .i64 r1,.int .i64 r2,.slice ro rn rc,.int .i64 r4] 74)).heap.size from Y2.lt)
   clear Y1 Y2 Y3 nb bx z0 z1 z2 z3 z4 z5 t0 t1 t2 t3 t4 t5 zz hr1 hr2 hr3 hpf
   go_wp2_with fail
   clear b3 x0 x1 x2 x3 x4 x5 hne
   generalize w1.alloc (.cells #[.int .i64 r1,.int .i64 r2,.slice ro rn rc,.int .i64 r4] 74) = w1a at *
   refine (acopy_own b (no,nn,nc) (ao,an,ac) (so,sn,sc) (eo,en,ec) (oo,on_,oc) w w1a B2.out HH.out HF.out HP.out).mono ?_
   rintro e2 w2 ⟨⟨⟨p1,q1,s1⟩,⟨p2,q2,s2⟩,⟨p3,q3,s3⟩,⟨p4,q4,s4⟩,⟨p5,q5,s5⟩,rfl,cp⟩,hb2⟩
   have V1 := Z1.out.on hb2
   have V2 := Lib.hid (Z2.out.on hb2)
   have V3 := Lib.hid (Z3.out.on hb2)
   obtain ⟨x0,x1,x2,x3,x4,x5⟩ := V1.cs6
   obtain ⟨t0,t1,t2,t3,t4,t5⟩ := V1.fs6
   have zz := V1.lt
   have FB := Lib.hid (setB_box V1 (.int .i64 b.me) (.slice p1 q1 s1) (.slice p2 q2 s2) (.slice p3 q3 s3) (.slice p4 q4 s4) (.slice p5 q5 s5))
   have FC := Lib.hid (cp.but (but_setB w2 w.heap.size (.int .i64 b.me) (.slice p1 q1 s1) (.slice p2 q2 s2) (.slice p3 q3 s3) (.slice p4 q4 s4) (.slice p5 q5 s5)) V1)
   have FL := Lib.hid (setB_below (b := w.heap.size) (B2.out.trans (hb2.mono B2.out.size)) (Nat.le_refl _) (.int .i64 b.me) (.slice p1 q1 s1) (.slice p2 q2 s2) (.slice p3 q3 s3) (.slice p4 q4 s4) (.slice p5 q5 s5))
   have F2 := Lib.hid ((but_setB w2 w.heap.size (.int .i64 b.me) (.slice p1 q1 s1) (.slice p2 q2 s2) (.slice p3 q3 s3) (.slice p4 q4 s4) (.slice p5 q5 s5)).box V2.out (by omega))
   have F3 := Lib.hid ((but_setB w2 w.heap.size (.int .i64 b.me) (.slice p1 q1 s1) (.slice p2 q2 s2) (.slice p3 q3 s3) (.slice p4 q4 s4) (.slice p5 q5 s5)).box V3.out (by omega))
   have SZ := Lib.hid (show w1a.heap.size ≤ (setB w2 w.heap.size (.int .i64 b.me) (.slice p1 q1 s1) (.slice p2 q2 s2) (.slice p3 q3 s3) (.slice p4 q4 s4) (.slice p5 q5 s5)).heap.size by have := hb2.size; simp; omega)
   have L2 := Lib.hid (show w.heap.size < w1a.heap.size from L1.out)
   clear V1 V2 V3 cp hb2 Z1 Z2 Z3 L1
   go_upto_region 5 with fail
   clear x0 x1 x2 x3 x4 x5 t0 t1 t2 t3 t4 t5 zz
   unfold setB at FB FC FL F2 F3 SZ
   generalize ((((((w2).setCell ⟨w.heap.size,0,none⟩ (.int .i64 b.me)).setCell ⟨w.heap.size,1,none⟩ (.slice p1 q1 s1)).setCell ⟨w.heap.size,2,none⟩ (.slice p2 q2 s2)).setCell ⟨w.heap.size,3,none⟩ (.slice p3 q3 s3)).setCell ⟨w.heap.size,4,none⟩ (.slice p4 q4 s4)).setCell ⟨w.heap.size,5,none⟩ (.slice p5 q5 s5) = w3 at *
   obtain ⟨la,hla1,hla2⟩ := FC.out.adv
   have DL := Lib.hid (delD_any w1a.heap.size (p2,q2,s2) la (w.heap.size + 1) c d w3 hla1 F2.out SZ.out)
   have TG := Lib.hid (tag_own hla1)
   have HL2 := Lib.hid hla2
   have x2 := FB.out.cell 2
   simp only [List.getElem?_toArray,List.getElem?_cons_zero,List.getElem?_cons_succ] at x2
   clear hla1 hla2
   go_wp2_with fail
   refine DL.out.mono ?_
   rintro e4 w4 ⟨⟨⟨t1,t2,t3⟩,rfl,hown⟩,hbel,hoff⟩
   have CP2 := Lib.hid (FC.out.offD (av' := (t1,t2,t3)) (al := b.adv.filter fun e => decide (e.id ≠ (c,d))) hoff ⟨_,hown,all2_fil _ _ (HL2.out.mono fun _ _ q => q.off hoff TG.out (by decide)) fun y z q => by
    show decide (keyD y ≠ (c,d)) = decide (z.id ≠ (c,d))
    rw [show keyD y = z.id from q.1]⟩)
   have G1 := hoff.box FB.out TG.out (by decide)
   have G2 := hoff.box F2.out TG.out (by decide)
   have G3 := hoff.box F3.out TG.out (by decide)
   have M1 := Lib.hid (show Box (w4.setCell ⟨w.heap.size,2,none⟩ (.slice t1 t2 t3)) w.heap.size #[.int .i64 b.me,.slice p1 q1 s1,.slice t1 t2 t3,.slice p3 q3 s3,.slice p4 q4 s4,.slice p5 q5 s5] 28 by simpa using box_set (k := 2) G1 (.slice t1 t2 t3))
   have M2 := Lib.hid ((but_cell w4 w.heap.size 2 (.slice t1 t2 t3)).box G2 (by omega))
   have M3 := Lib.hid ((but_cell w4 w.heap.size 2 (.slice t1 t2 t3)).box G3 (by omega))
   have MC := Lib.hid (CP2.out.but (but_cell w4 w.heap.size 2 (.slice t1 t2 t3)) G1)
   have ML := Lib.hid (show Below w.heap.size w (w4.setCell ⟨w.heap.size,2,none⟩ (.slice t1 t2 t3)) from (FL.out.trans (hbel.mono (Nat.le_of_lt L2.out))).setCell (p := ⟨w.heap.size,2,none⟩) (Nat.le_refl _) _)
   have MZ := Lib.hid (show w1a.heap.size ≤ (w4.setCell ⟨w.heap.size,2,none⟩ (.slice t1 t2 t3)).heap.size by have := SZ.out; have := hbel.size; simp; omega)
   clear x2
   have x2 := G1.cell 2
   have f2 := G1.fr 2
   have zz := G1.lt
   simp only [List.getElem?_toArray,List.getElem?_cons_zero,List.getElem?_cons_succ] at x2
   clear hown hbel hoff G1 G2 G3 CP2 FB FC F2 F3 FL SZ HL2 TG DL la
   go_upto_region 6 with fail
   clear x2 f2 zz
   generalize w4.setCell ⟨w.heap.size,2,none⟩ (.slice t1 t2 t3) = w5 at *
   obtain ⟨le,hle1,hle2⟩ := MC.out.ent
   replace hle2 : All2 (EnM (vw w) w1a.heap.size w5) le b.ent := hle2
   have DL := Lib.hid (delN_any w1a.heap.size (p4,q4,s4) le (w.heap.size + 1) c d w5 hle1 M2.out MZ.out)
   have TG := Lib.hid (tag_own hle1)
   have HL2 := Lib.hid hle2
   have x4 := M1.out.cell 4
   simp only [List.getElem?_toArray,List.getElem?_cons_zero,List.getElem?_cons_succ] at x4
   clear hle1 hle2
   go_wp2_with fail
   refine DL.out.mono ?_
   rintro e5 w6 ⟨⟨⟨r1,r2,r3⟩,rfl,hown⟩,hbel,hoff⟩
   have CP4 := Lib.hid (MC.out.offN (ev' := (r1,r2,r3)) (el := b.ent.filter fun e => decide (e.tree ≠ (c,d))) hoff ⟨_,hown,all2_fil _ _ (HL2.out.mono fun _ _ q => q.off hoff TG.out (by decide)) fun y z q => by
    show decide (keyT y ≠ (c,d)) = decide (z.tree ≠ (c,d))
    rw [show keyT y = z.tree from q.1]⟩)
   have K1 := hoff.box M1.out TG.out (by decide)
   have K3 := hoff.box M3.out TG.out (by decide)
   have KL := ML.out.trans (hbel.mono (Nat.le_of_lt L2.out))
   have U1 := Lib.hid (show Box (w6.setCell ⟨w.heap.size,4,none⟩ (.slice r1 r2 r3)) w.heap.size #[.int .i64 b.me,.slice p1 q1 s1,.slice t1 t2 t3,.slice p3 q3 s3,.slice r1 r2 r3,.slice p5 q5 s5] 28 by simpa using box_set (k := 4) K1 (.slice r1 r2 r3))
   have U3 := Lib.hid ((but_cell w6 w.heap.size 4 (.slice r1 r2 r3)).box K3 (by omega))
   have UC := Lib.hid (CP4.out.but (but_cell w6 w.heap.size 4 (.slice r1 r2 r3)) K1)
   have UL := Lib.hid (show Below w.heap.size w (w6.setCell ⟨w.heap.size,4,none⟩ (.slice r1 r2 r3)) from KL.setCell (p := ⟨w.heap.size,4,none⟩) (Nat.le_refl _) _)
   clear x4
   have x4 := K1.cell 4
   have f4 := K1.fr 4
   have zz := K1.lt
   simp only [List.getElem?_toArray,List.getElem?_cons_zero,List.getElem?_cons_succ] at x4
   clear hown hbel hoff K1 K3 KL CP4 MC M1 M2 M3 ML MZ HL2 TG DL le
   go_upto_region 7 with fail
   clear x4 f4 zz
   generalize w6.setCell ⟨w.heap.size,4,none⟩ (.slice r1 r2 r3) = w7 at *
   have Q1 := U1.out
   have Q3 := U3.out
   obtain ⟨x0,x1,x2,x3,x4,x5⟩ := Q1.cs6
   obtain ⟨z0,z1,z2,z3,z4,z5⟩ := Q3.cs6
   obtain ⟨f0,f1,f2,f3,f4,f5⟩ := Q3.fs6
   have zz := Q3.lt
   have FB := Lib.hid (setB_box Q3 (.int .i64 b.me) (.slice p1 q1 s1) (.slice t1 t2 t3) (.slice p3 q3 s3) (.slice r1 r2 r3) (.slice p5 q5 s5))
   have FC := Lib.hid (UC.out.but (but_setB w7 (w.heap.size + 1 + 1) (.int .i64 b.me) (.slice p1 q1 s1) (.slice t1 t2 t3) (.slice p3 q3 s3) (.slice r1 r2 r3) (.slice p5 q5 s5)) Q3)
   have FL := Lib.hid (setB_below (b := w.heap.size + 1 + 1) UL.out (by omega) (.int .i64 b.me) (.slice p1 q1 s1) (.slice t1 t2 t3) (.slice p3 q3 s3) (.slice r1 r2 r3) (.slice p5 q5 s5))
   clear Q1 Q3 U1 U3 UC UL
   go_wp2_with fail
   obtain ⟨v0,v1,v2,v3,v4,v5⟩ := FB.out.cs6
   refine bodyPost_ret (v := .tuple #[.agg #[.int .i64 b.me,.slice p1 q1 s1,.slice t1 t2 t3,.slice p3 q3 s3,.slice r1 r2 r3,.slice p5 q5 s5],.bool true]) (by simp [results,Tryz.results37,go_sem,v0,v1,v2,v3,v4,v5]) rfl ?_
   rw [LQ.out]
   exact ⟨⟨(p1,q1,s1),(t1,t2,t3),(p3,q3,s3),(r1,r2,r3),(p5,q5,s5),rfl,FC.out.vbr,fun _ => ⟨_,FC.out.near⟩,fun _ => ⟨_,_,FC.out⟩⟩,FL.out⟩
  ·have LQ := Lib.hid (show forgetF b (c,d) f = (b,false) by unfold forgetF; rw [FA.out]; simp only; rw [if_neg (by rw [AP.out]; exact hpf)])
   have hne : (r4 != f) = true := by simp [hpf]
   have FB := Lib.hid (setB_box Y3 (.int .i64 b.me) (.slice no nn nc) (.slice ao an ac) (.slice so sn sc) (.slice eo en ec) (.slice oo on_ oc))
   have FL := Lib.hid (setB_below (b := w.heap.size + 1 + 1) B2.out (by omega) (.int .i64 b.me) (.slice no nn nc) (.slice ao an ac) (.slice so sn sc) (.slice eo en ec) (.slice oo on_ oc))
   clear Y1 Y2 Y3 nb bx hr1 hr2 hr3 hpf
   go_wp2_with fail
   obtain ⟨v0,v1,v2,v3,v4,v5⟩ := FB.out.cs6
   refine bodyPost_ret (v := .tuple #[.agg #[.int .i64 b.me,.slice no nn nc,.slice ao an ac,.slice so sn sc,.slice eo en ec,.slice oo on_ oc],.bool false]) (by simp [results,Tryz.results37,go_sem,v0,v1,v2,v3,v4,v5]) rfl ?_
   rw [LQ.out]
   exact ⟨⟨(no,nn,nc),(ao,an,ac),(so,sn,sc),(eo,en,ec),(oo,on_,oc),rfl,HH.out.on FL.out,fun h => h.on FL.out,fun h => (h.resolve_right (by simp)).on FL.out⟩,FL.out⟩
def okEn (b : Br) (e : En) : Bool := match findA b.adv e.tree with
 | none => false
 | some a => !(e.from_ == a.par && !(a.par == -1)) && (comesB b.near e.from_ && (!(e.up && a.par == -1) && Wr.rightP e.p))
abbrev newB0 (me : Int) (near : List Int) : Br := ⟨me,near,[],[],[],[]⟩
theorem anew_any (me : Int) (v : Sl) (l : List Int) (w : World) (hv : RowI w (slv v) l) (hl : l.length ≤ 900) :
  Calls Tryz.prog 8 #[.int .i64 me,slv v] w fun e w' => (∃ (l' : List Int) (nv : Sl),e = .returned (brv me nv (none,0,0) (none,0,0) (none,0,0) (none,0,0)) ∧ BrIn w' (newB0 me l') nv (none,0,0) (none,0,0) (none,0,0) (none,0,0) ∧ (∃ B,OwnI w' B (slv nv) l') ∧ l'.Pairwise (· < ·) ∧ ∀ x,x ∈ l' ↔ x ∈ l) ∧ Below w.heap.size w w' := by
 have n0 := newB w (.cells #[.int .i64 0,.slice none 0 0,.slice none 0 0,.slice none 0 0,.slice none 0 0,.slice none 0 0] 28)
 have X := Lib.hid (box_new w #[.int .i64 0,.slice none 0 0,.slice none 0 0,.slice none 0 0,.slice none 0 0,.slice none 0 0] 28)
 have C := Lib.hid (cloneI_any v l _ (hv.on n0) hl)
 have B0 := Lib.hid n0
 have HL := Lib.hid hl
 obtain ⟨vo,vn,vc⟩ := v
 clear hv hl n0
 go_enter Tryz.func8,Tryz.ntmps8
 go_wp2_with fail
 generalize w.alloc (.cells #[.int .i64 0,.slice none 0 0,.slice none 0 0,.slice none 0 0,.slice none 0 0,.slice none 0 0] 28) = W at *
 refine C.out.mono ?_
 rintro e1 w1 ⟨⟨⟨p1,p2,p3⟩,rfl,ho⟩,hb⟩
 have B1 := Lib.hid (B0.out.trans (hb.mono B0.out.size))
 have X1 := Lib.hid (X.out.on hb)
 have hlt : w.heap.size < W.heap.size := X.out.lt
 have C2 := Lib.hid (sortI_any w1 W.heap.size _ l ho HL.out)
 have OT := Lib.hid (fun g hg => (ho.lt g hg).1)
 have HW := Lib.hid hlt
 clear hb ho C X
 go_wp2_with fail
 refine C2.out.mono ?_
 rintro e2 w2 ⟨rfl,l2,ho2,hp2,hs2,hg2⟩
 have B2 := Lib.hid (B1.out.grown hg2 B1.out.size (fun j hj => Nat.le_trans (Nat.le_of_lt HW.out) (OT.out j hj)))
 have X2 := Lib.hid (show Box w2 w.heap.size _ _ from (hg2.block _ X1.out.lt (fun e => by have := OT.out _ e.symm; have := HW.out; omega)).trans X1.out)
 have C3 := Lib.hid (cptI_any w2 W.heap.size (p1,p2,p3) l2 ho2 hs2 (by rw [hp2.length_eq]; exact HL.out))
 have PM := Lib.hid hp2
 have OT2 := Lib.hid (fun g hg => (ho2.lt g hg).1)
 clear ho2 hp2 hs2 hg2 C2 OT X1
 go_wp2_with fail
 refine C3.out.mono ?_
 rintro e3 w3 ⟨⟨⟨t1,t2,t3⟩,rfl,l3,ho3,hs3,hm3⟩,hg3⟩
 have B3 := Lib.hid (B2.out.grown hg3 B2.out.size (fun j hj => Nat.le_trans (Nat.le_of_lt HW.out) (OT2.out j hj)))
 have Y := show Box w3 w.heap.size _ _ from (hg3.block _ X2.out.lt (fun e => by have := OT2.out _ e.symm; have := HW.out; omega)).trans X2.out
 obtain ⟨y0,y1,y2,y3,y4,y5⟩ := Y.cs6
 obtain ⟨f0,f1,f2,f3,f4,f5⟩ := Y.fs6
 have zz := Y.lt
 have FB := Lib.hid (setB_box Y (.int .i64 me) (.slice t1 t2 t3) (.slice none 0 0) (.slice none 0 0) (.slice none 0 0) (.slice none 0 0))
 have FL := Lib.hid (setB_below (b := w.heap.size) B3.out (Nat.le_refl _) (.int .i64 me) (.slice t1 t2 t3) (.slice none 0 0) (.slice none 0 0) (.slice none 0 0) (.slice none 0 0))
 have FO := Lib.hid (setB_ownA ho3 w.heap.size HW.out (.int .i64 me) (.slice t1 t2 t3) (.slice none 0 0) (.slice none 0 0) (.slice none 0 0) (.slice none 0 0))
 have Q := Lib.hid (show l3.Pairwise (· < ·) ∧ ∀ x,x ∈ l3 ↔ x ∈ l from ⟨hs3,fun x => (hm3 x).trans PM.out.mem_iff⟩)
 clear ho3 hs3 hm3 hg3 Y X2 C3 B2 B1 B0
 go_wp2_with fail
 obtain ⟨v0,v1,v2,v3,v4,v5⟩ := FB.out.cs6
 refine bodyPost_ret (v := .agg #[.int .i64 me,.slice t1 t2 t3,.slice none 0 0,.slice none 0 0,.slice none 0 0,.slice none 0 0]) (by simp [results,Tryz.results8,go_sem,v0,v1,v2,v3,v4,v5]) rfl ?_
 exact ⟨⟨l3,(t1,t2,t3),rfl,⟨Row.of_own FO.out,⟨[],row_nil _,.nil⟩,row_nil _,⟨[],row_nil _,.nil⟩,⟨[],row_nil _,.nil⟩⟩,⟨_,FO.out⟩,Q.out.1,Q.out.2⟩,FL.out⟩
end Go.Proofs.YtmklifheakemeaaGreat.Av
namespace Go.Proofs.YtmklifheakemeaaGreat.Av
open Go.RowKit Rw YtmklifheakemeaaGreat.Nm Pr Wr
end Go.Proofs.YtmklifheakemeaaGreat.Av
namespace Go.Proofs.YtmklifheakemeaaGreat.Bk
open Go.RowKit Go.Sort Rw YtmklifheakemeaaGreat.Nm Pr
end Go.Proofs.YtmklifheakemeaaGreat.Bk
namespace Go.Proofs.YtmklifheakemeaaGreat.Pr
open Go.RowKit Pu Rw
theorem grow_new {α : Type} {E : Ek α} (K : E.Ok) (tn : TypeId) (htn : Tryz.prog.underlying tn = some (.int .i64)) (n : Nat) (h0 : 0 < n) (hn : n ≤ 1000) (W : World) :
  ∃ (G : Nat) (R : Array Value),n ≤ G ∧ G ≤ maxLen ∧ R.size = G * E.n ∧
   ∀ ty,(Builtin.append_ #[E.ts,tn] ty #[.slice none 0 0,.int .i64 n]).run Tryz.prog W = .ok (.slice (some ⟨W.heap.size,0,none⟩) n G) (W.drew.alloc (.cells R E.t)) := by
 obtain ⟨i,i1,i2,i3,i4⟩ := K.info
 have hf := K.few
 have hpos := K.pos
 have happ := fun ty => Lib.run_append_grow_zeros (P := Tryz.prog) W E.ts tn ty E.t i _ .i64 .i64 K.hu htn i1 i2 none 0 0 [] (run_firstCells_none _ _ _ _ _) n h0 (by rw [i3]; exact hpos) (by omega) (by omega)
  (by rw [i4]; exact Nat.le_trans (Nat.mul_le_mul hn hf) (by decide))
  (growslice_fits (by omega) (by rw [i4]; exact Nat.le_trans (Nat.mul_le_mul (show 0 + n ≤ 2000 by omega) hf) (by decide)))
 rw [Nat.zero_add] at happ
 have hG1 := grownCap_ge W n 0 E.t
 have hG2 := grownCap_le_maxLen W n 0 E.t (by unfold maxLen; omega)
 generalize grownCap W n 0 E.t = G at happ hG1 hG2
 refine ⟨G,_,hG1,hG2,?_,happ⟩
 simp only [Array.size_append,List.size_toArray,List.length_nil,size_zeroCells,K.zs,Nat.zero_add,← Nat.add_mul]
 rw [show n + (G - n) = G by omega]
def CatQ (l : List C5) (w : World) (e : Ending) (w' : World) : Prop := ∃ v,e = .returned v ∧ OwnC w' w.heap.size v l ∧ Below w.heap.size w w'
theorem grow_any (n : Nat) (w : World) (hn : n ≤ 200) :
  Calls Tryz.prog 159 #[.slice none 0 0,.int .i64 n] w (CatQ [] w) := by
 rcases Nat.eq_zero_or_pos n with rfl | h0
 ·have Q := Lib.hid (show CatQ [] w (.returned (.slice none 0 0)) w from ⟨_,rfl,own_nil _ _,Below.refl _ _⟩)
  go_enter Tryz.func159,Tryz.ntmps159
  go_wp2
  go_ret
  exact Q.out
 ·obtain ⟨G,R,g1,g2,g3,hr⟩ := grow_new (E := EC) okC 3 Tryz.underlying3 n h0 (by omega) w
  have r := hr 32
  have s1 := slice_lo (E := EC) okC ⟨w.heap.size,0,none⟩ 0 n G (Nat.zero_le _)
  have Q := Lib.hid (show CatQ [] w (.returned (.slice (some ⟨w.heap.size,0,none⟩) 0 G)) (w.drew.alloc (.cells R 70)) from
   ⟨_,rfl,own_shut okC (l := []) rfl (Nat.le_refl _) (box_new w.drew R 70) (Nat.zero_le _) g2 g3 (by simp [flat]),(Below.refl _ _).drew.alloc (by simp) _⟩)
  change (Builtin.append_ #[32,3] 32 #[.slice none 0 0,.int .i64 (n : Int)]).run Tryz.prog w = .ok (.slice (some ⟨w.heap.size,0,none⟩) n G) (w.drew.alloc (.cells R 70)) at r
  change ∀ W,(Instr.sliceAt 32 (.slice (some ⟨w.heap.size,0,none⟩) n G) none (some (.int .i64 0)) none).run Tryz.prog W = .ok (.slice (some ⟨w.heap.size,0,none⟩) 0 G) W at s1
  have e1 : decide ((n : Int) < 0) = false := by simp
  have e2 : decide ((0 : Int) < (n : Int)) = true := by simp; omega
  unfold maxLen at g2
  clear hr g3
  go_enter Tryz.func159,Tryz.ntmps159
  go_wp2_with (first | (at_builtin; refine wpList_append_run2 rfl _ _ 32 3 rfl rfl rfl r ?_) | fail)
  go_ret
  exact Q.out
def CatN (n m : Nat) (s i : Value) : Prop := (i = .int .i64 0 ∧ s = .int .i64 0) ∨ (i = .int .i64 1 ∧ s = .int .i64 (n : Int)) ∨ (i = .int .i64 2 ∧ s = .int .i64 ((n + m : Nat) : Int))
def CatL (w : World) (a b : List C5) (v i : Value) (wr : World) : Prop := ((i = .int .i64 0 ∧ OwnC wr w.heap.size v []) ∨ (i = .int .i64 1 ∧ OwnC wr w.heap.size v a) ∨ (i = .int .i64 2 ∧ OwnC wr w.heap.size v (a ++ b))) ∧ Below w.heap.size w wr
theorem concat_any (g : Nat) (av_ bv : Value) (a b : List C5) (w : World) (c0 : w.cell? ⟨g,0,none⟩ = some av_) (c1 : w.cell? ⟨g,1,none⟩ = some bv) (ha : RowC w av_ a) (hb : RowC w bv b) (la : a.length ≤ 100) (lb : b.length ≤ 100) :
  Calls Tryz.prog 122 #[.slice (some ⟨g,0,none⟩) 2 2] w (CatQ (a ++ b) w) := by
 have HA := Lib.hid ha
 have HB := Lib.hid hb
 have C0 := Lib.hid c0
 have C1 := Lib.hid c1
 have hg : g < w.heap.size := World.block_lt_of_cell? w _ c0
 obtain ⟨ao,ac,rfl⟩ := ha.len
 obtain ⟨bo,bc,rfl⟩ := hb.len
 clear ha hb c0 c1
 go_enter Tryz.func122,Tryz.ntmps122
 go_wp2
 go_loop [3,11] (fun s i => CatN a.length b.length s i) (fun _ i => (2 - intOf i).toNat)
 case atStart => exact Or.inl ⟨rfl,rfl⟩
 case round =>
  rcases hrel with ⟨rfl,rfl⟩ | ⟨rfl,rfl⟩ | ⟨rfl,rfl⟩
  ·have c0 := C0.out
   go_wp2
   go_round
   case rel => exact Or.inr (Or.inl ⟨rfl,rfl⟩)
   case measure => simp [intOf]
  ·have c1 := C1.out
   go_wp2
   go_round
   case rel => exact Or.inr (Or.inr ⟨rfl,by go_num⟩)
   case measure => simp [intOf]
  ·have GR := Lib.hid (grow_any (a.length + b.length) w (by omega))
   go_wp2_with fail
   refine GR.out.mono ?_
   rintro e1 w1 ⟨v1,rfl,ho,hb1⟩
   have O1 := Lib.hid ho
   have B1 := Lib.hid hb1
   clear ho hb1 GR
   go_wp2
   go_loopw [6,27] (fun v i wr => CatL w a b v i wr) (fun _ i _ => (2 - intOf i).toNat)
   case atStart => exact ⟨Or.inl ⟨rfl,O1.out⟩,B1.out⟩
   case round =>
    obtain ⟨hc,hbw⟩ := hrel
    have BW := Lib.hid hbw
    clear hbw
    rcases hc with ⟨rfl,ho⟩ | ⟨rfl,ho⟩ | ⟨rfl,ho⟩
    ·have c0 := (BW.out.cell (p := ⟨g,0,none⟩) hg).trans C0.out
     obtain ⟨v',w',r,o',gr⟩ := appC w.heap.size ho (HA.out.on BW.out) (by simp) (by omega) BW.out.size
     have B' := Lib.hid (BW.out.grown gr BW.out.size (fun j hj => (ho.lt j hj).1))
     have O' := Lib.hid o'
     clear ho o' gr
     go_wp2_with (first | (at_builtin; refine wpList_append_run rfl _ _ 32 rfl rfl rfl r ?_) | fail)
     go_roundw
     case rel => exact ⟨Or.inr (Or.inl ⟨rfl,O'.out⟩),B'.out⟩
     case measure => simp [intOf]
    ·have c1 := (BW.out.cell (p := ⟨g,1,none⟩) hg).trans C1.out
     obtain ⟨v',w',r,o',gr⟩ := appC w.heap.size ho (HB.out.on BW.out) (by omega) (by omega) BW.out.size
     have B' := Lib.hid (BW.out.grown gr BW.out.size (fun j hj => (ho.lt j hj).1))
     have O' := Lib.hid o'
     clear ho o' gr
     go_wp2_with (first | (at_builtin; refine wpList_append_run rfl _ _ 32 rfl rfl rfl r ?_) | fail)
     go_roundw
     case rel => exact ⟨Or.inr (Or.inr ⟨rfl,O'.out⟩),B'.out⟩
     case measure => simp [intOf]
    ·have Q := Lib.hid (show CatQ (a ++ b) w (.returned _) _ from ⟨_,rfl,ho,BW.out⟩)
     clear ho
     go_wp2
     go_ret
     exact Q.out
end Go.Proofs.YtmklifheakemeaaGreat.Pr
namespace Go.Proofs.YtmklifheakemeaaGreat.Pr
open Go.RowKit Go.Sort Pu Rw Va
def predTxt : ByteArray := ⟨#[112,114,101,100]⟩
def MakeQ (w : World) (l : List Cn) (e : Ending) (w' : World) : Prop := Below w.heap.size w w' ∧ (match makeC l with
 | .ok m => ∃ pv,e = .returned (.tuple #[pv,.nilIface]) ∧ RowC w' pv (m.map r5)
 | .error _ => ∃ b,e = .returned (.tuple #[.slice none 0 0,.iface 223 (.pointer (some ⟨b,0,none⟩))]))
theorem New_one (op : ByteArray) (at_ : Int) (tx : Nat) (x : Value) (w : World) :
  Calls Tryz.prog 157 #[.string op,.int .i64 at_,.iface tx x] w fun e w' => e = .returned (.iface 223 (.pointer (some ⟨w.heap.size,0,none⟩))) ∧ w' = w.alloc (.cells #[.string op,.int .i64 at_,.iface tx x] 225) := by
 go_enter Tryz.func157,Tryz.ntmps157
 go_wp2
 go_ret
 exact ⟨rfl,rfl⟩
theorem fold_stepC (at_ : Nat) (m r : List Cn) (c : Cn) : foldC at_ m (c :: r) = match stepC m c with
  | .ok m' => foldC (at_ + 1) m' r
  | .error k => .error (k,at_) := by
 simp only [foldC,stepC]
 cases insC m c with
 | none => rfl
 | some m' => simp only; split <;> rfl
theorem step_rise {m : List Cn} {c : Cn} {m' : List Cn} (h : RiseC m) (hs : stepC m c = .ok m') : RiseC m' ∧ m'.length ≤ 5 := by
 unfold stepC at hs
 cases hi : insC m c with
 | none => rw [hi] at hs; cases hs
 | some n =>
  rw [hi] at hs
  simp only at hs
  split at hs
  ·cases hs
  ·rename_i h5
   injection hs with hs
   subst hs
   exact ⟨(ins_rise m c n h hi).1,by omega⟩
theorem make_any (lv : Value) (l : List Cn) (w : World) (hl : RowC w lv (l.map r5)) (hs : SmallP l) (hgd : ∀ c ∈ l,goodC c = true) : Calls Tryz.prog 121 #[lv] w (MakeQ w l) := by
 have HL := Lib.hid hl
 have LN := Lib.hid (show (l.map r5).length = l.length from List.length_map ..)
 have h100 := hs.1
 have SM := Lib.hid hs.2
 have GD := Lib.hid hgd
 obtain ⟨ao,ac,rfl⟩ := hl.len
 rw [List.length_map] at HL ⊢
 obtain ⟨n,hn⟩ : ∃ n,n = l.length := ⟨_,rfl⟩
 rw [← hn] at HL h100 ⊢
 have HN := Lib.hid hn
 obtain ⟨res,hres⟩ : ∃ r,r = makeC l := ⟨_,rfl⟩
 have MQ := Lib.hid (show ∀ e w',(Below w.heap.size w w' ∧ (match res with
 | .ok m => ∃ pv,e = .returned (.tuple #[pv,.nilIface]) ∧ RowC w' pv (m.map r5)
 | .error _ => ∃ b,e = .returned (.tuple #[.slice none 0 0,.iface 223 (.pointer (some ⟨b,0,none⟩))]))) → MakeQ w l e w' from fun e w' h => by unfold MakeQ; rw [← hres]; exact h)
 have HR := Lib.hid hres
 clear hl hs hgd hn hres
 generalize hq : MakeQ w l = q at *
 clear hq
 go_enter Tryz.func121,Tryz.ntmps121
 go_wp2
 go_loopw [13] (fun i wr => ∃ k : Nat,k ≤ n ∧ i = .int .i64 k ∧ Below w.heap.size w wr) (fun i _ => n - (intOf i).toNat)
 case atStart => exact ⟨0,Nat.zero_le _,rfl,Below.refl _ _⟩
 case round =>
  obtain ⟨k,hk,rfl,hb⟩ := hrel
  have HB := Lib.hid hb
  clear hb
  by_cases hlt : k < n
  ·obtain ⟨⟨xn,xk⟩,hx⟩ : ∃ x,l[k]? = some x := ⟨_,List.getElem?_eq_getElem (by have := HN.out; omega)⟩
   obtain ⟨p,ix,px⟩ := elC (x := r5 (xn,xk)) HL.out rfl (LN.out.trans HN.out.symm) (by rw [List.getElem?_map,hx]; rfl)
   obtain ⟨p0,p1,p2,p3,p4⟩ := px _ HB.out
   have C := Lib.hid (one_any (xn,xk) (wr.alloc (.cells (cells5 (r5 (xn,xk))).toArray 70)) (by have := (SM.out _ (List.mem_of_getElem? hx)).1; unfold maxLen; omega))
   rw [GD.out _ (List.mem_of_getElem? hx)] at C
   have B4 := Lib.hid (HB.out.alloc HB.out.size (.cells (cells5 (r5 (xn,xk))).toArray 70))
   simp only [r5] at p0 p1 p2 p3 p4 C
   clear hx px
   go_wp2_with fail
   refine C.out.mono ?_
   rintro e5 w5 ⟨rfl,hb5⟩
   have B5 := Lib.hid (B4.out.trans (hb5.mono B4.out.size))
   clear hb5 C B4 ix p0 p1 p2 p3 p4
   go_wp2
   go_roundw
   case rel => exact ⟨k + 1,by omega,by go_num,B5.out⟩
   case measure => simp [intOf]; omega
  ·obtain rfl : k = n := by omega
   go_wp2
   go_loopw [6,27] (fun mv i wr => ∃ (j : Nat) (m : List Cn),j ≤ k ∧ i = .int .i64 j ∧ OwnC wr w.heap.size mv (m.map r5) ∧ RiseC m ∧ m.length ≤ 5 ∧ res = foldC j m (l.drop j) ∧ Below w.heap.size w wr) (fun _ i _ => k - (intOf i).toNat)
   case atStart => exact ⟨0,[],Nat.zero_le _,rfl,own_nil _ _,List.Pairwise.nil,by simp,by rw [HR.out]; rfl,HB.out⟩
   case round =>
    obtain ⟨j,m,hj,rfl,hown,hrise,hm5,hfold,hb⟩ := hrel
    have BW := Lib.hid hb
    have OW := Lib.hid hown
    have RM := Lib.hid hrise
    have FO := Lib.hid hfold
    clear hb hown hrise hfold
    by_cases hjl : j < k
    ·obtain ⟨⟨xn,xk⟩,hx⟩ : ∃ x,l[j]? = some x := ⟨_,List.getElem?_eq_getElem (by have := HN.out; omega)⟩
     obtain ⟨p,ix,px⟩ := elC (x := r5 (xn,xk)) HL.out rfl (LN.out.trans HN.out.symm) (by rw [List.getElem?_map,hx]; rfl)
     obtain ⟨p0,p1,p2,p3,p4⟩ := px _ BW.out
     have B4 := Lib.hid (BW.out.alloc BW.out.size (.cells (cells5 (r5 (xn,xk))).toArray 70))
     have C := Lib.hid (join_any w.heap.size _ m (xn,xk) (wr.alloc (.cells (cells5 (r5 (xn,xk))).toArray 70)) (own_on OW.out ((Below.refl _ _).alloc (Nat.le_refl _) _)) RM.out hm5 B4.out.size)
     have DR : l.drop j = (xn,xk) :: l.drop (j + 1) := by
      have h := List.drop_eq_getElem_cons (l := l) (i := j) (by have := HN.out; omega)
      rw [h]
      congr 1
      exact (List.getElem?_eq_some_iff.1 hx).2
     have F2 := FO.out
     rw [DR,fold_stepC] at F2
     have F3 := Lib.hid F2
     simp only [r5] at p0 p1 p2 p3 p4 C
     clear hx px F2 DR FO
     cases hst : stepC m (xn,xk) with
     | ok m' =>
      have RR := Lib.hid (step_rise RM.out hst)
      have F4 := Lib.hid (show res = foldC (j + 1) m' (l.drop (j + 1)) by rw [F3.out,hst])
      rw [hst] at C
      clear hst F3
      go_wp2_with fail
      refine C.out.mono ?_
      rintro e5 w5 ⟨hb5,v',rfl,ho5⟩
      have B5 := Lib.hid (B4.out.trans hb5)
      have O5 := Lib.hid ho5
      clear hb5 ho5 C B4 ix p0 p1 p2 p3 p4 OW BW RM
      go_wp2
      go_roundw
      case rel => exact ⟨j + 1,m',by omega,by go_num,O5.out,RR.out.1,RR.out.2,F4.out,B5.out⟩
      case measure => simp [intOf]; omega
     | error er =>
      have F4 := Lib.hid (show res = .error (er,j) by rw [F3.out,hst])
      rw [hst] at C
      clear hst F3
      go_wp2_with fail
      refine C.out.mono ?_
      rintro e5 w5 ⟨hb5,rfl⟩
      have B5 := Lib.hid (B4.out.trans hb5)
      clear hb5 C B4 ix p0 p1 p2 p3 p4 OW BW RM
      go_wp2_with fail
      refine (New_one predTxt j 205 (.int .i64 er) w5).mono ?_
      rintro e6 w6 ⟨rfl,rfl⟩
      go_wp2
      refine MQ.out _ _ ⟨B5.out.alloc B5.out.size _,?_⟩
      rw [F4.out]
      exact ⟨w5.heap.size,rfl⟩
    ·obtain rfl : j = k := by omega
     have F2 := Lib.hid (show res = .ok m by rw [FO.out,List.drop_of_length_le (by have := HN.out; omega)]; rfl)
     go_wp2
     refine MQ.out _ _ ⟨BW.out,?_⟩
     rw [F2.out]
     exact ⟨_,rfl,Row.of_own OW.out⟩
end Go.Proofs.YtmklifheakemeaaGreat.Pr
namespace Go.Proofs.YtmklifheakemeaaGreat.Av
open Go.RowKit Go.ChangeShapes Go.WideShapes Bk
end Go.Proofs.YtmklifheakemeaaGreat.Av
