/-
  Forget of package adverts: a broker without one advertisement, and its. Conditions as told.
-/
import Derived.Test.YtncogjpmboglhaaGreatQ033
import Derived.Test.YtncogjpmboglhaaGreatQ030
import Derived.Test.YtncogjpmboglhaaGreatQ032
import Derived.Test.YtncogjpmboglhaaGreatQ023
import Derived.Test.YtncogjpmboglhaaGreatQ025
import Derived.Test.YtncogjpmboglhaaGreatQ027
import Derived.Test.YtncogjpmboglhaaGreatQ028
import Derived.Test.YtncogjpmboglhaaGreatQ022
import Derived.Test.YtncogjpmboglhaaGreatQ018
set_option maxRecDepth 100000
set_option maxHeartbeats 64000000
namespace Go.Proofs.YtncogjpmboglhaaGreat.Av
open Go.RowKit Go.Sort Rw YtncogjpmboglhaaGreat.Nm Pr Bk
def forgetF (b : Br) (x : XID) (f : Int) : Br × Bool := match findA b.adv x with
 | none => (b,false)
 | some a => if a.par = f then ({ b with adv := b.adv.filter fun e => decide (e.id ≠ x),ent := b.ent.filter fun e => decide (e.tree ≠ x) },true) else (b,false)
theorem filter_cut {al : List Ad} (hr : RiseA al) {k : Nat} {a : Ad} {x : XID} (hk : al[k]? = some a) (hx : a.id = x) : al.filter (fun e => decide (e.id ≠ x)) = cutAt al k := by
 subst hx
 unfold cutAt
 have h1 : al = al.take k ++ (a :: al.drop (k + 1)) := by
  have hlt := (List.getElem?_eq_some_iff.1 hk).1
  have he := (List.getElem?_eq_some_iff.1 hk).2
  rw [← he,List.getElem_cons_drop,List.take_append_drop]
 conv => lhs; rw [h1]
 rw [List.filter_append,List.filter_cons_of_neg (by simp)]
 have hp := List.pairwise_iff_getElem.1 hr
 have e1 : (al.take k).filter (fun e => decide (e.id ≠ a.id)) = al.take k := by
  rw [List.filter_eq_self]
  intro y hy
  obtain ⟨j,hj⟩ := List.mem_iff_getElem?.1 hy
  have hjl := (List.getElem?_eq_some_iff.1 hj).1
  rw [List.length_take] at hjl
  rw [List.getElem?_take_of_lt (by omega)] at hj
  have := riseK_lt hr (show j < k by omega) hj hk
  refine decide_eq_true fun e => ?_
  rw [e,lessI_irr] at this
  cases this
 have e2 : (al.drop (k + 1)).filter (fun e => decide (e.id ≠ a.id)) = al.drop (k + 1) := by
  rw [List.filter_eq_self]
  intro y hy
  obtain ⟨j,hj⟩ := List.mem_iff_getElem?.1 hy
  rw [List.getElem?_drop] at hj
  have := riseK_lt hr (show k < k + 1 + j by omega) hk hj
  refine decide_eq_true fun e => ?_
  rw [e,lessI_irr] at this
  cases this
 rw [e1,e2]
theorem forgetF_eq {b : Br} (hr : RiseA b.adv) (x : XID) (f : Int) : forgetF b x f = forgetB b x f := by
 unfold forgetF forgetB
 by_cases h : findI (b.adv.map Ad.id) x = -1
 ·have hn : findA b.adv x = none := findA_none fun j a hj => findI_neg (key := Ad.id) h j a hj
  rw [hn]
  cases b.adv[(findI (b.adv.map Ad.id) x).toNat]? with
  | none => rfl
  | some a => simp only; rw [if_pos h]
 ·obtain ⟨k,hk⟩ : ∃ k : Nat,findI (b.adv.map Ad.id) x = k := ⟨(findI (b.adv.map Ad.id) x).toNat,by have := findI_bd (b.adv.map Ad.id) x; omega⟩
  obtain ⟨g1,g2⟩ := findI_get hk
  rw [List.getElem?_map] at g1
  cases ha : b.adv[k]? with
  | none => rw [ha] at g1; cases g1
  | some a =>
   rw [ha] at g1
   have hx : a.id = x := Option.some.inj g1
   have hf : findA b.adv x = some a := findA_at ha hx fun j z hj hz => g2 j z.id hj (by rw [List.getElem?_map,hz]; rfl)
   rw [hf,hk,Int.toNat_natCast,ha]
   simp only
   rw [if_neg (show ¬ ((k : Int) = -1) by omega)]
   split
   ·rw [filter_cut hr ha hx]
   ·rfl
theorem all2_fil {α β : Type} {R : α → β → Prop} (p : α → Bool) (q : β → Bool) : ∀ {l : List α} {m : List β},All2 R l m → (∀ a b,R a b → p a = q b) → All2 R (l.filter p) (m.filter q)
 | _,_,.nil,_ => .nil
 | _,_,.cons (a := a) (b := b) x t,h => by
  have e := h a b x
  rw [List.filter_cons,List.filter_cons,e]
  cases q b
  ·exact all2_fil p q t h
  ·exact .cons x (all2_fil p q t h)
theorem forget_any (b : Br) (x : XID) (f : Int) (nv av sv ev ov : Sl) (w : World) (h : BrIn w b nv av sv ev ov) (hf : Few b) (hp : FewP b) :
  Calls Tryz.prog 23 #[brv b.me nv av sv ev ov,idv x,.int .i64 f] w (LearnQ w (NearOwn w nv b.near) (forgetF b x f)) := by
 obtain ⟨no,nn,nc⟩ := nv
 obtain ⟨ao,an,ac⟩ := av
 obtain ⟨so,sn,sc⟩ := sv
 obtain ⟨eo,en,ec⟩ := ev
 obtain ⟨oo,on_,oc⟩ := ov
 obtain ⟨c,d⟩ := x
 obtain ⟨h0,h1,h2⟩ := two_new w #[.int .i64 b.me,.slice no nn nc,.slice ao an ac,.slice so sn sc,.slice eo en ec,.slice oo on_ oc] #[.int .i64 c,.int .i64 d] 31 38
 have h3 := newB ((w.alloc (.cells #[.int .i64 b.me,.slice no nn nc,.slice ao an ac,.slice so sn sc,.slice eo en ec,.slice oo on_ oc] 31)).alloc (.cells #[.int .i64 c,.int .i64 d] 38)) (.cells #[.int .i64 0,.slice none 0 0,.slice none 0 0,.slice none 0 0,.slice none 0 0,.slice none 0 0] 31)
 have h4 := box_new ((w.alloc (.cells #[.int .i64 b.me,.slice no nn nc,.slice ao an ac,.slice so sn sc,.slice eo en ec,.slice oo on_ oc] 31)).alloc (.cells #[.int .i64 c,.int .i64 d] 38)) #[.int .i64 0,.slice none 0 0,.slice none 0 0,.slice none 0 0,.slice none 0 0,.slice none 0 0] 31
 have hsz : ((w.alloc (.cells #[.int .i64 b.me,.slice no nn nc,.slice ao an ac,.slice so sn sc,.slice eo en ec,.slice oo on_ oc] 31)).alloc (.cells #[.int .i64 c,.int .i64 d] 38)).heap.size = w.heap.size + 1 + 1 := by simp
 rw [hsz] at h4
 have BB := Lib.hid (h0.trans (h3.mono h0.size))
 have X1 := Lib.hid (h1.on h3)
 have X2 := Lib.hid (h2.on h3)
 have X3 := Lib.hid h4
 have HH := Lib.hid h
 have HF := Lib.hid hf
 have HP := Lib.hid hp
 obtain ⟨la,ha1,ha2⟩ := h.adv
 have SW := Lib.hid (find_any b.me (.slice no nn nc) (.slice so sn sc) (.slice eo en ec) (.slice oo on_ oc) (ao,an,ac) la b.adv (c,d) _ (ha1.on BB.out) (ha2.mono fun _ _ q => q.on BB.out) hp.adv)
 obtain ⟨fa,hfa⟩ : ∃ fa,findA b.adv (c,d) = fa := ⟨_,rfl⟩
 rw [hfa] at SW
 have FA := Lib.hid hfa
 obtain ⟨x0,x1,x2,x3,x4,x5⟩ := X1.out.cs6
 obtain ⟨d0,d1⟩ := X2.out.cs2
 clear h0 h1 h2 h3 h4 hsz h hf hp hfa ha1 ha2 la
 go_enter Tryz.func23,Tryz.ntmps23
 go_wp2_with fail
 generalize ((w.alloc (.cells #[.int .i64 b.me,.slice no nn nc,.slice ao an ac,.slice so sn sc,.slice eo en ec,.slice oo on_ oc] 31)).alloc (.cells #[.int .i64 c,.int .i64 d] 38)).alloc (.cells #[.int .i64 0,.slice none 0 0,.slice none 0 0,.slice none 0 0,.slice none 0 0,.slice none 0 0] 31) = W at *
 refine SW.out.mono ?_
 rintro e1 w1 ⟨hq,hb⟩
 have B1 := Lib.hid (BB.out.trans (hb.mono BB.out.size))
 have Z1 := Lib.hid (X1.out.on hb)
 have Z2 := Lib.hid (X2.out.on hb)
 have Z3 := Lib.hid (X3.out.on hb)
 clear SW hb x0 x1 x2 x3 x4 x5 d0 d1 X1 X2 X3
 cases fa with
 | none =>
  have LQ := Lib.hid (show forgetF b (c,d) f = (b,false) by unfold forgetF; rw [FA.out])
  subst hq
  have nb := newB w1 (.cells #[.int .i64 0,.int .i64 0,.slice none 0 0,.int .i64 0] 41)
  have B2 := Lib.hid (B1.out.trans (nb.mono B1.out.size))
  have Y1 := Z1.out.on nb
  have Y3 := Z3.out.on nb
  obtain ⟨x0,x1,x2,x3,x4,x5⟩ := Y1.cs6
  obtain ⟨z0,z1,z2,z3,z4,z5⟩ := Y3.cs6
  obtain ⟨t0,t1,t2,t3,t4,t5⟩ := Y3.fs6
  have zz := Y3.lt
  have FB := Lib.hid (setB_box Y3 (.int .i64 b.me) (.slice no nn nc) (.slice ao an ac) (.slice so sn sc) (.slice eo en ec) (.slice oo on_ oc))
  have FL := Lib.hid (setB_below (b := w.heap.size + 1 + 1) B2.out (by omega) (.int .i64 b.me) (.slice no nn nc) (.slice ao an ac) (.slice so sn sc) (.slice eo en ec) (.slice oo on_ oc))
  clear Y1 Y3 nb
  go_wp2_with fail
  obtain ⟨v0,v1,v2,v3,v4,v5⟩ := FB.out.cs6
  refine bodyPost_ret (v := .tuple #[.agg #[.int .i64 b.me,.slice no nn nc,.slice ao an ac,.slice so sn sc,.slice eo en ec,.slice oo on_ oc],.bool false]) (by simp [results,Tryz.results23,go_sem,v0,v1,v2,v3,v4,v5]) rfl ?_
  rw [LQ.out]
  exact ⟨⟨(no,nn,nc),(ao,an,ac),(so,sn,sc),(eo,en,ec),(oo,on_,oc),rfl,HH.out.on FL.out,fun h => h.on FL.out⟩,FL.out⟩
 | some a =>
  obtain ⟨⟨r1,r2,⟨ro,rn,rc⟩,r4⟩,rfl,hr1,hr2,hr3⟩ := hq
  have nb := newB w1 (.cells #[.int .i64 r1,.int .i64 r2,.slice ro rn rc,.int .i64 r4] 41)
  have bx := box_new w1 #[.int .i64 r1,.int .i64 r2,.slice ro rn rc,.int .i64 r4] 41
  have b3 := bx.cell 3
  have B2 := Lib.hid (B1.out.trans (nb.mono B1.out.size))
  have Y1 := Z1.out.on nb
  have Y2 := Z2.out.on nb
  have Y3 := Z3.out.on nb
  have AP := Lib.hid (show a.par = r4 from hr2.symm)
  obtain ⟨x0,x1,x2,x3,x4,x5⟩ := Y1.cs6
  obtain ⟨z0,z1,z2,z3,z4,z5⟩ := Y3.cs6
  obtain ⟨t0,t1,t2,t3,t4,t5⟩ := Y3.fs6
  simp only [List.getElem?_toArray,List.getElem?_cons_zero,List.getElem?_cons_succ] at b3
  have zz := Y3.lt
  by_cases hpf : r4 = f
  ·have LQ := Lib.hid (show forgetF b (c,d) f = ({ b with adv := b.adv.filter fun e => decide (e.id ≠ (c,d)),ent := b.ent.filter fun e => decide (e.tree ≠ (c,d)) },true) by unfold forgetF; rw [FA.out]; simp only; rw [if_pos (by rw [AP.out]; exact hpf)])
   have hne : (r4 != f) = false := by simp [hpf]
   have Z1 := Lib.hid Y1
   have Z2 := Lib.hid Y2
   have Z3 := Lib.hid Y3
   have L1 := Lib.hid Y1.lt
   have L3 := Lib.hid (show w.heap.size + 1 < (w1.alloc (.cells #[.int .i64 r1,.int .i64 r2,.slice ro rn rc,.int .i64 r4] 41)).heap.size from Y2.lt)
   clear Y1 Y2 Y3 nb bx z0 z1 z2 z3 z4 z5 t0 t1 t2 t3 t4 t5 zz hr1 hr2 hr3 hpf
   go_wp2_with fail
   clear b3 x0 x1 x2 x3 x4 x5 hne
   generalize w1.alloc (.cells #[.int .i64 r1,.int .i64 r2,.slice ro rn rc,.int .i64 r4] 41) = w1a at *
   refine (acopy_any b (no,nn,nc) (ao,an,ac) (so,sn,sc) (eo,en,ec) (oo,on_,oc) w w1a B2.out HH.out HF.out HP.out).mono ?_
   rintro e2 w2 ⟨⟨⟨p1,q1,s1⟩,⟨p2,q2,s2⟩,⟨p3,q3,s3⟩,⟨p4,q4,s4⟩,⟨p5,q5,s5⟩,rfl,cp⟩,hb2⟩
   have V1 := Z1.out.on hb2
   have V2 := Lib.hid (Z2.out.on hb2)
   have V3 := Lib.hid (Z3.out.on hb2)
   obtain ⟨x0,x1,x2,x3,x4,x5⟩ := V1.cs6
   obtain ⟨t0,t1,t2,t3,t4,t5⟩ := V1.fs6
   have zz := V1.lt
   have FB := Lib.hid (setB_box V1 (.int .i64 b.me) (.slice p1 q1 s1) (.slice p2 q2 s2) (.slice p3 q3 s3) (.slice p4 q4 s4) (.slice p5 q5 s5))
   have FC := Lib.hid (cp.but (but_setB w2 w.heap.size (.int .i64 b.me) (.slice p1 q1 s1) (.slice p2 q2 s2) (.slice p3 q3 s3) (.slice p4 q4 s4) (.slice p5 q5 s5)) V1)
   have FL := Lib.hid (setB_below (b := w.heap.size) (B2.out.trans (hb2.mono B2.out.size)) (Nat.le_refl _) (.int .i64 b.me) (.slice p1 q1 s1) (.slice p2 q2 s2) (.slice p3 q3 s3) (.slice p4 q4 s4) (.slice p5 q5 s5))
   have F2 := Lib.hid ((but_setB w2 w.heap.size (.int .i64 b.me) (.slice p1 q1 s1) (.slice p2 q2 s2) (.slice p3 q3 s3) (.slice p4 q4 s4) (.slice p5 q5 s5)).box V2.out (by omega))
   have F3 := Lib.hid ((but_setB w2 w.heap.size (.int .i64 b.me) (.slice p1 q1 s1) (.slice p2 q2 s2) (.slice p3 q3 s3) (.slice p4 q4 s4) (.slice p5 q5 s5)).box V3.out (by omega))
   have SZ := Lib.hid (show w1a.heap.size ≤ (setB w2 w.heap.size (.int .i64 b.me) (.slice p1 q1 s1) (.slice p2 q2 s2) (.slice p3 q3 s3) (.slice p4 q4 s4) (.slice p5 q5 s5)).heap.size by have := hb2.size; simp; omega)
   have L2 := Lib.hid (show w.heap.size < w1a.heap.size from L1.out)
   clear V1 V2 V3 cp hb2 Z1 Z2 Z3 L1
   go_upto_region 5 with fail
   clear x0 x1 x2 x3 x4 x5 t0 t1 t2 t3 t4 t5 zz
   unfold setB at FB FC FL F2 F3 SZ
   generalize ((((((w2).setCell ⟨w.heap.size,0,none⟩ (.int .i64 b.me)).setCell ⟨w.heap.size,1,none⟩ (.slice p1 q1 s1)).setCell ⟨w.heap.size,2,none⟩ (.slice p2 q2 s2)).setCell ⟨w.heap.size,3,none⟩ (.slice p3 q3 s3)).setCell ⟨w.heap.size,4,none⟩ (.slice p4 q4 s4)).setCell ⟨w.heap.size,5,none⟩ (.slice p5 q5 s5) = w3 at *
   obtain ⟨la,hla1,hla2⟩ := FC.out.adv
   have DL := Lib.hid (delD_any w1a.heap.size (p2,q2,s2) la (w.heap.size + 1) c d w3 hla1 F2.out SZ.out)
   have TG := Lib.hid (tag_own hla1)
   have HL2 := Lib.hid hla2
   have x2 := FB.out.cell 2
   simp only [List.getElem?_toArray,List.getElem?_cons_zero,List.getElem?_cons_succ] at x2
   clear hla1 hla2
   go_wp2_with fail
   refine DL.out.mono ?_
   rintro e4 w4 ⟨⟨⟨t1,t2,t3⟩,rfl,hown⟩,hbel,hoff⟩
   have CP2 := Lib.hid (FC.out.offD (av' := (t1,t2,t3)) (al := b.adv.filter fun e => decide (e.id ≠ (c,d))) hoff ⟨_,hown,all2_fil _ _ (HL2.out.mono fun _ _ q => q.off hoff TG.out (by decide)) fun y z q => by
    show decide (keyD y ≠ (c,d)) = decide (z.id ≠ (c,d))
    rw [show keyD y = z.id from q.1]⟩)
   have G1 := hoff.box FB.out TG.out (by decide)
   have G2 := hoff.box F2.out TG.out (by decide)
   have G3 := hoff.box F3.out TG.out (by decide)
   have M1 := Lib.hid (show Box (w4.setCell ⟨w.heap.size,2,none⟩ (.slice t1 t2 t3)) w.heap.size #[.int .i64 b.me,.slice p1 q1 s1,.slice t1 t2 t3,.slice p3 q3 s3,.slice p4 q4 s4,.slice p5 q5 s5] 31 by simpa using box_set (k := 2) G1 (.slice t1 t2 t3))
   have M2 := Lib.hid ((but_cell w4 w.heap.size 2 (.slice t1 t2 t3)).box G2 (by omega))
   have M3 := Lib.hid ((but_cell w4 w.heap.size 2 (.slice t1 t2 t3)).box G3 (by omega))
   have MC := Lib.hid (CP2.out.but (but_cell w4 w.heap.size 2 (.slice t1 t2 t3)) G1)
   have ML := Lib.hid (show Below w.heap.size w (w4.setCell ⟨w.heap.size,2,none⟩ (.slice t1 t2 t3)) from (FL.out.trans (hbel.mono (Nat.le_of_lt L2.out))).setCell (p := ⟨w.heap.size,2,none⟩) (Nat.le_refl _) _)
   have MZ := Lib.hid (show w1a.heap.size ≤ (w4.setCell ⟨w.heap.size,2,none⟩ (.slice t1 t2 t3)).heap.size by have := SZ.out; have := hbel.size; simp; omega)
   clear x2
   have x2 := G1.cell 2
   have f2 := G1.fr 2
   have zz := G1.lt
   simp only [List.getElem?_toArray,List.getElem?_cons_zero,List.getElem?_cons_succ] at x2
   clear hown hbel hoff G1 G2 G3 CP2 FB FC F2 F3 FL SZ HL2 TG DL la
   go_upto_region 6 with fail
   clear x2 f2 zz
   generalize w4.setCell ⟨w.heap.size,2,none⟩ (.slice t1 t2 t3) = w5 at *
   obtain ⟨le,hle1,hle2⟩ := MC.out.ent
   replace hle2 : All2 (EnM w w1a.heap.size w5) le b.ent := hle2
   have DL := Lib.hid (delN_any w1a.heap.size (p4,q4,s4) le (w.heap.size + 1) c d w5 hle1 M2.out MZ.out)
   have TG := Lib.hid (tag_own hle1)
   have HL2 := Lib.hid hle2
   have x4 := M1.out.cell 4
   simp only [List.getElem?_toArray,List.getElem?_cons_zero,List.getElem?_cons_succ] at x4
   clear hle1 hle2
   go_wp2_with fail
   refine DL.out.mono ?_
   rintro e5 w6 ⟨⟨⟨r1,r2,r3⟩,rfl,hown⟩,hbel,hoff⟩
   have CP4 := Lib.hid (MC.out.offN (ev' := (r1,r2,r3)) (el := b.ent.filter fun e => decide (e.tree ≠ (c,d))) hoff ⟨_,hown,all2_fil _ _ (HL2.out.mono fun _ _ q => q.off hoff TG.out (by decide)) fun y z q => by
    show decide (keyT y ≠ (c,d)) = decide (z.tree ≠ (c,d))
    rw [show keyT y = z.tree from q.1]⟩)
   have K1 := hoff.box M1.out TG.out (by decide)
   have K3 := hoff.box M3.out TG.out (by decide)
   have KL := ML.out.trans (hbel.mono (Nat.le_of_lt L2.out))
   have U1 := Lib.hid (show Box (w6.setCell ⟨w.heap.size,4,none⟩ (.slice r1 r2 r3)) w.heap.size #[.int .i64 b.me,.slice p1 q1 s1,.slice t1 t2 t3,.slice p3 q3 s3,.slice r1 r2 r3,.slice p5 q5 s5] 31 by simpa using box_set (k := 4) K1 (.slice r1 r2 r3))
   have U3 := Lib.hid ((but_cell w6 w.heap.size 4 (.slice r1 r2 r3)).box K3 (by omega))
   have UC := Lib.hid (CP4.out.but (but_cell w6 w.heap.size 4 (.slice r1 r2 r3)) K1)
   have UL := Lib.hid (show Below w.heap.size w (w6.setCell ⟨w.heap.size,4,none⟩ (.slice r1 r2 r3)) from KL.setCell (p := ⟨w.heap.size,4,none⟩) (Nat.le_refl _) _)
   clear x4
   have x4 := K1.cell 4
   have f4 := K1.fr 4
   have zz := K1.lt
   simp only [List.getElem?_toArray,List.getElem?_cons_zero,List.getElem?_cons_succ] at x4
   clear hown hbel hoff K1 K3 KL CP4 MC M1 M2 M3 ML MZ HL2 TG DL le
   go_upto_region 7 with fail
   clear x4 f4 zz
   generalize w6.setCell ⟨w.heap.size,4,none⟩ (.slice r1 r2 r3) = w7 at *
   have Q1 := U1.out
   have Q3 := U3.out
   obtain ⟨x0,x1,x2,x3,x4,x5⟩ := Q1.cs6
   obtain ⟨z0,z1,z2,z3,z4,z5⟩ := Q3.cs6
   obtain ⟨f0,f1,f2,f3,f4,f5⟩ := Q3.fs6
   have zz := Q3.lt
   have FB := Lib.hid (setB_box Q3 (.int .i64 b.me) (.slice p1 q1 s1) (.slice t1 t2 t3) (.slice p3 q3 s3) (.slice r1 r2 r3) (.slice p5 q5 s5))
   have FC := Lib.hid (UC.out.but (but_setB w7 (w.heap.size + 1 + 1) (.int .i64 b.me) (.slice p1 q1 s1) (.slice t1 t2 t3) (.slice p3 q3 s3) (.slice r1 r2 r3) (.slice p5 q5 s5)) Q3)
   have FL := Lib.hid (setB_below (b := w.heap.size + 1 + 1) UL.out (by omega) (.int .i64 b.me) (.slice p1 q1 s1) (.slice t1 t2 t3) (.slice p3 q3 s3) (.slice r1 r2 r3) (.slice p5 q5 s5))
   clear Q1 Q3 U1 U3 UC UL
   go_wp2_with fail
   obtain ⟨v0,v1,v2,v3,v4,v5⟩ := FB.out.cs6
   refine bodyPost_ret (v := .tuple #[.agg #[.int .i64 b.me,.slice p1 q1 s1,.slice t1 t2 t3,.slice p3 q3 s3,.slice r1 r2 r3,.slice p5 q5 s5],.bool true]) (by simp [results,Tryz.results23,go_sem,v0,v1,v2,v3,v4,v5]) rfl ?_
   rw [LQ.out]
   exact ⟨⟨(p1,q1,s1),(t1,t2,t3),(p3,q3,s3),(r1,r2,r3),(p5,q5,s5),rfl,FC.out.br FL.out,fun _ => ⟨_,FC.out.near⟩⟩,FL.out⟩
  ·have LQ := Lib.hid (show forgetF b (c,d) f = (b,false) by unfold forgetF; rw [FA.out]; simp only; rw [if_neg (by rw [AP.out]; exact hpf)])
   have hne : (r4 != f) = true := by simp [hpf]
   have FB := Lib.hid (setB_box Y3 (.int .i64 b.me) (.slice no nn nc) (.slice ao an ac) (.slice so sn sc) (.slice eo en ec) (.slice oo on_ oc))
   have FL := Lib.hid (setB_below (b := w.heap.size + 1 + 1) B2.out (by omega) (.int .i64 b.me) (.slice no nn nc) (.slice ao an ac) (.slice so sn sc) (.slice eo en ec) (.slice oo on_ oc))
   clear Y1 Y2 Y3 nb bx hr1 hr2 hr3 hpf
   go_wp2_with fail
   obtain ⟨v0,v1,v2,v3,v4,v5⟩ := FB.out.cs6
   refine bodyPost_ret (v := .tuple #[.agg #[.int .i64 b.me,.slice no nn nc,.slice ao an ac,.slice so sn sc,.slice eo en ec,.slice oo on_ oc],.bool false]) (by simp [results,Tryz.results23,go_sem,v0,v1,v2,v3,v4,v5]) rfl ?_
   rw [LQ.out]
   exact ⟨⟨(no,nn,nc),(ao,an,ac),(so,sn,sc),(eo,en,ec),(oo,on_,oc),rfl,HH.out.on FL.out,fun h => h.on FL.out⟩,FL.out⟩
abbrev Tame (p : List C5) : Prop := ∀ x ∈ p,x.1.size ≤ maxLen ∧ x.2.2.2.2.size ≤ maxLen
def okAd (b : Br) (a : Ad) : Bool := decide (a.id ∈ b.seen) && (comesB b.near a.par && Wr.rightP a.p)
theorem rad_any (b : Br) (a : Ad) (nv av sv ev ov : Sl) (x : XAd) (w : World) (h : BrIn w b nv av sv ev ov) (ha : AdIn w x a) (hf : Few b) (hn : b.near.Pairwise (· ≤ ·)) (hr : RiseI b.seen) (ht : Tame a.p) :
  Calls Tryz.prog 48 #[brv b.me nv av sv ev ov,valD x] w fun e w' => e = .returned (.bool (okAd b a)) ∧ Below w.heap.size w w' := by
 obtain ⟨no,nn,nc⟩ := nv
 obtain ⟨ao,an,ac⟩ := av
 obtain ⟨so,sn,sc⟩ := sv
 obtain ⟨eo,en,ec⟩ := ev
 obtain ⟨oo,on_,oc⟩ := ov
 obtain ⟨x1,x2,⟨xo,xn,xc⟩,x4⟩ := x
 obtain ⟨h0,X,Y⟩ := two_new w #[.int .i64 b.me,.slice no nn nc,.slice ao an ac,.slice so sn sc,.slice eo en ec,.slice oo on_ oc] #[.int .i64 x1,.int .i64 x2,.slice xo xn xc,.int .i64 x4] 31 41
 have B0 := Lib.hid h0
 have HX := Lib.hid X
 have HY := Lib.hid Y
 have C1 := Lib.hid (bsJ_any (.slice so sn sc) b.seen (x1,x2) _ (h.seen.on h0) hr hf.seen)
 have C2 := Lib.hid (fun W' (q : Below w.heap.size w W') => comes_any b.me (no,nn,nc) (.slice ao an ac) (.slice so sn sc) (.slice eo en ec) (.slice oo on_ oc) b.near x4 W' (h.near.on q) hn hf.near)
 have C3 := Lib.hid (fun W' (q : Below w.heap.size w W') => Avp.pright_any (.slice xo xn xc) a.p W' (ha.2.2.on q) ht)
 rw [thereK_in hr] at C1
 have RS := Lib.hid (show okAd b a = (decide ((x1,x2) ∈ b.seen) && (comesB b.near x4 && Wr.rightP a.p)) by unfold okAd; rw [← ha.1,← ha.2.1])
 generalize okAd b a = res at *
 have em : decide ((x1,x2) ∈ List.map keyJ b.seen) = decide ((x1,x2) ∈ b.seen) := by rw [show List.map keyJ b.seen = b.seen from List.map_id' _]
 rw [em] at C1
 generalize decide ((x1,x2) ∈ b.seen) = r1 at *
 generalize comesB b.near x4 = r2 at *
 generalize Wr.rightP a.p = r3 at *
 generalize placeK keyJ b.seen (x1,x2) = pk at *
 obtain ⟨cx0,cx1,cx2,cx3,cx4,cx5⟩ := X.cs6
 obtain ⟨cy0,cy1,cy2,cy3⟩ := Y.cs4
 clear h0 X Y h ha hf hn hr ht em
 go_enter Tryz.func48,Tryz.ntmps48
 go_wp2_with fail
 refine C1.out.mono ?_
 rintro e1 w1 ⟨rfl,hb⟩
 have B1 := Lib.hid (B0.out.trans (hb.mono B0.out.size))
 have X1 := Lib.hid (HX.out.on hb)
 have Y1 := Lib.hid (HY.out.on hb)
 clear hb cx0 cx1 cx2 cx3 cx4 cx5 cy0 cy1 cy2 cy3 HX HY
 obtain ⟨cx0,cx1,cx2,cx3,cx4,cx5⟩ := X1.out.cs6
 obtain ⟨cy0,cy1,cy2,cy3⟩ := Y1.out.cs4
 cases r1
 ·go_wp2_with fail
  go_ret
  exact ⟨by rw [RS.out]; rfl,B1.out⟩
 ·go_wp2_with fail
  refine (C2.out _ B1.out).mono ?_
  rintro e2 w2 ⟨rfl,hb⟩
  have B2 := Lib.hid (B1.out.trans (hb.mono B1.out.size))
  have Y2 := Lib.hid (Y1.out.on hb)
  clear hb cx0 cx1 cx2 cx3 cx4 cx5 cy0 cy1 cy2 cy3
  obtain ⟨cy0,cy1,cy2,cy3⟩ := Y2.out.cs4
  cases r2
  ·go_wp2_with fail
   go_ret
   exact ⟨by rw [RS.out]; rfl,B2.out⟩
  ·go_wp2_with fail
   refine (C3.out _ B2.out).mono ?_
   rintro e3 w3 ⟨rfl,hb⟩
   have B3 := Lib.hid (B2.out.trans (hb.mono B2.out.size))
   clear hb cy0 cy1 cy2 cy3
   go_wp2
   go_ret
   exact ⟨by rw [RS.out]; rfl,B3.out⟩
def okEn (b : Br) (e : En) : Bool := match findA b.adv e.tree with
 | none => false
 | some a => !(e.from_ == a.par && !(a.par == -1)) && (comesB b.near e.from_ && (!(e.up && a.par == -1) && Wr.rightP e.p))
theorem findA_in {W : World} {l : List XAd} {al : List Ad} (hA : All2 (AdIn W) l al) (hr : RiseK keyD l) (t : XID) : (thereK keyD l t = false ∧ findA al t = none) ∨ (thereK keyD l t = true ∧ ∃ (y : XAd) (a : Ad),l[placeK keyD l t]? = some y ∧ findA al t = some a ∧ AdIn W y a) := by
 cases ht : thereK keyD l t with
 | false =>
  refine Or.inl ⟨rfl,findA_none fun j a hj e => ?_⟩
  obtain ⟨y,hy,hya⟩ := hA.at j a hj
  have hm : t ∈ l.map keyD := List.mem_map.2 ⟨y,List.mem_of_getElem? hy,by rw [← e]; exact hya.1⟩
  rw [thereK_in hr,decide_eq_true hm] at ht
  cases ht
 | true =>
  right
  refine ⟨rfl,?_⟩
  unfold thereK at ht
  cases hy : l[placeK keyD l t]? with
  | none => rw [hy] at ht; cases ht
  | some y =>
   rw [hy] at ht
   have hk : keyD y = t := of_decide_eq_true ht
   have hlt := (List.getElem?_eq_some_iff.1 hy).1
   obtain ⟨a,ha⟩ : ∃ a,al[placeK keyD l t]? = some a := ⟨_,List.getElem?_eq_getElem (by rw [← hA.len]; exact hlt)⟩
   obtain ⟨y',hy',hya⟩ := hA.at _ a ha
   rw [hy] at hy'
   obtain rfl := Option.some.inj hy'
   refine ⟨y,a,rfl,findA_at ha (by rw [← hya.1]; exact hk) (fun j z hj hz e => ?_),hya⟩
   obtain ⟨u,hu,huz⟩ := hA.at j z hz
   have h1 := riseK_lt hr hj hu hy
   rw [show keyD u = t from huz.1.trans e,hk,lessI_irr] at h1
   cases h1
theorem ren_any (b : Br) (e : En) (nv av sv ev ov : Sl) (x : XEn) (w : World) (h : BrIn w b nv av sv ev ov) (he : EnIn w x e) (hf : Few b) (hn : b.near.Pairwise (· ≤ ·)) (hr : RiseA b.adv) (ht : Tame e.p) :
  Calls Tryz.prog 51 #[brv b.me nv av sv ev ov,valN x] w fun r w' => r = .returned (.bool (okEn b e)) ∧ Below w.heap.size w w' := by
 obtain ⟨no,nn,nc⟩ := nv
 obtain ⟨ao,an,ac⟩ := av
 obtain ⟨so,sn,sc⟩ := sv
 obtain ⟨eo,en,ec⟩ := ev
 obtain ⟨oo,on_,oc⟩ := ov
 obtain ⟨x1,x2,x3,x4,⟨xo,xn,xc⟩,x6,x7⟩ := x
 obtain ⟨h0,X,Y⟩ := two_new w #[.int .i64 b.me,.slice no nn nc,.slice ao an ac,.slice so sn sc,.slice eo en ec,.slice oo on_ oc] #[.int .i64 x1,.int .i64 x2,.int .i64 x3,.int .i64 x4,.slice xo xn xc,.int .i64 x6,.bool x7] 31 43
 have B0 := Lib.hid h0
 have HX := Lib.hid X
 have HY := Lib.hid Y
 obtain ⟨la,ha1,ha2⟩ := h.adv
 have hrl : RiseK keyD la := by
  have := (riseK_map Ad.id b.adv).1 hr
  rw [riseK_map,show la.map keyD = b.adv.map Ad.id from by
   clear ha1 this hr hf h
   generalize b.adv = al at ha2
   induction ha2 with
   | nil => rfl
   | cons q _ ih => rw [List.map_cons,List.map_cons,ih]; exact congrArg (· :: _) q.1]
  exact this
 have hla : la.length ≤ 900 := by rw [ha2.len]; exact hf.adv
 have C1 := Lib.hid (bsD_any (.slice ao an ac) la (x1,x2,(none,0,0),0) _ (ha1.on h0) hrl hla)
 have C2 := Lib.hid (fun W' (q : Below w.heap.size w W') => comes_any b.me (no,nn,nc) (.slice ao an ac) (.slice so sn sc) (.slice eo en ec) (.slice oo on_ oc) b.near x6 W' (h.near.on q) hn hf.near)
 have C3 := Lib.hid (fun W' (q : Below w.heap.size w W') => Avp.pright_any (.slice xo xn xc) e.p W' (he.2.2.2.2.on q) ht)
 have FF := findA_in ha2 hrl (x1,x2)
 have HT := he.1
 have HFR := he.2.2.1
 have HUP := he.2.2.2.1
 have HA1 := Lib.hid ha1
 have LL := Lib.hid hla
 have RS := Lib.hid (show okEn b e = match findA b.adv (x1,x2) with | none => false | some a => !(x6 == a.par && !(a.par == -1)) && (comesB b.near x6 && (!(x7 && a.par == -1) && Wr.rightP e.p)) by unfold okEn; rw [← HT,← HFR,← HUP])
 generalize okEn b e = res at *
 generalize comesB b.near x6 = r2 at *
 generalize Wr.rightP e.p = r3 at *
 obtain ⟨cx0,cx1,cx2,cx3,cx4,cx5⟩ := X.cs6
 obtain ⟨cy0,cy1,cy2,cy3,cy4,cy5,cy6⟩ := Y.cs7
 clear h0 X Y h he hf hn hr ht hrl hla HT HFR HUP
 rcases FF with ⟨t0,f0⟩ | ⟨t0,y,a,hy,f0,hya⟩
 ·have C1 : Hid (Calls Tryz.prog 107 #[.slice ao an ac,.agg #[.int .i64 x1,.int .i64 x2,.slice none 0 0,.int .i64 0],.func (.func 41) #[] #[]] ((w.alloc (.cells #[.int .i64 b.me,.slice no nn nc,.slice ao an ac,.slice so sn sc,.slice eo en ec,.slice oo on_ oc] 31)).alloc (.cells #[.int .i64 x1,.int .i64 x2,.int .i64 x3,.int .i64 x4,.slice xo xn xc,.int .i64 x6,.bool x7] 43)) fun e1 w' => e1 = .returned (.tuple #[.int .i64 (placeK keyD la (x1,x2)),.bool false]) ∧ Below ((w.alloc (.cells #[.int .i64 b.me,.slice no nn nc,.slice ao an ac,.slice so sn sc,.slice eo en ec,.slice oo on_ oc] 31)).alloc (.cells #[.int .i64 x1,.int .i64 x2,.int .i64 x3,.int .i64 x4,.slice xo xn xc,.int .i64 x6,.bool x7] 43)).heap.size ((w.alloc (.cells #[.int .i64 b.me,.slice no nn nc,.slice ao an ac,.slice so sn sc,.slice eo en ec,.slice oo on_ oc] 31)).alloc (.cells #[.int .i64 x1,.int .i64 x2,.int .i64 x3,.int .i64 x4,.slice xo xn xc,.int .i64 x6,.bool x7] 43)) w') := by rw [← t0]; exact C1
  have RF := Lib.hid (show res = false by rw [RS.out,f0])
  clear RS t0 f0 HA1 ha1 ha2
  go_enter Tryz.func51,Tryz.ntmps51
  go_wp2_with fail
  refine C1.out.mono ?_
  rintro e1 w1 ⟨rfl,hb⟩
  have B1 := Lib.hid (B0.out.trans (hb.mono B0.out.size))
  clear hb
  go_wp2_with fail
  go_ret
  exact ⟨by rw [RF.out]; rfl,B1.out⟩
 ·have C1 : Hid (Calls Tryz.prog 107 #[.slice ao an ac,.agg #[.int .i64 x1,.int .i64 x2,.slice none 0 0,.int .i64 0],.func (.func 41) #[] #[]] ((w.alloc (.cells #[.int .i64 b.me,.slice no nn nc,.slice ao an ac,.slice so sn sc,.slice eo en ec,.slice oo on_ oc] 31)).alloc (.cells #[.int .i64 x1,.int .i64 x2,.int .i64 x3,.int .i64 x4,.slice xo xn xc,.int .i64 x6,.bool x7] 43)) fun e1 w' => e1 = .returned (.tuple #[.int .i64 (placeK keyD la (x1,x2)),.bool true]) ∧ Below ((w.alloc (.cells #[.int .i64 b.me,.slice no nn nc,.slice ao an ac,.slice so sn sc,.slice eo en ec,.slice oo on_ oc] 31)).alloc (.cells #[.int .i64 x1,.int .i64 x2,.int .i64 x3,.int .i64 x4,.slice xo xn xc,.int .i64 x6,.bool x7] 43)).heap.size ((w.alloc (.cells #[.int .i64 b.me,.slice no nn nc,.slice ao an ac,.slice so sn sc,.slice eo en ec,.slice oo on_ oc] 31)).alloc (.cells #[.int .i64 x1,.int .i64 x2,.int .i64 x3,.int .i64 x4,.slice xo xn xc,.int .i64 x6,.bool x7] 43)) w') := by rw [← t0]; exact C1
  obtain ⟨uo,uc,hv⟩ := ha1.len
  have hv : Value.slice ao an ac = .slice uo la.length uc := hv
  obtain ⟨rfl,rfl,rfl⟩ : ao = uo ∧ an = la.length ∧ ac = uc := by simpa using hv
  obtain ⟨p,ix,px⟩ := elD HA1.out rfl rfl hy
  obtain ⟨y1,y2,⟨yo,yn,yc⟩,y4⟩ := y
  have hpar : a.par = y4 := hya.2.1.symm
  have RS := Lib.hid (show res = (!(x6 == y4 && !(y4 == -1)) && (r2 && (!(x7 && y4 == -1) && r3))) by rw [RS.out,f0]; simp only; rw [hpar])
  obtain ⟨q1,hq1⟩ : ∃ q,(x6 == y4) = q := ⟨_,rfl⟩
  obtain ⟨q2,hq2⟩ : ∃ q,(y4 == -1) = q := ⟨_,rfl⟩
  rw [hq1,hq2] at RS
  generalize placeK keyD la (x1,x2) = pk at *
  generalize la.length = n at *
  clear t0 f0 HA1 ha1 ha2 hy hya hpar hv
  have PX := Lib.hid px
  clear px
  go_enter Tryz.func51,Tryz.ntmps51
  go_wp2_with fail
  refine C1.out.mono ?_
  rintro e1 w1 ⟨rfl,hb⟩
  have B1 := Lib.hid (B0.out.trans (hb.mono B0.out.size))
  have X1 := Lib.hid (HX.out.on hb)
  have Y1 := Lib.hid (HY.out.on hb)
  clear hb cx0 cx1 cx2 cx3 cx4 cx5 cy0 cy1 cy2 cy3 cy4 cy5 cy6 HX HY C1
  obtain ⟨cx0,cx1,cx2,cx3,cx4,cx5⟩ := X1.out.cs6
  obtain ⟨cy0,cy1,cy2,cy3,cy4,cy5,cy6⟩ := Y1.out.cs7
  have p3 := (PX.out w1 B1.out).2.2.2
  cases q1
  ·go_wp2_with fail
   go_quiet (fail)
   go_wp2_with fail
   have BQ := Lib.hid (show Below w.heap.size w (w1.drewN nq) from ⟨B1.out.os,B1.out.tape,B1.out.output,B1.out.size,B1.out.block⟩)
   have YQ := Lib.hid (show Box (w1.drewN nq) (w.heap.size + 1) #[.int .i64 x1,.int .i64 x2,.int .i64 x3,.int .i64 x4,.slice xo xn xc,.int .i64 x6,.bool x7] 43 from Y1.out)
   clear cx0 cx1 cx2 cx3 cx4 cx5 cy0 cy1 cy2 cy3 cy4 cy5 cy6 p3 ix X1 Y1 hq1
   refine (C2.out _ BQ.out).mono ?_
   rintro e2 w2 ⟨rfl,hb⟩
   have B2 := Lib.hid (BQ.out.trans (hb.mono BQ.out.size))
   have Y2 := Lib.hid (YQ.out.on hb)
   clear hb BQ YQ B1
   obtain ⟨cy0,cy1,cy2,cy3,cy4,cy5,cy6⟩ := Y2.out.cs7
   cases r2
   ·go_wp2_with fail
    go_ret
    exact ⟨by rw [RS.out]; simp,B2.out⟩
   cases x7
   ·go_wp2_with fail
    refine (C3.out _ B2.out).mono ?_
    rintro e3 w3 ⟨rfl,hb⟩
    have B3 := Lib.hid (B2.out.trans (hb.mono B2.out.size))
    clear hb cy0 cy1 cy2 cy3 cy4 cy5 cy6
    go_wp2
    go_ret
    exact ⟨by rw [RS.out]; simp,B3.out⟩
   cases q2
   ·go_wp2_with fail
    refine (C3.out _ B2.out).mono ?_
    rintro e3 w3 ⟨rfl,hb⟩
    have B3 := Lib.hid (B2.out.trans (hb.mono B2.out.size))
    clear hb cy0 cy1 cy2 cy3 cy4 cy5 cy6
    go_wp2
    go_ret
    exact ⟨by rw [RS.out]; simp,B3.out⟩
   ·go_wp2_with fail
    go_ret
    exact ⟨by rw [RS.out]; simp,B2.out⟩
  ·cases q2
   ·go_wp2_with fail
    go_quiet (fail)
    go_wp2_with fail
    go_ret
    exact ⟨by rw [RS.out]; simp,⟨B1.out.os,B1.out.tape,B1.out.output,B1.out.size,B1.out.block⟩⟩
   ·go_wp2_with fail
    go_quiet (fail)
    go_wp2_with fail
    have BQ := Lib.hid (show Below w.heap.size w (w1.drewN nq) from ⟨B1.out.os,B1.out.tape,B1.out.output,B1.out.size,B1.out.block⟩)
    have YQ := Lib.hid (show Box (w1.drewN nq) (w.heap.size + 1) #[.int .i64 x1,.int .i64 x2,.int .i64 x3,.int .i64 x4,.slice xo xn xc,.int .i64 x6,.bool x7] 43 from Y1.out)
    clear cx0 cx1 cx2 cx3 cx4 cx5 cy0 cy1 cy2 cy3 cy4 cy5 cy6 p3 ix X1 Y1 hq1
    refine (C2.out _ BQ.out).mono ?_
    rintro e2 w2 ⟨rfl,hb⟩
    have B2 := Lib.hid (BQ.out.trans (hb.mono BQ.out.size))
    have Y2 := Lib.hid (YQ.out.on hb)
    clear hb BQ YQ B1
    obtain ⟨cy0,cy1,cy2,cy3,cy4,cy5,cy6⟩ := Y2.out.cs7
    cases r2
    ·go_wp2_with fail
     go_ret
     exact ⟨by rw [RS.out]; simp,B2.out⟩
    cases x7
    ·go_wp2_with fail
     refine (C3.out _ B2.out).mono ?_
     rintro e3 w3 ⟨rfl,hb⟩
     have B3 := Lib.hid (B2.out.trans (hb.mono B2.out.size))
     clear hb cy0 cy1 cy2 cy3 cy4 cy5 cy6
     go_wp2
     go_ret
     exact ⟨by rw [RS.out]; simp,B3.out⟩
    ·go_wp2_with fail
     go_ret
     exact ⟨by rw [RS.out]; simp,B2.out⟩
theorem rclD_any (b : Br) (a : Ad) (nv av sv ev ov : Sl) (x : XAd) (b1 : Nat) (w : World) (hb1 : Box w b1 (brcells b.me nv av sv ev ov) 31) (h : BrIn w b nv av sv ev ov) (hx : AdIn w x a) (hf : Few b) (hn : b.near.Pairwise (· ≤ ·)) (hr : RiseI b.seen) (ht : Tame a.p) :
  Calls Tryz.prog 47 #[valD x,.pointer (some ⟨b1,0,none⟩)] w fun e w' => e = .returned (.bool (okAd b a)) ∧ Below w.heap.size w w' := by
 obtain ⟨no,nn,nc⟩ := nv
 obtain ⟨ao,an,ac⟩ := av
 obtain ⟨so,sn,sc⟩ := sv
 obtain ⟨eo,en,ec⟩ := ev
 obtain ⟨oo,on_,oc⟩ := ov
 obtain ⟨x1,x2,⟨xo,xn,xc⟩,x4⟩ := x
 have q := newB w (.cells #[.int .i64 x1,.int .i64 x2,.slice xo xn xc,.int .i64 x4] 41)
 have Y := box_new w #[.int .i64 x1,.int .i64 x2,.slice xo xn xc,.int .i64 x4] 41
 have X := hb1.on q
 have C := Lib.hid (rad_any b a (no,nn,nc) (ao,an,ac) (so,sn,sc) (eo,en,ec) (oo,on_,oc) (x1,x2,(xo,xn,xc),x4) _ (h.on q) (hx.on q) hf hn hr ht)
 generalize okAd b a = r at *
 have B0 := Lib.hid q
 obtain ⟨cx0,cx1,cx2,cx3,cx4,cx5⟩ := X.cs6
 obtain ⟨cy0,cy1,cy2,cy3⟩ := Y.cs4
 clear q X Y h hx hf hn hr ht hb1
 go_enter Tryz.func47,Tryz.ntmps47
 go_wp2_with fail
 refine C.out.mono ?_
 rintro e w1 ⟨rfl,hb⟩
 have B1 := Lib.hid (B0.out.trans (hb.mono B0.out.size))
 clear hb
 go_wp2
 go_ret
 exact ⟨rfl,B1.out⟩
theorem rclN_any (b : Br) (a : En) (nv av sv ev ov : Sl) (x : XEn) (b1 : Nat) (w : World) (hb1 : Box w b1 (brcells b.me nv av sv ev ov) 31) (h : BrIn w b nv av sv ev ov) (hx : EnIn w x a) (hf : Few b) (hn : b.near.Pairwise (· ≤ ·)) (hr : RiseA b.adv) (ht : Tame a.p) :
  Calls Tryz.prog 50 #[valN x,.pointer (some ⟨b1,0,none⟩)] w fun e w' => e = .returned (.bool (okEn b a)) ∧ Below w.heap.size w w' := by
 obtain ⟨no,nn,nc⟩ := nv
 obtain ⟨ao,an,ac⟩ := av
 obtain ⟨so,sn,sc⟩ := sv
 obtain ⟨eo,en,ec⟩ := ev
 obtain ⟨oo,on_,oc⟩ := ov
 obtain ⟨x1,x2,x3,x4,⟨xo,xn,xc⟩,x6,x7⟩ := x
 have q := newB w (.cells #[.int .i64 x1,.int .i64 x2,.int .i64 x3,.int .i64 x4,.slice xo xn xc,.int .i64 x6,.bool x7] 43)
 have Y := box_new w #[.int .i64 x1,.int .i64 x2,.int .i64 x3,.int .i64 x4,.slice xo xn xc,.int .i64 x6,.bool x7] 43
 have X := hb1.on q
 have C := Lib.hid (ren_any b a (no,nn,nc) (ao,an,ac) (so,sn,sc) (eo,en,ec) (oo,on_,oc) (x1,x2,x3,x4,(xo,xn,xc),x6,x7) _ (h.on q) (hx.on q) hf hn hr ht)
 generalize okEn b a = r at *
 have B0 := Lib.hid q
 obtain ⟨cx0,cx1,cx2,cx3,cx4,cx5⟩ := X.cs6
 obtain ⟨cy0,cy1,cy2,cy3,cy4,cy5,cy6⟩ := Y.cs7
 clear q X Y h hx hf hn hr ht hb1
 go_enter Tryz.func50,Tryz.ntmps50
 go_wp2_with fail
 refine C.out.mono ?_
 rintro e w1 ⟨rfl,hb⟩
 have B1 := Lib.hid (B0.out.trans (hb.mono B0.out.size))
 clear hb
 go_wp2
 go_ret
 exact ⟨rfl,B1.out⟩
theorem rclW_any (a : Ow) (x : XOw) (w : World) (hx : OwIn w x a) (ht : Tame a.p) :
  Calls Tryz.prog 53 #[valW x] w fun e w' => e = .returned (.bool (Wr.rightP a.p)) ∧ Below w.heap.size w w' := by
 obtain ⟨x1,x2,⟨xo,xn,xc⟩⟩ := x
 have q := newB w (.cells #[.int .i64 x1,.int .i64 x2,.slice xo xn xc] 45)
 have Y := box_new w #[.int .i64 x1,.int .i64 x2,.slice xo xn xc] 45
 have C := Lib.hid (Avp.pright_any (.slice xo xn xc) a.p _ (hx.2.on q) ht)
 generalize Wr.rightP a.p = r at *
 have B0 := Lib.hid q
 obtain ⟨cy0,cy1,cy2⟩ := Y.cs3
 clear q Y hx ht
 go_enter Tryz.func53,Tryz.ntmps53
 go_wp2_with fail
 refine C.out.mono ?_
 rintro e w1 ⟨rfl,hb⟩
 have B1 := Lib.hid (B0.out.trans (hb.mono B0.out.size))
 clear hb
 go_wp2
 go_ret
 exact ⟨rfl,B1.out⟩
theorem allD_any (b1 : Nat) (v : Sl) (l : List XAd) (al : List Ad) (ok : Ad → Bool) (w : World) (hv : Row ED w (slv v) l) (hA : All2 (AdIn w) l al)
  (hC : ∀ (x : XAd) (a : Ad) (W' : World),a ∈ al → Below w.heap.size w W' → AdIn W' x a → Calls Tryz.prog 47 #[valD x,.pointer (some ⟨b1,0,none⟩)] W' fun e w' => e = .returned (.bool (ok a)) ∧ Below W'.heap.size W' w') :
  Calls Tryz.prog 46 #[slv v,.func (.func 47) #[] #[.pointer (some ⟨b1,0,none⟩)]] w fun e w' => e = .returned (.bool (al.all ok)) ∧ Below w.heap.size w w' := by
 obtain ⟨so,sn,sc⟩ := v
 obtain ⟨ao,ac,hs⟩ := hv.len
 have hs : Value.slice so sn sc = .slice ao l.length ac := hs
 obtain ⟨rfl,rfl,rfl⟩ : so = ao ∧ sn = l.length ∧ sc = ac := by simpa using hs
 have HL := Lib.hid hv
 have HA := Lib.hid hA
 have HC := Lib.hid hC
 have lm := hv.most
 unfold maxLen at lm
 obtain ⟨n,hn⟩ : ∃ n,n = l.length := ⟨_,rfl⟩
 rw [← hn] at HL lm ⊢
 have HN := Lib.hid hn.symm
 obtain ⟨res,hres⟩ : ∃ r,al.all ok = r := ⟨_,rfl⟩
 rw [hres]
 have RS := Lib.hid hres
 clear hv hA hC hs hn hres
 go_enter Tryz.func46,Tryz.ntmps46
 go_wp2
 go_loopw [9] (fun i wr => ∃ k : Nat,k ≤ n ∧ i = .int .i64 k ∧ Below w.heap.size w wr ∧ ∀ (j : Nat) (a : Ad),j < k → al[j]? = some a → ok a = true) (fun i _ => n - (intOf i).toNat)
 case atStart => exact ⟨0,Nat.zero_le _,rfl,Below.refl _ _,fun j y h => by omega⟩
 case round =>
  obtain ⟨k,hk,rfl,hbe,hall⟩ := hrel
  have BE := Lib.hid hbe
  have AL := Lib.hid hall
  clear hbe hall
  by_cases hlt : k < n
  ·obtain ⟨a,hak⟩ : ∃ a,al[k]? = some a := ⟨_,List.getElem?_eq_getElem (by rw [← HA.out.len,HN.out]; exact hlt)⟩
   obtain ⟨x,hx,hxa⟩ := HA.out.at k a hak
   obtain ⟨p,ix,px⟩ := elD HL.out rfl HN.out hx
   obtain ⟨p0,p1,p2,p3⟩ := px wr BE.out
   have CC := fun W' (q : Below w.heap.size w W') => HC.out x a W' (List.mem_of_getElem? hak) q (hxa.on q)
   have HAK := Lib.hid hak
   obtain ⟨r,hr⟩ : ∃ r,ok a = r := ⟨_,rfl⟩
   rw [hr] at CC
   have HR := Lib.hid hr
   clear hx hak hxa px hr
   obtain ⟨x1,x2,⟨xo,xn,xc⟩,x4⟩ := x
   simp only at p0 p1 p2 p3
   have NB := newB wr (.cells #[.int .i64 x1,.int .i64 x2,.slice xo xn xc,.int .i64 x4] 41)
   have C := Lib.hid (CC _ (BE.out.trans (NB.mono BE.out.size)))
   have BN := Lib.hid (BE.out.trans (NB.mono BE.out.size))
   have hw3 : IntKind.i64.wrap ((k : Int) + 1) = (k : Int) + 1 := IntWalk.i64_in _ (by omega)
   clear CC NB
   go_wp2_with fail
   refine C.out.mono ?_
   rintro e w1 ⟨rfl,hb⟩
   have B1 := Lib.hid (BN.out.trans (hb.mono BN.out.size))
   clear hb C ix p0 p1 p2 p3
   cases r
   ·have R := Lib.hid (show res = false by
     rw [← RS.out]
     exact List.all_eq_false.2 ⟨a,List.mem_of_getElem? HAK.out,by rw [HR.out]; simp⟩)
    go_wp2
    go_ret
    exact ⟨by rw [R.out]; rfl,B1.out⟩
   ·go_wp2
    go_roundw
    case rel => exact ⟨k + 1,by omega,by go_num,B1.out,fun j y hj h1 => by
     rcases Nat.lt_or_ge j k with h3 | h3
     ·exact AL.out j y h3 h1
     ·obtain rfl : j = k := by omega
      have e1 := HAK.out
      rw [h1] at e1
      rw [Option.some.inj e1]
      exact HR.out⟩
    case measure => simp [intOf]; omega
  ·obtain rfl : k = n := by omega
   have R := Lib.hid (show res = true by
    rw [← RS.out]
    refine List.all_eq_true.2 fun y hy => ?_
    obtain ⟨j,hj⟩ := List.mem_iff_getElem?.1 hy
    exact AL.out j y (by have := (List.getElem?_eq_some_iff.1 hj).1; have := HA.out.len; have := HN.out; omega) hj)
   go_wp2
   go_ret
   exact ⟨by rw [R.out]; rfl,BE.out⟩
theorem allN_any (b1 : Nat) (v : Sl) (l : List XEn) (al : List En) (ok : En → Bool) (w : World) (hv : Row EN w (slv v) l) (hA : All2 (EnIn w) l al)
  (hC : ∀ (x : XEn) (a : En) (W' : World),a ∈ al → Below w.heap.size w W' → EnIn W' x a → Calls Tryz.prog 50 #[valN x,.pointer (some ⟨b1,0,none⟩)] W' fun e w' => e = .returned (.bool (ok a)) ∧ Below W'.heap.size W' w') :
  Calls Tryz.prog 49 #[slv v,.func (.func 50) #[] #[.pointer (some ⟨b1,0,none⟩)]] w fun e w' => e = .returned (.bool (al.all ok)) ∧ Below w.heap.size w w' := by
 obtain ⟨so,sn,sc⟩ := v
 obtain ⟨ao,ac,hs⟩ := hv.len
 have hs : Value.slice so sn sc = .slice ao l.length ac := hs
 obtain ⟨rfl,rfl,rfl⟩ : so = ao ∧ sn = l.length ∧ sc = ac := by simpa using hs
 have HL := Lib.hid hv
 have HA := Lib.hid hA
 have HC := Lib.hid hC
 have lm := hv.most
 unfold maxLen at lm
 obtain ⟨n,hn⟩ : ∃ n,n = l.length := ⟨_,rfl⟩
 rw [← hn] at HL lm ⊢
 have HN := Lib.hid hn.symm
 obtain ⟨res,hres⟩ : ∃ r,al.all ok = r := ⟨_,rfl⟩
 rw [hres]
 have RS := Lib.hid hres
 clear hv hA hC hs hn hres
 go_enter Tryz.func49,Tryz.ntmps49
 go_wp2
 go_loopw [9] (fun i wr => ∃ k : Nat,k ≤ n ∧ i = .int .i64 k ∧ Below w.heap.size w wr ∧ ∀ (j : Nat) (a : En),j < k → al[j]? = some a → ok a = true) (fun i _ => n - (intOf i).toNat)
 case atStart => exact ⟨0,Nat.zero_le _,rfl,Below.refl _ _,fun j y h => by omega⟩
 case round =>
  obtain ⟨k,hk,rfl,hbe,hall⟩ := hrel
  have BE := Lib.hid hbe
  have AL := Lib.hid hall
  clear hbe hall
  by_cases hlt : k < n
  ·obtain ⟨a,hak⟩ : ∃ a,al[k]? = some a := ⟨_,List.getElem?_eq_getElem (by rw [← HA.out.len,HN.out]; exact hlt)⟩
   obtain ⟨x,hx,hxa⟩ := HA.out.at k a hak
   obtain ⟨p,ix,px⟩ := elN HL.out rfl HN.out hx
   obtain ⟨p0,p1,p2,p3,p4,p5,p6⟩ := px wr BE.out
   have CC := fun W' (q : Below w.heap.size w W') => HC.out x a W' (List.mem_of_getElem? hak) q (hxa.on q)
   have HAK := Lib.hid hak
   obtain ⟨r,hr⟩ : ∃ r,ok a = r := ⟨_,rfl⟩
   rw [hr] at CC
   have HR := Lib.hid hr
   clear hx hak hxa px hr
   obtain ⟨x1,x2,x3,x4,⟨xo,xn,xc⟩,x6,x7⟩ := x
   simp only at p0 p1 p2 p3 p4 p5 p6
   have NB := newB wr (.cells #[.int .i64 x1,.int .i64 x2,.int .i64 x3,.int .i64 x4,.slice xo xn xc,.int .i64 x6,.bool x7] 43)
   have C := Lib.hid (CC _ (BE.out.trans (NB.mono BE.out.size)))
   have BN := Lib.hid (BE.out.trans (NB.mono BE.out.size))
   have hw3 : IntKind.i64.wrap ((k : Int) + 1) = (k : Int) + 1 := IntWalk.i64_in _ (by omega)
   clear CC NB
   go_wp2_with fail
   refine C.out.mono ?_
   rintro e w1 ⟨rfl,hb⟩
   have B1 := Lib.hid (BN.out.trans (hb.mono BN.out.size))
   clear hb C ix p0 p1 p2 p3 p4 p5 p6
   cases r
   ·have R := Lib.hid (show res = false by
     rw [← RS.out]
     exact List.all_eq_false.2 ⟨a,List.mem_of_getElem? HAK.out,by rw [HR.out]; simp⟩)
    go_wp2
    go_ret
    exact ⟨by rw [R.out]; rfl,B1.out⟩
   ·go_wp2
    go_roundw
    case rel => exact ⟨k + 1,by omega,by go_num,B1.out,fun j y hj h1 => by
     rcases Nat.lt_or_ge j k with h3 | h3
     ·exact AL.out j y h3 h1
     ·obtain rfl : j = k := by omega
      have e1 := HAK.out
      rw [h1] at e1
      rw [Option.some.inj e1]
      exact HR.out⟩
    case measure => simp [intOf]; omega
  ·obtain rfl : k = n := by omega
   have R := Lib.hid (show res = true by
    rw [← RS.out]
    refine List.all_eq_true.2 fun y hy => ?_
    obtain ⟨j,hj⟩ := List.mem_iff_getElem?.1 hy
    exact AL.out j y (by have := (List.getElem?_eq_some_iff.1 hj).1; have := HA.out.len; have := HN.out; omega) hj)
   go_wp2
   go_ret
   exact ⟨by rw [R.out]; rfl,BE.out⟩
theorem allW_any (v : Sl) (l : List XOw) (al : List Ow) (ok : Ow → Bool) (w : World) (hv : Row EW w (slv v) l) (hA : All2 (OwIn w) l al)
  (hC : ∀ (x : XOw) (a : Ow) (W' : World),a ∈ al → Below w.heap.size w W' → OwIn W' x a → Calls Tryz.prog 53 #[valW x] W' fun e w' => e = .returned (.bool (ok a)) ∧ Below W'.heap.size W' w') :
  Calls Tryz.prog 52 #[slv v,.func (.func 53) #[] #[]] w fun e w' => e = .returned (.bool (al.all ok)) ∧ Below w.heap.size w w' := by
 obtain ⟨so,sn,sc⟩ := v
 obtain ⟨ao,ac,hs⟩ := hv.len
 have hs : Value.slice so sn sc = .slice ao l.length ac := hs
 obtain ⟨rfl,rfl,rfl⟩ : so = ao ∧ sn = l.length ∧ sc = ac := by simpa using hs
 have HL := Lib.hid hv
 have HA := Lib.hid hA
 have HC := Lib.hid hC
 have lm := hv.most
 unfold maxLen at lm
 obtain ⟨n,hn⟩ : ∃ n,n = l.length := ⟨_,rfl⟩
 rw [← hn] at HL lm ⊢
 have HN := Lib.hid hn.symm
 obtain ⟨res,hres⟩ : ∃ r,al.all ok = r := ⟨_,rfl⟩
 rw [hres]
 have RS := Lib.hid hres
 clear hv hA hC hs hn hres
 go_enter Tryz.func52,Tryz.ntmps52
 go_wp2
 go_loopw [9] (fun i wr => ∃ k : Nat,k ≤ n ∧ i = .int .i64 k ∧ Below w.heap.size w wr ∧ ∀ (j : Nat) (a : Ow),j < k → al[j]? = some a → ok a = true) (fun i _ => n - (intOf i).toNat)
 case atStart => exact ⟨0,Nat.zero_le _,rfl,Below.refl _ _,fun j y h => by omega⟩
 case round =>
  obtain ⟨k,hk,rfl,hbe,hall⟩ := hrel
  have BE := Lib.hid hbe
  have AL := Lib.hid hall
  clear hbe hall
  by_cases hlt : k < n
  ·obtain ⟨a,hak⟩ : ∃ a,al[k]? = some a := ⟨_,List.getElem?_eq_getElem (by rw [← HA.out.len,HN.out]; exact hlt)⟩
   obtain ⟨x,hx,hxa⟩ := HA.out.at k a hak
   obtain ⟨p,ix,px⟩ := elW HL.out rfl HN.out hx
   obtain ⟨p0,p1,p2⟩ := px wr BE.out
   have CC := fun W' (q : Below w.heap.size w W') => HC.out x a W' (List.mem_of_getElem? hak) q (hxa.on q)
   have HAK := Lib.hid hak
   obtain ⟨r,hr⟩ : ∃ r,ok a = r := ⟨_,rfl⟩
   rw [hr] at CC
   have HR := Lib.hid hr
   clear hx hak hxa px hr
   obtain ⟨x1,x2,⟨xo,xn,xc⟩⟩ := x
   simp only at p0 p1 p2
   have NB := newB wr (.cells #[.int .i64 x1,.int .i64 x2,.slice xo xn xc] 45)
   have C := Lib.hid (CC _ (BE.out.trans (NB.mono BE.out.size)))
   have BN := Lib.hid (BE.out.trans (NB.mono BE.out.size))
   have hw3 : IntKind.i64.wrap ((k : Int) + 1) = (k : Int) + 1 := IntWalk.i64_in _ (by omega)
   clear CC NB
   go_wp2_with fail
   refine C.out.mono ?_
   rintro e w1 ⟨rfl,hb⟩
   have B1 := Lib.hid (BN.out.trans (hb.mono BN.out.size))
   clear hb C ix p0 p1 p2
   cases r
   ·have R := Lib.hid (show res = false by
     rw [← RS.out]
     exact List.all_eq_false.2 ⟨a,List.mem_of_getElem? HAK.out,by rw [HR.out]; simp⟩)
    go_wp2
    go_ret
    exact ⟨by rw [R.out]; rfl,B1.out⟩
   ·go_wp2
    go_roundw
    case rel => exact ⟨k + 1,by omega,by go_num,B1.out,fun j y hj h1 => by
     rcases Nat.lt_or_ge j k with h3 | h3
     ·exact AL.out j y h3 h1
     ·obtain rfl : j = k := by omega
      have e1 := HAK.out
      rw [h1] at e1
      rw [Option.some.inj e1]
      exact HR.out⟩
    case measure => simp [intOf]; omega
  ·obtain rfl : k = n := by omega
   have R := Lib.hid (show res = true by
    rw [← RS.out]
    refine List.all_eq_true.2 fun y hy => ?_
    obtain ⟨j,hj⟩ := List.mem_iff_getElem?.1 hy
    exact AL.out j y (by have := (List.getElem?_eq_some_iff.1 hj).1; have := HA.out.len; have := HN.out; omega) hj)
   go_wp2
   go_ret
   exact ⟨by rw [R.out]; rfl,BE.out⟩
abbrev cAd (a b : Ad) : Int := cmpJ a.id b.id
abbrev cEn (a b : En) : Int := orI (cmpJ a.tree b.tree) (cmpJ a.sub b.sub)
abbrev cOw (a b : Ow) : Int := cmpJ a.id b.id
def okBr (b : Br) : Bool := riseB cmpI b.near && (riseB cmpJ b.seen && (riseB cAd b.adv && (riseB cEn b.ent && (riseB cOw b.own && (b.adv.all (okAd b) && (b.ent.all (okEn b) && b.own.all (fun o => Wr.rightP o.p)))))))
structure TameB (b : Br) : Prop where
 adv : ∀ a ∈ b.adv,Tame a.p
 ent : ∀ a ∈ b.ent,Tame a.p
 own : ∀ a ∈ b.own,Tame a.p
theorem riseB_map {α β : Type} {R : α → β → Prop} {c : α → α → Int} {d : β → β → Int} (h : ∀ x a y b,R x a → R y b → c x y = d a b) : ∀ {l : List α} {m : List β},All2 R l m → riseB c l = riseB d m
 | _,_,.nil => rfl
 | _,_,.cons _ .nil => rfl
 | _,_,.cons x (.cons y t) => by
  have ih := riseB_map h (.cons y t)
  unfold riseB
  rw [h _ _ _ _ x y,ih]
theorem riseB_pair {α : Type} {c : α → α → Int} (ht : ∀ x y z,c x y < 0 → c y z < 0 → c x z < 0) : ∀ {l : List α},riseB c l = true → l.Pairwise fun x y => c x y < 0
 | [],_ => List.Pairwise.nil
 | [x],_ => List.pairwise_singleton _ _
 | x :: y :: l,h => by
  unfold riseB at h
  rw [Bool.and_eq_true] at h
  have ih := riseB_pair ht h.2
  have hxy : c x y < 0 := of_decide_eq_true h.1
  refine List.pairwise_cons.2 ⟨fun z hz => ?_,ih⟩
  rcases List.mem_cons.1 hz with rfl | hz
  ·exact hxy
  ·exact ht x y z hxy ((List.pairwise_cons.1 ih).1 z hz)
theorem cmpJ_lt {x y : XID} : cmpJ x y < 0 ↔ lessI x y = true := cmpJ_neg x y
theorem cmpJ_tr (x y z : XID) (h1 : cmpJ x y < 0) (h2 : cmpJ y z < 0) : cmpJ x z < 0 := cmpJ_lt.2 (lessI_trans (cmpJ_lt.1 h1) (cmpJ_lt.1 h2))
theorem near_le {l : List Int} (h : riseB cmpI l = true) : l.Pairwise (· ≤ ·) := by
 have := riseB_pair (c := cmpI) (fun x y z h1 h2 => by rw [cmpI_neg] at *; omega) h
 exact this.imp fun {a b} q => by have := (cmpI_neg a b).1 q; omega
theorem seen_rise {l : List XID} (h : riseB cmpJ l = true) : RiseI l := (riseB_pair cmpJ_tr h).imp fun {_a _b} q => cmpJ_lt.1 q
theorem adv_rise {l : List Ad} (h : riseB cAd l = true) : RiseA l := (riseB_pair (fun x y z => cmpJ_tr x.id y.id z.id) h).imp fun {_a _b} q => cmpJ_lt.1 q
theorem aright_any (b : Br) (nv av sv ev ov : Sl) (w : World) (h : BrIn w b nv av sv ev ov) (hf : Few b) (ht : TameB b) :
  Calls Tryz.prog 7 #[brv b.me nv av sv ev ov] w fun e w' => e = .returned (.bool (okBr b)) ∧ Below w.heap.size w w' := by
 obtain ⟨no,nn,nc⟩ := nv
 obtain ⟨ao,an,ac⟩ := av
 obtain ⟨so,sn,sc⟩ := sv
 obtain ⟨eo,en,ec⟩ := ev
 obtain ⟨oo,on_,oc⟩ := ov
 obtain ⟨la,ha1,ha2⟩ := h.adv
 obtain ⟨le,he1,he2⟩ := h.ent
 obtain ⟨lo,ho1,ho2⟩ := h.own
 have q0 := newB w (.cells #[.int .i64 b.me,.slice no nn nc,.slice ao an ac,.slice so sn sc,.slice eo en ec,.slice oo on_ oc] 31)
 have X := box_new w #[.int .i64 b.me,.slice no nn nc,.slice ao an ac,.slice so sn sc,.slice eo en ec,.slice oo on_ oc] 31
 have C1 := fun W' (q : Below w.heap.size w W') => riseI_any (.slice no nn nc) b.near W' (h.near.on q)
 have C2 := fun W' (q : Below w.heap.size w W') => riseJ_any (.slice so sn sc) b.seen W' (h.seen.on q)
 have C3 := fun W' (q : Below w.heap.size w W') => riseD_any (.slice ao an ac) la W' (ha1.on q)
 have C4 := fun W' (q : Below w.heap.size w W') => riseN_any (.slice eo en ec) le W' (he1.on q)
 have C5 := fun W' (q : Below w.heap.size w W') => riseW_any (.slice oo on_ oc) lo W' (ho1.on q)
 rw [riseB_map (R := AdIn w) (d := cAd) (fun x a y b h1 h2 => by rw [cAd,← h1.1,← h2.1]) ha2] at C3
 rw [riseB_map (R := EnIn w) (d := cEn) (fun x a y b h1 h2 => by rw [cEn,← h1.1,← h2.1,← h1.2.1,← h2.2.1]; rfl) he2] at C4
 rw [riseB_map (R := OwIn w) (d := cOw) (fun x a y b h1 h2 => by rw [cOw,← h1.1,← h2.1]) ho2] at C5
 have C6 := fun (g1 : riseB cmpI b.near = true) (g2 : riseB cmpJ b.seen = true) W' (q : Below w.heap.size w W') (hx : Box W' w.heap.size #[.int .i64 b.me,.slice no nn nc,.slice ao an ac,.slice so sn sc,.slice eo en ec,.slice oo on_ oc] 31) => allD_any w.heap.size (ao,an,ac) la b.adv (okAd b) W' (ha1.on q) (ha2.mono fun _ _ z => z.on q) (fun x a W2 hm q2 hxa => rclD_any b a (no,nn,nc) (ao,an,ac) (so,sn,sc) (eo,en,ec) (oo,on_,oc) x w.heap.size W2 (hx.on q2) ((h.on q).on q2) hxa hf (near_le g1) (seen_rise g2) (ht.adv a hm))
 have C7 := fun (g1 : riseB cmpI b.near = true) (g3 : riseB cAd b.adv = true) W' (q : Below w.heap.size w W') (hx : Box W' w.heap.size #[.int .i64 b.me,.slice no nn nc,.slice ao an ac,.slice so sn sc,.slice eo en ec,.slice oo on_ oc] 31) => allN_any w.heap.size (eo,en,ec) le b.ent (okEn b) W' (he1.on q) (he2.mono fun _ _ z => z.on q) (fun x a W2 hm q2 hxa => rclN_any b a (no,nn,nc) (ao,an,ac) (so,sn,sc) (eo,en,ec) (oo,on_,oc) x w.heap.size W2 (hx.on q2) ((h.on q).on q2) hxa hf (near_le g1) (adv_rise g3) (ht.ent a hm))
 have C8 := fun W' (q : Below w.heap.size w W') => allW_any (oo,on_,oc) lo b.own (fun o => Wr.rightP o.p) W' (ho1.on q) (ho2.mono fun _ _ z => z.on q) (fun x a W2 hm q2 hxa => rclW_any a x W2 hxa (ht.own a hm))
 have RS := Lib.hid (show okBr b = (riseB cmpI b.near && (riseB cmpJ b.seen && (riseB cAd b.adv && (riseB cEn b.ent && (riseB cOw b.own && (b.adv.all (okAd b) && (b.ent.all (okEn b) && b.own.all (fun o => Wr.rightP o.p)))))))) from rfl)
 generalize okBr b = res at *
 generalize riseB cmpI b.near = r1 at *
 generalize riseB cmpJ b.seen = r2 at *
 generalize riseB cAd b.adv = r3 at *
 generalize riseB cEn b.ent = r4 at *
 generalize riseB cOw b.own = r5 at *
 generalize b.adv.all (okAd b) = r6 at *
 generalize b.ent.all (okEn b) = r7 at *
 generalize b.own.all (fun o => Wr.rightP o.p) = r8 at *
 have C1 := Lib.hid C1
 have C2 := Lib.hid C2
 have C3 := Lib.hid C3
 have C4 := Lib.hid C4
 have C5 := Lib.hid C5
 have C6 := Lib.hid C6
 have C7 := Lib.hid C7
 have C8 := Lib.hid C8
 have B0 := Lib.hid q0
 have X0 := Lib.hid X
 obtain ⟨cx0,cx1,cx2,cx3,cx4,cx5⟩ := X.cs6
 clear q0 X h hf ht ha1 ha2 he1 he2 ho1 ho2
 go_enter Tryz.func7,Tryz.ntmps7
 go_wp2_with fail
 generalize w.alloc (.cells #[.int .i64 b.me,.slice no nn nc,.slice ao an ac,.slice so sn sc,.slice eo en ec,.slice oo on_ oc] 31) = W0 at *
 refine (C1.out _ B0.out).mono ?_
 rintro e1 W1 ⟨rfl,hb⟩
 have B1 := Lib.hid (B0.out.trans (hb.mono B0.out.size))
 have X1 := Lib.hid (X0.out.on hb)
 clear hb cx0 cx1 cx2 cx3 cx4 cx5
 obtain ⟨cx0,cx1,cx2,cx3,cx4,cx5⟩ := X1.out.cs6
 cases r1
 ·go_wp2_with fail
  go_ret
  exact ⟨by rw [RS.out]; rfl,B1.out⟩
 ·go_wp2_with fail
  refine (C2.out _ B1.out).mono ?_
  rintro e2 W2 ⟨rfl,hb⟩
  have B2 := Lib.hid (B1.out.trans (hb.mono B1.out.size))
  have X2 := Lib.hid (X1.out.on hb)
  clear hb cx0 cx1 cx2 cx3 cx4 cx5
  obtain ⟨cx0,cx1,cx2,cx3,cx4,cx5⟩ := X2.out.cs6
  cases r2
  ·go_wp2_with fail
   go_ret
   exact ⟨by rw [RS.out]; rfl,B2.out⟩
  ·go_wp2_with fail
   refine (C3.out _ B2.out).mono ?_
   rintro e3 W3 ⟨rfl,hb⟩
   have B3 := Lib.hid (B2.out.trans (hb.mono B2.out.size))
   have X3 := Lib.hid (X2.out.on hb)
   clear hb cx0 cx1 cx2 cx3 cx4 cx5
   obtain ⟨cx0,cx1,cx2,cx3,cx4,cx5⟩ := X3.out.cs6
   cases r3
   ·go_wp2_with fail
    go_ret
    exact ⟨by rw [RS.out]; rfl,B3.out⟩
   ·go_wp2_with fail
    refine (C4.out _ B3.out).mono ?_
    rintro e4 W4 ⟨rfl,hb⟩
    have B4 := Lib.hid (B3.out.trans (hb.mono B3.out.size))
    have X4 := Lib.hid (X3.out.on hb)
    clear hb cx0 cx1 cx2 cx3 cx4 cx5
    obtain ⟨cx0,cx1,cx2,cx3,cx4,cx5⟩ := X4.out.cs6
    cases r4
    ·go_wp2_with fail
     go_ret
     exact ⟨by rw [RS.out]; rfl,B4.out⟩
    ·go_wp2_with fail
     refine (C5.out _ B4.out).mono ?_
     rintro e5 W5 ⟨rfl,hb⟩
     have B5 := Lib.hid (B4.out.trans (hb.mono B4.out.size))
     have X5 := Lib.hid (X4.out.on hb)
     clear hb cx0 cx1 cx2 cx3 cx4 cx5
     obtain ⟨cx0,cx1,cx2,cx3,cx4,cx5⟩ := X5.out.cs6
     cases r5
     ·go_wp2_with fail
      go_ret
      exact ⟨by rw [RS.out]; rfl,B5.out⟩
     ·go_wp2_with fail
      refine (C6.out (by trivial) (by trivial) _ B5.out X5.out).mono ?_
      rintro e6 W6 ⟨rfl,hb⟩
      have B6 := Lib.hid (B5.out.trans (hb.mono B5.out.size))
      have X6 := Lib.hid (X5.out.on hb)
      clear hb cx0 cx1 cx2 cx3 cx4 cx5
      obtain ⟨cx0,cx1,cx2,cx3,cx4,cx5⟩ := X6.out.cs6
      cases r6
      ·go_wp2_with fail
       go_ret
       exact ⟨by rw [RS.out]; rfl,B6.out⟩
      ·go_wp2_with fail
       refine (C7.out (by trivial) (by trivial) _ B6.out X6.out).mono ?_
       rintro e7 W7 ⟨rfl,hb⟩
       have B7 := Lib.hid (B6.out.trans (hb.mono B6.out.size))
       have X7 := Lib.hid (X6.out.on hb)
       clear hb cx0 cx1 cx2 cx3 cx4 cx5
       obtain ⟨cx0,cx1,cx2,cx3,cx4,cx5⟩ := X7.out.cs6
       cases r7
       ·go_wp2_with fail
        go_ret
        exact ⟨by rw [RS.out]; rfl,B7.out⟩
       ·go_wp2_with fail
        refine (C8.out _ B7.out).mono ?_
        rintro e8 W8 ⟨rfl,hb⟩
        have B8 := Lib.hid (B7.out.trans (hb.mono B7.out.size))
        clear hb cx0 cx1 cx2 cx3 cx4 cx5
        go_wp2_with fail
        go_ret
        exact ⟨by rw [RS.out]; rfl,B8.out⟩
theorem riseB_of {α : Type} {c : α → α → Int} : ∀ {l : List α},(l.Pairwise fun x y => c x y < 0) → riseB c l = true
 | [],_ => rfl
 | [_],_ => rfl
 | x :: y :: l,h => by
  have h1 := List.pairwise_cons.1 h
  unfold riseB
  rw [decide_eq_true (h1.1 y (by simp)),Bool.true_and]
  exact riseB_of h1.2
theorem cmpI_tr (x y z : Int) (h1 : cmpI x y < 0) (h2 : cmpI y z < 0) : cmpI x z < 0 := by rw [cmpI_neg] at *; omega
theorem cEn_neg (a b : En) : cEn a b < 0 ↔ (lessI a.tree b.tree = true ∨ (a.tree = b.tree ∧ lessI a.sub b.sub = true)) := by
 unfold cEn orI
 by_cases h : cmpJ a.tree b.tree = 0
 ·rw [if_pos h,cmpJ_neg]
  have e := (cmpJ_zero _ _).1 h
  constructor
  ·exact fun q => Or.inr ⟨e,q⟩
  ·rintro (q | ⟨_,q⟩)
   ·rw [e,lessI_irr] at q; cases q
   ·exact q
 ·rw [if_neg h,cmpJ_neg]
  constructor
  ·exact Or.inl
  ·rintro (q | ⟨q,_⟩)
   ·exact q
   ·exact absurd ((cmpJ_zero _ _).2 q) h
theorem cEn_tr (x y z : En) (h1 : cEn x y < 0) (h2 : cEn y z < 0) : cEn x z < 0 := by
 rw [cEn_neg] at *
 rcases h1 with h1 | ⟨e1,h1⟩ <;> rcases h2 with h2 | ⟨e2,h2⟩
 ·exact Or.inl (lessI_trans h1 h2)
 ·exact Or.inl (by rw [← e2]; exact h1)
 ·exact Or.inl (by rw [e1]; exact h2)
 ·exact Or.inr ⟨e1.trans e2,lessI_trans h1 h2⟩
structure OkBr (b : Br) : Prop where
 near : b.near.Pairwise (· < ·)
 seen : RiseI b.seen
 adv : RiseA b.adv
 ent : b.ent.Pairwise fun x y => cEn x y < 0
 own : RiseK Ow.id b.own
 oks : ∀ a ∈ b.adv,a.id ∈ b.seen ∧ comesB b.near a.par = true ∧ Wr.rightP a.p = true
 oke : ∀ e ∈ b.ent,okEn b e = true
 oko : ∀ o ∈ b.own,Wr.rightP o.p = true
theorem okBr_iff (b : Br) : okBr b = true ↔ OkBr b := by
 unfold okBr
 simp only [Bool.and_eq_true,List.all_eq_true]
 constructor
 ·rintro ⟨h1,h2,h3,h4,h5,h6,h7,h8⟩
  refine ⟨(riseB_pair cmpI_tr h1).imp fun {a b} q => (cmpI_neg a b).1 q,seen_rise h2,adv_rise h3,riseB_pair cEn_tr h4,(riseB_pair (fun x y z => cmpJ_tr x.id y.id z.id) h5).imp fun {a b} q => cmpJ_lt.1 q,fun a ha => ?_,h7,h8⟩
  have := h6 a ha
  unfold okAd at this
  simp only [Bool.and_eq_true,decide_eq_true_eq] at this
  exact this
 ·rintro ⟨h1,h2,h3,h4,h5,h6,h7,h8⟩
  refine ⟨riseB_of (h1.imp fun {a b} q => (cmpI_neg a b).2 q),riseB_of (h2.imp fun {a b} q => cmpJ_lt.2 q),riseB_of (h3.imp fun {a b} q => cmpJ_lt.2 q),riseB_of h4,riseB_of (h5.imp fun {a b} q => cmpJ_lt.2 q),fun a ha => ?_,h7,h8⟩
  unfold okAd
  simp only [Bool.and_eq_true,decide_eq_true_eq]
  exact h6 a ha
theorem mem_ins {α : Type} (l : List α) (k : Nat) (x y : α) : y ∈ insAt l k x ↔ y = x ∨ y ∈ l := by
 unfold insAt
 rw [List.mem_append,List.mem_append,List.mem_singleton]
 conv => rhs; rw [← List.take_append_drop k l,List.mem_append]
 constructor
 ·rintro ((h | h) | h)
  ·exact Or.inr (Or.inl h)
  ·exact Or.inl h
  ·exact Or.inr (Or.inr h)
 ·rintro (h | h | h)
  ·exact Or.inl (Or.inr h)
  ·exact Or.inl (Or.inl h)
  ·exact Or.inr h
theorem place_lo {α : Type} (key : α → XID) : ∀ (l : List α) (x : XID),∀ y ∈ l.take (placeK key l x),lessI (key y) x = true
 | [],_,y,h => by simp at h
 | a :: l,x,y,h => by
  unfold placeK at h
  by_cases ha : lessI (key a) x = true
  ·simp only [List.takeWhile_cons,ha,if_true,List.length_cons,List.take_succ_cons,List.mem_cons] at h
   rcases h with rfl | h
   ·exact ha
   ·exact place_lo key l x y h
  ·simp [ha] at h
theorem place_hi {α : Type} {key : α → XID} : ∀ {l : List α} (_ : RiseK key l) (x : XID) (_ : ∀ y ∈ l,key y ≠ x),∀ y ∈ l.drop (placeK key l x),lessI x (key y) = true
 | [],_,_,_,y,h => by simp at h
 | a :: l,hr,x,hn,y,h => by
  unfold placeK at h
  have hr' := List.pairwise_cons.1 hr
  by_cases ha : lessI (key a) x = true
  ·simp only [List.takeWhile_cons,ha,if_true,List.length_cons,List.drop_succ_cons] at h
   exact place_hi hr'.2 x (fun y hy => hn y (List.mem_cons_of_mem _ hy)) y h
  ·simp [ha] at h
   have hax : lessI x (key a) = true := by
    rcases lessI_total (key a) x with q | q | q
    ·exact absurd q ha
    ·exact absurd q (hn a (by simp))
    ·exact q
   rcases h with rfl | h
   ·exact hax
   ·exact lessI_trans hax (hr'.1 y h)
theorem ins_rise {α : Type} {key : α → XID} {l : List α} (hr : RiseK key l) (x : α) (hn : ∀ y ∈ l,key y ≠ key x) : RiseK key (insAt l (placeK key l (key x)) x) := by
 unfold insAt
 have h1 : RiseK key (l.take (placeK key l (key x))) := hr.sublist (List.take_sublist _ _)
 have h2 : RiseK key (l.drop (placeK key l (key x))) := hr.sublist (List.drop_sublist _ _)
 have lo := place_lo key l (key x)
 have hi := place_hi hr (key x) hn
 unfold RiseK at *
 rw [List.append_assoc,List.pairwise_append]
 refine ⟨h1,?_,fun a ha b hb => ?_⟩
 ·rw [List.singleton_append,List.pairwise_cons]
  exact ⟨fun b hb => hi b hb,h2⟩
 ·rw [List.singleton_append,List.mem_cons] at hb
  rcases hb with rfl | hb
  ·exact lo a ha
  ·exact lessI_trans (lo a ha) (hi b hb)
theorem findA_some {l : List Ad} {x : XID} {a : Ad} (h : findA l x = some a) : a ∈ l ∧ a.id = x := by
 unfold findA at h
 exact ⟨List.mem_of_find?_eq_some h,by simpa using List.find?_some h⟩
theorem findA_uniq {l : List Ad} (hr : RiseA l) {a : Ad} (ha : a ∈ l) : findA l a.id = some a := by
 obtain ⟨k,hk⟩ := List.mem_iff_getElem?.1 ha
 refine findA_at hk rfl fun j z hj hz e => ?_
 have := riseK_lt hr hj hz hk
 rw [e,lessI_irr] at this
 cases this
theorem findA_of {l m : List Ad} (hl : RiseA l) (hm : RiseA m) {x : XID} (h : ∀ a,a.id = x → (a ∈ l ↔ a ∈ m)) : findA l x = findA m x := by
 cases h1 : findA l x with
 | none =>
  cases h2 : findA m x with
  | none => rfl
  | some a =>
   obtain ⟨q1,q2⟩ := findA_some h2
   have := findA_uniq hl ((h a q2).2 q1)
   rw [q2,h1] at this
   cases this
 | some a =>
  obtain ⟨q1,q2⟩ := findA_some h1
  have := findA_uniq hm ((h a q2).1 q1)
  rw [q2] at this
  exact this.symm
theorem okEn_of {b c : Br} {e : En} (hn : c.near = b.near) (hf : findA c.adv e.tree = findA b.adv e.tree) (h : okEn b e = true) : okEn c e = true := by
 unfold okEn at *
 rw [hf,hn]
 exact h
theorem learn_ok {b : Br} (h : OkBr b) (a : Ad) (hp : comesB b.near a.par = true) (hq : Wr.rightP a.p = true) : OkBr (learnB b a).1 := by
 by_cases hin : a.id ∈ b.seen
 ·rw [learnB_in hin]; exact h
 ·rw [learnB_out hin]
  have hna : ∀ y ∈ b.adv,y.id ≠ a.id := fun y hy e => hin (by rw [← e]; exact (h.oks y hy).1)
  have hns : ∀ y ∈ b.seen,y ≠ a.id := fun y hy e => hin (by rw [← e]; exact hy)
  have ra : RiseA (insAt b.adv (placeI (b.adv.map Ad.id) a.id) a) := by
   rw [← placeK_map]
   exact ins_rise h.adv a hna
  have rs : RiseI (insAt b.seen (placeI b.seen a.id) a.id) := by
   have := ins_rise (key := fun x : XID => x) h.seen a.id hns
   rw [placeK_map,List.map_id'] at this
   exact this
  refine ⟨h.near,rs,ra,h.ent,h.own,fun y hy => ?_,fun e he => ?_,h.oko⟩
  ·rcases (mem_ins _ _ _ _).1 hy with rfl | hy
   ·exact ⟨(mem_ins _ _ _ _).2 (Or.inl rfl),hp,hq⟩
   ·exact ⟨(mem_ins _ _ _ _).2 (Or.inr (h.oks y hy).1),(h.oks y hy).2⟩
  ·refine okEn_of (b := b) rfl (findA_of ra h.adv fun y hy => ?_) (h.oke e he)
   rw [mem_ins]
   refine ⟨fun q => q.resolve_left fun e2 => ?_,Or.inr⟩
   have hk := h.oke e he
   unfold okEn at hk
   cases hf : findA b.adv e.tree with
   | none => rw [hf] at hk; cases hk
   | some z =>
    obtain ⟨z1,z2⟩ := findA_some hf
    exact hna z z1 (by rw [z2,← hy,e2])
theorem forget_ok {b : Br} (h : OkBr b) (x : XID) (f : Int) : OkBr (forgetF b x f).1 := by
 unfold forgetF
 cases findA b.adv x with
 | none => exact h
 | some a =>
  simp only
  split
  ·have ra : RiseA (b.adv.filter fun e => decide (e.id ≠ x)) := h.adv.sublist List.filter_sublist
   refine ⟨h.near,h.seen,ra,h.ent.sublist List.filter_sublist,h.own,fun y hy => h.oks y ((List.mem_filter.1 hy).1),fun e he => ?_,h.oko⟩
   have ht : e.tree ≠ x := of_decide_eq_true (List.mem_filter.1 he).2
   refine okEn_of (b := b) rfl (findA_of ra h.adv fun y hy => ?_) (h.oke e (List.mem_filter.1 he).1)
   rw [List.mem_filter]
   exact ⟨fun q => q.1,fun q => ⟨q,decide_eq_true (by rw [hy]; exact ht)⟩⟩
  ·exact h
end Go.Proofs.YtncogjpmboglhaaGreat.Av
namespace Go.Proofs.YtncogjpmboglhaaGreat.Av
open Go.RowKit Rw YtncogjpmboglhaaGreat.Nm Pr Wr
theorem one_r5 (c : Cn) (h : goodC c = true) : oneB (r5 c) = true := by
 obtain ⟨n,k⟩ := c
 unfold goodC at h
 rw [Bool.and_eq_true] at h
 obtain ⟨h1,h2⟩ := h
 have h1' : At.nameB n = true := h1
 cases k with
 | rg lo hi =>
  have h3 : lo ≤ hi := by simpa [goodK] using h2
  have h0 : (⟨#[]⟩ : ByteArray).size = 0 := rfl
  simp [r5,oneB,kN,kLo,kHi,kT,h1',h3,h0]
 | tx t =>
  have h3 : t.size ≤ 12 := by simpa [goodK] using h2
  simp [r5,oneB,kN,kLo,kHi,kT,h1',h3]
 | pr t =>
  have h3 : t.size < 12 := by simpa [goodK] using h2
  have h4 : t.size ≤ 11 := by omega
  simp [r5,oneB,kN,kLo,kHi,kT,h1',h4]
theorem rightP_rise (l : List C5) (h1 : l.Pairwise fun x y => Op.bytesLess x.1.toList y.1.toList = true) (h2 : l.length ≤ 5) (h3 : ∀ c ∈ l,oneB c = true) : rightP l = true := by
 rw [rightP_end l fun j hj => ?_]
 ·simpa using h2
 unfold goodP
 rw [List.getElem?_eq_getElem hj]
 simp only [Bool.and_eq_true]
 refine ⟨h3 _ (List.getElem_mem hj),?_⟩
 cases j with
 | zero => rfl
 | succ j =>
  rw [Bool.or_eq_true]
  right
  rw [Nat.add_sub_cancel,List.getElem?_eq_getElem (by omega)]
  exact List.pairwise_iff_getElem.1 h1 j (j + 1) (by omega) hj (by omega)
theorem prd_right5 (has vals : List Int) : rightP ((prd has vals 7).map r5) = true := by
 have h := prd_nf has vals
 refine rightP_rise _ ?_ (by rw [List.length_map]; exact h.five) fun c hc => ?_
 ·rw [List.pairwise_map]
  exact h.rise
 ·obtain ⟨x,hx,rfl⟩ := List.mem_map.1 hc
  exact one_r5 x (h.good x hx)
theorem one_size {c : C5} (h : oneB c = true) : c.1.size ≤ 12 ∧ c.2.2.2.2.size ≤ 12 := by
 unfold oneB At.nameB at h
 simp only [Bool.and_eq_true,decide_eq_true_eq] at h
 refine ⟨h.1.2.2,?_⟩
 have h2 := h.2
 split at h2
 ·simp only [Bool.and_eq_true,decide_eq_true_eq] at h2; omega
 ·split at h2
  ·simp only [Bool.and_eq_true,decide_eq_true_eq] at h2; omega
  ·split at h2
   ·simp only [Bool.and_eq_true,decide_eq_true_eq] at h2; omega
   ·cases h2
theorem tame_right {l : List C5} (h : rightP l = true) : Tame l := fun x hx => by
 unfold rightP at h
 rw [Bool.and_eq_true,List.all_eq_true] at h
 obtain ⟨j,hj,rfl⟩ := List.getElem_of_mem hx
 have h1 := h.1 j (List.mem_range.2 hj)
 unfold goodP at h1
 rw [List.getElem?_eq_getElem hj] at h1
 simp only [Bool.and_eq_true] at h1
 have h2 := one_size h1.1
 have h3 : 12 ≤ maxLen := by decide
 exact ⟨Nat.le_trans h2.1 h3,Nat.le_trans h2.2 h3⟩
end Go.Proofs.YtncogjpmboglhaaGreat.Av
namespace Go.Proofs.YtncogjpmboglhaaGreat.Av
open Go.RowKit Go.Sort Rw YtncogjpmboglhaaGreat.Nm Pr Bk
theorem insAt_len {α : Type} (l : List α) (k : Nat) (x : α) : (insAt l k x).length = l.length + 1 := by
 unfold insAt
 simp only [List.length_append,List.length_cons,List.length_nil,List.length_take,List.length_drop]
 omega
theorem FewP.pa {b : Br} (h : FewP b) : ∀ p,(∃ x ∈ b.adv,x.p = p) ∨ (∃ x ∈ b.ent,x.p = p) ∨ (∃ x ∈ b.own,x.p = p) → p.length ≤ 1000000 := by
 rintro p (⟨x,hx,rfl⟩ | ⟨x,hx,rfl⟩ | ⟨x,hx,rfl⟩)
 ·exact Nat.le_trans (h.adv x hx) (by decide)
 ·exact Nat.le_trans (h.ent x hx) (by decide)
 ·exact Nat.le_trans (h.own x hx) (by decide)
theorem same_self (b : Br) : sameBr b b = true := (sameBr_iff b b).2 rfl
end Go.Proofs.YtncogjpmboglhaaGreat.Av
