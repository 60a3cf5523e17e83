/-
  copyEntry of package subs: the same in new memory. Conditions as told.
-/
import Derived.Test.YtncogjpmboglhaaGreatG010
import Derived.Test.YtncogjpmboglhaaGreatG023
import Derived.Test.YtncogjpmboglhaaGreatG014
import Derived.Test.YtncogjpmboglhaaGreatG013
import Derived.Test.YtncogjpmboglhaaGreatG008
import Derived.Test.YtncogjpmboglhaaGreatG004
set_option maxRecDepth 100000
set_option maxHeartbeats 64000000
namespace Go.Proofs.YtncogjpmboglhaaGreat.Sb
open Go.RowKit Go.Sort Rw YtncogjpmboglhaaGreat.Nm Pr Bk Av
abbrev setE (W : World) (b : Nat) (a0 a1 a2 a3 a4 a5 a6 : Value) : World := ((((((W.setCell ⟨b,0,none⟩ a0).setCell ⟨b,1,none⟩ a1).setCell ⟨b,2,none⟩ a2).setCell ⟨b,3,none⟩ a3).setCell ⟨b,4,none⟩ a4).setCell ⟨b,5,none⟩ a5).setCell ⟨b,6,none⟩ a6
theorem setE_box {W : World} {b : Nat} {t : TypeId} {z0 z1 z2 z3 z4 z5 z6 : Value} (h : Box W b #[z0,z1,z2,z3,z4,z5,z6] t) (a0 a1 a2 a3 a4 a5 a6 : Value) : Box (setE W b a0 a1 a2 a3 a4 a5 a6) b #[a0,a1,a2,a3,a4,a5,a6] t := by
 have h2 := box_set (k := 6) (box_set (k := 5) (box_set (k := 4) (box_set (k := 3) (box_set (k := 2) (box_set (k := 1) (box_set (k := 0) h a0) a1) a2) a3) a4) a5) a6
 simpa using h2
theorem setE_below {B : Nat} {W0 W : World} {b : Nat} (h : Below B W0 W) (hb : B ≤ b) (a0 a1 a2 a3 a4 a5 a6 : Value) : Below B W0 (setE W b a0 a1 a2 a3 a4 a5 a6) := (((((((h).setCell (p := ⟨b,0,none⟩) hb a0).setCell (p := ⟨b,1,none⟩) hb a1).setCell (p := ⟨b,2,none⟩) hb a2).setCell (p := ⟨b,3,none⟩) hb a3).setCell (p := ⟨b,4,none⟩) hb a4).setCell (p := ⟨b,5,none⟩) hb a5).setCell (p := ⟨b,6,none⟩) hb a6
theorem setE_own {α : Type} {E : Ek α} {W : World} {B : Nat} {v : Value} {l : List α} (h : Own E W B v l) (b : Nat) (hb : b < B) (a0 a1 a2 a3 a4 a5 a6 : Value) : Own E (setE W b a0 a1 a2 a3 a4 a5 a6) B v l :=
 own_cell (own_cell (own_cell (own_cell (own_cell (own_cell (own_cell (h) b 0 a0 hb) b 1 a1 hb) b 2 a2 hb) b 3 a3 hb) b 4 a4 hb) b 5 a5 hb) b 6 a6 hb
theorem but_setE (w : World) (b : Nat) (a0 a1 a2 a3 a4 a5 a6 : Value) : But b w (setE w b a0 a1 a2 a3 a4 a5 a6) :=
 ((((((but_cell _ b _ _).trans (but_cell _ b _ _)).trans (but_cell _ b _ _)).trans (but_cell _ b _ _)).trans (but_cell _ b _ _)).trans (but_cell _ b _ _)).trans (but_cell _ b _ _)
theorem cpE_any (x : XEn) (p : List C5) (w : World) (hp : RowC w (slv x.2.2.2.2.1) p) (hl : p.length ≤ 900) :
  Calls Tryz.prog 75 #[valN x] w fun e w' => (∃ v' : Sl,e = .returned (valN (x.1,x.2.1,x.2.2.1,x.2.2.2.1,v',x.2.2.2.2.2.1,x.2.2.2.2.2.2)) ∧ OwnC w' w.heap.size (slv v') p) ∧ Below w.heap.size w w' := by
 obtain ⟨y1,y2,y3,y4,⟨s1,s2,s3⟩,y6,y7⟩ := x
 obtain ⟨h0,X,Y⟩ := two_new w #[.int .i64 y1,.int .i64 y2,.int .i64 y3,.int .i64 y4,.slice s1 s2 s3,.int .i64 y6,.bool y7] #[.int .i64 0,.int .i64 0,.int .i64 0,.int .i64 0,.slice none 0 0,.int .i64 0,.bool false] 43 43
 have C := Lib.hid (cloneC_any (s1,s2,s3) p _ (hp.on h0) hl)
 have B := Lib.hid h0
 have x4 := X.cell 4
 simp only [List.getElem?_toArray,List.getElem?_cons_zero,List.getElem?_cons_succ] at x4
 have X := Lib.hid X
 have Y := Lib.hid Y
 clear h0 hp hl
 go_enter Tryz.func75,Tryz.ntmps75
 go_wp2_with fail
 generalize (w.alloc (.cells #[.int .i64 y1,.int .i64 y2,.int .i64 y3,.int .i64 y4,.slice s1 s2 s3,.int .i64 y6,.bool y7] 43)).alloc (.cells #[.int .i64 0,.int .i64 0,.int .i64 0,.int .i64 0,.slice none 0 0,.int .i64 0,.bool false] 43) = W at *
 refine C.out.mono ?_
 rintro e w1 ⟨⟨⟨u1,u2,u3⟩,rfl,ho⟩,hb⟩
 have X1 := X.out.on hb
 have Y1 := Y.out.on hb
 have hs : w.heap.size < W.heap.size := X.out.lt
 have O1 := Lib.hid (own_cell ho w.heap.size 4 (.slice u1 u2 u3) hs)
 have XB := Lib.hid (show Box _ _ #[.int .i64 y1,.int .i64 y2,.int .i64 y3,.int .i64 y4,.slice u1 u2 u3,.int .i64 y6,.bool y7] _ from by simpa using box_set (k := 4) X1 (.slice u1 u2 u3))
 have YB := Lib.hid (show Box _ _ _ _ from (RowKit.Below.heap_setCell w1 ⟨w.heap.size,4,none⟩ (.slice u1 u2 u3) _ (show w.heap.size + 1 ≠ w.heap.size by omega)).trans Y1)
 have B1 := Lib.hid ((B.out.trans (hb.mono B.out.size)).setCell (p := ⟨w.heap.size,4,none⟩) (Nat.le_refl _) (.slice u1 u2 u3))
 have y4' := X1.cell 4
 have f4 := X1.fr 4
 have z4 := X1.lt
 simp only [List.getElem?_toArray,List.getElem?_cons_zero,List.getElem?_cons_succ] at y4'
 clear X1 Y1 ho hb x4 C
 go_upto_region 2 with fail
 clear y4' f4 z4
 generalize w1.setCell ⟨w.heap.size,4,none⟩ (.slice u1 u2 u3) = w2 at *
 obtain ⟨x0,x1,x2,x3,x4,x5,x6⟩ := XB.out.cs7
 obtain ⟨r0,r1,r2,r3,r4,r5,r6⟩ := YB.out.cs7
 obtain ⟨t0,t1,t2,t3,t4,t5,t6⟩ := YB.out.fs7
 have zz := YB.out.lt
 have hs2 : w.heap.size + 1 < W.heap.size := Y.out.lt
 have FB := Lib.hid (setE_box YB.out (.int .i64 y1) (.int .i64 y2) (.int .i64 y3) (.int .i64 y4) (.slice u1 u2 u3) (.int .i64 y6) (.bool y7))
 have BL := Lib.hid (setE_below (b := w.heap.size + 1) B1.out (by omega) (.int .i64 y1) (.int .i64 y2) (.int .i64 y3) (.int .i64 y4) (.slice u1 u2 u3) (.int .i64 y6) (.bool y7))
 have FO := Lib.hid (setE_own O1.out (w.heap.size + 1) hs2 (.int .i64 y1) (.int .i64 y2) (.int .i64 y3) (.int .i64 y4) (.slice u1 u2 u3) (.int .i64 y6) (.bool y7))
 have HS := Lib.hid hs
 clear hs hs2
 go_wp2_with fail
 obtain ⟨v0,v1,v2,v3,v4,v5,v6⟩ := FB.out.cs7
 refine bodyPost_ret (v := .agg #[.int .i64 y1,.int .i64 y2,.int .i64 y3,.int .i64 y4,.slice u1 u2 u3,.int .i64 y6,.bool y7]) (by simp [results,Tryz.results75,go_sem,v0,v1,v2,v3,v4,v5,v6]) rfl ?_
 exact ⟨⟨(u1,u2,u3),rfl,own_fewer FO.out (Nat.le_of_lt HS.out)⟩,BL.out⟩
end Go.Proofs.YtncogjpmboglhaaGreat.Sb
namespace Go.Proofs.YtncogjpmboglhaaGreat.Bk
open Go.RowKit Go.Sort Rw YtncogjpmboglhaaGreat.Nm Pr
open Av
theorem rtake_any (b : Br) (nv av sv ev ov : Sl) (x s : Id) (f : Int) (w : World) (h : BrIn w b nv av sv ev ov) (l3 : b.ent.length ≤ 900) (hok : ∀ e ∈ b.ent,PredOk e.p) :
  Calls Tryz.prog 19 #[brv b.me nv av sv ev ov,idv x,idv s,.int .i64 f] w fun e w' => (∃ ev' lo : Sl,e = .returned (.tuple #[brv b.me nv av sv ev' ov,slv lo,.bool (takeB b x s f).2.2]) ∧ BrIn w' (takeB b x s f).1 nv av sv ev' ov ∧ ∃ xs,RowN w' (slv lo) xs ∧ All2 (EnIn w') xs (takeB b x s f).2.1) ∧ Below w.heap.size w w' := by
 obtain ⟨no,nn,nc⟩ := nv
 obtain ⟨ao,an,ac⟩ := av
 obtain ⟨so,sn,sc⟩ := sv
 obtain ⟨eo,en,ec⟩ := ev
 obtain ⟨oo,on_,oc⟩ := ov
 obtain ⟨c,d⟩ := x
 obtain ⟨c2,d2⟩ := s
 obtain ⟨es,he1,he2⟩ := h.ent
 have KYS := Lib.hid (keys_eq he2)
 have EL := Lib.hid (show es.length ≤ 900 by rw [he2.len]; exact l3)
 have HE2 := Lib.hid he2
 have OK := Lib.hid hok
 obtain ⟨q1,q2,hq⟩ := he1.len
 obtain ⟨rfl,rfl,rfl⟩ : eo = q1 ∧ en = es.length ∧ ec = q2 := by
  have : Value.slice eo en ec = .slice q1 es.length q2 := hq
  simpa using this
 have EY := rentry_any b.me (.slice no nn nc) (.slice ao an ac) (.slice so sn sc) (.slice oo on_ oc) (eo,es.length,ec) es (c,d) (c2,d2)
 have HH := Lib.hid h
 obtain ⟨h0,h1,h2,h3,h4⟩ := four_new w #[.int .i64 b.me,.slice no nn nc,.slice ao an ac,.slice so sn sc,.slice eo es.length ec,.slice oo on_ oc] #[.int .i64 c,.int .i64 d] #[.int .i64 c2,.int .i64 d2] #[.int .i64 0,.slice none 0 0,.slice none 0 0,.slice none 0 0,.slice none 0 0,.slice none 0 0] 31 38 38 31
 obtain ⟨n3,hn3⟩ : ∃ n,n = es.length := ⟨_,rfl⟩
 simp only [← hn3] at h0 h1 h2 h3 h4 he1 HH EY ⊢
 obtain ⟨me,hme⟩ : ∃ me,me = b.me := ⟨_,rfl⟩
 simp only [← hme] at h0 h1 h2 h3 h4 EY ⊢
 have N3 := Lib.hid hn3
 have GB_1 := Lib.hid (h0)
 have X4_2 := Lib.hid (h1)
 have X5_3 := Lib.hid (h2)
 have X6_4 := Lib.hid (h3)
 have X8_5 := Lib.hid (h4)
 have HE_6 := Lib.hid (he1.on h0)
 have HEW := Lib.hid he1
 clear h0 h1 h2 h3 h4 he1 he2 h hq hn3 l3 hme hok
 go_enter Tryz.func19,Tryz.ntmps19
 go_upto_region 1 with fail
 generalize ((((w.alloc (.cells #[.int .i64 me,.slice no nn nc,.slice ao an ac,.slice so sn sc,.slice eo n3 ec,.slice oo on_ oc] 31)).alloc (.cells #[.int .i64 c,.int .i64 d] 38)).alloc (.cells #[.int .i64 c2,.int .i64 d2] 38)).alloc (.cells #[.int .i64 0,.slice none 0 0,.slice none 0 0,.slice none 0 0,.slice none 0 0,.slice none 0 0] 31)) = W at *
 have SW := Lib.hid (EY W HE_6.out)
 clear EY
 obtain ⟨x0,x1,x2,x3,x4,x5⟩ := X4_2.out.cs6
 obtain ⟨y0,y1⟩ := X5_3.out.cs2
 obtain ⟨z0,z1⟩ := X6_4.out.cs2
 rcases findK_or (es.map keyN) ((c,d),(c2,d2)) with hf | ⟨k,hf,hkk⟩
 ·have LB := Lib.hid (show takeB b (c,d) (c2,d2) f = (b,[],false) by
   have hf2 := hf
   rw [KYS.out] at hf2
   unfold takeB
   rw [hf2]
   split
   ·rfl
   ·rw [if_pos rfl])
  rw [hf] at SW
  clear hf
  go_wp2_with fail
  refine SW.out.mono ?_
  rintro e1 w1 ⟨rfl,hb⟩
  clear SW
  clear x0 x1 x2 x3 x4 x5 y0 y1 z0 z1
  have GB_7 := Lib.hid (GB_1.out.trans (hb.mono GB_1.out.size))
  have X4_7 := Lib.hid (X4_2.out.on hb)
  have X5_7 := Lib.hid (X5_3.out.on hb)
  have X6_7 := Lib.hid (X6_4.out.on hb)
  have X8_7 := Lib.hid (X8_5.out.on hb)
  have HE_7 := Lib.hid (HE_6.out.on hb)
  clear GB_1 X4_2 X5_3 X6_4 X8_5 HE_6
  clear hb
  obtain ⟨x0,x1,x2,x3,x4,x5⟩ := X4_7.out.cs6
  obtain ⟨r0,r1,r2,r3,r4,r5⟩ := X8_7.out.cs6
  obtain ⟨rf0,rf1,rf2,rf3,rf4,rf5⟩ := X8_7.out.fs6
  have zz := X8_7.out.lt
  have FB := Lib.hid (setB_box X8_7.out (.int .i64 me) (.slice no nn nc) (.slice ao an ac) (.slice so sn sc) (.slice eo n3 ec) (.slice oo on_ oc))
  have BL := Lib.hid (setB_below (b := w.heap.size + 1 + 1 + 1) GB_7.out (by omega) (.int .i64 me) (.slice no nn nc) (.slice ao an ac) (.slice so sn sc) (.slice eo n3 ec) (.slice oo on_ oc))
  go_wp2_with fail
  obtain ⟨v0,v1,v2,v3,v4,v5⟩ := FB.out.cs6
  refine bodyPost_ret (v := .tuple #[.agg #[.int .i64 me,.slice no nn nc,.slice ao an ac,.slice so sn sc,.slice eo n3 ec,.slice oo on_ oc],.slice none 0 0,.bool false]) (by simp [results,Tryz.results19,go_sem,v0,v1,v2,v3,v4,v5]) rfl ?_
  rw [LB.out]
  exact ⟨⟨(eo,n3,ec),(none,0,0),rfl,HH.out.on BL.out,[],row_nil _,.nil⟩,BL.out⟩
 ·rw [hf] at SW
  have hk : k < es.length := by have := (List.getElem?_eq_some_iff.1 hkk).1; simpa using this
  obtain ⟨y,hy⟩ : ∃ y,es[k]? = some y := ⟨_,List.getElem?_eq_getElem hk⟩
  obtain ⟨e0,he0⟩ : ∃ e,b.ent[k]? = some e := ⟨_,List.getElem?_eq_getElem (by rw [← HE2.out.len]; exact hk)⟩
  obtain ⟨y_,hy_,hye⟩ := HE2.out.at k e0 he0
  obtain rfl : y = y_ := Option.some.inj (hy.symm.trans hy_)
  have hkn : k < n3 := by rw [N3.out]; exact hk
  have LB := Lib.hid (show takeB b (c,d) (c2,d2) f = if e0.from_ ≠ f then (b,[],false) else if e0.up = false then ({ b with ent := cutAt b.ent k },[],false) else ({ b with ent := (takeK (c,d) (cutAt b.ent k) (cutAt b.ent k).length).1 },(takeK (c,d) (cutAt b.ent k) (cutAt b.ent k).length).2,true) by
   have hf2 := hf
   rw [KYS.out] at hf2
   unfold takeB
   rw [hf2,Int.toNat_natCast,he0]
   simp only
   rw [if_neg (by omega)])
  obtain ⟨p,ix,px⟩ := elN HE_6.out rfl N3.out.symm hy
  obtain ⟨t1,t2,t3,t4,⟨po,pn,pc⟩,fr,up⟩ := y
  obtain ⟨hl1,hl2,hfr,hup,hl5⟩ := hye
  simp only at hfr hup
  rw [← hfr,← hup] at LB
  clear hfr hup hl1 hl2 hl5 hy_ he0 e0
  have hik : decide ((k : Int) < 0) = false := decide_eq_false (by omega)
  have XL := EL.out
  go_wp2_with fail
  refine SW.out.mono ?_
  rintro e1 w1 ⟨rfl,hb⟩
  have px2 := px w1 hb
  obtain ⟨p0,p1,p2,p3,p4,p5,p6⟩ := px2
  clear SW px
  clear x0 x1 x2 x3 x4 x5 y0 y1 z0 z1
  have GB_7 := Lib.hid (GB_1.out.trans (hb.mono GB_1.out.size))
  have X4_7 := Lib.hid (X4_2.out.on hb)
  have X5_7 := Lib.hid (X5_3.out.on hb)
  have X6_7 := Lib.hid (X6_4.out.on hb)
  have X8_7 := Lib.hid (X8_5.out.on hb)
  have HE_7 := Lib.hid (HE_6.out.on hb)
  clear GB_1 X4_2 X5_3 X6_4 X8_5 HE_6
  clear hb hf
  by_cases hpf : fr = f
  ·rw [if_neg (by simp [hpf])] at LB
   have hne : (fr != f) = false := by simp [hpf]
   obtain ⟨x0,x1,x2,x3,x4,x5⟩ := X4_7.out.cs6
   obtain ⟨r0,r1,r2,r3,r4,r5⟩ := X8_7.out.cs6
   obtain ⟨rf0,rf1,rf2,rf3,rf4,rf5⟩ := X8_7.out.fs6
   have zz := X8_7.out.lt
   go_upto_region 5 with fail
   clear zz hne hik ix p0 p1 p2 p3 p4 p5 p6
   clear x0 x1 x2 x3 x4 x5 r0 r1 r2 r3 r4 r5 rf0 rf1 rf2 rf3 rf4 rf5
   refine cut5 _ w1 w.heap.size (w.heap.size + 1) me _ _ _ _ eo n3 ec k es _ _ _ _ _ _ _ _ _ _ _ _ _ _ _ _ _ _ _ _ _ _ _ _ _ _ _ _ _ _ _ _ _ _ _ _ _ _ _ _ _ _ _ _ _ _ _ _ _ _ _ _ _ _ _ _ _ _ _ _ _ _ _ _ _ _ _ _ _ _ _ _ _ _ _ _ _ _ _ _ _ _ _ _ _ _ _ _ _ _ _ _ _ _ _ _ _ _ _ _ _ X4_7.out HE_7.out (by omega) XL ?_
   intro xw v39 v40 v41 v42 v43 v44 v45 v46 v47 v48 v49 v50 v51 hbx ho hbl hoth hblk
   have CE := Lib.hid (show All2 (EnIn w) (es.take k ++ es.drop (k + 1)) (cutAt b.ent k) from (HE2.out.take k).append (HE2.out.drop (k + 1)))
   have OK2 := Lib.hid (show ∀ e ∈ cutAt b.ent k,PredOk e.p from fun e he => by
    rcases List.mem_append.1 he with h | h
    ·exact OK.out e (List.mem_of_mem_take h)
    ·exact OK.out e (List.mem_of_mem_drop h))
   have CL := Lib.hid (show (es.take k ++ es.drop (k + 1)).length ≤ 900 from by rw [List.length_append,List.length_take,List.length_drop]; omega)
   generalize es.take k ++ es.drop (k + 1) = cs at *
   obtain ⟨ea,ecc,hev⟩ := (Row.of_own ho).len
   obtain ⟨n,hn⟩ : ∃ n,n = cs.length := ⟨_,rfl⟩
   rw [← hn] at hev
   subst hev
   have N := Lib.hid hn
   clear hn
   have CN := Lib.hid (show (cutAt b.ent k).length = n from by rw [N.out,CE.out.len])
   have hcl := CN.out
   simp only [hcl] at LB
   generalize cutAt b.ent k = cb at *
   clear hcl
   have GB_8 := Lib.hid (GB_7.out.trans (hbl _ (Nat.le_refl _)))
   have X4_9 := Lib.hid (hbx)
   have X5_10 := Lib.hid (hoth _ _ _ (by omega) X5_7.out)
   have X6_11 := Lib.hid (hoth _ _ _ (by omega) X6_7.out)
   have X8_12 := Lib.hid (hoth _ _ _ (by omega) X8_7.out)
   have OE_13 := Lib.hid (own_fewer ho (show w.heap.size + 4 ≤ w1.heap.size by have := X8_7.out.lt; omega))
   have WF := Lib.hid (show w.heap.size + 4 ≤ xw.heap.size from by have := X8_12.out.lt; omega)
   clear hbx ho hbl hoth hblk GB_7 X4_7 X5_7 X6_7 X8_7 HE_7
   cases up
   ·rw [if_pos rfl] at LB
    obtain ⟨x0,x1,x2,x3,x4,x5⟩ := X4_9.out.cs6
    obtain ⟨r0,r1,r2,r3,r4,r5⟩ := X8_12.out.cs6
    obtain ⟨rf0,rf1,rf2,rf3,rf4,rf5⟩ := X8_12.out.fs6
    have zz := X8_12.out.lt
    have FB := Lib.hid (setB_box X8_12.out (.int .i64 me) (.slice no nn nc) (.slice ao an ac) (.slice so sn sc) (.slice ea n ecc) (.slice oo on_ oc))
    have BL := Lib.hid (setB_below (b := w.heap.size + 1 + 1 + 1) GB_8.out (by omega) (.int .i64 me) (.slice no nn nc) (.slice ao an ac) (.slice so sn sc) (.slice ea n ecc) (.slice oo on_ oc))
    have OE2 := Lib.hid (setB_ownA OE_13.out (w.heap.size + 1 + 1 + 1) (by omega) (.int .i64 me) (.slice no nn nc) (.slice ao an ac) (.slice so sn sc) (.slice ea n ecc) (.slice oo on_ oc))
    go_wp2_with fail
    obtain ⟨v0,v1,v2,v3,v4,v5⟩ := FB.out.cs6
    refine bodyPost_ret (v := .tuple #[.agg #[.int .i64 me,.slice no nn nc,.slice ao an ac,.slice so sn sc,.slice ea n ecc,.slice oo on_ oc],.slice none 0 0,.bool false]) (by simp [results,Tryz.results19,go_sem,v0,v1,v2,v3,v4,v5]) rfl ?_
    rw [LB.out]
    have hI := HH.out.on BL.out
    exact ⟨⟨(ea,n,ecc),(none,0,0),rfl,⟨hI.near,hI.adv,hI.seen,⟨cs,Row.of_own OE2.out,CE.out.mono fun _ _ h => h.on BL.out⟩,hI.own⟩,[],row_nil _,.nil⟩,BL.out⟩
   ·rw [if_neg (by simp)] at LB
    have L4 := CL.out
    rw [← N.out] at L4
    obtain ⟨x0,x1,x2,x3,x4,x5⟩ := X4_9.out.cs6
    go_wp2_with fail
    clear x0 x1 x2 x3 x4 x5
    go_loopw [13,58] (fun v i wr => ∃ (k : Nat) (xs ls : List XEn) (a : Option Addr) (c_ : Nat),k ≤ n ∧ i = .int .i64 k ∧ Below w.heap.size w wr ∧ w.heap.size + 4 ≤ wr.heap.size ∧ Box wr w.heap.size #[.int .i64 me,.slice no nn nc,.slice ao an ac,.slice so sn sc,.slice a n c_,.slice oo on_ oc] 31 ∧ Box wr (w.heap.size + 1) #[.int .i64 c,.int .i64 d] 38 ∧ Box wr (w.heap.size + 1 + 1 + 1) #[.int .i64 0,.slice none 0 0,.slice none 0 0,.slice none 0 0,.slice none 0 0,.slice none 0 0] 31 ∧ OwnN wr (w.heap.size + 4) (.slice a n c_) xs ∧ All2 (EnIn w) xs (takeK (c,d) cb k).1 ∧ OwnN wr (w.heap.size + 4) v ls ∧ All2 (EnIn w) ls (takeK (c,d) cb k).2) (fun _ i _ => n - (intOf i).toNat)
    case atStart => exact ⟨0,cs,[],ea,ecc,Nat.zero_le _,rfl,GB_8.out,WF.out,X4_9.out,X5_10.out,X8_12.out,OE_13.out,CE.out,own_nil _ _,.nil⟩
    case round =>
     clear WF GB_8 X4_9 X5_10 X6_11 X8_12 OE_13
     obtain ⟨k,xs,ls,ea,ecc,hk,rfl,hgb,hwf,hx4,hx5,hx8,hoe,hen,hol,hln⟩ := hrel
     have GB_34 := Lib.hid (hgb)
     have X4_35 := Lib.hid (hx4)
     have X5_36 := Lib.hid (hx5)
     have X8_37 := Lib.hid (hx8)
     have OE_38 := Lib.hid (hoe)
     have OL_39 := Lib.hid (hol)
     have WF := Lib.hid hwf
     have EN := Lib.hid hen
     have LN := Lib.hid hln
     clear hgb hwf hx4 hx5 hx8 hoe hen hol hln
     have XN := Lib.hid (show xs.length = n from by rw [EN.out.len,(takeK_len _ _ _).1,CN.out])
     have LN9 := Lib.hid (show ls.length ≤ 900 from by rw [LN.out.len]; exact Nat.le_trans (takeK_len _ _ _).2 (by omega))
     by_cases hlt : k < n
     ·have hlt' : (k : Int) < (n : Int) := by omega
      have hw : IntKind.i64.wrap ((k : Int) + 1) = (k : Int) + 1 := IntWalk.i64_in _ (by omega)
      obtain ⟨y,hy⟩ : ∃ y,xs[k]? = some y := ⟨_,List.getElem?_eq_getElem (by rw [XN.out]; exact hlt)⟩
      obtain ⟨e,he⟩ : ∃ e,(takeK (c,d) cb k).1[k]? = some e := ⟨_,List.getElem?_eq_getElem (by rw [← EN.out.len,XN.out]; exact hlt)⟩
      obtain ⟨y_,hy_,hye⟩ := EN.out.at k e he
      obtain rfl : y = y_ := Option.some.inj (hy.symm.trans hy_)
      have TK := Lib.hid (show takeK (c,d) cb (k + 1) = if e.tree = (c,d) ∧ e.up = false ∧ coveredE (takeK (c,d) cb k).1 (c,d) e.p = false then ((takeK (c,d) cb k).1.set k (upE e),(takeK (c,d) cb k).2 ++ [upE e]) else takeK (c,d) cb k from by rw [takeK_succ]; unfold takeStep; rw [he])
      have OKK := Lib.hid ((takeK_ok (t := (c,d)) PredOk OK2.out k).1)
      have HYE := Lib.hid hye
      have HY := Lib.hid hy
      have OKE := Lib.hid (OKK.out e (List.mem_of_getElem? he))
      clear hy_ hye he
      generalize takeK (c,d) cb k = mk at *
      obtain ⟨p,ix,px⟩ := elN (Row.of_own OE_38.out) rfl XN.out hy
      obtain ⟨p0,p1,p2,p3,p4,p5,p6⟩ := px wr (Below.refl _ _)
      obtain ⟨y1,y2,y3,y4,⟨yo,yn,yc⟩,y6,y7⟩ := y
      simp only at p0 p1 p2 p3 p4 p5 p6
      clear px hy
      obtain ⟨x0,x1,x2,x3,x4,x5⟩ := X4_35.out.cs6
      go_upto_region 13 with fail
      clear x0 x1 x2 x3 x4 x5
      clear p0 p1 p2 p3 p4 p5 p6 ix
      have NN := newB wr (.cells #[.int .i64 y1,.int .i64 y2,.int .i64 y3,.int .i64 y4,.slice yo yn yc,.int .i64 y6,.bool y7] 43)
      have WG := Lib.hid NN.size
      have GB_40 := Lib.hid (GB_34.out.trans (NN.mono GB_34.out.size))
      have X4_40 := Lib.hid (X4_35.out.on NN)
      have X5_40 := Lib.hid (X5_36.out.on NN)
      have X8_40 := Lib.hid (X8_37.out.on NN)
      have OE_40 := Lib.hid (Bk.own_on OE_38.out NN)
      have OL_40 := Lib.hid (Bk.own_on OL_39.out NN)
      clear GB_34 X4_35 X5_36 X8_37 OE_38 OL_39
      clear NN
      have XE_41 := Lib.hid (box_new wr #[.int .i64 y1,.int .i64 y2,.int .i64 y3,.int .i64 y4,.slice yo yn yc,.int .i64 y6,.bool y7] 43)
      generalize wr.alloc (.cells #[.int .i64 y1,.int .i64 y2,.int .i64 y3,.int .i64 y4,.slice yo yn yc,.int .i64 y6,.bool y7] 43) = wa at *
      obtain ⟨x0,x1,x2,x3,x4,x5⟩ := X4_40.out.cs6
      obtain ⟨y_0,y_1⟩ := X5_40.out.cs2
      obtain ⟨z0,z1,z2,z3,z4,z5,z6⟩ := XE_41.out.cs7
      have TE := Lib.hid (show e.tree = (y1,y2) from HYE.out.1.symm)
      have UE := Lib.hid (show e.up = y7 from HYE.out.2.2.2.1.symm)
      obtain ⟨r1,hr1⟩ : ∃ r,(y1 == c && y2 == d) = r := ⟨_,rfl⟩
      have heq := eqId y1 y2 c d r1 hr1
      have R1 := Lib.hid hr1
      clear hr1
      cases r1
      ·go_wp2_with fail
       go_roundw
       case rel => exact ⟨k + 1,xs,ls,ea,ecc,by omega,by go_num,GB_40.out,by have := WG.out; have := WF.out; omega,X4_40.out,X5_40.out,X8_40.out,OE_40.out,by rw [TK.out,if_neg (by intro hh; have h1 := hh.1; rw [TE.out] at h1; have h2 := R1.out; simp at h1; simp [h1] at h2)]; exact EN.out,OL_40.out,by rw [TK.out,if_neg (by intro hh; have h1 := hh.1; rw [TE.out] at h1; have h2 := R1.out; simp at h1; simp [h1] at h2)]; exact LN.out⟩
       case measure => simp [intOf]; omega
      ·cases y7
       ·obtain ⟨cv,hcv⟩ : ∃ r,coveredE mk.1 (c,d) e.p = r := ⟨_,rfl⟩
        have CO := rcovered_any me (.slice no nn nc) (.slice ao an ac) (.slice so sn sc) (.slice oo on_ oc) (ea,n,ecc) xs mk.1 (c,d) (.slice yo yn yc) e.p wa (Row.of_own OE_40.out) (EN.out.mono fun _ _ h => h.on GB_40.out) (HYE.out.2.2.2.2.on GB_40.out) OKK.out OKE.out
        rw [hcv] at CO
        rw [hcv] at TK
        clear hcv
        go_wp2_with fail
        refine CO.mono ?_
        rintro e2 wb ⟨rfl,hb⟩
        clear CO
        clear x0 x1 x2 x3 x4 x5 y_0 y_1 z0 z1 z2 z3 z4 z5 z6
        have GB_42 := Lib.hid (GB_40.out.trans (hb.mono GB_40.out.size))
        have X4_42 := Lib.hid (X4_40.out.on hb)
        have X5_42 := Lib.hid (X5_40.out.on hb)
        have X8_42 := Lib.hid (X8_40.out.on hb)
        have OE_42 := Lib.hid (Bk.own_on OE_40.out hb)
        have OL_42 := Lib.hid (Bk.own_on OL_40.out hb)
        have XE_42 := Lib.hid (XE_41.out.on hb)
        clear GB_40 X4_40 X5_40 X8_40 OE_40 OL_40 XE_41
        have WGb := Lib.hid (Nat.le_trans WG.out hb.size)
        clear hb WG
        have WG := Lib.hid WGb.out
        cases cv
        ·rw [if_pos ⟨by rw [TE.out]; have h := R1.out; simp at h; rw [h.1,h.2],UE.out,rfl⟩] at TK
         have NB := newB wb (.cells #[] 43)
         obtain ⟨va,x1,q1,oa,ga⟩ := app_fresh okN (w := wb.alloc (.cells #[] 43)) wb.heap.size (box_new wb #[] 43) (Nat.le_refl _) (Row.of_own (own_on OE_42.out NB)) (by rw [XN.out]; omega) 28
         have G1 := Lib.hid (NB.trans (ga.mono NB.size))
         have m4 := (X4_42.out.on NB).cell 4
         simp only [List.getElem?_toArray,List.getElem?_cons_zero,List.getElem?_cons_succ] at m4
         rcases own_open oa with ⟨_,h0⟩ | ⟨g,cg,_,rfl,hBg,_,_⟩
         ·rw [h0] at XN
          have := XN.out
          simp at this
          omega
         rw [XN.out] at q1 oa
         have q1 : (Builtin.append_ #[28,28] 28 #[.slice (some ⟨wb.heap.size,0,none⟩) 0 0,.slice ea n ecc]).run Tryz.prog (wb.alloc (.cells #[] 43)) = .ok (.slice (some ⟨g,0,none⟩) n cg) x1 := q1
         have OA := Lib.hid (own_fewer oa (show w.heap.size + 4 ≤ wb.heap.size from by have := WG.out; have := WF.out; omega))
         have GL := Lib.hid (Nat.le_trans hBg (Nat.le_refl g))
         clear oa ga NB
         have OLB := Lib.hid (OL_42.out)
         have GB_43 := Lib.hid (GB_42.out.trans (G1.out.mono GB_42.out.size))
         have X4_43 := Lib.hid (X4_42.out.on G1.out)
         have X5_43 := Lib.hid (X5_42.out.on G1.out)
         have X8_43 := Lib.hid (X8_42.out.on G1.out)
         have OE_43 := Lib.hid (Bk.own_on OE_42.out G1.out)
         have OL_43 := Lib.hid (Bk.own_on OL_42.out G1.out)
         have XE_43 := Lib.hid (XE_42.out.on G1.out)
         clear GB_42 X4_42 X5_42 X8_42 OE_42 OL_42 XE_42
         have WG1 := Lib.hid (Nat.le_trans WG.out G1.out.size)
         obtain ⟨x0,x1,x2,x3,x4,x5⟩ := X4_43.out.cs6
         obtain ⟨xf0,xf1,xf2,xf3,xf4,xf5⟩ := X4_43.out.fs6
         have hl4 := X4_43.out.lt
         go_upto_region 15 with (first | (at_builtin; refine wpList_append_run rfl _ _ 28 rfl rfl rfl q1 ?_) | fail)
         clear x0 x1 x2 x3 x4 x5 xf0 xf1 xf2 xf3 xf4 xf5
         clear hl4 q1 m4
         have X4b := box_set (k := 4) X4_43.out (.slice (some ⟨g,0,none⟩) n cg)
         simp only [List.setIfInBounds_toArray,List.set_cons_zero,List.set_cons_succ] at X4b
         have BK := but_cell x1 w.heap.size 4 (.slice (some ⟨g,0,none⟩) n cg)
         have GB2 := Lib.hid (GB_43.out.setCell (p := ⟨w.heap.size,4,none⟩) (Nat.le_refl _) (.slice (some ⟨g,0,none⟩) n cg))
         have Y4 := Lib.hid X4b
         have Y5 := Lib.hid (BK.box X5_43.out (by omega))
         have Y8 := Lib.hid (BK.box X8_43.out (by omega))
         have OA2 := Lib.hid (own_cell OA.out w.heap.size 4 (.slice (some ⟨g,0,none⟩) n cg) (by omega))
         have OL2 := Lib.hid (own_cell OL_43.out w.heap.size 4 (.slice (some ⟨g,0,none⟩) n cg) (by omega))
         have WG2 := Lib.hid (show wr.heap.size ≤ (x1.setCell ⟨w.heap.size,4,none⟩ (.slice (some ⟨g,0,none⟩) n cg)).heap.size from by have := WG1.out; simpa using this)
         clear X4b BK OA WG1 GB_43 X4_43 X5_43 X8_43 OE_43 OL_43 XE_43
         generalize x1.setCell ⟨w.heap.size,4,none⟩ (.slice (some ⟨g,0,none⟩) n cg) = x2 at *
         have UP := own_upN OA2.out HY.out
         obtain ⟨u1,u2,u3⟩ := UP
         simp only at u1 u2
         have ix := index_own okN g k n cg hlt
         have ix : ∀ w,(Instr.indexAt 28 (.slice (some ⟨g,0,none⟩) n cg) (.int .i64 (k : Int))).run Tryz.prog w = .ok (.pointer (some ⟨g,k * 7,none⟩)) w := ix
         have x4 := Y4.out.cell 4
         simp only [List.getElem?_toArray,List.getElem?_cons_zero,List.getElem?_cons_succ] at x4
         have OU := Lib.hid u1
         clear u1
         have gl : g < x2.heap.size := by obtain ⟨cur,hb⟩ := own_tag OA2.out; exact hb.lt
         go_upto_region 16 with fail
         clear u2 u3 x4 gl
         have BG := but_cell x2 g (k * 7 + 6) (.bool true)
         have GG := Lib.hid (show w.heap.size + 4 ≤ g from by have := WG.out; have := WF.out; have := GL.out; omega)
         have GB3 := Lib.hid (GB2.out.setCell (p := ⟨g,k * 7 + 6,none⟩) (by have := GG.out; show w.heap.size ≤ g; omega) (.bool true))
         have Z4 := Lib.hid (BG.box Y4.out (by have := GG.out; omega))
         have Z5 := Lib.hid (BG.box Y5.out (by have := GG.out; omega))
         have Z8 := Lib.hid (BG.box Y8.out (by have := GG.out; omega))
         have LG := Lib.hid (show u13.ownBlock = none ∨ u13.ownBlock ≠ some g from by
          cases hob : u13.ownBlock with
          | none => exact Or.inl rfl
          | some j =>
           refine Or.inr fun e => ?_
           injection e with e
           have h1 := (OLB.out.lt j hob).2
           have h2 := GL.out
           omega)
         have OL3 := Lib.hid (OL2.out.kept (w' := x2.setCell ⟨g,k * 7 + 6,none⟩ (.bool true)) (row := some g) ⟨rfl,rfl,rfl,by simp [World.setCell],fun j _ hne => RowKit.Below.heap_setCell _ _ _ _ (fun e => hne (by rw [e]))⟩ LG.out)
         have WG3 := Lib.hid (show wr.heap.size ≤ (x2.setCell ⟨g,k * 7 + 6,none⟩ (.bool true)).heap.size from by have := WG2.out; simpa using this)
         clear BG GB2 Y4 Y5 Y8 OA2 OL2 WG2
         generalize x2.setCell ⟨g,k * 7 + 6,none⟩ (.bool true) = x3 at *
         have OU2 := OU.out
         have hset : (xs.set k (y1,y2,y3,y4,(yo,yn,yc),y6,true))[k]? = some (y1,y2,y3,y4,(yo,yn,yc),y6,true) := List.getElem?_set_self (by rw [XN.out]; exact hlt)
         have ce : ∀ j u,(cellsN (y1,y2,y3,y4,(yo,yn,yc),y6,true))[j]? = some u → x3.cell? ((⟨g,k * 7,none⟩ : Addr).add j) = some u := own_row_at okN OU2 hset x3 (Below.refl _ _)
         have c0_ := ce 0 _ rfl
         have c1_ := ce 1 _ rfl
         have c2_ := ce 2 _ rfl
         have c3_ := ce 3 _ rfl
         have c4_ := ce 4 _ rfl
         have c5_ := ce 5 _ rfl
         have c6_ := ce 6 _ rfl
         simp [Addr.add] at c0_ c1_ c2_ c3_ c4_ c5_ c6_
         have x4 := Z4.out.cell 4
         simp only [List.getElem?_toArray,List.getElem?_cons_zero,List.getElem?_cons_succ] at x4
         have hlit := row_lit okN x3 [(y1,y2,y3,y4,(yo,yn,yc),y6,true)] 1 rfl (by simp) #[.int .i64 y1,.int .i64 y2,.int .i64 y3,.int .i64 y4,.slice yo yn yc,.int .i64 y6,.bool true] rfl
         have NB := newB x3 (.cells #[.int .i64 y1,.int .i64 y2,.int .i64 y3,.int .i64 y4,.slice yo yn yc,.int .i64 y6,.bool true] 43)
         have hB : w.heap.size + 4 ≤ (x3.alloc (.cells #[.int .i64 y1,.int .i64 y2,.int .i64 y3,.int .i64 y4,.slice yo yn yc,.int .i64 y6,.bool true] 43)).heap.size := Nat.le_trans (Nat.le_trans WF.out WG3.out) NB.size
         obtain ⟨v',x5,q2,o2,g2⟩ := app_row okN (w.heap.size + 4) (own_on OL3.out NB) (Row.of_own hlit) (by have := LN9.out; omega) (by simp) hB 28
         have q2 : (Builtin.append_ #[28,28] 28 #[u13,.slice (some ⟨x3.heap.size,0,none⟩) 1 1]).run Tryz.prog (x3.alloc (.cells #[.int .i64 y1,.int .i64 y2,.int .i64 y3,.int .i64 y4,.slice yo yn yc,.int .i64 y6,.bool true] 43)) = .ok v' x5 := q2
         have GF := Lib.hid (show Below w.heap.size w x5 from ((GB3.out.trans (NB.mono GB3.out.size)).grown g2 (by omega) fun j hj => by have := ((own_on OL3.out NB).lt j hj).1; omega))
         have BO := Lib.hid (show ∀ j,j < x3.heap.size → some j ≠ u13.ownBlock → x5.heap[j]? = x3.heap[j]? from fun j hj hne => (g2.block j (Nat.lt_of_lt_of_le hj NB.size) hne).trans (NB.block j hj))
         have ZX := fun (bb : Nat) (cs : Array Value) (tt : TypeId) (hbb : bb < w.heap.size + 4) (hbx : Box x3 bb cs tt) => show Box x5 bb cs tt from (BO.out bb hbx.lt (fun e => by have := (OL3.out.lt bb e.symm).1; omega)).trans hbx
         have V4 := Lib.hid (ZX _ _ _ (by omega) Z4.out)
         have V5 := Lib.hid (ZX _ _ _ (by omega) Z5.out)
         have V8 := Lib.hid (ZX _ _ _ (by omega) Z8.out)
         have OU5 := Lib.hid (show OwnN x5 (w.heap.size + 4) (.slice (some ⟨g,0,none⟩) n cg) (xs.set k (y1,y2,y3,y4,(yo,yn,yc),y6,true)) from by
          have h1 := Bk.own_on OU.out NB
          exact h1.kept g2 (by
           cases hob : u13.ownBlock with
           | none => exact Or.inr (by simp [Value.ownBlock])
           | some j =>
            refine Or.inr fun e => ?_
            have h2 := LG.out
            rw [hob] at h2
            rcases h2 with h2 | h2
            ·cases h2
            ·exact h2 (by rw [← e]; rfl)))
         have O2 := Lib.hid o2
         have W5 := Lib.hid (Nat.le_trans WG3.out (Nat.le_trans NB.size g2.size))
         clear hlit hB o2 g2 ZX BO OU2 NB hset ce
         go_wp2_with (first | (at_builtin; refine wpList_append_run rfl _ _ 28 rfl rfl rfl q2 ?_) | fail)
         go_roundw
         case rel => exact ⟨k + 1,_,_,some ⟨g,0,none⟩,cg,by omega,by go_num,GF.out,by have := WF.out; have := W5.out; omega,V4.out,V5.out,V8.out,OU5.out,by
          rw [TK.out]
          exact EN.out.set2 k ⟨HYE.out.1,HYE.out.2.1,HYE.out.2.2.1,rfl,HYE.out.2.2.2.2⟩,O2.out,by
          rw [TK.out]
          exact LN.out.append (.cons ⟨HYE.out.1,HYE.out.2.1,HYE.out.2.2.1,rfl,HYE.out.2.2.2.2⟩ .nil)⟩
         case measure => simp [intOf]; omega
        ·go_wp2_with fail
         go_roundw
         case rel => exact ⟨k + 1,xs,ls,ea,ecc,by omega,by go_num,GB_42.out,by have := WG.out; have := WF.out; omega,X4_42.out,X5_42.out,X8_42.out,OE_42.out,by rw [TK.out,if_neg (by simp)]; exact EN.out,OL_42.out,by rw [TK.out,if_neg (by simp)]; exact LN.out⟩
         case measure => simp [intOf]; omega
       ·go_wp2_with fail
        go_roundw
        case rel => exact ⟨k + 1,xs,ls,ea,ecc,by omega,by go_num,GB_40.out,by have := WG.out; have := WF.out; omega,X4_40.out,X5_40.out,X8_40.out,OE_40.out,by rw [TK.out,if_neg (by intro hh; have h1 := hh.2.1; rw [UE.out] at h1; cases h1)]; exact EN.out,OL_40.out,by rw [TK.out,if_neg (by intro hh; have h1 := hh.2.1; rw [UE.out] at h1; cases h1)]; exact LN.out⟩
        case measure => simp [intOf]; omega
     ·obtain rfl : k = n := by omega
      obtain ⟨x0,x1,x2,x3,x4,x5⟩ := X4_35.out.cs6
      obtain ⟨la,lc,hlv⟩ := (Row.of_own OL_39.out).len
      obtain ⟨ln,hln⟩ : ∃ n,n = ls.length := ⟨_,rfl⟩
      rw [← hln] at hlv
      subst hlv
      clear hln
      obtain ⟨r0,r1,r2,r3,r4,r5⟩ := X8_37.out.cs6
      obtain ⟨rf0,rf1,rf2,rf3,rf4,rf5⟩ := X8_37.out.fs6
      have zz := X8_37.out.lt
      have FB := Lib.hid (setB_box X8_37.out (.int .i64 me) (.slice no nn nc) (.slice ao an ac) (.slice so sn sc) (.slice ea k ecc) (.slice oo on_ oc))
      have BL := Lib.hid (setB_below (b := w.heap.size + 1 + 1 + 1) GB_34.out (by omega) (.int .i64 me) (.slice no nn nc) (.slice ao an ac) (.slice so sn sc) (.slice ea k ecc) (.slice oo on_ oc))
      have OE2 := Lib.hid (setB_ownA OE_38.out (w.heap.size + 1 + 1 + 1) (by omega) (.int .i64 me) (.slice no nn nc) (.slice ao an ac) (.slice so sn sc) (.slice ea k ecc) (.slice oo on_ oc))
      have OL2 := Lib.hid (setB_ownA OL_39.out (w.heap.size + 1 + 1 + 1) (by omega) (.int .i64 me) (.slice no nn nc) (.slice ao an ac) (.slice so sn sc) (.slice ea k ecc) (.slice oo on_ oc))
      go_wp2_with fail
      obtain ⟨v0,v1,v2,v3,v4,v5⟩ := FB.out.cs6
      refine bodyPost_ret (v := .tuple #[.agg #[.int .i64 me,.slice no nn nc,.slice ao an ac,.slice so sn sc,.slice ea k ecc,.slice oo on_ oc],.slice la ln lc,.bool true]) (by simp [results,Tryz.results19,go_sem,v0,v1,v2,v3,v4,v5]) rfl ?_
      rw [LB.out]
      have hI := HH.out.on BL.out
      exact ⟨⟨(ea,k,ecc),(la,ln,lc),rfl,⟨hI.near,hI.adv,hI.seen,⟨xs,Row.of_own OE2.out,EN.out.mono fun _ _ h => h.on BL.out⟩,hI.own⟩,ls,Row.of_own OL2.out,LN.out.mono fun _ _ h => h.on BL.out⟩,BL.out⟩
  ·rw [if_pos hpf] at LB
   have hne : (fr != f) = true := by simp [hpf]
   obtain ⟨x0,x1,x2,x3,x4,x5⟩ := X4_7.out.cs6
   obtain ⟨r0,r1,r2,r3,r4,r5⟩ := X8_7.out.cs6
   obtain ⟨rf0,rf1,rf2,rf3,rf4,rf5⟩ := X8_7.out.fs6
   have zz := X8_7.out.lt
   have FB := Lib.hid (setB_box X8_7.out (.int .i64 me) (.slice no nn nc) (.slice ao an ac) (.slice so sn sc) (.slice eo n3 ec) (.slice oo on_ oc))
   have BL := Lib.hid (setB_below (b := w.heap.size + 1 + 1 + 1) GB_7.out (by omega) (.int .i64 me) (.slice no nn nc) (.slice ao an ac) (.slice so sn sc) (.slice eo n3 ec) (.slice oo on_ oc))
   go_wp2_with fail
   obtain ⟨v0,v1,v2,v3,v4,v5⟩ := FB.out.cs6
   refine bodyPost_ret (v := .tuple #[.agg #[.int .i64 me,.slice no nn nc,.slice ao an ac,.slice so sn sc,.slice eo n3 ec,.slice oo on_ oc],.slice none 0 0,.bool false]) (by simp [results,Tryz.results19,go_sem,v0,v1,v2,v3,v4,v5]) rfl ?_
   rw [LB.out]
   exact ⟨⟨(eo,n3,ec),(none,0,0),rfl,HH.out.on BL.out,[],row_nil _,.nil⟩,BL.out⟩
theorem findI_mem (l : List Id) (x : Id) (h : x ∈ l) : ∃ k : Nat,findI l x = k ∧ l[k]? = some x := by
 induction l with
 | nil => simp at h
 | cons a r ih =>
  by_cases e : a = x
  ·subst e
   exact ⟨0,by simp [findI],rfl⟩
  ·have hr : x ∈ r := by
    rcases List.mem_cons.1 h with h1 | h1
    ·exact absurd h1.symm e
    ·exact h1
   obtain ⟨k,h1,h2⟩ := ih hr
   refine ⟨k + 1,?_,by simpa using h2⟩
   rw [findI,if_neg e,h1,if_neg (by omega)]
   omega
theorem ents_keep {W W' : World} {k : Nat} {me : Int} {s1 s2 s3 s4 s5 : Sl} {v : Value} {l : List XEn} {m : List En} (h1 : RowN W v l) (h2 : All2 (EnIn W) l m) (hb : Box W k (brcells me s1 s2 s3 s4 s5) 31) (hk : ∀ j,j < W.heap.size → j ≠ k → W'.heap[j]? = W.heap[j]?) : RowN W' v l ∧ All2 (EnIn W') l m :=
 ⟨row_keep okN h1 hk (two_ints hb (fun _ => ⟨_,_,rfl,rfl⟩) (br_ints me s1 s2 s3 s4 s5)),h2.mono fun _ _ hx => ⟨hx.1,hx.2.1,hx.2.2.1,hx.2.2.2.1,row_keep okC hx.2.2.2.2 hk (no_text hb (br_text me s1 s2 s3 s4 s5))⟩⟩
theorem takeK_all {t : Id} {m : List En} (R : En → Prop) (hR : ∀ e,e.tree = t → R e → R (upE e)) (h : ∀ e ∈ m,R e) : ∀ k,(∀ e ∈ (takeK t m k).1,R e) ∧ ∀ e ∈ (takeK t m k).2,R e
 | 0 => ⟨h,fun e he => by simp [takeK] at he⟩
 | k + 1 => by
  have ih := takeK_all (t := t) R hR h k
  rw [takeK_succ]
  unfold takeStep
  split
  ·exact ih
  ·rename_i e he
   split
   ·rename_i hcond
    have hu := hR e hcond.1 (ih.1 e (List.mem_of_getElem? he))
    refine ⟨fun x hx => ?_,fun x hx => ?_⟩
    ·rcases List.mem_or_eq_of_mem_set hx with h1 | h1
     ·exact ih.1 x h1
     ·rw [h1]
      exact hu
    ·rcases List.mem_append.1 hx with h1 | h1
     ·exact ih.2 x h1
     ·rw [List.mem_singleton.1 h1]
      exact hu
   ·exact ih
theorem mem_cut {α : Type} {l : List α} {k : Nat} {x : α} (h : x ∈ cutAt l k) : x ∈ l := by
 rcases List.mem_append.1 h with h | h
 ·exact List.mem_of_mem_take h
 ·exact List.mem_of_mem_drop h
end Go.Proofs.YtncogjpmboglhaaGreat.Bk
