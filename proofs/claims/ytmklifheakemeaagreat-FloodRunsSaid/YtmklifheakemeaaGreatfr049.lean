/-
  Chapter 11's runs: FloodRuns. Conditions as told.
-/
import Derived.Test.YtmklifheakemeaaGreatfr048
import Derived.Test.YtmklifheakemeaaGreatfr039
set_option maxRecDepth 100000
set_option maxHeartbeats 64000000
namespace Go.Proofs.YtmklifheakemeaaGreat.Fl
open Go.RowKit Go.Sort Rw YtmklifheakemeaaGreat.Nm Pr Bk Av Rl Sb
abbrev rf0 : Br := ⟨0,[1,2],[],[],[],[⟨(4,0),[]⟩]⟩
abbrev rf1 : Br := ⟨0,[1,2],[⟨(3,0),[],1⟩],[(3,0)],[⟨(3,0),(4,0),[],-1,true⟩],[⟨(4,0),[]⟩]⟩
abbrev rf2 : Br := ⟨0,[1,2],[],[(3,0)],[],[⟨(4,0),[]⟩]⟩
theorem rf_adv : advB rf0 1 (3,0) [] = (rf1,[⟨2,1,(3,0),(0,0),[]⟩,⟨1,3,(3,0),(4,0),[]⟩]) := rfl
theorem rf_again : advB rf1 2 (3,0) [] = (rf1,[]) := rfl
theorem rf_off : unadvB rf1 1 (3,0) = (rf2,[⟨2,2,(3,0),(0,0),[]⟩]) := rfl
theorem all2_two {α β : Type} {R : α → β → Prop} {l : List α} {x y : β} (h : All2 R l [x,y]) : ∃ a b,l = [a,b] ∧ R a x ∧ R b y := by
 match l,h with
 | [a,b],.cons q0 (.cons q1 .nil) => exact ⟨a,b,rfl,q0,q1⟩
theorem all2_one {α β : Type} {R : α → β → Prop} {l : List α} {x : β} (h : All2 R l [x]) : ∃ a,l = [a] ∧ R a x := by
 match l,h with
 | [a],.cons q0 .nil => exact ⟨a,rfl,q0⟩
theorem ok_nil5 : PredOk [] := ⟨[],⟨List.Pairwise.nil,by simp,by simp,by simp⟩,rfl⟩
theorem rf0_ok : OkBr rf0 := ⟨by decide,List.Pairwise.nil,List.Pairwise.nil,List.Pairwise.nil,List.pairwise_singleton _ _,by simp,by simp,by intro o ho; rw [List.mem_singleton.1 ho]; rfl⟩
theorem rf1_ok : OkBr rf1 := by
 have h := adv_ok rf0_ok 1 (3,0) [] (by decide) rfl
 rw [rf_adv] at h
 exact h
theorem rf1_rise : RiseA rf1.adv := rf1_ok.adv
theorem rf0_adv : AdvOk rf0 1 [] := ⟨⟨by simp,by simp,by simp,by simp,by simp⟩,⟨by simp,by simp,by simp⟩,rf0_ok,by simp,by simp,by simp,by simp,by intro o ho; rw [List.mem_singleton.1 ho]; exact ok_nil5,ok_nil5,by decide,rfl⟩
theorem rf1_adv : AdvOk rf1 2 [] := ⟨⟨by simp,by simp,by simp,by simp,by simp⟩,⟨by simp,by simp,by simp⟩,rf1_ok,by simp,by simp,by simp,by intro o ho; rw [List.mem_singleton.1 ho]; exact ok_nil5,by intro o ho; rw [List.mem_singleton.1 ho]; exact ok_nil5,ok_nil5,by decide,rfl⟩
theorem fruns_any (w : World) : Calls Tryz.prog 3 #[] w fun e w' => e = .returned (.bool true) ∧ Below w.heap.size w w' := by
 have n0 := newB w (.cells #[.int .i64 1,.int .i64 2] 3)
 have hl := row_lit Nm.okI w [1,2] 2 rfl (by simp) #[.int .i64 1,.int .i64 2] rfl
 have NW := Lib.hid (anew_any 0 (some ⟨w.heap.size,0,none⟩,2,2) [1,2] _ (Row.of_own hl) (by decide))
 have GB_1 := Lib.hid (n0)
 clear n0 hl
 go_enter Tryz.func3,Tryz.ntmps3
 go_wp2_with fail
 refine NW.out.mono ?_
 rintro e1 w1 ⟨⟨l',⟨m1,m2,m3⟩,rfl,h1,h2,h3,h4⟩,hb⟩
 have e1 : l' = [1,2] := rise_uniq h3 (by decide) (fun y => (h4 y).trans (by simp))
 subst e1
 clear NW h3 h4
 have GB_2 := Lib.hid (GB_1.out.trans (hb.mono GB_1.out.size))
 clear GB_1
 have GAX := Lib.hid (show w.heap.size < w1.heap.size + 1 from by have h := GB_2.out.size; omega)
 have BN := Lib.hid (show BrN w1 (newB0 0 [1,2]) (m1,m2,m3) (none,0,0) (none,0,0) (none,0,0) (none,0,0) from ⟨h1,h2⟩)
 clear h1 h2 hb
 go_upto_region 2 with fail
 have NN := newB w1 (.cells #[.int .i64 0,.slice m1 m2 m3,.slice none 0 0,.slice none 0 0,.slice none 0 0,.slice none 0 0] 28)
 have GB_3 := Lib.hid (GB_2.out.trans (NN.mono GB_2.out.size))
 have BN_3 := Lib.hid (BN.out.on NN)
 clear GB_2 BN
 have X1_4 := Lib.hid (box_new w1 #[.int .i64 0,.slice m1 m2 m3,.slice none 0 0,.slice none 0 0,.slice none 0 0,.slice none 0 0] 28)
 clear NN
 generalize w1.alloc (.cells #[.int .i64 0,.slice m1 m2 m3,.slice none 0 0,.slice none 0 0,.slice none 0 0,.slice none 0 0] 28) = w2 at *
 generalize w1.heap.size = bA at *
 have hl := row_lit okW w2 [((4,0,(none,0,0)) : XOw)] 1 rfl (by simp) #[.int .i64 4,.int .i64 0,.slice none 0 0] rfl
 have NN := newB w2 (.cells #[.int .i64 4,.int .i64 0,.slice none 0 0] 34)
 have GB_5 := Lib.hid (GB_3.out.trans (NN.mono GB_3.out.size))
 have BN_5 := Lib.hid (BN_3.out.on NN)
 have X1_5 := Lib.hid (X1_4.out.on NN)
 clear GB_3 BN_3 X1_4
 have c5 := X1_5.out.cell 5
 have f5 := X1_5.out.fr 5
 have lt1 := X1_5.out.lt
 simp only [List.getElem?_toArray,List.getElem?_cons_zero,List.getElem?_cons_succ] at c5
 have bs := but_cell (w2.alloc (.cells #[.int .i64 4,.int .i64 0,.slice none 0 0] 34)) bA 5 (.slice (some ⟨w2.heap.size,0,none⟩) 1 1)
 have b5 := box_set (k := 5) X1_5.out (.slice (some ⟨w2.heap.size,0,none⟩) 1 1)
 simp only [List.setIfInBounds_toArray,List.set_cons_zero,List.set_cons_succ] at b5
 have hn := BN_5.out.keep (s1 := (m1,m2,m3)) (s2 := (none,0,0)) (s3 := (none,0,0)) (s4 := (none,0,0)) (s5 := (none,0,0)) (me := 0) X1_5.out bs
 have ho := Row.of_own (bs.own hl X1_5.out (by decide))
 have G0 := Lib.hid (GB_5.out.setCell (p := ⟨bA,5,none⟩) (Nat.le_of_lt_succ (by have h := GAX.out; omega)) (.slice (some ⟨w2.heap.size,0,none⟩) 1 1))
 have G1 := Lib.hid b5
 have G2 := Lib.hid (show BrN _ rf0 (m1,m2,m3) (none,0,0) (none,0,0) (none,0,0) (some ⟨w2.heap.size,0,none⟩,1,1) from ⟨⟨hn.br.near,hn.br.adv,hn.br.seen,hn.br.ent,⟨_,ho,.cons ⟨rfl,row_nil _⟩ .nil⟩⟩,hn.no⟩)
 clear NN hl bs b5 hn ho GB_5 X1_5 BN_5
 go_upto_region 3 with fail
 clear c5 f5 lt1
 generalize (w2.alloc (.cells #[.int .i64 4,.int .i64 0,.slice none 0 0] 34)).setCell ⟨bA,5,none⟩ (.slice (some ⟨w2.heap.size,0,none⟩) 1 1) = w3 at *
 generalize w2.heap.size = bO at *
 have GB_6 := Lib.hid (G0.out)
 have X1_7 := Lib.hid (G1.out)
 have BN_8 := Lib.hid (G2.out)
 clear G0 G1 G2
 obtain ⟨x0,x1,x2,x3,x4,x5⟩ := X1_7.out.cs6
 go_wp2_with fail
 refine (fladv_any rf0 m1 m2 m3 none 0 0 none 0 0 none 0 0 (some ⟨bO,0,none⟩) 1 1 1 3 0 none 0 0 [] w3 BN_8.out (row_nil _) rf0_adv).mono ?_
 rw [rf_adv]
 rintro e_ w4_ ⟨⟨⟨n1,n2,n3⟩,⟨n4,n5,n6⟩,⟨n7,n8,n9⟩,⟨n10,n11,n12⟩,⟨n13,n14,n15⟩,⟨o1,o2,o3⟩,lxOA,rfl,hbn,_,hou⟩,hb⟩
 clear x0 x1 x2 x3 x4 x5
 have GB_9 := Lib.hid (GB_6.out.trans (hb.mono GB_6.out.size))
 have X1_9 := Lib.hid (X1_7.out.on hb)
 have BN_9 := Lib.hid (BN_8.out.on hb)
 clear GB_6 X1_7 BN_8
 have BM := Lib.hid hbn
 have OA := Lib.hid hou
 clear hbn hou hb
 go_upto_region 4 with fail
 have NN := newB w4_ (.cells #[.int .i64 0,.slice n1 n2 n3,.slice n4 n5 n6,.slice n7 n8 n9,.slice n10 n11 n12,.slice n13 n14 n15] 28)
 have GB_10 := Lib.hid (GB_9.out.trans (NN.mono GB_9.out.size))
 have X1_10 := Lib.hid (X1_9.out.on NN)
 have BN_10 := Lib.hid (BN_9.out.on NN)
 have BM_10 := Lib.hid (BM.out.on NN)
 have OA_10 := Lib.hid (OA.out.on NN)
 clear GB_9 X1_9 BN_9 BM OA
 have X2_11 := Lib.hid (box_new w4_ #[.int .i64 0,.slice n1 n2 n3,.slice n4 n5 n6,.slice n7 n8 n9,.slice n10 n11 n12,.slice n13 n14 n15] 28)
 clear NN
 generalize w4_.alloc (.cells #[.int .i64 0,.slice n1 n2 n3,.slice n4 n5 n6,.slice n7 n8 n9,.slice n10 n11 n12,.slice n13 n14 n15] 28) = w4 at *
 generalize w4_.heap.size = bX2 at *
 obtain ⟨x0,x1,x2,x3,x4,x5⟩ := X2_11.out.cs6
 go_wp2_with fail
 refine (fladv_any rf1 n1 n2 n3 n4 n5 n6 n7 n8 n9 n10 n11 n12 n13 n14 n15 2 3 0 none 0 0 [] w4 BM_10.out (row_nil _) rf1_adv).mono ?_
 rw [rf_again]
 rintro e_ w5_ ⟨⟨⟨k1,k2,k3⟩,⟨k4,k5,k6⟩,⟨k7,k8,k9⟩,⟨k10,k11,k12⟩,⟨k13,k14,k15⟩,⟨p1,p2,p3⟩,lxOB,rfl,hbn,_,hou⟩,hb⟩
 clear x0 x1 x2 x3 x4 x5
 have GB_12 := Lib.hid (GB_10.out.trans (hb.mono GB_10.out.size))
 have X1_12 := Lib.hid (X1_10.out.on hb)
 have BN_12 := Lib.hid (BN_10.out.on hb)
 have BM_12 := Lib.hid (BM_10.out.on hb)
 have OA_12 := Lib.hid (OA_10.out.on hb)
 have X2_12 := Lib.hid (X2_11.out.on hb)
 clear GB_10 X1_10 BN_10 BM_10 OA_10 X2_11
 have BK := Lib.hid hbn
 have OB := Lib.hid hou
 clear hbn hou hb
 go_upto_region 5 with fail
 have NN := newB w5_ (.cells #[.int .i64 0,.slice k1 k2 k3,.slice k4 k5 k6,.slice k7 k8 k9,.slice k10 k11 k12,.slice k13 k14 k15] 28)
 have GB_13 := Lib.hid (GB_12.out.trans (NN.mono GB_12.out.size))
 have X1_13 := Lib.hid (X1_12.out.on NN)
 have BN_13 := Lib.hid (BN_12.out.on NN)
 have BM_13 := Lib.hid (BM_12.out.on NN)
 have OA_13 := Lib.hid (OA_12.out.on NN)
 have X2_13 := Lib.hid (X2_12.out.on NN)
 have BK_13 := Lib.hid (BK.out.on NN)
 have OB_13 := Lib.hid (OB.out.on NN)
 clear GB_12 X1_12 BN_12 BM_12 OA_12 X2_12 BK OB
 have X3_14 := Lib.hid (box_new w5_ #[.int .i64 0,.slice k1 k2 k3,.slice k4 k5 k6,.slice k7 k8 k9,.slice k10 k11 k12,.slice k13 k14 k15] 28)
 clear NN
 generalize w5_.alloc (.cells #[.int .i64 0,.slice k1 k2 k3,.slice k4 k5 k6,.slice k7 k8 k9,.slice k10 k11 k12,.slice k13 k14 k15] 28) = w5 at *
 generalize w5_.heap.size = bX3 at *
 obtain ⟨x0,x1,x2,x3,x4,x5⟩ := X2_13.out.cs6
 go_wp2_with fail
 refine (flun_any rf1 n1 n2 n3 n4 n5 n6 n7 n8 n9 n10 n11 n12 n13 n14 n15 1 3 0 w5 BM_13.out rf1_adv.few rf1_adv.fewp rf1_rise).mono ?_
 rw [rf_off]
 rintro e_ w6_ ⟨⟨⟨j1,j2,j3⟩,⟨j4,j5,j6⟩,⟨j7,j8,j9⟩,⟨j10,j11,j12⟩,⟨j13,j14,j15⟩,⟨q1,q2,q3⟩,lxOC,rfl,hbn,_,hou⟩,hb⟩
 clear x0 x1 x2 x3 x4 x5
 have GB_15 := Lib.hid (GB_13.out.trans (hb.mono GB_13.out.size))
 have X1_15 := Lib.hid (X1_13.out.on hb)
 have BN_15 := Lib.hid (BN_13.out.on hb)
 have BM_15 := Lib.hid (BM_13.out.on hb)
 have OA_15 := Lib.hid (OA_13.out.on hb)
 have X2_15 := Lib.hid (X2_13.out.on hb)
 have BK_15 := Lib.hid (BK_13.out.on hb)
 have OB_15 := Lib.hid (OB_13.out.on hb)
 have X3_15 := Lib.hid (X3_14.out.on hb)
 clear GB_13 X1_13 BN_13 BM_13 OA_13 X2_13 BK_13 OB_13 X3_14
 have BJ := Lib.hid hbn
 have OC := Lib.hid hou
 clear hbn hou hb
 go_upto_region 6 with fail
 have NN := newB w6_ (.cells #[.int .i64 0,.slice j1 j2 j3,.slice j4 j5 j6,.slice j7 j8 j9,.slice j10 j11 j12,.slice j13 j14 j15] 28)
 have GB_16 := Lib.hid (GB_15.out.trans (NN.mono GB_15.out.size))
 have X1_16 := Lib.hid (X1_15.out.on NN)
 have BN_16 := Lib.hid (BN_15.out.on NN)
 have BM_16 := Lib.hid (BM_15.out.on NN)
 have OA_16 := Lib.hid (OA_15.out.on NN)
 have X2_16 := Lib.hid (X2_15.out.on NN)
 have BK_16 := Lib.hid (BK_15.out.on NN)
 have OB_16 := Lib.hid (OB_15.out.on NN)
 have X3_16 := Lib.hid (X3_15.out.on NN)
 have BJ_16 := Lib.hid (BJ.out.on NN)
 have OC_16 := Lib.hid (OC.out.on NN)
 clear GB_15 X1_15 BN_15 BM_15 OA_15 X2_15 BK_15 OB_15 X3_15 BJ OC
 have X4_17 := Lib.hid (box_new w6_ #[.int .i64 0,.slice j1 j2 j3,.slice j4 j5 j6,.slice j7 j8 j9,.slice j10 j11 j12,.slice j13 j14 j15] 28)
 clear NN
 generalize w6_.alloc (.cells #[.int .i64 0,.slice j1 j2 j3,.slice j4 j5 j6,.slice j7 j8 j9,.slice j10 j11 j12,.slice j13 j14 j15] 28) = w6 at *
 generalize w6_.heap.size = bX4 at *
 obtain ⟨a0,a1,rfl,ha0,ha1⟩ := all2_two OA_16.out.all
 obtain ⟨c0,rfl,hc0⟩ := all2_one OC_16.out.all
 have LB : lxOB = [] := by
  have h := OB_16.out.len
  exact List.eq_nil_of_length_eq_zero h
 subst LB
 have ro := Row.of_own OA_16.out.row
 have no := sl_len ro
 obtain rfl : o2 = 2 := no.symm
 have rp := Row.of_own OB_16.out.row
 have np := sl_len rp
 obtain rfl : p2 = 0 := np.symm
 have rq := Row.of_own OC_16.out.row
 have nq := sl_len rq
 obtain rfl : q2 = 1 := nq.symm
 obtain ⟨pa0,ixa0,pxa0⟩ := elU (k := 0) ro rfl rfl rfl
 obtain ⟨da0,ea0,_,_,_,_,_,_⟩ := pxa0 w6 (Below.refl _ _)
 rw [ha0.1] at da0
 rw [ha0.2.1] at ea0
 replace ixa0 : ∀ w,(Instr.indexAt 35 (.slice o1 2 o3) (.int .i64 0)).run Tryz.prog w = .ok (.pointer (some pa0)) w := ixa0
 obtain ⟨pa1,ixa1,pxa1⟩ := elU (k := 1) ro rfl rfl rfl
 obtain ⟨da1,ea1,_,_,_,_,_,_⟩ := pxa1 w6 (Below.refl _ _)
 rw [ha1.1] at da1
 rw [ha1.2.1] at ea1
 replace ixa1 : ∀ w,(Instr.indexAt 35 (.slice o1 2 o3) (.int .i64 1)).run Tryz.prog w = .ok (.pointer (some pa1)) w := ixa1
 obtain ⟨pc0,ixc0,pxc0⟩ := elU (k := 0) rq rfl rfl rfl
 obtain ⟨dc0,ec0,_,_,_,_,_,_⟩ := pxc0 w6 (Below.refl _ _)
 rw [hc0.1] at dc0
 rw [hc0.2.1] at ec0
 replace ixc0 : ∀ w,(Instr.indexAt 35 (.slice q1 1 q3) (.int .i64 0)).run Tryz.prog w = .ok (.pointer (some pc0)) w := ixc0
 simp only at da0 ea0 da1 ea1 dc0 ec0
 clear no np nq pxa0 pxa1 pxc0 ro rp rq ha0 ha1 hc0
 go_wp2
 go_ret
 exact ⟨rfl,GB_16.out⟩
end Go.Proofs.YtmklifheakemeaaGreat.Fl
