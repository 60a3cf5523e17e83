/-
  Chapter 10's runs: SubsRuns. Conditions as told.
-/
import Derived.Test.YtncogjpmboglhaaGreatG031
import Derived.Test.YtncogjpmboglhaaGreatG046
set_option maxRecDepth 100000
set_option maxHeartbeats 64000000
namespace Go.Proofs.YtncogjpmboglhaaGreat.Sb
open Go.RowKit Go.Sort Rw YtncogjpmboglhaaGreat.Nm Pr Bk Av Rl
abbrev brS1 : Br := { brS with ent := [⟨(1,0),(2,0),rgP 1 9,2,true⟩] }
abbrev brS2 : Br := { brS with ent := [⟨(1,0),(2,0),rgP 1 9,2,true⟩,⟨(1,0),(3,0),rgP 2 3,2,false⟩] }
theorem run_add1 : addB brS ⟨(1,0),(2,0),rgP 1 9,2,false⟩ = (brS1,true) := rfl
theorem run_add2 : addB brS1 ⟨(1,0),(3,0),rgP 2 3,2,false⟩ = (brS2,false) := rfl
theorem run_take : takeB brS2 (1,0) (2,0) 2 = ({ brS with ent := [⟨(1,0),(3,0),rgP 2 3,2,true⟩] },[⟨(1,0),(3,0),rgP 2 3,2,true⟩],true) := rfl
theorem run_tight : tightB brS2 = true := rfl
theorem rg_ok (lo hi : Int) (h : goodC ((⟨#[97]⟩,.rg lo hi) : Cn) = true ∧ (-9223372036854775808 ≤ lo ∧ lo ≤ 9223372036854775807) ∧ (-9223372036854775808 ≤ hi ∧ hi ≤ 9223372036854775807)) : PredOk (rgP lo hi) :=
 ⟨[(⟨#[97]⟩,.rg lo hi)],⟨List.pairwise_singleton _ _,by simp,by simpa using h.1,by
  intro c hc
  rw [List.mem_singleton.1 hc]
  exact ⟨by simp [ByteArray.size],by simp [kT,ByteArray.size],h.2.1,h.2.2⟩⟩,rfl⟩
theorem brS_few : Few brS := ⟨by simp,by simp,by simp,by simp,by simp⟩
theorem brS_fewp : FewP brS := ⟨by simp,by simp,by simp⟩
theorem brS1_few : Few brS1 := ⟨by simp,by simp,by simp,by simp,by simp⟩
theorem brS1_fewp : FewP brS1 := ⟨by simp,by simp,by simp⟩
theorem brS2_few : Few brS2 := ⟨by simp,by simp,by simp,by simp,by simp⟩
theorem brS2_fewp : FewP brS2 := ⟨by simp,by simp,by simp⟩
theorem brS2_rise : RiseE brS2.ent := by decide
theorem brS2_ok : ∀ e ∈ brS2.ent,PredOk e.p := by
 intro e he
 rcases List.mem_cons.1 he with rfl | he
 ·exact rg_ok 1 9 (by decide)
 ·rw [List.mem_singleton.1 he]; exact rg_ok 2 3 (by decide)
theorem sto_below {w W x : World} {bb : Nat} (h : Below w.heap.size w W) (hb : w.heap.size ≤ bb) (hs : Rg.Sto bb W x) : Below w.heap.size w x := h.trans (hs.2 _ hb)
theorem sruns_any (w : World) : Calls Tryz.prog 29 #[] w fun e w' => e = .returned (.bool true) ∧ Below w.heap.size w w' := by
 have n0 := newB w (.cells #[.int .i64 1,.int .i64 0] 38)
 have X := Lib.hid (box_new w #[.int .i64 1,.int .i64 0] 38)
 have B0 := Lib.hid n0
 have SZ := Lib.hid (show (w.alloc (.cells #[.int .i64 1,.int .i64 0] 38)).heap.size = w.heap.size + 1 by simp)
 clear n0
 go_enter Tryz.func29,Tryz.ntmps29
 go_upto_region 3 with fail
 generalize w.alloc (.cells #[.int .i64 1,.int .i64 0] 38) = W at *
 refine sr3 _ W w.heap.size _ _ _ _ _ _ _ _ _ _ _ _ _ _ _ _ _ _ _ _ _ _ _ _ _ _ _ _ _ _ _ _ _ _ _ _ _ _ _ _ _ _ _ _ _ _ _ _ _ _ _ _ _ _ _ _ _ _ _ _ _ _ _ _ _ _ _ _ _ _ _ _ _ _ _ _ _ X.out ?_
 intro x bb v11 v12 v13 v14 v15 v16 v17 v18 m1 m2 m3 m4 m5 m6 m7 m8 m9 m10 m11 m12 m13 m14 m15 hbb hbox hbr hbel
 have XB := Lib.hid hbox
 have BR := Lib.hid hbr
 have XT := Lib.hid (X.out.on hbel)
 have B1 := Lib.hid (B0.out.trans (hbel.mono B0.out.size))
 have BL := Lib.hid (show w.heap.size + 1 ≤ bb by have := SZ.out; omega)
 clear hbb hbox hbr hbel X B0 SZ
 go_upto_region 4 with fail
 refine sr4 _ x bb w.heap.size brS m1 m2 m3 m4 m5 m6 m7 m8 m9 m10 m11 m12 m13 m14 m15 _ _ _ _ _ _ _ _ _ _ _ _ _ _ _ _ _ _ _ _ _ _ _ _ _ _ _ _ _ _ _ _ _ _ _ _ _ _ _ _ _ _ _ _ _ _ _ _ _ _ _ _ _ _ _ _ _ _ _ _ _ _ _ _ _ _ _ _ _ _ _ _ _ _ _ XT.out XB.out BR.out brS_few brS_fewp (List.Pairwise.nil) (by simp) (rg_ok 1 9 (by decide)) ?_
 intro x2 v19 v20 v21 v22 v23 v24 v25 v26 v27 v28 n1 n2 n3 n4 n5 n6 n7 n8 n9 n10 n11 n12 n13 n14 n15 hbox hbr hsto
 rw [run_add1] at hbox hbr ⊢
 have XB2 := Lib.hid hbox
 have BR2 := Lib.hid hbr
 have XT2 := Lib.hid (hsto.1.box XT.out (by have := BL.out; omega))
 have B2 := Lib.hid (sto_below B1.out (by have := BL.out; omega) hsto)
 clear hbox hbr hsto XT XB BR B1
 go_upto_region 5 with fail
 refine sr5 _ x2 bb w.heap.size brS1 n1 n2 n3 n4 n5 n6 n7 n8 n9 n10 n11 n12 n13 n14 n15 _ _ _ _ _ _ _ _ _ _ _ _ _ _ _ _ _ _ _ _ _ _ _ _ _ _ _ _ _ _ _ _ _ _ _ _ _ _ _ _ _ _ _ _ _ _ _ _ _ _ _ _ _ _ _ _ _ _ _ _ _ _ _ _ _ _ _ _ _ _ _ _ _ _ _ XT2.out XB2.out BR2.out brS1_few brS1_fewp (List.pairwise_singleton _ _) (by intro e he; rw [List.mem_singleton.1 he]; exact rg_ok 1 9 (by decide)) (rg_ok 2 3 (by decide)) ?_
 intro x3 v29 v30 v31 v32 v33 v34 v35 v36 v37 v38 k1 k2 k3 k4 k5 k6 k7 k8 k9 k10 k11 k12 k13 k14 k15 hbox hbr hsto
 rw [run_add2] at hbox hbr ⊢
 have XB3 := Lib.hid hbox
 have BR3 := Lib.hid hbr
 have XT3 := Lib.hid (hsto.1.box XT2.out (by have := BL.out; omega))
 have B3 := Lib.hid (sto_below B2.out (by have := BL.out; omega) hsto)
 clear hbox hbr hsto XT2 XB2 BR2 B2
 obtain ⟨b0,b1,b2,b3,b4,b5⟩ := XB3.out.cs6
 obtain ⟨t0,t1⟩ := XT3.out.cs2
 go_wp2_with fail
 refine (stake_any brS2 (k1,k2,k3) (k4,k5,k6) (k7,k8,k9) (k10,k11,k12) (k13,k14,k15) (1,0) (2,0) 2 x3 BR3.out.br brS2_few brS2_fewp brS2_rise brS2_ok).mono ?_
 rw [run_take]
 rintro e4 x4 ⟨⟨⟨h1,h2,h3⟩,⟨h4,h5,h6⟩,⟨h7,h8,h9⟩,⟨h10,h11,h12⟩,⟨h13,h14,h15⟩,⟨l1,l2,l3⟩,lu,rfl,_,hr,ha,_⟩,hb⟩
 have nb := newB x4 (.cells #[.int .i64 0,.slice h1 h2 h3,.slice h4 h5 h6,.slice h7 h8 h9,.slice h10 h11 h12,.slice h13 h14 h15] 31)
 have hb4 := hb.trans (nb.mono hb.size)
 have XB4 := Lib.hid (XB3.out.on hb4)
 have BR4 := Lib.hid (BR3.out.on hb4)
 have B4 := Lib.hid (B3.out.trans (hb4.mono B3.out.size))
 have HR := Lib.hid (hr.on nb)
 obtain ⟨y,rfl,hy⟩ : ∃ y,lu = [y] ∧ EnIn x4 y ⟨(1,0),(3,0),rgP 2 3,2,true⟩ := by
  match lu,ha with
  | [y],.cons q .nil => exact ⟨y,rfl,q⟩
 have hl : ([y] : List XEn).length = l2 := sl_len hr
 obtain rfl : l2 = 1 := hl.symm
 obtain ⟨p,ix,px⟩ := elN (k := 0) HR.out rfl rfl rfl
 obtain ⟨p0,p1,p2,p3,p4,p5,p6⟩ := px _ (Below.refl _ _)
 obtain ⟨y1,y2,y3,y4,⟨yo,yn,yc⟩,y6,y7⟩ := y
 have hy2 : ((y3,y4) : XID) = (3,0) := hy.2.1
 have hy7 : y7 = true := hy.2.2.2.1
 subst hy7
 clear hy
 obtain ⟨rfl,rfl⟩ : y3 = 3 ∧ y4 = 0 := by simpa using hy2
 simp only at p2 p3 p6
 replace ix : ∀ w,(Instr.indexAt 28 (.slice l1 1 l3) (.int .i64 0)).run Tryz.prog w = .ok (.pointer (some p)) w := ix
 have he := eqId 3 0 3 0 true rfl
 clear b0 b1 b2 b3 b4 b5
 clear t0 t1
 clear hb nb hb4 hr ha px hy2 p0 p1 p4 p5 XB3 BR3 B3 hl
 obtain ⟨b0,b1,b2,b3,b4,b5⟩ := XB4.out.cs6
 go_wp2_with fail
 refine (stight_any brS2 (k1,k2,k3) (k4,k5,k6) (k7,k8,k9) (k10,k11,k12) (k13,k14,k15) _ BR4.out.br brS2_rise (by simp) brS2_ok).mono ?_
 rw [run_tight]
 rintro e5 x5 ⟨rfl,hb⟩
 go_wp2
 go_ret
 exact ⟨rfl,B4.out.trans (hb.mono B4.out.size)⟩
end Go.Proofs.YtncogjpmboglhaaGreat.Sb
