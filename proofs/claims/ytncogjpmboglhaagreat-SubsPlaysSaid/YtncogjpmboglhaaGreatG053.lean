/-
  Chapter 10's law of any calls: SubsPlays. Conditions as told.
-/
import Derived.Test.YtncogjpmboglhaaGreatG051
import Derived.Test.YtncogjpmboglhaaGreatG031
import Derived.Test.YtncogjpmboglhaaGreatG025
import Derived.Test.YtncogjpmboglhaaGreatG052
import Derived.Test.YtncogjpmboglhaaGreatG030
set_option maxRecDepth 100000
set_option maxHeartbeats 64000000
namespace Go.Proofs.YtncogjpmboglhaaGreat.Sb
open Go.RowKit Go.Sort Rw YtncogjpmboglhaaGreat.Nm Pr Bk Av Rl
theorem splays_any (v : Value) (n : Nat) (w : World) (iq : InQ10 w v n) (ln : n ≤ maxLen) :
  Calls Tryz.prog 4 #[v] w fun e w' => e = .returned (.bool true) ∧ Below w.heap.size w w' := by
 obtain ⟨ao,ac,rfl⟩ := iq.shape
 have IQ := Lib.hid iq
 have LN := Lib.hid ln
 clear iq ln
 go_enter Tryz.func4,Tryz.ntmps4
 go_wp2_with fail
 have hl := row_lit Nm.okI w [1,2,3] 3 rfl (by simp) #[.int .i64 1,.int .i64 2,.int .i64 3] (by rfl)
 have N1 := newB w (.cells #[.int .i64 1,.int .i64 2,.int .i64 3] 3)
 refine (anew_any 0 (some ⟨w.heap.size,0,none⟩,3,3) [1,2,3] _ (Row.of_own hl) (by simp)).mono ?_
 rintro e1 w1 ⟨⟨l',⟨m1,m2,m3⟩,rfl,hbr,⟨B,ho⟩,hp,hm⟩,hb⟩
 obtain rfl : l' = [1,2,3] := rise_uniq hp (by simp) (fun x => hm x)
 have BR := Lib.hid (BrN.mk hbr ⟨B,ho⟩)
 have G1 := Lib.hid (N1.trans (hb.mono N1.size))
 have hl2 := row_lit Nm.okI w1 [1,2,3] 3 rfl (by simp) #[.int .i64 1,.int .i64 2,.int .i64 3] (by rfl)
 have WS := Lib.hid (show w.heap.size ≤ w1.heap.size from Nat.le_trans (by simp) hb.size)
 have M1 := newB w1 (.cells #[.int .i64 1,.int .i64 2,.int .i64 3] 3)
 have OR := Lib.hid (show BrN (w1.alloc (.cells #[.int .i64 1,.int .i64 2,.int .i64 3] 3)) (newB0 0 [1,2,3]) (some ⟨w1.heap.size,0,none⟩,3,3) (none,0,0) (none,0,0) (none,0,0) (none,0,0) from ⟨brin_nil _ 0 (Row.of_own hl2),_,hl2⟩)
 clear hl N1 hbr ho hp hm hb hl2
 go_upto_region 2 with fail
 have M2 := newB (w1.alloc (.cells #[.int .i64 1,.int .i64 2,.int .i64 3] 3)) (.cells #[.int .i64 0,.slice m1 m2 m3,.slice none 0 0,.slice none 0 0,.slice none 0 0,.slice none 0 0] 31)
 have M3 := newB ((w1.alloc (.cells #[.int .i64 1,.int .i64 2,.int .i64 3] 3)).alloc (.cells #[.int .i64 0,.slice m1 m2 m3,.slice none 0 0,.slice none 0 0,.slice none 0 0,.slice none 0 0] 31)) (.cells #[.int .i64 0,.slice (some ⟨w1.heap.size,0,none⟩) 3 3,.slice none 0 0,.slice none 0 0,.slice none 0 0,.slice none 0 0] 31)
 have MM := M2.trans (M3.mono M2.size)
 have MA := M1.trans (MM.mono M1.size)
 have X3_1 := Lib.hid ((box_new (w1.alloc (.cells #[.int .i64 1,.int .i64 2,.int .i64 3] 3)) #[.int .i64 0,.slice m1 m2 m3,.slice none 0 0,.slice none 0 0,.slice none 0 0,.slice none 0 0] 31).on M3)
 have X4_1 := Lib.hid (box_new ((w1.alloc (.cells #[.int .i64 1,.int .i64 2,.int .i64 3] 3)).alloc (.cells #[.int .i64 0,.slice m1 m2 m3,.slice none 0 0,.slice none 0 0,.slice none 0 0,.slice none 0 0] 31)) #[.int .i64 0,.slice (some ⟨w1.heap.size,0,none⟩) 3 3,.slice none 0 0,.slice none 0 0,.slice none 0 0,.slice none 0 0] 31)
 rw [show (w1.alloc (.cells #[.int .i64 1,.int .i64 2,.int .i64 3] 3)).heap.size = w1.heap.size + 1 from (more_one _ _).symm] at X3_1
 rw [show ((w1.alloc (.cells #[.int .i64 1,.int .i64 2,.int .i64 3] 3)).alloc (.cells #[.int .i64 0,.slice m1 m2 m3,.slice none 0 0,.slice none 0 0,.slice none 0 0,.slice none 0 0] 31)).heap.size = w1.heap.size + 1 + 1 from by simp] at X4_1
 have G1_1 := Lib.hid (G1.out.trans (MA.mono G1.out.size))
 have BR_1 := Lib.hid (BR.out.on MA)
 have OR_1 := Lib.hid (OR.out.on MM)
 clear G1 BR OR
 clear M1 M2 M3 MM MA
 generalize (((w1.alloc (.cells #[.int .i64 1,.int .i64 2,.int .i64 3] 3)).alloc (.cells #[.int .i64 0,.slice m1 m2 m3,.slice none 0 0,.slice none 0 0,.slice none 0 0,.slice none 0 0] 31)).alloc (.cells #[.int .i64 0,.slice (some ⟨w1.heap.size,0,none⟩) 3 3,.slice none 0 0,.slice none 0 0,.slice none 0 0,.slice none 0 0] 31)) = W at *
 generalize hb3 : w1.heap.size + 1 = b3 at *
 generalize hb4 : b3 + 1 = b4 at *
 have L3 : w.heap.size ≤ b3 := by have h1 := WS.out; omega
 have L4 : w.heap.size ≤ b4 := by omega
 have N34 : b3 ≠ b4 := by omega
 clear hb3 hb4 WS
 go_wp2_with fail
 go_loopw [5] (fun i wr => ∃ (k : Nat) (b : Br) (s1 : Option Addr) (s2 s3 : Nat) (s4 : Option Addr) (s5 s6 : Nat) (s7 : Option Addr) (s8 s9 : Nat) (s10 : Option Addr) (s11 s12 : Nat) (s13 : Option Addr) (s14 s15 : Nat) (o1 : Option Addr) (o2 o3 : Nat) (o4 : Option Addr) (o5 o6 : Nat) (o7 : Option Addr) (o8 o9 : Nat) (o10 : Option Addr) (o11 o12 : Nat) (o13 : Option Addr) (o14 o15 : Nat),k ≤ 30 ∧ k ≤ n ∧ i = .int .i64 k ∧ PlI b k ∧ Box wr b3 #[.int .i64 b.me,.slice s1 s2 s3,.slice s4 s5 s6,.slice s7 s8 s9,.slice s10 s11 s12,.slice s13 s14 s15] 31 ∧ Box wr b4 #[.int .i64 b.me,.slice o1 o2 o3,.slice o4 o5 o6,.slice o7 o8 o9,.slice o10 o11 o12,.slice o13 o14 o15] 31 ∧ BrN wr b (s1,s2,s3) (s4,s5,s6) (s7,s8,s9) (s10,s11,s12) (s13,s14,s15) ∧ BrN wr b (o1,o2,o3) (o4,o5,o6) (o7,o8,o9) (o10,o11,o12) (o13,o14,o15) ∧ Below w.heap.size w wr) (fun i _ => 30 - (intOf i).toNat)
 case atStart => exact ⟨0,newB0 0 [1,2,3],m1,m2,m3,none,0,0,none,0,0,none,0,0,none,0,0,some ⟨w1.heap.size,0,none⟩,3,3,none,0,0,none,0,0,none,0,0,none,0,0,Nat.zero_le _,Nat.zero_le _,rfl,pl_new,X3_1.out,X4_1.out,BR_1.out,OR_1.out,G1_1.out⟩
 case round =>
  obtain ⟨k,b,s1,s2,s3,s4,s5,s6,s7,s8,s9,s10,s11,s12,s13,s14,s15,o1,o2,o3,o4,o5,o6,o7,o8,o9,o10,o11,o12,o13,o14,o15,hk,hkn,rfl,hpi,hx3,hx4,hn3,hn4,hbel⟩ := hrel
  have PI_1 := Lib.hid (hpi)
  have X3_2 := Lib.hid (hx3)
  have X4_3 := Lib.hid (hx4)
  have N3_4 := Lib.hid (hn3)
  have N4_5 := Lib.hid (hn4)
  have GB_6 := Lib.hid (hbel)
  clear hpi hx3 hx4 hn3 hn4 hbel X3_1 X4_1 G1_1 BR_1 OR_1
  by_cases hlt : k < n ∧ k < 30
  ·obtain ⟨hn,h30⟩ := hlt
   have hn' : (k : Int) < (n : Int) := by omega
   have h30' : (k : Int) < 30 := by omega
   obtain ⟨p,z0,z1,z2,z3,z4,h1,h2,h3,g1,g2,g3,has,vals,hpl,hix,hpc,⟨d0,d1,d2,d3,d4⟩,hih,hiv,hlh,hlv⟩ := (IQ.out.on GB_6.out).at_ k hn
   have p0 := hpc 0 _ rfl
   have p1 := hpc 1 _ rfl
   have p2 := hpc 2 _ rfl
   have p3 := hpc 3 _ rfl
   have p4 := hpc 4 _ rfl
   have p5 := hpc 5 _ rfl
   have p6 := hpc 6 _ rfl
   simp [Addr.add] at p0 p1 p2 p3 p4 p5 p6
   have D1_7 := Lib.hid (d1)
   have D2_8 := Lib.hid (d2)
   have D3_9 := Lib.hid (d3)
   have D4_10 := Lib.hid (d4)
   have LH_11 := Lib.hid (hlh)
   have LV_12 := Lib.hid (hlv)
   have IH_13 := Lib.hid (hih)
   have IV_14 := Lib.hid (hiv)
   clear hpc d0 d1 d2 d3 d4 hih hiv hlh hlv
   conv => enter [2,2,1,2,2,2,2,2,2]; change plKC
   go_upto_region 6 with fail
   clear p0 p1 p2 p3 p4 p5 p6 hix hpl
   have NN := newB wr (.cells #[.int .i64 z0,.int .i64 z1,.int .i64 z2,.int .i64 z3,.int .i64 z4,.slice h1 h2 h3,.slice g1 g2 g3] 55)
   have X3_15 := Lib.hid (X3_2.out.on NN)
   have X4_15 := Lib.hid (X4_3.out.on NN)
   have N3_15 := Lib.hid (N3_4.out.on NN)
   have N4_15 := Lib.hid (N4_5.out.on NN)
   have GB_15 := Lib.hid (GB_6.out.trans (NN.mono GB_6.out.size))
   have IH_15 := Lib.hid (IH_13.out.on NN)
   have IV_15 := Lib.hid (IV_14.out.on NN)
   clear X3_2 X4_3 N3_4 N4_5 GB_6 IH_13 IV_14
   clear NN
   have XQ_16 := Lib.hid (box_new wr #[.int .i64 z0,.int .i64 z1,.int .i64 z2,.int .i64 z3,.int .i64 z4,.slice h1 h2 h3,.slice g1 g2 g3] 55)
   generalize wr.alloc (.cells #[.int .i64 z0,.int .i64 z1,.int .i64 z2,.int .i64 z3,.int .i64 z4,.slice h1 h2 h3,.slice g1 g2 g3] 55) = wq at *
   generalize wr.heap.size = bq at *
   obtain ⟨xq0,xq1,xq2,xq3,xq4,xq5,xq6⟩ := XQ_16.out.cs7
   have WI := Wi.within_any z1 0 1 wq (by decide) (by decide) (by decide) D1_7.out.1 D1_7.out.2
   generalize Wi.within z1 0 1 = tt at *
   go_wp2_with fail
   refine WI.mono ?_
   rintro e2 w2 ⟨rfl,rfl⟩
   clear WI
   go_upto_region 7 with fail
   clear xq0 xq1 xq2 xq3 xq4 xq5 xq6
   have NN := newB wq (.cells #[.int .i64 tt,.int .i64 0] 38)
   have X3_17 := Lib.hid (X3_15.out.on NN)
   have X4_17 := Lib.hid (X4_15.out.on NN)
   have N3_17 := Lib.hid (N3_15.out.on NN)
   have N4_17 := Lib.hid (N4_15.out.on NN)
   have GB_17 := Lib.hid (GB_15.out.trans (NN.mono GB_15.out.size))
   have IH_17 := Lib.hid (IH_15.out.on NN)
   have IV_17 := Lib.hid (IV_15.out.on NN)
   have XQ_17 := Lib.hid (XQ_16.out.on NN)
   clear X3_15 X4_15 N3_15 N4_15 GB_15 IH_15 IV_15 XQ_16
   clear NN
   have XT_18 := Lib.hid (box_new wq #[.int .i64 tt,.int .i64 0] 38)
   generalize wq.alloc (.cells #[.int .i64 tt,.int .i64 0] 38) = wt at *
   generalize wq.heap.size = bt at *
   refine play7 _ wt bq z0 z1 z2 z3 z4 h1 h2 h3 g1 g2 g3 _ _ _ _ _ _ _ _ _ _ _ _ _ _ _ _ _ _ _ _ _ _ _ _ _ _ _ _ _ _ _ _ _ _ _ _ _ _ _ _ _ _ _ _ _ _ _ _ _ _ _ _ _ _ _ _ _ _ _ _ _ _ _ _ _ _ _ _ _ _ _ _ _ _ _ _ _ _ _ _ _ _ _ _ _ _ _ _ _ _ _ _ _ _ _ _ _ _ _ _ _ _ _ _ _ _ _ _ _ _ _ _ _ _ _ _ _ _ _ _ _ _ _ _ _ _ _ _ _ _ _ _ _ _ _ _ _ _ _ _ _ _ _ _ _ _ _ _ _ _ _ _ _ _ _ _ _ _ _ _ _ _ _ _ _ _ _ _ _ _ _ _ _ _ _ _ _ _ _ _ _ _ _ _ _ _ _ _ _ _ _ _ _ _ _ _ _ _ _ _ _ _ _ _ _ _ _ _ _ _ _ _ _ _ _ _ _ _ _ _ _ _ XQ_17.out D2_8.out D3_9.out ?_
   intro x bs v46 v47 v48 v49 v50 v51 v52 hbs hbox hbel
   have X3_19 := Lib.hid (X3_17.out.on hbel)
   have X4_19 := Lib.hid (X4_17.out.on hbel)
   have N3_19 := Lib.hid (N3_17.out.on hbel)
   have N4_19 := Lib.hid (N4_17.out.on hbel)
   have GB_19 := Lib.hid (GB_17.out.trans (hbel.mono GB_17.out.size))
   have IH_19 := Lib.hid (IH_17.out.on hbel)
   have IV_19 := Lib.hid (IV_17.out.on hbel)
   have XQ_19 := Lib.hid (XQ_17.out.on hbel)
   have XT_19 := Lib.hid (XT_18.out.on hbel)
   clear X3_17 X4_17 N3_17 N4_17 GB_17 IH_17 IV_17 XQ_17 XT_18
   have XS_20 := Lib.hid (hbox)
   clear hbel hbox hbs
   generalize Wi.within z2 0 3 = c1 at *
   generalize Wi.within z3 0 1 = c2 at *
   obtain ⟨xq0,xq1,xq2,xq3,xq4,xq5,xq6⟩ := XQ_19.out.cs7
   have WI := Wi.within_any z4 (-1) 3 x (by decide) (by decide) (by decide) D4_10.out.1 D4_10.out.2
   have WB := Wi.within_bd z4 (-1) 3 (by decide)
   generalize Wi.within z4 (-1) 3 = f at *
   go_wp2_with fail
   refine WI.mono ?_
   rintro e3 w3 ⟨rfl,rfl⟩
   clear WI
   clear xq0 xq1 xq2 xq3 xq4 xq5 xq6
   rcases hf0 : (f == (0 : Int)) with _ | _
   ·have HF := Lib.hid (show (f : Int) = -1 ∨ (f : Int) = 1 ∨ (f : Int) = 2 ∨ (f : Int) = 3 from by (have h0 : f ≠ 0 := (by simpa using hf0); omega))
    go_wp2
    clear WB hf0
    refine pl_k _ w _ b k b3 b4 bt bs bq s1 s2 s3 s4 s5 s6 s7 s8 s9 s10 s11 s12 s13 s14 s15 o1 o2 o3 o4 o5 o6 o7 o8 o9 o10 o11 o12 o13 o14 o15 tt c1 c2 f z0 z1 z2 z3 z4 h1 h2 h3 g1 g2 g3 has vals GB_19.out L3 L4 N34 X3_19.out X4_19.out XT_19.out XS_20.out XQ_19.out N3_19.out N4_19.out PI_1.out (by omega) HF.out IH_19.out IV_19.out LH_11.out LV_12.out _ _ _ _ _ _ _ _ _ _ _ _ _ _ _ _ _ _ _ _ _ _ _ _ _ _ _ _ _ _ _ _ _ _ _ _ _ _ _ _ _ _ _ _ _ _ _ _ _ _ _ _ _ _ _ _ _ _ _ _ _ _ _ _ _ _ _ _ _ _ _ _ _ _ _ _ _ _ _ _ _ _ _ _ _ _ _ _ _ _ _ _ _ _ _ _ _ _ _ _ _ _ _ _ _ _ _ _ _ _ _ _ _ _ _ _ _ _ _ _ _ _ _ _ _ _ _ _ _ _ _ _ _ _ _ _ _ _ _ _ _ _ _ _ _ _ _ _ _ _ _ _ _ _ _ _ _ _ _ _ _ _ _ _ _ _ _ _ _ _ _ _ _ _ _ _ _ _ _ _ _ _ _ _ _ _ _ _ _ _ _ _ _ _ _ _ _ _ _ _ _ _ _ _ _ _ _ _ _ _ _ _ _ _ _ _ _ ?_
    intro x9 nb r1 r2 r3 r4 r5 r6 r7 r8 r9 r10 r11 r12 r13 r14 r15 q1 q2 q3 q4 q5 q6 q7 q8 q9 q10 q11 q12 q13 q14 q15 v2 v10 v11 v12 v13 v14 v15 v16 v17 v18 v19 v20 v21 v23 v58 v59 v60 v61 v62 v63 v64 v65 v66 v67 v68 v69 v70 v71 v72 v73 v74 v75 v76 v77 v78 v79 v80 v81 v82 v83 v84 v85 v86 v87 v88 v89 v90 v91 v92 v93 v94 v95 v96 v97 v98 v99 v100 v101 v102 v103 v104 v105 v106 v107 v108 v109 v110 v111 v112 v113 v114 v115 v116 v117 v118 v119 v120 v121 v122 v123 v124 v125 v126 v127 v128 v129 v130 v131 v132 v133 v134 v135 v136 v137 v138 v139 v140 v141 v142 v143 v144 v145 v146 v147 v148 v149 v150 v151 v152 v153 v154 v155 v156 v157 v158 v159 v160 v161 v162 v163 v164 v165 v166 v167 v168 v169 v170 v171 v172 v173 v174 v175 v176 v177 v178 v179 v180 v181 v182 v183 v184 v185 v186 v187 v188 v189 v190 v191 v192 v193 v194 v195 v196 v197 v198 v199 v200 v201 v202 v203 v204 v205 v206 v207 v208 v209 v210 v211 v212 v213 v214 v215 v216 v217 v218 v219 v220 v221 hpi hx3 hx4 hn3 hn4 hbel
    go_wp2_with fail
    go_roundw
    case rel => exact ⟨k + 1,nb,r1,r2,r3,r4,r5,r6,r7,r8,r9,r10,r11,r12,r13,r14,r15,q1,q2,q3,q4,q5,q6,q7,q8,q9,q10,q11,q12,q13,q14,q15,by omega,by omega,by go_num,hpi,hx3,hx4,hn3,hn4,hbel⟩
    case measure => simp [intOf]; omega
   ·go_wp2
    clear WB hf0
    refine pl_k _ w _ b k b3 b4 bt bs bq s1 s2 s3 s4 s5 s6 s7 s8 s9 s10 s11 s12 s13 s14 s15 o1 o2 o3 o4 o5 o6 o7 o8 o9 o10 o11 o12 o13 o14 o15 tt c1 c2 (-1) z0 z1 z2 z3 z4 h1 h2 h3 g1 g2 g3 has vals GB_19.out L3 L4 N34 X3_19.out X4_19.out XT_19.out XS_20.out XQ_19.out N3_19.out N4_19.out PI_1.out (by omega) (Or.inl rfl) IH_19.out IV_19.out LH_11.out LV_12.out _ _ _ _ _ _ _ _ _ _ _ _ _ _ _ _ _ _ _ _ _ _ _ _ _ _ _ _ _ _ _ _ _ _ _ _ _ _ _ _ _ _ _ _ _ _ _ _ _ _ _ _ _ _ _ _ _ _ _ _ _ _ _ _ _ _ _ _ _ _ _ _ _ _ _ _ _ _ _ _ _ _ _ _ _ _ _ _ _ _ _ _ _ _ _ _ _ _ _ _ _ _ _ _ _ _ _ _ _ _ _ _ _ _ _ _ _ _ _ _ _ _ _ _ _ _ _ _ _ _ _ _ _ _ _ _ _ _ _ _ _ _ _ _ _ _ _ _ _ _ _ _ _ _ _ _ _ _ _ _ _ _ _ _ _ _ _ _ _ _ _ _ _ _ _ _ _ _ _ _ _ _ _ _ _ _ _ _ _ _ _ _ _ _ _ _ _ _ _ _ _ _ _ _ _ _ _ _ _ _ _ _ _ _ _ _ _ ?_
    intro x9 nb r1 r2 r3 r4 r5 r6 r7 r8 r9 r10 r11 r12 r13 r14 r15 q1 q2 q3 q4 q5 q6 q7 q8 q9 q10 q11 q12 q13 q14 q15 v2 v10 v11 v12 v13 v14 v15 v16 v17 v18 v19 v20 v21 v23 v58 v59 v60 v61 v62 v63 v64 v65 v66 v67 v68 v69 v70 v71 v72 v73 v74 v75 v76 v77 v78 v79 v80 v81 v82 v83 v84 v85 v86 v87 v88 v89 v90 v91 v92 v93 v94 v95 v96 v97 v98 v99 v100 v101 v102 v103 v104 v105 v106 v107 v108 v109 v110 v111 v112 v113 v114 v115 v116 v117 v118 v119 v120 v121 v122 v123 v124 v125 v126 v127 v128 v129 v130 v131 v132 v133 v134 v135 v136 v137 v138 v139 v140 v141 v142 v143 v144 v145 v146 v147 v148 v149 v150 v151 v152 v153 v154 v155 v156 v157 v158 v159 v160 v161 v162 v163 v164 v165 v166 v167 v168 v169 v170 v171 v172 v173 v174 v175 v176 v177 v178 v179 v180 v181 v182 v183 v184 v185 v186 v187 v188 v189 v190 v191 v192 v193 v194 v195 v196 v197 v198 v199 v200 v201 v202 v203 v204 v205 v206 v207 v208 v209 v210 v211 v212 v213 v214 v215 v216 v217 v218 v219 v220 v221 hpi hx3 hx4 hn3 hn4 hbel
    go_wp2_with fail
    go_roundw
    case rel => exact ⟨k + 1,nb,r1,r2,r3,r4,r5,r6,r7,r8,r9,r10,r11,r12,r13,r14,r15,q1,q2,q3,q4,q5,q6,q7,q8,q9,q10,q11,q12,q13,q14,q15,by omega,by omega,by go_num,hpi,hx3,hx4,hn3,hn4,hbel⟩
    case measure => simp [intOf]; omega
  ·have hx : n ≤ k ∨ (k < n ∧ 30 ≤ k) := by omega
   rcases hx with hx | ⟨hx,hy⟩
   all_goals
    first | (have q1 : ¬ ((k : Int) < (n : Int)) := (by omega)) | (have q1 : (k : Int) < (n : Int) := (by omega); have q2 : ¬ ((k : Int) < 30) := (by omega))
    go_wp2_with fail
    refine (sruns_any wr).mono ?_
    rintro e8 w8 ⟨rfl,hb⟩
    go_wp2
    go_ret
    exact ⟨rfl,GB_6.out.trans (hb.mono GB_6.out.size)⟩
end Go.Proofs.YtncogjpmboglhaaGreat.Sb
