/-
  SubsPlays: a round from its predicate on. Conditions as told.
-/
import Derived.Test.YtncogjpmboglhaaGreatG050
import Derived.Test.YtncogjpmboglhaaGreatG031
import Derived.Test.YtncogjpmboglhaaGreatG024
import Derived.Test.YtncogjpmboglhaaGreatG030
import Derived.Test.YtncogjpmboglhaaGreatG027
import Derived.Test.YtncogjpmboglhaaGreatG010
import Derived.Test.YtncogjpmboglhaaGreatG013
set_option maxRecDepth 100000
set_option maxHeartbeats 64000000
namespace Go.Proofs.YtncogjpmboglhaaGreat.Sb
open Go.RowKit Go.Sort Rw YtncogjpmboglhaaGreat.Nm Pr Bk Av Rl
theorem takeB_me (b : Br) (t s : XID) (f : Int) : (takeB b t s f).1.me = b.me ∧ (takeB b t s f).1.near = b.near := by
 unfold takeB
 split
 ·exact ⟨rfl,rfl⟩
 ·split
  ·exact ⟨rfl,rfl⟩
  ·split
   ·exact ⟨rfl,rfl⟩
   ·split <;> exact ⟨rfl,rfl⟩
theorem pl_taken {b : Br} {n : Nat} (h : PlI b n) (t s : XID) (f : Int) : ∀ e ∈ (takeB b t s f).2.1,PredOk e.p := by
 unfold takeB
 split
 ·intro e he; simp at he
 ·split
  ·intro e he; simp at he
  ·split
   ·intro e he; simp at he
   ·split
    ·intro e he; simp at he
    ·exact (takeK_ok PredOk (fun e he => h.pe e (mem_cut he)) _).2
theorem pl_taken_len (b : Br) (t s : XID) (f : Int) : (takeB b t s f).2.1.length ≤ b.ent.length := by
 unfold takeB
 split
 ·exact Nat.zero_le _
 ·split
  ·exact Nat.zero_le _
  ·split
   ·exact Nat.zero_le _
   ·split
    ·exact Nat.zero_le _
    ·exact Nat.le_trans (takeK_len _ _ _).2 (List.Sublist.length_le (cut_sub _ _))
theorem same_up (l : List En) : sameG eqE l l = true := sameG_all l l rfl fun k x y h1 h2 => by
 rw [h1] at h2
 obtain rfl := Option.some.inj h2
 exact (eqE_iff x x).2 rfl
noncomputable def plKC : Code := nav [2,2,1,2,3,4,2,1,3,2,2,2,2,2] (Tryz.f4.body.getD .skip)
theorem pl_k (Q : Exit → Act → World → Prop) (w W : World) (b : Br) (n b3 b4 bt bs bq : Nat) (s1 : Option Addr) (s2 s3 : Nat) (s4 : Option Addr) (s5 s6 : Nat) (s7 : Option Addr) (s8 s9 : Nat) (s10 : Option Addr) (s11 s12 : Nat) (s13 : Option Addr) (s14 s15 : Nat) (o1 : Option Addr) (o2 o3 : Nat) (o4 : Option Addr) (o5 o6 : Nat) (o7 : Option Addr) (o8 o9 : Nat) (o10 : Option Addr) (o11 o12 : Nat) (o13 : Option Addr) (o14 o15 : Nat) (tt c1 c2 f z0 z1 z2 z3 z4 : Int) (h1 : Option Addr) (h2 h3 : Nat) (g1 : Option Addr) (g2 g3 : Nat) (has vals : List Int) (gb : Below w.heap.size w W) (L3 : w.heap.size ≤ b3) (L4 : w.heap.size ≤ b4) (N34 : b3 ≠ b4) (x3 : Box W b3 #[.int .i64 b.me,.slice s1 s2 s3,.slice s4 s5 s6,.slice s7 s8 s9,.slice s10 s11 s12,.slice s13 s14 s15] 31) (x4 : Box W b4 #[.int .i64 b.me,.slice o1 o2 o3,.slice o4 o5 o6,.slice o7 o8 o9,.slice o10 o11 o12,.slice o13 o14 o15] 31) (xt : Box W bt #[.int .i64 tt,.int .i64 0] 38) (xs : Box W bs #[.int .i64 c1,.int .i64 c2] 38) (xq : Box W bq #[.int .i64 z0,.int .i64 z1,.int .i64 z2,.int .i64 z3,.int .i64 z4,.slice h1 h2 h3,.slice g1 g2 g3] 55) (n3 : BrN W b (s1,s2,s3) (s4,s5,s6) (s7,s8,s9) (s10,s11,s12) (s13,s14,s15)) (n4 : BrN W b (o1,o2,o3) (o4,o5,o6) (o7,o8,o9) (o10,o11,o12) (o13,o14,o15)) (pi : PlI b n) (hn : n ≤ 40) (hf : f = -1 ∨ f = 1 ∨ f = 2 ∨ f = 3) (ih : In.InInts W (.slice h1 h2 h3) has) (iv : In.InInts W (.slice g1 g2 g3) vals) (lh : has.length ≤ maxLen) (lv : vals.length ≤ maxLen) (u0 u1 u2 u5 u10 u11 u12 u13 u14 u15 u16 u17 u18 u19 u20 u21 u22 u23 u24 u25 u26 u27 u28 u29 u30 u31 u32 u33 u34 u35 u36 u37 u38 u39 u40 u41 u42 u43 u44 u45 u46 u47 u48 u49 u50 u51 u52 u53 u54 u55 u56 u57 u58 u59 u60 u61 u62 u63 u64 u65 u66 u67 u68 u69 u70 u71 u72 u73 u74 u75 u76 u77 u78 u79 u80 u81 u82 u83 u84 u85 u86 u87 u88 u89 u90 u91 u92 u93 u94 u95 u96 u97 u98 u99 u100 u101 u102 u103 u104 u105 u106 u107 u108 u109 u110 u111 u112 u113 u114 u115 u116 u117 u118 u119 u120 u121 u122 u123 u124 u125 u126 u127 u128 u129 u130 u131 u132 u133 u134 u135 u136 u137 u138 u139 u140 u141 u142 u143 u144 u145 u146 u147 u148 u149 u150 u151 u152 u153 u154 u155 u156 u157 u158 u159 u160 u161 u162 u163 u164 u165 u166 u167 u168 u169 u170 u171 u172 u173 u174 u175 u176 u177 u178 u179 u180 u181 u182 u183 u184 u185 u186 u187 u188 u189 u190 u191 u192 u193 u194 u195 u196 u197 u198 u199 u200 u201 u202 u203 u204 u205 u206 u207 u208 u209 u210 u211 u212 u213 u214 u215 u216 u217 u218 u219 u220 u221 u222 : Value)
  (hQ : ∀ (x : World) (nb : Br) (r1 : Option Addr) (r2 r3 : Nat) (r4 : Option Addr) (r5 r6 : Nat) (r7 : Option Addr) (r8 r9 : Nat) (r10 : Option Addr) (r11 r12 : Nat) (r13 : Option Addr) (r14 r15 : Nat) (o1 : Option Addr) (o2 o3 : Nat) (o4 : Option Addr) (o5 o6 : Nat) (o7 : Option Addr) (o8 o9 : Nat) (o10 : Option Addr) (o11 o12 : Nat) (o13 : Option Addr) (o14 o15 : Nat) (v2 v10 v11 v12 v13 v14 v15 v16 v17 v18 v19 v20 v21 v23 v58 v59 v60 v61 v62 v63 v64 v65 v66 v67 v68 v69 v70 v71 v72 v73 v74 v75 v76 v77 v78 v79 v80 v81 v82 v83 v84 v85 v86 v87 v88 v89 v90 v91 v92 v93 v94 v95 v96 v97 v98 v99 v100 v101 v102 v103 v104 v105 v106 v107 v108 v109 v110 v111 v112 v113 v114 v115 v116 v117 v118 v119 v120 v121 v122 v123 v124 v125 v126 v127 v128 v129 v130 v131 v132 v133 v134 v135 v136 v137 v138 v139 v140 v141 v142 v143 v144 v145 v146 v147 v148 v149 v150 v151 v152 v153 v154 v155 v156 v157 v158 v159 v160 v161 v162 v163 v164 v165 v166 v167 v168 v169 v170 v171 v172 v173 v174 v175 v176 v177 v178 v179 v180 v181 v182 v183 v184 v185 v186 v187 v188 v189 v190 v191 v192 v193 v194 v195 v196 v197 v198 v199 v200 v201 v202 v203 v204 v205 v206 v207 v208 v209 v210 v211 v212 v213 v214 v215 v216 v217 v218 v219 v220 v221 : Value),PlI nb (n + 1) → Box x b3 #[.int .i64 nb.me,.slice r1 r2 r3,.slice r4 r5 r6,.slice r7 r8 r9,.slice r10 r11 r12,.slice r13 r14 r15] 31 → Box x b4 #[.int .i64 nb.me,.slice o1 o2 o3,.slice o4 o5 o6,.slice o7 o8 o9,.slice o10 o11 o12,.slice o13 o14 o15] 31 → BrN x nb (r1,r2,r3) (r4,r5,r6) (r7,r8,r9) (r10,r11,r12) (r13,r14,r15) → BrN x nb (o1,o2,o3) (o4,o5,o6) (o7,o8,o9) (o10,o11,o12) (o13,o14,o15) → Below w.heap.size w x → Q .normal ⟨(u0 :: u1 :: v2 :: .pointer (some ⟨b3,0,none⟩) :: .pointer (some ⟨b4,0,none⟩) :: u5 :: .pointer (some ⟨bq,0,none⟩) :: .pointer (some ⟨bt,0,none⟩) :: .pointer (some ⟨bs,0,none⟩) :: .int .i64 f :: v10 :: v11 :: v12 :: v13 :: v14 :: v15 :: v16 :: v17 :: v18 :: v19 :: v20 :: v21 :: u22 :: v23 :: u24 :: u25 :: u26 :: u27 :: u28 :: u29 :: u30 :: u31 :: u32 :: u33 :: u34 :: u35 :: u36 :: u37 :: u38 :: u39 :: u40 :: u41 :: u42 :: u43 :: u44 :: u45 :: u46 :: u47 :: u48 :: u49 :: u50 :: u51 :: u52 :: u53 :: u54 :: u55 :: u56 :: u57 :: v58 :: v59 :: v60 :: v61 :: v62 :: v63 :: v64 :: v65 :: v66 :: v67 :: v68 :: v69 :: v70 :: v71 :: v72 :: v73 :: v74 :: v75 :: v76 :: v77 :: v78 :: v79 :: v80 :: v81 :: v82 :: v83 :: v84 :: v85 :: v86 :: v87 :: v88 :: v89 :: v90 :: v91 :: v92 :: v93 :: v94 :: v95 :: v96 :: v97 :: v98 :: v99 :: v100 :: v101 :: v102 :: v103 :: v104 :: v105 :: v106 :: v107 :: v108 :: v109 :: v110 :: v111 :: v112 :: v113 :: v114 :: v115 :: v116 :: v117 :: v118 :: v119 :: v120 :: v121 :: v122 :: v123 :: v124 :: v125 :: v126 :: v127 :: v128 :: v129 :: v130 :: v131 :: v132 :: v133 :: v134 :: v135 :: v136 :: v137 :: v138 :: v139 :: v140 :: v141 :: v142 :: v143 :: v144 :: v145 :: v146 :: v147 :: v148 :: v149 :: v150 :: v151 :: v152 :: v153 :: v154 :: v155 :: v156 :: v157 :: v158 :: v159 :: v160 :: v161 :: v162 :: v163 :: v164 :: v165 :: v166 :: v167 :: v168 :: v169 :: v170 :: v171 :: v172 :: v173 :: v174 :: v175 :: v176 :: v177 :: v178 :: v179 :: v180 :: v181 :: v182 :: v183 :: v184 :: v185 :: v186 :: v187 :: v188 :: v189 :: v190 :: v191 :: v192 :: v193 :: v194 :: v195 :: v196 :: v197 :: v198 :: v199 :: v200 :: v201 :: v202 :: v203 :: v204 :: v205 :: v206 :: v207 :: v208 :: v209 :: v210 :: v211 :: v212 :: v213 :: v214 :: v215 :: v216 :: v217 :: v218 :: v219 :: v220 :: v221 :: u222 :: []).toArray,[]⟩ x) :
  Code.wp Tryz.prog plKC Q ⟨(u0 :: u1 :: u2 :: .pointer (some ⟨b3,0,none⟩) :: .pointer (some ⟨b4,0,none⟩) :: u5 :: .pointer (some ⟨bq,0,none⟩) :: .pointer (some ⟨bt,0,none⟩) :: .pointer (some ⟨bs,0,none⟩) :: .int .i64 f :: u10 :: u11 :: u12 :: u13 :: u14 :: u15 :: u16 :: u17 :: u18 :: u19 :: u20 :: u21 :: u22 :: u23 :: u24 :: u25 :: u26 :: u27 :: u28 :: u29 :: u30 :: u31 :: u32 :: u33 :: u34 :: u35 :: u36 :: u37 :: u38 :: u39 :: u40 :: u41 :: u42 :: u43 :: u44 :: u45 :: u46 :: u47 :: u48 :: u49 :: u50 :: u51 :: u52 :: u53 :: u54 :: u55 :: u56 :: u57 :: u58 :: u59 :: u60 :: u61 :: u62 :: u63 :: u64 :: u65 :: u66 :: u67 :: u68 :: u69 :: u70 :: u71 :: u72 :: u73 :: u74 :: u75 :: u76 :: u77 :: u78 :: u79 :: u80 :: u81 :: u82 :: u83 :: u84 :: u85 :: u86 :: u87 :: u88 :: u89 :: u90 :: u91 :: u92 :: u93 :: u94 :: u95 :: u96 :: u97 :: u98 :: u99 :: u100 :: u101 :: u102 :: u103 :: u104 :: u105 :: u106 :: u107 :: u108 :: u109 :: u110 :: u111 :: u112 :: u113 :: u114 :: u115 :: u116 :: u117 :: u118 :: u119 :: u120 :: u121 :: u122 :: u123 :: u124 :: u125 :: u126 :: u127 :: u128 :: u129 :: u130 :: u131 :: u132 :: u133 :: u134 :: u135 :: u136 :: u137 :: u138 :: u139 :: u140 :: u141 :: u142 :: u143 :: u144 :: u145 :: u146 :: u147 :: u148 :: u149 :: u150 :: u151 :: u152 :: u153 :: u154 :: u155 :: u156 :: u157 :: u158 :: u159 :: u160 :: u161 :: u162 :: u163 :: u164 :: u165 :: u166 :: u167 :: u168 :: u169 :: u170 :: u171 :: u172 :: u173 :: u174 :: u175 :: u176 :: u177 :: u178 :: u179 :: u180 :: u181 :: u182 :: u183 :: u184 :: u185 :: u186 :: u187 :: u188 :: u189 :: u190 :: u191 :: u192 :: u193 :: u194 :: u195 :: u196 :: u197 :: u198 :: u199 :: u200 :: u201 :: u202 :: u203 :: u204 :: u205 :: u206 :: u207 :: u208 :: u209 :: u210 :: u211 :: u212 :: u213 :: u214 :: u215 :: u216 :: u217 :: u218 :: u219 :: u220 :: u221 :: u222 :: []).toArray,[]⟩ W := by
 have GB_1 := Lib.hid (gb)
 have X3_2 := Lib.hid (x3)
 have X4_3 := Lib.hid (x4)
 have XT_4 := Lib.hid (xt)
 have XS_5 := Lib.hid (xs)
 have XQ_6 := Lib.hid (xq)
 have N3_7 := Lib.hid (n3)
 have N4_8 := Lib.hid (n4)
 have PI := Lib.hid pi
 have HN := Lib.hid hn
 have HF := Lib.hid hf
 have IH := Lib.hid ih
 have IV := Lib.hid iv
 have LH := Lib.hid lh
 have LV := Lib.hid lv
 have HQ := Lib.hid hQ
 clear gb x3 x4 xt xs xq n3 n4 pi hn hf ih iv lh lv hQ
 have FW := Lib.hid (PI.out.few (by have := HN.out; omega))
 unfold plKC
 conv => arg 2; whnf
 conv => enter [2,2,2,2]; change plTailC
 obtain ⟨xq0,xq1,xq2,xq3,xq4,xq5,xq6⟩ := XQ_6.out.cs7
 go_wp2_with fail
 refine (pred_any (.slice h1 h2 h3) (.slice g1 g2 g3) has vals W IH.out IV.out LH.out LV.out).mono ?_
 rintro e1 x1 ⟨v,rfl,ho,hb⟩
 clear xq0 xq1 xq2 xq3 xq4 xq5 xq6
 have GB_9 := Lib.hid (GB_1.out.trans (hb.mono GB_1.out.size))
 have X3_9 := Lib.hid (X3_2.out.on hb)
 have X4_9 := Lib.hid (X4_3.out.on hb)
 have XT_9 := Lib.hid (XT_4.out.on hb)
 have XS_9 := Lib.hid (XS_5.out.on hb)
 have XQ_9 := Lib.hid (XQ_6.out.on hb)
 have N3_9 := Lib.hid (N3_7.out.on hb)
 have N4_9 := Lib.hid (N4_8.out.on hb)
 clear GB_1 X3_2 X4_3 XT_4 XS_5 XQ_6 N3_7 N4_8
 obtain ⟨p1,p3,hv⟩ := (Row.of_own ho).len
 obtain ⟨p2,hp2⟩ : ∃ k,k = ((prd has vals 7).map r5).length := ⟨_,rfl⟩
 rw [← hp2] at hv
 subst hv
 clear hp2
 have OKP := Lib.hid (prd_ok5 has vals)
 have RP := Lib.hid (prd_right5 has vals)
 have PL5 := Lib.hid (prd_len5 has vals)
 generalize (prd has vals 7).map r5 = pl at *
 have OC_10 := Lib.hid (ho)
 clear ho hb IH IV LH LV
 go_upto_region 12 with fail
 refine play12 _ x1 bt b3 b4 b s1 s2 s3 s4 s5 s6 s7 s8 s9 s10 s11 s12 s13 s14 s15 o1 o2 o3 o4 o5 o6 o7 o8 o9 o10 o11 o12 o13 o14 o15 tt p1 p2 p3 pl _ _ _ _ _ _ _ _ _ _ _ _ _ _ _ _ _ _ _ _ _ _ _ _ _ _ _ _ _ _ _ _ _ _ _ _ _ _ _ _ _ _ _ _ _ _ _ _ _ _ _ _ _ _ _ _ _ _ _ _ _ _ _ _ _ _ _ _ _ _ _ _ _ _ _ _ _ _ _ _ _ _ _ _ _ _ _ _ _ _ _ _ _ _ _ _ _ _ _ _ _ _ _ _ _ _ _ _ _ _ _ _ _ _ _ _ _ _ _ _ _ _ _ _ _ _ _ _ _ _ _ _ _ _ _ _ _ _ _ _ _ _ _ _ _ _ _ _ _ _ _ _ _ _ _ _ _ _ _ _ _ _ _ _ _ _ _ _ _ _ _ _ _ _ _ _ _ _ _ _ _ _ _ _ _ _ _ _ _ _ _ _ _ _ _ _ _ _ _ _ _ _ _ _ _ _ _ _ _ _ _ _ _ _ _ _ _ _ _ XT_9.out X3_9.out X4_9.out N3_9.out.br N4_9.out.br PI.out.ok.ent (Nat.le_trans FW.out.ent (by decide)) PI.out.pe OKP.out (Row.of_own OC_10.out) ?_
 intro x2 v61 v62 v63 v64 v65 v66 v67 v68 hbel
 have GB_11 := Lib.hid (GB_9.out.trans (hbel.mono GB_9.out.size))
 have X3_11 := Lib.hid (X3_9.out.on hbel)
 have X4_11 := Lib.hid (X4_9.out.on hbel)
 have XT_11 := Lib.hid (XT_9.out.on hbel)
 have XS_11 := Lib.hid (XS_9.out.on hbel)
 have XQ_11 := Lib.hid (XQ_9.out.on hbel)
 have N3_11 := Lib.hid (N3_9.out.on hbel)
 have N4_11 := Lib.hid (N4_9.out.on hbel)
 have OC_11 := Lib.hid (Bk.own_on OC_10.out hbel)
 clear GB_9 X3_9 X4_9 XT_9 XS_9 XQ_9 N3_9 N4_9 OC_10
 clear hbel
 rcases hk1 : (z0 == (1 : Int)) with _ | _
 ·rcases hk2 : (z0 == (2 : Int)) with _ | _
  ·rcases hk3 : (z0 == (3 : Int)) with _ | _
   ·rcases hk4 : (z0 == (4 : Int)) with _ | _
    ·have xq0 := XQ_11.out.cell 0
     have xq1 := XQ_11.out.cell 1
     have xq2 := XQ_11.out.cell 2
     have xq3 := XQ_11.out.cell 3
     have xq4 := XQ_11.out.cell 4
     have xq5 := XQ_11.out.cell 5
     have xq6 := XQ_11.out.cell 6
     simp only [List.getElem?_toArray,List.getElem?_cons_zero,List.getElem?_cons_succ] at xq0 xq1 xq2 xq3 xq4 xq5 xq6
     go_wp2
     refine pl_tail _ _ b (n + 1) b3 b4 bt bs s1 s2 s3 s4 s5 s6 s7 s8 s9 s10 s11 s12 s13 s14 s15 o1 o2 o3 o4 o5 o6 o7 o8 o9 o10 o11 o12 o13 o14 o15 tt c1 c2 X3_11.out X4_11.out XT_11.out XS_11.out N3_11.out.br N4_11.out.br (PI.out.more) (by have := HN.out; omega) _ _ _ _ _ _ _ _ _ _ _ _ _ _ _ _ _ _ _ _ _ _ _ _ _ _ _ _ _ _ _ _ _ _ _ _ _ _ _ _ _ _ _ _ _ _ _ _ _ _ _ _ _ _ _ _ _ _ _ _ _ _ _ _ _ _ _ _ _ _ _ _ _ _ _ _ _ _ _ _ _ _ _ _ _ _ _ _ _ _ _ _ _ _ _ _ _ _ _ _ _ _ _ _ _ _ _ _ _ _ _ _ _ _ _ _ _ _ _ _ _ _ _ _ _ _ _ _ _ _ _ _ _ _ _ _ _ _ _ _ _ _ _ _ _ _ _ _ _ _ _ _ _ _ _ _ _ _ _ _ _ _ _ _ _ _ _ _ _ _ _ _ _ _ _ _ _ _ _ _ _ _ _ _ _ _ _ _ _ _ _ _ _ _ _ _ _ _ _ _ _ _ _ _ _ _ _ _ _ _ _ _ _ _ _ _ _ _ _ ?_
     intro xz v2 v19 v20 v21 v23 v157 v158 v159 v160 v161 v162 v163 v164 v165 v166 v167 v168 v169 v170 v171 v172 v173 v174 v175 v176 v177 v178 v179 v180 v181 v182 v183 v184 v185 v186 v187 v188 v189 v190 v191 v192 v193 v194 v195 v196 v197 v198 v199 v200 v201 v202 v203 v204 v205 v206 v207 v208 v209 v210 v211 v212 v213 v214 v215 v216 v217 v218 v219 v220 v221 hb9
     exact HQ.out xz b s1 s2 s3 s4 s5 s6 s7 s8 s9 s10 s11 s12 s13 s14 s15 o1 o2 o3 o4 o5 o6 o7 o8 o9 o10 o11 o12 o13 o14 o15 _ _ _ _ _ _ _ _ _ _ _ _ _ _ _ _ _ _ _ _ _ _ _ _ _ _ _ _ _ _ _ _ _ _ _ _ _ _ _ _ _ _ _ _ _ _ _ _ _ _ _ _ _ _ _ _ _ _ _ _ _ _ _ _ _ _ _ _ _ _ _ _ _ _ _ _ _ _ _ _ _ _ _ _ _ _ _ _ _ _ _ _ _ _ _ _ _ _ _ _ _ _ _ _ _ _ _ _ _ _ _ _ _ _ _ _ _ _ _ _ _ _ _ _ _ _ _ _ _ _ _ _ _ _ _ _ _ _ _ _ _ _ _ _ _ _ _ _ _ _ _ _ _ _ _ _ _ _ _ _ _ _ _ _ _ _ _ _ _ _ _ _ _ _ _ _ _ _ (PI.out.more) (X3_11.out.on hb9) (X4_11.out.on hb9) (N3_11.out.on hb9) (N4_11.out.on hb9) (GB_11.out.trans (hb9.mono GB_11.out.size))
    ·have xq0 := XQ_11.out.cell 0
     have xq1 := XQ_11.out.cell 1
     have xq2 := XQ_11.out.cell 2
     have xq3 := XQ_11.out.cell 3
     have xq4 := XQ_11.out.cell 4
     have xq5 := XQ_11.out.cell 5
     have xq6 := XQ_11.out.cell 6
     simp only [List.getElem?_toArray,List.getElem?_cons_zero,List.getElem?_cons_succ] at xq0 xq1 xq2 xq3 xq4 xq5 xq6
     obtain ⟨xm0,xm1,xm2,xm3,xm4,xm5⟩ := X3_11.out.cs6
     obtain ⟨xt0,xt1⟩ := XT_11.out.cs2
     go_wp2_with fail
     have C := forget_any b (tt,0) f (s1,s2,s3) (s4,s5,s6) (s7,s8,s9) (s10,s11,s12) (s13,s14,s15) x2 N3_11.out.br FW.out PI.out.fewp
     have hp2 := pl_forget PI.out (tt,0) f
     have me1 := forgetF_me b (tt,0) f
     obtain ⟨⟨nb,gt⟩,hlb⟩ : ∃ r : Br × Bool,forgetF b (tt,0) f = r := ⟨_,rfl⟩
     rw [hlb] at C hp2 me1
     simp only at hp2 me1
     have ME1 := Lib.hid me1
     have HLB := Lib.hid hlb
     have PI2 := Lib.hid hp2
     clear me1 hlb hp2
     refine C.mono ?_
     rintro e5 w5 ⟨⟨⟨r1,r2,r3⟩,⟨r4,r5,r6⟩,⟨r7,r8,r9⟩,⟨r10,r11,r12⟩,⟨r13,r14,r15⟩,rfl,hbr,hno⟩,hb⟩
     clear xq0 xq1 xq2 xq3 xq4 xq5 xq6 xm0 xm1 xm2 xm3 xm4 xm5 xt0 xt1
     have hno := hno N3_11.out.no
     have GB_12 := Lib.hid (GB_11.out.trans (hb.mono GB_11.out.size))
     have X3_12 := Lib.hid (X3_11.out.on hb)
     have X4_12 := Lib.hid (X4_11.out.on hb)
     have XT_12 := Lib.hid (XT_11.out.on hb)
     have XS_12 := Lib.hid (XS_11.out.on hb)
     have XQ_12 := Lib.hid (XQ_11.out.on hb)
     have N3_12 := Lib.hid (N3_11.out.on hb)
     have N4_12 := Lib.hid (N4_11.out.on hb)
     have OC_12 := Lib.hid (Bk.own_on OC_11.out hb)
     clear GB_11 X3_11 X4_11 XT_11 XS_11 XQ_11 N3_11 N4_11 OC_11
     clear C hb
     have N3_13 := Lib.hid (BrN.mk hbr hno)
     clear hbr hno
     obtain ⟨xm0,xm1,xm2,xm3,xm4,xm5⟩ := X3_12.out.cs6
     obtain ⟨xmf0,xmf1,xmf2,xmf3,xmf4,xmf5⟩ := X3_12.out.fs6
     have zz := X3_12.out.lt
     go_upto_region 35 with fail
     clear zz
     clear xm0 xm1 xm2 xm3 xm4 xm5 xmf0 xmf1 xmf2 xmf3 xmf4 xmf5
     have BU := Av.but_setB w5 b3 (.int .i64 nb.me) (.slice r1 r2 r3) (.slice r4 r5 r6) (.slice r7 r8 r9) (.slice r10 r11 r12) (.slice r13 r14 r15)
     have GB_14 := Lib.hid (setB_below GB_12.out L3 (.int .i64 nb.me) (.slice r1 r2 r3) (.slice r4 r5 r6) (.slice r7 r8 r9) (.slice r10 r11 r12) (.slice r13 r14 r15))
     have X3_14 := Lib.hid (setB_box X3_12.out (.int .i64 nb.me) (.slice r1 r2 r3) (.slice r4 r5 r6) (.slice r7 r8 r9) (.slice r10 r11 r12) (.slice r13 r14 r15))
     have X4_14 := Lib.hid (BU.box X4_12.out (N34.symm))
     have XT_14 := Lib.hid (BU.box XT_12.out (box_ne XT_12.out X3_12.out rfl))
     have XS_14 := Lib.hid (BU.box XS_12.out (box_ne XS_12.out X3_12.out rfl))
     have XQ_14 := Lib.hid (BU.box XQ_12.out (box_ne XQ_12.out X3_12.out rfl))
     have N3_14 := Lib.hid (N3_13.out.keep (s1 := (s1,s2,s3)) (s2 := (s4,s5,s6)) (s3 := (s7,s8,s9)) (s4 := (s10,s11,s12)) (s5 := (s13,s14,s15)) X3_12.out BU)
     have N4_14 := Lib.hid (N4_12.out.keep (s1 := (s1,s2,s3)) (s2 := (s4,s5,s6)) (s3 := (s7,s8,s9)) (s4 := (s10,s11,s12)) (s5 := (s13,s14,s15)) X3_12.out BU)
     have OC_14 := Lib.hid (BU.own OC_12.out X3_12.out (by decide))
     clear BU
     unfold setB at *
     generalize (((((w5.setCell ⟨b3,0,none⟩ (.int .i64 nb.me)).setCell ⟨b3,1,none⟩ (.slice r1 r2 r3)).setCell ⟨b3,2,none⟩ (.slice r4 r5 r6)).setCell ⟨b3,3,none⟩ (.slice r7 r8 r9)).setCell ⟨b3,4,none⟩ (.slice r10 r11 r12)).setCell ⟨b3,5,none⟩ (.slice r13 r14 r15) = w6 at *
     obtain ⟨xn0,xn1,xn2,xn3,xn4,xn5⟩ := X4_14.out.cs6
     obtain ⟨xt0,xt1⟩ := XT_14.out.cs2
     go_wp2_with fail
     have D := rforget_any b (o1,o2,o3) (o4,o5,o6) (o7,o8,o9) (o10,o11,o12) (o13,o14,o15) (tt,0) f w6 N4_14.out.br FW.out.adv FW.out.ent
     rw [← forgetF_eq PI.out.ok.adv] at D
     rw [HLB.out] at D
     refine D.mono ?_
     rintro e7 w7 ⟨⟨⟨x4,x5,x6⟩,⟨x7,x8,x9⟩,rfl,hbr⟩,hb⟩
     clear xn0 xn1 xn2 xn3 xn4 xn5 xt0 xt1
     have GB_15 := Lib.hid (GB_14.out.trans (hb.mono GB_14.out.size))
     have X3_15 := Lib.hid (X3_14.out.on hb)
     have X4_15 := Lib.hid (X4_14.out.on hb)
     have XT_15 := Lib.hid (XT_14.out.on hb)
     have XS_15 := Lib.hid (XS_14.out.on hb)
     have XQ_15 := Lib.hid (XQ_14.out.on hb)
     have N3_15 := Lib.hid (N3_14.out.on hb)
     have N4_15 := Lib.hid (N4_14.out.on hb)
     have OC_15 := Lib.hid (Bk.own_on OC_14.out hb)
     clear GB_14 X3_14 X4_14 XT_14 XS_14 XQ_14 N3_14 N4_14 OC_14
     have hno : NearOwn w7 (o1,o2,o3) nb.near := by rw [ME1.out.2]; exact N4_15.out.no
     clear D hb
     have N4_16 := Lib.hid (BrN.mk hbr hno)
     clear hbr hno
     obtain ⟨xn0,xn1,xn2,xn3,xn4,xn5⟩ := X4_15.out.cs6
     obtain ⟨xnf0,xnf1,xnf2,xnf3,xnf4,xnf5⟩ := X4_15.out.fs6
     have zz := X4_15.out.lt
     have hme := ME1.out.1
     go_wp2_with fail
     clear zz
     clear xn0 xn1 xn2 xn3 xn4 xn5 xnf0 xnf1 xnf2 xnf3 xnf4 xnf5
     have BU := Av.but_setB w7 b4 (.int .i64 b.me) (.slice o1 o2 o3) (.slice x4 x5 x6) (.slice o7 o8 o9) (.slice x7 x8 x9) (.slice o13 o14 o15)
     have GB_17 := Lib.hid (setB_below GB_15.out L4 (.int .i64 b.me) (.slice o1 o2 o3) (.slice x4 x5 x6) (.slice o7 o8 o9) (.slice x7 x8 x9) (.slice o13 o14 o15))
     have X3_17 := Lib.hid (BU.box X3_15.out (N34))
     have X4_17 := Lib.hid (setB_box X4_15.out (.int .i64 b.me) (.slice o1 o2 o3) (.slice x4 x5 x6) (.slice o7 o8 o9) (.slice x7 x8 x9) (.slice o13 o14 o15))
     have XT_17 := Lib.hid (BU.box XT_15.out (box_ne XT_15.out X4_15.out rfl))
     have XS_17 := Lib.hid (BU.box XS_15.out (box_ne XS_15.out X4_15.out rfl))
     have XQ_17 := Lib.hid (BU.box XQ_15.out (box_ne XQ_15.out X4_15.out rfl))
     have N3_17 := Lib.hid (N3_15.out.keep (s1 := (o1,o2,o3)) (s2 := (o4,o5,o6)) (s3 := (o7,o8,o9)) (s4 := (o10,o11,o12)) (s5 := (o13,o14,o15)) X4_15.out BU)
     have N4_17 := Lib.hid (N4_16.out.keep (s1 := (o1,o2,o3)) (s2 := (o4,o5,o6)) (s3 := (o7,o8,o9)) (s4 := (o10,o11,o12)) (s5 := (o13,o14,o15)) X4_15.out BU)
     have OC_17 := Lib.hid (BU.own OC_15.out X4_15.out (by decide))
     clear BU
     unfold setB at *
     generalize (((((w7.setCell ⟨b4,0,none⟩ (.int .i64 b.me)).setCell ⟨b4,1,none⟩ (.slice o1 o2 o3)).setCell ⟨b4,2,none⟩ (.slice x4 x5 x6)).setCell ⟨b4,3,none⟩ (.slice o7 o8 o9)).setCell ⟨b4,4,none⟩ (.slice x7 x8 x9)).setCell ⟨b4,5,none⟩ (.slice o13 o14 o15) = w8 at *
     have hx4 : Box w8 b4 #[.int .i64 nb.me,.slice o1 o2 o3,.slice x4 x5 x6,.slice o7 o8 o9,.slice x7 x8 x9,.slice o13 o14 o15] 31 := by rw [ME1.out.1]; exact X4_17.out
     have X4_18 := Lib.hid (hx4)
     clear hx4
     go_wp2
     refine pl_tail _ _ nb (n + 1) b3 b4 bt bs r1 r2 r3 r4 r5 r6 r7 r8 r9 r10 r11 r12 r13 r14 r15 o1 o2 o3 x4 x5 x6 o7 o8 o9 x7 x8 x9 o13 o14 o15 tt c1 c2 X3_17.out X4_18.out XT_17.out XS_17.out N3_17.out.br N4_17.out.br (PI2.out) (by have := HN.out; omega) _ _ _ _ _ _ _ _ _ _ _ _ _ _ _ _ _ _ _ _ _ _ _ _ _ _ _ _ _ _ _ _ _ _ _ _ _ _ _ _ _ _ _ _ _ _ _ _ _ _ _ _ _ _ _ _ _ _ _ _ _ _ _ _ _ _ _ _ _ _ _ _ _ _ _ _ _ _ _ _ _ _ _ _ _ _ _ _ _ _ _ _ _ _ _ _ _ _ _ _ _ _ _ _ _ _ _ _ _ _ _ _ _ _ _ _ _ _ _ _ _ _ _ _ _ _ _ _ _ _ _ _ _ _ _ _ _ _ _ _ _ _ _ _ _ _ _ _ _ _ _ _ _ _ _ _ _ _ _ _ _ _ _ _ _ _ _ _ _ _ _ _ _ _ _ _ _ _ _ _ _ _ _ _ _ _ _ _ _ _ _ _ _ _ _ _ _ _ _ _ _ _ _ _ _ _ _ _ _ _ _ _ _ _ _ _ _ _ _ ?_
     intro xz v2 v19 v20 v21 v23 v157 v158 v159 v160 v161 v162 v163 v164 v165 v166 v167 v168 v169 v170 v171 v172 v173 v174 v175 v176 v177 v178 v179 v180 v181 v182 v183 v184 v185 v186 v187 v188 v189 v190 v191 v192 v193 v194 v195 v196 v197 v198 v199 v200 v201 v202 v203 v204 v205 v206 v207 v208 v209 v210 v211 v212 v213 v214 v215 v216 v217 v218 v219 v220 v221 hb9
     exact HQ.out xz nb r1 r2 r3 r4 r5 r6 r7 r8 r9 r10 r11 r12 r13 r14 r15 o1 o2 o3 x4 x5 x6 o7 o8 o9 x7 x8 x9 o13 o14 o15 _ _ _ _ _ _ _ _ _ _ _ _ _ _ _ _ _ _ _ _ _ _ _ _ _ _ _ _ _ _ _ _ _ _ _ _ _ _ _ _ _ _ _ _ _ _ _ _ _ _ _ _ _ _ _ _ _ _ _ _ _ _ _ _ _ _ _ _ _ _ _ _ _ _ _ _ _ _ _ _ _ _ _ _ _ _ _ _ _ _ _ _ _ _ _ _ _ _ _ _ _ _ _ _ _ _ _ _ _ _ _ _ _ _ _ _ _ _ _ _ _ _ _ _ _ _ _ _ _ _ _ _ _ _ _ _ _ _ _ _ _ _ _ _ _ _ _ _ _ _ _ _ _ _ _ _ _ _ _ _ _ _ _ _ _ _ _ _ _ _ _ _ _ _ _ _ _ _ (PI2.out) (X3_17.out.on hb9) (X4_18.out.on hb9) (N3_17.out.on hb9) (N4_17.out.on hb9) (GB_17.out.trans (hb9.mono GB_17.out.size))
   ·have xq0 := XQ_11.out.cell 0
    have xq1 := XQ_11.out.cell 1
    have xq2 := XQ_11.out.cell 2
    have xq3 := XQ_11.out.cell 3
    have xq4 := XQ_11.out.cell 4
    have xq5 := XQ_11.out.cell 5
    have xq6 := XQ_11.out.cell 6
    simp only [List.getElem?_toArray,List.getElem?_cons_zero,List.getElem?_cons_succ] at xq0 xq1 xq2 xq3 xq4 xq5 xq6
    obtain ⟨xt0,xt1⟩ := XT_11.out.cs2
    obtain ⟨xs0,xs1⟩ := XS_11.out.cs2
    go_upto_region 31 with fail
    clear xq0 xq1 xq2 xq3 xq4 xq5 xq6 xt0 xt1 xs0 xs1
    have NN := newB x2 (.cells #[.int .i64 tt,.int .i64 0,.slice p1 p2 p3,.int .i64 f] 41)
    have GB_12 := Lib.hid (GB_11.out.trans (NN.mono GB_11.out.size))
    have X3_12 := Lib.hid (X3_11.out.on NN)
    have X4_12 := Lib.hid (X4_11.out.on NN)
    have XT_12 := Lib.hid (XT_11.out.on NN)
    have XS_12 := Lib.hid (XS_11.out.on NN)
    have XQ_12 := Lib.hid (XQ_11.out.on NN)
    have N3_12 := Lib.hid (N3_11.out.on NN)
    have N4_12 := Lib.hid (N4_11.out.on NN)
    have OC_12 := Lib.hid (Bk.own_on OC_11.out NN)
    clear GB_11 X3_11 X4_11 XT_11 XS_11 XQ_11 N3_11 N4_11 OC_11
    clear NN
    have XE_13 := Lib.hid (box_new x2 #[.int .i64 tt,.int .i64 0,.slice p1 p2 p3,.int .i64 f] 41)
    generalize x2.alloc (.cells #[.int .i64 tt,.int .i64 0,.slice p1 p2 p3,.int .i64 f] 41) = x3 at *
    obtain ⟨xm0,xm1,xm2,xm3,xm4,xm5⟩ := X3_12.out.cs6
    obtain ⟨xe0,xe1,xe2,xe3⟩ := XE_13.out.cs4
    go_wp2_with fail
    have C := learn_any b ⟨(tt,0),pl,f⟩ (s1,s2,s3) (s4,s5,s6) (s7,s8,s9) (s10,s11,s12) (s13,s14,s15) (tt,0,(p1,p2,p3),f) x3 N3_12.out.br ⟨rfl,rfl,Row.of_own OC_12.out⟩ FW.out PI.out.fewp (Nat.le_trans PL5.out (by decide)) PI.out.ok.seen PI.out.ok.adv
    have hp2 := pl_learn PI.out (tt,0) pl f HF.out RP.out OKP.out
    have me1 := learn_me b ⟨(tt,0),pl,f⟩
    obtain ⟨⟨nb,gt⟩,hlb⟩ : ∃ r : Br × Bool,learnB b ⟨(tt,0),pl,f⟩ = r := ⟨_,rfl⟩
    rw [hlb] at C hp2 me1
    simp only at hp2 me1
    have ME1 := Lib.hid me1
    have HLB := Lib.hid hlb
    have PI2 := Lib.hid hp2
    clear me1 hlb hp2
    refine C.mono ?_
    rintro e5 w5 ⟨⟨⟨r1,r2,r3⟩,⟨r4,r5,r6⟩,⟨r7,r8,r9⟩,⟨r10,r11,r12⟩,⟨r13,r14,r15⟩,rfl,hbr,hno⟩,hb⟩
    clear xm0 xm1 xm2 xm3 xm4 xm5 xe0 xe1 xe2 xe3
    have hno := hno N3_12.out.no
    have GB_14 := Lib.hid (GB_12.out.trans (hb.mono GB_12.out.size))
    have X3_14 := Lib.hid (X3_12.out.on hb)
    have X4_14 := Lib.hid (X4_12.out.on hb)
    have XT_14 := Lib.hid (XT_12.out.on hb)
    have XS_14 := Lib.hid (XS_12.out.on hb)
    have XQ_14 := Lib.hid (XQ_12.out.on hb)
    have N3_14 := Lib.hid (N3_12.out.on hb)
    have N4_14 := Lib.hid (N4_12.out.on hb)
    have OC_14 := Lib.hid (Bk.own_on OC_12.out hb)
    have XE_14 := Lib.hid (XE_13.out.on hb)
    clear GB_12 X3_12 X4_12 XT_12 XS_12 XQ_12 N3_12 N4_12 OC_12 XE_13
    clear C hb
    have N3_15 := Lib.hid (BrN.mk hbr hno)
    clear hbr hno
    obtain ⟨xm0,xm1,xm2,xm3,xm4,xm5⟩ := X3_14.out.cs6
    obtain ⟨xmf0,xmf1,xmf2,xmf3,xmf4,xmf5⟩ := X3_14.out.fs6
    have zz := X3_14.out.lt
    go_upto_region 32 with fail
    clear zz
    clear xm0 xm1 xm2 xm3 xm4 xm5 xmf0 xmf1 xmf2 xmf3 xmf4 xmf5
    have BU := Av.but_setB w5 b3 (.int .i64 nb.me) (.slice r1 r2 r3) (.slice r4 r5 r6) (.slice r7 r8 r9) (.slice r10 r11 r12) (.slice r13 r14 r15)
    have GB_16 := Lib.hid (setB_below GB_14.out L3 (.int .i64 nb.me) (.slice r1 r2 r3) (.slice r4 r5 r6) (.slice r7 r8 r9) (.slice r10 r11 r12) (.slice r13 r14 r15))
    have X3_16 := Lib.hid (setB_box X3_14.out (.int .i64 nb.me) (.slice r1 r2 r3) (.slice r4 r5 r6) (.slice r7 r8 r9) (.slice r10 r11 r12) (.slice r13 r14 r15))
    have X4_16 := Lib.hid (BU.box X4_14.out (N34.symm))
    have XT_16 := Lib.hid (BU.box XT_14.out (box_ne XT_14.out X3_14.out rfl))
    have XS_16 := Lib.hid (BU.box XS_14.out (box_ne XS_14.out X3_14.out rfl))
    have XQ_16 := Lib.hid (BU.box XQ_14.out (box_ne XQ_14.out X3_14.out rfl))
    have N3_16 := Lib.hid (N3_15.out.keep (s1 := (s1,s2,s3)) (s2 := (s4,s5,s6)) (s3 := (s7,s8,s9)) (s4 := (s10,s11,s12)) (s5 := (s13,s14,s15)) X3_14.out BU)
    have N4_16 := Lib.hid (N4_14.out.keep (s1 := (s1,s2,s3)) (s2 := (s4,s5,s6)) (s3 := (s7,s8,s9)) (s4 := (s10,s11,s12)) (s5 := (s13,s14,s15)) X3_14.out BU)
    have OC_16 := Lib.hid (BU.own OC_14.out X3_14.out (by decide))
    have XE_16 := Lib.hid (BU.box XE_14.out (box_ne XE_14.out X3_14.out rfl))
    clear BU
    unfold setB at *
    generalize (((((w5.setCell ⟨b3,0,none⟩ (.int .i64 nb.me)).setCell ⟨b3,1,none⟩ (.slice r1 r2 r3)).setCell ⟨b3,2,none⟩ (.slice r4 r5 r6)).setCell ⟨b3,3,none⟩ (.slice r7 r8 r9)).setCell ⟨b3,4,none⟩ (.slice r10 r11 r12)).setCell ⟨b3,5,none⟩ (.slice r13 r14 r15) = w6 at *
    obtain ⟨xn0,xn1,xn2,xn3,xn4,xn5⟩ := X4_16.out.cs6
    obtain ⟨xe0,xe1,xe2,xe3⟩ := XE_16.out.cs4
    go_wp2_with fail
    have D := rlearn_any b (o1,o2,o3) (o4,o5,o6) (o7,o8,o9) (o10,o11,o12) (o13,o14,o15) (tt,0,(p1,p2,p3),f) ⟨(tt,0),pl,f⟩ w6 N4_16.out.br ⟨rfl,rfl,Row.of_own OC_16.out⟩ FW.out.seen FW.out.adv
    rw [HLB.out] at D
    refine D.mono ?_
    rintro e7 w7 ⟨⟨⟨x4,x5,x6⟩,⟨x7,x8,x9⟩,rfl,hbr⟩,hb⟩
    clear xn0 xn1 xn2 xn3 xn4 xn5 xe0 xe1 xe2 xe3
    have GB_17 := Lib.hid (GB_16.out.trans (hb.mono GB_16.out.size))
    have X3_17 := Lib.hid (X3_16.out.on hb)
    have X4_17 := Lib.hid (X4_16.out.on hb)
    have XT_17 := Lib.hid (XT_16.out.on hb)
    have XS_17 := Lib.hid (XS_16.out.on hb)
    have XQ_17 := Lib.hid (XQ_16.out.on hb)
    have N3_17 := Lib.hid (N3_16.out.on hb)
    have N4_17 := Lib.hid (N4_16.out.on hb)
    have OC_17 := Lib.hid (Bk.own_on OC_16.out hb)
    have XE_17 := Lib.hid (XE_16.out.on hb)
    clear GB_16 X3_16 X4_16 XT_16 XS_16 XQ_16 N3_16 N4_16 OC_16 XE_16
    have hno : NearOwn w7 (o1,o2,o3) nb.near := by rw [ME1.out.2]; exact N4_17.out.no
    clear D hb
    have N4_18 := Lib.hid (BrN.mk hbr hno)
    clear hbr hno
    obtain ⟨xn0,xn1,xn2,xn3,xn4,xn5⟩ := X4_17.out.cs6
    obtain ⟨xnf0,xnf1,xnf2,xnf3,xnf4,xnf5⟩ := X4_17.out.fs6
    have zz := X4_17.out.lt
    have hme := ME1.out.1
    go_wp2_with fail
    clear zz
    clear xn0 xn1 xn2 xn3 xn4 xn5 xnf0 xnf1 xnf2 xnf3 xnf4 xnf5
    have BU := Av.but_setB w7 b4 (.int .i64 b.me) (.slice o1 o2 o3) (.slice x4 x5 x6) (.slice x7 x8 x9) (.slice o10 o11 o12) (.slice o13 o14 o15)
    have GB_19 := Lib.hid (setB_below GB_17.out L4 (.int .i64 b.me) (.slice o1 o2 o3) (.slice x4 x5 x6) (.slice x7 x8 x9) (.slice o10 o11 o12) (.slice o13 o14 o15))
    have X3_19 := Lib.hid (BU.box X3_17.out (N34))
    have X4_19 := Lib.hid (setB_box X4_17.out (.int .i64 b.me) (.slice o1 o2 o3) (.slice x4 x5 x6) (.slice x7 x8 x9) (.slice o10 o11 o12) (.slice o13 o14 o15))
    have XT_19 := Lib.hid (BU.box XT_17.out (box_ne XT_17.out X4_17.out rfl))
    have XS_19 := Lib.hid (BU.box XS_17.out (box_ne XS_17.out X4_17.out rfl))
    have XQ_19 := Lib.hid (BU.box XQ_17.out (box_ne XQ_17.out X4_17.out rfl))
    have N3_19 := Lib.hid (N3_17.out.keep (s1 := (o1,o2,o3)) (s2 := (o4,o5,o6)) (s3 := (o7,o8,o9)) (s4 := (o10,o11,o12)) (s5 := (o13,o14,o15)) X4_17.out BU)
    have N4_19 := Lib.hid (N4_18.out.keep (s1 := (o1,o2,o3)) (s2 := (o4,o5,o6)) (s3 := (o7,o8,o9)) (s4 := (o10,o11,o12)) (s5 := (o13,o14,o15)) X4_17.out BU)
    have OC_19 := Lib.hid (BU.own OC_17.out X4_17.out (by decide))
    have XE_19 := Lib.hid (BU.box XE_17.out (box_ne XE_17.out X4_17.out rfl))
    clear BU
    unfold setB at *
    generalize (((((w7.setCell ⟨b4,0,none⟩ (.int .i64 b.me)).setCell ⟨b4,1,none⟩ (.slice o1 o2 o3)).setCell ⟨b4,2,none⟩ (.slice x4 x5 x6)).setCell ⟨b4,3,none⟩ (.slice x7 x8 x9)).setCell ⟨b4,4,none⟩ (.slice o10 o11 o12)).setCell ⟨b4,5,none⟩ (.slice o13 o14 o15) = w8 at *
    have hx4 : Box w8 b4 #[.int .i64 nb.me,.slice o1 o2 o3,.slice x4 x5 x6,.slice x7 x8 x9,.slice o10 o11 o12,.slice o13 o14 o15] 31 := by rw [ME1.out.1]; exact X4_19.out
    have X4_20 := Lib.hid (hx4)
    clear hx4
    go_wp2
    refine pl_tail _ _ nb (n + 1) b3 b4 bt bs r1 r2 r3 r4 r5 r6 r7 r8 r9 r10 r11 r12 r13 r14 r15 o1 o2 o3 x4 x5 x6 x7 x8 x9 o10 o11 o12 o13 o14 o15 tt c1 c2 X3_19.out X4_20.out XT_19.out XS_19.out N3_19.out.br N4_19.out.br (PI2.out) (by have := HN.out; omega) _ _ _ _ _ _ _ _ _ _ _ _ _ _ _ _ _ _ _ _ _ _ _ _ _ _ _ _ _ _ _ _ _ _ _ _ _ _ _ _ _ _ _ _ _ _ _ _ _ _ _ _ _ _ _ _ _ _ _ _ _ _ _ _ _ _ _ _ _ _ _ _ _ _ _ _ _ _ _ _ _ _ _ _ _ _ _ _ _ _ _ _ _ _ _ _ _ _ _ _ _ _ _ _ _ _ _ _ _ _ _ _ _ _ _ _ _ _ _ _ _ _ _ _ _ _ _ _ _ _ _ _ _ _ _ _ _ _ _ _ _ _ _ _ _ _ _ _ _ _ _ _ _ _ _ _ _ _ _ _ _ _ _ _ _ _ _ _ _ _ _ _ _ _ _ _ _ _ _ _ _ _ _ _ _ _ _ _ _ _ _ _ _ _ _ _ _ _ _ _ _ _ _ _ _ _ _ _ _ _ _ _ _ _ _ _ _ _ _ ?_
    intro xz v2 v19 v20 v21 v23 v157 v158 v159 v160 v161 v162 v163 v164 v165 v166 v167 v168 v169 v170 v171 v172 v173 v174 v175 v176 v177 v178 v179 v180 v181 v182 v183 v184 v185 v186 v187 v188 v189 v190 v191 v192 v193 v194 v195 v196 v197 v198 v199 v200 v201 v202 v203 v204 v205 v206 v207 v208 v209 v210 v211 v212 v213 v214 v215 v216 v217 v218 v219 v220 v221 hb9
    exact HQ.out xz nb r1 r2 r3 r4 r5 r6 r7 r8 r9 r10 r11 r12 r13 r14 r15 o1 o2 o3 x4 x5 x6 x7 x8 x9 o10 o11 o12 o13 o14 o15 _ _ _ _ _ _ _ _ _ _ _ _ _ _ _ _ _ _ _ _ _ _ _ _ _ _ _ _ _ _ _ _ _ _ _ _ _ _ _ _ _ _ _ _ _ _ _ _ _ _ _ _ _ _ _ _ _ _ _ _ _ _ _ _ _ _ _ _ _ _ _ _ _ _ _ _ _ _ _ _ _ _ _ _ _ _ _ _ _ _ _ _ _ _ _ _ _ _ _ _ _ _ _ _ _ _ _ _ _ _ _ _ _ _ _ _ _ _ _ _ _ _ _ _ _ _ _ _ _ _ _ _ _ _ _ _ _ _ _ _ _ _ _ _ _ _ _ _ _ _ _ _ _ _ _ _ _ _ _ _ _ _ _ _ _ _ _ _ _ _ _ _ _ _ _ _ _ _ (PI2.out) (X3_19.out.on hb9) (X4_20.out.on hb9) (N3_19.out.on hb9) (N4_19.out.on hb9) (GB_19.out.trans (hb9.mono GB_19.out.size))
  ·have xq0 := XQ_11.out.cell 0
   have xq1 := XQ_11.out.cell 1
   have xq2 := XQ_11.out.cell 2
   have xq3 := XQ_11.out.cell 3
   have xq4 := XQ_11.out.cell 4
   have xq5 := XQ_11.out.cell 5
   have xq6 := XQ_11.out.cell 6
   simp only [List.getElem?_toArray,List.getElem?_cons_zero,List.getElem?_cons_succ] at xq0 xq1 xq2 xq3 xq4 xq5 xq6
   obtain ⟨xm0,xm1,xm2,xm3,xm4,xm5⟩ := X3_11.out.cs6
   obtain ⟨xt0,xt1⟩ := XT_11.out.cs2
   obtain ⟨xs0,xs1⟩ := XS_11.out.cs2
   go_wp2_with fail
   have C := stake_any b (s1,s2,s3) (s4,s5,s6) (s7,s8,s9) (s10,s11,s12) (s13,s14,s15) (tt,0) (c1,c2) f x2 N3_11.out.br FW.out PI.out.fewp PI.out.ok.ent PI.out.pe
   have hp2 := pl_take PI.out (tt,0) (c1,c2) f
   have me1 := takeB_me b (tt,0) (c1,c2) f
   have hup := And.intro (pl_taken PI.out (tt,0) (c1,c2) f) (pl_taken_len b (tt,0) (c1,c2) f)
   obtain ⟨⟨nb,ups,gt⟩,hlb⟩ : ∃ r : Br × List En × Bool,takeB b (tt,0) (c1,c2) f = r := ⟨_,rfl⟩
   rw [hlb] at C hp2 me1 hup
   simp only at hp2 me1 hup
   have ME1 := Lib.hid me1
   have HLB := Lib.hid hlb
   have PI2 := Lib.hid hp2
   clear me1 hlb hp2
   have UP := Lib.hid hup
   clear hup
   refine C.mono ?_
   rintro e5 w5 ⟨⟨⟨r1,r2,r3⟩,⟨r4,r5,r6⟩,⟨r7,r8,r9⟩,⟨r10,r11,r12⟩,⟨r13,r14,r15⟩,⟨l1,l2,l3⟩,lu,rfl,hbr,hru,hau,hno⟩,hb⟩
   have RU := Lib.hid hru
   have AU := Lib.hid hau
   clear hru hau
   clear xq0 xq1 xq2 xq3 xq4 xq5 xq6 xm0 xm1 xm2 xm3 xm4 xm5 xt0 xt1 xs0 xs1
   have hno := hno N3_11.out.no
   have GB_12 := Lib.hid (GB_11.out.trans (hb.mono GB_11.out.size))
   have X3_12 := Lib.hid (X3_11.out.on hb)
   have X4_12 := Lib.hid (X4_11.out.on hb)
   have XT_12 := Lib.hid (XT_11.out.on hb)
   have XS_12 := Lib.hid (XS_11.out.on hb)
   have XQ_12 := Lib.hid (XQ_11.out.on hb)
   have N3_12 := Lib.hid (N3_11.out.on hb)
   have N4_12 := Lib.hid (N4_11.out.on hb)
   have OC_12 := Lib.hid (Bk.own_on OC_11.out hb)
   clear GB_11 X3_11 X4_11 XT_11 XS_11 XQ_11 N3_11 N4_11 OC_11
   clear C hb
   have N3_13 := Lib.hid (BrN.mk hbr hno)
   clear hbr hno
   obtain ⟨xm0,xm1,xm2,xm3,xm4,xm5⟩ := X3_12.out.cs6
   obtain ⟨xmf0,xmf1,xmf2,xmf3,xmf4,xmf5⟩ := X3_12.out.fs6
   have zz := X3_12.out.lt
   go_upto_region 26 with fail
   clear zz
   clear xm0 xm1 xm2 xm3 xm4 xm5 xmf0 xmf1 xmf2 xmf3 xmf4 xmf5
   have BU := Av.but_setB w5 b3 (.int .i64 nb.me) (.slice r1 r2 r3) (.slice r4 r5 r6) (.slice r7 r8 r9) (.slice r10 r11 r12) (.slice r13 r14 r15)
   have EK := ents_keep (s1 := (s1,s2,s3)) (s2 := (s4,s5,s6)) (s3 := (s7,s8,s9)) (s4 := (s10,s11,s12)) (s5 := (s13,s14,s15)) RU.out AU.out X3_12.out (fun j hj hne => BU.1 j hj hne)
   clear RU AU
   have RU := Lib.hid EK.1
   have AU := Lib.hid EK.2
   clear EK
   have GB_14 := Lib.hid (setB_below GB_12.out L3 (.int .i64 nb.me) (.slice r1 r2 r3) (.slice r4 r5 r6) (.slice r7 r8 r9) (.slice r10 r11 r12) (.slice r13 r14 r15))
   have X3_14 := Lib.hid (setB_box X3_12.out (.int .i64 nb.me) (.slice r1 r2 r3) (.slice r4 r5 r6) (.slice r7 r8 r9) (.slice r10 r11 r12) (.slice r13 r14 r15))
   have X4_14 := Lib.hid (BU.box X4_12.out (N34.symm))
   have XT_14 := Lib.hid (BU.box XT_12.out (box_ne XT_12.out X3_12.out rfl))
   have XS_14 := Lib.hid (BU.box XS_12.out (box_ne XS_12.out X3_12.out rfl))
   have XQ_14 := Lib.hid (BU.box XQ_12.out (box_ne XQ_12.out X3_12.out rfl))
   have N3_14 := Lib.hid (N3_13.out.keep (s1 := (s1,s2,s3)) (s2 := (s4,s5,s6)) (s3 := (s7,s8,s9)) (s4 := (s10,s11,s12)) (s5 := (s13,s14,s15)) X3_12.out BU)
   have N4_14 := Lib.hid (N4_12.out.keep (s1 := (s1,s2,s3)) (s2 := (s4,s5,s6)) (s3 := (s7,s8,s9)) (s4 := (s10,s11,s12)) (s5 := (s13,s14,s15)) X3_12.out BU)
   have OC_14 := Lib.hid (BU.own OC_12.out X3_12.out (by decide))
   clear BU
   unfold setB at *
   generalize (((((w5.setCell ⟨b3,0,none⟩ (.int .i64 nb.me)).setCell ⟨b3,1,none⟩ (.slice r1 r2 r3)).setCell ⟨b3,2,none⟩ (.slice r4 r5 r6)).setCell ⟨b3,3,none⟩ (.slice r7 r8 r9)).setCell ⟨b3,4,none⟩ (.slice r10 r11 r12)).setCell ⟨b3,5,none⟩ (.slice r13 r14 r15) = w6 at *
   obtain ⟨xn0,xn1,xn2,xn3,xn4,xn5⟩ := X4_14.out.cs6
   obtain ⟨xt0,xt1⟩ := XT_14.out.cs2
   obtain ⟨xs0,xs1⟩ := XS_14.out.cs2
   go_wp2_with fail
   have D := rtake_any b (o1,o2,o3) (o4,o5,o6) (o7,o8,o9) (o10,o11,o12) (o13,o14,o15) (tt,0) (c1,c2) f w6 N4_14.out.br FW.out.ent PI.out.pe
   rw [HLB.out] at D
   refine D.mono ?_
   rintro e7 w7 ⟨⟨⟨x4,x5,x6⟩,⟨y1,y2,y3⟩,rfl,hbr,lv,hrv,hav⟩,hb⟩
   have RV := Lib.hid hrv
   have AV := Lib.hid hav
   have RU2 := Lib.hid (RU.out.on hb)
   have AU2 := Lib.hid (AU.out.mono fun _ _ h => h.on hb)
   clear hrv hav RU AU
   clear xn0 xn1 xn2 xn3 xn4 xn5 xt0 xt1 xs0 xs1
   have GB_15 := Lib.hid (GB_14.out.trans (hb.mono GB_14.out.size))
   have X3_15 := Lib.hid (X3_14.out.on hb)
   have X4_15 := Lib.hid (X4_14.out.on hb)
   have XT_15 := Lib.hid (XT_14.out.on hb)
   have XS_15 := Lib.hid (XS_14.out.on hb)
   have XQ_15 := Lib.hid (XQ_14.out.on hb)
   have N3_15 := Lib.hid (N3_14.out.on hb)
   have N4_15 := Lib.hid (N4_14.out.on hb)
   have OC_15 := Lib.hid (Bk.own_on OC_14.out hb)
   clear GB_14 X3_14 X4_14 XT_14 XS_14 XQ_14 N3_14 N4_14 OC_14
   have hno : NearOwn w7 (o1,o2,o3) nb.near := by rw [ME1.out.2]; exact N4_15.out.no
   clear D hb
   have N4_16 := Lib.hid (BrN.mk hbr hno)
   clear hbr hno
   obtain ⟨xn0,xn1,xn2,xn3,xn4,xn5⟩ := X4_15.out.cs6
   obtain ⟨xnf0,xnf1,xnf2,xnf3,xnf4,xnf5⟩ := X4_15.out.fs6
   have zz := X4_15.out.lt
   go_upto_region 27 with fail
   clear zz
   clear xn0 xn1 xn2 xn3 xn4 xn5 xnf0 xnf1 xnf2 xnf3 xnf4 xnf5
   have BU := Av.but_setB w7 b4 (.int .i64 b.me) (.slice o1 o2 o3) (.slice o4 o5 o6) (.slice o7 o8 o9) (.slice x4 x5 x6) (.slice o13 o14 o15)
   have EK := ents_keep (s1 := (o1,o2,o3)) (s2 := (o4,o5,o6)) (s3 := (o7,o8,o9)) (s4 := (o10,o11,o12)) (s5 := (o13,o14,o15)) RU2.out AU2.out X4_15.out (fun j hj hne => BU.1 j hj hne)
   clear RU2 AU2
   have RU2 := Lib.hid EK.1
   have AU2 := Lib.hid EK.2
   clear EK
   have EK := ents_keep (s1 := (o1,o2,o3)) (s2 := (o4,o5,o6)) (s3 := (o7,o8,o9)) (s4 := (o10,o11,o12)) (s5 := (o13,o14,o15)) RV.out AV.out X4_15.out (fun j hj hne => BU.1 j hj hne)
   clear RV AV
   have RV := Lib.hid EK.1
   have AV := Lib.hid EK.2
   clear EK
   have GB_17 := Lib.hid (setB_below GB_15.out L4 (.int .i64 b.me) (.slice o1 o2 o3) (.slice o4 o5 o6) (.slice o7 o8 o9) (.slice x4 x5 x6) (.slice o13 o14 o15))
   have X3_17 := Lib.hid (BU.box X3_15.out (N34))
   have X4_17 := Lib.hid (setB_box X4_15.out (.int .i64 b.me) (.slice o1 o2 o3) (.slice o4 o5 o6) (.slice o7 o8 o9) (.slice x4 x5 x6) (.slice o13 o14 o15))
   have XT_17 := Lib.hid (BU.box XT_15.out (box_ne XT_15.out X4_15.out rfl))
   have XS_17 := Lib.hid (BU.box XS_15.out (box_ne XS_15.out X4_15.out rfl))
   have XQ_17 := Lib.hid (BU.box XQ_15.out (box_ne XQ_15.out X4_15.out rfl))
   have N3_17 := Lib.hid (N3_15.out.keep (s1 := (o1,o2,o3)) (s2 := (o4,o5,o6)) (s3 := (o7,o8,o9)) (s4 := (o10,o11,o12)) (s5 := (o13,o14,o15)) X4_15.out BU)
   have N4_17 := Lib.hid (N4_16.out.keep (s1 := (o1,o2,o3)) (s2 := (o4,o5,o6)) (s3 := (o7,o8,o9)) (s4 := (o10,o11,o12)) (s5 := (o13,o14,o15)) X4_15.out BU)
   have OC_17 := Lib.hid (BU.own OC_15.out X4_15.out (by decide))
   clear BU
   unfold setB at *
   generalize (((((w7.setCell ⟨b4,0,none⟩ (.int .i64 b.me)).setCell ⟨b4,1,none⟩ (.slice o1 o2 o3)).setCell ⟨b4,2,none⟩ (.slice o4 o5 o6)).setCell ⟨b4,3,none⟩ (.slice o7 o8 o9)).setCell ⟨b4,4,none⟩ (.slice x4 x5 x6)).setCell ⟨b4,5,none⟩ (.slice o13 o14 o15) = w8 at *
   have hx4 : Box w8 b4 #[.int .i64 nb.me,.slice o1 o2 o3,.slice o4 o5 o6,.slice o7 o8 o9,.slice x4 x5 x6,.slice o13 o14 o15] 31 := by rw [ME1.out.1]; exact X4_17.out
   have X4_18 := Lib.hid (hx4)
   clear hx4
   have EN := entries_any (.slice l1 l2 l3) (.slice y1 y2 y3) lu lv ups ups w8 RU2.out RV.out AU2.out AV.out (fun k e h => Nat.le_trans (predOk_len (UP.out.1 e (List.mem_of_getElem? h))) (by decide)) (fun k e h => Nat.le_trans (predOk_len (UP.out.1 e (List.mem_of_getElem? h))) (by decide))
   rw [same_up] at EN
   have LU := Lib.hid (show lu.length ≤ 1000000 from by rw [AU2.out.len]; exact Nat.le_trans UP.out.2 (Nat.le_trans FW.out.ent (by decide)))
   have EN := Lib.hid (EN LU.out)
   cases gt
   ·go_wp2_with fail
    refine EN.out.mono ?_
    rintro e8 w9 ⟨rfl,hb⟩
    have GB_19 := Lib.hid (GB_17.out.trans (hb.mono GB_17.out.size))
    have X3_19 := Lib.hid (X3_17.out.on hb)
    have X4_19 := Lib.hid (X4_18.out.on hb)
    have XT_19 := Lib.hid (XT_17.out.on hb)
    have XS_19 := Lib.hid (XS_17.out.on hb)
    have XQ_19 := Lib.hid (XQ_17.out.on hb)
    have N3_19 := Lib.hid (N3_17.out.on hb)
    have N4_19 := Lib.hid (N4_17.out.on hb)
    have OC_19 := Lib.hid (Bk.own_on OC_17.out hb)
    clear GB_17 X3_17 X4_18 XT_17 XS_17 XQ_17 N3_17 N4_17 OC_17
    clear hb
    go_wp2
    refine pl_tail _ _ nb (n + 1) b3 b4 bt bs r1 r2 r3 r4 r5 r6 r7 r8 r9 r10 r11 r12 r13 r14 r15 o1 o2 o3 o4 o5 o6 o7 o8 o9 x4 x5 x6 o13 o14 o15 tt c1 c2 X3_19.out X4_19.out XT_19.out XS_19.out N3_19.out.br N4_19.out.br (PI2.out) (by have := HN.out; omega) _ _ _ _ _ _ _ _ _ _ _ _ _ _ _ _ _ _ _ _ _ _ _ _ _ _ _ _ _ _ _ _ _ _ _ _ _ _ _ _ _ _ _ _ _ _ _ _ _ _ _ _ _ _ _ _ _ _ _ _ _ _ _ _ _ _ _ _ _ _ _ _ _ _ _ _ _ _ _ _ _ _ _ _ _ _ _ _ _ _ _ _ _ _ _ _ _ _ _ _ _ _ _ _ _ _ _ _ _ _ _ _ _ _ _ _ _ _ _ _ _ _ _ _ _ _ _ _ _ _ _ _ _ _ _ _ _ _ _ _ _ _ _ _ _ _ _ _ _ _ _ _ _ _ _ _ _ _ _ _ _ _ _ _ _ _ _ _ _ _ _ _ _ _ _ _ _ _ _ _ _ _ _ _ _ _ _ _ _ _ _ _ _ _ _ _ _ _ _ _ _ _ _ _ _ _ _ _ _ _ _ _ _ _ _ _ _ _ _ ?_
    intro xz v2 v19 v20 v21 v23 v157 v158 v159 v160 v161 v162 v163 v164 v165 v166 v167 v168 v169 v170 v171 v172 v173 v174 v175 v176 v177 v178 v179 v180 v181 v182 v183 v184 v185 v186 v187 v188 v189 v190 v191 v192 v193 v194 v195 v196 v197 v198 v199 v200 v201 v202 v203 v204 v205 v206 v207 v208 v209 v210 v211 v212 v213 v214 v215 v216 v217 v218 v219 v220 v221 hb9
    exact HQ.out xz nb r1 r2 r3 r4 r5 r6 r7 r8 r9 r10 r11 r12 r13 r14 r15 o1 o2 o3 o4 o5 o6 o7 o8 o9 x4 x5 x6 o13 o14 o15 _ _ _ _ _ _ _ _ _ _ _ _ _ _ _ _ _ _ _ _ _ _ _ _ _ _ _ _ _ _ _ _ _ _ _ _ _ _ _ _ _ _ _ _ _ _ _ _ _ _ _ _ _ _ _ _ _ _ _ _ _ _ _ _ _ _ _ _ _ _ _ _ _ _ _ _ _ _ _ _ _ _ _ _ _ _ _ _ _ _ _ _ _ _ _ _ _ _ _ _ _ _ _ _ _ _ _ _ _ _ _ _ _ _ _ _ _ _ _ _ _ _ _ _ _ _ _ _ _ _ _ _ _ _ _ _ _ _ _ _ _ _ _ _ _ _ _ _ _ _ _ _ _ _ _ _ _ _ _ _ _ _ _ _ _ _ _ _ _ _ _ _ _ _ _ _ _ _ (PI2.out) (X3_19.out.on hb9) (X4_19.out.on hb9) (N3_19.out.on hb9) (N4_19.out.on hb9) (GB_19.out.trans (hb9.mono GB_19.out.size))
   ·go_wp2_with fail
    refine EN.out.mono ?_
    rintro e8 w9 ⟨rfl,hb⟩
    have GB_19 := Lib.hid (GB_17.out.trans (hb.mono GB_17.out.size))
    have X3_19 := Lib.hid (X3_17.out.on hb)
    have X4_19 := Lib.hid (X4_18.out.on hb)
    have XT_19 := Lib.hid (XT_17.out.on hb)
    have XS_19 := Lib.hid (XS_17.out.on hb)
    have XQ_19 := Lib.hid (XQ_17.out.on hb)
    have N3_19 := Lib.hid (N3_17.out.on hb)
    have N4_19 := Lib.hid (N4_17.out.on hb)
    have OC_19 := Lib.hid (Bk.own_on OC_17.out hb)
    clear GB_17 X3_17 X4_18 XT_17 XS_17 XQ_17 N3_17 N4_17 OC_17
    clear hb
    go_wp2
    refine pl_tail _ _ nb (n + 1) b3 b4 bt bs r1 r2 r3 r4 r5 r6 r7 r8 r9 r10 r11 r12 r13 r14 r15 o1 o2 o3 o4 o5 o6 o7 o8 o9 x4 x5 x6 o13 o14 o15 tt c1 c2 X3_19.out X4_19.out XT_19.out XS_19.out N3_19.out.br N4_19.out.br (PI2.out) (by have := HN.out; omega) _ _ _ _ _ _ _ _ _ _ _ _ _ _ _ _ _ _ _ _ _ _ _ _ _ _ _ _ _ _ _ _ _ _ _ _ _ _ _ _ _ _ _ _ _ _ _ _ _ _ _ _ _ _ _ _ _ _ _ _ _ _ _ _ _ _ _ _ _ _ _ _ _ _ _ _ _ _ _ _ _ _ _ _ _ _ _ _ _ _ _ _ _ _ _ _ _ _ _ _ _ _ _ _ _ _ _ _ _ _ _ _ _ _ _ _ _ _ _ _ _ _ _ _ _ _ _ _ _ _ _ _ _ _ _ _ _ _ _ _ _ _ _ _ _ _ _ _ _ _ _ _ _ _ _ _ _ _ _ _ _ _ _ _ _ _ _ _ _ _ _ _ _ _ _ _ _ _ _ _ _ _ _ _ _ _ _ _ _ _ _ _ _ _ _ _ _ _ _ _ _ _ _ _ _ _ _ _ _ _ _ _ _ _ _ _ _ _ _ ?_
    intro xz v2 v19 v20 v21 v23 v157 v158 v159 v160 v161 v162 v163 v164 v165 v166 v167 v168 v169 v170 v171 v172 v173 v174 v175 v176 v177 v178 v179 v180 v181 v182 v183 v184 v185 v186 v187 v188 v189 v190 v191 v192 v193 v194 v195 v196 v197 v198 v199 v200 v201 v202 v203 v204 v205 v206 v207 v208 v209 v210 v211 v212 v213 v214 v215 v216 v217 v218 v219 v220 v221 hb9
    exact HQ.out xz nb r1 r2 r3 r4 r5 r6 r7 r8 r9 r10 r11 r12 r13 r14 r15 o1 o2 o3 o4 o5 o6 o7 o8 o9 x4 x5 x6 o13 o14 o15 _ _ _ _ _ _ _ _ _ _ _ _ _ _ _ _ _ _ _ _ _ _ _ _ _ _ _ _ _ _ _ _ _ _ _ _ _ _ _ _ _ _ _ _ _ _ _ _ _ _ _ _ _ _ _ _ _ _ _ _ _ _ _ _ _ _ _ _ _ _ _ _ _ _ _ _ _ _ _ _ _ _ _ _ _ _ _ _ _ _ _ _ _ _ _ _ _ _ _ _ _ _ _ _ _ _ _ _ _ _ _ _ _ _ _ _ _ _ _ _ _ _ _ _ _ _ _ _ _ _ _ _ _ _ _ _ _ _ _ _ _ _ _ _ _ _ _ _ _ _ _ _ _ _ _ _ _ _ _ _ _ _ _ _ _ _ _ _ _ _ _ _ _ _ _ _ _ _ (PI2.out) (X3_19.out.on hb9) (X4_19.out.on hb9) (N3_19.out.on hb9) (N4_19.out.on hb9) (GB_19.out.trans (hb9.mono GB_19.out.size))
 ·have xq0 := XQ_11.out.cell 0
  have xq1 := XQ_11.out.cell 1
  have xq2 := XQ_11.out.cell 2
  have xq3 := XQ_11.out.cell 3
  have xq4 := XQ_11.out.cell 4
  have xq5 := XQ_11.out.cell 5
  have xq6 := XQ_11.out.cell 6
  simp only [List.getElem?_toArray,List.getElem?_cons_zero,List.getElem?_cons_succ] at xq0 xq1 xq2 xq3 xq4 xq5 xq6
  obtain ⟨xt0,xt1⟩ := XT_11.out.cs2
  obtain ⟨xs0,xs1⟩ := XS_11.out.cs2
  go_upto_region 18 with fail
  clear xq0 xq1 xq2 xq3 xq4 xq5 xq6 xt0 xt1 xs0 xs1
  have NN := newB x2 (.cells #[.int .i64 tt,.int .i64 0,.int .i64 c1,.int .i64 c2,.slice p1 p2 p3,.int .i64 f,.bool false] 43)
  have GB_12 := Lib.hid (GB_11.out.trans (NN.mono GB_11.out.size))
  have X3_12 := Lib.hid (X3_11.out.on NN)
  have X4_12 := Lib.hid (X4_11.out.on NN)
  have XT_12 := Lib.hid (XT_11.out.on NN)
  have XS_12 := Lib.hid (XS_11.out.on NN)
  have XQ_12 := Lib.hid (XQ_11.out.on NN)
  have N3_12 := Lib.hid (N3_11.out.on NN)
  have N4_12 := Lib.hid (N4_11.out.on NN)
  have OC_12 := Lib.hid (Bk.own_on OC_11.out NN)
  clear GB_11 X3_11 X4_11 XT_11 XS_11 XQ_11 N3_11 N4_11 OC_11
  clear NN
  have XE_13 := Lib.hid (box_new x2 #[.int .i64 tt,.int .i64 0,.int .i64 c1,.int .i64 c2,.slice p1 p2 p3,.int .i64 f,.bool false] 43)
  generalize x2.alloc (.cells #[.int .i64 tt,.int .i64 0,.int .i64 c1,.int .i64 c2,.slice p1 p2 p3,.int .i64 f,.bool false] 43) = x3 at *
  obtain ⟨xm0,xm1,xm2,xm3,xm4,xm5⟩ := X3_12.out.cs6
  obtain ⟨xe0,xe1,xe2,xe3,xe4,xe5,xe6⟩ := XE_13.out.cs7
  go_wp2_with fail
  have C := sadd_any b ⟨(tt,0),(c1,c2),pl,f,false⟩ (s1,s2,s3) (s4,s5,s6) (s7,s8,s9) (s10,s11,s12) (s13,s14,s15) (tt,0,c1,c2,(p1,p2,p3),f,false) x3 N3_12.out.br ⟨rfl,rfl,rfl,rfl,Row.of_own OC_12.out⟩ FW.out PI.out.fewp PI.out.ok.ent PI.out.pe OKP.out
  have hp2 := pl_add PI.out (tt,0) (c1,c2) pl f HF.out RP.out OKP.out
  have me1 : (addB b ⟨(tt,0),(c1,c2),pl,f,false⟩).1.me = b.me ∧ (addB b ⟨(tt,0),(c1,c2),pl,f,false⟩).1.near = b.near := ⟨(addB_same b _).1,(addB_same b _).2.1⟩
  obtain ⟨⟨nb,gt⟩,hlb⟩ : ∃ r : Br × Bool,addB b ⟨(tt,0),(c1,c2),pl,f,false⟩ = r := ⟨_,rfl⟩
  rw [hlb] at C hp2 me1
  simp only at hp2 me1
  have ME1 := Lib.hid me1
  have HLB := Lib.hid hlb
  have PI2 := Lib.hid hp2
  clear me1 hlb hp2
  refine C.mono ?_
  rintro e5 w5 ⟨⟨⟨r1,r2,r3⟩,⟨r4,r5,r6⟩,⟨r7,r8,r9⟩,⟨r10,r11,r12⟩,⟨r13,r14,r15⟩,rfl,hbr,hno⟩,hb⟩
  clear xm0 xm1 xm2 xm3 xm4 xm5 xe0 xe1 xe2 xe3 xe4 xe5 xe6
  have hno := hno N3_12.out.no
  have GB_14 := Lib.hid (GB_12.out.trans (hb.mono GB_12.out.size))
  have X3_14 := Lib.hid (X3_12.out.on hb)
  have X4_14 := Lib.hid (X4_12.out.on hb)
  have XT_14 := Lib.hid (XT_12.out.on hb)
  have XS_14 := Lib.hid (XS_12.out.on hb)
  have XQ_14 := Lib.hid (XQ_12.out.on hb)
  have N3_14 := Lib.hid (N3_12.out.on hb)
  have N4_14 := Lib.hid (N4_12.out.on hb)
  have OC_14 := Lib.hid (Bk.own_on OC_12.out hb)
  have XE_14 := Lib.hid (XE_13.out.on hb)
  clear GB_12 X3_12 X4_12 XT_12 XS_12 XQ_12 N3_12 N4_12 OC_12 XE_13
  clear C hb
  have N3_15 := Lib.hid (BrN.mk hbr hno)
  clear hbr hno
  obtain ⟨xm0,xm1,xm2,xm3,xm4,xm5⟩ := X3_14.out.cs6
  obtain ⟨xmf0,xmf1,xmf2,xmf3,xmf4,xmf5⟩ := X3_14.out.fs6
  have zz := X3_14.out.lt
  go_upto_region 19 with fail
  clear zz
  clear xm0 xm1 xm2 xm3 xm4 xm5 xmf0 xmf1 xmf2 xmf3 xmf4 xmf5
  have BU := Av.but_setB w5 b3 (.int .i64 nb.me) (.slice r1 r2 r3) (.slice r4 r5 r6) (.slice r7 r8 r9) (.slice r10 r11 r12) (.slice r13 r14 r15)
  have GB_16 := Lib.hid (setB_below GB_14.out L3 (.int .i64 nb.me) (.slice r1 r2 r3) (.slice r4 r5 r6) (.slice r7 r8 r9) (.slice r10 r11 r12) (.slice r13 r14 r15))
  have X3_16 := Lib.hid (setB_box X3_14.out (.int .i64 nb.me) (.slice r1 r2 r3) (.slice r4 r5 r6) (.slice r7 r8 r9) (.slice r10 r11 r12) (.slice r13 r14 r15))
  have X4_16 := Lib.hid (BU.box X4_14.out (N34.symm))
  have XT_16 := Lib.hid (BU.box XT_14.out (box_ne XT_14.out X3_14.out rfl))
  have XS_16 := Lib.hid (BU.box XS_14.out (box_ne XS_14.out X3_14.out rfl))
  have XQ_16 := Lib.hid (BU.box XQ_14.out (box_ne XQ_14.out X3_14.out rfl))
  have N3_16 := Lib.hid (N3_15.out.keep (s1 := (s1,s2,s3)) (s2 := (s4,s5,s6)) (s3 := (s7,s8,s9)) (s4 := (s10,s11,s12)) (s5 := (s13,s14,s15)) X3_14.out BU)
  have N4_16 := Lib.hid (N4_14.out.keep (s1 := (s1,s2,s3)) (s2 := (s4,s5,s6)) (s3 := (s7,s8,s9)) (s4 := (s10,s11,s12)) (s5 := (s13,s14,s15)) X3_14.out BU)
  have OC_16 := Lib.hid (BU.own OC_14.out X3_14.out (by decide))
  have XE_16 := Lib.hid (BU.box XE_14.out (box_ne XE_14.out X3_14.out rfl))
  clear BU
  unfold setB at *
  generalize (((((w5.setCell ⟨b3,0,none⟩ (.int .i64 nb.me)).setCell ⟨b3,1,none⟩ (.slice r1 r2 r3)).setCell ⟨b3,2,none⟩ (.slice r4 r5 r6)).setCell ⟨b3,3,none⟩ (.slice r7 r8 r9)).setCell ⟨b3,4,none⟩ (.slice r10 r11 r12)).setCell ⟨b3,5,none⟩ (.slice r13 r14 r15) = w6 at *
  obtain ⟨xn0,xn1,xn2,xn3,xn4,xn5⟩ := X4_16.out.cs6
  obtain ⟨xe0,xe1,xe2,xe3,xe4,xe5,xe6⟩ := XE_16.out.cs7
  go_wp2_with fail
  have D := radd_any b (o1,o2,o3) (o4,o5,o6) (o7,o8,o9) (o10,o11,o12) (o13,o14,o15) (tt,0,c1,c2,(p1,p2,p3),f,false) ⟨(tt,0),(c1,c2),pl,f,false⟩ w6 N4_16.out.br ⟨rfl,rfl,rfl,rfl,Row.of_own OC_16.out⟩ FW.out.adv FW.out.ent PI.out.pe OKP.out
  rw [HLB.out] at D
  refine D.mono ?_
  rintro e7 w7 ⟨⟨⟨x4,x5,x6⟩,rfl,hbr⟩,hb⟩
  clear xn0 xn1 xn2 xn3 xn4 xn5 xe0 xe1 xe2 xe3 xe4 xe5 xe6
  have GB_17 := Lib.hid (GB_16.out.trans (hb.mono GB_16.out.size))
  have X3_17 := Lib.hid (X3_16.out.on hb)
  have X4_17 := Lib.hid (X4_16.out.on hb)
  have XT_17 := Lib.hid (XT_16.out.on hb)
  have XS_17 := Lib.hid (XS_16.out.on hb)
  have XQ_17 := Lib.hid (XQ_16.out.on hb)
  have N3_17 := Lib.hid (N3_16.out.on hb)
  have N4_17 := Lib.hid (N4_16.out.on hb)
  have OC_17 := Lib.hid (Bk.own_on OC_16.out hb)
  have XE_17 := Lib.hid (XE_16.out.on hb)
  clear GB_16 X3_16 X4_16 XT_16 XS_16 XQ_16 N3_16 N4_16 OC_16 XE_16
  have hno : NearOwn w7 (o1,o2,o3) nb.near := by rw [ME1.out.2]; exact N4_17.out.no
  clear D hb
  have N4_18 := Lib.hid (BrN.mk hbr hno)
  clear hbr hno
  obtain ⟨xn0,xn1,xn2,xn3,xn4,xn5⟩ := X4_17.out.cs6
  obtain ⟨xnf0,xnf1,xnf2,xnf3,xnf4,xnf5⟩ := X4_17.out.fs6
  have zz := X4_17.out.lt
  go_upto_region 20 with fail
  clear zz
  clear xn0 xn1 xn2 xn3 xn4 xn5 xnf0 xnf1 xnf2 xnf3 xnf4 xnf5
  have BU := Av.but_setB w7 b4 (.int .i64 b.me) (.slice o1 o2 o3) (.slice o4 o5 o6) (.slice o7 o8 o9) (.slice x4 x5 x6) (.slice o13 o14 o15)
  have GB_19 := Lib.hid (setB_below GB_17.out L4 (.int .i64 b.me) (.slice o1 o2 o3) (.slice o4 o5 o6) (.slice o7 o8 o9) (.slice x4 x5 x6) (.slice o13 o14 o15))
  have X3_19 := Lib.hid (BU.box X3_17.out (N34))
  have X4_19 := Lib.hid (setB_box X4_17.out (.int .i64 b.me) (.slice o1 o2 o3) (.slice o4 o5 o6) (.slice o7 o8 o9) (.slice x4 x5 x6) (.slice o13 o14 o15))
  have XT_19 := Lib.hid (BU.box XT_17.out (box_ne XT_17.out X4_17.out rfl))
  have XS_19 := Lib.hid (BU.box XS_17.out (box_ne XS_17.out X4_17.out rfl))
  have XQ_19 := Lib.hid (BU.box XQ_17.out (box_ne XQ_17.out X4_17.out rfl))
  have N3_19 := Lib.hid (N3_17.out.keep (s1 := (o1,o2,o3)) (s2 := (o4,o5,o6)) (s3 := (o7,o8,o9)) (s4 := (o10,o11,o12)) (s5 := (o13,o14,o15)) X4_17.out BU)
  have N4_19 := Lib.hid (N4_18.out.keep (s1 := (o1,o2,o3)) (s2 := (o4,o5,o6)) (s3 := (o7,o8,o9)) (s4 := (o10,o11,o12)) (s5 := (o13,o14,o15)) X4_17.out BU)
  have OC_19 := Lib.hid (BU.own OC_17.out X4_17.out (by decide))
  have XE_19 := Lib.hid (BU.box XE_17.out (box_ne XE_17.out X4_17.out rfl))
  clear BU
  unfold setB at *
  generalize (((((w7.setCell ⟨b4,0,none⟩ (.int .i64 b.me)).setCell ⟨b4,1,none⟩ (.slice o1 o2 o3)).setCell ⟨b4,2,none⟩ (.slice o4 o5 o6)).setCell ⟨b4,3,none⟩ (.slice o7 o8 o9)).setCell ⟨b4,4,none⟩ (.slice x4 x5 x6)).setCell ⟨b4,5,none⟩ (.slice o13 o14 o15) = w8 at *
  have hx4 : Box w8 b4 #[.int .i64 nb.me,.slice o1 o2 o3,.slice o4 o5 o6,.slice o7 o8 o9,.slice x4 x5 x6,.slice o13 o14 o15] 31 := by rw [ME1.out.1]; exact X4_19.out
  have X4_20 := Lib.hid (hx4)
  clear hx4
  cases gt
  ·go_wp2
   refine pl_tail _ _ nb (n + 1) b3 b4 bt bs r1 r2 r3 r4 r5 r6 r7 r8 r9 r10 r11 r12 r13 r14 r15 o1 o2 o3 o4 o5 o6 o7 o8 o9 x4 x5 x6 o13 o14 o15 tt c1 c2 X3_19.out X4_20.out XT_19.out XS_19.out N3_19.out.br N4_19.out.br (PI2.out) (by have := HN.out; omega) _ _ _ _ _ _ _ _ _ _ _ _ _ _ _ _ _ _ _ _ _ _ _ _ _ _ _ _ _ _ _ _ _ _ _ _ _ _ _ _ _ _ _ _ _ _ _ _ _ _ _ _ _ _ _ _ _ _ _ _ _ _ _ _ _ _ _ _ _ _ _ _ _ _ _ _ _ _ _ _ _ _ _ _ _ _ _ _ _ _ _ _ _ _ _ _ _ _ _ _ _ _ _ _ _ _ _ _ _ _ _ _ _ _ _ _ _ _ _ _ _ _ _ _ _ _ _ _ _ _ _ _ _ _ _ _ _ _ _ _ _ _ _ _ _ _ _ _ _ _ _ _ _ _ _ _ _ _ _ _ _ _ _ _ _ _ _ _ _ _ _ _ _ _ _ _ _ _ _ _ _ _ _ _ _ _ _ _ _ _ _ _ _ _ _ _ _ _ _ _ _ _ _ _ _ _ _ _ _ _ _ _ _ _ _ _ _ _ _ ?_
   intro xz v2 v19 v20 v21 v23 v157 v158 v159 v160 v161 v162 v163 v164 v165 v166 v167 v168 v169 v170 v171 v172 v173 v174 v175 v176 v177 v178 v179 v180 v181 v182 v183 v184 v185 v186 v187 v188 v189 v190 v191 v192 v193 v194 v195 v196 v197 v198 v199 v200 v201 v202 v203 v204 v205 v206 v207 v208 v209 v210 v211 v212 v213 v214 v215 v216 v217 v218 v219 v220 v221 hb9
   exact HQ.out xz nb r1 r2 r3 r4 r5 r6 r7 r8 r9 r10 r11 r12 r13 r14 r15 o1 o2 o3 o4 o5 o6 o7 o8 o9 x4 x5 x6 o13 o14 o15 _ _ _ _ _ _ _ _ _ _ _ _ _ _ _ _ _ _ _ _ _ _ _ _ _ _ _ _ _ _ _ _ _ _ _ _ _ _ _ _ _ _ _ _ _ _ _ _ _ _ _ _ _ _ _ _ _ _ _ _ _ _ _ _ _ _ _ _ _ _ _ _ _ _ _ _ _ _ _ _ _ _ _ _ _ _ _ _ _ _ _ _ _ _ _ _ _ _ _ _ _ _ _ _ _ _ _ _ _ _ _ _ _ _ _ _ _ _ _ _ _ _ _ _ _ _ _ _ _ _ _ _ _ _ _ _ _ _ _ _ _ _ _ _ _ _ _ _ _ _ _ _ _ _ _ _ _ _ _ _ _ _ _ _ _ _ _ _ _ _ _ _ _ _ _ _ _ _ (PI2.out) (X3_19.out.on hb9) (X4_20.out.on hb9) (N3_19.out.on hb9) (N4_19.out.on hb9) (GB_19.out.trans (hb9.mono GB_19.out.size))
  ·go_wp2
   refine pl_tail _ _ nb (n + 1) b3 b4 bt bs r1 r2 r3 r4 r5 r6 r7 r8 r9 r10 r11 r12 r13 r14 r15 o1 o2 o3 o4 o5 o6 o7 o8 o9 x4 x5 x6 o13 o14 o15 tt c1 c2 X3_19.out X4_20.out XT_19.out XS_19.out N3_19.out.br N4_19.out.br (PI2.out) (by have := HN.out; omega) _ _ _ _ _ _ _ _ _ _ _ _ _ _ _ _ _ _ _ _ _ _ _ _ _ _ _ _ _ _ _ _ _ _ _ _ _ _ _ _ _ _ _ _ _ _ _ _ _ _ _ _ _ _ _ _ _ _ _ _ _ _ _ _ _ _ _ _ _ _ _ _ _ _ _ _ _ _ _ _ _ _ _ _ _ _ _ _ _ _ _ _ _ _ _ _ _ _ _ _ _ _ _ _ _ _ _ _ _ _ _ _ _ _ _ _ _ _ _ _ _ _ _ _ _ _ _ _ _ _ _ _ _ _ _ _ _ _ _ _ _ _ _ _ _ _ _ _ _ _ _ _ _ _ _ _ _ _ _ _ _ _ _ _ _ _ _ _ _ _ _ _ _ _ _ _ _ _ _ _ _ _ _ _ _ _ _ _ _ _ _ _ _ _ _ _ _ _ _ _ _ _ _ _ _ _ _ _ _ _ _ _ _ _ _ _ _ _ _ ?_
   intro xz v2 v19 v20 v21 v23 v157 v158 v159 v160 v161 v162 v163 v164 v165 v166 v167 v168 v169 v170 v171 v172 v173 v174 v175 v176 v177 v178 v179 v180 v181 v182 v183 v184 v185 v186 v187 v188 v189 v190 v191 v192 v193 v194 v195 v196 v197 v198 v199 v200 v201 v202 v203 v204 v205 v206 v207 v208 v209 v210 v211 v212 v213 v214 v215 v216 v217 v218 v219 v220 v221 hb9
   exact HQ.out xz nb r1 r2 r3 r4 r5 r6 r7 r8 r9 r10 r11 r12 r13 r14 r15 o1 o2 o3 o4 o5 o6 o7 o8 o9 x4 x5 x6 o13 o14 o15 _ _ _ _ _ _ _ _ _ _ _ _ _ _ _ _ _ _ _ _ _ _ _ _ _ _ _ _ _ _ _ _ _ _ _ _ _ _ _ _ _ _ _ _ _ _ _ _ _ _ _ _ _ _ _ _ _ _ _ _ _ _ _ _ _ _ _ _ _ _ _ _ _ _ _ _ _ _ _ _ _ _ _ _ _ _ _ _ _ _ _ _ _ _ _ _ _ _ _ _ _ _ _ _ _ _ _ _ _ _ _ _ _ _ _ _ _ _ _ _ _ _ _ _ _ _ _ _ _ _ _ _ _ _ _ _ _ _ _ _ _ _ _ _ _ _ _ _ _ _ _ _ _ _ _ _ _ _ _ _ _ _ _ _ _ _ _ _ _ _ _ _ _ _ _ _ _ _ (PI2.out) (X3_19.out.on hb9) (X4_20.out.on hb9) (N3_19.out.on hb9) (N4_19.out.on hb9) (GB_19.out.trans (hb9.mono GB_19.out.size))
end Go.Proofs.YtncogjpmboglhaaGreat.Sb
