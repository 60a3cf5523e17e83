/-
  SubsPlays: what is asked behind each call. Conditions as told.
-/
import Derived.Test.YtncogjpmboglhaaGreatG049
import Derived.Test.YtncogjpmboglhaaGreatG028
import Derived.Test.YtncogjpmboglhaaGreatG046
import Derived.Test.YtncogjpmboglhaaGreatG031
import Derived.Test.YtncogjpmboglhaaGreatG024
import Derived.Test.YtncogjpmboglhaaGreatG030
set_option maxRecDepth 100000
set_option maxHeartbeats 64000000
namespace Go.Proofs.YtncogjpmboglhaaGreat.Sb
open Go.RowKit Go.Sort Rw YtncogjpmboglhaaGreat.Nm Pr Bk Av Rl
def cntS (l : List En) (s : XID) : Nat := (l.filter fun e => decide (e.sub = s)).length
theorem cnt_succ {l : List En} {k : Nat} {e : En} (h : l[k]? = some e) (s : XID) : cntS (l.take (k + 1)) s = cntS (l.take k) s + if e.sub = s then 1 else 0 := by
 have E2 : l.take (k + 1) = l.take k ++ [e] := List.take_succ_eq_append_getElem (List.getElem?_eq_some_iff.1 h).1 ▸ by rw [(List.getElem?_eq_some_iff.1 h).2]
 unfold cntS
 rw [E2,List.filter_append,List.length_append]
 congr 1
 by_cases q : e.sub = s
 ·rw [if_pos q,List.filter_cons_of_pos (by simpa using q)]; rfl
 ·rw [if_neg q,List.filter_cons_of_neg (by simpa using q)]; rfl
theorem key_once : ∀ {m : List En},RiseE m → ∀ k : XID × XID,(m.filter fun e => decide (keyE e = k)).length ≤ 1
 | [],_,_ => by simp
 | a :: m,h,k => by
  obtain ⟨h1,h2⟩ := List.pairwise_cons.1 h
  by_cases q : keyE a = k
  ·rw [List.filter_cons_of_pos (by simpa using q),List.filter_eq_nil_iff.2 fun b hb => ?_]
   ·simp
   ·intro hk
    have hk : keyE b = k := of_decide_eq_true hk
    have := (lessP_iff a b).2 (h1 b hb)
    rw [q,hk,lessP_irr] at this
    cases this
  ·rw [List.filter_cons_of_neg (by simpa using q)]
   exact key_once h2 k
theorem cnt_br {m : List En} (hr : RiseE m) (t s : XID) : cntS (brE m t) s = if thereE m t s = true then 1 else 0 := by
 have e : cntS (brE m t) s = (m.filter fun e => decide (keyE e = (t,s))).length := by
  unfold cntS
  rw [br_filter hr,List.filter_filter]
  congr 2
  funext e
  by_cases h1 : e.sub = s <;> by_cases h2 : e.tree = t <;> simp [keyE,h1,h2]
 rw [e]
 cases h : thereE m t s with
 | false =>
  rw [if_neg (by simp),List.filter_eq_nil_iff.2 fun b hb hk => ?_]
  ·rfl
  ·have hk : keyE b = (t,s) := of_decide_eq_true hk
   have h1 := (findE_mem hr hb).2
   rw [show b.tree = t from congrArg Prod.fst hk,show b.sub = s from congrArg Prod.snd hk,h] at h1
   cases h1
 | true =>
  rw [if_pos rfl]
  obtain ⟨b,h1,h2,_⟩ := find_some h
  have h3 := key_once hr (t,s)
  have h4 : 0 < (m.filter fun e => decide (keyE e = (t,s))).length := List.length_pos_of_mem (List.mem_filter.2 ⟨List.mem_of_getElem? h1,by simpa using h2⟩)
  omega
theorem cnt_le (l : List En) (s : XID) : cntS l s ≤ l.length := List.length_filter_le _ _
theorem find2_any (me : Int) (nv av sv ov : Value) (ev : Sl) (l : List XEn) (m : List En) (t1 t2 c1 c2 : Int) (w : World) (hs : RowN w (slv ev) l) (hu : All2 (EnIn w) l m) (hr : RiseE m) (hl : l.length ≤ 1000) (hf : ∀ e ∈ m,e.p.length ≤ 900) :
  Calls Tryz.prog 25 #[.agg #[.int .i64 me,nv,av,sv,slv ev,ov],idv (t1,t2),idv (c1,c2)] w fun e w' => (∃ r : XEn,e = .returned (.tuple #[valN r,.bool (thereE m (t1,t2) (c1,c2))]) ∧ (thereE m (t1,t2) (c1,c2) = true → r.1 = t1 ∧ r.2.1 = t2 ∧ r.2.2.1 = c1 ∧ r.2.2.2.1 = c2)) ∧ Below w.heap.size w w' := by
 refine (sfind_any me nv av sv ov ev l m (t1,t2) (c1,c2) w hs hu hr hl hf).mono ?_
 cases h : thereE m (t1,t2) (c1,c2) with
 | false =>
  rw [find_not h]
  rintro e w' ⟨rfl,hb⟩
  exact ⟨⟨_,rfl,fun q => by cases q⟩,hb⟩
 | true =>
  obtain ⟨e,_,h2,h3⟩ := find_some h
  rw [h3]
  rintro e' w' ⟨⟨r,rfl,h4⟩,hb⟩
  have g1 : (r.1,r.2.1) = (t1,t2) := h4.1.trans (congrArg Prod.fst h2)
  have g2 : (r.2.2.1,r.2.2.2.1) = (c1,c2) := h4.2.1.trans (congrArg Prod.snd h2)
  exact ⟨⟨r,rfl,fun _ => ⟨congrArg Prod.fst g1,congrArg Prod.snd g1,congrArg Prod.fst g2,congrArg Prod.snd g2⟩⟩,hb⟩
def nav : List Nat → Code → Code
 | 1 :: l,.seq a _ => nav l a
 | 2 :: l,.seq _ b => nav l b
 | 3 :: l,.block _ c => nav l c
 | 4 :: l,.loop c => nav l c
 | _,c => c
noncomputable def plTailC : Code := nav [2,2,1,2,3,4,2,1,3,2,2,2,2,2,2,2,2] (Tryz.f4.body.getD .skip)
theorem pl_tail (Q : Exit → Act → World → Prop) (W : World) (b : Br) (n b3 b4 bt bs : Nat) (s1 : Option Addr) (s2 s3 : Nat) (s4 : Option Addr) (s5 s6 : Nat) (s7 : Option Addr) (s8 s9 : Nat) (s10 : Option Addr) (s11 s12 : Nat) (s13 : Option Addr) (s14 s15 : Nat) (m1 : Option Addr) (m2 m3 : Nat) (m4 : Option Addr) (m5 m6 : Nat) (m7 : Option Addr) (m8 m9 : Nat) (m10 : Option Addr) (m11 m12 : Nat) (m13 : Option Addr) (m14 m15 : Nat) (t1 c1 c2 : Int) (x3 : Box W b3 #[.int .i64 b.me,.slice s1 s2 s3,.slice s4 s5 s6,.slice s7 s8 s9,.slice s10 s11 s12,.slice s13 s14 s15] 31) (x4 : Box W b4 #[.int .i64 b.me,.slice m1 m2 m3,.slice m4 m5 m6,.slice m7 m8 m9,.slice m10 m11 m12,.slice m13 m14 m15] 31) (xt : Box W bt #[.int .i64 t1,.int .i64 0] 38) (xs : Box W bs #[.int .i64 c1,.int .i64 c2] 38) (n3 : BrIn W b (s1,s2,s3) (s4,s5,s6) (s7,s8,s9) (s10,s11,s12) (s13,s14,s15)) (n4 : BrIn W b (m1,m2,m3) (m4,m5,m6) (m7,m8,m9) (m10,m11,m12) (m13,m14,m15)) (pi : PlI b n) (hn : n ≤ 900) (u0 u1 u2 u5 u6 u9 u10 u11 u12 u13 u14 u15 u16 u17 u18 u19 u20 u21 u22 u23 u24 u25 u26 u27 u28 u29 u30 u31 u32 u33 u34 u35 u36 u37 u38 u39 u40 u41 u42 u43 u44 u45 u46 u47 u48 u49 u50 u51 u52 u53 u54 u55 u56 u57 u58 u59 u60 u61 u62 u63 u64 u65 u66 u67 u68 u69 u70 u71 u72 u73 u74 u75 u76 u77 u78 u79 u80 u81 u82 u83 u84 u85 u86 u87 u88 u89 u90 u91 u92 u93 u94 u95 u96 u97 u98 u99 u100 u101 u102 u103 u104 u105 u106 u107 u108 u109 u110 u111 u112 u113 u114 u115 u116 u117 u118 u119 u120 u121 u122 u123 u124 u125 u126 u127 u128 u129 u130 u131 u132 u133 u134 u135 u136 u137 u138 u139 u140 u141 u142 u143 u144 u145 u146 u147 u148 u149 u150 u151 u152 u153 u154 u155 u156 u157 u158 u159 u160 u161 u162 u163 u164 u165 u166 u167 u168 u169 u170 u171 u172 u173 u174 u175 u176 u177 u178 u179 u180 u181 u182 u183 u184 u185 u186 u187 u188 u189 u190 u191 u192 u193 u194 u195 u196 u197 u198 u199 u200 u201 u202 u203 u204 u205 u206 u207 u208 u209 u210 u211 u212 u213 u214 u215 u216 u217 u218 u219 u220 u221 u222 : Value)
  (hQ : ∀ (x : World) (v2 v19 v20 v21 v23 v157 v158 v159 v160 v161 v162 v163 v164 v165 v166 v167 v168 v169 v170 v171 v172 v173 v174 v175 v176 v177 v178 v179 v180 v181 v182 v183 v184 v185 v186 v187 v188 v189 v190 v191 v192 v193 v194 v195 v196 v197 v198 v199 v200 v201 v202 v203 v204 v205 v206 v207 v208 v209 v210 v211 v212 v213 v214 v215 v216 v217 v218 v219 v220 v221 : Value),Below W.heap.size W x → Q .normal ⟨(u0 :: u1 :: v2 :: .pointer (some ⟨b3,0,none⟩) :: .pointer (some ⟨b4,0,none⟩) :: u5 :: u6 :: .pointer (some ⟨bt,0,none⟩) :: .pointer (some ⟨bs,0,none⟩) :: u9 :: u10 :: u11 :: u12 :: u13 :: u14 :: u15 :: u16 :: u17 :: u18 :: v19 :: v20 :: v21 :: u22 :: v23 :: u24 :: u25 :: u26 :: u27 :: u28 :: u29 :: u30 :: u31 :: u32 :: u33 :: u34 :: u35 :: u36 :: u37 :: u38 :: u39 :: u40 :: u41 :: u42 :: u43 :: u44 :: u45 :: u46 :: u47 :: u48 :: u49 :: u50 :: u51 :: u52 :: u53 :: u54 :: u55 :: u56 :: u57 :: u58 :: u59 :: u60 :: u61 :: u62 :: u63 :: u64 :: u65 :: u66 :: u67 :: u68 :: u69 :: u70 :: u71 :: u72 :: u73 :: u74 :: u75 :: u76 :: u77 :: u78 :: u79 :: u80 :: u81 :: u82 :: u83 :: u84 :: u85 :: u86 :: u87 :: u88 :: u89 :: u90 :: u91 :: u92 :: u93 :: u94 :: u95 :: u96 :: u97 :: u98 :: u99 :: u100 :: u101 :: u102 :: u103 :: u104 :: u105 :: u106 :: u107 :: u108 :: u109 :: u110 :: u111 :: u112 :: u113 :: u114 :: u115 :: u116 :: u117 :: u118 :: u119 :: u120 :: u121 :: u122 :: u123 :: u124 :: u125 :: u126 :: u127 :: u128 :: u129 :: u130 :: u131 :: u132 :: u133 :: u134 :: u135 :: u136 :: u137 :: u138 :: u139 :: u140 :: u141 :: u142 :: u143 :: u144 :: u145 :: u146 :: u147 :: u148 :: u149 :: u150 :: u151 :: u152 :: u153 :: u154 :: u155 :: u156 :: v157 :: v158 :: v159 :: v160 :: v161 :: v162 :: v163 :: v164 :: v165 :: v166 :: v167 :: v168 :: v169 :: v170 :: v171 :: v172 :: v173 :: v174 :: v175 :: v176 :: v177 :: v178 :: v179 :: v180 :: v181 :: v182 :: v183 :: v184 :: v185 :: v186 :: v187 :: v188 :: v189 :: v190 :: v191 :: v192 :: v193 :: v194 :: v195 :: v196 :: v197 :: v198 :: v199 :: v200 :: v201 :: v202 :: v203 :: v204 :: v205 :: v206 :: v207 :: v208 :: v209 :: v210 :: v211 :: v212 :: v213 :: v214 :: v215 :: v216 :: v217 :: v218 :: v219 :: v220 :: v221 :: u222 :: []).toArray,[]⟩ x) :
  Code.wp Tryz.prog plTailC Q ⟨(u0 :: u1 :: u2 :: .pointer (some ⟨b3,0,none⟩) :: .pointer (some ⟨b4,0,none⟩) :: u5 :: u6 :: .pointer (some ⟨bt,0,none⟩) :: .pointer (some ⟨bs,0,none⟩) :: u9 :: u10 :: u11 :: u12 :: u13 :: u14 :: u15 :: u16 :: u17 :: u18 :: u19 :: u20 :: u21 :: u22 :: u23 :: u24 :: u25 :: u26 :: u27 :: u28 :: u29 :: u30 :: u31 :: u32 :: u33 :: u34 :: u35 :: u36 :: u37 :: u38 :: u39 :: u40 :: u41 :: u42 :: u43 :: u44 :: u45 :: u46 :: u47 :: u48 :: u49 :: u50 :: u51 :: u52 :: u53 :: u54 :: u55 :: u56 :: u57 :: u58 :: u59 :: u60 :: u61 :: u62 :: u63 :: u64 :: u65 :: u66 :: u67 :: u68 :: u69 :: u70 :: u71 :: u72 :: u73 :: u74 :: u75 :: u76 :: u77 :: u78 :: u79 :: u80 :: u81 :: u82 :: u83 :: u84 :: u85 :: u86 :: u87 :: u88 :: u89 :: u90 :: u91 :: u92 :: u93 :: u94 :: u95 :: u96 :: u97 :: u98 :: u99 :: u100 :: u101 :: u102 :: u103 :: u104 :: u105 :: u106 :: u107 :: u108 :: u109 :: u110 :: u111 :: u112 :: u113 :: u114 :: u115 :: u116 :: u117 :: u118 :: u119 :: u120 :: u121 :: u122 :: u123 :: u124 :: u125 :: u126 :: u127 :: u128 :: u129 :: u130 :: u131 :: u132 :: u133 :: u134 :: u135 :: u136 :: u137 :: u138 :: u139 :: u140 :: u141 :: u142 :: u143 :: u144 :: u145 :: u146 :: u147 :: u148 :: u149 :: u150 :: u151 :: u152 :: u153 :: u154 :: u155 :: u156 :: u157 :: u158 :: u159 :: u160 :: u161 :: u162 :: u163 :: u164 :: u165 :: u166 :: u167 :: u168 :: u169 :: u170 :: u171 :: u172 :: u173 :: u174 :: u175 :: u176 :: u177 :: u178 :: u179 :: u180 :: u181 :: u182 :: u183 :: u184 :: u185 :: u186 :: u187 :: u188 :: u189 :: u190 :: u191 :: u192 :: u193 :: u194 :: u195 :: u196 :: u197 :: u198 :: u199 :: u200 :: u201 :: u202 :: u203 :: u204 :: u205 :: u206 :: u207 :: u208 :: u209 :: u210 :: u211 :: u212 :: u213 :: u214 :: u215 :: u216 :: u217 :: u218 :: u219 :: u220 :: u221 :: u222 :: []).toArray,[]⟩ W := by
 have X3_1 := Lib.hid (x3)
 have X4_2 := Lib.hid (x4)
 have XT_3 := Lib.hid (xt)
 have XS_4 := Lib.hid (xs)
 have N3_5 := Lib.hid (n3)
 have N4_6 := Lib.hid (n4)
 have GB_7 := Lib.hid (Below.refl W.heap.size W)
 have PI := Lib.hid pi
 have HN := Lib.hid hn
 have HQ := Lib.hid hQ
 clear x3 x4 xt xs n3 n4 pi hn hQ
 have FW := Lib.hid (PI.out.few HN.out)
 unfold plTailC
 conv => arg 2; whnf
 obtain ⟨le,hl,hE⟩ := N3_5.out.ent
 have hle : le.length ≤ 900 := by rw [hE.len]; exact FW.out.ent
 obtain ⟨xa0,xa1,xa2,xa3,xa4,xa5⟩ := X3_1.out.cs6
 obtain ⟨xb0,xb1⟩ := XT_3.out.cs2
 obtain ⟨xc0,xc1⟩ := XS_4.out.cs2
 go_wp2_with fail
 refine (find2_any b.me _ _ _ _ (s10,s11,s12) le b.ent t1 0 c1 c2 W hl hE PI.out.ok.ent (by omega) PI.out.fewp.ent).mono ?_
 rintro e1 x1 ⟨⟨⟨q1,q2,q3,q4,⟨q5,q6,q7⟩,q8,q9⟩,rfl,hq⟩,hb⟩
 clear xa0 xa1 xa2 xa3 xa4 xa5 xb0 xb1 xc0 xc1
 have X3_8 := Lib.hid (X3_1.out.on hb)
 have X4_8 := Lib.hid (X4_2.out.on hb)
 have XT_8 := Lib.hid (XT_3.out.on hb)
 have XS_8 := Lib.hid (XS_4.out.on hb)
 have N3_8 := Lib.hid (N3_5.out.on hb)
 have N4_8 := Lib.hid (N4_6.out.on hb)
 have GB_8 := Lib.hid (GB_7.out.trans (hb.mono GB_7.out.size))
 clear X3_1 X4_2 XT_3 XS_4 N3_5 N4_6 GB_7
 have EQ := Lib.hid hq
 clear hq hb hl hE hle
 generalize hok : thereE b.ent (t1,0) (c1,c2) = ok at *
 have OK := Lib.hid hok
 clear hok
 have NN := newB x1 (.cells #[.int .i64 q1,.int .i64 q2,.int .i64 q3,.int .i64 q4,.slice q5 q6 q7,.int .i64 q8,.bool q9] 43)
 have X3_9 := Lib.hid (X3_8.out.on NN)
 have X4_9 := Lib.hid (X4_8.out.on NN)
 have XT_9 := Lib.hid (XT_8.out.on NN)
 have XS_9 := Lib.hid (XS_8.out.on NN)
 have N3_9 := Lib.hid (N3_8.out.on NN)
 have N4_9 := Lib.hid (N4_8.out.on NN)
 have GB_9 := Lib.hid (GB_8.out.trans (NN.mono GB_8.out.size))
 clear X3_8 X4_8 XT_8 XS_8 N3_8 N4_8 GB_8
 clear NN
 have XE_10 := Lib.hid (box_new x1 #[.int .i64 q1,.int .i64 q2,.int .i64 q3,.int .i64 q4,.slice q5 q6 q7,.int .i64 q8,.bool q9] 43)
 obtain ⟨le,hl,hE⟩ := N3_9.out.ent
 have hle : le.length ≤ 900 := by rw [hE.len]; exact FW.out.ent
 obtain ⟨xa0,xa1,xa2,xa3,xa4,xa5⟩ := X3_9.out.cs6
 obtain ⟨xb0,xb1⟩ := XT_9.out.cs2
 go_wp2_with fail
 refine (of_any b.me _ _ _ _ (s10,s11,s12) le b.ent (t1,0) _ hl hE PI.out.ok.ent hle PI.out.fewp.ent).mono ?_
 rintro e2 x2 ⟨⟨⟨l1,l2,l3⟩,lu,rfl,hr,ha⟩,hb⟩
 clear xa0 xa1 xa2 xa3 xa4 xa5 xb0 xb1
 have X3_11 := Lib.hid (X3_9.out.on hb)
 have X4_11 := Lib.hid (X4_9.out.on hb)
 have XT_11 := Lib.hid (XT_9.out.on hb)
 have XS_11 := Lib.hid (XS_9.out.on hb)
 have N3_11 := Lib.hid (N3_9.out.on hb)
 have N4_11 := Lib.hid (N4_9.out.on hb)
 have GB_11 := Lib.hid (GB_9.out.trans (hb.mono GB_9.out.size))
 have XE_11 := Lib.hid (XE_10.out.on hb)
 clear X3_9 X4_9 XT_9 XS_9 N3_9 N4_9 GB_9 XE_10
 have hlu : lu.length = l2 := sl_len hr
 have HL := Lib.hid hlu
 have L9 := Lib.hid (show l2 ≤ 900 from by rw [← hlu,ha.len]; exact Nat.le_trans (List.Sublist.length_le (br_filter PI.out.ok.ent (t1,0) ▸ List.filter_sublist)) FW.out.ent)
 have RU_12 := Lib.hid (hr)
 have AU := Lib.hid ha
 have BT := Lib.hid (show ∀ e ∈ brE b.ent (t1,0),e.tree = (t1,0) from fun e he => by rw [br_filter PI.out.ok.ent] at he; exact of_decide_eq_true (List.mem_filter.1 he).2)
 have CT := Lib.hid (cnt_br PI.out.ok.ent (t1,0) (c1,c2))
 rw [OK.out] at CT
 clear hr ha hb hl hE hle hlu
 generalize brE b.ent (t1,0) = mb at *
 go_wp2
 go_loopw [21,168] (fun v i wr => ∃ k : Nat,k ≤ l2 ∧ i = .int .i64 k ∧ v = .int .i64 (cntS (mb.take k) (c1,c2) : Nat) ∧ Below x2.heap.size x2 wr) (fun _ i _ => l2 - (intOf i).toNat)
 case atStart => exact ⟨0,Nat.zero_le _,rfl,rfl,Below.refl _ _⟩
 case round =>
  obtain ⟨k,hk,rfl,rfl,hbe⟩ := hrel
  have BE_13 := Lib.hid (hbe)
  clear hbe
  have X3_14 := Lib.hid (X3_11.out.on BE_13.out)
  have X4_14 := Lib.hid (X4_11.out.on BE_13.out)
  have XT_14 := Lib.hid (XT_11.out.on BE_13.out)
  have XS_14 := Lib.hid (XS_11.out.on BE_13.out)
  have N3_14 := Lib.hid (N3_11.out.on BE_13.out)
  have N4_14 := Lib.hid (N4_11.out.on BE_13.out)
  have GB_14 := Lib.hid (GB_11.out.trans (BE_13.out.mono GB_11.out.size))
  have XE_14 := Lib.hid (XE_11.out.on BE_13.out)
  have RU_14 := Lib.hid (RU_12.out.on BE_13.out)
  clear X3_11 X4_11 XT_11 XS_11 N3_11 N4_11 GB_11 XE_11 RU_12
  by_cases hlt : k < l2
  ·obtain ⟨y,hy⟩ : ∃ y,lu[k]? = some y := ⟨_,List.getElem?_eq_getElem (by rw [HL.out]; exact hlt)⟩
   obtain ⟨p,ix,px⟩ := elN RU_14.out rfl HL.out hy
   obtain ⟨p0,p1,p2,p3,p4,p5,p6⟩ := px wr (Below.refl _ _)
   obtain ⟨e,he,_,hin⟩ := all2_key AU.out hy
   obtain ⟨y1,y2,y3,y4,⟨yo,yn,yc⟩,y6,y7⟩ := y
   simp only at p0 p1 p2 p3 p4 p5 p6
   have ht : ((y1,y2) : XID) = (t1,0) := hin.1.trans (BT.out e (List.mem_of_getElem? he))
   obtain ⟨rfl,rfl⟩ : y1 = t1 ∧ y2 = 0 := by simpa using ht
   have hs : ((y3,y4) : XID) = e.sub := hin.2.1
   have HC := Lib.hid (cnt_succ he (c1,c2))
   rw [← hs] at HC
   have hcl : cntS (mb.take k) (c1,c2) ≤ 900 := Nat.le_trans (cnt_le _ _) (by rw [List.length_take]; have := L9.out; omega)
   generalize cntS (mb.take k) (c1,c2) = c at *
   have hw3 : IntKind.i64.wrap ((k : Int) + 1) = (k : Int) + 1 := IntWalk.i64_in _ (by have := L9.out; omega)
   have hw4 : IntKind.i64.wrap ((c : Int) + 1) = (c : Int) + 1 := IntWalk.i64_in _ (by omega)
   clear px hy he hin ht hs
   have NB_ := Lib.hid (newB wr (.cells #[.int .i64 y1,.int .i64 0,.int .i64 y3,.int .i64 y4,.slice yo yn yc,.int .i64 y6,.bool y7] 43))
   have NN := newB wr (.cells #[.int .i64 y1,.int .i64 0,.int .i64 y3,.int .i64 y4,.slice yo yn yc,.int .i64 y6,.bool y7] 43)
   have X3_15 := Lib.hid (X3_14.out.on NN)
   have X4_15 := Lib.hid (X4_14.out.on NN)
   have XT_15 := Lib.hid (XT_14.out.on NN)
   have XS_15 := Lib.hid (XS_14.out.on NN)
   have N3_15 := Lib.hid (N3_14.out.on NN)
   have N4_15 := Lib.hid (N4_14.out.on NN)
   have GB_15 := Lib.hid (GB_14.out.trans (NN.mono GB_14.out.size))
   have XE_15 := Lib.hid (XE_14.out.on NN)
   have RU_15 := Lib.hid (RU_14.out.on NN)
   clear X3_14 X4_14 XT_14 XS_14 N3_14 N4_14 GB_14 XE_14 RU_14
   clear NN
   have XY_16 := Lib.hid (box_new wr #[.int .i64 y1,.int .i64 0,.int .i64 y3,.int .i64 y4,.slice yo yn yc,.int .i64 y6,.bool y7] 43)
   obtain ⟨xy0,xy1,xy2,xy3,xy4,xy5,xy6⟩ := XY_16.out.cs7
   obtain ⟨xb0,xb1⟩ := XT_15.out.cs2
   obtain ⟨xc0,xc1⟩ := XS_15.out.cs2
   have e1_ := neId y1 0 y1 0 false (by simp)
   rcases hrr : (y3 == c1 && y4 == c2) with _ | _
   ·have e2_ := eqId y3 y4 c1 c2 _ hrr
    have hcc : cntS (mb.take (k + 1)) (c1,c2) = c + 0 := by
     rw [HC.out]
     congr 1
     exact if_neg (by simpa using hrr)
    go_wp2_with fail
    go_roundw
    case rel => exact ⟨k + 1,by omega,by go_num,by rw [hcc]; rfl,BE_13.out.trans (NB_.out.mono BE_13.out.size)⟩
    case measure => simp [intOf]; omega
   ·have e2_ := eqId y3 y4 c1 c2 _ hrr
    have hcc : cntS (mb.take (k + 1)) (c1,c2) = c + 1 := by
     rw [HC.out]
     congr 1
     exact if_pos (by simpa using hrr)
    go_wp2_with fail
    go_roundw
    case rel => exact ⟨k + 1,by omega,by go_num,by rw [hcc]; go_num,BE_13.out.trans (NB_.out.mono BE_13.out.size)⟩
    case measure => simp [intOf]; omega
  ·obtain rfl : l2 = k := by omega
   have hfull : mb.take l2 = mb := List.take_of_length_le (by have := HL.out; have := AU.out.len; omega)
   rw [hfull,CT.out]
   have SH := Lib.hid PI.out.fewp.shr
   cases ok
   ·simp only [Bool.false_eq_true,if_false,Int.natCast_zero]
    obtain ⟨xa0,xa1,xa2,xa3,xa4,xa5⟩ := X3_14.out.cs6
    obtain ⟨xm0,xm1,xm2,xm3,xm4,xm5⟩ := X4_14.out.cs6
    go_wp2_with fail
    refine (brokers_any b b (s1,s2,s3) (s4,s5,s6) (s7,s8,s9) (s10,s11,s12) (s13,s14,s15) (m1,m2,m3) (m4,m5,m6) (m7,m8,m9) (m10,m11,m12) (m13,m14,m15) _ N3_14.out N4_14.out SH.out SH.out FW.out).mono ?_
    rw [same_self]
    rintro e3 x3 ⟨rfl,hb⟩
    clear xa0 xa1 xa2 xa3 xa4 xa5 xm0 xm1 xm2 xm3 xm4 xm5
    have X3_15 := Lib.hid (X3_14.out.on hb)
    have X4_15 := Lib.hid (X4_14.out.on hb)
    have XT_15 := Lib.hid (XT_14.out.on hb)
    have XS_15 := Lib.hid (XS_14.out.on hb)
    have N3_15 := Lib.hid (N3_14.out.on hb)
    have N4_15 := Lib.hid (N4_14.out.on hb)
    have GB_15 := Lib.hid (GB_14.out.trans (hb.mono GB_14.out.size))
    have XE_15 := Lib.hid (XE_14.out.on hb)
    have RU_15 := Lib.hid (RU_14.out.on hb)
    clear X3_14 X4_14 XT_14 XS_14 N3_14 N4_14 GB_14 XE_14 RU_14
    clear hb
    obtain ⟨xa0,xa1,xa2,xa3,xa4,xa5⟩ := X3_15.out.cs6
    go_wp2_with fail
    refine (aright_any b (s1,s2,s3) (s4,s5,s6) (s7,s8,s9) (s10,s11,s12) (s13,s14,s15) _ N3_15.out FW.out PI.out.tame).mono ?_
    rw [(okBr_iff b).2 PI.out.ok]
    rintro e4 x4 ⟨rfl,hb⟩
    clear xa0 xa1 xa2 xa3 xa4 xa5
    have X3_16 := Lib.hid (X3_15.out.on hb)
    have X4_16 := Lib.hid (X4_15.out.on hb)
    have XT_16 := Lib.hid (XT_15.out.on hb)
    have XS_16 := Lib.hid (XS_15.out.on hb)
    have N3_16 := Lib.hid (N3_15.out.on hb)
    have N4_16 := Lib.hid (N4_15.out.on hb)
    have GB_16 := Lib.hid (GB_15.out.trans (hb.mono GB_15.out.size))
    have XE_16 := Lib.hid (XE_15.out.on hb)
    have RU_16 := Lib.hid (RU_15.out.on hb)
    clear X3_15 X4_15 XT_15 XS_15 N3_15 N4_15 GB_15 XE_15 RU_15
    clear hb
    obtain ⟨xa0,xa1,xa2,xa3,xa4,xa5⟩ := X3_16.out.cs6
    go_wp2_with fail
    refine (stight_any b (s1,s2,s3) (s4,s5,s6) (s7,s8,s9) (s10,s11,s12) (s13,s14,s15) _ N3_16.out PI.out.ok.ent (Nat.le_trans FW.out.ent (by decide)) PI.out.pe).mono ?_
    rw [PI.out.tightB]
    rintro e5 x5 ⟨rfl,hb⟩
    clear xa0 xa1 xa2 xa3 xa4 xa5
    have X3_17 := Lib.hid (X3_16.out.on hb)
    have X4_17 := Lib.hid (X4_16.out.on hb)
    have XT_17 := Lib.hid (XT_16.out.on hb)
    have XS_17 := Lib.hid (XS_16.out.on hb)
    have N3_17 := Lib.hid (N3_16.out.on hb)
    have N4_17 := Lib.hid (N4_16.out.on hb)
    have GB_17 := Lib.hid (GB_16.out.trans (hb.mono GB_16.out.size))
    have XE_17 := Lib.hid (XE_16.out.on hb)
    have RU_17 := Lib.hid (RU_16.out.on hb)
    clear X3_16 X4_16 XT_16 XS_16 N3_16 N4_16 GB_16 XE_16 RU_16
    clear hb
    obtain ⟨xe0,xe1,xe2,xe3,xe4,xe5,xe6⟩ := XE_17.out.cs7
    obtain ⟨xb0,xb1⟩ := XT_17.out.cs2
    obtain ⟨xc0,xc1⟩ := XS_17.out.cs2
    go_wp2
    exact HQ.out _ _ _ _ _ _ _ _ _ _ _ _ _ _ _ _ _ _ _ _ _ _ _ _ _ _ _ _ _ _ _ _ _ _ _ _ _ _ _ _ _ _ _ _ _ _ _ _ _ _ _ _ _ _ _ _ _ _ _ _ _ _ _ _ _ _ _ _ _ _ _ GB_17.out
   ·obtain ⟨g1,g2,g3,g4⟩ := EQ.out rfl
    try simp only at g1 g2 g3 g4
    subst g1 g2 g3 g4
    have e6_ := neId q3 q4 q3 q4 false (by simp)
    have e7_ := neId q1 0 q1 0 false (by simp)
    simp only [if_true,Int.natCast_one]
    obtain ⟨xa0,xa1,xa2,xa3,xa4,xa5⟩ := X3_14.out.cs6
    obtain ⟨xm0,xm1,xm2,xm3,xm4,xm5⟩ := X4_14.out.cs6
    go_wp2_with fail
    refine (brokers_any b b (s1,s2,s3) (s4,s5,s6) (s7,s8,s9) (s10,s11,s12) (s13,s14,s15) (m1,m2,m3) (m4,m5,m6) (m7,m8,m9) (m10,m11,m12) (m13,m14,m15) _ N3_14.out N4_14.out SH.out SH.out FW.out).mono ?_
    rw [same_self]
    rintro e3 x3 ⟨rfl,hb⟩
    clear xa0 xa1 xa2 xa3 xa4 xa5 xm0 xm1 xm2 xm3 xm4 xm5
    have X3_15 := Lib.hid (X3_14.out.on hb)
    have X4_15 := Lib.hid (X4_14.out.on hb)
    have XT_15 := Lib.hid (XT_14.out.on hb)
    have XS_15 := Lib.hid (XS_14.out.on hb)
    have N3_15 := Lib.hid (N3_14.out.on hb)
    have N4_15 := Lib.hid (N4_14.out.on hb)
    have GB_15 := Lib.hid (GB_14.out.trans (hb.mono GB_14.out.size))
    have XE_15 := Lib.hid (XE_14.out.on hb)
    have RU_15 := Lib.hid (RU_14.out.on hb)
    clear X3_14 X4_14 XT_14 XS_14 N3_14 N4_14 GB_14 XE_14 RU_14
    clear hb
    obtain ⟨xa0,xa1,xa2,xa3,xa4,xa5⟩ := X3_15.out.cs6
    go_wp2_with fail
    refine (aright_any b (s1,s2,s3) (s4,s5,s6) (s7,s8,s9) (s10,s11,s12) (s13,s14,s15) _ N3_15.out FW.out PI.out.tame).mono ?_
    rw [(okBr_iff b).2 PI.out.ok]
    rintro e4 x4 ⟨rfl,hb⟩
    clear xa0 xa1 xa2 xa3 xa4 xa5
    have X3_16 := Lib.hid (X3_15.out.on hb)
    have X4_16 := Lib.hid (X4_15.out.on hb)
    have XT_16 := Lib.hid (XT_15.out.on hb)
    have XS_16 := Lib.hid (XS_15.out.on hb)
    have N3_16 := Lib.hid (N3_15.out.on hb)
    have N4_16 := Lib.hid (N4_15.out.on hb)
    have GB_16 := Lib.hid (GB_15.out.trans (hb.mono GB_15.out.size))
    have XE_16 := Lib.hid (XE_15.out.on hb)
    have RU_16 := Lib.hid (RU_15.out.on hb)
    clear X3_15 X4_15 XT_15 XS_15 N3_15 N4_15 GB_15 XE_15 RU_15
    clear hb
    obtain ⟨xa0,xa1,xa2,xa3,xa4,xa5⟩ := X3_16.out.cs6
    go_wp2_with fail
    refine (stight_any b (s1,s2,s3) (s4,s5,s6) (s7,s8,s9) (s10,s11,s12) (s13,s14,s15) _ N3_16.out PI.out.ok.ent (Nat.le_trans FW.out.ent (by decide)) PI.out.pe).mono ?_
    rw [PI.out.tightB]
    rintro e5 x5 ⟨rfl,hb⟩
    clear xa0 xa1 xa2 xa3 xa4 xa5
    have X3_17 := Lib.hid (X3_16.out.on hb)
    have X4_17 := Lib.hid (X4_16.out.on hb)
    have XT_17 := Lib.hid (XT_16.out.on hb)
    have XS_17 := Lib.hid (XS_16.out.on hb)
    have N3_17 := Lib.hid (N3_16.out.on hb)
    have N4_17 := Lib.hid (N4_16.out.on hb)
    have GB_17 := Lib.hid (GB_16.out.trans (hb.mono GB_16.out.size))
    have XE_17 := Lib.hid (XE_16.out.on hb)
    have RU_17 := Lib.hid (RU_16.out.on hb)
    clear X3_16 X4_16 XT_16 XS_16 N3_16 N4_16 GB_16 XE_16 RU_16
    clear hb
    obtain ⟨xe0,xe1,xe2,xe3,xe4,xe5,xe6⟩ := XE_17.out.cs7
    obtain ⟨xb0,xb1⟩ := XT_17.out.cs2
    obtain ⟨xc0,xc1⟩ := XS_17.out.cs2
    go_wp2
    exact HQ.out _ _ _ _ _ _ _ _ _ _ _ _ _ _ _ _ _ _ _ _ _ _ _ _ _ _ _ _ _ _ _ _ _ _ _ _ _ _ _ _ _ _ _ _ _ _ _ _ _ _ _ _ _ _ _ _ _ _ _ _ _ _ _ _ _ _ _ _ _ _ _ GB_17.out
end Go.Proofs.YtncogjpmboglhaaGreat.Sb
