/-
  What SubsFrom wants,. Conditions as told.
-/
import Derived.Test.YtncogjpmboglhaaGreatF033
import Derived.Test.YtncogjpmboglhaaGreatF018
import Derived.Test.YtncogjpmboglhaaGreatF032
import Derived.Test.YtncogjpmboglhaaGreatF016
set_option maxRecDepth 100000
set_option maxHeartbeats 64000000
namespace Go.Proofs.YtncogjpmboglhaaGreat.Sb
open Go.RowKit Go.Sort Rw YtncogjpmboglhaaGreat.Nm Pr Bk Av Rl
theorem key_uniq {m:List En} (hr:RiseE m) {i j:Nat} {x y:En} (hx:m[i]?=some x) (hy:m[j]?=some y) (h:keyE x=keyE y):i=j:=by
 rcases Nat.lt_trichotomy i j with q|q|q
 ·have:=(lessP_iff x y).2 (rise_less hr q hx hy)
  rw [h,lessP_irr] at this
  cases this
 ·exact q
 ·have:=(lessP_iff y x).2 (rise_less hr q hy hx)
  rw [h,lessP_irr] at this
  cases this
theorem findE_mem {m:List En} (hr:RiseE m) {e:En} (he:e∈m):findE m e.tree e.sub=some e∧thereE m e.tree e.sub=true:=by
 have ft:=find_there hr e.tree e.sub
 have hk:keyE e∈m.map keyE:=List.mem_map.2 ⟨e,he,rfl⟩
 have ht:thereE m e.tree e.sub=true:=by
  cases h:thereE m e.tree e.sub with
  | true=>rfl
  | false =>
   rw [h,if_neg (by simp)] at ft
   rcases findK_or (m.map keyE) (keyE e) with q|⟨k,q,r⟩
   ·exfalso
    obtain⟨j,hj⟩:=List.mem_iff_getElem?.1 hk
    have:∀ l:List (XID×XID),findK l (keyE e)=-1→keyE e ∉ l:=by
     intro l
     induction l with
     | nil=>intro _ h; simp at h
     | cons a l ih =>
      intro h2 h3
      rw [findK] at h2
      split at h2
      ·cases h2
      ·rename_i hne
       split at h2
       ·rename_i h4
        rcases List.mem_cons.1 h3 with h5|h5
        ·exact hne h5.symm
        ·exact ih h4 h5
       ·rename_i h4
        rcases findK_or l (keyE e) with h5|⟨k,h5,_⟩
        ·exact h4 h5
        ·rw [h5] at h2; omega
    exact this _ q hk
   ·rw [show findK (m.map keyE) (e.tree,e.sub)=findK (m.map keyE) (keyE e) from rfl,q] at ft
    omega
 obtain⟨e',h1,h2,h3⟩:=find_some ht
 obtain⟨j,hj⟩:=List.mem_iff_getElem?.1 he
 have hij:=key_uniq hr h1 hj h2
 rw [hij,hj] at h1
 obtain rfl:=Option.some.inj h1
 exact⟨h3,ht⟩
theorem findE_out {m:List En} {t s:XID} (h:∀ e∈m,keyE e≠(t,s)):findE m t s=none:=by
 unfold findE
 cases hm:m[placeP (m.map keyE) (t,s)]? with
 | none=>rfl
 | some e =>
  simp only
  rw [if_neg (h e (List.mem_of_getElem? hm))]
theorem thereE_out {m:List En} {t s:XID} (h:∀ e∈m,keyE e≠(t,s)):thereE m t s=false:=by
 unfold thereE
 cases hm:m[placeP (m.map keyE) (t,s)]? with
 | none=>rfl
 | some e=>exact decide_eq_false (h e (List.mem_of_getElem? hm))
theorem cut_key {m:List En} (hr:RiseE m) {j:Nat} {x:En} (hx:m[j]?=some x):∀ y∈cutAt m j,keyE y≠keyE x:=by
 intro y hy h
 unfold cutAt at hy
 rcases List.mem_append.1 hy with q|q
 ·obtain⟨i,hi⟩:=List.mem_iff_getElem?.1 q
  have hl:=(List.getElem?_eq_some_iff.1 hi).1
  rw [List.length_take] at hl
  rw [List.getElem?_take_of_lt (by omega)] at hi
  have:=key_uniq hr hi hx h
  omega
 ·obtain⟨i,hi⟩:=List.mem_iff_getElem?.1 q
  rw [List.getElem?_drop] at hi
  have:=key_uniq hr hi hx h
  omega
theorem take_there {c:Br} (hr:RiseE c.ent) {e1:En} (he:e1∈c.ent):∃ (g:Br) (ups:List En),takeB c e1.tree e1.sub e1.from_=(g,ups,e1.up)∧(∀ e∈g.ent,keyE e≠keyE e1)∧g.ent.length+1=c.ent.length∧(e1.up=false→ups=[])∧RiseE g.ent∧(∀ P:List C5→Prop,(∀ e∈c.ent,P e.p)→∀ e∈g.ent,P e.p):=by
 obtain⟨hf,ht⟩:=findE_mem hr he
 obtain⟨e',h1,h2,h3⟩:=find_some ht
 rw [hf] at h3
 obtain rfl:=Option.some.inj h3
 have ft:=find_there hr e1.tree e1.sub
 rw [ht,if_pos rfl] at ft
 have hck:=cut_key hr h1
 have hlt:=(List.getElem?_eq_some_iff.1 h1).1
 have hcl:(cutAt c.ent (placeP (c.ent.map keyE) (e1.tree,e1.sub))).length+1=c.ent.length:=by
  unfold cutAt
  rw [List.length_append,List.length_take,List.length_drop]
  omega
 have hrc:RiseE (cutAt c.ent (placeP (c.ent.map keyE) (e1.tree,e1.sub))):=hr.sublist (cut_sub _ _)
 unfold takeB
 rw [ft,Int.toNat_natCast,h1]
 simp only
 rw [if_neg (show ¬ ((placeP (c.ent.map keyE) (e1.tree,e1.sub):Int)=-1) by omega),if_neg (by simp)]
 have hmc:∀ P:List C5→Prop,(∀ e∈c.ent,P e.p)→∀ e∈cutAt c.ent (placeP (c.ent.map keyE) (e1.tree,e1.sub)),P e.p:=fun P hP e he=>hP e (mem_cut he)
 generalize cutAt c.ent (placeP (c.ent.map keyE) (e1.tree,e1.sub))=m at *
 cases hu:e1.up with
 | false =>
  rw [if_pos rfl]
  exact⟨_,_,rfl,hck,hcl,fun _=>rfl,hrc,hmc⟩
 | true =>
  rw [if_neg (by simp)]
  have hkk:(takeK e1.tree m m.length).1.map keyE=m.map keyE:=by
   have:∀ k,(takeK e1.tree m k).1.map keyE=m.map keyE:=by
    intro k
    induction k with
    | zero=>rfl
    | succ k ih =>
     rw [takeK_succ,← ih]
     unfold takeStep
     split
     ·rfl
     ·rename_i e he
      split
      ·rw [List.map_set]
       refine List.ext_getElem? fun j=>?_
       rw [List.getElem?_set]
       split
       ·rename_i hj
        subst hj
        split
        ·rw [List.getElem?_map,he]; rfl
        ·rename_i hl
         rw [List.getElem?_eq_none (by simpa using hl)]
       ·rfl
      ·rfl
   exact this _
  refine⟨_,_,rfl,fun e he=>?_,?_,fun h=>(by cases h),?_,fun P hP e he=>?_⟩
  ·have hk:keyE e∈m.map keyE:=by rw [← hkk]; exact List.mem_map.2 ⟨e,he,rfl⟩
   obtain⟨z,hz,hzk⟩:=List.mem_map.1 hk
   rw [← hzk]
   exact hck z hz
  ·show (takeK e1.tree m m.length).1.length+1=_
   rw [(takeK_len e1.tree m _).1]
   exact hcl
  ·show RiseE (takeK e1.tree m m.length).1
   have g:∀ l:List En,RiseE l↔(l.map keyE).Pairwise fun x y=>lessP x y=true:=fun l=>by
    rw [List.pairwise_map]
    exact⟨fun q=>q.imp fun {a b} r=>(lessP_iff a b).2 r,fun q=>q.imp fun {a b} r=>(lessP_iff a b).1 r⟩
   rw [g,hkk,← g]
   exact hrc
  ·exact (takeK_ok P (hmc P hP) _).1 e he
theorem take_else {c:Br} (hr:RiseE c.ent) {e1:En} (he:e1∈c.ent) {f:Int} (hf:e1.from_≠f):takeB c e1.tree e1.sub f=(c,[],false):=by
 rw [← takeF_eq hr]
 unfold takeF
 rw [(findE_mem hr he).1]
 simp only
 rw [if_pos hf]
theorem add_twice {c:Br} (hr:RiseE c.ent) {e1:En} (he:e1∈c.ent) (p:List C5) (f:Int):addB c ⟨e1.tree,e1.sub,p,f,false⟩=(c,false):=by
 rw [← addF_eq hr]
 unfold addF
 cases findA c.adv e1.tree with
 | none=>rfl
 | some a =>
  simp only
  rw [if_pos (findE_mem hr he).2]
theorem ins_rise2 {l:List En} (hr:RiseE l) (x:En) (hn:∀ y∈l,keyE y≠keyE x):RiseE (insAt l (placeP (l.map keyE) (keyE x)) x):=by
 unfold insAt
 have lo:∀ y∈l.take (placeP (l.map keyE) (keyE x)),cEn y x<0:=by
  intro y hy
  obtain⟨i,hi⟩:=List.mem_iff_getElem?.1 hy
  have hl:=(List.getElem?_eq_some_iff.1 hi).1
  rw [List.length_take] at hl
  rw [List.getElem?_take_of_lt (by omega)] at hi
  exact (lessP_iff y x).1 (take_less (l.map keyE) (keyE x) i (keyE y) (by omega) (by rw [List.getElem?_map,hi]; rfl))
 have hi:∀ y∈l.drop (placeP (l.map keyE) (keyE x)),cEn x y<0:=by
  intro y hy
  obtain⟨i,hi⟩:=List.mem_iff_getElem?.1 hy
  rw [List.getElem?_drop] at hi
  have h1:=place_hi hr (keyE x) (Nat.le_add_right _ i) hi
  have h2:=hn y (List.mem_of_getElem? hi)
  rw [cEn_neg]
  have h3:¬ (cEn y x<0):=fun q=>by rw [(lessP_iff y x).2 q] at h1; cases h1
  rw [cEn_neg] at h3
  rcases lessI_total x.tree y.tree with q|q|q
  ·exact Or.inl q
  ·refine Or.inr ⟨q,?_⟩
   rcases lessI_total x.sub y.sub with r|r|r
   ·exact r
   ·exact absurd (Prod.ext q.symm r.symm) h2
   ·exact absurd (Or.inr ⟨q.symm,r⟩) h3
  ·exact absurd (Or.inl q) h3
 rw [List.append_assoc]
 show List.Pairwise (fun x y=>cEn x y<0) _
 rw [List.pairwise_append]
 refine⟨hr.sublist (List.take_sublist _ _),?_,fun a ha b hb=>?_⟩
 ·rw [List.singleton_append,List.pairwise_cons]
  exact⟨fun b hb=>hi b hb,hr.sublist (List.drop_sublist _ _)⟩
 ·rw [List.singleton_append,List.mem_cons] at hb
  rcases hb with rfl|hb
  ·exact lo a ha
  ·exact cEn_tr _ _ _ (lo a ha) (hi b hb)
theorem add_cases {b:Br} (hr:RiseE b.ent) (e:En) (hn:∀ y∈b.ent,keyE y≠keyE e) :
  (findA b.adv e.tree=none∧addB b e=(b,false))∨(∃ a,findA b.adv e.tree=some a∧e.from_=a.par∧a.par≠-1∧addB b e=(b,false)) ∨
  (∃ a u,findA b.adv e.tree=some a∧(e.from_=-1∨e.from_≠a.par)∧(u=true→a.par≠-1)∧addB b e=({ b with ent:=insAt b.ent (placeP (b.ent.map keyE) (keyE e)) { e with up:=u } },u)∧u=(!(a.par == -1) && !coveredE b.ent e.tree e.p)):=by
 have ht:thereE b.ent e.tree e.sub=false:=thereE_out hn
 rw [← addF_eq hr]
 unfold addF
 cases hf:findA b.adv e.tree with
 | none=>exact Or.inl ⟨rfl,rfl⟩
 | some a =>
  right
  simp only
  rw [if_neg (by rw [ht]; simp)]
  by_cases hp:e.from_=a.par∧a.par≠-1
  ·rw [if_pos hp]
   exact Or.inl ⟨a,rfl,hp.1,hp.2,rfl⟩
  ·rw [if_neg hp]
   refine Or.inr ⟨a,_,rfl,?_,fun h=>?_,rfl,rfl⟩
   ·by_cases h1:e.from_=a.par
    ·left
     rw [h1]
     exact Decidable.byContradiction fun q=>hp ⟨h1,q⟩
    ·exact Or.inr h1
   ·intro q
    rw [q] at h
    simp at h
def sf5V (_B:Nat) (_bB _bT _bS _bP:Nat) (b:Br) (s1:Option Addr) (s2 s3:Nat) (s4:Option Addr) (s5 s6:Nat) (s7:Option Addr) (s8 s9:Nat) (s10:Option Addr) (s11 s12:Nat) (s13:Option Addr) (s14 s15:Nat) (t1 t2 y2 f:Int) (h1:Option Addr) (h2 h3:Nat) (g1:Option Addr) (g2 g3:Nat) (has vals:List Int) (i:Nat) (v:Value) (x:World):Prop :=
 match i with
 | 0=>v=brv b.me (s1,s2,s3) (s4,s5,s6) (s7,s8,s9) (s10,s11,s12) (s13,s14,s15)
 | 1=>v=.agg #[.int .i64 t1,.int .i64 t2]
 | 2=>v=.agg #[.int .i64 9,.int .i64 y2]
 | 3=>v=.agg #[.slice h1 h2 h3,.slice g1 g2 g3]
 | 4=>∃ sl:Sl,v=slv sl∧RowC x v ((prd has vals 7).map r5)
 | 5=>v=.int .i64 f
 | 6=>∃ z:XEn,v=valN z∧EnIn x z (⟨(t1,t2),(9,y2),((prd has vals 7).map r5),f,false⟩:En)
 | 7=>∃ nv av sv ev ov:Sl,v=.tuple #[brv (addB b (⟨(t1,t2),(9,y2),((prd has vals 7).map r5),f,false⟩:En)).1.me nv av sv ev ov,.bool (addB b (⟨(t1,t2),(9,y2),((prd has vals 7).map r5),f,false⟩:En)).2]∧BrN x (addB b (⟨(t1,t2),(9,y2),((prd has vals 7).map r5),f,false⟩:En)).1 nv av sv ev ov
 | 8=>∃ nv av sv ev ov:Sl,v=.tuple #[brv (addB b (⟨(t1,t2),(9,y2),((prd has vals 7).map r5),f,false⟩:En)).1.me nv av sv ev ov,.bool (addB b (⟨(t1,t2),(9,y2),((prd has vals 7).map r5),f,false⟩:En)).2]∧BrN x (addB b (⟨(t1,t2),(9,y2),((prd has vals 7).map r5),f,false⟩:En)).1 nv av sv ev ov
 | 9=>∃ nv av sv ev ov:Sl,v=brv (addB b (⟨(t1,t2),(9,y2),((prd has vals 7).map r5),f,false⟩:En)).1.me nv av sv ev ov∧BrN x (addB b (⟨(t1,t2),(9,y2),((prd has vals 7).map r5),f,false⟩:En)).1 nv av sv ev ov
 | 10=>v=.bool (addB b (⟨(t1,t2),(9,y2),((prd has vals 7).map r5),f,false⟩:En)).2
 | 11=>True
 | 12=>True
 | 13=>v=.bool (addB b (⟨(t1,t2),(9,y2),((prd has vals 7).map r5),f,false⟩:En)).2
 | _=>True
noncomputable def sf5C:Code:=((Tryz.f5.body.bind (findRegion 5)).getD .skip)
theorem sf5 (Q:Exit→Act→World→Prop) (W:World) (bB bT bS bP:Nat) (b:Br) (s1:Option Addr) (s2 s3:Nat) (s4:Option Addr) (s5 s6:Nat) (s7:Option Addr) (s8 s9:Nat) (s10:Option Addr) (s11 s12:Nat) (s13:Option Addr) (s14 s15:Nat) (t1 t2 y2 f:Int) (h1:Option Addr) (h2 h3:Nat) (g1:Option Addr) (g2 g3:Nat) (has vals:List Int) (u0 u1 u2 u3 u4 u5 u6 u7 u8 u10 u15 u16 u17 u18 u19 u20 u21 u22 u23 u24 u25 u26 u27 u28 u29 u30 u31 u32 u33 u34 u35 u36 u37 u38 u39 u40 u41 u42 u43 u44 u45 u46 u47 u48 u49 u50 u51 u52 u53 u54 u55 u56 u57 u58 u59 u60 u61 u62 u63 u64 u65 u66 u67 u68 u69 u70 u71 u72 u73 u74 u75 u76 u77 u78 u79 u80 u81 u82 u83 u84 u85 u86 u87 u88 u89 u90 u91 u92 u93 u94 u95 u96 u97 u98 u99 u100 u101 u102 u103 u104 u105 u106 u107 u108 u109 u110 u111 u112 u113 u114 u115 u116 u117 u118 u119 u120 u121 u122 u123 u124 u125 u126 u127 u128 u129 u130 u131 u132 u133 u134 u135 u136 u137 u138 u139 u140 u141 u142 u143 u144 u145 u146 u147 u148 u149 u150 u151 u152 u153 u154 u155 u156 u157 u158 u159 u160 u161 u162 u163 u164 u165 u166 u167 u168 u169 u170 u171 u172 u173 u174 u175 u176 u177 u178 u179 u180 u181 u182 u183 u184 u185 u186 u187 u188:Value)
  (hbox:Box W bB #[.int .i64 b.me,.slice s1 s2 s3,.slice s4 s5 s6,.slice s7 s8 s9,.slice s10 s11 s12,.slice s13 s14 s15] 31) (bn:BrN W b (s1,s2,s3) (s4,s5,s6) (s7,s8,s9) (s10,s11,s12) (s13,s14,s15)) (fw:Few b) (fp:FewP b) (re:RiseE b.ent) (ok:∀ e∈b.ent,PredOk e.p) (oe:PredOk ((prd has vals 7).map r5)) (xt:Box W bT #[.int .i64 t1,.int .i64 t2] 38) (xs:Box W bS #[.int .i64 9,.int .i64 y2] 38) (xp:Box W bP #[.slice h1 h2 h3,.slice g1 g2 g3] 53) (ih:In.InInts W (.slice h1 h2 h3) has) (iv:In.InInts W (.slice g1 g2 g3) vals) (lh:has.length≤maxLen) (lv:vals.length≤maxLen)
  (hQ:∀ (x:World) (bb:Nat) (v48 v49 v50 v51 v52 v53 v54 v55 v56 v57 v58:Value) (m1:Option Addr) (m2 m3:Nat) (m4:Option Addr) (m5 m6:Nat) (m7:Option Addr) (m8 m9:Nat) (m10:Option Addr) (m11 m12:Nat) (m13:Option Addr) (m14 m15:Nat),W.heap.size≤bb→Box x bb #[.int .i64 (addB b (⟨(t1,t2),(9,y2),((prd has vals 7).map r5),f,false⟩:En)).1.me,.slice m1 m2 m3,.slice m4 m5 m6,.slice m7 m8 m9,.slice m10 m11 m12,.slice m13 m14 m15] 31→BrN x (addB b (⟨(t1,t2),(9,y2),((prd has vals 7).map r5),f,false⟩:En)).1 (m1,m2,m3) (m4,m5,m6) (m7,m8,m9) (m10,m11,m12) (m13,m14,m15)→Below W.heap.size W x→Q .normal ⟨(u0::u1::u2::u3::u4::u5::u6::u7::u8::.pointer (some ⟨bP,0,none⟩)::u10::.pointer (some ⟨bB,0,none⟩)::.pointer (some ⟨bT,0,none⟩)::.pointer (some ⟨bS,0,none⟩)::.int .i64 f::u15::u16::.pointer (some ⟨bb,0,none⟩)::.bool (addB b (⟨(t1,t2),(9,y2),((prd has vals 7).map r5),f,false⟩:En)).2::u19::u20::u21::u22::u23::u24::u25::u26::u27::u28::u29::u30::u31::u32::u33::u34::u35::u36::u37::u38::u39::u40::u41::u42::u43::u44::u45::u46::u47::v48::v49::v50::v51::v52::v53::v54::v55::v56::v57::v58::u59::u60::u61::u62::u63::u64::u65::u66::u67::u68::u69::u70::u71::u72::u73::u74::u75::u76::u77::u78::u79::u80::u81::u82::u83::u84::u85::u86::u87::u88::u89::u90::u91::u92::u93::u94::u95::u96::u97::u98::u99::u100::u101::u102::u103::u104::u105::u106::u107::u108::u109::u110::u111::u112::u113::u114::u115::u116::u117::u118::u119::u120::u121::u122::u123::u124::u125::u126::u127::u128::u129::u130::u131::u132::u133::u134::u135::u136::u137::u138::u139::u140::u141::u142::u143::u144::u145::u146::u147::u148::u149::u150::u151::u152::u153::u154::u155::u156::u157::u158::u159::u160::u161::u162::u163::u164::u165::u166::u167::u168::u169::u170::u171::u172::u173::u174::u175::u176::u177::u178::u179::u180::u181::u182::u183::u184::u185::u186::u187::u188::[]).toArray,[]⟩ x) :
  Code.wp Tryz.prog sf5C Q ⟨(u0::u1::u2::u3::u4::u5::u6::u7::u8::.pointer (some ⟨bP,0,none⟩)::u10::.pointer (some ⟨bB,0,none⟩)::.pointer (some ⟨bT,0,none⟩)::.pointer (some ⟨bS,0,none⟩)::.int .i64 f::u15::u16::u17::u18::u19::u20::u21::u22::u23::u24::u25::u26::u27::u28::u29::u30::u31::u32::u33::u34::u35::u36::u37::u38::u39::u40::u41::u42::u43::u44::u45::u46::u47::u48::u49::u50::u51::u52::u53::u54::u55::u56::u57::u58::u59::u60::u61::u62::u63::u64::u65::u66::u67::u68::u69::u70::u71::u72::u73::u74::u75::u76::u77::u78::u79::u80::u81::u82::u83::u84::u85::u86::u87::u88::u89::u90::u91::u92::u93::u94::u95::u96::u97::u98::u99::u100::u101::u102::u103::u104::u105::u106::u107::u108::u109::u110::u111::u112::u113::u114::u115::u116::u117::u118::u119::u120::u121::u122::u123::u124::u125::u126::u127::u128::u129::u130::u131::u132::u133::u134::u135::u136::u137::u138::u139::u140::u141::u142::u143::u144::u145::u146::u147::u148::u149::u150::u151::u152::u153::u154::u155::u156::u157::u158::u159::u160::u161::u162::u163::u164::u165::u166::u167::u168::u169::u170::u171::u172::u173::u174::u175::u176::u177::u178::u179::u180::u181::u182::u183::u184::u185::u186::u187::u188::[]).toArray,[]⟩ W:=by
 have HQ:=Lib.hid hQ
 have HB:=Lib.hid hbox
 have BN:=Lib.hid bn
 have FW:=Lib.hid fw
 have FP:=Lib.hid fp
 have RE:=Lib.hid re
 have OK:=Lib.hid ok
 have OE:=Lib.hid oe
 have HT:=Lib.hid xt
 have HS:=Lib.hid xs
 have HP:=Lib.hid xp
 have IH:=Lib.hid ih
 have IV:=Lib.hid iv
 have LH:=Lib.hid lh
 have LV:=Lib.hid lv
 clear hQ hbox bn fw fp re ok oe xt xs xp ih iv lh lv
 unfold sf5C
 conv=>arg 2; whnf
 have nb9:∀ i,i<14→[49,50,51,52,53,54,55,56,48,57,58,17,17,18].getD i 0≠9:=by decide
 have nb11:∀ i,i<14→[49,50,51,52,53,54,55,56,48,57,58,17,17,18].getD i 0≠11:=by decide
 have nb12:∀ i,i<14→[49,50,51,52,53,54,55,56,48,57,58,17,17,18].getD i 0≠12:=by decide
 have nb13:∀ i,i<14→[49,50,51,52,53,54,55,56,48,57,58,17,17,18].getD i 0≠13:=by decide
 have nb14:∀ i,i<14→[49,50,51,52,53,54,55,56,48,57,58,17,17,18].getD i 0≠14:=by decide
 refine Rg.region_mk 14 11 12 9 (fun i=>[49,50,51,52,53,54,55,56,48,57,58,17,17,18].getD i 0) (fun i=>if i=4 then 6 else if i=6 then 7 else 14) (sf5V W.heap.size bB bT bS bP b s1 s2 s3 s4 s5 s6 s7 s8 s9 s10 s11 s12 s13 s14 s15 t1 t2 y2 f h1 h2 h3 g1 g2 g3 has vals) 31 #[.int .i64 0,.slice none 0 0,.slice none 0 0,.slice none 0 0,.slice none 0 0,.slice none 0 0] (fun v=>match v with | .agg c=>c | _=>#[]) (by kernel_rfl) (by kernel_rfl) rfl (by decide) (by decide) (by decide) (by decide) (by decide) (by decide) (by decide) (fun i j hi hj h1 h2 h=>(by decide:∀ i,i<14→∀ j,j<14→i≠12→j≠12→[49,50,51,52,53,54,55,56,48,57,58,17,17,18].getD i 0=[49,50,51,52,53,54,55,56,48,57,58,17,17,18].getD j 0→i=j) i hi j hj h1 h2 h) (fun i hi=>(by decide:∀ i,i<14→[49,50,51,52,53,54,55,56,48,57,58,17,17,18].getD i 0<189) i hi) ?_ ?_ ?_ ?_ ?_ ?_
 ·intro i v x x' hi h hb
  rcases (by omega:i=0∨i=1∨i=2∨i=3∨i=4∨i=5∨i=6∨i=7∨i=8∨i=9∨i=10∨i=11∨i=12∨i=13) with rfl|rfl|rfl|rfl|rfl|rfl|rfl|rfl|rfl|rfl|rfl|rfl|rfl|rfl
  ·exact h
  ·exact h
  ·exact h
  ·exact h
  ·obtain⟨s,h1,h2⟩:=h; exact⟨s,h1,h2.on hb⟩
  ·exact h
  ·obtain⟨z,h1,h2⟩:=h; exact⟨z,h1,h2.on hb⟩
  ·obtain⟨a1,a2,a3,a4,a5,h1,h2⟩:=h; exact⟨a1,a2,a3,a4,a5,h1,h2.on hb⟩
  ·obtain⟨a1,a2,a3,a4,a5,h1,h2⟩:=h; exact⟨a1,a2,a3,a4,a5,h1,h2.on hb⟩
  ·obtain⟨a1,a2,a3,a4,a5,h1,h2⟩:=h; exact⟨a1,a2,a3,a4,a5,h1,h2.on hb⟩
  ·exact h
  ·exact h
  ·exact h
  ·exact h
 ·intro o ho
  obtain rfl:=Option.some.inj ho
  exact⟨⟨⟨11,.data⟩,by simp,rfl,rfl⟩,⟨⟨9,.data⟩,by simp,rfl,rfl⟩⟩
 ·intro i o hi hiA hiS ho a x hb seen K hK
  clear HQ
  rcases (by omega:i=0∨i=1∨i=2∨i=3∨i=4∨i=5∨i=6∨i=7∨i=8∨i=9∨i=10∨i=13) with rfl|rfl|rfl|rfl|rfl|rfl|rfl|rfl|rfl|rfl|rfl|rfl
  ·obtain rfl:=Option.some.inj ho
   have e11:a.eval (.tmp 11)=.pointer (some ⟨bB,0,none⟩):=seen.kp 11 _ nb11 rfl
   exact Rg.op_value rfl rfl (Rg.ex_load a.eval _ 31 (.tmp 11) rfl (by rw [e11]; exact loadBr (HB.out.on hb))) (hK _ x rfl (Below.refl _ _))
  ·obtain rfl:=Option.some.inj ho
   have e12:a.eval (.tmp 12)=.pointer (some ⟨bT,0,none⟩):=seen.kp 12 _ nb12 rfl
   obtain⟨y0,y1⟩:=(HT.out.on hb).cs2
   exact Rg.op_value rfl rfl (Rg.ex_load a.eval _ 38 (.tmp 12) rfl (by rw [e12]; simp [go_sem,y0,y1])) (hK _ x rfl (Below.refl _ _))
  ·obtain rfl:=Option.some.inj ho
   have e13:a.eval (.tmp 13)=.pointer (some ⟨bS,0,none⟩):=seen.kp 13 _ nb13 rfl
   obtain⟨y0,y1⟩:=(HS.out.on hb).cs2
   exact Rg.op_value rfl rfl (Rg.ex_load a.eval _ 38 (.tmp 13) rfl (by rw [e13]; simp [go_sem,y0,y1])) (hK _ x rfl (Below.refl _ _))
  ·obtain rfl:=Option.some.inj ho
   have e9:a.eval (.tmp 9)=.pointer (some ⟨bP,0,none⟩):=seen.kp 9 _ nb9 rfl
   obtain⟨y0,y1⟩:=(HP.out.on hb).cs2
   exact Rg.op_value rfl rfl (Rg.ex_load a.eval _ 53 (.tmp 9) rfl (by rw [e9]; simp [go_sem,y0,y1])) (hK _ x rfl (Below.refl _ _))
  ·obtain rfl:=Option.some.inj ho
   have e52:a.eval (.tmp 52)=.agg #[.slice h1 h2 h3,.slice g1 g2 g3]:=seen.at_ ⟨3,.data⟩ (by simp) rfl (by decide) (by decide) (Or.inr (by decide))
   exact Rg.op_call rfl rfl (Rw.ex_call1 a.eval _ (.tmp 52) 53 13 rfl e52 rfl _ (call_fn Tryz.func13 rfl rfl _ _)) (pred_any (.slice h1 h2 h3) (.slice g1 g2 g3) has vals x (IH.out.on hb) (IV.out.on hb) LH.out LV.out) fun e w1 h=>by
    obtain⟨v,rfl,q1,q2⟩:=h
    have q3:=Row.of_own q1
    obtain⟨a1,a2,hvv⟩:=q3.len
    exact⟨_,rfl,hK _ _ ⟨(a1,_,a2),hvv,q3⟩ q2⟩
  ·obtain rfl:=Option.some.inj ho
   have e14:a.eval (.tmp 14)=.int .i64 f:=seen.kp 14 _ nb14 rfl
   exact Rg.op_value rfl rfl (Rg.ex_move a.eval _ (.tmp 14) rfl x) (hK _ x e14 (Below.refl _ _))
  ·obtain rfl:=Option.some.inj ho
   have e50:a.eval (.tmp 50)=.agg #[.int .i64 t1,.int .i64 t2]:=seen.at_ ⟨1,.data⟩ (by simp) rfl (by decide) (by decide) (Or.inr (by decide))
   have e51:a.eval (.tmp 51)=.agg #[.int .i64 9,.int .i64 y2]:=seen.at_ ⟨2,.data⟩ (by simp) rfl (by decide) (by decide) (Or.inr (by decide))
   have E53:=seen.at_ ⟨4,.data⟩ (by simp) rfl (by decide) (by decide) (Or.inl rfl)
   have e54:a.eval (.tmp 54)=.int .i64 f:=seen.at_ ⟨5,.data⟩ (by simp) rfl (by decide) (by decide) (Or.inr (by decide))
   obtain⟨⟨l1,l2,l3⟩,q0,q1⟩:=E53
   have q0:a.eval (.tmp 53)=.slice l1 l2 l3:=q0
   have q2:RowC x (.slice l1 l2 l3) ((prd has vals 7).map r5):=by rw [← q0]; exact q1
   exact Rg.op_value rfl rfl (Rg.ex_buildS a.eval _ 43 #[(0,.tmp 50),(1,.tmp 51),(2,.tmp 53),(3,.tmp 54)] rfl (by simp only [List.map_toArray,List.map_cons,List.map_nil,e50,e51,q0,e54]; rfl) (v:=.agg #[.int .i64 t1,.int .i64 t2,.int .i64 9,.int .i64 y2,.slice l1 l2 l3,.int .i64 f,.bool false]) (by simp [go_sem])) (hK _ x ⟨(t1,t2,9,y2,(l1,l2,l3),f,false),rfl,rfl,rfl,rfl,rfl,q2⟩ (Below.refl _ _))
  ·obtain rfl:=Option.some.inj ho
   have e49:a.eval (.tmp 49)=brv b.me (s1,s2,s3) (s4,s5,s6) (s7,s8,s9) (s10,s11,s12) (s13,s14,s15):=seen.at_ ⟨0,.data⟩ (by simp) rfl (by decide) (by decide) (Or.inr (by decide))
   have E55:=seen.at_ ⟨6,.data⟩ (by simp) rfl (by decide) (by decide) (Or.inl rfl)
   obtain⟨z,q0,q1⟩:=E55
   exact Rg.op_call rfl rfl (Rw.ex_call2 a.eval _ (.tmp 49) (.tmp 55) 31 43 16 rfl e49 q0 rfl _ (call_fn Tryz.func16 rfl rfl _ _)) (sadd_any b (⟨(t1,t2),(9,y2),((prd has vals 7).map r5),f,false⟩:En) (s1,s2,s3) (s4,s5,s6) (s7,s8,s9) (s10,s11,s12) (s13,s14,s15) z x (BN.out.on hb).br q1 FW.out FP.out RE.out OK.out OE.out) fun e w1 h=>by
    obtain⟨⟨a1,a2,a3,a4,a5,rfl,h2,h3⟩,h5⟩:=h
    exact⟨_,rfl,hK _ _ ⟨a1,a2,a3,a4,a5,rfl,h2,h3 (BN.out.on hb).no⟩ h5⟩
  ·obtain rfl:=Option.some.inj ho
   have E56:=seen.at_ ⟨7,.data⟩ (by simp) rfl (by decide) (by decide) (Or.inr (by decide))
   exact Rg.op_value rfl rfl (Rg.ex_move a.eval _ (.tmp 56) rfl x) (hK _ x E56 (Below.refl _ _))
  ·obtain rfl:=Option.some.inj ho
   have E48:=seen.at_ ⟨8,.data⟩ (by simp) rfl (by decide) (by decide) (Or.inr (by decide))
   obtain⟨a1,a2,a3,a4,a5,h1,h2⟩:=E48
   exact Rg.op_value rfl rfl (ex_extract a.eval _ (.tmp 48) 0 rfl (c:=#[brv (addB b (⟨(t1,t2),(9,y2),((prd has vals 7).map r5),f,false⟩:En)).1.me a1 a2 a3 a4 a5,.bool (addB b (⟨(t1,t2),(9,y2),((prd has vals 7).map r5),f,false⟩:En)).2]) h1 rfl x) (hK _ x ⟨a1,a2,a3,a4,a5,rfl,h2⟩ (Below.refl _ _))
  ·obtain rfl:=Option.some.inj ho
   have E48:=seen.at_ ⟨8,.data⟩ (by simp) rfl (by decide) (by decide) (Or.inr (by decide))
   obtain⟨a1,a2,a3,a4,a5,h1,h2⟩:=E48
   exact Rg.op_value rfl rfl (ex_extract a.eval _ (.tmp 48) 1 rfl (c:=#[brv (addB b (⟨(t1,t2),(9,y2),((prd has vals 7).map r5),f,false⟩:En)).1.me a1 a2 a3 a4 a5,.bool (addB b (⟨(t1,t2),(9,y2),((prd has vals 7).map r5),f,false⟩:En)).2]) h1 rfl x) (hK _ x rfl (Below.refl _ _))
  ·obtain rfl:=Option.some.inj ho
   have e58:a.eval (.tmp 58)=.bool (addB b (⟨(t1,t2),(9,y2),((prd has vals 7).map r5),f,false⟩:En)).2:=seen.at_ ⟨10,.data⟩ (by simp) rfl (by decide) (by decide) (Or.inr (by decide))
   exact Rg.op_value rfl rfl (Rg.ex_assign a.eval _ (.tmp 58) rfl x) (hK _ x e58 (Below.refl _ _))
 ·intro o ho a x K hK
  obtain rfl:=Option.some.inj ho
  exact Rg.op_value rfl rfl (Rg.ex_alloc a.eval _ 31 rfl (by simp [go_sem])) hK
 ·intro o ho a x bb v D hc hD hb hA hC hvC hbb hbox K hK
  clear HQ
  obtain rfl:=Option.some.inj ho
  obtain⟨⟨m1,m2,m3⟩,⟨m4,m5,m6⟩,⟨m7,m8,m9⟩,⟨m10,m11,m12⟩,⟨m13,m14,m15⟩,hv1,hv2⟩:=hvC
  subst hv1
  have hbut:=but_setB x bb (.int .i64 (addB b (⟨(t1,t2),(9,y2),((prd has vals 7).map r5),f,false⟩:En)).1.me) (.slice m1 m2 m3) (.slice m4 m5 m6) (.slice m7 m8 m9) (.slice m10 m11 m12) (.slice m13 m14 m15)
  refine Rg.op_store 31 (.tmp 17) (.tmp 57) rfl rfl rfl rfl hA hC (w':=setB x bb (.int .i64 (addB b (⟨(t1,t2),(9,y2),((prd has vals 7).map r5),f,false⟩:En)).1.me) (.slice m1 m2 m3) (.slice m4 m5 m6) (.slice m7 m8 m9) (.slice m10 m11 m12) (.slice m13 m14 m15)) (storeBr hbox _ _ _ _ _ _ _ _ _ _ _ _ _ _ _ _) (hK _ (setB_below hb hbb _ _ _ _ _ _) (setB_box hbox _ _ _ _ _ _) ?_)
  exact fun j u hj hjA hjS hdj hnl hls h=>by
   rcases (by omega:j=0∨j=1∨j=2∨j=3∨j=4∨j=5∨j=6∨j=7∨j=8∨j=9∨j=10∨j=13) with rfl|rfl|rfl|rfl|rfl|rfl|rfl|rfl|rfl|rfl|rfl|rfl
   ·have h2:u=brv b.me (s1,s2,s3) (s4,s5,s6) (s7,s8,s9) (s10,s11,s12) (s13,s14,s15):=h; exact h2
   ·have h2:u=.agg #[.int .i64 t1,.int .i64 t2]:=h; exact h2
   ·have h2:u=.agg #[.int .i64 9,.int .i64 y2]:=h; exact h2
   ·have h2:u=.agg #[.slice h1 h2 h3,.slice g1 g2 g3]:=h; exact h2
   ·exact absurd (hD ⟨6,.phase⟩ (by simp) rfl) hnl
   ·have h2:u=.int .i64 f:=h; exact h2
   ·exact absurd (hD ⟨7,.chain⟩ (by simp) rfl) hnl
   ·obtain⟨a1,a2,a3,a4,a5,h1,h2⟩:=h; exact⟨a1,a2,a3,a4,a5,h1,h2.keep (s1:=(none,0,0)) (s2:=(none,0,0)) (s3:=(none,0,0)) (s4:=(none,0,0)) (s5:=(none,0,0)) (me:=0) hbox hbut⟩
   ·obtain⟨a1,a2,a3,a4,a5,h1,h2⟩:=h; exact⟨a1,a2,a3,a4,a5,h1,h2.keep (s1:=(none,0,0)) (s2:=(none,0,0)) (s3:=(none,0,0)) (s4:=(none,0,0)) (s5:=(none,0,0)) (me:=0) hbox hbut⟩
   ·obtain⟨a1,a2,a3,a4,a5,h1,h2⟩:=h; exact⟨a1,a2,a3,a4,a5,h1,h2.keep (s1:=(none,0,0)) (s2:=(none,0,0)) (s3:=(none,0,0)) (s4:=(none,0,0)) (s5:=(none,0,0)) (me:=0) hbox hbut⟩
   ·have h2:u=.bool (addB b (⟨(t1,t2),(9,y2),((prd has vals 7).map r5),f,false⟩:En)).2:=h; exact h2
   ·have h2:u=.bool (addB b (⟨(t1,t2),(9,y2),((prd has vals 7).map r5),f,false⟩:En)).2:=h; exact h2
 ·intro a x bb v df sz kp gA gC hbb hbox hvC hbel ⟨vs,hv⟩
  obtain⟨⟨m1,m2,m3⟩,⟨m4,m5,m6⟩,⟨m7,m8,m9⟩,⟨m10,m11,m12⟩,⟨m13,m14,m15⟩,hv1,hv2⟩:=hvC
  subst hv1
  have g17:a.tmps[17]?=some (.pointer (some ⟨bb,0,none⟩)):=gA
  have g18:a.tmps[18]?=some (.bool (addB b (⟨(t1,t2),(9,y2),((prd has vals 7).map r5),f,false⟩:En)).2):=by
   have h:vs 13=.bool (addB b (⟨(t1,t2),(9,y2),((prd has vals 7).map r5),f,false⟩:En)).2:=(hv 13 (by decide) (by decide) (by decide)).2 (by decide)
   rw [← h]
   exact (hv 13 (by decide) (by decide) (by decide)).1
  have kp2:∀ j,(j<17∨59≤j)→a.tmps[j]?=(u0::u1::u2::u3::u4::u5::u6::u7::u8::.pointer (some ⟨bP,0,none⟩)::u10::.pointer (some ⟨bB,0,none⟩)::.pointer (some ⟨bT,0,none⟩)::.pointer (some ⟨bS,0,none⟩)::.int .i64 f::u15::u16::u17::u18::u19::u20::u21::u22::u23::u24::u25::u26::u27::u28::u29::u30::u31::u32::u33::u34::u35::u36::u37::u38::u39::u40::u41::u42::u43::u44::u45::u46::u47::u48::u49::u50::u51::u52::u53::u54::u55::u56::u57::u58::u59::u60::u61::u62::u63::u64::u65::u66::u67::u68::u69::u70::u71::u72::u73::u74::u75::u76::u77::u78::u79::u80::u81::u82::u83::u84::u85::u86::u87::u88::u89::u90::u91::u92::u93::u94::u95::u96::u97::u98::u99::u100::u101::u102::u103::u104::u105::u106::u107::u108::u109::u110::u111::u112::u113::u114::u115::u116::u117::u118::u119::u120::u121::u122::u123::u124::u125::u126::u127::u128::u129::u130::u131::u132::u133::u134::u135::u136::u137::u138::u139::u140::u141::u142::u143::u144::u145::u146::u147::u148::u149::u150::u151::u152::u153::u154::u155::u156::u157::u158::u159::u160::u161::u162::u163::u164::u165::u166::u167::u168::u169::u170::u171::u172::u173::u174::u175::u176::u177::u178::u179::u180::u181::u182::u183::u184::u185::u186::u187::u188::[])[j]?:=fun j hj=>(kp j (fun i hi h=>by have:=(by decide:∀ i,i<14→17≤[49,50,51,52,53,54,55,56,48,57,58,17,17,18].getD i 0∧[49,50,51,52,53,54,55,56,48,57,58,17,17,18].getD i 0<59) i hi; omega)).trans List.getElem?_toArray
  obtain⟨mid,hmid,rfl⟩:=Rg.frame_mid 17 42 df sz (by simp) kp2
  match mid,hmid with
  | v17::v18::v19::v20::v21::v22::v23::v24::v25::v26::v27::v28::v29::v30::v31::v32::v33::v34::v35::v36::v37::v38::v39::v40::v41::v42::v43::v44::v45::v46::v47::v48::v49::v50::v51::v52::v53::v54::v55::v56::v57::v58::[],_ =>
   obtain rfl:v17=.pointer (some ⟨bb,0,none⟩):=Option.some.inj g17
   obtain rfl:v18=.bool (addB b (⟨(t1,t2),(9,y2),((prd has vals 7).map r5),f,false⟩:En)).2:=Option.some.inj g18
   obtain rfl:v19=u19:=Option.some.inj (kp 19 (fun i hi h=>(by decide:∀ i,i<14→[49,50,51,52,53,54,55,56,48,57,58,17,17,18].getD i 0≠19) i hi h))
   obtain rfl:v20=u20:=Option.some.inj (kp 20 (fun i hi h=>(by decide:∀ i,i<14→[49,50,51,52,53,54,55,56,48,57,58,17,17,18].getD i 0≠20) i hi h))
   obtain rfl:v21=u21:=Option.some.inj (kp 21 (fun i hi h=>(by decide:∀ i,i<14→[49,50,51,52,53,54,55,56,48,57,58,17,17,18].getD i 0≠21) i hi h))
   obtain rfl:v22=u22:=Option.some.inj (kp 22 (fun i hi h=>(by decide:∀ i,i<14→[49,50,51,52,53,54,55,56,48,57,58,17,17,18].getD i 0≠22) i hi h))
   obtain rfl:v23=u23:=Option.some.inj (kp 23 (fun i hi h=>(by decide:∀ i,i<14→[49,50,51,52,53,54,55,56,48,57,58,17,17,18].getD i 0≠23) i hi h))
   obtain rfl:v24=u24:=Option.some.inj (kp 24 (fun i hi h=>(by decide:∀ i,i<14→[49,50,51,52,53,54,55,56,48,57,58,17,17,18].getD i 0≠24) i hi h))
   obtain rfl:v25=u25:=Option.some.inj (kp 25 (fun i hi h=>(by decide:∀ i,i<14→[49,50,51,52,53,54,55,56,48,57,58,17,17,18].getD i 0≠25) i hi h))
   obtain rfl:v26=u26:=Option.some.inj (kp 26 (fun i hi h=>(by decide:∀ i,i<14→[49,50,51,52,53,54,55,56,48,57,58,17,17,18].getD i 0≠26) i hi h))
   obtain rfl:v27=u27:=Option.some.inj (kp 27 (fun i hi h=>(by decide:∀ i,i<14→[49,50,51,52,53,54,55,56,48,57,58,17,17,18].getD i 0≠27) i hi h))
   obtain rfl:v28=u28:=Option.some.inj (kp 28 (fun i hi h=>(by decide:∀ i,i<14→[49,50,51,52,53,54,55,56,48,57,58,17,17,18].getD i 0≠28) i hi h))
   obtain rfl:v29=u29:=Option.some.inj (kp 29 (fun i hi h=>(by decide:∀ i,i<14→[49,50,51,52,53,54,55,56,48,57,58,17,17,18].getD i 0≠29) i hi h))
   obtain rfl:v30=u30:=Option.some.inj (kp 30 (fun i hi h=>(by decide:∀ i,i<14→[49,50,51,52,53,54,55,56,48,57,58,17,17,18].getD i 0≠30) i hi h))
   obtain rfl:v31=u31:=Option.some.inj (kp 31 (fun i hi h=>(by decide:∀ i,i<14→[49,50,51,52,53,54,55,56,48,57,58,17,17,18].getD i 0≠31) i hi h))
   obtain rfl:v32=u32:=Option.some.inj (kp 32 (fun i hi h=>(by decide:∀ i,i<14→[49,50,51,52,53,54,55,56,48,57,58,17,17,18].getD i 0≠32) i hi h))
   obtain rfl:v33=u33:=Option.some.inj (kp 33 (fun i hi h=>(by decide:∀ i,i<14→[49,50,51,52,53,54,55,56,48,57,58,17,17,18].getD i 0≠33) i hi h))
   obtain rfl:v34=u34:=Option.some.inj (kp 34 (fun i hi h=>(by decide:∀ i,i<14→[49,50,51,52,53,54,55,56,48,57,58,17,17,18].getD i 0≠34) i hi h))
   obtain rfl:v35=u35:=Option.some.inj (kp 35 (fun i hi h=>(by decide:∀ i,i<14→[49,50,51,52,53,54,55,56,48,57,58,17,17,18].getD i 0≠35) i hi h))
   obtain rfl:v36=u36:=Option.some.inj (kp 36 (fun i hi h=>(by decide:∀ i,i<14→[49,50,51,52,53,54,55,56,48,57,58,17,17,18].getD i 0≠36) i hi h))
   obtain rfl:v37=u37:=Option.some.inj (kp 37 (fun i hi h=>(by decide:∀ i,i<14→[49,50,51,52,53,54,55,56,48,57,58,17,17,18].getD i 0≠37) i hi h))
   obtain rfl:v38=u38:=Option.some.inj (kp 38 (fun i hi h=>(by decide:∀ i,i<14→[49,50,51,52,53,54,55,56,48,57,58,17,17,18].getD i 0≠38) i hi h))
   obtain rfl:v39=u39:=Option.some.inj (kp 39 (fun i hi h=>(by decide:∀ i,i<14→[49,50,51,52,53,54,55,56,48,57,58,17,17,18].getD i 0≠39) i hi h))
   obtain rfl:v40=u40:=Option.some.inj (kp 40 (fun i hi h=>(by decide:∀ i,i<14→[49,50,51,52,53,54,55,56,48,57,58,17,17,18].getD i 0≠40) i hi h))
   obtain rfl:v41=u41:=Option.some.inj (kp 41 (fun i hi h=>(by decide:∀ i,i<14→[49,50,51,52,53,54,55,56,48,57,58,17,17,18].getD i 0≠41) i hi h))
   obtain rfl:v42=u42:=Option.some.inj (kp 42 (fun i hi h=>(by decide:∀ i,i<14→[49,50,51,52,53,54,55,56,48,57,58,17,17,18].getD i 0≠42) i hi h))
   obtain rfl:v43=u43:=Option.some.inj (kp 43 (fun i hi h=>(by decide:∀ i,i<14→[49,50,51,52,53,54,55,56,48,57,58,17,17,18].getD i 0≠43) i hi h))
   obtain rfl:v44=u44:=Option.some.inj (kp 44 (fun i hi h=>(by decide:∀ i,i<14→[49,50,51,52,53,54,55,56,48,57,58,17,17,18].getD i 0≠44) i hi h))
   obtain rfl:v45=u45:=Option.some.inj (kp 45 (fun i hi h=>(by decide:∀ i,i<14→[49,50,51,52,53,54,55,56,48,57,58,17,17,18].getD i 0≠45) i hi h))
   obtain rfl:v46=u46:=Option.some.inj (kp 46 (fun i hi h=>(by decide:∀ i,i<14→[49,50,51,52,53,54,55,56,48,57,58,17,17,18].getD i 0≠46) i hi h))
   obtain rfl:v47=u47:=Option.some.inj (kp 47 (fun i hi h=>(by decide:∀ i,i<14→[49,50,51,52,53,54,55,56,48,57,58,17,17,18].getD i 0≠47) i hi h))
   exact HQ.out x bb _ _ _ _ _ _ _ _ _ _ _ m1 m2 m3 m4 m5 m6 m7 m8 m9 m10 m11 m12 m13 m14 m15 hbb hbox hv2 hbel
end Go.Proofs.YtncogjpmboglhaaGreat.Sb
