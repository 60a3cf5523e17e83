/-
  New of package adverts. Conditions as told.
-/
import Derived.Test.YtncogjpmboglhaaGreatG010
import Derived.Test.YtncogjpmboglhaaGreatG018
import Derived.Test.YtncogjpmboglhaaGreatG024
import Derived.Test.YtncogjpmboglhaaGreatG025
import Derived.Test.YtncogjpmboglhaaGreatG013
import Derived.Test.YtncogjpmboglhaaGreatG027
import Derived.Test.YtncogjpmboglhaaGreatG008
import Derived.Test.YtncogjpmboglhaaGreatG023
set_option maxRecDepth 100000
set_option maxHeartbeats 64000000
namespace Go.Proofs.YtncogjpmboglhaaGreat.Av
open Go.RowKit Rw YtncogjpmboglhaaGreat.Nm Pr Bk Go.Sort
abbrev newB0 (me : Int) (near : List Int) : Br := ⟨me,near,[],[],[],[]⟩
theorem anew_any (me : Int) (v : Sl) (l : List Int) (w : World) (hv : RowI w (slv v) l) (hl : l.length ≤ 900) :
  Calls Tryz.prog 12 #[.int .i64 me,slv v] w fun e w' => (∃ (l' : List Int) (nv : Sl),e = .returned (brv me nv (none,0,0) (none,0,0) (none,0,0) (none,0,0)) ∧ BrIn w' (newB0 me l') nv (none,0,0) (none,0,0) (none,0,0) (none,0,0) ∧ (∃ B,OwnI w' B (slv nv) l') ∧ l'.Pairwise (· < ·) ∧ ∀ x,x ∈ l' ↔ x ∈ l) ∧ Below w.heap.size w w' := by
 have n0 := newB w (.cells #[.int .i64 0,.slice none 0 0,.slice none 0 0,.slice none 0 0,.slice none 0 0,.slice none 0 0] 31)
 have X := Lib.hid (box_new w #[.int .i64 0,.slice none 0 0,.slice none 0 0,.slice none 0 0,.slice none 0 0,.slice none 0 0] 31)
 have C := Lib.hid (cloneI_any v l _ (hv.on n0) hl)
 have B0 := Lib.hid n0
 have HL := Lib.hid hl
 obtain ⟨vo,vn,vc⟩ := v
 clear hv hl n0
 go_enter Tryz.func12,Tryz.ntmps12
 go_wp2_with fail
 generalize w.alloc (.cells #[.int .i64 0,.slice none 0 0,.slice none 0 0,.slice none 0 0,.slice none 0 0,.slice none 0 0] 31) = W at *
 refine C.out.mono ?_
 rintro e1 w1 ⟨⟨⟨p1,p2,p3⟩,rfl,ho⟩,hb⟩
 have B1 := Lib.hid (B0.out.trans (hb.mono B0.out.size))
 have X1 := Lib.hid (X.out.on hb)
 have hlt : w.heap.size < W.heap.size := X.out.lt
 have C2 := Lib.hid (sortI_any w1 W.heap.size _ l ho HL.out)
 have OT := Lib.hid (fun g hg => (ho.lt g hg).1)
 have HW := Lib.hid hlt
 clear hb ho C X
 go_wp2_with fail
 refine C2.out.mono ?_
 rintro e2 w2 ⟨rfl,l2,ho2,hp2,hs2,hg2⟩
 have B2 := Lib.hid (B1.out.grown hg2 B1.out.size (fun j hj => Nat.le_trans (Nat.le_of_lt HW.out) (OT.out j hj)))
 have X2 := Lib.hid (show Box w2 w.heap.size _ _ from (hg2.block _ X1.out.lt (fun e => by have := OT.out _ e.symm; have := HW.out; omega)).trans X1.out)
 have C3 := Lib.hid (cptI_any w2 W.heap.size (p1,p2,p3) l2 ho2 hs2 (by rw [hp2.length_eq]; exact HL.out))
 have PM := Lib.hid hp2
 have OT2 := Lib.hid (fun g hg => (ho2.lt g hg).1)
 clear ho2 hp2 hs2 hg2 C2 OT X1
 go_wp2_with fail
 refine C3.out.mono ?_
 rintro e3 w3 ⟨⟨⟨t1,t2,t3⟩,rfl,l3,ho3,hs3,hm3⟩,hg3⟩
 have B3 := Lib.hid (B2.out.grown hg3 B2.out.size (fun j hj => Nat.le_trans (Nat.le_of_lt HW.out) (OT2.out j hj)))
 have Y := show Box w3 w.heap.size _ _ from (hg3.block _ X2.out.lt (fun e => by have := OT2.out _ e.symm; have := HW.out; omega)).trans X2.out
 obtain ⟨y0,y1,y2,y3,y4,y5⟩ := Y.cs6
 obtain ⟨f0,f1,f2,f3,f4,f5⟩ := Y.fs6
 have zz := Y.lt
 have FB := Lib.hid (setB_box Y (.int .i64 me) (.slice t1 t2 t3) (.slice none 0 0) (.slice none 0 0) (.slice none 0 0) (.slice none 0 0))
 have FL := Lib.hid (setB_below (b := w.heap.size) B3.out (Nat.le_refl _) (.int .i64 me) (.slice t1 t2 t3) (.slice none 0 0) (.slice none 0 0) (.slice none 0 0) (.slice none 0 0))
 have FO := Lib.hid (setB_ownA ho3 w.heap.size HW.out (.int .i64 me) (.slice t1 t2 t3) (.slice none 0 0) (.slice none 0 0) (.slice none 0 0) (.slice none 0 0))
 have Q := Lib.hid (show l3.Pairwise (· < ·) ∧ ∀ x,x ∈ l3 ↔ x ∈ l from ⟨hs3,fun x => (hm3 x).trans PM.out.mem_iff⟩)
 clear ho3 hs3 hm3 hg3 Y X2 C3 B2 B1 B0
 go_wp2_with fail
 obtain ⟨v0,v1,v2,v3,v4,v5⟩ := FB.out.cs6
 refine bodyPost_ret (v := .agg #[.int .i64 me,.slice t1 t2 t3,.slice none 0 0,.slice none 0 0,.slice none 0 0,.slice none 0 0]) (by simp [results,Tryz.results12,go_sem,v0,v1,v2,v3,v4,v5]) rfl ?_
 exact ⟨⟨l3,(t1,t2,t3),rfl,⟨Row.of_own FO.out,⟨[],row_nil _,.nil⟩,row_nil _,⟨[],row_nil _,.nil⟩,⟨[],row_nil _,.nil⟩⟩,⟨_,FO.out⟩,Q.out.1,Q.out.2⟩,FL.out⟩
end Go.Proofs.YtncogjpmboglhaaGreat.Av
namespace Go.Proofs.YtncogjpmboglhaaGreat.Av
open Go.RowKit Rw YtncogjpmboglhaaGreat.Nm Pr Wr
theorem one_r5 (c : Cn) (h : goodC c = true) : oneB (r5 c) = true := by
 obtain ⟨n,k⟩ := c
 unfold goodC at h
 rw [Bool.and_eq_true] at h
 obtain ⟨h1,h2⟩ := h
 have h1' : At.nameB n = true := h1
 cases k with
 | rg lo hi =>
  have h3 : lo ≤ hi := by simpa [goodK] using h2
  have h0 : (⟨#[]⟩ : ByteArray).size = 0 := rfl
  simp [r5,oneB,kN,kLo,kHi,kT,h1',h3,h0]
 | tx t =>
  have h3 : t.size ≤ 12 := by simpa [goodK] using h2
  simp [r5,oneB,kN,kLo,kHi,kT,h1',h3]
 | pr t =>
  have h3 : t.size < 12 := by simpa [goodK] using h2
  have h4 : t.size ≤ 11 := by omega
  simp [r5,oneB,kN,kLo,kHi,kT,h1',h4]
theorem rightP_rise (l : List C5) (h1 : l.Pairwise fun x y => Op.bytesLess x.1.toList y.1.toList = true) (h2 : l.length ≤ 5) (h3 : ∀ c ∈ l,oneB c = true) : rightP l = true := by
 rw [rightP_end l fun j hj => ?_]
 ·simpa using h2
 unfold goodP
 rw [List.getElem?_eq_getElem hj]
 simp only [Bool.and_eq_true]
 refine ⟨h3 _ (List.getElem_mem hj),?_⟩
 cases j with
 | zero => rfl
 | succ j =>
  rw [Bool.or_eq_true]
  right
  rw [Nat.add_sub_cancel,List.getElem?_eq_getElem (by omega)]
  exact List.pairwise_iff_getElem.1 h1 j (j + 1) (by omega) hj (by omega)
theorem prd_right5 (has vals : List Int) : rightP ((prd has vals 7).map r5) = true := by
 have h := prd_nf has vals
 refine rightP_rise _ ?_ (by rw [List.length_map]; exact h.five) fun c hc => ?_
 ·rw [List.pairwise_map]
  exact h.rise
 ·obtain ⟨x,hx,rfl⟩ := List.mem_map.1 hc
  exact one_r5 x (h.good x hx)
theorem prd_len5 (has vals : List Int) : ((prd has vals 7).map r5).length ≤ 5 := by
 rw [List.length_map]; exact (prd_nf has vals).five
theorem one_size {c : C5} (h : oneB c = true) : c.1.size ≤ 12 ∧ c.2.2.2.2.size ≤ 12 := by
 unfold oneB At.nameB at h
 simp only [Bool.and_eq_true,decide_eq_true_eq] at h
 refine ⟨h.1.2.2,?_⟩
 have h2 := h.2
 split at h2
 ·simp only [Bool.and_eq_true,decide_eq_true_eq] at h2; omega
 ·split at h2
  ·simp only [Bool.and_eq_true,decide_eq_true_eq] at h2; omega
  ·split at h2
   ·simp only [Bool.and_eq_true,decide_eq_true_eq] at h2; omega
   ·cases h2
theorem tame_right {l : List C5} (h : rightP l = true) : Tame l := fun x hx => by
 unfold rightP at h
 rw [Bool.and_eq_true,List.all_eq_true] at h
 obtain ⟨j,hj,rfl⟩ := List.getElem_of_mem hx
 have h1 := h.1 j (List.mem_range.2 hj)
 unfold goodP at h1
 rw [List.getElem?_eq_getElem hj] at h1
 simp only [Bool.and_eq_true] at h1
 have h2 := one_size h1.1
 have h3 : 12 ≤ maxLen := by decide
 exact ⟨Nat.le_trans h2.1 h3,Nat.le_trans h2.2 h3⟩
end Go.Proofs.YtncogjpmboglhaaGreat.Av
namespace Go.Proofs.YtncogjpmboglhaaGreat.Av
open Go.RowKit Go.Sort Rw YtncogjpmboglhaaGreat.Nm Pr Bk
theorem insAt_len {α : Type} (l : List α) (k : Nat) (x : α) : (insAt l k x).length = l.length + 1 := by
 unfold insAt
 simp only [List.length_append,List.length_cons,List.length_nil,List.length_take,List.length_drop]
 omega
end Go.Proofs.YtncogjpmboglhaaGreat.Av
namespace Go.Proofs.YtncogjpmboglhaaGreat.Bk
open Go.RowKit Go.Sort Rw YtncogjpmboglhaaGreat.Nm Pr
def eqD (x y : Ad) : Bool := eqI x.id y.id && (x.par == y.par && sameC x.p y.p)
def eqW (x y : Ow) : Bool := eqI x.id y.id && sameC x.p y.p
theorem eqD_iff (x y : Ad) : eqD x y = true ↔ x = y := by
 obtain ⟨a,b,c⟩ := x
 obtain ⟨a',b',c'⟩ := y
 simp only [eqD,Bool.and_eq_true,eqI_iff,sameC_iff,beq_iff_eq,Ad.mk.injEq]
 constructor
 ·rintro ⟨h1,h2,h3⟩
  exact ⟨h1,h3,h2⟩
 ·rintro ⟨h1,h2,h3⟩
  exact ⟨h1,h3,h2⟩
theorem eqW_iff (x y : Ow) : eqW x y = true ↔ x = y := by
 obtain ⟨a,b⟩ := x
 obtain ⟨a',b'⟩ := y
 simp only [eqW,Bool.and_eq_true,eqI_iff,sameC_iff,Ow.mk.injEq]
def sameBr (a b : Br) : Bool := a.me == b.me && (decide (a.near = b.near) && (sameG eqI a.seen b.seen && (decide (a.adv.length = b.adv.length) && (decide (a.own.length = b.own.length) && (sameG eqE a.ent b.ent && (sameG eqD a.adv b.adv && sameG eqW a.own b.own))))))
theorem sameBr_iff (a b : Br) : sameBr a b = true ↔ a = b := by
 obtain ⟨m,n,d,s,e,o⟩ := a
 obtain ⟨m',n',d',s',e',o'⟩ := b
 simp only [sameBr,Bool.and_eq_true,beq_iff_eq,decide_eq_true_eq,sameG_iff eqI_iff,sameG_iff eqE_iff,sameG_iff eqD_iff,sameG_iff eqW_iff,Br.mk.injEq]
 constructor
 ·rintro ⟨h1,h2,h3,_,_,h6,h7,h8⟩
  exact ⟨h1,h2,h7,h3,h6,h8⟩
 ·rintro ⟨h1,h2,h3,h4,h5,h6⟩
  exact ⟨h1,h2,h4,by rw [h3],by rw [h6],h5,h3,h6⟩
def Shr (b : Br) : Prop := (∀ (k : Nat) (a : Ad),b.adv[k]? = some a → a.p.length ≤ 1000000) ∧ (∀ (k : Nat) (e : En),b.ent[k]? = some e → e.p.length ≤ 1000000) ∧ (∀ (k : Nat) (o : Ow),b.own[k]? = some o → o.p.length ≤ 1000000)
theorem brokers_any (a b : Br) (nv av sv ev ov nv2 av2 sv2 ev2 ov2 : Sl) (w : World) (ha : BrIn w a nv av sv ev ov) (hb : BrIn w b nv2 av2 sv2 ev2 ov2) (sa : Shr a) (sb : Shr b) (fa : Few a) :
  Calls Tryz.prog 27 #[brv a.me nv av sv ev ov,brv b.me nv2 av2 sv2 ev2 ov2] w fun e w' => e = .returned (.bool (sameBr a b)) ∧ Below w.heap.size w w' := by
 obtain ⟨no,nn,nc⟩ := nv
 obtain ⟨ao,an,ac⟩ := av
 obtain ⟨so,sn,sc⟩ := sv
 obtain ⟨eo,en,ec⟩ := ev
 obtain ⟨oo,on_,oc⟩ := ov
 obtain ⟨no2,nn2,nc2⟩ := nv2
 obtain ⟨ao2,an2,ac2⟩ := av2
 obtain ⟨so2,sn2,sc2⟩ := sv2
 obtain ⟨eo2,en2,ec2⟩ := ev2
 obtain ⟨oo2,on_2,oc2⟩ := ov2
 obtain ⟨lDa,hd1,hd2⟩ := ha.adv
 obtain ⟨lDb,hd3,hd4⟩ := hb.adv
 obtain ⟨lEa,he1,he2⟩ := ha.ent
 obtain ⟨lEb,he3,he4⟩ := hb.ent
 obtain ⟨lWa,hw1,hw2⟩ := ha.own
 obtain ⟨lWb,hw3,hw4⟩ := hb.own
 have hl9 : lEa.length ≤ 1000000 := by have := he2.len; have := fa.ent; omega
 have hm9 := fa.adv
 have hn9 := fa.own
 have la9 := hd2.len
 have lo9 := hw2.len
 obtain ⟨q1_,q2_,hq_⟩ := hd1.len
 obtain ⟨rfl,k1,rfl⟩ : ao = q1_ ∧ an = (lDa).length ∧ ac = q2_ := by
  have h_ : Value.slice ao an ac = .slice q1_ (lDa).length q2_ := hq_
  simpa using h_
 clear hq_
 obtain ⟨q1_,q2_,hq_⟩ := hd3.len
 obtain ⟨rfl,k2,rfl⟩ : ao2 = q1_ ∧ an2 = (lDb).length ∧ ac2 = q2_ := by
  have h_ : Value.slice ao2 an2 ac2 = .slice q1_ (lDb).length q2_ := hq_
  simpa using h_
 clear hq_
 obtain ⟨q1_,q2_,hq_⟩ := hw1.len
 obtain ⟨rfl,k3,rfl⟩ : oo = q1_ ∧ on_ = (lWa).length ∧ oc = q2_ := by
  have h_ : Value.slice oo on_ oc = .slice q1_ (lWa).length q2_ := hq_
  simpa using h_
 clear hq_
 obtain ⟨q1_,q2_,hq_⟩ := hw3.len
 obtain ⟨rfl,k4,rfl⟩ : oo2 = q1_ ∧ on_2 = (lWb).length ∧ oc2 = q2_ := by
  have h_ : Value.slice oo2 on_2 oc2 = .slice q1_ (lWb).length q2_ := hq_
  simpa using h_
 clear hq_
 have LDA := Lib.hid k1
 have LDB := Lib.hid k2
 have LWA := Lib.hid k3
 have LWB := Lib.hid k4
 have bnd1 : an ≤ 900 := by omega
 have bnd2 : on_ ≤ 900 := by omega
 have UDA := Lib.hid hd2
 have UDB := Lib.hid hd4
 have UWA := Lib.hid hw2
 have UWB := Lib.hid hw4
 have RDA := Lib.hid hd1
 have RDB := Lib.hid hd3
 have RWA := Lib.hid hw1
 have RWB := Lib.hid hw3
 have SHA := Lib.hid sa
 have SHB := Lib.hid sb
 obtain ⟨h0,h1,h2⟩ := two_new w #[.int .i64 a.me,.slice no nn nc,.slice ao an ac,.slice so sn sc,.slice eo en ec,.slice oo on_ oc] #[.int .i64 b.me,.slice no2 nn2 nc2,.slice ao2 an2 ac2,.slice so2 sn2 sc2,.slice eo2 en2 ec2,.slice oo2 on_2 oc2] 31 31
 obtain ⟨r1,e1⟩ : ∃ r,decide (a.near = b.near) = r := ⟨_,rfl⟩
 obtain ⟨r2,e2⟩ : ∃ r,sameG eqI a.seen b.seen = r := ⟨_,rfl⟩
 obtain ⟨r3,e3⟩ : ∃ r,decide (a.adv.length = b.adv.length) = r := ⟨_,rfl⟩
 obtain ⟨r4,e4⟩ : ∃ r,decide (a.own.length = b.own.length) = r := ⟨_,rfl⟩
 obtain ⟨r5,e5⟩ : ∃ r,sameG eqE a.ent b.ent = r := ⟨_,rfl⟩
 have hR : sameBr a b = (a.me == b.me && (r1 && (r2 && (r3 && (r4 && (r5 && (sameG eqD a.adv b.adv && sameG eqW a.own b.own))))))) := by rw [← e1,← e2,← e3,← e4,← e5]; rfl
 have CN0 := Lib.hid (fun W (hb_ : Below w.heap.size w W) => sameI (.slice no nn nc) (.slice no2 nn2 nc2) a.near b.near W (ha.near.on hb_) (hb.near.on hb_))
 have CJ0 := Lib.hid (fun W (hb_ : Below w.heap.size w W) => sameJ_any (.slice so sn sc) (.slice so2 sn2 sc2) a.seen b.seen W (ha.seen.on hb_) (hb.seen.on hb_) (by have := fa.seen; omega))
 have CE0 := Lib.hid (fun W (hb_ : Below w.heap.size w W) => entries_any (.slice eo en ec) (.slice eo2 en2 ec2) lEa lEb a.ent b.ent W (he1.on hb_) (he3.on hb_) (he2.mono fun _ _ h => h.on hb_) (he4.mono fun _ _ h => h.on hb_) sa.2.1 sb.2.1 hl9)
 rw [e1] at CN0
 rw [e2] at CJ0
 rw [e5] at CE0
 have E3 := Lib.hid e3
 have E4 := Lib.hid e4
 obtain ⟨me,hme⟩ : ∃ me,me = a.me := ⟨_,rfl⟩
 obtain ⟨me2,hme2⟩ : ∃ me,me = b.me := ⟨_,rfl⟩
 simp only [← hme,← hme2] at h0 h1 h2 hR ⊢
 obtain ⟨r0,e0⟩ : ∃ r,(me == me2) = r := ⟨_,rfl⟩
 have h0' : (me != me2) = !r0 := by rw [← e0]; rfl
 rw [e0] at hR
 have R := Lib.hid hR
 generalize sameBr a b = rr at *
 have B0 := Lib.hid h0
 have X0 := Lib.hid h1
 have Y0 := Lib.hid h2
 clear h0 h1 h2 ha hb sa sb fa hd1 hd2 hd3 hd4 he1 he2 he3 he4 hw1 hw2 hw3 hw4 hl9 hm9 hn9 la9 lo9 k1 k2 k3 k4 e1 e2 e3 e4 e5 hme hme2 hR
 show Calls Tryz.prog 27 #[.agg #[.int .i64 me,.slice no nn nc,.slice ao an ac,.slice so sn sc,.slice eo en ec,.slice oo on_ oc],.agg #[.int .i64 me2,.slice no2 nn2 nc2,.slice ao2 an2 ac2,.slice so2 sn2 sc2,.slice eo2 en2 ec2,.slice oo2 on_2 oc2]] w _
 go_enter Tryz.func27,Tryz.ntmps27
 go_upto_region 1 with fail
 generalize (w.alloc (.cells #[.int .i64 me,.slice no nn nc,.slice ao an ac,.slice so sn sc,.slice eo en ec,.slice oo on_ oc] 31)).alloc (.cells #[.int .i64 me2,.slice no2 nn2 nc2,.slice ao2 an2 ac2,.slice so2 sn2 sc2,.slice eo2 en2 ec2,.slice oo2 on_2 oc2] 31) = W at *
 have CN := Lib.hid (CN0.out W B0.out)
 clear CN0
 have x_ := X0.out
 have y_ := Y0.out
 obtain ⟨x0,x1,x2,x3,x4,x5⟩ := x_.cs6
 obtain ⟨y0,y1,y2,y3,y4,y5⟩ := y_.cs6
 clear x_ y_
 cases r0
 ·go_wp2
  go_ret
  exact ⟨ret_b (by rw [R.out]; simp),B0.out⟩
 ·go_wp2_with fail
  refine CN.out.mono ?_
  rintro e1 w1 ⟨rfl,hb⟩
  have B1 := Lib.hid (B0.out.trans (hb.mono B0.out.size))
  have X1 := Lib.hid (X0.out.on hb)
  have Y1 := Lib.hid (Y0.out.on hb)
  clear hb CN x0 x1 x2 x3 x4 x5 y0 y1 y2 y3 y4 y5
  have x_ := X1.out
  have y_ := Y1.out
  obtain ⟨x0,x1,x2,x3,x4,x5⟩ := x_.cs6
  obtain ⟨y0,y1,y2,y3,y4,y5⟩ := y_.cs6
  clear x_ y_
  cases r1
  ·go_wp2
   go_ret
   exact ⟨ret_b (by rw [R.out]; simp),B1.out⟩
  ·have CJ := Lib.hid (CJ0.out w1 B1.out)
   go_wp2_with fail
   refine CJ.out.mono ?_
   rintro e2 w2 ⟨rfl,hb⟩
   have B2 := Lib.hid (B1.out.trans (hb.mono B1.out.size))
   have X2 := Lib.hid (X1.out.on hb)
   have Y2 := Lib.hid (Y1.out.on hb)
   clear hb CJ x0 x1 x2 x3 x4 x5 y0 y1 y2 y3 y4 y5
   have x_ := X2.out
   have y_ := Y2.out
   obtain ⟨x0,x1,x2,x3,x4,x5⟩ := x_.cs6
   obtain ⟨y0,y1,y2,y3,y4,y5⟩ := y_.cs6
   clear x_ y_
   cases r2
   ·go_wp2
    go_ret
    exact ⟨ret_b (by rw [R.out]; simp),B2.out⟩
   ·by_cases hA : an = an2
    ·subst hA
     have k3 : r3 = true := by rw [← E3.out]; exact decide_eq_true (by rw [← UDA.out.len,← UDB.out.len]; have := LDA.out; have := LDB.out; omega)
     subst k3
     by_cases hO : on_ = on_2
     ·subst hO
      have k4 : r4 = true := by rw [← E4.out]; exact decide_eq_true (by rw [← UWA.out.len,← UWB.out.len]; have := LWA.out; have := LWB.out; omega)
      subst k4
      have CE := Lib.hid (CE0.out w2 B2.out)
      go_wp2_with fail
      refine CE.out.mono ?_
      rintro e4 w4 ⟨rfl,hb⟩
      have B4 := Lib.hid (B2.out.trans (hb.mono B2.out.size))
      have X4 := Lib.hid (X2.out.on hb)
      have Y4 := Lib.hid (Y2.out.on hb)
      clear hb CE x0 x1 x2 x3 x4 x5 y0 y1 y2 y3 y4 y5
      have x_ := X4.out
      have y_ := Y4.out
      obtain ⟨x0,x1,x2,x3,x4,x5⟩ := x_.cs6
      obtain ⟨y0,y1,y2,y3,y4,y5⟩ := y_.cs6
      clear x_ y_
      cases r5
      ·go_wp2
       go_ret
       exact ⟨ret_b (by rw [R.out]; simp),B4.out⟩
      ·go_wp2
       go_loopw [57] (fun i wr => ∃ k : Nat,k ≤ an ∧ i = .int .i64 k ∧ Below w4.heap.size w4 wr ∧ ∀ (j : Nat) (x y : Ad),j < k → a.adv[j]? = some x → b.adv[j]? = some y → eqD x y = true) (fun i _ => an - (intOf i).toNat)
       case atStart => exact ⟨0,Nat.zero_le _,rfl,Below.refl _ _,fun j x y h => by omega⟩
       case round =>
        obtain ⟨k,hk,rfl,hbe,hall⟩ := hrel
        have BE := Lib.hid hbe
        have AL := Lib.hid hall
        have WX := Lib.hid B4.out
        clear hbe hall
        by_cases hlt : k < an
        ·obtain ⟨x,hx⟩ : ∃ x,lDa[k]? = some x := ⟨_,List.getElem?_eq_getElem (by have := LDA.out; omega)⟩
         obtain ⟨y,hy⟩ : ∃ y,lDb[k]? = some y := ⟨_,List.getElem?_eq_getElem (by have := LDB.out; omega)⟩
         obtain ⟨p,ix,px⟩ := elD (RDA.out.on WX.out) rfl LDA.out.symm hx
         obtain ⟨q,iy,py⟩ := elD (RDB.out.on WX.out) rfl LDB.out.symm hy
         obtain ⟨sx,hsx,ix_⟩ := at_left UDA.out k x hx
         obtain ⟨sy,hsy,iy_⟩ := at_left UDB.out k y hy
         obtain ⟨x1,x2,⟨xo,xn,xc⟩,x4⟩ := x
         obtain ⟨y1,y2,⟨yo,yn,yc⟩,y4⟩ := y
         obtain ⟨ta,tp,tf⟩ := sx
         obtain ⟨va,vp,vf⟩ := sy
         obtain ⟨rfl,rfl,rx⟩ := ix_
         obtain ⟨rfl,rfl,ry⟩ := iy_
         have R0 := show eqD ⟨(x1,x2),tp,x4⟩ ⟨(y1,y2),vp,y4⟩ = (eqI (x1,x2) (y1,y2) && (x4 == y4 && sameC tp vp)) from rfl
         have b2 := cell_regrown (show wr.cell? ⟨w.heap.size,2,none⟩ = some (.slice ao an ac) from (X4.out.on BE.out).cell 2)
         have b3 := cell_regrown (show wr.cell? ⟨w.heap.size + 1,2,none⟩ = some (.slice ao2 an ac2) from (Y4.out.on BE.out).cell 2)
         have p0 := cell_regrown (px _ BE.out).1
         have p1 := cell_regrown (px _ BE.out).2.1
         have p2 := cell_regrown (px _ BE.out).2.2.1
         have p3 := cell_regrown (px _ BE.out).2.2.2
         have q0 := cell_regrown (py _ BE.out).1
         have q1 := cell_regrown (py _ BE.out).2.1
         have q2 := cell_regrown (py _ BE.out).2.2.1
         have q3 := cell_regrown (py _ BE.out).2.2.2
         have CS := Lib.hid (fun d os => Calls.regrown_of (d := d) (os := os) (sameC_any (.slice xo xn xc) (.slice yo yn yc) tp vp _ (((rx.on WX.out).on BE.out).on (below_regrown wr d os)) (((ry.on WX.out).on BE.out).on (below_regrown wr d os)) (SHA.out.1 _ _ hsx) (SHB.out.1 _ _ hsy)))
         obtain ⟨s1,e1⟩ : ∃ r,eqI (x1,x2) (y1,y2) = r := ⟨_,rfl⟩
         obtain ⟨s2,e2⟩ : ∃ r,(x4 == y4) = r := ⟨_,rfl⟩
         obtain ⟨s3,e3⟩ : ∃ r,sameC tp vp = r := ⟨_,rfl⟩
         have h1 := neId x1 x2 y1 y2 (!s1) (by rw [← e1]; rfl)
         have h2 : (x4 != y4) = !s2 := by rw [← e2]; rfl
         rw [e3] at CS
         rw [e1,e2,e3] at R0
         have HX := Lib.hid hsx
         have HY := Lib.hid hsy
         have HR0 := Lib.hid R0
         clear px py hx hy hsx hsy rx ry R0 e1 e2 e3
         cases s1
         ·have HR := Lib.hid (HR0.out.trans (show _ = false by simp))
          have RN := Lib.hid (show sameG eqD a.adv b.adv = false from sameG_not a.adv b.adv k _ _ HX.out HY.out HR.out)
          clear HR0
          go_wp2
          refine wp_region_quiet_below (by kernel_rfl) (by kernel_rfl) ?_
          repeat (go_big_quiet_step (first | (with_reducible exact CS.out _ _)))
          refine wpQuiet_nil ?_
          intro _ hw'
          obtain ⟨⟨dq,osq⟩,hw''⟩ := hw'
          subst hw''
          go_wp2
          go_ret
          exact ⟨ret_b (by rw [R.out,RN.out]; simp),B4.out.trans ((BE.out.trans ((below_regrown wr dq osq).mono BE.out.size)).mono B4.out.size)⟩
         ·cases s2
          ·have HR := Lib.hid (HR0.out.trans (show _ = false by simp))
           have RN := Lib.hid (show sameG eqD a.adv b.adv = false from sameG_not a.adv b.adv k _ _ HX.out HY.out HR.out)
           clear HR0
           go_wp2
           refine wp_region_quiet_below (by kernel_rfl) (by kernel_rfl) ?_
           repeat (go_big_quiet_step (first | (with_reducible exact CS.out _ _)))
           refine wpQuiet_nil ?_
           intro _ hw'
           obtain ⟨⟨dq,osq⟩,hw''⟩ := hw'
           subst hw''
           go_wp2
           go_ret
           exact ⟨ret_b (by rw [R.out,RN.out]; simp),B4.out.trans ((BE.out.trans ((below_regrown wr dq osq).mono BE.out.size)).mono B4.out.size)⟩
          ·cases s3
           ·have HR := Lib.hid (HR0.out.trans (show _ = false by simp))
            have RN := Lib.hid (show sameG eqD a.adv b.adv = false from sameG_not a.adv b.adv k _ _ HX.out HY.out HR.out)
            clear HR0
            go_wp2
            refine wp_region_quiet_below (by kernel_rfl) (by kernel_rfl) ?_
            repeat (go_big_quiet_step (first | (with_reducible exact CS.out _ _)))
            refine wpQuiet_nil ?_
            intro _ hw'
            obtain ⟨⟨dq,osq⟩,hw''⟩ := hw'
            subst hw''
            go_wp2
            go_ret
            exact ⟨ret_b (by rw [R.out,RN.out]; simp),B4.out.trans ((BE.out.trans ((below_regrown wr dq osq).mono BE.out.size)).mono B4.out.size)⟩
           ·have HR := Lib.hid (HR0.out.trans (show _ = true by simp))
            clear HR0
            go_wp2
            refine wp_region_quiet_below (by kernel_rfl) (by kernel_rfl) ?_
            repeat (go_big_quiet_step (first | (with_reducible exact CS.out _ _)))
            refine wpQuiet_nil ?_
            intro _ hw'
            obtain ⟨⟨dq,osq⟩,hw''⟩ := hw'
            subst hw''
            clear ix iy b2 b3 p0 q0 p1 q1 p2 q2 p3 q3 h1 h2
            go_wp2
            go_roundw
            case rel => exact ⟨k + 1,by omega,by go_num,BE.out.trans ((below_regrown wr dq osq).mono BE.out.size),fun j x' y' hj h1 h2 => by
             rcases Nat.lt_or_ge j k with h3 | h3
             ·exact AL.out j x' y' h3 h1 h2
             ·obtain rfl : j = k := by omega
              have e1 := HX.out
              have e2 := HY.out
              rw [h1] at e1
              rw [h2] at e2
              rw [Option.some.inj e1,Option.some.inj e2]
              exact HR.out⟩
            case measure => simp [intOf]; omega
        ·have RK := Lib.hid (show sameG eqD a.adv b.adv = true from sameG_all a.adv b.adv (by rw [← UDA.out.len,← UDB.out.len]; have := LDA.out; have := LDB.out; omega) (fun j a b h1 h2 => AL.out j a b (by have := (List.getElem?_eq_some_iff.1 h1).1; have := UDA.out.len; have := LDA.out; omega) h1 h2))
         have R := Lib.hid (R.out.trans (by rw [RK.out]))
         obtain rfl : an = k := by omega
         obtain ⟨wr1,hwr1⟩ : ∃ x,x = wr := ⟨_,rfl⟩
         rw [← hwr1] at BE
         have Br1 := Lib.hid (B4.out.trans (BE.out.mono B4.out.size))
         have Xr := Lib.hid (X4.out.on BE.out)
         have Yr := Lib.hid (Y4.out.on BE.out)
         rw [← hwr1]
         have z5 := Xr.out.cell 5
         have zz := Yr.out.cell 5
         simp only [List.getElem?_toArray,List.getElem?_cons_zero,List.getElem?_cons_succ] at z5 zz
         clear hwr1 BE AL WX hlt
         go_wp2
         go_loopw [108] (fun i wr => ∃ k : Nat,k ≤ on_ ∧ i = .int .i64 k ∧ Below wr1.heap.size wr1 wr ∧ ∀ (j : Nat) (x y : Ow),j < k → a.own[j]? = some x → b.own[j]? = some y → eqW x y = true) (fun i _ => on_ - (intOf i).toNat)
         case atStart => exact ⟨0,Nat.zero_le _,rfl,Below.refl _ _,fun j x y h => by omega⟩
         case round =>
          obtain ⟨k,hk,rfl,hbe,hall⟩ := hrel
          have BE := Lib.hid hbe
          have AL := Lib.hid hall
          have WX := Lib.hid Br1.out
          clear hbe hall
          by_cases hlt : k < on_
          ·obtain ⟨x,hx⟩ : ∃ x,lWa[k]? = some x := ⟨_,List.getElem?_eq_getElem (by have := LWA.out; omega)⟩
           obtain ⟨y,hy⟩ : ∃ y,lWb[k]? = some y := ⟨_,List.getElem?_eq_getElem (by have := LWB.out; omega)⟩
           obtain ⟨p,ix,px⟩ := elW (RWA.out.on WX.out) rfl LWA.out.symm hx
           obtain ⟨q,iy,py⟩ := elW (RWB.out.on WX.out) rfl LWB.out.symm hy
           obtain ⟨sx,hsx,ix_⟩ := at_left UWA.out k x hx
           obtain ⟨sy,hsy,iy_⟩ := at_left UWB.out k y hy
           obtain ⟨x1,x2,xo,xn,xc⟩ := x
           obtain ⟨y1,y2,yo,yn,yc⟩ := y
           obtain ⟨ta,tp⟩ := sx
           obtain ⟨va,vp⟩ := sy
           obtain ⟨rfl,rx⟩ := ix_
           obtain ⟨rfl,ry⟩ := iy_
           have R0 := show eqW ⟨(x1,x2),tp⟩ ⟨(y1,y2),vp⟩ = (eqI (x1,x2) (y1,y2) && sameC tp vp) from rfl
           have b2 := cell_regrown (show wr.cell? ⟨w.heap.size,5,none⟩ = some (.slice oo on_ oc) from (Xr.out.on BE.out).cell 5)
           have b3 := cell_regrown (show wr.cell? ⟨w.heap.size + 1,5,none⟩ = some (.slice oo2 on_ oc2) from (Yr.out.on BE.out).cell 5)
           have p0 := cell_regrown (px _ BE.out).1
           have p1 := cell_regrown (px _ BE.out).2.1
           have p2 := cell_regrown (px _ BE.out).2.2
           have q0 := cell_regrown (py _ BE.out).1
           have q1 := cell_regrown (py _ BE.out).2.1
           have q2 := cell_regrown (py _ BE.out).2.2
           have CS := Lib.hid (fun d os => Calls.regrown_of (d := d) (os := os) (sameC_any (.slice xo xn xc) (.slice yo yn yc) tp vp _ (((rx.on WX.out).on BE.out).on (below_regrown wr d os)) (((ry.on WX.out).on BE.out).on (below_regrown wr d os)) (SHA.out.2.2 _ _ hsx) (SHB.out.2.2 _ _ hsy)))
           obtain ⟨s1,e1⟩ : ∃ r,eqI (x1,x2) (y1,y2) = r := ⟨_,rfl⟩
           obtain ⟨s3,e3⟩ : ∃ r,sameC tp vp = r := ⟨_,rfl⟩
           have h1 := neId x1 x2 y1 y2 (!s1) (by rw [← e1]; rfl)
           rw [e3] at CS
           rw [e1,e3] at R0
           have HX := Lib.hid hsx
           have HY := Lib.hid hsy
           have HR0 := Lib.hid R0
           clear px py hx hy hsx hsy rx ry R0 e1 e3
           cases s1
           ·have HR := Lib.hid (HR0.out.trans (show _ = false by simp))
            have RN := Lib.hid (show sameG eqW a.own b.own = false from sameG_not a.own b.own k _ _ HX.out HY.out HR.out)
            clear HR0
            go_wp2
            refine wp_region_quiet_below (by kernel_rfl) (by kernel_rfl) ?_
            repeat (go_big_quiet_step (first | (with_reducible exact CS.out _ _)))
            refine wpQuiet_nil ?_
            intro _ hw'
            obtain ⟨⟨dq,osq⟩,hw''⟩ := hw'
            subst hw''
            go_wp2
            go_ret
            exact ⟨ret_b (by rw [R.out,RN.out]; simp),Br1.out.trans ((BE.out.trans ((below_regrown wr dq osq).mono BE.out.size)).mono Br1.out.size)⟩
           ·cases s3
            ·have HR := Lib.hid (HR0.out.trans (show _ = false by simp))
             have RN := Lib.hid (show sameG eqW a.own b.own = false from sameG_not a.own b.own k _ _ HX.out HY.out HR.out)
             clear HR0
             go_wp2
             refine wp_region_quiet_below (by kernel_rfl) (by kernel_rfl) ?_
             repeat (go_big_quiet_step (first | (with_reducible exact CS.out _ _)))
             refine wpQuiet_nil ?_
             intro _ hw'
             obtain ⟨⟨dq,osq⟩,hw''⟩ := hw'
             subst hw''
             go_wp2
             go_ret
             exact ⟨ret_b (by rw [R.out,RN.out]; simp),Br1.out.trans ((BE.out.trans ((below_regrown wr dq osq).mono BE.out.size)).mono Br1.out.size)⟩
            ·have HR := Lib.hid (HR0.out.trans (show _ = true by simp))
             clear HR0
             go_wp2
             refine wp_region_quiet_below (by kernel_rfl) (by kernel_rfl) ?_
             repeat (go_big_quiet_step (first | (with_reducible exact CS.out _ _)))
             refine wpQuiet_nil ?_
             intro _ hw'
             obtain ⟨⟨dq,osq⟩,hw''⟩ := hw'
             subst hw''
             clear ix iy b2 b3 p0 q0 p1 q1 p2 q2 h1
             go_wp2
             go_roundw
             case rel => exact ⟨k + 1,by omega,by go_num,BE.out.trans ((below_regrown wr dq osq).mono BE.out.size),fun j x' y' hj h1 h2 => by
              rcases Nat.lt_or_ge j k with h3 | h3
              ·exact AL.out j x' y' h3 h1 h2
              ·obtain rfl : j = k := by omega
               have e1 := HX.out
               have e2 := HY.out
               rw [h1] at e1
               rw [h2] at e2
               rw [Option.some.inj e1,Option.some.inj e2]
               exact HR.out⟩
             case measure => simp [intOf]; omega
          ·have RK := Lib.hid (show sameG eqW a.own b.own = true from sameG_all a.own b.own (by rw [← UWA.out.len,← UWB.out.len]; have := LWA.out; have := LWB.out; omega) (fun j a b h1 h2 => AL.out j a b (by have := (List.getElem?_eq_some_iff.1 h1).1; have := UWA.out.len; have := LWA.out; omega) h1 h2))
           have R := Lib.hid (R.out.trans (by rw [RK.out]))
           obtain rfl : on_ = k := by omega
           go_wp2
           go_ret
           exact ⟨ret_b (by rw [R.out]; simp),Br1.out.trans (BE.out.mono Br1.out.size)⟩
     ·have k4 : r4 = false := by rw [← E4.out]; exact decide_eq_false (by rw [← UWA.out.len,← UWB.out.len]; have := LWA.out; have := LWB.out; omega)
      subst k4
      have n1 : ((on_ : Int) != (on_2 : Int)) = true := by simp; omega
      have n2 : ((on_ : Int) == (on_2 : Int)) = false := by simp; omega
      go_wp2
      go_ret
      exact ⟨ret_b (by rw [R.out]; simp),B2.out⟩
    ·have k3 : r3 = false := by rw [← E3.out]; exact decide_eq_false (by rw [← UDA.out.len,← UDB.out.len]; have := LDA.out; have := LDB.out; omega)
     subst k3
     have n1 : ((an : Int) != (an2 : Int)) = true := by simp; omega
     have n2 : ((an : Int) == (an2 : Int)) = false := by simp; omega
     go_wp2
     go_ret
     exact ⟨ret_b (by rw [R.out]; simp),B2.out⟩
end Go.Proofs.YtncogjpmboglhaaGreat.Bk
namespace Go.Proofs.YtncogjpmboglhaaGreat.Av
open Go.RowKit Go.Sort Rw YtncogjpmboglhaaGreat.Nm Pr Bk
theorem FewP.shr {b : Br} (h : FewP b) : Shr b :=
 ⟨fun k a hk => Nat.le_trans (h.adv a (List.mem_of_getElem? hk)) (by decide),fun k a hk => Nat.le_trans (h.ent a (List.mem_of_getElem? hk)) (by decide),fun k a hk => Nat.le_trans (h.own a (List.mem_of_getElem? hk)) (by decide)⟩
theorem same_self (b : Br) : sameBr b b = true := (sameBr_iff b b).2 rfl
theorem more_one (w : World) (o : Obj) : w.heap.size + 1 = (w.alloc o).heap.size := by simp
theorem learn_me (b : Br) (a : Ad) : (learnB b a).1.me = b.me ∧ (learnB b a).1.near = b.near := by
 unfold learnB
 split <;> exact ⟨rfl,rfl⟩
theorem forgetF_me (b : Br) (x : XID) (f : Int) : (forgetF b x f).1.me = b.me ∧ (forgetF b x f).1.near = b.near := by
 unfold forgetF
 split
 ·exact ⟨rfl,rfl⟩
 ·split <;> exact ⟨rfl,rfl⟩
end Go.Proofs.YtncogjpmboglhaaGreat.Av
namespace Go.Proofs.YtncogjpmboglhaaGreat.Bk
open Go.RowKit Go.Sort Rw YtncogjpmboglhaaGreat.Nm Pr
end Go.Proofs.YtncogjpmboglhaaGreat.Bk
namespace Go.Proofs.YtncogjpmboglhaaGreat.Av
open Go.RowKit Go.Sort Rw YtncogjpmboglhaaGreat.Nm Pr Bk
structure BrN (W : World) (b : Br) (nv av sv ev ov : Sl) : Prop where
 br : BrIn W b nv av sv ev ov
 no : NearOwn W nv b.near
theorem BrN.on {W W' : World} {b : Br} {nv av sv ev ov : Sl} (h : BrN W b nv av sv ev ov) (hb : Below W.heap.size W W') : BrN W' b nv av sv ev ov := ⟨h.br.on hb,h.no.on hb⟩
theorem BrN.keep {W W' : World} {k : Nat} {me : Int} {s1 s2 s3 s4 s5 : Sl} {b : Br} {nv av sv ev ov : Sl} (h : BrN W b nv av sv ev ov) (hb : Box W k (brcells me s1 s2 s3 s4 s5) 31) (hk : But k W W') : BrN W' b nv av sv ev ov := by
 obtain ⟨B,hn⟩ := h.no
 have hn2 : OwnI W' B (slv nv) b.near := hk.own hn hb (by decide)
 exact ⟨brin_keep h.br hb hk.1 (Row.of_own hn2),B,hn2⟩
theorem brin_nil (W : World) (me : Int) {near : List Int} {nv : Sl} (h : RowI W (slv nv) near) : BrIn W ⟨me,near,[],[],[],[]⟩ nv (none,0,0) (none,0,0) (none,0,0) (none,0,0) := ⟨h,⟨[],row_nil _,.nil⟩,row_nil _,⟨[],row_nil _,.nil⟩,⟨[],row_nil _,.nil⟩⟩
theorem rise_uniq : ∀ {l m : List Int},l.Pairwise (· < ·) → m.Pairwise (· < ·) → (∀ x,x ∈ l ↔ x ∈ m) → l = m
 | [],[],_,_,_ => rfl
 | [],y :: m,_,_,h => by have := (h y).2 (by simp); simp at this
 | x :: l,[],_,_,h => by have := (h x).1 (by simp); simp at this
 | x :: l,y :: m,hl,hm,h => by
  have hl' := List.pairwise_cons.1 hl
  have hm' := List.pairwise_cons.1 hm
  have h1 : x = y := by
   rcases List.mem_cons.1 ((h x).1 (by simp)) with e | e
   ·exact e
   ·rcases List.mem_cons.1 ((h y).2 (by simp)) with e2 | e2
    ·exact e2.symm
    ·have a1 := hm'.1 x e
     have a2 := hl'.1 y e2
     omega
  subst h1
  rw [rise_uniq hl'.2 hm'.2 fun z => ⟨fun hz => ?_,fun hz => ?_⟩]
  ·rcases List.mem_cons.1 ((h z).1 (List.mem_cons_of_mem _ hz)) with e | e
   ·have := hl'.1 z hz
    omega
   ·exact e
  ·rcases List.mem_cons.1 ((h z).2 (List.mem_cons_of_mem _ hz)) with e | e
   ·have := hm'.1 z hz
    omega
   ·exact e
end Go.Proofs.YtncogjpmboglhaaGreat.Av
namespace Go.Proofs.YtncogjpmboglhaaGreat.Bk
open Go.RowKit Go.Sort Rw YtncogjpmboglhaaGreat.Nm Pr
end Go.Proofs.YtncogjpmboglhaaGreat.Bk
namespace Go.Proofs.YtncogjpmboglhaaGreat.Av
open Go.RowKit Go.Sort Rw YtncogjpmboglhaaGreat.Nm Pr Bk
theorem ex_extract {P : Program} (ρ : Operand → Value) (o : Oper) (y : Operand) (k : Nat) (ho : o.op = .extract y k) {c : Array Value} {v : Value} (hx : ρ y = .tuple c) (hv : c[k]? = some v) (w : World) : (execOp ρ o).run P w = .ok (.value v) w := by
 simp [execOp,ho,hx,hv,go_sem]
end Go.Proofs.YtncogjpmboglhaaGreat.Av
namespace Go.Proofs.YtncogjpmboglhaaGreat.Rg
open Go.RowKit Rw Av
structure SeenY (i N S : Nat) (d last : Nat → Nat) (V : Nat → Value → World → Prop) (base : Act) (o : Oper) (a : Act) (x : World) : Prop where
 kp : ∀ j u,(∀ i,i < N → d i ≠ j) → base.tmps[j]? = some u → a.eval (.tmp j) = u
 at_ : ∀ e ∈ o.after,Region.binds .any e = true → e.on ≠ S → (last e.on = i ∨ N ≤ last e.on) → V e.on (a.eval (.tmp (d e.on))) x
def Sto (b : Nat) (W x : World) : Prop := But b W x ∧ ∀ B,B ≤ b → Below B W x
theorem Sto.grow {b : Nat} {W x x' : World} (h : Sto b W x) (hl : b < W.heap.size) (hb : Below x.heap.size x x') : Sto b W x' :=
 ⟨⟨fun k hk hne => (hb.block k (Nat.lt_of_lt_of_le hk h.1.2)).trans (h.1.1 k hk hne),Nat.le_trans h.1.2 hb.size⟩,fun B hB => (h.2 B hB).trans (hb.mono (Nat.le_trans (Nat.le_trans hB (Nat.le_of_lt hl)) h.1.2))⟩
structure InY (l : List Oper) (N S C : Nat) (d last : Nat → Nat) (V : Nat → Value → World → Prop) (t : TypeId) (bb : Nat) (old : Array Value) (cof : Value → Array Value) (base : Act) (W : World) (L : Array Bool) (a : Act) (x : World) : Prop where
 cl : ∀ i o,done L i → l[i]? = some o → ∀ e ∈ o.after,Region.binds .any e = true → done L e.on
 no : ∀ i,N ≤ i → ¬ done L i
 df : a.defers = base.defers
 sz : a.tmps.size = base.tmps.size
 kp : ∀ j,(∀ i,i < N → d i ≠ j) → a.tmps[j]? = base.tmps[j]?
 sto : Sto bb W x
 val : ∃ vs : Nat → Value,∀ i,i < N → i ≠ S → done L i → a.tmps[d i]? = some (vs i) ∧ (¬ done L (last i) → V i (vs i) x)
 box : ¬ done L S → Below W.heap.size W x ∧ Box x bb old t
 fin : done L S → ∃ v,a.tmps[d C]? = some v ∧ Box x bb (cof v) t ∧ V C v x
theorem region_st {P : Program} {Q : Exit → Act → World → Prop} {id : Nat} {base : Act} {W : World} {l : List Oper} (N S C : Nat) (d last : Nat → Nat) (V : Nat → Value → World → Prop) (fl : Nat → Bool) (t : TypeId) (bb : Nat) (old : Array Value) (cof : Value → Array Value)
  (hm : P.follows .mixedOrders = true) (hf : fore l.toArray = true) (hN : l.length = N) (hS : S < N) (hC : C < N) (hCS : C ≠ S) (hlC : N ≤ last C) (hbox : Box W bb old t)
  (hinj : ∀ i j,i < N → j < N → i ≠ S → j ≠ S → d i = d j → i = j) (hs : ∀ i,i < N → i ≠ S → d i < base.tmps.size)
  (hV : ∀ i v x x',i < N → V i v x → Below x.heap.size x x' → V i v x')
  (hfl : ∀ o,l[S]? = some o → ∀ i,i < N → i ≠ S → fl i = false → ∃ e ∈ o.after,Region.binds .any e = true ∧ e.on = i) (hflC : fl C = false)
  (hop : ∀ i o,i < N → i ≠ S → l[i]? = some o → ∀ a x,(fl i = false → Below W.heap.size W x ∧ Box x bb old t) → SeenY i N S d last V base o a x → ∀ K : Act → World → Prop,(∀ v x',V i v x' → Below x.heap.size x x' → K (a.put (some (d i)) v) x') → wpOp P l.toArray Q i K a x)
  (hoS : ∀ o,l[S]? = some o → ∀ a x v,Below W.heap.size W x → Box x bb old t → a.eval (.tmp (d C)) = v → V C v x → (∀ j u,base.tmps[j]? = some u → (∀ i,i < N → d i ≠ j) → a.eval (.tmp j) = u) → ∀ K : Act → World → Prop,(∀ x',But bb x x' → (∀ B w,B ≤ bb → Below B w x → Below B w x') → Box x' bb (cof v) t → (∀ j u,j < N → j ≠ S → N ≤ last j → V j u x → V j u x') → K a x') → wpOp P l.toArray Q S K a x)
  (hlast : ∀ j,j < N → j ≠ S → N ≤ last j ∨ (last j < N ∧ last j ≠ S ∧ fl (last j) = false))
  (hend : ∀ a x v,a.defers = base.defers → a.tmps.size = base.tmps.size → (∀ j,(∀ i,i < N → d i ≠ j) → a.tmps[j]? = base.tmps[j]?) → a.tmps[d C]? = some v → Box x bb (cof v) t → V C v x → Sto bb W x → (∃ vs : Nat → Value,∀ i,i < N → i ≠ S → a.tmps[d i]? = some (vs i) ∧ (N ≤ last i → V i (vs i) x)) → Q .normal a x) : (Code.region id l.toArray true).wp P Q base W := by
 have hbl : bb < W.heap.size := hbox.lt
 refine region_inv (fun L a x => InY l N S C d last V t bb old cof base W L a x) hm hf ?_ ?_ ?_
 ·exact ⟨fun i o h => absurd h (none_done _ _),fun i _ => none_done _ _,rfl,rfl,fun _ _ => rfl,⟨⟨fun _ _ _ => rfl,Nat.le_refl _⟩,fun B hB => (Below.refl _ _).drew⟩,⟨fun _ => .bool true,fun i _ _ h => absurd h (none_done _ _)⟩,fun _ => ⟨(Below.refl _ _).drew,hbox⟩,fun h => absurd h (none_done _ _)⟩
 ·intro L a x i o hsz I ho hnd hdep
  have hi : i < l.length := (List.getElem?_eq_some_iff.1 ho).1
  have hiN : i < N := by omega
  have hiL : i < L.size := by omega
  obtain ⟨vs,hvs⟩ := I.val
  obtain ⟨oS,hoS'⟩ : ∃ oS,l[S]? = some oS := ⟨_,List.getElem?_eq_getElem (by omega)⟩
  have hon : ∀ e ∈ o.after,Region.binds .any e = true → e.on < i := fun e he hb => by
   have h7 := List.all_eq_true.1 hf i (List.mem_range.2 (by simpa using hi))
   have ho' : (l.toArray)[i]? = some o := by simpa using ho
   rw [ho'] at h7
   have h8 := Array.all_eq_true'.1 h7 e he
   rw [hb] at h8
   simpa using h8
  have dd : ∀ {k},k ≠ i → done (L.setIfInBounds i true) k → done L k := fun {k} h h5 => ((done_set hiL k).1 h5).resolve_left h
  have du : ∀ {k},done L k → done (L.setIfInBounds i true) k := fun {k} h => (done_set hiL k).2 (Or.inr h)
  have cl' : ∀ k q,done (L.setIfInBounds i true) k → l[k]? = some q → ∀ e ∈ q.after,Region.binds .any e = true → done (L.setIfInBounds i true) e.on := fun k q hk hq e he hb => by
   by_cases e2 : k = i
   ·subst e2
    rw [hq] at ho
    cases ho
    exact du (hdep e he hb)
   ·exact du (I.cl k q (dd e2 hk) hq e he hb)
  have no' : ∀ k,N ≤ k → ¬ done (L.setIfInBounds i true) k := fun k hk h => I.no k hk (dd (by omega) h)
  have early : ∀ k,k < N → k ≠ S → fl k = false → ¬ done L k → ¬ done L S := fun k hk hkS hfk hnk hdS => by
   obtain ⟨e,h1,h2,h3⟩ := hfl oS hoS' k hk hkS hfk
   exact hnk (h3 ▸ I.cl S oS hdS hoS' e h1 h2)
  by_cases hiS : i = S
  ·subst hiS
   have dC : done L C := by
    obtain ⟨e,h1,h2,h3⟩ := hfl o ho C hC hCS hflC
    exact h3 ▸ hdep e h1 h2
   obtain ⟨v1,v2⟩ := hvs C hC hCS dC
   have vC := v2 (I.no _ hlC)
   obtain ⟨b1,b2⟩ := I.box hnd
   refine hoS o ho a x (vs C) b1 b2 (eval_some v1) vC (fun j u hu hj => eval_some (by rw [I.kp j hj]; exact hu)) _ (fun x' q1 q2 q3 q4 => ⟨cl',no',I.df,I.sz,I.kp,⟨⟨fun k hk hne => (q1.1 k (Nat.lt_of_lt_of_le hk b1.size) hne).trans (I.sto.1.1 k hk hne),Nat.le_trans b1.size q1.2⟩,fun B hB => q2 B W hB (I.sto.2 B hB)⟩,⟨vs,fun k hk hkS hdn => ?_⟩,fun hn => absurd ((done_set hiL _).2 (Or.inl rfl)) hn,fun _ => ⟨vs C,v1,q3,?_⟩⟩)
   ·obtain ⟨w1,w2⟩ := hvs k hk hkS (dd hkS hdn)
    refine ⟨w1,fun hnl => ?_⟩
    rcases hlast k hk hkS with h5 | ⟨h5,h6,h7⟩
    ·exact q4 k _ hk hkS h5 (w2 (I.no _ h5))
    ·exfalso
     obtain ⟨e,g1,g2,g3⟩ := hfl o ho (last k) h5 h6 h7
     exact hnl (du (g3 ▸ hdep e g1 g2))
   ·exact q4 C _ hC hCS hlC vC
  ·have seen : SeenY i N S d last V base o a x := ⟨fun j u hj hu => eval_some (by rw [I.kp j hj]; exact hu),fun e he hb hS' hl => by
    obtain ⟨h1,h2⟩ := hvs e.on (by have := hon e he hb; omega) hS' (hdep e he hb)
    rw [eval_some h1]
    refine h2 ?_
    rcases hl with hl | hl
    ·rw [hl]; exact hnd
    ·exact I.no _ hl⟩
   refine hop i o hiN hiS ho a x (fun hfi => I.box (early i hiN hiS hfi hnd)) seen _ (fun v x' hpv hb => ?_)
   have self : (a.put (some (d i)) v).tmps[d i]? = some v := by
    have h5 : d i < a.tmps.size := by rw [I.sz]; exact hs i hiN hiS
    simp [Act.put,h5]
   have keep : ∀ k,k < N → k ≠ S → k ≠ i → (a.put (some (d i)) v).tmps[d k]? = a.tmps[d k]? := fun k hk hkS hki => get_put _ _ _ _ (fun e => hki (hinj _ _ hk hiN hkS hiS e))
   refine ⟨cl',no',I.df,by rw [size_put]; exact I.sz,fun j hj => ?_,I.sto.grow hbl hb,⟨fun k => if k = i then v else vs k,fun k hk hkS hdn => ?_⟩,fun h2 => ?_,fun h1 => ?_⟩
   ·rw [get_put _ _ _ _ (fun e => hj i hiN e.symm)]
    exact I.kp j hj
   ·by_cases e : k = i
    ·subst e
     simp only [if_true]
     exact ⟨self,fun _ => hpv⟩
    ·simp only [if_neg e]
     obtain ⟨h3,h4⟩ := hvs k hk hkS (dd e hdn)
     exact ⟨by rw [keep k hk hkS e]; exact h3,fun h6 => hV k _ _ _ hk (h4 (fun h => h6 (du h))) hb⟩
   ·obtain ⟨b1,b2⟩ := I.box (fun h => h2 (du h))
    exact ⟨b1.trans (hb.mono b1.size),b2.on hb⟩
   ·have h2 := dd (Ne.symm hiS) h1
    obtain ⟨u,h6,h8,h9⟩ := I.fin h2
    obtain ⟨ec,k4,k5,k6⟩ := hfl oS hoS' C hC hCS hflC
    have dC := I.cl S oS h2 hoS' ec k4 k5
    rw [k6] at dC
    have eC : C ≠ i := fun e => hnd (e ▸ dC)
    exact ⟨u,by rw [keep C hC hCS eC]; exact h6,h8.on hb,hV C _ _ _ hC h9 hb⟩
 ·intro L a x I hd
  have dS := hd S (by omega)
  obtain ⟨v,h2,h4,h5⟩ := I.fin dS
  obtain ⟨vs,hvs⟩ := I.val
  exact hend a x v I.df I.sz I.kp h2 h4 h5 I.sto ⟨vs,fun i hi hiS => by
   obtain ⟨k1,k2⟩ := hvs i hi hiS (hd i (by omega))
   exact ⟨k1,fun hl => k2 (I.no _ hl)⟩⟩
end Go.Proofs.YtncogjpmboglhaaGreat.Rg
