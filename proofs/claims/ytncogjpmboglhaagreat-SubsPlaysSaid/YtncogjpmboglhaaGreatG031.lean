/-
  Take of package subs: a broker without an entry, and those that are pu. Conditions as told.
-/
import Derived.Test.YtncogjpmboglhaaGreatG028
import Derived.Test.YtncogjpmboglhaaGreatG029
import Derived.Test.YtncogjpmboglhaaGreatG023
import Derived.Test.YtncogjpmboglhaaGreatG030
import Derived.Test.YtncogjpmboglhaaGreatG006
set_option maxRecDepth 100000
set_option maxHeartbeats 64000000
namespace Go.Proofs.YtncogjpmboglhaaGreat.Sb
open Go.RowKit Go.Sort Rw YtncogjpmboglhaaGreat.Nm Pr Bk Av Rl
theorem cut_sub {α : Type} (l : List α) (k : Nat) : (cutAt l k).Sublist l := by
 unfold cutAt
 conv => rhs; rw [← List.take_append_drop k l]
 exact (List.Sublist.refl _).append (List.drop_sublist_drop_left l (Nat.le_succ k))
theorem mem_cut {α : Type} {l : List α} {k : Nat} {x : α} (h : x ∈ cutAt l k) : x ∈ l := (cut_sub l k).subset h
def takeF (b : Br) (t s : XID) (f : Int) : Br × List En × Bool := match findE b.ent t s with
 | none => (b,[],false)
 | some e => if e.from_ ≠ f then (b,[],false) else if e.up = false then ({ b with ent := cutAt b.ent (placeP (b.ent.map keyE) (t,s)) },[],false) else
  ({ b with ent := (cutAt b.ent (placeP (b.ent.map keyE) (t,s))).take (fromT (cutAt b.ent (placeP (b.ent.map keyE) (t,s))) t) ++ (raiseK (brE (cutAt b.ent (placeP (b.ent.map keyE) (t,s))) t) (brE (cutAt b.ent (placeP (b.ent.map keyE) (t,s))) t).length).1 ++ (cutAt b.ent (placeP (b.ent.map keyE) (t,s))).drop (fromT (cutAt b.ent (placeP (b.ent.map keyE) (t,s))) t + (brE (cutAt b.ent (placeP (b.ent.map keyE) (t,s))) t).length) },(raiseK (brE (cutAt b.ent (placeP (b.ent.map keyE) (t,s))) t) (brE (cutAt b.ent (placeP (b.ent.map keyE) (t,s))) t).length).2,true)
theorem take_br {m : List En} (hr : RiseE m) (t : XID) : takeK t m m.length = (m.take (fromT m t) ++ (raiseK (brE m t) (brE m t).length).1 ++ m.drop (fromT m t + (brE m t).length),(raiseK (brE m t) (brE m t).length).2) := by
 obtain ⟨c,h1,h0,h2,h3,h4⟩ := br_split hr t
 have h := take_raise h2 h3 h4
 rw [← h1] at h
 rw [h]
 have e : m.drop (fromT m t + (brE m t).length) = c := by
  conv => lhs; arg 2; rw [h1]
  rw [List.drop_left' (by rw [List.length_append,h0])]
 rw [e]
theorem takeF_eq {b : Br} (hr : RiseE b.ent) {t s : XID} {f : Int} : takeF b t s f = takeB b t s f := by
 unfold takeF takeB
 have ft := find_there hr t s
 rw [ft]
 cases ht : thereE b.ent t s with
 | false =>
  rw [find_not ht]
  simp only [Bool.false_eq_true,if_false]
  cases b.ent[(-1 : Int).toNat]? <;> rfl
 | true =>
  obtain ⟨e,h1,h2,h3⟩ := find_some ht
  rw [h3]
  simp only [if_true]
  rw [Int.toNat_natCast,h1]
  simp only
  rw [if_neg (show ¬ ((placeP (b.ent.map keyE) (t,s) : Int) = -1) by omega)]
  have hr2 : RiseE (cutAt b.ent (placeP (b.ent.map keyE) (t,s))) := hr.sublist (cut_sub _ _)
  generalize cutAt b.ent (placeP (b.ent.map keyE) (t,s)) = m at *
  rw [take_br hr2]
def TakeQ (w : World) (P : Prop) (r : Br × List En × Bool) (e : Ending) (w' : World) : Prop := (∃ (nv av sv ev ov uv : Sl) (lu : List XEn),e = .returned (.tuple #[brv r.1.me nv av sv ev ov,slv uv,.bool r.2.2]) ∧ BrIn w' r.1 nv av sv ev ov ∧ RowN w' (slv uv) lu ∧ All2 (EnIn w') lu r.2.1 ∧ (P → NearOwn w' nv r.1.near)) ∧ Below w.heap.size w w'
theorem stake_any (b : Br) (nv av sv ev ov : Sl) (t s : XID) (f : Int) (w : World) (h : BrIn w b nv av sv ev ov) (hf : Few b) (hp : FewP b) (hr : RiseE b.ent) (hok : ∀ e ∈ b.ent,PredOk e.p) :
  Calls Tryz.prog 18 #[brv b.me nv av sv ev ov,idv t,idv s,.int .i64 f] w (TakeQ w (NearOwn w nv b.near) (takeB b t s f)) := by
 obtain ⟨no,nn,nc⟩ := nv
 obtain ⟨ao,an,ac⟩ := av
 obtain ⟨so,sn,sc⟩ := sv
 obtain ⟨eo,en,ec⟩ := ev
 obtain ⟨oo,on_,oc⟩ := ov
 obtain ⟨c,d⟩ := t
 obtain ⟨g0,h0⟩ := s
 obtain ⟨n0,X,Y,Z,V⟩ := four_new w #[.int .i64 b.me,.slice no nn nc,.slice ao an ac,.slice so sn sc,.slice eo en ec,.slice oo on_ oc] #[.int .i64 c,.int .i64 d] #[.int .i64 g0,.int .i64 h0] #[.int .i64 0,.slice none 0 0,.slice none 0 0,.slice none 0 0,.slice none 0 0,.slice none 0 0] 31 38 38 31
 have BB := Lib.hid n0
 have X1 := Lib.hid X
 have X2 := Lib.hid Y
 have X4 := Lib.hid V
 have HH := Lib.hid h
 have HF := Lib.hid hf
 have HP := Lib.hid hp
 have HR := Lib.hid hr
 have OK := Lib.hid hok
 have x4 := X.cell 4
 simp only [List.getElem?_toArray,List.getElem?_cons_zero,List.getElem?_cons_succ] at x4
 obtain ⟨y0,y1⟩ := Y.cs2
 obtain ⟨z0,z1⟩ := Z.cs2
 obtain ⟨les,hs1,hs2⟩ := h.ent
 have LS1 := Lib.hid (hs1.on n0)
 have LS2 := Lib.hid (hs2.mono fun _ _ q => q.on n0)
 have PL := Lib.hid (place_any (eo,en,ec) les b.ent (c,d) (g0,h0) _ LS1.out LS2.out hr (by rw [hs2.len]; have := hf.ent; omega))
 have hn := sl_len hs1
 have HN := Lib.hid hn
 obtain ⟨k,hk⟩ : ∃ k,placeP (b.ent.map keyE) ((c,d),(g0,h0)) = k := ⟨_,rfl⟩
 obtain ⟨th,hth⟩ : ∃ k,thereE b.ent (c,d) (g0,h0) = k := ⟨_,rfl⟩
 rw [hk,hth] at PL
 have HK := Lib.hid hk
 clear n0 X Y Z V h hf hp hr hok hs1 hs2 hn hk
 go_enter Tryz.func18,Tryz.ntmps18
 go_wp2_with fail
 generalize (((w.alloc (.cells #[.int .i64 b.me,.slice no nn nc,.slice ao an ac,.slice so sn sc,.slice eo en ec,.slice oo on_ oc] 31)).alloc (.cells #[.int .i64 c,.int .i64 d] 38)).alloc (.cells #[.int .i64 g0,.int .i64 h0] 38)).alloc (.cells #[.int .i64 0,.slice none 0 0,.slice none 0 0,.slice none 0 0,.slice none 0 0,.slice none 0 0] 31) = W at *
 refine PL.out.mono ?_
 rintro e1 w1 ⟨rfl,hb⟩
 have BW := Lib.hid (BB.out.trans (hb.mono BB.out.size))
 have T1 := Lib.hid (X1.out.on hb)
 have T2 := Lib.hid (X2.out.on hb)
 have T4 := Lib.hid (X4.out.on hb)
 have HB := Lib.hid hb
 clear x4 y0 y1 z0 z1 PL hb X1 X2 X4
 cases th
 ·have LQ := Lib.hid (show takeB b (c,d) (g0,h0) f = (b,[],false) from by
   rw [← takeF_eq HR.out]
   unfold takeF
   rw [find_not hth])
  have Q1 := T1.out
  have Q3 := T4.out
  obtain ⟨x0,x1,x2,x3,x4,x5⟩ := Q1.cs6
  obtain ⟨z0,z1,z2,z3,z4,z5⟩ := Q3.cs6
  obtain ⟨zf0,zf1,zf2,zf3,zf4,zf5⟩ := Q3.fs6
  have zlt := Q3.lt
  have FB := Lib.hid (setB_box Q3 (.int .i64 b.me) (.slice no nn nc) (.slice ao an ac) (.slice so sn sc) (.slice eo en ec) (.slice oo on_ oc))
  have FL := Lib.hid (setB_below (b := w.heap.size + 1 + 1 + 1) BW.out (by omega) (.int .i64 b.me) (.slice no nn nc) (.slice ao an ac) (.slice so sn sc) (.slice eo en ec) (.slice oo on_ oc))
  clear Q1 Q3
  go_wp2_with fail
  clear z0 z1 z2 z3 z4 z5
  obtain ⟨v0,v1,v2,v3,v4,v5⟩ := FB.out.cs6
  refine bodyPost_ret (v := .tuple #[.agg #[.int .i64 b.me,.slice no nn nc,.slice ao an ac,.slice so sn sc,.slice eo en ec,.slice oo on_ oc],.slice none 0 0,.bool false]) (by simp [results,Tryz.results18,go_sem,v0,v1,v2,v3,v4,v5]) rfl ?_
  rw [LQ.out]
  exact ⟨⟨(no,nn,nc),(ao,an,ac),(so,sn,sc),(eo,en,ec),(oo,on_,oc),(none,0,0),[],rfl,HH.out.on FL.out,row_nil _,.nil,fun h => h.on FL.out⟩,FL.out⟩
 ·obtain ⟨e,he,hke,hfe⟩ := find_some hth
  rw [HK.out] at he
  have hkm := (List.getElem?_eq_some_iff.1 he).1
  have hkn : k < en := by rw [← HN.out,LS2.out.len]; exact hkm
  obtain ⟨y,hy,hx⟩ := LS2.out.at k e he
  obtain ⟨p,ix,px⟩ := elN LS1.out rfl HN.out hy
  obtain ⟨i0,i1,i2,i3,i4,i5,i6⟩ := px w1 HB.out
  obtain ⟨y1,y2,y3,y4,⟨yo,yn,yc⟩,y6,y7⟩ := y
  simp only at i0 i1 i2 i3 i4 i5 i6
  have FE := Lib.hid hfe
  have EF := Lib.hid (show e.from_ = y6 from hx.2.2.1.symm)
  have EU := Lib.hid (show e.up = y7 from hx.2.2.2.1.symm)
  have x4 := T1.out.cell 4
  simp only [List.getElem?_toArray,List.getElem?_cons_zero,List.getElem?_cons_succ] at x4
  clear px hy hx he hke hfe hth i0 i1 i2 i3 i4
  by_cases hyf : y6 = f
  ·have hne : (y6 != f) = false := by simp [hyf]
   have YF := Lib.hid hyf
   have T1_ := T1.out
   clear hyf x4
   obtain ⟨x0,x1,x2,x3,x4,x5⟩ := T1_.cs6
   clear T1_
   go_wp2_with fail
   refine (acopy_any b (no,nn,nc) (ao,an,ac) (so,sn,sc) (eo,en,ec) (oo,on_,oc) w w1 BW.out HH.out HF.out HP.out).mono ?_
   rintro e2 w2 ⟨⟨⟨p1,q1,s1⟩,⟨p2,q2,s2⟩,⟨p3,q3,s3⟩,⟨p4,q4,s4⟩,⟨p5,q5,s5⟩,rfl,cp⟩,hb2⟩
   clear x0 x1 x2 x3 x4 x5
   clear ix i5 i6 hne
   have V4 := T4.out.on hb2
   obtain ⟨z0,z1,z2,z3,z4,z5⟩ := V4.cs6
   obtain ⟨zf0,zf1,zf2,zf3,zf4,zf5⟩ := V4.fs6
   have zlt := V4.lt
   have bs := but_setB w2 (w.heap.size + 1 + 1 + 1) (.int .i64 b.me) (.slice p1 q1 s1) (.slice p2 q2 s2) (.slice p3 q3 s3) (.slice p4 q4 s4) (.slice p5 q5 s5)
   have FB := Lib.hid (setB_box V4 (.int .i64 b.me) (.slice p1 q1 s1) (.slice p2 q2 s2) (.slice p3 q3 s3) (.slice p4 q4 s4) (.slice p5 q5 s5))
   have FC := Lib.hid (cp.but bs V4)
   have FL := Lib.hid (setB_below (b := w.heap.size + 1 + 1 + 1) (BW.out.trans (hb2.mono BW.out.size)) (by omega) (.int .i64 b.me) (.slice p1 q1 s1) (.slice p2 q2 s2) (.slice p3 q3 s3) (.slice p4 q4 s4) (.slice p5 q5 s5))
   have F2 := Lib.hid (bs.box (T2.out.on hb2) (by omega))
   have L1 := Lib.hid (show w.heap.size + 1 + 1 + 1 < w1.heap.size from T4.out.lt)
   clear V4 bs cp hb2 T1 T2 T4 HB
   go_upto_region 6 with fail
   clear z0 z1 z2 z3 z4 z5 zf0 zf1 zf2 zf3 zf4 zf5 zlt
   unfold setB at FB FC FL F2
   generalize ((((((w2).setCell ⟨w.heap.size + 1 + 1 + 1,0,none⟩ (.int .i64 b.me)).setCell ⟨w.heap.size + 1 + 1 + 1,1,none⟩ (.slice p1 q1 s1)).setCell ⟨w.heap.size + 1 + 1 + 1,2,none⟩ (.slice p2 q2 s2)).setCell ⟨w.heap.size + 1 + 1 + 1,3,none⟩ (.slice p3 q3 s3)).setCell ⟨w.heap.size + 1 + 1 + 1,4,none⟩ (.slice p4 q4 s4)).setCell ⟨w.heap.size + 1 + 1 + 1,5,none⟩ (.slice p5 q5 s5) = w3 at *
   obtain ⟨le,hle1,hle2⟩ := FC.out.ent
   have hq4 : le.length = q4 := sl_len (Row.of_own hle1)
   have hlm : le.length = b.ent.length := hle2.len
   obtain ⟨g,rfl,hBg⟩ : ∃ g,p4 = some ⟨g,0,none⟩ ∧ w1.heap.size ≤ g := own_some hle1 (show 0 < q4 by omega)
   have KQ := Lib.hid (show k < q4 by omega)
   have DE := Lib.hid (del_any w1.heap.size g q4 s4 k le w3 hle1 (by omega) (by have := HF.out.ent; omega))
   have HL1 := Lib.hid hle1
   have HL2 := Lib.hid hle2
   have BG := Lib.hid hBg
   have N9 := Lib.hid (show q4 ≤ 900 by have := HF.out.ent; omega)
   have x4 := FB.out.cell 4
   simp only [List.getElem?_toArray,List.getElem?_cons_zero,List.getElem?_cons_succ] at x4
   have hw3 : IntKind.i64.wrap ((k : Int) + 1) = (k : Int) + 1 := IntWalk.i64_in _ (by have := HF.out.ent; omega)
   clear hle1 hle2 hq4 hlm hBg
   go_wp2_with fail
   refine DE.out.mono ?_
   rintro e4 w4 ⟨rfl,hown,hbut,hlow⟩
   have hoff : Off (slv (some ⟨g,0,none⟩,q4,s4)).ownBlock w3 w4 := ⟨fun j hj hne => hbut.1 j hj fun e => hne (by rw [e]; rfl),hbut.2⟩
   have TG := tag_own HL1.out
   have CP := Lib.hid (FC.out.offN (ev' := (some ⟨g,0,none⟩,q4 - 1,s4)) (el := cutAt b.ent k) hoff ⟨cutAt le k,hown,(fun {h} => ((h : All2 _ le b.ent).take k).append (h.drop (k + 1))) (h := HL2.out.mono fun _ _ q => q.off hoff TG (by decide))⟩)
   have G8 := hbut.box FB.out (show w.heap.size + 1 + 1 + 1 ≠ g by have := BG.out; have := L1.out; omega)
   have G2 := hbut.box F2.out (show w.heap.size + 1 ≠ g by have := BG.out; have := L1.out; omega)
   have BL := hlow w.heap.size w (by have := BG.out; have := L1.out; omega) FL.out
   clear x4 hw3
   have x4 := G8.cell 4
   have xf4 := G8.fr 4
   have xlt := G8.lt
   simp only [List.getElem?_toArray,List.getElem?_cons_zero,List.getElem?_cons_succ] at x4
   have bs := but_cell w4 (w.heap.size + 1 + 1 + 1) 4 (.slice (some ⟨g,0,none⟩) (q4 - 1) s4)
   have CP5 := Lib.hid (CP.out.but bs G8)
   have G25 := Lib.hid (bs.box G2 (by omega))
   have BL5 := Lib.hid (BL.setCell (p := ⟨w.heap.size + 1 + 1 + 1,4,none⟩) (show w.heap.size ≤ w.heap.size + 1 + 1 + 1 by omega) (.slice (some ⟨g,0,none⟩) (q4 - 1) s4))
   have G85 := Lib.hid (show Box (w4.setCell ⟨w.heap.size + 1 + 1 + 1,4,none⟩ (.slice (some ⟨g,0,none⟩) (q4 - 1) s4)) (w.heap.size + 1 + 1 + 1) #[.int .i64 b.me,.slice p1 q1 s1,.slice p2 q2 s2,.slice p3 q3 s3,.slice (some ⟨g,0,none⟩) (q4 - 1) s4,.slice p5 q5 s5] 31 by simpa using box_set (k := 4) G8 (.slice (some ⟨g,0,none⟩) (q4 - 1) s4))
   have S5 := Lib.hid (show w1.heap.size ≤ (w4.setCell ⟨w.heap.size + 1 + 1 + 1,4,none⟩ (.slice (some ⟨g,0,none⟩) (q4 - 1) s4)).heap.size by have := hbut.2; have h2 := FL.out.size; obtain ⟨cur,hg⟩ := own_tag hown; have := hg.lt; have := BG.out; simp; omega)
   clear hown hbut hlow hoff TG CP G8 G2 BL bs FB FC FL F2 HL1 HL2 DE le
   go_upto_region 7 with fail
   clear x4 xf4 xlt
   generalize w4.setCell ⟨w.heap.size + 1 + 1 + 1,4,none⟩ (.slice (some ⟨g,0,none⟩) (q4 - 1) s4) = w5 at *
   obtain ⟨n4,hn4⟩ : ∃ n,n = q4 - 1 := ⟨_,rfl⟩
   rw [← hn4] at G85 CP5 ⊢
   have NN := Lib.hid hn4
   clear hn4
   cases y7
   ·have LQ := Lib.hid (show takeB b (c,d) (g0,h0) f = ({ b with ent := cutAt b.ent k },[],false) from by
     rw [← takeF_eq HR.out]
     unfold takeF
     rw [FE.out]
     simp only
     rw [if_neg (by rw [EF.out]; simpa using YF.out),if_pos EU.out,HK.out])
    have G8 := Lib.hid G85.out
    have BQ := Lib.hid BL5.out
    clear G85 BL5 S5
    generalize w5 = wq at *
    have Q3 := G8.out
    obtain ⟨z0,z1,z2,z3,z4,z5⟩ := Q3.cs6
    obtain ⟨zf0,zf1,zf2,zf3,zf4,zf5⟩ := Q3.fs6
    have zlt := Q3.lt
    have bs := but_setB wq (w.heap.size + 1 + 1 + 1) (.int .i64 b.me) (.slice p1 q1 s1) (.slice p2 q2 s2) (.slice p3 q3 s3) (.slice (some ⟨g,0,none⟩) n4 s4) (.slice p5 q5 s5)
    have FB := Lib.hid (setB_box Q3 (.int .i64 b.me) (.slice p1 q1 s1) (.slice p2 q2 s2) (.slice p3 q3 s3) (.slice (some ⟨g,0,none⟩) n4 s4) (.slice p5 q5 s5))
    have FC := Lib.hid (CP5.out.but bs Q3)
    have FL := Lib.hid (setB_below (b := w.heap.size + 1 + 1 + 1) BQ.out (by omega) (.int .i64 b.me) (.slice p1 q1 s1) (.slice p2 q2 s2) (.slice p3 q3 s3) (.slice (some ⟨g,0,none⟩) n4 s4) (.slice p5 q5 s5))
    clear Q3 bs
    go_wp2_with fail
    clear z0 z1 z2 z3 z4 z5
    obtain ⟨v0,v1,v2,v3,v4,v5⟩ := FB.out.cs6
    refine bodyPost_ret (v := .tuple #[.agg #[.int .i64 b.me,.slice p1 q1 s1,.slice p2 q2 s2,.slice p3 q3 s3,.slice (some ⟨g,0,none⟩) n4 s4,.slice p5 q5 s5],.slice none 0 0,.bool false]) (by simp [results,Tryz.results18,go_sem,v0,v1,v2,v3,v4,v5]) rfl ?_
    rw [LQ.out]
    exact ⟨⟨(p1,q1,s1),(p2,q2,s2),(p3,q3,s3),(some ⟨g,0,none⟩,n4,s4),(p5,q5,s5),(none,0,0),[],rfl,FC.out.br FL.out,row_nil _,.nil,fun _ => ⟨_,FC.out.near⟩⟩,FL.out⟩
   ·obtain ⟨m,hm⟩ : ∃ m,cutAt b.ent k = m := ⟨_,rfl⟩
    rw [hm] at CP5
    have RM := Lib.hid (show RiseE m by rw [← hm]; exact HR.out.sublist (cut_sub _ _))
    have OM := Lib.hid (show ∀ e ∈ m,PredOk e.p by rw [← hm]; exact fun e he => OK.out e (mem_cut he))
    have LQ := Lib.hid (show takeB b (c,d) (g0,h0) f = ({ b with ent := m.take (fromT m (c,d)) ++ (raiseK (brE m (c,d)) (brE m (c,d)).length).1 ++ m.drop (fromT m (c,d) + (brE m (c,d)).length) },(raiseK (brE m (c,d)) (brE m (c,d)).length).2,true) from by
     rw [← takeF_eq HR.out]
     unfold takeF
     rw [FE.out]
     simp only
     rw [if_neg (by rw [EF.out]; simpa using YF.out),if_neg (by rw [EU.out]; simp),HK.out,hm])
    have LM := Lib.hid (show m.length = n4 by rw [← hm]; obtain ⟨l,h1,h2⟩ := CP5.out.ent; rw [hm,← h2.len]; exact sl_len (Row.of_own h1))
    clear hm
    obtain ⟨l5,hl1,hl2⟩ := CP5.out.ent
    replace hl2 : All2 (EnM w w1.heap.size w5) l5 m := hl2
    replace hl1 : OwnN w5 w1.heap.size (.slice (some ⟨g,0,none⟩) n4 s4) l5 := hl1
    have hin : All2 (EnIn w5) l5 m := hl2.mono fun _ _ q => enm_in q (BL5.out)
    have hfk := fromT_len m (c,d)
    have h9 := N9.out
    have hnn := NN.out
    have hlm := LM.out
    have hll : l5.length = m.length := hl2.len
    have hcap : n4 ≤ s4 := by
     rcases own_open hl1 with ⟨h1,_⟩ | ⟨g',cap',cur,h1,_,_,h4,_⟩
     ·cases h1
     ·obtain ⟨_,_,rfl⟩ : g = g' ∧ n4 = l5.length ∧ s4 = cap' := by simpa using h1
      omega
    have BR_ := Lib.hid (branch_any (some ⟨g,0,none⟩,n4,s4) l5 m (c,d) w5 (Row.of_own hl1) hin RM.out (by omega))
    have eb : (m.drop (fromT m (c,d))).take (brE m (c,d)).length = brE m (c,d) := by
     unfold brE
     conv => lhs; arg 2; rw [← List.takeWhile_append_dropWhile (p := fun e : En => decide (e.tree = (c,d))) (l := m.drop (fromT m (c,d)))]
     rw [List.take_left]
    have RA := Lib.hid (fun (w6 : World) (hb : Below w5.heap.size w5 w6) (ra : Option Addr) (rc : Nat) hra => raise_any w w1.heap.size g n4 s4 (fromT m (c,d)) (brE m (c,d)).length ra rc l5 m w6 (BL5.out.trans (hb.mono BL5.out.size)) BW.out.size (Bk.own_on hl1 hb) (hl2.mono fun _ _ q => q.grow hb) (by omega) (by omega) hra OM.out)
    rw [eb] at RA
    generalize hf5 : fromT m (c,d) = f5 at *
    generalize hb5 : brE m (c,d) = bm at *
    have HC := Lib.hid hcap
    have HFK := Lib.hid hfk
    clear hl1 hl2 hin h9 hnn hlm hll hfk eb hf5 hb5 hcap
    have x4 := G85.out.cell 4
    simp only [List.getElem?_toArray,List.getElem?_cons_zero,List.getElem?_cons_succ] at x4
    have y1 := G25.out.cell 1
    have y0 := G25.out.cell 0
    simp only [List.getElem?_toArray,List.getElem?_cons_zero,List.getElem?_cons_succ] at y0 y1
    unfold cutV at BR_
    simp only at BR_
    obtain ⟨ra,hra⟩ : ∃ x,(if s4 = f5 then (⟨g,0,none⟩ : Addr) else (⟨g,0,none⟩ : Addr).add (f5 * 7)) = x := ⟨_,rfl⟩
    rw [hra] at BR_
    have HRA := Lib.hid hra
    clear hra
    go_wp2_with fail
    refine BR_.out.mono ?_
    rintro e6 w6 ⟨rfl,hb⟩
    have RB := RA.out w6 hb (some ra) (s4 - f5) (fun hK => ⟨by rw [← HRA.out,if_neg (by have := HC.out; have := HFK.out; have := LM.out; omega),add_own],rfl⟩)
    have H6 := Lib.hid hb
    have C6 := Lib.hid (CP5.out.grow hb)
    have G86 := Lib.hid (G85.out.on hb)
    have BL6 := Lib.hid (BL5.out.trans (hb.mono BL5.out.size))
    clear x4 y0 y1 hb BR_ RA
    go_wp2_with fail
    refine RB.mono ?_
    rintro e7 wq ⟨⟨vo1,vo2,vo3⟩,rfl,hRa⟩
    obtain ⟨⟨lq,hq1,hq2⟩,⟨lu,hu1,hu2⟩,hbut,hlow⟩ := hRa
    have hoff : Off (slv (some ⟨g,0,none⟩,n4,s4)).ownBlock w6 wq := ⟨fun j hj hne => hbut.1 j hj fun e => hne (by rw [e]; rfl),hbut.2⟩
    have CQ := Lib.hid (C6.out.offN (ev' := (some ⟨g,0,none⟩,n4,s4)) hoff ⟨lq,hq1,hq2⟩)
    have G8 := Lib.hid (hbut.box G86.out (show w.heap.size + 1 + 1 + 1 ≠ g by have := BG.out; have := L1.out; omega))
    have BQ := Lib.hid (hlow w.heap.size w (by have := BG.out; have := L1.out; omega) BL6.out)
    have UP1 := Lib.hid hu1
    have UP2 := Lib.hid hu2
    clear hq1 hq2 hu1 hu2 hbut hlow hoff RB C6 G86 BL6 G85 CP5 BL5 H6
    have Q3 := G8.out
    obtain ⟨z0,z1,z2,z3,z4,z5⟩ := Q3.cs6
    obtain ⟨zf0,zf1,zf2,zf3,zf4,zf5⟩ := Q3.fs6
    have zlt := Q3.lt
    have bs := but_setB wq (w.heap.size + 1 + 1 + 1) (.int .i64 b.me) (.slice p1 q1 s1) (.slice p2 q2 s2) (.slice p3 q3 s3) (.slice (some ⟨g,0,none⟩) n4 s4) (.slice p5 q5 s5)
    have FB := Lib.hid (setB_box Q3 (.int .i64 b.me) (.slice p1 q1 s1) (.slice p2 q2 s2) (.slice p3 q3 s3) (.slice (some ⟨g,0,none⟩) n4 s4) (.slice p5 q5 s5))
    have FC := Lib.hid (CQ.out.but bs Q3)
    have FL := Lib.hid (setB_below (b := w.heap.size + 1 + 1 + 1) BQ.out (by omega) (.int .i64 b.me) (.slice p1 q1 s1) (.slice p2 q2 s2) (.slice p3 q3 s3) (.slice (some ⟨g,0,none⟩) n4 s4) (.slice p5 q5 s5))
    have FU := Lib.hid (bs.own UP1.out Q3 (by decide))
    have FV := Lib.hid (UP2.out.mono fun _ _ q => EnM.but q bs Q3 (by decide))
    clear Q3 bs
    go_wp2_with fail
    clear z0 z1 z2 z3 z4 z5
    obtain ⟨v0,v1,v2,v3,v4,v5⟩ := FB.out.cs6
    refine bodyPost_ret (v := .tuple #[.agg #[.int .i64 b.me,.slice p1 q1 s1,.slice p2 q2 s2,.slice p3 q3 s3,.slice (some ⟨g,0,none⟩) n4 s4,.slice p5 q5 s5],.slice vo1 vo2 vo3,.bool true]) (by simp [results,Tryz.results18,go_sem,v0,v1,v2,v3,v4,v5]) rfl ?_
    rw [LQ.out]
    exact ⟨⟨(p1,q1,s1),(p2,q2,s2),(p3,q3,s3),(some ⟨g,0,none⟩,n4,s4),(p5,q5,s5),(vo1,vo2,vo3),lu,rfl,FC.out.br FL.out,Row.of_own FU.out,FV.out.mono fun _ _ q => enm_in q FL.out,fun _ => ⟨_,FC.out.near⟩⟩,FL.out⟩
  ·have hne : (y6 != f) = true := by simp [hyf]
   have YF := Lib.hid hyf
   clear hyf x4
   have LQ := Lib.hid (show takeB b (c,d) (g0,h0) f = (b,[],false) from by
    rw [← takeF_eq HR.out]
    unfold takeF
    rw [FE.out]
    simp only
    rw [if_pos (by rw [EF.out]; exact YF.out)])
   have Q1 := T1.out
   have Q3 := T4.out
   obtain ⟨x0,x1,x2,x3,x4,x5⟩ := Q1.cs6
   obtain ⟨z0,z1,z2,z3,z4,z5⟩ := Q3.cs6
   obtain ⟨zf0,zf1,zf2,zf3,zf4,zf5⟩ := Q3.fs6
   have zlt := Q3.lt
   have FB := Lib.hid (setB_box Q3 (.int .i64 b.me) (.slice no nn nc) (.slice ao an ac) (.slice so sn sc) (.slice eo en ec) (.slice oo on_ oc))
   have FL := Lib.hid (setB_below (b := w.heap.size + 1 + 1 + 1) BW.out (by omega) (.int .i64 b.me) (.slice no nn nc) (.slice ao an ac) (.slice so sn sc) (.slice eo en ec) (.slice oo on_ oc))
   clear Q1 Q3
   go_wp2_with fail
   clear z0 z1 z2 z3 z4 z5
   obtain ⟨v0,v1,v2,v3,v4,v5⟩ := FB.out.cs6
   refine bodyPost_ret (v := .tuple #[.agg #[.int .i64 b.me,.slice no nn nc,.slice ao an ac,.slice so sn sc,.slice eo en ec,.slice oo on_ oc],.slice none 0 0,.bool false]) (by simp [results,Tryz.results18,go_sem,v0,v1,v2,v3,v4,v5]) rfl ?_
   rw [LQ.out]
   exact ⟨⟨(no,nn,nc),(ao,an,ac),(so,sn,sc),(eo,en,ec),(oo,on_,oc),(none,0,0),[],rfl,HH.out.on FL.out,row_nil _,.nil,fun h => h.on FL.out⟩,FL.out⟩
theorem key_uniq {m : List En} (hr : RiseE m) {i j : Nat} {x y : En} (hx : m[i]? = some x) (hy : m[j]? = some y) (h : keyE x = keyE y) : i = j := by
 rcases Nat.lt_trichotomy i j with q | q | q
 ·have := (lessP_iff x y).2 (rise_less hr q hx hy)
  rw [h,lessP_irr] at this
  cases this
 ·exact q
 ·have := (lessP_iff y x).2 (rise_less hr q hy hx)
  rw [h,lessP_irr] at this
  cases this
theorem findE_mem {m : List En} (hr : RiseE m) {e : En} (he : e ∈ m) : findE m e.tree e.sub = some e ∧ thereE m e.tree e.sub = true := by
 have ft := find_there hr e.tree e.sub
 have hk : keyE e ∈ m.map keyE := List.mem_map.2 ⟨e,he,rfl⟩
 have ht : thereE m e.tree e.sub = true := by
  cases h : thereE m e.tree e.sub with
  | true => rfl
  | false =>
   rw [h,if_neg (by simp)] at ft
   rcases findK_or (m.map keyE) (keyE e) with q | ⟨k,q,r⟩
   ·exfalso
    obtain ⟨j,hj⟩ := List.mem_iff_getElem?.1 hk
    have : ∀ l : List (XID × XID),findK l (keyE e) = -1 → keyE e ∉ l := by
     intro l
     induction l with
     | nil => intro _ h; simp at h
     | cons a l ih =>
      intro h2 h3
      rw [findK] at h2
      split at h2
      ·cases h2
      ·rename_i hne
       split at h2
       ·rename_i h4
        rcases List.mem_cons.1 h3 with h5 | h5
        ·exact hne h5.symm
        ·exact ih h4 h5
       ·rename_i h4
        rcases findK_or l (keyE e) with h5 | ⟨k,h5,_⟩
        ·exact h4 h5
        ·rw [h5] at h2; omega
    exact this _ q hk
   ·rw [show findK (m.map keyE) (e.tree,e.sub) = findK (m.map keyE) (keyE e) from rfl,q] at ft
    omega
 obtain ⟨e',h1,h2,h3⟩ := find_some ht
 obtain ⟨j,hj⟩ := List.mem_iff_getElem?.1 he
 have hij := key_uniq hr h1 hj h2
 rw [hij,hj] at h1
 obtain rfl := Option.some.inj h1
 exact ⟨h3,ht⟩
theorem all2_len2 {α β : Type} {R : α → β → Prop} {l : List α} {m : List β} (h : All2 R l m) : l.length = m.length := h.len
theorem neq_self (x y : Operand) (c : Bool) (w : World) : (do eqGuard .neq 4 x y (.bool c) (.bool c); binOp .neq 4 (.bool c) (.bool c) : Sem Value).run Tryz.prog w = .ok (.bool false) w := by
 cases c <;> simp [go_sem]
def play12V (_B : Nat) (_bt _b3 _b4 : Nat) (b : Br) (s1 : Option Addr) (s2 s3 : Nat) (s4 : Option Addr) (s5 s6 : Nat) (s7 : Option Addr) (s8 s9 : Nat) (s10 : Option Addr) (s11 s12 : Nat) (s13 : Option Addr) (s14 s15 : Nat) (m1 : Option Addr) (m2 m3 : Nat) (m4 : Option Addr) (m5 m6 : Nat) (m7 : Option Addr) (m8 m9 : Nat) (m10 : Option Addr) (m11 m12 : Nat) (m13 : Option Addr) (m14 m15 : Nat) (t1 : Int) (p1 : Option Addr) (p2 p3 : Nat) (p : List C5) (i : Nat) (v : Value) (_x : World) : Prop :=
 match i with
 | 0 => v = brv b.me (s1,s2,s3) (s4,s5,s6) (s7,s8,s9) (s10,s11,s12) (s13,s14,s15)
 | 1 => v = .agg #[.int .i64 t1,.int .i64 0]
 | 2 => v = .slice p1 p2 p3
 | 3 => v = .bool (coveredE b.ent (t1,0) p)
 | 4 => v = brv b.me (m1,m2,m3) (m4,m5,m6) (m7,m8,m9) (m10,m11,m12) (m13,m14,m15)
 | 5 => v = .agg #[.int .i64 t1,.int .i64 0]
 | 6 => v = .slice p1 p2 p3
 | 7 => v = .bool (coveredE b.ent (t1,0) p)
 | 8 => v = .bool false
 | _ => True
noncomputable def play12C : Code := ((Tryz.f4.body.bind (findRegion 12)).getD .skip)
theorem play12 (Q : Exit → Act → World → Prop) (W : World) (bt b3 b4 : Nat) (b : Br) (s1 : Option Addr) (s2 s3 : Nat) (s4 : Option Addr) (s5 s6 : Nat) (s7 : Option Addr) (s8 s9 : Nat) (s10 : Option Addr) (s11 s12 : Nat) (s13 : Option Addr) (s14 s15 : Nat) (m1 : Option Addr) (m2 m3 : Nat) (m4 : Option Addr) (m5 m6 : Nat) (m7 : Option Addr) (m8 m9 : Nat) (m10 : Option Addr) (m11 m12 : Nat) (m13 : Option Addr) (m14 m15 : Nat) (t1 : Int) (p1 : Option Addr) (p2 p3 : Nat) (p : List C5) (u0 u1 u2 u5 u6 u8 u9 u11 u12 u13 u14 u15 u16 u17 u18 u19 u20 u21 u22 u23 u24 u25 u26 u27 u28 u29 u30 u31 u32 u33 u34 u35 u36 u37 u38 u39 u40 u41 u42 u43 u44 u45 u46 u47 u48 u49 u50 u51 u52 u53 u54 u55 u56 u57 u58 u59 u60 u61 u62 u63 u64 u65 u66 u67 u68 u69 u70 u71 u72 u73 u74 u75 u76 u77 u78 u79 u80 u81 u82 u83 u84 u85 u86 u87 u88 u89 u90 u91 u92 u93 u94 u95 u96 u97 u98 u99 u100 u101 u102 u103 u104 u105 u106 u107 u108 u109 u110 u111 u112 u113 u114 u115 u116 u117 u118 u119 u120 u121 u122 u123 u124 u125 u126 u127 u128 u129 u130 u131 u132 u133 u134 u135 u136 u137 u138 u139 u140 u141 u142 u143 u144 u145 u146 u147 u148 u149 u150 u151 u152 u153 u154 u155 u156 u157 u158 u159 u160 u161 u162 u163 u164 u165 u166 u167 u168 u169 u170 u171 u172 u173 u174 u175 u176 u177 u178 u179 u180 u181 u182 u183 u184 u185 u186 u187 u188 u189 u190 u191 u192 u193 u194 u195 u196 u197 u198 u199 u200 u201 u202 u203 u204 u205 u206 u207 u208 u209 u210 u211 u212 u213 u214 u215 u216 u217 u218 u219 u220 u221 u222 : Value)
  (xt : Box W bt #[.int .i64 t1,.int .i64 0] 38) (x3 : Box W b3 #[.int .i64 b.me,.slice s1 s2 s3,.slice s4 s5 s6,.slice s7 s8 s9,.slice s10 s11 s12,.slice s13 s14 s15] 31) (x4 : Box W b4 #[.int .i64 b.me,.slice m1 m2 m3,.slice m4 m5 m6,.slice m7 m8 m9,.slice m10 m11 m12,.slice m13 m14 m15] 31) (bn : BrIn W b (s1,s2,s3) (s4,s5,s6) (s7,s8,s9) (s10,s11,s12) (s13,s14,s15)) (bm : BrIn W b (m1,m2,m3) (m4,m5,m6) (m7,m8,m9) (m10,m11,m12) (m13,m14,m15)) (re : RiseE b.ent) (le : b.ent.length ≤ 1000) (ok : ∀ e ∈ b.ent,PredOk e.p) (op : PredOk p) (pr : RowC W (.slice p1 p2 p3) p)
  (hQ : ∀ (x : World) (v61 v62 v63 v64 v65 v66 v67 v68 : Value),Below W.heap.size W x → Q .normal ⟨(u0 :: u1 :: u2 :: .pointer (some ⟨b3,0,none⟩) :: .pointer (some ⟨b4,0,none⟩) :: u5 :: u6 :: .pointer (some ⟨bt,0,none⟩) :: u8 :: u9 :: .slice p1 p2 p3 :: u11 :: u12 :: u13 :: u14 :: u15 :: u16 :: u17 :: u18 :: u19 :: u20 :: u21 :: u22 :: u23 :: u24 :: u25 :: u26 :: u27 :: u28 :: u29 :: u30 :: u31 :: u32 :: u33 :: u34 :: u35 :: u36 :: u37 :: u38 :: u39 :: u40 :: u41 :: u42 :: u43 :: u44 :: u45 :: u46 :: u47 :: u48 :: u49 :: u50 :: u51 :: u52 :: u53 :: u54 :: u55 :: u56 :: u57 :: u58 :: u59 :: u60 :: v61 :: v62 :: v63 :: v64 :: v65 :: v66 :: v67 :: v68 :: .bool false :: u70 :: u71 :: u72 :: u73 :: u74 :: u75 :: u76 :: u77 :: u78 :: u79 :: u80 :: u81 :: u82 :: u83 :: u84 :: u85 :: u86 :: u87 :: u88 :: u89 :: u90 :: u91 :: u92 :: u93 :: u94 :: u95 :: u96 :: u97 :: u98 :: u99 :: u100 :: u101 :: u102 :: u103 :: u104 :: u105 :: u106 :: u107 :: u108 :: u109 :: u110 :: u111 :: u112 :: u113 :: u114 :: u115 :: u116 :: u117 :: u118 :: u119 :: u120 :: u121 :: u122 :: u123 :: u124 :: u125 :: u126 :: u127 :: u128 :: u129 :: u130 :: u131 :: u132 :: u133 :: u134 :: u135 :: u136 :: u137 :: u138 :: u139 :: u140 :: u141 :: u142 :: u143 :: u144 :: u145 :: u146 :: u147 :: u148 :: u149 :: u150 :: u151 :: u152 :: u153 :: u154 :: u155 :: u156 :: u157 :: u158 :: u159 :: u160 :: u161 :: u162 :: u163 :: u164 :: u165 :: u166 :: u167 :: u168 :: u169 :: u170 :: u171 :: u172 :: u173 :: u174 :: u175 :: u176 :: u177 :: u178 :: u179 :: u180 :: u181 :: u182 :: u183 :: u184 :: u185 :: u186 :: u187 :: u188 :: u189 :: u190 :: u191 :: u192 :: u193 :: u194 :: u195 :: u196 :: u197 :: u198 :: u199 :: u200 :: u201 :: u202 :: u203 :: u204 :: u205 :: u206 :: u207 :: u208 :: u209 :: u210 :: u211 :: u212 :: u213 :: u214 :: u215 :: u216 :: u217 :: u218 :: u219 :: u220 :: u221 :: u222 :: []).toArray,[]⟩ x) :
  Code.wp Tryz.prog play12C Q ⟨(u0 :: u1 :: u2 :: .pointer (some ⟨b3,0,none⟩) :: .pointer (some ⟨b4,0,none⟩) :: u5 :: u6 :: .pointer (some ⟨bt,0,none⟩) :: u8 :: u9 :: .slice p1 p2 p3 :: u11 :: u12 :: u13 :: u14 :: u15 :: u16 :: u17 :: u18 :: u19 :: u20 :: u21 :: u22 :: u23 :: u24 :: u25 :: u26 :: u27 :: u28 :: u29 :: u30 :: u31 :: u32 :: u33 :: u34 :: u35 :: u36 :: u37 :: u38 :: u39 :: u40 :: u41 :: u42 :: u43 :: u44 :: u45 :: u46 :: u47 :: u48 :: u49 :: u50 :: u51 :: u52 :: u53 :: u54 :: u55 :: u56 :: u57 :: u58 :: u59 :: u60 :: u61 :: u62 :: u63 :: u64 :: u65 :: u66 :: u67 :: u68 :: u69 :: u70 :: u71 :: u72 :: u73 :: u74 :: u75 :: u76 :: u77 :: u78 :: u79 :: u80 :: u81 :: u82 :: u83 :: u84 :: u85 :: u86 :: u87 :: u88 :: u89 :: u90 :: u91 :: u92 :: u93 :: u94 :: u95 :: u96 :: u97 :: u98 :: u99 :: u100 :: u101 :: u102 :: u103 :: u104 :: u105 :: u106 :: u107 :: u108 :: u109 :: u110 :: u111 :: u112 :: u113 :: u114 :: u115 :: u116 :: u117 :: u118 :: u119 :: u120 :: u121 :: u122 :: u123 :: u124 :: u125 :: u126 :: u127 :: u128 :: u129 :: u130 :: u131 :: u132 :: u133 :: u134 :: u135 :: u136 :: u137 :: u138 :: u139 :: u140 :: u141 :: u142 :: u143 :: u144 :: u145 :: u146 :: u147 :: u148 :: u149 :: u150 :: u151 :: u152 :: u153 :: u154 :: u155 :: u156 :: u157 :: u158 :: u159 :: u160 :: u161 :: u162 :: u163 :: u164 :: u165 :: u166 :: u167 :: u168 :: u169 :: u170 :: u171 :: u172 :: u173 :: u174 :: u175 :: u176 :: u177 :: u178 :: u179 :: u180 :: u181 :: u182 :: u183 :: u184 :: u185 :: u186 :: u187 :: u188 :: u189 :: u190 :: u191 :: u192 :: u193 :: u194 :: u195 :: u196 :: u197 :: u198 :: u199 :: u200 :: u201 :: u202 :: u203 :: u204 :: u205 :: u206 :: u207 :: u208 :: u209 :: u210 :: u211 :: u212 :: u213 :: u214 :: u215 :: u216 :: u217 :: u218 :: u219 :: u220 :: u221 :: u222 :: []).toArray,[]⟩ W := by
 have HQ := Lib.hid hQ
 have XT := Lib.hid xt
 have HB3 := Lib.hid x3
 have HB4 := Lib.hid x4
 have BN := Lib.hid bn
 have BM := Lib.hid bm
 have RE := Lib.hid re
 have LE := Lib.hid le
 have OK := Lib.hid ok
 have OP := Lib.hid op
 have PR := Lib.hid pr
 clear hQ xt x3 x4 bn bm re le ok op pr
 unfold play12C
 conv => arg 2; whnf
 have nd : ∀ j,(j < 61 ∨ 70 ≤ j) → ∀ i,i < 9 → (fun i => 61 + i) i ≠ j := by
  intro j hj i hi h
  simp only at h
  omega
 refine Rg.region_rel 9 (fun i => 61 + i) (play12V W.heap.size bt b3 b4 b s1 s2 s3 s4 s5 s6 s7 s8 s9 s10 s11 s12 s13 s14 s15 m1 m2 m3 m4 m5 m6 m7 m8 m9 m10 m11 m12 m13 m14 m15 t1 p1 p2 p3 p) (by kernel_rfl) (by kernel_rfl) rfl ?_ (fun i j _ _ h => by have h2 : 61 + i = 61 + j := h; omega) (fun i hi => by show 61 + i < 223; omega) ?_ ?_ ?_
 ·intro i o ho
  have hi : i < 9 := (List.getElem?_eq_some_iff.1 ho).1
  rcases (by omega : i = 0 ∨ i = 1 ∨ i = 2 ∨ i = 3 ∨ i = 4 ∨ i = 5 ∨ i = 6 ∨ i = 7 ∨ i = 8) with rfl | rfl | rfl | rfl | rfl | rfl | rfl | rfl | rfl
  all_goals (obtain rfl := Option.some.inj ho; rfl)
 ·intro i v x x' h hb
  by_cases hi : i < 9
  ·rcases (by omega : i = 0 ∨ i = 1 ∨ i = 2 ∨ i = 3 ∨ i = 4 ∨ i = 5 ∨ i = 6 ∨ i = 7 ∨ i = 8) with rfl | rfl | rfl | rfl | rfl | rfl | rfl | rfl | rfl
   ·exact h
   ·exact h
   ·exact h
   ·exact h
   ·exact h
   ·exact h
   ·exact h
   ·exact h
   ·exact h
  ·unfold play12V
   split <;> first | omega | trivial
 ·intro i o hi ho a x hb seen K hK
  clear HQ
  rcases (by omega : i = 0 ∨ i = 1 ∨ i = 2 ∨ i = 3 ∨ i = 4 ∨ i = 5 ∨ i = 6 ∨ i = 7 ∨ i = 8) with rfl | rfl | rfl | rfl | rfl | rfl | rfl | rfl | rfl
  ·obtain rfl := Option.some.inj ho
   have e3 : a.eval (.tmp 3) = .pointer (some ⟨b3,0,none⟩) := seen.kp 3 _ (nd 3 (by omega)) rfl
   exact Rg.op_value rfl rfl (Rg.ex_load a.eval _ 31 (.tmp 3) rfl (by rw [e3]; exact loadBr (HB3.out.on hb))) (hK _ x rfl (Below.refl _ _))
  ·obtain rfl := Option.some.inj ho
   have e7 : a.eval (.tmp 7) = .pointer (some ⟨bt,0,none⟩) := seen.kp 7 _ (nd 7 (by omega)) rfl
   obtain ⟨y0,y1⟩ := (XT.out.on hb).cs2
   exact Rg.op_value rfl rfl (Rg.ex_load a.eval _ 38 (.tmp 7) rfl (by rw [e7]; simp [go_sem,y0,y1])) (hK _ x rfl (Below.refl _ _))
  ·obtain rfl := Option.some.inj ho
   have e10 : a.eval (.tmp 10) = .slice p1 p2 p3 := seen.kp 10 _ (nd 10 (by omega)) rfl
   exact Rg.op_value rfl rfl (Rg.ex_move a.eval _ (.tmp 10) rfl x) (hK _ x e10 (Below.refl _ _))
  ·obtain rfl := Option.some.inj ho
   have e61 : a.eval (.tmp 61) = brv b.me (s1,s2,s3) (s4,s5,s6) (s7,s8,s9) (s10,s11,s12) (s13,s14,s15) := seen.at_ ⟨0,.data⟩ (by simp) rfl
   have e62 : a.eval (.tmp 62) = .agg #[.int .i64 t1,.int .i64 0] := seen.at_ ⟨1,.data⟩ (by simp) rfl
   have e63 : a.eval (.tmp 63) = .slice p1 p2 p3 := seen.at_ ⟨2,.data⟩ (by simp) rfl
   obtain ⟨le,hl,hE⟩ := BN.out.ent
   exact Rg.op_call rfl rfl (ex_call3g a.eval _ (.tmp 61) (.tmp 62) (.tmp 63) 31 38 39 14 rfl e61 e62 e63 rfl _ (call_fn Tryz.func14 rfl rfl _ _)) (scov_any b.me _ _ _ _ (s10,s11,s12) le b.ent (t1,0) (.slice p1 p2 p3) p x (hl.on hb) (hE.mono fun _ _ h => h.on hb) RE.out (by rw [all2_len2 hE]; exact LE.out) (PR.out.on hb) OK.out OP.out) fun e w1 h => by
    obtain ⟨rfl,hb1⟩ := h
    exact ⟨_,rfl,hK _ _ rfl hb1⟩
  ·obtain rfl := Option.some.inj ho
   have e4 : a.eval (.tmp 4) = .pointer (some ⟨b4,0,none⟩) := seen.kp 4 _ (nd 4 (by omega)) rfl
   exact Rg.op_value rfl rfl (Rg.ex_load a.eval _ 31 (.tmp 4) rfl (by rw [e4]; exact loadBr (HB4.out.on hb))) (hK _ x rfl (Below.refl _ _))
  ·obtain rfl := Option.some.inj ho
   have e7 : a.eval (.tmp 7) = .pointer (some ⟨bt,0,none⟩) := seen.kp 7 _ (nd 7 (by omega)) rfl
   obtain ⟨y0,y1⟩ := (XT.out.on hb).cs2
   exact Rg.op_value rfl rfl (Rg.ex_load a.eval _ 38 (.tmp 7) rfl (by rw [e7]; simp [go_sem,y0,y1])) (hK _ x rfl (Below.refl _ _))
  ·obtain rfl := Option.some.inj ho
   have e10 : a.eval (.tmp 10) = .slice p1 p2 p3 := seen.kp 10 _ (nd 10 (by omega)) rfl
   exact Rg.op_value rfl rfl (Rg.ex_move a.eval _ (.tmp 10) rfl x) (hK _ x e10 (Below.refl _ _))
  ·obtain rfl := Option.some.inj ho
   have e65 : a.eval (.tmp 65) = brv b.me (m1,m2,m3) (m4,m5,m6) (m7,m8,m9) (m10,m11,m12) (m13,m14,m15) := seen.at_ ⟨4,.data⟩ (by simp) rfl
   have e66 : a.eval (.tmp 66) = .agg #[.int .i64 t1,.int .i64 0] := seen.at_ ⟨5,.data⟩ (by simp) rfl
   have e67 : a.eval (.tmp 67) = .slice p1 p2 p3 := seen.at_ ⟨6,.data⟩ (by simp) rfl
   obtain ⟨le,hl,hE⟩ := BM.out.ent
   exact Rg.op_call rfl rfl (ex_call3g a.eval _ (.tmp 65) (.tmp 66) (.tmp 67) 31 38 39 15 rfl e65 e66 e67 rfl _ (call_fn Tryz.func15 rfl rfl _ _)) (rcovered_any b.me _ _ _ _ (m10,m11,m12) le b.ent (t1,0) (.slice p1 p2 p3) p x (hl.on hb) (hE.mono fun _ _ h => h.on hb) (PR.out.on hb) OK.out OP.out) fun e w1 h => by
    obtain ⟨rfl,hb1⟩ := h
    exact ⟨_,rfl,hK _ _ rfl hb1⟩
  ·obtain rfl := Option.some.inj ho
   have e64 : a.eval (.tmp 64) = .bool (coveredE b.ent (t1,0) p) := seen.at_ ⟨3,.data⟩ (by simp) rfl
   have e68 : a.eval (.tmp 68) = .bool (coveredE b.ent (t1,0) p) := seen.at_ ⟨7,.data⟩ (by simp) rfl
   exact Rg.op_value rfl rfl (Rg.ex_bin a.eval _ .neq 4 (.tmp 64) (.tmp 68) 4 rfl (by rw [e64,e68]; exact neq_self _ _ _ x)) (hK _ x rfl (Below.refl _ _))
 ·intro a x df sz kp hv hbel
  have g69 : a.tmps[69]? = some (.bool false) := by
   obtain ⟨v,h1,h2⟩ := hv 8 (by decide)
   have h3 : v = .bool false := h2
   rw [← h3]
   exact h1
  have kp2 : ∀ j,(j < 61 ∨ 70 ≤ j) → a.tmps[j]? = (u0 :: u1 :: u2 :: .pointer (some ⟨b3,0,none⟩) :: .pointer (some ⟨b4,0,none⟩) :: u5 :: u6 :: .pointer (some ⟨bt,0,none⟩) :: u8 :: u9 :: .slice p1 p2 p3 :: u11 :: u12 :: u13 :: u14 :: u15 :: u16 :: u17 :: u18 :: u19 :: u20 :: u21 :: u22 :: u23 :: u24 :: u25 :: u26 :: u27 :: u28 :: u29 :: u30 :: u31 :: u32 :: u33 :: u34 :: u35 :: u36 :: u37 :: u38 :: u39 :: u40 :: u41 :: u42 :: u43 :: u44 :: u45 :: u46 :: u47 :: u48 :: u49 :: u50 :: u51 :: u52 :: u53 :: u54 :: u55 :: u56 :: u57 :: u58 :: u59 :: u60 :: u61 :: u62 :: u63 :: u64 :: u65 :: u66 :: u67 :: u68 :: u69 :: u70 :: u71 :: u72 :: u73 :: u74 :: u75 :: u76 :: u77 :: u78 :: u79 :: u80 :: u81 :: u82 :: u83 :: u84 :: u85 :: u86 :: u87 :: u88 :: u89 :: u90 :: u91 :: u92 :: u93 :: u94 :: u95 :: u96 :: u97 :: u98 :: u99 :: u100 :: u101 :: u102 :: u103 :: u104 :: u105 :: u106 :: u107 :: u108 :: u109 :: u110 :: u111 :: u112 :: u113 :: u114 :: u115 :: u116 :: u117 :: u118 :: u119 :: u120 :: u121 :: u122 :: u123 :: u124 :: u125 :: u126 :: u127 :: u128 :: u129 :: u130 :: u131 :: u132 :: u133 :: u134 :: u135 :: u136 :: u137 :: u138 :: u139 :: u140 :: u141 :: u142 :: u143 :: u144 :: u145 :: u146 :: u147 :: u148 :: u149 :: u150 :: u151 :: u152 :: u153 :: u154 :: u155 :: u156 :: u157 :: u158 :: u159 :: u160 :: u161 :: u162 :: u163 :: u164 :: u165 :: u166 :: u167 :: u168 :: u169 :: u170 :: u171 :: u172 :: u173 :: u174 :: u175 :: u176 :: u177 :: u178 :: u179 :: u180 :: u181 :: u182 :: u183 :: u184 :: u185 :: u186 :: u187 :: u188 :: u189 :: u190 :: u191 :: u192 :: u193 :: u194 :: u195 :: u196 :: u197 :: u198 :: u199 :: u200 :: u201 :: u202 :: u203 :: u204 :: u205 :: u206 :: u207 :: u208 :: u209 :: u210 :: u211 :: u212 :: u213 :: u214 :: u215 :: u216 :: u217 :: u218 :: u219 :: u220 :: u221 :: u222 :: [])[j]? := fun j hj => (kp j (nd j hj)).trans List.getElem?_toArray
  obtain ⟨mid,hmid,rfl⟩ := Rg.frame_mid 61 9 df sz (by simp) kp2
  match mid,hmid with
  | [v61,v62,v63,v64,v65,v66,v67,v68,v69],_ =>
   obtain rfl : v69 = .bool false := Option.some.inj g69
   exact HQ.out x _ _ _ _ _ _ _ _ hbel
def play7V (_B : Nat) (bq : Nat) (_z0 _z1 z2 z3 _z4 : Int) (_h1 : Option Addr) (_h2 _h3 : Nat) (_g1 : Option Addr) (_g2 _g3 : Nat) (i : Nat) (v : Value) (_x : World) : Prop :=
 match i with
 | 0 => v = .pointer (some ⟨bq,2,none⟩)
 | 1 => v = .int .i64 z2
 | 2 => v = .int .i64 (Wi.within z2 0 3)
 | 3 => v = .pointer (some ⟨bq,3,none⟩)
 | 4 => v = .int .i64 z3
 | 5 => v = .int .i64 (Wi.within z3 0 1)
 | 6 => v = .agg #[.int .i64 (Wi.within z2 0 3),.int .i64 (Wi.within z3 0 1)]
 | 7 => True
 | 8 => True
 | _ => True
noncomputable def play7C : Code := ((Tryz.f4.body.bind (findRegion 7)).getD .skip)
theorem play7 (Q : Exit → Act → World → Prop) (W : World) (bq : Nat) (z0 z1 z2 z3 z4 : Int) (h1 : Option Addr) (h2 h3 : Nat) (g1 : Option Addr) (g2 g3 : Nat) (u0 u1 u2 u3 u4 u5 u7 u8 u9 u10 u11 u12 u13 u14 u15 u16 u17 u18 u19 u20 u21 u22 u23 u24 u25 u26 u27 u28 u29 u30 u31 u32 u33 u34 u35 u36 u37 u38 u39 u40 u41 u42 u43 u44 u45 u46 u47 u48 u49 u50 u51 u52 u53 u54 u55 u56 u57 u58 u59 u60 u61 u62 u63 u64 u65 u66 u67 u68 u69 u70 u71 u72 u73 u74 u75 u76 u77 u78 u79 u80 u81 u82 u83 u84 u85 u86 u87 u88 u89 u90 u91 u92 u93 u94 u95 u96 u97 u98 u99 u100 u101 u102 u103 u104 u105 u106 u107 u108 u109 u110 u111 u112 u113 u114 u115 u116 u117 u118 u119 u120 u121 u122 u123 u124 u125 u126 u127 u128 u129 u130 u131 u132 u133 u134 u135 u136 u137 u138 u139 u140 u141 u142 u143 u144 u145 u146 u147 u148 u149 u150 u151 u152 u153 u154 u155 u156 u157 u158 u159 u160 u161 u162 u163 u164 u165 u166 u167 u168 u169 u170 u171 u172 u173 u174 u175 u176 u177 u178 u179 u180 u181 u182 u183 u184 u185 u186 u187 u188 u189 u190 u191 u192 u193 u194 u195 u196 u197 u198 u199 u200 u201 u202 u203 u204 u205 u206 u207 u208 u209 u210 u211 u212 u213 u214 u215 u216 u217 u218 u219 u220 u221 u222 : Value)
  (q : Box W bq #[.int .i64 z0,.int .i64 z1,.int .i64 z2,.int .i64 z3,.int .i64 z4,.slice h1 h2 h3,.slice g1 g2 g3] 55) (d2 : -9223372036854775808 ≤ z2 ∧ z2 ≤ 9223372036854775807) (d3 : -9223372036854775808 ≤ z3 ∧ z3 ≤ 9223372036854775807)
  (hQ : ∀ (x : World) (bb : Nat) (v46 v47 v48 v49 v50 v51 v52 : Value),W.heap.size ≤ bb → Box x bb #[.int .i64 (Wi.within z2 0 3),.int .i64 (Wi.within z3 0 1)] 38 → Below W.heap.size W x → Q .normal ⟨(u0 :: u1 :: u2 :: u3 :: u4 :: u5 :: .pointer (some ⟨bq,0,none⟩) :: u7 :: .pointer (some ⟨bb,0,none⟩) :: u9 :: u10 :: u11 :: u12 :: u13 :: u14 :: u15 :: u16 :: u17 :: u18 :: u19 :: u20 :: u21 :: u22 :: u23 :: u24 :: u25 :: u26 :: u27 :: u28 :: u29 :: u30 :: u31 :: u32 :: u33 :: u34 :: u35 :: u36 :: u37 :: u38 :: u39 :: u40 :: u41 :: u42 :: u43 :: u44 :: u45 :: v46 :: v47 :: v48 :: v49 :: v50 :: v51 :: v52 :: u53 :: u54 :: u55 :: u56 :: u57 :: u58 :: u59 :: u60 :: u61 :: u62 :: u63 :: u64 :: u65 :: u66 :: u67 :: u68 :: u69 :: u70 :: u71 :: u72 :: u73 :: u74 :: u75 :: u76 :: u77 :: u78 :: u79 :: u80 :: u81 :: u82 :: u83 :: u84 :: u85 :: u86 :: u87 :: u88 :: u89 :: u90 :: u91 :: u92 :: u93 :: u94 :: u95 :: u96 :: u97 :: u98 :: u99 :: u100 :: u101 :: u102 :: u103 :: u104 :: u105 :: u106 :: u107 :: u108 :: u109 :: u110 :: u111 :: u112 :: u113 :: u114 :: u115 :: u116 :: u117 :: u118 :: u119 :: u120 :: u121 :: u122 :: u123 :: u124 :: u125 :: u126 :: u127 :: u128 :: u129 :: u130 :: u131 :: u132 :: u133 :: u134 :: u135 :: u136 :: u137 :: u138 :: u139 :: u140 :: u141 :: u142 :: u143 :: u144 :: u145 :: u146 :: u147 :: u148 :: u149 :: u150 :: u151 :: u152 :: u153 :: u154 :: u155 :: u156 :: u157 :: u158 :: u159 :: u160 :: u161 :: u162 :: u163 :: u164 :: u165 :: u166 :: u167 :: u168 :: u169 :: u170 :: u171 :: u172 :: u173 :: u174 :: u175 :: u176 :: u177 :: u178 :: u179 :: u180 :: u181 :: u182 :: u183 :: u184 :: u185 :: u186 :: u187 :: u188 :: u189 :: u190 :: u191 :: u192 :: u193 :: u194 :: u195 :: u196 :: u197 :: u198 :: u199 :: u200 :: u201 :: u202 :: u203 :: u204 :: u205 :: u206 :: u207 :: u208 :: u209 :: u210 :: u211 :: u212 :: u213 :: u214 :: u215 :: u216 :: u217 :: u218 :: u219 :: u220 :: u221 :: u222 :: []).toArray,[]⟩ x) :
  Code.wp Tryz.prog play7C Q ⟨(u0 :: u1 :: u2 :: u3 :: u4 :: u5 :: .pointer (some ⟨bq,0,none⟩) :: u7 :: u8 :: u9 :: u10 :: u11 :: u12 :: u13 :: u14 :: u15 :: u16 :: u17 :: u18 :: u19 :: u20 :: u21 :: u22 :: u23 :: u24 :: u25 :: u26 :: u27 :: u28 :: u29 :: u30 :: u31 :: u32 :: u33 :: u34 :: u35 :: u36 :: u37 :: u38 :: u39 :: u40 :: u41 :: u42 :: u43 :: u44 :: u45 :: u46 :: u47 :: u48 :: u49 :: u50 :: u51 :: u52 :: u53 :: u54 :: u55 :: u56 :: u57 :: u58 :: u59 :: u60 :: u61 :: u62 :: u63 :: u64 :: u65 :: u66 :: u67 :: u68 :: u69 :: u70 :: u71 :: u72 :: u73 :: u74 :: u75 :: u76 :: u77 :: u78 :: u79 :: u80 :: u81 :: u82 :: u83 :: u84 :: u85 :: u86 :: u87 :: u88 :: u89 :: u90 :: u91 :: u92 :: u93 :: u94 :: u95 :: u96 :: u97 :: u98 :: u99 :: u100 :: u101 :: u102 :: u103 :: u104 :: u105 :: u106 :: u107 :: u108 :: u109 :: u110 :: u111 :: u112 :: u113 :: u114 :: u115 :: u116 :: u117 :: u118 :: u119 :: u120 :: u121 :: u122 :: u123 :: u124 :: u125 :: u126 :: u127 :: u128 :: u129 :: u130 :: u131 :: u132 :: u133 :: u134 :: u135 :: u136 :: u137 :: u138 :: u139 :: u140 :: u141 :: u142 :: u143 :: u144 :: u145 :: u146 :: u147 :: u148 :: u149 :: u150 :: u151 :: u152 :: u153 :: u154 :: u155 :: u156 :: u157 :: u158 :: u159 :: u160 :: u161 :: u162 :: u163 :: u164 :: u165 :: u166 :: u167 :: u168 :: u169 :: u170 :: u171 :: u172 :: u173 :: u174 :: u175 :: u176 :: u177 :: u178 :: u179 :: u180 :: u181 :: u182 :: u183 :: u184 :: u185 :: u186 :: u187 :: u188 :: u189 :: u190 :: u191 :: u192 :: u193 :: u194 :: u195 :: u196 :: u197 :: u198 :: u199 :: u200 :: u201 :: u202 :: u203 :: u204 :: u205 :: u206 :: u207 :: u208 :: u209 :: u210 :: u211 :: u212 :: u213 :: u214 :: u215 :: u216 :: u217 :: u218 :: u219 :: u220 :: u221 :: u222 :: []).toArray,[]⟩ W := by
 have HQ := Lib.hid hQ
 have HQ6 := Lib.hid q
 have D2 := Lib.hid d2
 have D3 := Lib.hid d3
 clear hQ q d2 d3
 unfold play7C
 conv => arg 2; whnf
 have nb6 : ∀ i,i < 9 → [46,47,48,49,50,51,52,8,8].getD i 0 ≠ 6 := by decide
 refine Rg.region_mk 9 7 8 6 (fun i => [46,47,48,49,50,51,52,8,8].getD i 0) (fun i => 9) (play7V W.heap.size bq z0 z1 z2 z3 z4 h1 h2 h3 g1 g2 g3) 38 #[.int .i64 0,.int .i64 0] (fun v => match v with | .agg c => c | _ => #[]) (by kernel_rfl) (by kernel_rfl) rfl (by decide) (by decide) (by decide) (by decide) (by decide) (by decide) (by decide) (fun i j hi hj h1 h2 h => (by decide : ∀ i,i < 9 → ∀ j,j < 9 → i ≠ 8 → j ≠ 8 → [46,47,48,49,50,51,52,8,8].getD i 0 = [46,47,48,49,50,51,52,8,8].getD j 0 → i = j) i hi j hj h1 h2 h) (fun i hi => (by decide : ∀ i,i < 9 → [46,47,48,49,50,51,52,8,8].getD i 0 < 223) i hi) ?_ ?_ ?_ ?_ ?_ ?_
 ·intro i v x x' hi h hb
  rcases (by omega : i = 0 ∨ i = 1 ∨ i = 2 ∨ i = 3 ∨ i = 4 ∨ i = 5 ∨ i = 6 ∨ i = 7 ∨ i = 8) with rfl | rfl | rfl | rfl | rfl | rfl | rfl | rfl | rfl
  ·exact h
  ·exact h
  ·exact h
  ·exact h
  ·exact h
  ·exact h
  ·exact h
  ·exact h
  ·exact h
 ·intro o ho
  obtain rfl := Option.some.inj ho
  exact ⟨⟨⟨7,.data⟩,by simp,rfl,rfl⟩,⟨⟨6,.data⟩,by simp,rfl,rfl⟩⟩
 ·intro i o hi hiA hiS ho a x hb seen K hK
  clear HQ
  rcases (by omega : i = 0 ∨ i = 1 ∨ i = 2 ∨ i = 3 ∨ i = 4 ∨ i = 5 ∨ i = 6) with rfl | rfl | rfl | rfl | rfl | rfl | rfl
  ·obtain rfl := Option.some.inj ho
   have e6 : a.eval (.tmp 6) = .pointer (some ⟨bq,0,none⟩) := seen.kp 6 _ nb6 rfl
   exact Rg.op_value rfl rfl (Rg.ex_field a.eval _ 55 (.tmp 6) 2 rfl (by rw [e6]; simp [go_sem])) (hK _ x rfl (Below.refl _ _))
  ·obtain rfl := Option.some.inj ho
   have e46 : a.eval (.tmp 46) = .pointer (some ⟨bq,2,none⟩) := seen.at_ ⟨0,.data⟩ (by simp) rfl (by decide) (by decide) (Or.inr (by decide))
   have y2 := (HQ6.out.on hb).cell 2
   simp only [List.getElem?_toArray,List.getElem?_cons_zero,List.getElem?_cons_succ] at y2
   exact Rg.op_value rfl rfl (Rg.ex_load a.eval _ 3 (.tmp 46) rfl (by rw [e46]; simp [go_sem,y2])) (hK _ x rfl (Below.refl _ _))
  ·obtain rfl := Option.some.inj ho
   have e47 : a.eval (.tmp 47) = .int .i64 z2 := seen.at_ ⟨1,.data⟩ (by simp) rfl (by decide) (by decide) (Or.inr (by decide))
   exact Rg.op_call rfl rfl (Rg.ex_call3 a.eval _ (.tmp 47) (.const (.int .i64 0)) (.const (.int .i64 3)) 3 10 rfl e47 rfl rfl rfl _ (call_fn Tryz.func10 rfl rfl _ _)) (Wi.within_any z2 0 3 x (by omega) (by omega) (by omega) D2.out.1 D2.out.2) fun e w1 h => by
    obtain ⟨rfl,rfl⟩ := h
    exact ⟨_,rfl,hK _ _ rfl (Below.refl _ _)⟩
  ·obtain rfl := Option.some.inj ho
   have e6 : a.eval (.tmp 6) = .pointer (some ⟨bq,0,none⟩) := seen.kp 6 _ nb6 rfl
   exact Rg.op_value rfl rfl (Rg.ex_field a.eval _ 55 (.tmp 6) 3 rfl (by rw [e6]; simp [go_sem])) (hK _ x rfl (Below.refl _ _))
  ·obtain rfl := Option.some.inj ho
   have e49 : a.eval (.tmp 49) = .pointer (some ⟨bq,3,none⟩) := seen.at_ ⟨3,.data⟩ (by simp) rfl (by decide) (by decide) (Or.inr (by decide))
   have y3 := (HQ6.out.on hb).cell 3
   simp only [List.getElem?_toArray,List.getElem?_cons_zero,List.getElem?_cons_succ] at y3
   exact Rg.op_value rfl rfl (Rg.ex_load a.eval _ 3 (.tmp 49) rfl (by rw [e49]; simp [go_sem,y3])) (hK _ x rfl (Below.refl _ _))
  ·obtain rfl := Option.some.inj ho
   have e50 : a.eval (.tmp 50) = .int .i64 z3 := seen.at_ ⟨4,.data⟩ (by simp) rfl (by decide) (by decide) (Or.inr (by decide))
   exact Rg.op_call rfl rfl (Rg.ex_call3 a.eval _ (.tmp 50) (.const (.int .i64 0)) (.const (.int .i64 1)) 3 10 rfl e50 rfl rfl rfl _ (call_fn Tryz.func10 rfl rfl _ _)) (Wi.within_any z3 0 1 x (by omega) (by omega) (by omega) D3.out.1 D3.out.2) fun e w1 h => by
    obtain ⟨rfl,rfl⟩ := h
    exact ⟨_,rfl,hK _ _ rfl (Below.refl _ _)⟩
  ·obtain rfl := Option.some.inj ho
   have e48 : a.eval (.tmp 48) = .int .i64 (Wi.within z2 0 3) := seen.at_ ⟨2,.data⟩ (by simp) rfl (by decide) (by decide) (Or.inr (by decide))
   have e51 : a.eval (.tmp 51) = .int .i64 (Wi.within z3 0 1) := seen.at_ ⟨5,.data⟩ (by simp) rfl (by decide) (by decide) (Or.inr (by decide))
   exact Rg.op_value rfl rfl (Rg.ex_buildS a.eval _ 38 #[(0,.tmp 48),(1,.tmp 51)] rfl (ps := #[(0,.int .i64 (Wi.within z2 0 3)),(1,.int .i64 (Wi.within z3 0 1))]) (by simp only [List.map_toArray,List.map_cons,List.map_nil,e48,e51]) (by simp [go_sem])) (hK _ x rfl (Below.refl _ _))
 ·intro o ho a x K hK
  obtain rfl := Option.some.inj ho
  exact Rg.op_value rfl rfl (Rg.ex_alloc a.eval _ 38 rfl (by simp [go_sem])) hK
 ·intro o ho a x bb v D hc hD hb hA hC hvC hbb hbox K hK
  clear HQ
  obtain rfl := Option.some.inj ho
  have hv : v = .agg #[.int .i64 (Wi.within z2 0 3),.int .i64 (Wi.within z3 0 1)] := hvC
  subst hv
  obtain ⟨x0,x1⟩ := hbox.cs2
  obtain ⟨f0,f1⟩ := hbox.fs2
  have hst : (Instr.storeAt 38 (.pointer (some ⟨bb,0,none⟩)) (.agg #[.int .i64 (Wi.within z2 0 3),.int .i64 (Wi.within z3 0 1)])).run Tryz.prog x = .ok () ((x.setCell ⟨bb,0,none⟩ (.int .i64 (Wi.within z2 0 3))).setCell ⟨bb,1,none⟩ (.int .i64 (Wi.within z3 0 1))) := by simp [go_sem,x0,x1,f0,f1]
  have hbx2 := box_set (k := 1) (box_set (k := 0) hbox (.int .i64 (Wi.within z2 0 3))) (.int .i64 (Wi.within z3 0 1))
  refine Rg.op_store 38 (.tmp 8) (.tmp 52) rfl rfl rfl rfl hA hC hst (hK _ ((hb.setCell (p := ⟨bb,0,none⟩) hbb _).setCell (p := ⟨bb,1,none⟩) hbb _) (by simpa using hbx2) ?_)
  exact fun j u hj hjA hjS hdj hnl hls h => by
   rcases (by omega : j = 0 ∨ j = 1 ∨ j = 2 ∨ j = 3 ∨ j = 4 ∨ j = 5 ∨ j = 6) with rfl | rfl | rfl | rfl | rfl | rfl | rfl
   ·have h2 : u = .pointer (some ⟨bq,2,none⟩) := h; exact h2
   ·have h2 : u = .int .i64 z2 := h; exact h2
   ·have h2 : u = .int .i64 (Wi.within z2 0 3) := h; exact h2
   ·have h2 : u = .pointer (some ⟨bq,3,none⟩) := h; exact h2
   ·have h2 : u = .int .i64 z3 := h; exact h2
   ·have h2 : u = .int .i64 (Wi.within z3 0 1) := h; exact h2
   ·have h2 : u = .agg #[.int .i64 (Wi.within z2 0 3),.int .i64 (Wi.within z3 0 1)] := h; exact h2
 ·intro a x bb v df sz kp gA gC hbb hbox hvC hbel ⟨vs,hv⟩
  have hv9 : v = .agg #[.int .i64 (Wi.within z2 0 3),.int .i64 (Wi.within z3 0 1)] := hvC
  subst hv9
  have g8 : a.tmps[8]? = some (.pointer (some ⟨bb,0,none⟩)) := gA
  have kp2 : ∀ j,(j < 8 ∨ 53 ≤ j) → a.tmps[j]? = (u0 :: u1 :: u2 :: u3 :: u4 :: u5 :: .pointer (some ⟨bq,0,none⟩) :: u7 :: u8 :: u9 :: u10 :: u11 :: u12 :: u13 :: u14 :: u15 :: u16 :: u17 :: u18 :: u19 :: u20 :: u21 :: u22 :: u23 :: u24 :: u25 :: u26 :: u27 :: u28 :: u29 :: u30 :: u31 :: u32 :: u33 :: u34 :: u35 :: u36 :: u37 :: u38 :: u39 :: u40 :: u41 :: u42 :: u43 :: u44 :: u45 :: u46 :: u47 :: u48 :: u49 :: u50 :: u51 :: u52 :: u53 :: u54 :: u55 :: u56 :: u57 :: u58 :: u59 :: u60 :: u61 :: u62 :: u63 :: u64 :: u65 :: u66 :: u67 :: u68 :: u69 :: u70 :: u71 :: u72 :: u73 :: u74 :: u75 :: u76 :: u77 :: u78 :: u79 :: u80 :: u81 :: u82 :: u83 :: u84 :: u85 :: u86 :: u87 :: u88 :: u89 :: u90 :: u91 :: u92 :: u93 :: u94 :: u95 :: u96 :: u97 :: u98 :: u99 :: u100 :: u101 :: u102 :: u103 :: u104 :: u105 :: u106 :: u107 :: u108 :: u109 :: u110 :: u111 :: u112 :: u113 :: u114 :: u115 :: u116 :: u117 :: u118 :: u119 :: u120 :: u121 :: u122 :: u123 :: u124 :: u125 :: u126 :: u127 :: u128 :: u129 :: u130 :: u131 :: u132 :: u133 :: u134 :: u135 :: u136 :: u137 :: u138 :: u139 :: u140 :: u141 :: u142 :: u143 :: u144 :: u145 :: u146 :: u147 :: u148 :: u149 :: u150 :: u151 :: u152 :: u153 :: u154 :: u155 :: u156 :: u157 :: u158 :: u159 :: u160 :: u161 :: u162 :: u163 :: u164 :: u165 :: u166 :: u167 :: u168 :: u169 :: u170 :: u171 :: u172 :: u173 :: u174 :: u175 :: u176 :: u177 :: u178 :: u179 :: u180 :: u181 :: u182 :: u183 :: u184 :: u185 :: u186 :: u187 :: u188 :: u189 :: u190 :: u191 :: u192 :: u193 :: u194 :: u195 :: u196 :: u197 :: u198 :: u199 :: u200 :: u201 :: u202 :: u203 :: u204 :: u205 :: u206 :: u207 :: u208 :: u209 :: u210 :: u211 :: u212 :: u213 :: u214 :: u215 :: u216 :: u217 :: u218 :: u219 :: u220 :: u221 :: u222 :: [])[j]? := fun j hj => (kp j (fun i hi h => by have := (by decide : ∀ i,i < 9 → 8 ≤ [46,47,48,49,50,51,52,8,8].getD i 0 ∧ [46,47,48,49,50,51,52,8,8].getD i 0 < 53) i hi; omega)).trans List.getElem?_toArray
  obtain ⟨mid,hmid,rfl⟩ := Rg.frame_mid 8 45 df sz (by simp) kp2
  match mid,hmid with
  | v8 :: v9 :: v10 :: v11 :: v12 :: v13 :: v14 :: v15 :: v16 :: v17 :: v18 :: v19 :: v20 :: v21 :: v22 :: v23 :: v24 :: v25 :: v26 :: v27 :: v28 :: v29 :: v30 :: v31 :: v32 :: v33 :: v34 :: v35 :: v36 :: v37 :: v38 :: v39 :: v40 :: v41 :: v42 :: v43 :: v44 :: v45 :: v46 :: v47 :: v48 :: v49 :: v50 :: v51 :: v52 :: [],_ =>
   obtain rfl : v8 = .pointer (some ⟨bb,0,none⟩) := Option.some.inj g8
   obtain rfl : v9 = u9 := Option.some.inj (kp 9 (fun i hi h => (by decide : ∀ i,i < 9 → [46,47,48,49,50,51,52,8,8].getD i 0 ≠ 9) i hi h))
   obtain rfl : v10 = u10 := Option.some.inj (kp 10 (fun i hi h => (by decide : ∀ i,i < 9 → [46,47,48,49,50,51,52,8,8].getD i 0 ≠ 10) i hi h))
   obtain rfl : v11 = u11 := Option.some.inj (kp 11 (fun i hi h => (by decide : ∀ i,i < 9 → [46,47,48,49,50,51,52,8,8].getD i 0 ≠ 11) i hi h))
   obtain rfl : v12 = u12 := Option.some.inj (kp 12 (fun i hi h => (by decide : ∀ i,i < 9 → [46,47,48,49,50,51,52,8,8].getD i 0 ≠ 12) i hi h))
   obtain rfl : v13 = u13 := Option.some.inj (kp 13 (fun i hi h => (by decide : ∀ i,i < 9 → [46,47,48,49,50,51,52,8,8].getD i 0 ≠ 13) i hi h))
   obtain rfl : v14 = u14 := Option.some.inj (kp 14 (fun i hi h => (by decide : ∀ i,i < 9 → [46,47,48,49,50,51,52,8,8].getD i 0 ≠ 14) i hi h))
   obtain rfl : v15 = u15 := Option.some.inj (kp 15 (fun i hi h => (by decide : ∀ i,i < 9 → [46,47,48,49,50,51,52,8,8].getD i 0 ≠ 15) i hi h))
   obtain rfl : v16 = u16 := Option.some.inj (kp 16 (fun i hi h => (by decide : ∀ i,i < 9 → [46,47,48,49,50,51,52,8,8].getD i 0 ≠ 16) i hi h))
   obtain rfl : v17 = u17 := Option.some.inj (kp 17 (fun i hi h => (by decide : ∀ i,i < 9 → [46,47,48,49,50,51,52,8,8].getD i 0 ≠ 17) i hi h))
   obtain rfl : v18 = u18 := Option.some.inj (kp 18 (fun i hi h => (by decide : ∀ i,i < 9 → [46,47,48,49,50,51,52,8,8].getD i 0 ≠ 18) i hi h))
   obtain rfl : v19 = u19 := Option.some.inj (kp 19 (fun i hi h => (by decide : ∀ i,i < 9 → [46,47,48,49,50,51,52,8,8].getD i 0 ≠ 19) i hi h))
   obtain rfl : v20 = u20 := Option.some.inj (kp 20 (fun i hi h => (by decide : ∀ i,i < 9 → [46,47,48,49,50,51,52,8,8].getD i 0 ≠ 20) i hi h))
   obtain rfl : v21 = u21 := Option.some.inj (kp 21 (fun i hi h => (by decide : ∀ i,i < 9 → [46,47,48,49,50,51,52,8,8].getD i 0 ≠ 21) i hi h))
   obtain rfl : v22 = u22 := Option.some.inj (kp 22 (fun i hi h => (by decide : ∀ i,i < 9 → [46,47,48,49,50,51,52,8,8].getD i 0 ≠ 22) i hi h))
   obtain rfl : v23 = u23 := Option.some.inj (kp 23 (fun i hi h => (by decide : ∀ i,i < 9 → [46,47,48,49,50,51,52,8,8].getD i 0 ≠ 23) i hi h))
   obtain rfl : v24 = u24 := Option.some.inj (kp 24 (fun i hi h => (by decide : ∀ i,i < 9 → [46,47,48,49,50,51,52,8,8].getD i 0 ≠ 24) i hi h))
   obtain rfl : v25 = u25 := Option.some.inj (kp 25 (fun i hi h => (by decide : ∀ i,i < 9 → [46,47,48,49,50,51,52,8,8].getD i 0 ≠ 25) i hi h))
   obtain rfl : v26 = u26 := Option.some.inj (kp 26 (fun i hi h => (by decide : ∀ i,i < 9 → [46,47,48,49,50,51,52,8,8].getD i 0 ≠ 26) i hi h))
   obtain rfl : v27 = u27 := Option.some.inj (kp 27 (fun i hi h => (by decide : ∀ i,i < 9 → [46,47,48,49,50,51,52,8,8].getD i 0 ≠ 27) i hi h))
   obtain rfl : v28 = u28 := Option.some.inj (kp 28 (fun i hi h => (by decide : ∀ i,i < 9 → [46,47,48,49,50,51,52,8,8].getD i 0 ≠ 28) i hi h))
   obtain rfl : v29 = u29 := Option.some.inj (kp 29 (fun i hi h => (by decide : ∀ i,i < 9 → [46,47,48,49,50,51,52,8,8].getD i 0 ≠ 29) i hi h))
   obtain rfl : v30 = u30 := Option.some.inj (kp 30 (fun i hi h => (by decide : ∀ i,i < 9 → [46,47,48,49,50,51,52,8,8].getD i 0 ≠ 30) i hi h))
   obtain rfl : v31 = u31 := Option.some.inj (kp 31 (fun i hi h => (by decide : ∀ i,i < 9 → [46,47,48,49,50,51,52,8,8].getD i 0 ≠ 31) i hi h))
   obtain rfl : v32 = u32 := Option.some.inj (kp 32 (fun i hi h => (by decide : ∀ i,i < 9 → [46,47,48,49,50,51,52,8,8].getD i 0 ≠ 32) i hi h))
   obtain rfl : v33 = u33 := Option.some.inj (kp 33 (fun i hi h => (by decide : ∀ i,i < 9 → [46,47,48,49,50,51,52,8,8].getD i 0 ≠ 33) i hi h))
   obtain rfl : v34 = u34 := Option.some.inj (kp 34 (fun i hi h => (by decide : ∀ i,i < 9 → [46,47,48,49,50,51,52,8,8].getD i 0 ≠ 34) i hi h))
   obtain rfl : v35 = u35 := Option.some.inj (kp 35 (fun i hi h => (by decide : ∀ i,i < 9 → [46,47,48,49,50,51,52,8,8].getD i 0 ≠ 35) i hi h))
   obtain rfl : v36 = u36 := Option.some.inj (kp 36 (fun i hi h => (by decide : ∀ i,i < 9 → [46,47,48,49,50,51,52,8,8].getD i 0 ≠ 36) i hi h))
   obtain rfl : v37 = u37 := Option.some.inj (kp 37 (fun i hi h => (by decide : ∀ i,i < 9 → [46,47,48,49,50,51,52,8,8].getD i 0 ≠ 37) i hi h))
   obtain rfl : v38 = u38 := Option.some.inj (kp 38 (fun i hi h => (by decide : ∀ i,i < 9 → [46,47,48,49,50,51,52,8,8].getD i 0 ≠ 38) i hi h))
   obtain rfl : v39 = u39 := Option.some.inj (kp 39 (fun i hi h => (by decide : ∀ i,i < 9 → [46,47,48,49,50,51,52,8,8].getD i 0 ≠ 39) i hi h))
   obtain rfl : v40 = u40 := Option.some.inj (kp 40 (fun i hi h => (by decide : ∀ i,i < 9 → [46,47,48,49,50,51,52,8,8].getD i 0 ≠ 40) i hi h))
   obtain rfl : v41 = u41 := Option.some.inj (kp 41 (fun i hi h => (by decide : ∀ i,i < 9 → [46,47,48,49,50,51,52,8,8].getD i 0 ≠ 41) i hi h))
   obtain rfl : v42 = u42 := Option.some.inj (kp 42 (fun i hi h => (by decide : ∀ i,i < 9 → [46,47,48,49,50,51,52,8,8].getD i 0 ≠ 42) i hi h))
   obtain rfl : v43 = u43 := Option.some.inj (kp 43 (fun i hi h => (by decide : ∀ i,i < 9 → [46,47,48,49,50,51,52,8,8].getD i 0 ≠ 43) i hi h))
   obtain rfl : v44 = u44 := Option.some.inj (kp 44 (fun i hi h => (by decide : ∀ i,i < 9 → [46,47,48,49,50,51,52,8,8].getD i 0 ≠ 44) i hi h))
   obtain rfl : v45 = u45 := Option.some.inj (kp 45 (fun i hi h => (by decide : ∀ i,i < 9 → [46,47,48,49,50,51,52,8,8].getD i 0 ≠ 45) i hi h))
   exact HQ.out x bb _ _ _ _ _ _ _ hbb hbox hbel
abbrev brS : Br := ⟨0,[1,2],[⟨(1,0),[],1⟩],[(1,0)],[],[]⟩
theorem brS_learn : learnB (newB0 0 [1,2]) ⟨(1,0),[],1⟩ = (brS,true) := rfl
theorem brS_few0 : Few (newB0 0 [1,2]) := ⟨by simp,by simp,by simp,by simp,by simp⟩
theorem brS_fewp0 : FewP (newB0 0 [1,2]) := ⟨by simp,by simp,by simp⟩
abbrev rgP (lo hi : Int) : List C5 := [(⟨#[97]⟩,1,lo,hi,⟨#[]⟩)]
theorem mkp_any (lo hi : Int) (w : World) : Calls Tryz.prog 94 #[.int .i64 lo,.int .i64 hi] w fun e w' => (∃ sl : Sl,e = .returned (slv sl) ∧ RowC w' (slv sl) (rgP lo hi)) ∧ Below w.heap.size w w' := by
 have h := Row.of_own (row_lit okC w (rgP lo hi) 1 rfl (by simp) #[.string ⟨#[97]⟩,.int .i64 1,.int .i64 lo,.int .i64 hi,.string ⟨#[]⟩] rfl)
 have n := newB w (.cells #[.string ⟨#[97]⟩,.int .i64 1,.int .i64 lo,.int .i64 hi,.string ⟨#[]⟩] 47)
 have H := Lib.hid h
 have N := Lib.hid n
 clear h n
 go_enter Tryz.func94,Tryz.ntmps94
 go_wp2
 go_ret
 exact ⟨⟨(some ⟨w.heap.size,0,none⟩,1,1),rfl,H.out⟩,N.out⟩
theorem ex_callv0 {P : Program} (ρ : Operand → Value) (o : Oper) (g x y : Operand) (t s : TypeId) (f : FuncId) (ho : o.op = .call { callee := .value g,args := #[x,y],argTypes := #[t,s] }) {v u : Value} (hx : ρ x = v) (hy : ρ y = u) (hf : ρ g = .func (.func f) #[] #[]) (w : World)
  (hc : (callFunc f #[v,u]).run P w = .ok (.enter f #[v,u]) w) : (execOp ρ o).run P w = .ok (.enter f #[v,u]) w := by
 simp [execOp,ho,resolve,invoke,hx,hy,hf,Deferred.ofValue,hc]
def sr3V (_B : Nat) (_b1 : Nat) (i : Nat) (v : Value) (x : World) : Prop :=
 match i with
 | 0 => ∃ sl : Sl,v = slv sl ∧ RowI x v [1,2]
 | 1 => ∃ nv : Sl,v = brv 0 nv (none,0,0) (none,0,0) (none,0,0) (none,0,0) ∧ BrN x (newB0 0 [1,2]) nv (none,0,0) (none,0,0) (none,0,0) (none,0,0)
 | 2 => v = .agg #[.int .i64 1,.int .i64 0]
 | 3 => v = .agg #[.int .i64 1,.int .i64 0,.slice none 0 0,.int .i64 1]
 | 4 => ∃ nv av sv ev ov : Sl,v = .tuple #[brv 0 nv av sv ev ov,.bool true] ∧ BrN x brS nv av sv ev ov
 | 5 => ∃ nv av sv ev ov : Sl,v = .tuple #[brv 0 nv av sv ev ov,.bool true] ∧ BrN x brS nv av sv ev ov
 | 6 => ∃ nv av sv ev ov : Sl,v = brv 0 nv av sv ev ov ∧ BrN x brS nv av sv ev ov
 | 7 => v = .bool true
 | 8 => True
 | 9 => True
 | 10 => v = .bool true
 | _ => True
noncomputable def sr3C : Code := ((Tryz.f29.body.bind (findRegion 3)).getD .skip)
theorem sr3 (Q : Exit → Act → World → Prop) (W : World) (b1 : Nat) (u0 u2 u3 u4 u5 u6 u7 u8 u9 u10 u11 u12 u13 u14 u15 u16 u17 u18 u19 u20 u21 u22 u23 u24 u25 u26 u27 u28 u29 u30 u31 u32 u33 u34 u35 u36 u37 u38 u39 u40 u41 u42 u43 u44 u45 u46 u47 u48 u49 u50 u51 u52 u53 u54 u55 u56 u57 u58 u59 u60 u61 u62 u63 u64 u65 u66 u67 u68 u69 u70 u71 u72 u73 u74 u75 u76 u77 : Value)
  (h1 : Box W b1 #[.int .i64 1,.int .i64 0] 38)
  (hQ : ∀ (x : World) (bb : Nat) (v11 v12 v13 v14 v15 v16 v17 v18 : Value) (m1 : Option Addr) (m2 m3 : Nat) (m4 : Option Addr) (m5 m6 : Nat) (m7 : Option Addr) (m8 m9 : Nat) (m10 : Option Addr) (m11 m12 : Nat) (m13 : Option Addr) (m14 m15 : Nat),W.heap.size ≤ bb → Box x bb #[.int .i64 0,.slice m1 m2 m3,.slice m4 m5 m6,.slice m7 m8 m9,.slice m10 m11 m12,.slice m13 m14 m15] 31 → BrN x brS (m1,m2,m3) (m4,m5,m6) (m7,m8,m9) (m10,m11,m12) (m13,m14,m15) → Below W.heap.size W x → Q .normal ⟨(u0 :: .pointer (some ⟨b1,0,none⟩) :: u2 :: .pointer (some ⟨bb,0,none⟩) :: .bool true :: u5 :: u6 :: u7 :: u8 :: u9 :: u10 :: v11 :: v12 :: v13 :: v14 :: v15 :: v16 :: v17 :: v18 :: u19 :: u20 :: u21 :: u22 :: u23 :: u24 :: u25 :: u26 :: u27 :: u28 :: u29 :: u30 :: u31 :: u32 :: u33 :: u34 :: u35 :: u36 :: u37 :: u38 :: u39 :: u40 :: u41 :: u42 :: u43 :: u44 :: u45 :: u46 :: u47 :: u48 :: u49 :: u50 :: u51 :: u52 :: u53 :: u54 :: u55 :: u56 :: u57 :: u58 :: u59 :: u60 :: u61 :: u62 :: u63 :: u64 :: u65 :: u66 :: u67 :: u68 :: u69 :: u70 :: u71 :: u72 :: u73 :: u74 :: u75 :: u76 :: u77 :: []).toArray,[]⟩ x) :
  Code.wp Tryz.prog sr3C Q ⟨(u0 :: .pointer (some ⟨b1,0,none⟩) :: u2 :: u3 :: u4 :: u5 :: u6 :: u7 :: u8 :: u9 :: u10 :: u11 :: u12 :: u13 :: u14 :: u15 :: u16 :: u17 :: u18 :: u19 :: u20 :: u21 :: u22 :: u23 :: u24 :: u25 :: u26 :: u27 :: u28 :: u29 :: u30 :: u31 :: u32 :: u33 :: u34 :: u35 :: u36 :: u37 :: u38 :: u39 :: u40 :: u41 :: u42 :: u43 :: u44 :: u45 :: u46 :: u47 :: u48 :: u49 :: u50 :: u51 :: u52 :: u53 :: u54 :: u55 :: u56 :: u57 :: u58 :: u59 :: u60 :: u61 :: u62 :: u63 :: u64 :: u65 :: u66 :: u67 :: u68 :: u69 :: u70 :: u71 :: u72 :: u73 :: u74 :: u75 :: u76 :: u77 :: []).toArray,[]⟩ W := by
 have HQ := Lib.hid hQ
 have H1 := Lib.hid h1
 clear hQ h1
 unfold sr3C
 conv => arg 2; whnf
 have nb1 : ∀ i,i < 11 → [12,13,14,15,16,11,17,18,3,3,4].getD i 0 ≠ 1 := by decide
 refine Rg.region_mk 11 8 9 6 (fun i => [12,13,14,15,16,11,17,18,3,3,4].getD i 0) (fun i => if i = 0 then 1 else if i = 1 then 4 else if i = 4 then 5 else 11) (sr3V W.heap.size b1) 31 #[.int .i64 0,.slice none 0 0,.slice none 0 0,.slice none 0 0,.slice none 0 0,.slice none 0 0] (fun v => match v with | .agg c => c | _ => #[]) (by kernel_rfl) (by kernel_rfl) rfl (by decide) (by decide) (by decide) (by decide) (by decide) (by decide) (by decide) (fun i j hi hj h1 h2 h => (by decide : ∀ i,i < 11 → ∀ j,j < 11 → i ≠ 9 → j ≠ 9 → [12,13,14,15,16,11,17,18,3,3,4].getD i 0 = [12,13,14,15,16,11,17,18,3,3,4].getD j 0 → i = j) i hi j hj h1 h2 h) (fun i hi => (by decide : ∀ i,i < 11 → [12,13,14,15,16,11,17,18,3,3,4].getD i 0 < 78) i hi) ?_ ?_ ?_ ?_ ?_ ?_
 ·intro i v x x' hi h hb
  rcases (by omega : i = 0 ∨ i = 1 ∨ i = 2 ∨ i = 3 ∨ i = 4 ∨ i = 5 ∨ i = 6 ∨ i = 7 ∨ i = 8 ∨ i = 9 ∨ i = 10) with rfl | rfl | rfl | rfl | rfl | rfl | rfl | rfl | rfl | rfl | rfl
  ·obtain ⟨s,h1,h2⟩ := h; exact ⟨s,h1,h2.on hb⟩
  ·obtain ⟨s,h1,h2⟩ := h; exact ⟨s,h1,h2.on hb⟩
  ·exact h
  ·exact h
  ·obtain ⟨a1,a2,a3,a4,a5,h1,h2⟩ := h; exact ⟨a1,a2,a3,a4,a5,h1,h2.on hb⟩
  ·obtain ⟨a1,a2,a3,a4,a5,h1,h2⟩ := h; exact ⟨a1,a2,a3,a4,a5,h1,h2.on hb⟩
  ·obtain ⟨a1,a2,a3,a4,a5,h1,h2⟩ := h; exact ⟨a1,a2,a3,a4,a5,h1,h2.on hb⟩
  ·exact h
  ·exact h
  ·exact h
  ·exact h
 ·intro o ho
  obtain rfl := Option.some.inj ho
  exact ⟨⟨⟨8,.data⟩,by simp,rfl,rfl⟩,⟨⟨6,.data⟩,by simp,rfl,rfl⟩⟩
 ·intro i o hi hiA hiS ho a x hb seen K hK
  clear HQ
  rcases (by omega : i = 0 ∨ i = 1 ∨ i = 2 ∨ i = 3 ∨ i = 4 ∨ i = 5 ∨ i = 6 ∨ i = 7 ∨ i = 10) with rfl | rfl | rfl | rfl | rfl | rfl | rfl | rfl | rfl
  ·obtain rfl := Option.some.inj ho
   have hl := row_lit Nm.okI x [1,2] 2 rfl (by simp) #[.int .i64 1,.int .i64 2] (by rfl)
   exact Rg.op_value rfl rfl (Rg.ex_build a.eval _ 25 2 #[(0,.const (.int .i64 1)),(1,.const (.int .i64 2))] rfl (ps := #[(0,.int .i64 1),(1,.int .i64 2)]) (by simp only [List.map_toArray,List.map_cons,List.map_nil]; rfl) (by simp [go_sem])) (hK (.slice (some ⟨x.heap.size,0,none⟩) 2 2) (x.alloc (.cells #[.int .i64 1,.int .i64 2] 3)) ⟨(some ⟨x.heap.size,0,none⟩,2,2),rfl,Row.of_own hl⟩ ((Below.refl _ _).alloc (Nat.le_refl _) _))
  ·obtain rfl := Option.some.inj ho
   have E12 := seen.at_ ⟨0,.data⟩ (by simp) rfl (by decide) (by decide) (Or.inl rfl)
   obtain ⟨sl,q0,q1⟩ := E12
   have q0 : a.eval (.tmp 12) = slv sl := q0
   have q1 : RowI x (slv sl) [1,2] := by rw [← q0]; exact q1
   exact Rg.op_call rfl rfl (Rw.ex_call2 a.eval _ (.const (.int .i64 0)) (.tmp 12) 3 25 12 rfl rfl q0 rfl _ (call_fn Tryz.func12 rfl rfl _ _)) (anew_any 0 sl [1,2] x q1 (by decide)) fun e w1 h => by
    obtain ⟨⟨l',nv,rfl,h1,h2,h3,h4⟩,h5⟩ := h
    have e1 : l' = [1,2] := rise_uniq h3 (by decide) (fun y => (h4 y).trans (by simp))
    subst e1
    exact ⟨_,rfl,hK _ _ ⟨nv,rfl,h1,h2⟩ h5⟩
  ·obtain rfl := Option.some.inj ho
   have e1 : a.eval (.tmp 1) = .pointer (some ⟨b1,0,none⟩) := seen.kp 1 _ nb1 rfl
   obtain ⟨y0,y1⟩ := (H1.out.on hb).cs2
   exact Rg.op_value rfl rfl (Rg.ex_load a.eval _ 38 (.tmp 1) rfl (by rw [e1]; simp [go_sem,y0,y1])) (hK _ x rfl (Below.refl _ _))
  ·obtain rfl := Option.some.inj ho
   have e14 : a.eval (.tmp 14) = .agg #[.int .i64 1,.int .i64 0] := seen.at_ ⟨2,.data⟩ (by simp) rfl (by decide) (by decide) (Or.inr (by decide))
   exact Rg.op_value rfl rfl (Rg.ex_buildS a.eval _ 41 #[(0,.tmp 14),(2,.const (.int .i64 1))] rfl (by simp only [List.map_toArray,List.map_cons,List.map_nil,e14]; rfl) (by simp [go_sem])) (hK _ x rfl (Below.refl _ _))
  ·obtain rfl := Option.some.inj ho
   have E13 := seen.at_ ⟨1,.data⟩ (by simp) rfl (by decide) (by decide) (Or.inl rfl)
   have e15 : a.eval (.tmp 15) = .agg #[.int .i64 1,.int .i64 0,.slice none 0 0,.int .i64 1] := seen.at_ ⟨3,.data⟩ (by simp) rfl (by decide) (by decide) (Or.inr (by decide))
   obtain ⟨nv,q0,q1⟩ := E13
   have hx : AdIn x (1,0,(none,0,0),1) ⟨(1,0),[],1⟩ := ⟨rfl,rfl,row_nil _⟩
   exact Rg.op_call rfl rfl (Rw.ex_call2 a.eval _ (.tmp 13) (.tmp 15) 31 41 21 rfl q0 e15 rfl _ (call_fn Tryz.func21 rfl rfl _ _)) (learn_any (newB0 0 [1,2]) ⟨(1,0),[],1⟩ nv (none,0,0) (none,0,0) (none,0,0) (none,0,0) (1,0,(none,0,0),1) x q1.br hx brS_few0 brS_fewp0 (by simp) List.Pairwise.nil List.Pairwise.nil) fun e w1 h => by
    rw [brS_learn] at h
    obtain ⟨⟨a1,a2,a3,a4,a5,rfl,h2,h3⟩,h5⟩ := h
    exact ⟨_,rfl,hK _ _ ⟨a1,a2,a3,a4,a5,rfl,h2,h3 q1.no⟩ h5⟩
  ·obtain rfl := Option.some.inj ho
   have E16 := seen.at_ ⟨4,.data⟩ (by simp) rfl (by decide) (by decide) (Or.inl rfl)
   exact Rg.op_value rfl rfl (Rg.ex_move a.eval _ (.tmp 16) rfl x) (hK _ x E16 (Below.refl _ _))
  ·obtain rfl := Option.some.inj ho
   have E11 := seen.at_ ⟨5,.data⟩ (by simp) rfl (by decide) (by decide) (Or.inr (by decide))
   obtain ⟨a1,a2,a3,a4,a5,h1,h2⟩ := E11
   exact Rg.op_value rfl rfl (ex_extract a.eval _ (.tmp 11) 0 rfl (c := #[brv 0 a1 a2 a3 a4 a5,.bool true]) h1 rfl x) (hK _ x ⟨a1,a2,a3,a4,a5,rfl,h2⟩ (Below.refl _ _))
  ·obtain rfl := Option.some.inj ho
   have E11 := seen.at_ ⟨5,.data⟩ (by simp) rfl (by decide) (by decide) (Or.inr (by decide))
   obtain ⟨a1,a2,a3,a4,a5,h1,h2⟩ := E11
   exact Rg.op_value rfl rfl (ex_extract a.eval _ (.tmp 11) 1 rfl (c := #[brv 0 a1 a2 a3 a4 a5,.bool true]) h1 rfl x) (hK _ x rfl (Below.refl _ _))
  ·obtain rfl := Option.some.inj ho
   have e18 : a.eval (.tmp 18) = .bool true := seen.at_ ⟨7,.data⟩ (by simp) rfl (by decide) (by decide) (Or.inr (by decide))
   exact Rg.op_value rfl rfl (Rg.ex_assign a.eval _ (.tmp 18) rfl x) (hK _ x e18 (Below.refl _ _))
 ·intro o ho a x K hK
  obtain rfl := Option.some.inj ho
  exact Rg.op_value rfl rfl (Rg.ex_alloc a.eval _ 31 rfl (by simp [go_sem])) hK
 ·intro o ho a x bb v D hc hD hb hA hC hvC hbb hbox K hK
  clear HQ
  obtain rfl := Option.some.inj ho
  obtain ⟨⟨m1,m2,m3⟩,⟨m4,m5,m6⟩,⟨m7,m8,m9⟩,⟨m10,m11,m12⟩,⟨m13,m14,m15⟩,hv1,hv2⟩ := hvC
  subst hv1
  have hbut := but_setB x bb (.int .i64 0) (.slice m1 m2 m3) (.slice m4 m5 m6) (.slice m7 m8 m9) (.slice m10 m11 m12) (.slice m13 m14 m15)
  refine Rg.op_store 31 (.tmp 3) (.tmp 17) rfl rfl rfl rfl hA hC (w' := setB x bb (.int .i64 0) (.slice m1 m2 m3) (.slice m4 m5 m6) (.slice m7 m8 m9) (.slice m10 m11 m12) (.slice m13 m14 m15)) (storeBr hbox _ _ _ _ _ _ _ _ _ _ _ _ _ _ _ _) (hK _ (setB_below hb hbb _ _ _ _ _ _) (setB_box hbox _ _ _ _ _ _) ?_)
  exact fun j u hj hjA hjS hdj hnl hls h => by
   rcases (by omega : j = 0 ∨ j = 1 ∨ j = 2 ∨ j = 3 ∨ j = 4 ∨ j = 5 ∨ j = 6 ∨ j = 7 ∨ j = 10) with rfl | rfl | rfl | rfl | rfl | rfl | rfl | rfl | rfl
   ·exact absurd (hD ⟨1,.phase⟩ (by simp) rfl) hnl
   ·exact absurd (hD ⟨4,.chain⟩ (by simp) rfl) hnl
   ·have h2 : u = .agg #[.int .i64 1,.int .i64 0] := h; exact h2
   ·have h2 : u = .agg #[.int .i64 1,.int .i64 0,.slice none 0 0,.int .i64 1] := h; exact h2
   ·exact absurd (hD ⟨5,.phase⟩ (by simp) rfl) hnl
   ·obtain ⟨a1,a2,a3,a4,a5,h1,h2⟩ := h; exact ⟨a1,a2,a3,a4,a5,h1,h2.keep (s1 := (none,0,0)) (s2 := (none,0,0)) (s3 := (none,0,0)) (s4 := (none,0,0)) (s5 := (none,0,0)) (me := 0) hbox hbut⟩
   ·obtain ⟨a1,a2,a3,a4,a5,h1,h2⟩ := h; exact ⟨a1,a2,a3,a4,a5,h1,h2.keep (s1 := (none,0,0)) (s2 := (none,0,0)) (s3 := (none,0,0)) (s4 := (none,0,0)) (s5 := (none,0,0)) (me := 0) hbox hbut⟩
   ·have h2 : u = .bool true := h; exact h2
   ·have h2 : u = .bool true := h; exact h2
 ·intro a x bb v df sz kp gA gC hbb hbox hvC hbel ⟨vs,hv⟩
  obtain ⟨⟨m1,m2,m3⟩,⟨m4,m5,m6⟩,⟨m7,m8,m9⟩,⟨m10,m11,m12⟩,⟨m13,m14,m15⟩,hv1,hv2⟩ := hvC
  subst hv1
  have g3 : a.tmps[3]? = some (.pointer (some ⟨bb,0,none⟩)) := gA
  have g4 : a.tmps[4]? = some (.bool true) := by
   have h : vs 10 = .bool true := (hv 10 (by decide) (by decide) (by decide)).2 (by decide)
   rw [← h]
   exact (hv 10 (by decide) (by decide) (by decide)).1
  have kp2 : ∀ j,(j < 3 ∨ 19 ≤ j) → a.tmps[j]? = (u0 :: .pointer (some ⟨b1,0,none⟩) :: u2 :: u3 :: u4 :: u5 :: u6 :: u7 :: u8 :: u9 :: u10 :: u11 :: u12 :: u13 :: u14 :: u15 :: u16 :: u17 :: u18 :: u19 :: u20 :: u21 :: u22 :: u23 :: u24 :: u25 :: u26 :: u27 :: u28 :: u29 :: u30 :: u31 :: u32 :: u33 :: u34 :: u35 :: u36 :: u37 :: u38 :: u39 :: u40 :: u41 :: u42 :: u43 :: u44 :: u45 :: u46 :: u47 :: u48 :: u49 :: u50 :: u51 :: u52 :: u53 :: u54 :: u55 :: u56 :: u57 :: u58 :: u59 :: u60 :: u61 :: u62 :: u63 :: u64 :: u65 :: u66 :: u67 :: u68 :: u69 :: u70 :: u71 :: u72 :: u73 :: u74 :: u75 :: u76 :: u77 :: [])[j]? := fun j hj => (kp j (fun i hi h => by have := (by decide : ∀ i,i < 11 → 3 ≤ [12,13,14,15,16,11,17,18,3,3,4].getD i 0 ∧ [12,13,14,15,16,11,17,18,3,3,4].getD i 0 < 19) i hi; omega)).trans List.getElem?_toArray
  obtain ⟨mid,hmid,rfl⟩ := Rg.frame_mid 3 16 df sz (by simp) kp2
  match mid,hmid with
  | [v3,v4,v5,v6,v7,v8,v9,v10,v11,v12,v13,v14,v15,v16,v17,v18],_ =>
   obtain rfl : v3 = .pointer (some ⟨bb,0,none⟩) := Option.some.inj g3
   obtain rfl : v4 = .bool true := Option.some.inj g4
   obtain rfl : v5 = u5 := Option.some.inj (kp 5 (fun i hi h => (by decide : ∀ i,i < 11 → [12,13,14,15,16,11,17,18,3,3,4].getD i 0 ≠ 5) i hi h))
   obtain rfl : v6 = u6 := Option.some.inj (kp 6 (fun i hi h => (by decide : ∀ i,i < 11 → [12,13,14,15,16,11,17,18,3,3,4].getD i 0 ≠ 6) i hi h))
   obtain rfl : v7 = u7 := Option.some.inj (kp 7 (fun i hi h => (by decide : ∀ i,i < 11 → [12,13,14,15,16,11,17,18,3,3,4].getD i 0 ≠ 7) i hi h))
   obtain rfl : v8 = u8 := Option.some.inj (kp 8 (fun i hi h => (by decide : ∀ i,i < 11 → [12,13,14,15,16,11,17,18,3,3,4].getD i 0 ≠ 8) i hi h))
   obtain rfl : v9 = u9 := Option.some.inj (kp 9 (fun i hi h => (by decide : ∀ i,i < 11 → [12,13,14,15,16,11,17,18,3,3,4].getD i 0 ≠ 9) i hi h))
   obtain rfl : v10 = u10 := Option.some.inj (kp 10 (fun i hi h => (by decide : ∀ i,i < 11 → [12,13,14,15,16,11,17,18,3,3,4].getD i 0 ≠ 10) i hi h))
   exact HQ.out x bb _ _ _ _ _ _ _ _ m1 m2 m3 m4 m5 m6 m7 m8 m9 m10 m11 m12 m13 m14 m15 hbb hbox hv2 hbel
def sr4V (_B : Nat) (_bb _b1 : Nat) (b : Br) (s1 : Option Addr) (s2 s3 : Nat) (s4 : Option Addr) (s5 s6 : Nat) (s7 : Option Addr) (s8 s9 : Nat) (s10 : Option Addr) (s11 s12 : Nat) (s13 : Option Addr) (s14 s15 : Nat) (i : Nat) (v : Value) (x : World) : Prop :=
 match i with
 | 0 => v = brv b.me (s1,s2,s3) (s4,s5,s6) (s7,s8,s9) (s10,s11,s12) (s13,s14,s15)
 | 1 => v = .agg #[.int .i64 1,.int .i64 0]
 | 2 => v = .agg #[.int .i64 2,.int .i64 0]
 | 3 => v = .func (.func 94) #[] #[]
 | 4 => ∃ sl : Sl,v = slv sl ∧ RowC x v (rgP 1 9)
 | 5 => ∃ z : XEn,v = valN z ∧ EnIn x z (⟨(1,0),(2,0),rgP 1 9,2,false⟩ : En)
 | 6 => ∃ nv av sv ev ov : Sl,v = .tuple #[brv (addB b (⟨(1,0),(2,0),rgP 1 9,2,false⟩ : En)).1.me nv av sv ev ov,.bool (addB b (⟨(1,0),(2,0),rgP 1 9,2,false⟩ : En)).2] ∧ BrN x (addB b (⟨(1,0),(2,0),rgP 1 9,2,false⟩ : En)).1 nv av sv ev ov
 | 7 => ∃ nv av sv ev ov : Sl,v = .tuple #[brv (addB b (⟨(1,0),(2,0),rgP 1 9,2,false⟩ : En)).1.me nv av sv ev ov,.bool (addB b (⟨(1,0),(2,0),rgP 1 9,2,false⟩ : En)).2] ∧ BrN x (addB b (⟨(1,0),(2,0),rgP 1 9,2,false⟩ : En)).1 nv av sv ev ov
 | 8 => ∃ nv av sv ev ov : Sl,v = brv (addB b (⟨(1,0),(2,0),rgP 1 9,2,false⟩ : En)).1.me nv av sv ev ov ∧ BrN x (addB b (⟨(1,0),(2,0),rgP 1 9,2,false⟩ : En)).1 nv av sv ev ov
 | 9 => v = .bool (addB b (⟨(1,0),(2,0),rgP 1 9,2,false⟩ : En)).2
 | 10 => True
 | 11 => v = .bool (addB b (⟨(1,0),(2,0),rgP 1 9,2,false⟩ : En)).2
 | _ => True
noncomputable def sr4C : Code := ((Tryz.f29.body.bind (findRegion 4)).getD .skip)
theorem sr4 (Q : Exit → Act → World → Prop) (W : World) (bb b1 : Nat) (b : Br) (s1 : Option Addr) (s2 s3 : Nat) (s4 : Option Addr) (s5 s6 : Nat) (s7 : Option Addr) (s8 s9 : Nat) (s10 : Option Addr) (s11 s12 : Nat) (s13 : Option Addr) (s14 s15 : Nat) (u0 u4 u5 u6 u7 u8 u9 u10 u11 u12 u13 u14 u15 u16 u17 u18 u19 u20 u21 u22 u23 u24 u25 u26 u27 u28 u29 u30 u31 u32 u33 u34 u35 u36 u37 u38 u39 u40 u41 u42 u43 u44 u45 u46 u47 u48 u49 u50 u51 u52 u53 u54 u55 u56 u57 u58 u59 u60 u61 u62 u63 u64 u65 u66 u67 u68 u69 u70 u71 u72 u73 u74 u75 u76 u77 : Value)
  (h1 : Box W b1 #[.int .i64 1,.int .i64 0] 38) (hbox : Box W bb #[.int .i64 b.me,.slice s1 s2 s3,.slice s4 s5 s6,.slice s7 s8 s9,.slice s10 s11 s12,.slice s13 s14 s15] 31) (bn : BrN W b (s1,s2,s3) (s4,s5,s6) (s7,s8,s9) (s10,s11,s12) (s13,s14,s15)) (fw : Few b) (fp : FewP b) (re : RiseE b.ent) (ok : ∀ e ∈ b.ent,PredOk e.p) (oe : PredOk (rgP 1 9))
  (hQ : ∀ (x : World) (v19 v20 v21 v22 v23 v24 v25 v26 v27 v28 : Value) (m1 : Option Addr) (m2 m3 : Nat) (m4 : Option Addr) (m5 m6 : Nat) (m7 : Option Addr) (m8 m9 : Nat) (m10 : Option Addr) (m11 m12 : Nat) (m13 : Option Addr) (m14 m15 : Nat),Box x bb #[.int .i64 (addB b (⟨(1,0),(2,0),rgP 1 9,2,false⟩ : En)).1.me,.slice m1 m2 m3,.slice m4 m5 m6,.slice m7 m8 m9,.slice m10 m11 m12,.slice m13 m14 m15] 31 → BrN x (addB b (⟨(1,0),(2,0),rgP 1 9,2,false⟩ : En)).1 (m1,m2,m3) (m4,m5,m6) (m7,m8,m9) (m10,m11,m12) (m13,m14,m15) → Rg.Sto bb W x → Q .normal ⟨(u0 :: .pointer (some ⟨b1,0,none⟩) :: .func (.func 94) #[] #[] :: .pointer (some ⟨bb,0,none⟩) :: u4 :: .bool (addB b (⟨(1,0),(2,0),rgP 1 9,2,false⟩ : En)).2 :: u6 :: u7 :: u8 :: u9 :: u10 :: u11 :: u12 :: u13 :: u14 :: u15 :: u16 :: u17 :: u18 :: v19 :: v20 :: v21 :: v22 :: v23 :: v24 :: v25 :: v26 :: v27 :: v28 :: u29 :: u30 :: u31 :: u32 :: u33 :: u34 :: u35 :: u36 :: u37 :: u38 :: u39 :: u40 :: u41 :: u42 :: u43 :: u44 :: u45 :: u46 :: u47 :: u48 :: u49 :: u50 :: u51 :: u52 :: u53 :: u54 :: u55 :: u56 :: u57 :: u58 :: u59 :: u60 :: u61 :: u62 :: u63 :: u64 :: u65 :: u66 :: u67 :: u68 :: u69 :: u70 :: u71 :: u72 :: u73 :: u74 :: u75 :: u76 :: u77 :: []).toArray,[]⟩ x) :
  Code.wp Tryz.prog sr4C Q ⟨(u0 :: .pointer (some ⟨b1,0,none⟩) :: .func (.func 94) #[] #[] :: .pointer (some ⟨bb,0,none⟩) :: u4 :: u5 :: u6 :: u7 :: u8 :: u9 :: u10 :: u11 :: u12 :: u13 :: u14 :: u15 :: u16 :: u17 :: u18 :: u19 :: u20 :: u21 :: u22 :: u23 :: u24 :: u25 :: u26 :: u27 :: u28 :: u29 :: u30 :: u31 :: u32 :: u33 :: u34 :: u35 :: u36 :: u37 :: u38 :: u39 :: u40 :: u41 :: u42 :: u43 :: u44 :: u45 :: u46 :: u47 :: u48 :: u49 :: u50 :: u51 :: u52 :: u53 :: u54 :: u55 :: u56 :: u57 :: u58 :: u59 :: u60 :: u61 :: u62 :: u63 :: u64 :: u65 :: u66 :: u67 :: u68 :: u69 :: u70 :: u71 :: u72 :: u73 :: u74 :: u75 :: u76 :: u77 :: []).toArray,[]⟩ W := by
 have HQ := Lib.hid hQ
 have H1 := Lib.hid h1
 have HB := Lib.hid hbox
 have BN := Lib.hid bn
 have FW := Lib.hid fw
 have FP := Lib.hid fp
 have RE := Lib.hid re
 have OK := Lib.hid ok
 have OE := Lib.hid oe
 clear hQ h1 hbox bn fw fp re ok oe
 unfold sr4C
 conv => arg 2; whnf
 have nb1 : ∀ i,i < 12 → [20,21,22,23,24,25,26,19,27,28,27,5].getD i 0 ≠ 1 := by decide
 have nb2 : ∀ i,i < 12 → [20,21,22,23,24,25,26,19,27,28,27,5].getD i 0 ≠ 2 := by decide
 have nb3 : ∀ i,i < 12 → [20,21,22,23,24,25,26,19,27,28,27,5].getD i 0 ≠ 3 := by decide
 refine Rg.region_st 12 10 8 (fun i => [20,21,22,23,24,25,26,19,27,28,27,5].getD i 0) (fun i => if i = 4 then 5 else if i = 5 then 6 else 12) (sr4V W.heap.size bb b1 b s1 s2 s3 s4 s5 s6 s7 s8 s9 s10 s11 s12 s13 s14 s15) (fun i => i == 9 || i == 11) 31 bb #[.int .i64 b.me,.slice s1 s2 s3,.slice s4 s5 s6,.slice s7 s8 s9,.slice s10 s11 s12,.slice s13 s14 s15] (fun v => match v with | .agg c => c | _ => #[]) (by kernel_rfl) (by kernel_rfl) rfl (by decide) (by decide) (by decide) (by decide) HB.out (fun i j hi hj h1 h2 h => (by decide : ∀ i,i < 12 → ∀ j,j < 12 → i ≠ 10 → j ≠ 10 → [20,21,22,23,24,25,26,19,27,28,27,5].getD i 0 = [20,21,22,23,24,25,26,19,27,28,27,5].getD j 0 → i = j) i hi j hj h1 h2 h) (fun i hi _ => (by decide : ∀ i,i < 12 → [20,21,22,23,24,25,26,19,27,28,27,5].getD i 0 < 78) i hi) ?_ ?_ (by decide) ?_ ?_ (fun j h1 h2 => (by decide : ∀ j,j < 12 → j ≠ 10 → 12 ≤ (fun i => if i = 4 then 5 else if i = 5 then 6 else 12) j ∨ ((fun i => if i = 4 then 5 else if i = 5 then 6 else 12) j < 12 ∧ (fun i => if i = 4 then 5 else if i = 5 then 6 else 12) j ≠ 10 ∧ (fun i => i == 9 || i == 11) ((fun i => if i = 4 then 5 else if i = 5 then 6 else 12) j) = false)) j h1 h2) ?_
 ·intro i v x x' hi h hb
  rcases (by omega : i = 0 ∨ i = 1 ∨ i = 2 ∨ i = 3 ∨ i = 4 ∨ i = 5 ∨ i = 6 ∨ i = 7 ∨ i = 8 ∨ i = 9 ∨ i = 10 ∨ i = 11) with rfl | rfl | rfl | rfl | rfl | rfl | rfl | rfl | rfl | rfl | rfl | rfl
  ·exact h
  ·exact h
  ·exact h
  ·exact h
  ·obtain ⟨s,h1,h2⟩ := h; exact ⟨s,h1,h2.on hb⟩
  ·obtain ⟨z,h1,h2⟩ := h; exact ⟨z,h1,h2.on hb⟩
  ·obtain ⟨a1,a2,a3,a4,a5,h1,h2⟩ := h; exact ⟨a1,a2,a3,a4,a5,h1,h2.on hb⟩
  ·obtain ⟨a1,a2,a3,a4,a5,h1,h2⟩ := h; exact ⟨a1,a2,a3,a4,a5,h1,h2.on hb⟩
  ·obtain ⟨a1,a2,a3,a4,a5,h1,h2⟩ := h; exact ⟨a1,a2,a3,a4,a5,h1,h2.on hb⟩
  ·exact h
  ·exact h
  ·exact h
 ·intro o ho i hi hiS hfi
  obtain rfl := Option.some.inj ho
  have h9 : i ≠ 9 := fun e => by rw [e] at hfi; simp at hfi
  have h11 : i ≠ 11 := fun e => by rw [e] at hfi; simp at hfi
  rcases (by omega : i = 0 ∨ i = 1 ∨ i = 2 ∨ i = 3 ∨ i = 4 ∨ i = 5 ∨ i = 6 ∨ i = 7 ∨ i = 8) with rfl | rfl | rfl | rfl | rfl | rfl | rfl | rfl | rfl
  ·exact ⟨⟨0,.phase⟩,by simp,rfl,rfl⟩
  ·exact ⟨⟨1,.phase⟩,by simp,rfl,rfl⟩
  ·exact ⟨⟨2,.phase⟩,by simp,rfl,rfl⟩
  ·exact ⟨⟨3,.phase⟩,by simp,rfl,rfl⟩
  ·exact ⟨⟨4,.phase⟩,by simp,rfl,rfl⟩
  ·exact ⟨⟨5,.phase⟩,by simp,rfl,rfl⟩
  ·exact ⟨⟨6,.chain⟩,by simp,rfl,rfl⟩
  ·exact ⟨⟨7,.phase⟩,by simp,rfl,rfl⟩
  ·exact ⟨⟨8,.data⟩,by simp,rfl,rfl⟩
 ·intro i o hi hiS ho a x hpre seen K hK
  clear HQ
  rcases (by omega : i = 0 ∨ i = 1 ∨ i = 2 ∨ i = 3 ∨ i = 4 ∨ i = 5 ∨ i = 6 ∨ i = 7 ∨ i = 8 ∨ i = 9 ∨ i = 11) with rfl | rfl | rfl | rfl | rfl | rfl | rfl | rfl | rfl | rfl | rfl
  ·obtain rfl := Option.some.inj ho
   obtain ⟨hb,hbx⟩ := hpre rfl
   have e3 : a.eval (.tmp 3) = .pointer (some ⟨bb,0,none⟩) := seen.kp 3 _ nb3 rfl
   exact Rg.op_value rfl rfl (Rg.ex_load a.eval _ 31 (.tmp 3) rfl (by rw [e3]; exact loadBr hbx)) (hK _ x rfl (Below.refl _ _))
  ·obtain rfl := Option.some.inj ho
   obtain ⟨hb,hbx⟩ := hpre rfl
   have e1 : a.eval (.tmp 1) = .pointer (some ⟨b1,0,none⟩) := seen.kp 1 _ nb1 rfl
   obtain ⟨y0,y1⟩ := (H1.out.on hb).cs2
   exact Rg.op_value rfl rfl (Rg.ex_load a.eval _ 38 (.tmp 1) rfl (by rw [e1]; simp [go_sem,y0,y1])) (hK _ x rfl (Below.refl _ _))
  ·obtain rfl := Option.some.inj ho
   obtain ⟨hb,hbx⟩ := hpre rfl
   exact Rg.op_value rfl rfl (Rg.ex_buildS a.eval _ 38 #[(0,.const (.int .i64 2))] rfl (by simp only [List.map_toArray,List.map_cons,List.map_nil]; rfl) (by simp [go_sem])) (hK _ x rfl (Below.refl _ _))
  ·obtain rfl := Option.some.inj ho
   obtain ⟨hb,hbx⟩ := hpre rfl
   have e2 : a.eval (.tmp 2) = .func (.func 94) #[] #[] := seen.kp 2 _ nb2 rfl
   exact Rg.op_value rfl rfl (Rg.ex_move a.eval _ (.tmp 2) rfl x) (hK _ x e2 (Below.refl _ _))
  ·obtain rfl := Option.some.inj ho
   obtain ⟨hb,hbx⟩ := hpre rfl
   have e23 : a.eval (.tmp 23) = .func (.func 94) #[] #[] := seen.at_ ⟨3,.data⟩ (by simp) rfl (by decide) (Or.inr (by decide))
   exact Rg.op_call rfl rfl (ex_callv0 a.eval _ (.tmp 23) (.const (.int .i64 1)) (.const (.int .i64 9)) 3 3 94 rfl rfl rfl e23 _ (call_fn Tryz.func94 rfl rfl _ _)) (mkp_any 1 9 x) fun e w1 h => by
    obtain ⟨⟨sl,rfl,h2⟩,h5⟩ := h
    exact ⟨_,rfl,hK _ _ ⟨sl,rfl,h2⟩ h5⟩
  ·obtain rfl := Option.some.inj ho
   obtain ⟨hb,hbx⟩ := hpre rfl
   have e21 : a.eval (.tmp 21) = .agg #[.int .i64 1,.int .i64 0] := seen.at_ ⟨1,.data⟩ (by simp) rfl (by decide) (Or.inr (by decide))
   have e22 : a.eval (.tmp 22) = .agg #[.int .i64 2,.int .i64 0] := seen.at_ ⟨2,.data⟩ (by simp) rfl (by decide) (Or.inr (by decide))
   have E24 := seen.at_ ⟨4,.data⟩ (by simp) rfl (by decide) (Or.inl rfl)
   obtain ⟨⟨l1,l2,l3⟩,q0,q1⟩ := E24
   have q0 : a.eval (.tmp 24) = .slice l1 l2 l3 := q0
   have q2 : RowC x (.slice l1 l2 l3) (rgP 1 9) := by rw [← q0]; exact q1
   exact Rg.op_value rfl rfl (Rg.ex_buildS a.eval _ 43 #[(0,.tmp 21),(1,.tmp 22),(2,.tmp 24),(3,.const (.int .i64 2))] rfl (by simp only [List.map_toArray,List.map_cons,List.map_nil,e21,e22,q0]; rfl) (v := .agg #[.int .i64 1,.int .i64 0,.int .i64 2,.int .i64 0,.slice l1 l2 l3,.int .i64 2,.bool false]) (by simp [go_sem])) (hK _ x ⟨(1,0,2,0,(l1,l2,l3),2,false),rfl,rfl,rfl,rfl,rfl,q2⟩ (Below.refl _ _))
  ·obtain rfl := Option.some.inj ho
   obtain ⟨hb,hbx⟩ := hpre rfl
   have e20 : a.eval (.tmp 20) = brv b.me (s1,s2,s3) (s4,s5,s6) (s7,s8,s9) (s10,s11,s12) (s13,s14,s15) := seen.at_ ⟨0,.data⟩ (by simp) rfl (by decide) (Or.inr (by decide))
   have E25 := seen.at_ ⟨5,.data⟩ (by simp) rfl (by decide) (Or.inl rfl)
   obtain ⟨z,q0,q1⟩ := E25
   exact Rg.op_call rfl rfl (Rw.ex_call2 a.eval _ (.tmp 20) (.tmp 25) 31 43 16 rfl e20 q0 rfl _ (call_fn Tryz.func16 rfl rfl _ _)) (sadd_any b (⟨(1,0),(2,0),rgP 1 9,2,false⟩ : En) (s1,s2,s3) (s4,s5,s6) (s7,s8,s9) (s10,s11,s12) (s13,s14,s15) z x (BN.out.on hb).br q1 FW.out FP.out RE.out OK.out OE.out) fun e w1 h => by
    obtain ⟨⟨a1,a2,a3,a4,a5,rfl,h2,h3⟩,h5⟩ := h
    exact ⟨_,rfl,hK _ _ ⟨a1,a2,a3,a4,a5,rfl,h2,h3 (BN.out.on hb).no⟩ h5⟩
  ·obtain rfl := Option.some.inj ho
   obtain ⟨hb,hbx⟩ := hpre rfl
   have E26 := seen.at_ ⟨6,.data⟩ (by simp) rfl (by decide) (Or.inr (by decide))
   exact Rg.op_value rfl rfl (Rg.ex_move a.eval _ (.tmp 26) rfl x) (hK _ x E26 (Below.refl _ _))
  ·obtain rfl := Option.some.inj ho
   obtain ⟨hb,hbx⟩ := hpre rfl
   have E19 := seen.at_ ⟨7,.data⟩ (by simp) rfl (by decide) (Or.inr (by decide))
   obtain ⟨a1,a2,a3,a4,a5,h1,h2⟩ := E19
   exact Rg.op_value rfl rfl (ex_extract a.eval _ (.tmp 19) 0 rfl (c := #[brv (addB b (⟨(1,0),(2,0),rgP 1 9,2,false⟩ : En)).1.me a1 a2 a3 a4 a5,.bool (addB b (⟨(1,0),(2,0),rgP 1 9,2,false⟩ : En)).2]) h1 rfl x) (hK _ x ⟨a1,a2,a3,a4,a5,rfl,h2⟩ (Below.refl _ _))
  ·obtain rfl := Option.some.inj ho
   have E19 := seen.at_ ⟨7,.data⟩ (by simp) rfl (by decide) (Or.inr (by decide))
   obtain ⟨a1,a2,a3,a4,a5,h1,h2⟩ := E19
   exact Rg.op_value rfl rfl (ex_extract a.eval _ (.tmp 19) 1 rfl (c := #[brv (addB b (⟨(1,0),(2,0),rgP 1 9,2,false⟩ : En)).1.me a1 a2 a3 a4 a5,.bool (addB b (⟨(1,0),(2,0),rgP 1 9,2,false⟩ : En)).2]) h1 rfl x) (hK _ x rfl (Below.refl _ _))
  ·obtain rfl := Option.some.inj ho
   have e28 : a.eval (.tmp 28) = .bool (addB b (⟨(1,0),(2,0),rgP 1 9,2,false⟩ : En)).2 := seen.at_ ⟨9,.data⟩ (by simp) rfl (by decide) (Or.inr (by decide))
   exact Rg.op_value rfl rfl (Rg.ex_assign a.eval _ (.tmp 28) rfl x) (hK _ x e28 (Below.refl _ _))
 ·intro o ho a x v hb hbx hC hvC hbase K hK
  clear HQ
  obtain rfl := Option.some.inj ho
  have eB : a.eval (.tmp 3) = .pointer (some ⟨bb,0,none⟩) := hbase 3 _ rfl nb3
  obtain ⟨⟨m1,m2,m3⟩,⟨m4,m5,m6⟩,⟨m7,m8,m9⟩,⟨m10,m11,m12⟩,⟨m13,m14,m15⟩,hv1,hv2⟩ := hvC
  subst hv1
  have hbut := but_setB x bb (.int .i64 (addB b (⟨(1,0),(2,0),rgP 1 9,2,false⟩ : En)).1.me) (.slice m1 m2 m3) (.slice m4 m5 m6) (.slice m7 m8 m9) (.slice m10 m11 m12) (.slice m13 m14 m15)
  refine Rg.op_store 31 (.tmp 3) (.tmp 27) rfl rfl rfl rfl eB hC (w' := setB x bb (.int .i64 (addB b (⟨(1,0),(2,0),rgP 1 9,2,false⟩ : En)).1.me) (.slice m1 m2 m3) (.slice m4 m5 m6) (.slice m7 m8 m9) (.slice m10 m11 m12) (.slice m13 m14 m15)) (storeBr hbx _ _ _ _ _ _ _ _ _ _ _ _ _ _ _ _) (hK _ hbut (fun B w hB h => setB_below h hB _ _ _ _ _ _) (setB_box hbx _ _ _ _ _ _) ?_)
  exact fun j u hj hjS hl h => by
   rcases (by omega : j = 0 ∨ j = 1 ∨ j = 2 ∨ j = 3 ∨ j = 4 ∨ j = 5 ∨ j = 6 ∨ j = 7 ∨ j = 8 ∨ j = 9 ∨ j = 11) with rfl | rfl | rfl | rfl | rfl | rfl | rfl | rfl | rfl | rfl | rfl
   ·have h2 : u = brv b.me (s1,s2,s3) (s4,s5,s6) (s7,s8,s9) (s10,s11,s12) (s13,s14,s15) := h; exact h2
   ·have h2 : u = .agg #[.int .i64 1,.int .i64 0] := h; exact h2
   ·have h2 : u = .agg #[.int .i64 2,.int .i64 0] := h; exact h2
   ·have h2 : u = .func (.func 94) #[] #[] := h; exact h2
   ·exact absurd hl (by decide)
   ·exact absurd hl (by decide)
   ·obtain ⟨a1,a2,a3,a4,a5,h1,h2⟩ := h; exact ⟨a1,a2,a3,a4,a5,h1,h2.keep (s1 := (s1,s2,s3)) (s2 := (s4,s5,s6)) (s3 := (s7,s8,s9)) (s4 := (s10,s11,s12)) (s5 := (s13,s14,s15)) hbx hbut⟩
   ·obtain ⟨a1,a2,a3,a4,a5,h1,h2⟩ := h; exact ⟨a1,a2,a3,a4,a5,h1,h2.keep (s1 := (s1,s2,s3)) (s2 := (s4,s5,s6)) (s3 := (s7,s8,s9)) (s4 := (s10,s11,s12)) (s5 := (s13,s14,s15)) hbx hbut⟩
   ·obtain ⟨a1,a2,a3,a4,a5,h1,h2⟩ := h; exact ⟨a1,a2,a3,a4,a5,h1,h2.keep (s1 := (s1,s2,s3)) (s2 := (s4,s5,s6)) (s3 := (s7,s8,s9)) (s4 := (s10,s11,s12)) (s5 := (s13,s14,s15)) hbx hbut⟩
   ·have h2 : u = .bool (addB b (⟨(1,0),(2,0),rgP 1 9,2,false⟩ : En)).2 := h; exact h2
   ·have h2 : u = .bool (addB b (⟨(1,0),(2,0),rgP 1 9,2,false⟩ : En)).2 := h; exact h2
 ·intro a x v df sz kp gC hbx hvC hsto ⟨vs,hv⟩
  obtain ⟨⟨m1,m2,m3⟩,⟨m4,m5,m6⟩,⟨m7,m8,m9⟩,⟨m10,m11,m12⟩,⟨m13,m14,m15⟩,hv1,hv2⟩ := hvC
  subst hv1
  have g5 : a.tmps[5]? = some (.bool (addB b (⟨(1,0),(2,0),rgP 1 9,2,false⟩ : En)).2) := by
   have h : vs 11 = .bool (addB b (⟨(1,0),(2,0),rgP 1 9,2,false⟩ : En)).2 := (hv 11 (by decide) (by decide)).2 (by decide)
   rw [← h]
   exact (hv 11 (by decide) (by decide)).1
  obtain ⟨w5,hw5⟩ : ∃ v,a.tmps[5]? = some v := ⟨_,Array.getElem?_eq_getElem (by rw [sz]; simp)⟩
  have kp2 : ∀ j,(j < 19 ∨ 29 ≤ j) → a.tmps[j]? = (u0 :: .pointer (some ⟨b1,0,none⟩) :: .func (.func 94) #[] #[] :: .pointer (some ⟨bb,0,none⟩) :: u4 :: w5 :: u6 :: u7 :: u8 :: u9 :: u10 :: u11 :: u12 :: u13 :: u14 :: u15 :: u16 :: u17 :: u18 :: u19 :: u20 :: u21 :: u22 :: u23 :: u24 :: u25 :: u26 :: u27 :: u28 :: u29 :: u30 :: u31 :: u32 :: u33 :: u34 :: u35 :: u36 :: u37 :: u38 :: u39 :: u40 :: u41 :: u42 :: u43 :: u44 :: u45 :: u46 :: u47 :: u48 :: u49 :: u50 :: u51 :: u52 :: u53 :: u54 :: u55 :: u56 :: u57 :: u58 :: u59 :: u60 :: u61 :: u62 :: u63 :: u64 :: u65 :: u66 :: u67 :: u68 :: u69 :: u70 :: u71 :: u72 :: u73 :: u74 :: u75 :: u76 :: u77 :: [])[j]? := fun j hj => by
   by_cases hj5 : j = 5
   ·subst hj5; exact hw5
   have hs : (u0 :: .pointer (some ⟨b1,0,none⟩) :: .func (.func 94) #[] #[] :: .pointer (some ⟨bb,0,none⟩) :: u4 :: w5 :: u6 :: u7 :: u8 :: u9 :: u10 :: u11 :: u12 :: u13 :: u14 :: u15 :: u16 :: u17 :: u18 :: u19 :: u20 :: u21 :: u22 :: u23 :: u24 :: u25 :: u26 :: u27 :: u28 :: u29 :: u30 :: u31 :: u32 :: u33 :: u34 :: u35 :: u36 :: u37 :: u38 :: u39 :: u40 :: u41 :: u42 :: u43 :: u44 :: u45 :: u46 :: u47 :: u48 :: u49 :: u50 :: u51 :: u52 :: u53 :: u54 :: u55 :: u56 :: u57 :: u58 :: u59 :: u60 :: u61 :: u62 :: u63 :: u64 :: u65 :: u66 :: u67 :: u68 :: u69 :: u70 :: u71 :: u72 :: u73 :: u74 :: u75 :: u76 :: u77 :: [] : List Value) = ((u0 :: .pointer (some ⟨b1,0,none⟩) :: .func (.func 94) #[] #[] :: .pointer (some ⟨bb,0,none⟩) :: u4 :: u5 :: u6 :: u7 :: u8 :: u9 :: u10 :: u11 :: u12 :: u13 :: u14 :: u15 :: u16 :: u17 :: u18 :: u19 :: u20 :: u21 :: u22 :: u23 :: u24 :: u25 :: u26 :: u27 :: u28 :: u29 :: u30 :: u31 :: u32 :: u33 :: u34 :: u35 :: u36 :: u37 :: u38 :: u39 :: u40 :: u41 :: u42 :: u43 :: u44 :: u45 :: u46 :: u47 :: u48 :: u49 :: u50 :: u51 :: u52 :: u53 :: u54 :: u55 :: u56 :: u57 :: u58 :: u59 :: u60 :: u61 :: u62 :: u63 :: u64 :: u65 :: u66 :: u67 :: u68 :: u69 :: u70 :: u71 :: u72 :: u73 :: u74 :: u75 :: u76 :: u77 :: [] : List Value)).set 5 w5 := rfl
   rw [hs,List.getElem?_set_ne (Ne.symm hj5)]
   exact (kp j (fun i hi h => by have := (by decide : ∀ i,i < 12 → [20,21,22,23,24,25,26,19,27,28,27,5].getD i 0 = 5 ∨ (19 ≤ [20,21,22,23,24,25,26,19,27,28,27,5].getD i 0 ∧ [20,21,22,23,24,25,26,19,27,28,27,5].getD i 0 < 29)) i hi; omega)).trans List.getElem?_toArray
  obtain ⟨mid,hmid,rfl⟩ := Rg.frame_mid 19 10 df (by rw [sz]; rfl) (by simp) kp2
  match mid,hmid with
  | [v19,v20,v21,v22,v23,v24,v25,v26,v27,v28],_ =>
   obtain rfl : w5 = .bool (addB b (⟨(1,0),(2,0),rgP 1 9,2,false⟩ : En)).2 := Option.some.inj (hw5.symm.trans g5)
   exact HQ.out x _ _ _ _ _ _ _ _ _ _ m1 m2 m3 m4 m5 m6 m7 m8 m9 m10 m11 m12 m13 m14 m15 hbx hv2 hsto
def sr5V (_B : Nat) (_bb _b1 : Nat) (b : Br) (s1 : Option Addr) (s2 s3 : Nat) (s4 : Option Addr) (s5 s6 : Nat) (s7 : Option Addr) (s8 s9 : Nat) (s10 : Option Addr) (s11 s12 : Nat) (s13 : Option Addr) (s14 s15 : Nat) (i : Nat) (v : Value) (x : World) : Prop :=
 match i with
 | 0 => v = brv b.me (s1,s2,s3) (s4,s5,s6) (s7,s8,s9) (s10,s11,s12) (s13,s14,s15)
 | 1 => v = .agg #[.int .i64 1,.int .i64 0]
 | 2 => v = .agg #[.int .i64 3,.int .i64 0]
 | 3 => v = .func (.func 94) #[] #[]
 | 4 => ∃ sl : Sl,v = slv sl ∧ RowC x v (rgP 2 3)
 | 5 => ∃ z : XEn,v = valN z ∧ EnIn x z (⟨(1,0),(3,0),rgP 2 3,2,false⟩ : En)
 | 6 => ∃ nv av sv ev ov : Sl,v = .tuple #[brv (addB b (⟨(1,0),(3,0),rgP 2 3,2,false⟩ : En)).1.me nv av sv ev ov,.bool (addB b (⟨(1,0),(3,0),rgP 2 3,2,false⟩ : En)).2] ∧ BrN x (addB b (⟨(1,0),(3,0),rgP 2 3,2,false⟩ : En)).1 nv av sv ev ov
 | 7 => ∃ nv av sv ev ov : Sl,v = .tuple #[brv (addB b (⟨(1,0),(3,0),rgP 2 3,2,false⟩ : En)).1.me nv av sv ev ov,.bool (addB b (⟨(1,0),(3,0),rgP 2 3,2,false⟩ : En)).2] ∧ BrN x (addB b (⟨(1,0),(3,0),rgP 2 3,2,false⟩ : En)).1 nv av sv ev ov
 | 8 => ∃ nv av sv ev ov : Sl,v = brv (addB b (⟨(1,0),(3,0),rgP 2 3,2,false⟩ : En)).1.me nv av sv ev ov ∧ BrN x (addB b (⟨(1,0),(3,0),rgP 2 3,2,false⟩ : En)).1 nv av sv ev ov
 | 9 => v = .bool (addB b (⟨(1,0),(3,0),rgP 2 3,2,false⟩ : En)).2
 | 10 => True
 | 11 => v = .bool (addB b (⟨(1,0),(3,0),rgP 2 3,2,false⟩ : En)).2
 | _ => True
noncomputable def sr5C : Code := ((Tryz.f29.body.bind (findRegion 5)).getD .skip)
theorem sr5 (Q : Exit → Act → World → Prop) (W : World) (bb b1 : Nat) (b : Br) (s1 : Option Addr) (s2 s3 : Nat) (s4 : Option Addr) (s5 s6 : Nat) (s7 : Option Addr) (s8 s9 : Nat) (s10 : Option Addr) (s11 s12 : Nat) (s13 : Option Addr) (s14 s15 : Nat) (u0 u4 u5 u6 u7 u8 u9 u10 u11 u12 u13 u14 u15 u16 u17 u18 u19 u20 u21 u22 u23 u24 u25 u26 u27 u28 u29 u30 u31 u32 u33 u34 u35 u36 u37 u38 u39 u40 u41 u42 u43 u44 u45 u46 u47 u48 u49 u50 u51 u52 u53 u54 u55 u56 u57 u58 u59 u60 u61 u62 u63 u64 u65 u66 u67 u68 u69 u70 u71 u72 u73 u74 u75 u76 u77 : Value)
  (h1 : Box W b1 #[.int .i64 1,.int .i64 0] 38) (hbox : Box W bb #[.int .i64 b.me,.slice s1 s2 s3,.slice s4 s5 s6,.slice s7 s8 s9,.slice s10 s11 s12,.slice s13 s14 s15] 31) (bn : BrN W b (s1,s2,s3) (s4,s5,s6) (s7,s8,s9) (s10,s11,s12) (s13,s14,s15)) (fw : Few b) (fp : FewP b) (re : RiseE b.ent) (ok : ∀ e ∈ b.ent,PredOk e.p) (oe : PredOk (rgP 2 3))
  (hQ : ∀ (x : World) (v29 v30 v31 v32 v33 v34 v35 v36 v37 v38 : Value) (m1 : Option Addr) (m2 m3 : Nat) (m4 : Option Addr) (m5 m6 : Nat) (m7 : Option Addr) (m8 m9 : Nat) (m10 : Option Addr) (m11 m12 : Nat) (m13 : Option Addr) (m14 m15 : Nat),Box x bb #[.int .i64 (addB b (⟨(1,0),(3,0),rgP 2 3,2,false⟩ : En)).1.me,.slice m1 m2 m3,.slice m4 m5 m6,.slice m7 m8 m9,.slice m10 m11 m12,.slice m13 m14 m15] 31 → BrN x (addB b (⟨(1,0),(3,0),rgP 2 3,2,false⟩ : En)).1 (m1,m2,m3) (m4,m5,m6) (m7,m8,m9) (m10,m11,m12) (m13,m14,m15) → Rg.Sto bb W x → Q .normal ⟨(u0 :: .pointer (some ⟨b1,0,none⟩) :: .func (.func 94) #[] #[] :: .pointer (some ⟨bb,0,none⟩) :: u4 :: u5 :: .bool (addB b (⟨(1,0),(3,0),rgP 2 3,2,false⟩ : En)).2 :: u7 :: u8 :: u9 :: u10 :: u11 :: u12 :: u13 :: u14 :: u15 :: u16 :: u17 :: u18 :: u19 :: u20 :: u21 :: u22 :: u23 :: u24 :: u25 :: u26 :: u27 :: u28 :: v29 :: v30 :: v31 :: v32 :: v33 :: v34 :: v35 :: v36 :: v37 :: v38 :: u39 :: u40 :: u41 :: u42 :: u43 :: u44 :: u45 :: u46 :: u47 :: u48 :: u49 :: u50 :: u51 :: u52 :: u53 :: u54 :: u55 :: u56 :: u57 :: u58 :: u59 :: u60 :: u61 :: u62 :: u63 :: u64 :: u65 :: u66 :: u67 :: u68 :: u69 :: u70 :: u71 :: u72 :: u73 :: u74 :: u75 :: u76 :: u77 :: []).toArray,[]⟩ x) :
  Code.wp Tryz.prog sr5C Q ⟨(u0 :: .pointer (some ⟨b1,0,none⟩) :: .func (.func 94) #[] #[] :: .pointer (some ⟨bb,0,none⟩) :: u4 :: u5 :: u6 :: u7 :: u8 :: u9 :: u10 :: u11 :: u12 :: u13 :: u14 :: u15 :: u16 :: u17 :: u18 :: u19 :: u20 :: u21 :: u22 :: u23 :: u24 :: u25 :: u26 :: u27 :: u28 :: u29 :: u30 :: u31 :: u32 :: u33 :: u34 :: u35 :: u36 :: u37 :: u38 :: u39 :: u40 :: u41 :: u42 :: u43 :: u44 :: u45 :: u46 :: u47 :: u48 :: u49 :: u50 :: u51 :: u52 :: u53 :: u54 :: u55 :: u56 :: u57 :: u58 :: u59 :: u60 :: u61 :: u62 :: u63 :: u64 :: u65 :: u66 :: u67 :: u68 :: u69 :: u70 :: u71 :: u72 :: u73 :: u74 :: u75 :: u76 :: u77 :: []).toArray,[]⟩ W := by
 have HQ := Lib.hid hQ
 have H1 := Lib.hid h1
 have HB := Lib.hid hbox
 have BN := Lib.hid bn
 have FW := Lib.hid fw
 have FP := Lib.hid fp
 have RE := Lib.hid re
 have OK := Lib.hid ok
 have OE := Lib.hid oe
 clear hQ h1 hbox bn fw fp re ok oe
 unfold sr5C
 conv => arg 2; whnf
 have nb1 : ∀ i,i < 12 → [30,31,32,33,34,35,36,29,37,38,37,6].getD i 0 ≠ 1 := by decide
 have nb2 : ∀ i,i < 12 → [30,31,32,33,34,35,36,29,37,38,37,6].getD i 0 ≠ 2 := by decide
 have nb3 : ∀ i,i < 12 → [30,31,32,33,34,35,36,29,37,38,37,6].getD i 0 ≠ 3 := by decide
 refine Rg.region_st 12 10 8 (fun i => [30,31,32,33,34,35,36,29,37,38,37,6].getD i 0) (fun i => if i = 4 then 5 else if i = 5 then 6 else 12) (sr5V W.heap.size bb b1 b s1 s2 s3 s4 s5 s6 s7 s8 s9 s10 s11 s12 s13 s14 s15) (fun i => i == 9 || i == 11) 31 bb #[.int .i64 b.me,.slice s1 s2 s3,.slice s4 s5 s6,.slice s7 s8 s9,.slice s10 s11 s12,.slice s13 s14 s15] (fun v => match v with | .agg c => c | _ => #[]) (by kernel_rfl) (by kernel_rfl) rfl (by decide) (by decide) (by decide) (by decide) HB.out (fun i j hi hj h1 h2 h => (by decide : ∀ i,i < 12 → ∀ j,j < 12 → i ≠ 10 → j ≠ 10 → [30,31,32,33,34,35,36,29,37,38,37,6].getD i 0 = [30,31,32,33,34,35,36,29,37,38,37,6].getD j 0 → i = j) i hi j hj h1 h2 h) (fun i hi _ => (by decide : ∀ i,i < 12 → [30,31,32,33,34,35,36,29,37,38,37,6].getD i 0 < 78) i hi) ?_ ?_ (by decide) ?_ ?_ (fun j h1 h2 => (by decide : ∀ j,j < 12 → j ≠ 10 → 12 ≤ (fun i => if i = 4 then 5 else if i = 5 then 6 else 12) j ∨ ((fun i => if i = 4 then 5 else if i = 5 then 6 else 12) j < 12 ∧ (fun i => if i = 4 then 5 else if i = 5 then 6 else 12) j ≠ 10 ∧ (fun i => i == 9 || i == 11) ((fun i => if i = 4 then 5 else if i = 5 then 6 else 12) j) = false)) j h1 h2) ?_
 ·intro i v x x' hi h hb
  rcases (by omega : i = 0 ∨ i = 1 ∨ i = 2 ∨ i = 3 ∨ i = 4 ∨ i = 5 ∨ i = 6 ∨ i = 7 ∨ i = 8 ∨ i = 9 ∨ i = 10 ∨ i = 11) with rfl | rfl | rfl | rfl | rfl | rfl | rfl | rfl | rfl | rfl | rfl | rfl
  ·exact h
  ·exact h
  ·exact h
  ·exact h
  ·obtain ⟨s,h1,h2⟩ := h; exact ⟨s,h1,h2.on hb⟩
  ·obtain ⟨z,h1,h2⟩ := h; exact ⟨z,h1,h2.on hb⟩
  ·obtain ⟨a1,a2,a3,a4,a5,h1,h2⟩ := h; exact ⟨a1,a2,a3,a4,a5,h1,h2.on hb⟩
  ·obtain ⟨a1,a2,a3,a4,a5,h1,h2⟩ := h; exact ⟨a1,a2,a3,a4,a5,h1,h2.on hb⟩
  ·obtain ⟨a1,a2,a3,a4,a5,h1,h2⟩ := h; exact ⟨a1,a2,a3,a4,a5,h1,h2.on hb⟩
  ·exact h
  ·exact h
  ·exact h
 ·intro o ho i hi hiS hfi
  obtain rfl := Option.some.inj ho
  have h9 : i ≠ 9 := fun e => by rw [e] at hfi; simp at hfi
  have h11 : i ≠ 11 := fun e => by rw [e] at hfi; simp at hfi
  rcases (by omega : i = 0 ∨ i = 1 ∨ i = 2 ∨ i = 3 ∨ i = 4 ∨ i = 5 ∨ i = 6 ∨ i = 7 ∨ i = 8) with rfl | rfl | rfl | rfl | rfl | rfl | rfl | rfl | rfl
  ·exact ⟨⟨0,.phase⟩,by simp,rfl,rfl⟩
  ·exact ⟨⟨1,.phase⟩,by simp,rfl,rfl⟩
  ·exact ⟨⟨2,.phase⟩,by simp,rfl,rfl⟩
  ·exact ⟨⟨3,.phase⟩,by simp,rfl,rfl⟩
  ·exact ⟨⟨4,.phase⟩,by simp,rfl,rfl⟩
  ·exact ⟨⟨5,.phase⟩,by simp,rfl,rfl⟩
  ·exact ⟨⟨6,.chain⟩,by simp,rfl,rfl⟩
  ·exact ⟨⟨7,.phase⟩,by simp,rfl,rfl⟩
  ·exact ⟨⟨8,.data⟩,by simp,rfl,rfl⟩
 ·intro i o hi hiS ho a x hpre seen K hK
  clear HQ
  rcases (by omega : i = 0 ∨ i = 1 ∨ i = 2 ∨ i = 3 ∨ i = 4 ∨ i = 5 ∨ i = 6 ∨ i = 7 ∨ i = 8 ∨ i = 9 ∨ i = 11) with rfl | rfl | rfl | rfl | rfl | rfl | rfl | rfl | rfl | rfl | rfl
  ·obtain rfl := Option.some.inj ho
   obtain ⟨hb,hbx⟩ := hpre rfl
   have e3 : a.eval (.tmp 3) = .pointer (some ⟨bb,0,none⟩) := seen.kp 3 _ nb3 rfl
   exact Rg.op_value rfl rfl (Rg.ex_load a.eval _ 31 (.tmp 3) rfl (by rw [e3]; exact loadBr hbx)) (hK _ x rfl (Below.refl _ _))
  ·obtain rfl := Option.some.inj ho
   obtain ⟨hb,hbx⟩ := hpre rfl
   have e1 : a.eval (.tmp 1) = .pointer (some ⟨b1,0,none⟩) := seen.kp 1 _ nb1 rfl
   obtain ⟨y0,y1⟩ := (H1.out.on hb).cs2
   exact Rg.op_value rfl rfl (Rg.ex_load a.eval _ 38 (.tmp 1) rfl (by rw [e1]; simp [go_sem,y0,y1])) (hK _ x rfl (Below.refl _ _))
  ·obtain rfl := Option.some.inj ho
   obtain ⟨hb,hbx⟩ := hpre rfl
   exact Rg.op_value rfl rfl (Rg.ex_buildS a.eval _ 38 #[(0,.const (.int .i64 3))] rfl (by simp only [List.map_toArray,List.map_cons,List.map_nil]; rfl) (by simp [go_sem])) (hK _ x rfl (Below.refl _ _))
  ·obtain rfl := Option.some.inj ho
   obtain ⟨hb,hbx⟩ := hpre rfl
   have e2 : a.eval (.tmp 2) = .func (.func 94) #[] #[] := seen.kp 2 _ nb2 rfl
   exact Rg.op_value rfl rfl (Rg.ex_move a.eval _ (.tmp 2) rfl x) (hK _ x e2 (Below.refl _ _))
  ·obtain rfl := Option.some.inj ho
   obtain ⟨hb,hbx⟩ := hpre rfl
   have e33 : a.eval (.tmp 33) = .func (.func 94) #[] #[] := seen.at_ ⟨3,.data⟩ (by simp) rfl (by decide) (Or.inr (by decide))
   exact Rg.op_call rfl rfl (ex_callv0 a.eval _ (.tmp 33) (.const (.int .i64 2)) (.const (.int .i64 3)) 3 3 94 rfl rfl rfl e33 _ (call_fn Tryz.func94 rfl rfl _ _)) (mkp_any 2 3 x) fun e w1 h => by
    obtain ⟨⟨sl,rfl,h2⟩,h5⟩ := h
    exact ⟨_,rfl,hK _ _ ⟨sl,rfl,h2⟩ h5⟩
  ·obtain rfl := Option.some.inj ho
   obtain ⟨hb,hbx⟩ := hpre rfl
   have e31 : a.eval (.tmp 31) = .agg #[.int .i64 1,.int .i64 0] := seen.at_ ⟨1,.data⟩ (by simp) rfl (by decide) (Or.inr (by decide))
   have e32 : a.eval (.tmp 32) = .agg #[.int .i64 3,.int .i64 0] := seen.at_ ⟨2,.data⟩ (by simp) rfl (by decide) (Or.inr (by decide))
   have E34 := seen.at_ ⟨4,.data⟩ (by simp) rfl (by decide) (Or.inl rfl)
   obtain ⟨⟨l1,l2,l3⟩,q0,q1⟩ := E34
   have q0 : a.eval (.tmp 34) = .slice l1 l2 l3 := q0
   have q2 : RowC x (.slice l1 l2 l3) (rgP 2 3) := by rw [← q0]; exact q1
   exact Rg.op_value rfl rfl (Rg.ex_buildS a.eval _ 43 #[(0,.tmp 31),(1,.tmp 32),(2,.tmp 34),(3,.const (.int .i64 2))] rfl (by simp only [List.map_toArray,List.map_cons,List.map_nil,e31,e32,q0]; rfl) (v := .agg #[.int .i64 1,.int .i64 0,.int .i64 3,.int .i64 0,.slice l1 l2 l3,.int .i64 2,.bool false]) (by simp [go_sem])) (hK _ x ⟨(1,0,3,0,(l1,l2,l3),2,false),rfl,rfl,rfl,rfl,rfl,q2⟩ (Below.refl _ _))
  ·obtain rfl := Option.some.inj ho
   obtain ⟨hb,hbx⟩ := hpre rfl
   have e30 : a.eval (.tmp 30) = brv b.me (s1,s2,s3) (s4,s5,s6) (s7,s8,s9) (s10,s11,s12) (s13,s14,s15) := seen.at_ ⟨0,.data⟩ (by simp) rfl (by decide) (Or.inr (by decide))
   have E35 := seen.at_ ⟨5,.data⟩ (by simp) rfl (by decide) (Or.inl rfl)
   obtain ⟨z,q0,q1⟩ := E35
   exact Rg.op_call rfl rfl (Rw.ex_call2 a.eval _ (.tmp 30) (.tmp 35) 31 43 16 rfl e30 q0 rfl _ (call_fn Tryz.func16 rfl rfl _ _)) (sadd_any b (⟨(1,0),(3,0),rgP 2 3,2,false⟩ : En) (s1,s2,s3) (s4,s5,s6) (s7,s8,s9) (s10,s11,s12) (s13,s14,s15) z x (BN.out.on hb).br q1 FW.out FP.out RE.out OK.out OE.out) fun e w1 h => by
    obtain ⟨⟨a1,a2,a3,a4,a5,rfl,h2,h3⟩,h5⟩ := h
    exact ⟨_,rfl,hK _ _ ⟨a1,a2,a3,a4,a5,rfl,h2,h3 (BN.out.on hb).no⟩ h5⟩
  ·obtain rfl := Option.some.inj ho
   obtain ⟨hb,hbx⟩ := hpre rfl
   have E36 := seen.at_ ⟨6,.data⟩ (by simp) rfl (by decide) (Or.inr (by decide))
   exact Rg.op_value rfl rfl (Rg.ex_move a.eval _ (.tmp 36) rfl x) (hK _ x E36 (Below.refl _ _))
  ·obtain rfl := Option.some.inj ho
   obtain ⟨hb,hbx⟩ := hpre rfl
   have E29 := seen.at_ ⟨7,.data⟩ (by simp) rfl (by decide) (Or.inr (by decide))
   obtain ⟨a1,a2,a3,a4,a5,h1,h2⟩ := E29
   exact Rg.op_value rfl rfl (ex_extract a.eval _ (.tmp 29) 0 rfl (c := #[brv (addB b (⟨(1,0),(3,0),rgP 2 3,2,false⟩ : En)).1.me a1 a2 a3 a4 a5,.bool (addB b (⟨(1,0),(3,0),rgP 2 3,2,false⟩ : En)).2]) h1 rfl x) (hK _ x ⟨a1,a2,a3,a4,a5,rfl,h2⟩ (Below.refl _ _))
  ·obtain rfl := Option.some.inj ho
   have E29 := seen.at_ ⟨7,.data⟩ (by simp) rfl (by decide) (Or.inr (by decide))
   obtain ⟨a1,a2,a3,a4,a5,h1,h2⟩ := E29
   exact Rg.op_value rfl rfl (ex_extract a.eval _ (.tmp 29) 1 rfl (c := #[brv (addB b (⟨(1,0),(3,0),rgP 2 3,2,false⟩ : En)).1.me a1 a2 a3 a4 a5,.bool (addB b (⟨(1,0),(3,0),rgP 2 3,2,false⟩ : En)).2]) h1 rfl x) (hK _ x rfl (Below.refl _ _))
  ·obtain rfl := Option.some.inj ho
   have e38 : a.eval (.tmp 38) = .bool (addB b (⟨(1,0),(3,0),rgP 2 3,2,false⟩ : En)).2 := seen.at_ ⟨9,.data⟩ (by simp) rfl (by decide) (Or.inr (by decide))
   exact Rg.op_value rfl rfl (Rg.ex_assign a.eval _ (.tmp 38) rfl x) (hK _ x e38 (Below.refl _ _))
 ·intro o ho a x v hb hbx hC hvC hbase K hK
  clear HQ
  obtain rfl := Option.some.inj ho
  have eB : a.eval (.tmp 3) = .pointer (some ⟨bb,0,none⟩) := hbase 3 _ rfl nb3
  obtain ⟨⟨m1,m2,m3⟩,⟨m4,m5,m6⟩,⟨m7,m8,m9⟩,⟨m10,m11,m12⟩,⟨m13,m14,m15⟩,hv1,hv2⟩ := hvC
  subst hv1
  have hbut := but_setB x bb (.int .i64 (addB b (⟨(1,0),(3,0),rgP 2 3,2,false⟩ : En)).1.me) (.slice m1 m2 m3) (.slice m4 m5 m6) (.slice m7 m8 m9) (.slice m10 m11 m12) (.slice m13 m14 m15)
  refine Rg.op_store 31 (.tmp 3) (.tmp 37) rfl rfl rfl rfl eB hC (w' := setB x bb (.int .i64 (addB b (⟨(1,0),(3,0),rgP 2 3,2,false⟩ : En)).1.me) (.slice m1 m2 m3) (.slice m4 m5 m6) (.slice m7 m8 m9) (.slice m10 m11 m12) (.slice m13 m14 m15)) (storeBr hbx _ _ _ _ _ _ _ _ _ _ _ _ _ _ _ _) (hK _ hbut (fun B w hB h => setB_below h hB _ _ _ _ _ _) (setB_box hbx _ _ _ _ _ _) ?_)
  exact fun j u hj hjS hl h => by
   rcases (by omega : j = 0 ∨ j = 1 ∨ j = 2 ∨ j = 3 ∨ j = 4 ∨ j = 5 ∨ j = 6 ∨ j = 7 ∨ j = 8 ∨ j = 9 ∨ j = 11) with rfl | rfl | rfl | rfl | rfl | rfl | rfl | rfl | rfl | rfl | rfl
   ·have h2 : u = brv b.me (s1,s2,s3) (s4,s5,s6) (s7,s8,s9) (s10,s11,s12) (s13,s14,s15) := h; exact h2
   ·have h2 : u = .agg #[.int .i64 1,.int .i64 0] := h; exact h2
   ·have h2 : u = .agg #[.int .i64 3,.int .i64 0] := h; exact h2
   ·have h2 : u = .func (.func 94) #[] #[] := h; exact h2
   ·exact absurd hl (by decide)
   ·exact absurd hl (by decide)
   ·obtain ⟨a1,a2,a3,a4,a5,h1,h2⟩ := h; exact ⟨a1,a2,a3,a4,a5,h1,h2.keep (s1 := (s1,s2,s3)) (s2 := (s4,s5,s6)) (s3 := (s7,s8,s9)) (s4 := (s10,s11,s12)) (s5 := (s13,s14,s15)) hbx hbut⟩
   ·obtain ⟨a1,a2,a3,a4,a5,h1,h2⟩ := h; exact ⟨a1,a2,a3,a4,a5,h1,h2.keep (s1 := (s1,s2,s3)) (s2 := (s4,s5,s6)) (s3 := (s7,s8,s9)) (s4 := (s10,s11,s12)) (s5 := (s13,s14,s15)) hbx hbut⟩
   ·obtain ⟨a1,a2,a3,a4,a5,h1,h2⟩ := h; exact ⟨a1,a2,a3,a4,a5,h1,h2.keep (s1 := (s1,s2,s3)) (s2 := (s4,s5,s6)) (s3 := (s7,s8,s9)) (s4 := (s10,s11,s12)) (s5 := (s13,s14,s15)) hbx hbut⟩
   ·have h2 : u = .bool (addB b (⟨(1,0),(3,0),rgP 2 3,2,false⟩ : En)).2 := h; exact h2
   ·have h2 : u = .bool (addB b (⟨(1,0),(3,0),rgP 2 3,2,false⟩ : En)).2 := h; exact h2
 ·intro a x v df sz kp gC hbx hvC hsto ⟨vs,hv⟩
  obtain ⟨⟨m1,m2,m3⟩,⟨m4,m5,m6⟩,⟨m7,m8,m9⟩,⟨m10,m11,m12⟩,⟨m13,m14,m15⟩,hv1,hv2⟩ := hvC
  subst hv1
  have g6 : a.tmps[6]? = some (.bool (addB b (⟨(1,0),(3,0),rgP 2 3,2,false⟩ : En)).2) := by
   have h : vs 11 = .bool (addB b (⟨(1,0),(3,0),rgP 2 3,2,false⟩ : En)).2 := (hv 11 (by decide) (by decide)).2 (by decide)
   rw [← h]
   exact (hv 11 (by decide) (by decide)).1
  obtain ⟨w6,hw6⟩ : ∃ v,a.tmps[6]? = some v := ⟨_,Array.getElem?_eq_getElem (by rw [sz]; simp)⟩
  have kp2 : ∀ j,(j < 29 ∨ 39 ≤ j) → a.tmps[j]? = (u0 :: .pointer (some ⟨b1,0,none⟩) :: .func (.func 94) #[] #[] :: .pointer (some ⟨bb,0,none⟩) :: u4 :: u5 :: w6 :: u7 :: u8 :: u9 :: u10 :: u11 :: u12 :: u13 :: u14 :: u15 :: u16 :: u17 :: u18 :: u19 :: u20 :: u21 :: u22 :: u23 :: u24 :: u25 :: u26 :: u27 :: u28 :: u29 :: u30 :: u31 :: u32 :: u33 :: u34 :: u35 :: u36 :: u37 :: u38 :: u39 :: u40 :: u41 :: u42 :: u43 :: u44 :: u45 :: u46 :: u47 :: u48 :: u49 :: u50 :: u51 :: u52 :: u53 :: u54 :: u55 :: u56 :: u57 :: u58 :: u59 :: u60 :: u61 :: u62 :: u63 :: u64 :: u65 :: u66 :: u67 :: u68 :: u69 :: u70 :: u71 :: u72 :: u73 :: u74 :: u75 :: u76 :: u77 :: [])[j]? := fun j hj => by
   by_cases hj6 : j = 6
   ·subst hj6; exact hw6
   have hs : (u0 :: .pointer (some ⟨b1,0,none⟩) :: .func (.func 94) #[] #[] :: .pointer (some ⟨bb,0,none⟩) :: u4 :: u5 :: w6 :: u7 :: u8 :: u9 :: u10 :: u11 :: u12 :: u13 :: u14 :: u15 :: u16 :: u17 :: u18 :: u19 :: u20 :: u21 :: u22 :: u23 :: u24 :: u25 :: u26 :: u27 :: u28 :: u29 :: u30 :: u31 :: u32 :: u33 :: u34 :: u35 :: u36 :: u37 :: u38 :: u39 :: u40 :: u41 :: u42 :: u43 :: u44 :: u45 :: u46 :: u47 :: u48 :: u49 :: u50 :: u51 :: u52 :: u53 :: u54 :: u55 :: u56 :: u57 :: u58 :: u59 :: u60 :: u61 :: u62 :: u63 :: u64 :: u65 :: u66 :: u67 :: u68 :: u69 :: u70 :: u71 :: u72 :: u73 :: u74 :: u75 :: u76 :: u77 :: [] : List Value) = ((u0 :: .pointer (some ⟨b1,0,none⟩) :: .func (.func 94) #[] #[] :: .pointer (some ⟨bb,0,none⟩) :: u4 :: u5 :: u6 :: u7 :: u8 :: u9 :: u10 :: u11 :: u12 :: u13 :: u14 :: u15 :: u16 :: u17 :: u18 :: u19 :: u20 :: u21 :: u22 :: u23 :: u24 :: u25 :: u26 :: u27 :: u28 :: u29 :: u30 :: u31 :: u32 :: u33 :: u34 :: u35 :: u36 :: u37 :: u38 :: u39 :: u40 :: u41 :: u42 :: u43 :: u44 :: u45 :: u46 :: u47 :: u48 :: u49 :: u50 :: u51 :: u52 :: u53 :: u54 :: u55 :: u56 :: u57 :: u58 :: u59 :: u60 :: u61 :: u62 :: u63 :: u64 :: u65 :: u66 :: u67 :: u68 :: u69 :: u70 :: u71 :: u72 :: u73 :: u74 :: u75 :: u76 :: u77 :: [] : List Value)).set 6 w6 := rfl
   rw [hs,List.getElem?_set_ne (Ne.symm hj6)]
   exact (kp j (fun i hi h => by have := (by decide : ∀ i,i < 12 → [30,31,32,33,34,35,36,29,37,38,37,6].getD i 0 = 6 ∨ (29 ≤ [30,31,32,33,34,35,36,29,37,38,37,6].getD i 0 ∧ [30,31,32,33,34,35,36,29,37,38,37,6].getD i 0 < 39)) i hi; omega)).trans List.getElem?_toArray
  obtain ⟨mid,hmid,rfl⟩ := Rg.frame_mid 29 10 df (by rw [sz]; rfl) (by simp) kp2
  match mid,hmid with
  | [v29,v30,v31,v32,v33,v34,v35,v36,v37,v38],_ =>
   obtain rfl : w6 = .bool (addB b (⟨(1,0),(3,0),rgP 2 3,2,false⟩ : En)).2 := Option.some.inj (hw6.symm.trans g6)
   exact HQ.out x _ _ _ _ _ _ _ _ _ _ m1 m2 m3 m4 m5 m6 m7 m8 m9 m10 m11 m12 m13 m14 m15 hbx hv2 hsto
end Go.Proofs.YtncogjpmboglhaaGreat.Sb
