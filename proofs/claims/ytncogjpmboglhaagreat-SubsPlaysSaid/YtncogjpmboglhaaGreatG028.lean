/-
  Covered, Find and Tight of package subs. Conditions as told.
-/
import Derived.Test.YtncogjpmboglhaaGreatG026
import Derived.Test.YtncogjpmboglhaaGreatG027
import Derived.Test.YtncogjpmboglhaaGreatG024
import Derived.Test.YtncogjpmboglhaaGreatG023
import Derived.Test.YtncogjpmboglhaaGreatG025
import Derived.Test.YtncogjpmboglhaaGreatG013
set_option maxRecDepth 100000
set_option maxHeartbeats 64000000
namespace Go.Proofs.YtncogjpmboglhaaGreat.Sb
open Go.RowKit Go.Sort Rw YtncogjpmboglhaaGreat.Nm Pr Bk Av Rl
theorem cut_in {W : World} {v : Sl} {l : List XEn} {m : List En} (hv : RowN W (slv v) l) (hA : All2 (EnIn W) l m) (t : XID) : RowN W (slv (cutV v (fromT m t) (brE m t).length)) ((l.drop (fromT m t)).take (brE m t).length) ∧ All2 (EnIn W) ((l.drop (fromT m t)).take (brE m t).length) (brE m t) := by
 refine ⟨(row_cut hv _ _ (by rw [hA.len]; exact fromT_len m t)).2,?_⟩
 have h := (hA.drop (fromT m t)).take (brE m t).length
 have e : (m.drop (fromT m t)).take (brE m t).length = brE m t := by
  unfold brE
  conv => lhs; arg 2; rw [← List.takeWhile_append_dropWhile (p := fun e : En => decide (e.tree = t)) (l := m.drop (fromT m t))]
  rw [List.take_left]
 rw [e] at h
 exact h
theorem br_sub (m : List En) (t : XID) : ∀ e ∈ brE m t,e ∈ m := fun _ he => List.mem_of_mem_drop ((List.takeWhile_sublist _).subset he)
theorem scov_any (me : Int) (nv av sv ov : Value) (ev : Sl) (l : List XEn) (m : List En) (t : XID) (pv : Value) (p' : List C5) (w : World) (hs : RowN w (slv ev) l) (hu : All2 (EnIn w) l m) (hr : RiseE m) (hl : l.length ≤ 1000) (hp : RowC w pv p') (hok : ∀ e ∈ m,PredOk e.p) (hop : PredOk p') :
  Calls Tryz.prog 14 #[.agg #[.int .i64 me,nv,av,sv,slv ev,ov],idv t,pv] w fun e w' => e = .returned (.bool (coveredE m t p')) ∧ Below w.heap.size w w' := by
 obtain ⟨pa,pc,rfl⟩ := hp.len
 obtain ⟨so,n,sc⟩ := ev
 obtain ⟨c,d⟩ := t
 obtain ⟨h0,X,Y⟩ := two_new w #[.int .i64 me,nv,av,sv,.slice so n sc,ov] #[.int .i64 c,.int .i64 d] 31 38
 have B := Lib.hid h0
 have x4 := X.cell 4
 obtain ⟨y0,y1⟩ := Y.cs2
 simp only [List.getElem?_toArray,List.getElem?_cons_zero,List.getElem?_cons_succ] at x4
 have BR := Lib.hid (branch_any (so,n,sc) l m (c,d) _ (hs.on h0) (hu.mono fun _ _ q => q.on h0) hr hl)
 obtain ⟨q1,q2⟩ := cut_in (hs.on h0) (hu.mono fun _ _ q => q.on h0) (c,d)
 have Q1 := Lib.hid q1
 have Q2 := Lib.hid q2
 have HP := Lib.hid (hp.on h0)
 have OK := Lib.hid (fun e he => hok e (br_sub m (c,d) e he))
 have CB := Lib.hid (cov_br hr (c,d) p')
 generalize p'.length = pn at *
 generalize coveredE m (c,d) p' = r at *
 generalize cutV (so,n,sc) (fromT m (c,d)) (brE m (c,d)).length = z at *
 obtain ⟨z1,z2,z3⟩ := z
 clear h0 X Y hs hu hr hl hp hok q1 q2
 go_enter Tryz.func14,Tryz.ntmps14
 go_wp2_with fail
 generalize (w.alloc (.cells #[.int .i64 me,nv,av,sv,.slice so n sc,ov] 31)).alloc (.cells #[.int .i64 c,.int .i64 d] 38) = W at *
 refine BR.out.mono ?_
 rintro e1 w1 ⟨rfl,hb⟩
 have HB := Lib.hid hb
 have CV := Lib.hid (covered_any (z1,z2,z3) (.slice pa pn pc) _ (brE m (c,d)) p' w1 (Q1.out.on hb) (Q2.out.mono fun _ _ q => q.on hb) (HP.out.on hb) OK.out hop)
 clear x4 y0 y1 hb BR
 go_wp2_with fail
 refine CV.out.mono ?_
 rintro e2 w2 ⟨rfl,hb2⟩
 go_wp2
 go_ret
 exact ⟨by rw [← CB.out]; rfl,B.out.trans ((HB.out.trans (hb2.mono HB.out.size)).mono B.out.size)⟩
def findE (m : List En) (t s : XID) : Option En := match m[placeP (m.map keyE) (t,s)]? with
 | none => none
 | some e => if keyE e = (t,s) then some e else none
def FiQ (w : World) (o : Option En) (e : Ending) (w' : World) : Prop := (match o with
 | none => e = .returned (.tuple #[valN (0,0,0,0,(none,0,0),0,false),.bool false])
 | some a => ∃ r : XEn,e = .returned (.tuple #[valN r,.bool true]) ∧ EnIn w' r a) ∧ Below w.heap.size w w'
theorem find_some {m : List En} {t s : XID} (h : thereE m t s = true) : ∃ e,m[placeP (m.map keyE) (t,s)]? = some e ∧ keyE e = (t,s) ∧ findE m t s = some e := by
 unfold thereE at h
 cases hm : m[placeP (m.map keyE) (t,s)]? with
 | none => rw [hm] at h; cases h
 | some e =>
  rw [hm] at h
  have hk := of_decide_eq_true h
  exact ⟨e,rfl,hk,by unfold findE; rw [hm]; simp only; rw [if_pos hk]⟩
theorem find_not {m : List En} {t s : XID} (h : thereE m t s = false) : findE m t s = none := by
 unfold thereE at h
 unfold findE
 cases hm : m[placeP (m.map keyE) (t,s)]? with
 | none => rfl
 | some e =>
  rw [hm] at h
  simp only
  rw [if_neg (of_decide_eq_false h)]
theorem sfind_any (me : Int) (nv av sv ov : Value) (ev : Sl) (l : List XEn) (m : List En) (t s : XID) (w : World) (hs : RowN w (slv ev) l) (hu : All2 (EnIn w) l m) (hr : RiseE m) (hl : l.length ≤ 1000) (hf : ∀ e ∈ m,e.p.length ≤ 900) :
  Calls Tryz.prog 25 #[.agg #[.int .i64 me,nv,av,sv,slv ev,ov],idv t,idv s] w (FiQ w (findE m t s)) := by
 obtain ⟨so,n,sc⟩ := ev
 obtain ⟨c,d⟩ := t
 obtain ⟨g,h⟩ := s
 obtain ⟨h0,X,Y,Z,V⟩ := four_new w #[.int .i64 me,nv,av,sv,.slice so n sc,ov] #[.int .i64 c,.int .i64 d] #[.int .i64 g,.int .i64 h] #[.int .i64 0,.int .i64 0,.int .i64 0,.int .i64 0,.slice none 0 0,.int .i64 0,.bool false] 31 38 38 43
 have B := Lib.hid h0
 have x4 := X.cell 4
 obtain ⟨y0,y1⟩ := Y.cs2
 obtain ⟨z0,z1⟩ := Z.cs2
 simp only [List.getElem?_toArray,List.getElem?_cons_zero,List.getElem?_cons_succ] at x4
 have HS := Lib.hid (hs.on h0)
 have HU := Lib.hid (hu.mono fun _ _ q => q.on h0)
 have PL := Lib.hid (place_any (so,n,sc) l m (c,d) (g,h) _ HS.out HU.out hr hl)
 have X1 := Lib.hid X
 have V1 := Lib.hid V
 have HF := Lib.hid hf
 have hn := sl_len hs
 have HN := Lib.hid hn
 obtain ⟨th,hth⟩ : ∃ k,thereE m (c,d) (g,h) = k := ⟨_,rfl⟩
 rw [hth] at PL
 obtain ⟨k,hk⟩ : ∃ k,placeP (m.map keyE) ((c,d),(g,h)) = k := ⟨_,rfl⟩
 rw [hk] at PL
 have HK := Lib.hid hk
 obtain ⟨fo,hfo⟩ : ∃ o,findE m (c,d) (g,h) = o := ⟨_,rfl⟩
 rw [hfo]
 have FO := Lib.hid hfo
 have SV := Lib.hid V.lt
 clear h0 X Y Z V hs hu hr hl hf hn hk hfo
 go_enter Tryz.func25,Tryz.ntmps25
 go_wp2_with fail
 generalize (((w.alloc (.cells #[.int .i64 me,nv,av,sv,.slice so n sc,ov] 31)).alloc (.cells #[.int .i64 c,.int .i64 d] 38)).alloc (.cells #[.int .i64 g,.int .i64 h] 38)).alloc (.cells #[.int .i64 0,.int .i64 0,.int .i64 0,.int .i64 0,.slice none 0 0,.int .i64 0,.bool false] 43) = W at *
 refine PL.out.mono ?_
 rintro e1 w1 ⟨rfl,hb⟩
 have HB := Lib.hid hb
 have X2 := Lib.hid (X1.out.on hb)
 have V2 := V1.out.on hb
 have BB := Lib.hid (B.out.trans (hb.mono B.out.size))
 clear x4 y0 y1 z0 z1 PL hb
 have x4 := X2.out.cell 4
 simp only [List.getElem?_toArray,List.getElem?_cons_zero,List.getElem?_cons_succ] at x4
 cases th
 ·have FN := Lib.hid (show fo = none by rw [← FO.out]; exact find_not hth)
  obtain ⟨v0,v1,v2,v3,v4,v5,v6⟩ := V2.cs7
  obtain ⟨f0,f1,f2,f3,f4,f5,f6⟩ := V2.fs7
  have zz := V2.lt
  have FB := Lib.hid (setE_box V2 (.int .i64 0) (.int .i64 0) (.int .i64 0) (.int .i64 0) (.slice none 0 0) (.int .i64 0) (.bool false))
  have BL := Lib.hid (setE_below (b := w.heap.size + 1 + 1 + 1) BB.out (by omega) (.int .i64 0) (.int .i64 0) (.int .i64 0) (.int .i64 0) (.slice none 0 0) (.int .i64 0) (.bool false))
  clear V2 hth
  go_wp2_with fail
  clear v0 v1 v2 v3 v4 v5 v6
  obtain ⟨v0,v1,v2,v3,v4,v5,v6⟩ := FB.out.cs7
  refine bodyPost_ret (v := .tuple #[.agg #[.int .i64 0,.int .i64 0,.int .i64 0,.int .i64 0,.slice none 0 0,.int .i64 0,.bool false],.bool false]) (by simp [results,Tryz.results25,go_sem,v0,v1,v2,v3,v4,v5,v6]) rfl ?_
  rw [FN.out]
  exact ⟨rfl,BL.out⟩
 ·obtain ⟨e,he,hke,hfe⟩ := find_some hth
  have FE := Lib.hid (show fo = some e by rw [← FO.out]; exact hfe)
  rw [HK.out] at he
  have hkm := (List.getElem?_eq_some_iff.1 he).1
  have hkn : k < n := by rw [← HN.out,HU.out.len]; exact hkm
  obtain ⟨y,hy,hx⟩ := HU.out.at k e he
  obtain ⟨p,ix,px⟩ := elN HS.out rfl HN.out hy
  obtain ⟨p0,p1,p2,p3,p4,p5,p6⟩ := px w1 HB.out
  obtain ⟨y1,y2,y3,y4,⟨yo,yn,yc⟩,y6,y7⟩ := y
  simp only at p0 p1 p2 p3 p4 p5 p6
  have CP := Lib.hid (cpE_any (y1,y2,y3,y4,(yo,yn,yc),y6,y7) e.p w1 (hx.2.2.2.2.on HB.out) (HF.out e (List.mem_of_getElem? he)))
  have HX := Lib.hid hx
  have V3 := Lib.hid V2
  clear px hy hx he hke hfe hth V2 hkm
  go_wp2_with fail
  refine CP.out.mono ?_
  rintro e2 w2 ⟨⟨⟨u1,u2,u3⟩,rfl,ho⟩,hb⟩
  have Y1 := V3.out.on hb
  have SZ := Lib.hid (show w.heap.size + 1 + 1 + 1 < w1.heap.size from V3.out.lt)
  have B2 := Lib.hid (BB.out.trans (hb.mono BB.out.size))
  clear CP hb p0 p1 p2 p3 p4 p5 p6 ix x4
  obtain ⟨v0,v1,v2,v3,v4,v5,v6⟩ := Y1.cs7
  obtain ⟨f0,f1,f2,f3,f4,f5,f6⟩ := Y1.fs7
  have zz := Y1.lt
  have FB := Lib.hid (setE_box Y1 (.int .i64 y1) (.int .i64 y2) (.int .i64 y3) (.int .i64 y4) (.slice u1 u2 u3) (.int .i64 y6) (.bool y7))
  have BL := Lib.hid (setE_below (b := w.heap.size + 1 + 1 + 1) B2.out (by omega) (.int .i64 y1) (.int .i64 y2) (.int .i64 y3) (.int .i64 y4) (.slice u1 u2 u3) (.int .i64 y6) (.bool y7))
  have FW := Lib.hid (setE_own ho (w.heap.size + 1 + 1 + 1) SZ.out (.int .i64 y1) (.int .i64 y2) (.int .i64 y3) (.int .i64 y4) (.slice u1 u2 u3) (.int .i64 y6) (.bool y7))
  clear Y1 ho
  go_wp2_with fail
  clear v0 v1 v2 v3 v4 v5 v6
  obtain ⟨v0,v1,v2,v3,v4,v5,v6⟩ := FB.out.cs7
  refine bodyPost_ret (v := .tuple #[.agg #[.int .i64 y1,.int .i64 y2,.int .i64 y3,.int .i64 y4,.slice u1 u2 u3,.int .i64 y6,.bool y7],.bool true]) (by simp [results,Tryz.results25,go_sem,v0,v1,v2,v3,v4,v5,v6]) rfl ?_
  rw [FE.out]
  exact ⟨⟨(y1,y2,y3,y4,(u1,u2,u3),y6,y7),rfl,HX.out.1,HX.out.2.1,HX.out.2.2.1,HX.out.2.2.2.1,Row.of_own FW.out⟩,BL.out⟩
theorem off_grown {w w' : World} {row : Option Nat} (h : w.grownBy w' row) : Off row w w' := ⟨h.block,h.size⟩
theorem app_en {wr w0 : World} {B : Nat} {v : Value} {lu : List XEn} {mu : List En} (x : XEn) (e : En) (o : OwnN wr B v lu) (hA : All2 (EnM w0 B wr) lu mu) (hx : EnM w0 B wr x e) (hn : lu.length ≤ 1000) (hB : B ≤ wr.heap.size) :
  ∃ v' w',(Builtin.append_ #[28,28] 28 #[v,.slice (some ⟨wr.heap.size,0,none⟩) 1 1]).run Tryz.prog (wr.alloc (.cells (cellsN x).toArray 43)) = .ok v' w' ∧ OwnN w' B v' (lu ++ [x]) ∧ All2 (EnM w0 B w') (lu ++ [x]) (mu ++ [e]) ∧
   (∀ B' W,B' ≤ B → Below B' W wr → Below B' W w') ∧ Off v.ownBlock (wr.alloc (.cells (cellsN x).toArray 43)) w' := by
 have NB := newB wr (.cells (cellsN x).toArray 43)
 have hlit := row_lit okN wr [x] 1 rfl (by simp) (cellsN x).toArray rfl
 have o2 : OwnN _ B v lu := Bk.own_on o NB
 have hB2 : B ≤ (wr.alloc (.cells (cellsN x).toArray 43)).heap.size := Nat.le_trans hB NB.size
 obtain ⟨v',w',r',o',gr⟩ := app_row okN B o2 (Row.of_own hlit) hn (by simp) hB2 28
 refine ⟨v',w',by simpa [EN] using r',o',?_,fun B' W hB' hb => ?_,off_grown gr⟩
 ·have hf := off_grown gr
  have hg := tag_own o2
  have g : ∀ y z,EnM w0 B wr y z → EnM w0 B w' y z := fun y z q => (q.grow NB).off hf hg (by decide)
  exact (hA.mono g).append (.cons (g _ _ hx) .nil)
 ·exact (hb.trans (NB.mono (by have := hb.size; omega))).grown gr (Nat.le_trans hB' hB2) fun j hj => Nat.le_trans hB' (o2.lt j hj).1
theorem enm_in {w0 wr : World} {B : Nat} {x : XEn} {e : En} (h : EnM w0 B wr x e) (hl : Below w0.heap.size w0 wr) : EnIn wr x e := ⟨h.1,h.2.1,h.2.2.1,h.2.2.2.1,h.2.2.2.2.row hl⟩
theorem of_any (me : Int) (nv av sv ov : Value) (ev : Sl) (l : List XEn) (m : List En) (t : XID) (w : World) (hs : RowN w (slv ev) l) (hu : All2 (EnIn w) l m) (hr : RiseE m) (hl : l.length ≤ 900) (hf : ∀ e ∈ m,e.p.length ≤ 900) :
  Calls Tryz.prog 26 #[.agg #[.int .i64 me,nv,av,sv,slv ev,ov],idv t] w fun e w' => (∃ (v' : Sl) (lu : List XEn),e = .returned (slv v') ∧ RowN w' (slv v') lu ∧ All2 (EnIn w') lu (brE m t)) ∧ Below w.heap.size w w' := by
 obtain ⟨so,n,sc⟩ := ev
 obtain ⟨c,d⟩ := t
 obtain ⟨h0,X,Y⟩ := two_new w #[.int .i64 me,nv,av,sv,.slice so n sc,ov] #[.int .i64 c,.int .i64 d] 31 38
 have B := Lib.hid h0
 have x4 := X.cell 4
 obtain ⟨y0,y1⟩ := Y.cs2
 simp only [List.getElem?_toArray,List.getElem?_cons_zero,List.getElem?_cons_succ] at x4
 have BR := Lib.hid (branch_any (so,n,sc) l m (c,d) _ (hs.on h0) (hu.mono fun _ _ q => q.on h0) hr (by omega))
 obtain ⟨q1,q2⟩ := cut_in (hs.on h0) (hu.mono fun _ _ q => q.on h0) (c,d)
 have hbl : (brE m (c,d)).length ≤ 900 := by have := fromT_len m (c,d); have := hu.len; omega
 have HF := Lib.hid (fun e he => hf e (br_sub m (c,d) e he))
 generalize (l.drop (fromT m (c,d))).take (brE m (c,d)).length = lb at *
 generalize cutV (so,n,sc) (fromT m (c,d)) (brE m (c,d)).length = z at *
 obtain ⟨z1,z2,z3⟩ := z
 generalize brE m (c,d) = mb at *
 have hn : lb.length = z2 := sl_len q1
 have HN := Lib.hid hn
 have hz : z2 ≤ 900 := by have := q2.len; omega
 have Q1 := Lib.hid q1
 have Q2 := Lib.hid q2
 clear h0 X Y hs hu hr hl hf q1 q2 hn hbl
 go_enter Tryz.func26,Tryz.ntmps26
 go_wp2_with fail
 generalize (w.alloc (.cells #[.int .i64 me,nv,av,sv,.slice so n sc,ov] 31)).alloc (.cells #[.int .i64 c,.int .i64 d] 38) = W at *
 refine BR.out.mono ?_
 rintro e1 w1 ⟨rfl,hb⟩
 have HB := Lib.hid hb
 have R1 := Lib.hid (Q1.out.on hb)
 have R2 := Lib.hid (Q2.out.mono fun _ _ q => q.on hb)
 clear x4 y0 y1 BR hb Q1 Q2
 go_wp2
 go_loopw [5,13] (fun v i wr => ∃ (k : Nat) (lu : List XEn),k ≤ z2 ∧ i = .int .i64 k ∧ Below w1.heap.size w1 wr ∧ OwnN wr w1.heap.size v lu ∧ All2 (EnM w1 w1.heap.size wr) lu (mb.take k)) (fun _ i _ => z2 - (intOf i).toNat)
 case atStart => exact ⟨0,[],Nat.zero_le _,rfl,Below.refl _ _,own_nil _ _,by simpa using All2.nil⟩
 case round =>
  obtain ⟨k,lu,hk,rfl,hbe,hown,hall⟩ := hrel
  have BE := Lib.hid hbe
  have OE := Lib.hid hown
  have AE := Lib.hid hall
  clear hbe hown hall
  by_cases hlt : k < z2
  ·obtain ⟨y,hy⟩ : ∃ y,lb[k]? = some y := ⟨_,List.getElem?_eq_getElem (by rw [HN.out]; exact hlt)⟩
   obtain ⟨q,ix,px⟩ := elN R1.out rfl HN.out hy
   obtain ⟨p0,p1,p2,p3,p4,p5,p6⟩ := px wr BE.out
   obtain ⟨e,he,_,hin⟩ := all2_key R2.out hy
   obtain ⟨y1,y2,y3,y4,⟨yo,yn,yc⟩,y6,y7⟩ := y
   simp only at p0 p1 p2 p3 p4 p5 p6
   have NB := Lib.hid (newB wr (.cells #[.int .i64 y1,.int .i64 y2,.int .i64 y3,.int .i64 y4,.slice yo yn yc,.int .i64 y6,.bool y7] 43))
   have BF := Lib.hid (BE.out.trans (NB.out.mono BE.out.size))
   have hx := box_new wr #[.int .i64 y1,.int .i64 y2,.int .i64 y3,.int .i64 y4,.slice yo yn yc,.int .i64 y6,.bool y7] 43
   obtain ⟨v0,v1,v2,v3,v4,v5,v6⟩ := hx.cs7
   have hw3 : IntKind.i64.wrap ((k : Int) + 1) = (k : Int) + 1 := IntWalk.i64_in _ (by omega)
   have CP := Lib.hid (cpE_any (y1,y2,y3,y4,(yo,yn,yc),y6,y7) e.p _ (hin.2.2.2.2.on BF.out) (HF.out e (List.mem_of_getElem? he)))
   have HI := Lib.hid hin
   have HE := Lib.hid he
   clear px hy he hin hx
   go_wp2_with fail
   refine CP.out.mono ?_
   rintro e3 w3 ⟨⟨⟨u1,u2,u3⟩,rfl,ho⟩,hb⟩
   have BG := BF.out.trans (hb.mono BF.out.size)
   have hl : lu.length = k := by rw [AE.out.len,List.length_take]; have := HN.out; have := R2.out.len; omega
   obtain ⟨v',w',r',o',a',bl,_⟩ := app_en (w0 := w1) (y1,y2,y3,y4,(u1,u2,u3),y6,y7) e (Bk.own_on (Bk.own_on OE.out NB.out) hb) (AE.out.mono fun _ _ q => (q.grow NB.out).grow hb) ⟨HI.out.1,HI.out.2.1,HI.out.2.2.1,HI.out.2.2.2.1,Or.inr (own_fewer ho BF.out.size)⟩ (by omega) (by have := BG.size; omega)
   have O2 := Lib.hid o'
   have A2 := Lib.hid a'
   have B2 := Lib.hid (bl _ w1 (Nat.le_refl _) BG)
   have E2 := Lib.hid (show mb.take (k + 1) = mb.take k ++ [e] from List.take_succ_eq_append_getElem (List.getElem?_eq_some_iff.1 HE.out).1 ▸ by rw [(List.getElem?_eq_some_iff.1 HE.out).2])
   clear CP hb ho BG hl o' a' bl v0 v1 v2 v3 v4 v5 v6 p0 p1 p2 p3 p4 p5 p6 ix NB BF
   go_wp2_with (first | (at_builtin; refine wpList_append_run rfl _ _ 28 rfl rfl rfl r' ?_) | fail)
   go_roundw
   case rel => exact ⟨k + 1,_,by omega,by go_num,B2.out,O2.out,by rw [E2.out]; exact A2.out⟩
   case measure => simp [intOf]; omega
  ·obtain rfl : z2 = k := by omega
   have e : mb.take z2 = mb := List.take_of_length_le (by have := HN.out; have := R2.out.len; omega)
   rw [e] at AE
   obtain ⟨vo1,vo2,hv⟩ := (Row.of_own OE.out).len
   subst hv
   clear e
   go_wp2
   go_ret
   exact ⟨⟨(vo1,_,vo2),lu,rfl,Row.of_own OE.out,AE.out.mono fun _ _ q => enm_in q BE.out⟩,B.out.trans ((HB.out.trans (BE.out.mono HB.out.size)).mono B.out.size)⟩
theorem predOk_len {p : List C5} (h : PredOk p) : p.length ≤ 900 := by
 obtain ⟨a,na,rfl⟩ := h
 rw [List.length_map]
 have := na.five
 omega
theorem off_far {α : Type} {E : Ek α} {ob : Option Nat} {W x : World} {B g n cap : Nat} {l : List α} (h : Off ob W x) (ho : Own E W B (.slice (some ⟨g,0,none⟩) n cap) l) (hne : some g ≠ ob) : Own E x B (.slice (some ⟨g,0,none⟩) n cap) l := by
 refine ⟨ho.1,?_⟩
 rcases ho.2 with h2 | ⟨g',cap',cur,h1,h2,h3,h4⟩
 ·exact Or.inl h2
 ·obtain ⟨rfl,_⟩ : g = g' ∧ True := by simp at h1; exact ⟨h1.1,trivial⟩
  exact Or.inr ⟨g,cap',cur,h1,h2,by rw [h.1 g (lt_of_heap h3) hne]; exact h3,h4⟩
theorem index_cut (g f k K C : Nat) (h : k < K) (w : World) : (Instr.indexAt 28 (.slice (some ⟨g,f * 7,none⟩) K C) (.int .i64 k)).run Tryz.prog w = .ok (.pointer (some ⟨g,(f + k) * 7,none⟩)) w := by
 have h1 : (Instr.indexAt 28 (.slice (some ⟨g,f * 7,none⟩) K C) (.int .i64 k)).run Tryz.prog w = .ok (.pointer (some ((⟨g,f * 7,none⟩ : Addr).add (k * 7)))) w := index_run okN ⟨g,f * 7,none⟩ k K C h w
 rw [h1]
 have e : (⟨g,f * 7,none⟩ : Addr).add (k * 7) = ⟨g,(f + k) * 7,none⟩ := by
  rw [Nat.add_mul]
  by_cases hk : k * 7 = 0
  ·rw [hk,add_zero,Nat.add_zero]
  ·rw [add_pos _ _ hk]
 rw [e]
theorem own_low {α : Type} {E : Ek α} {W : World} {B g n cap : Nat} {l : List α} (h : Own E W B (.slice (some ⟨g,0,none⟩) n cap) l) : B ≤ g := by
 rcases own_open h with ⟨h1,_⟩ | ⟨g',cap',cur,h1,h2,_⟩
 ·cases h1
 ·obtain ⟨rfl,_⟩ : g = g' ∧ True := by simp at h1; exact ⟨h1.1,trivial⟩
  exact h2
theorem But.off {g : Nat} {ob : Option Nat} {w W x : World} (h : But g w W) (ho : Off ob W x) (hb : ∀ b,ob = some b → w.heap.size ≤ b) : But g w x :=
 ⟨fun j hj hne => (ho.1 j (Nat.lt_of_lt_of_le hj h.2) fun e => by have := hb j e.symm; omega).trans (h.1 j hj hne),Nat.le_trans h.2 ho.2⟩
theorem own_blk {α : Type} {E : Ek α} {W : World} {B : Nat} {v : Value} {l : List α} (h : Own E W B v l) : ∀ b,v.ownBlock = some b → B ≤ b := by
 intro b hb
 rcases own_open h with ⟨rfl,_⟩ | ⟨g',cap',cur,rfl,h2,_⟩
 ·cases hb
 ·obtain rfl : g' = b := by simpa [Value.ownBlock] using hb
  exact h2
theorem own_cut {W : World} {B g n cap f K : Nat} {l : List XEn} (ho : OwnN W B (.slice (some ⟨g,0,none⟩) n cap) l) (hK : f + K ≤ n) (h0 : 0 < K) : RowN W (.slice (some ⟨g,f * 7,none⟩) K (cap - f)) ((l.drop f).take K) := by
 have hl : l.length = n := own_row_len ho
 have hnc : n ≤ cap := by
  rcases own_open ho with ⟨h1,_⟩ | ⟨g',cap',cur,h1,_,_,h4,_⟩
  ·cases h1
  ·obtain ⟨_,_,rfl⟩ : g = g' ∧ n = l.length ∧ cap = cap' := by simpa using h1
   rw [hl] at h4
   exact h4
 have h := (row_cut (v := (some ⟨g,0,none⟩,n,cap)) (Row.of_own ho) f K (by omega)).2
 unfold cutV at h
 simp only at h
 rw [if_neg (by omega),add_own] at h
 exact h
structure Ra (w0 w wr : World) (B g n cap : Nat) (a c : List En) (s : List En × List En) (v : Value) : Prop where
 row : ∃ l,OwnN wr B (.slice (some ⟨g,0,none⟩) n cap) l ∧ All2 (EnM w0 B wr) l (a ++ s.1 ++ c)
 up : ∃ lu,OwnN wr w.heap.size v lu ∧ All2 (EnM w0 w.heap.size wr) lu s.2
 but : But g w wr
 low : ∀ B' W,B' ≤ g → Below B' W w → Below B' W wr
theorem raise_any (w0 : World) (B g n cap f K : Nat) (ra : Option Addr) (rc : Nat) (l : List XEn) (m : List En) (w : World) (hw0 : Below w0.heap.size w0 w) (hB0 : w0.heap.size ≤ B) (ho : OwnN w B (.slice (some ⟨g,0,none⟩) n cap) l) (hA : All2 (EnM w0 B w) l m) (hfK : f + K ≤ n) (hn : n ≤ 900)
  (hra : 0 < K → ra = some ⟨g,f * 7,none⟩ ∧ rc = cap - f) (hok : ∀ e ∈ m,PredOk e.p) :
  Calls Tryz.prog 82 #[.slice ra K rc] w fun e w' => ∃ v' : Sl,e = .returned (slv v') ∧ Ra w0 w w' B g n cap (m.take f) (m.drop (f + K)) (raiseK ((m.drop f).take K) K) (slv v') := by
 obtain ⟨a,ha⟩ : ∃ a,m.take f = a := ⟨_,rfl⟩
 obtain ⟨r,hr⟩ : ∃ r,(m.drop f).take K = r := ⟨_,rfl⟩
 obtain ⟨c,hc⟩ : ∃ c,m.drop (f + K) = c := ⟨_,rfl⟩
 have hmn : m.length = n := by rw [← hA.len]; exact own_row_len ho
 have hm : m = a ++ r ++ c := by
  rw [← ha,← hr,← hc,List.append_assoc,show m.drop (f + K) = (m.drop f).drop K by rw [List.drop_drop],List.take_append_drop,List.take_append_drop]
 have hal : a.length = f := by rw [← ha,List.length_take]; omega
 have hrl : r.length = K := by rw [← hr,List.length_take,List.length_drop]; omega
 have hrr : ∀ k,(raiseK r k).1.length = K := fun k => by rw [raiseK_len,hrl]
 have hokr : ∀ k,∀ e ∈ (raiseK r k).1,PredOk e.p := fun k => by
  induction k with
  | zero => intro e he; exact hok e (by rw [hm]; exact List.mem_append_left _ (List.mem_append_right _ he))
  | succ k ih =>
   rw [raiseK_succ]
   unfold raiseStep
   split
   ·exact ih
   ·rename_i e0 he0
    split
    ·exact ih
    ·intro e he
     rcases List.mem_or_eq_of_mem_set he with h1 | h1
     ·exact ih e h1
     ·rw [h1]; exact ih e0 (List.mem_of_getElem? he0)
 rw [ha,hr,hc]
 have hgw : g < w.heap.size := by
  obtain ⟨cur,hg⟩ := own_tag ho
  exact hg.lt
 have hBg : B ≤ g := own_low ho
 have R0 : Ra w0 w w B g n cap a c (raiseK r 0) (.slice none 0 0) := ⟨⟨l,ho,by rw [show a ++ (raiseK r 0).1 ++ c = m from hm.symm]; exact hA⟩,⟨[],own_nil _ _,.nil⟩,But.of_below (Below.refl _ _),fun _ _ _ h => h⟩
 have W0 := Lib.hid hw0
 have OKR := Lib.hid hokr
 have RR := Lib.hid hrr
 have RA := Lib.hid hra
 have RL := Lib.hid hrl
 have AL_ := Lib.hid hal
 have R0 := Lib.hid R0
 have HB := Lib.hid (show w0.heap.size ≤ g from by omega)
 clear hw0 ho hA hra hok hm ha hr hc hmn hokr hrr l m hrl hal
 go_enter Tryz.func82,Tryz.ntmps82
 go_wp2
 go_loopw [3,7] (fun v i wr => ∃ k : Nat,k ≤ K ∧ i = .int .i64 k ∧ Ra w0 w wr B g n cap a c (raiseK r k) v) (fun _ i _ => K - (intOf i).toNat)
 case atStart => exact ⟨0,Nat.zero_le _,rfl,R0.out⟩
 case round =>
  obtain ⟨k,hk,rfl,hRa⟩ := hrel
  have RX := Lib.hid hRa
  have hwr : Below w0.heap.size w0 wr := hRa.low _ _ HB.out W0.out
  have WR := Lib.hid hwr
  clear hRa hwr R0
  by_cases hlt : k < K
  ·obtain ⟨hra1,hra2⟩ := RA.out (by omega)
   subst hra1
   subst hra2
   obtain ⟨L,hL,hLA⟩ := RX.out.row
   have hRk := RR.out k
   obtain ⟨s,hs⟩ : ∃ s,raiseK r k = s := ⟨_,rfl⟩
   have RS := Lib.hid (raiseK_succ r k)
   have OKS := Lib.hid (OKR.out k)
   rw [hs] at hLA hRk RX RS OKS
   obtain ⟨r',us⟩ := s
   simp only at hLA hRk OKS
   obtain ⟨e,he⟩ : ∃ e,r'[k]? = some e := ⟨_,List.getElem?_eq_getElem (by omega)⟩
   have hM : (a ++ r' ++ c)[f + k]? = some e := by
    rw [List.append_assoc,List.getElem?_append_right (by rw [AL_.out]; omega),AL_.out,Nat.add_sub_cancel_left,List.getElem?_append_left (by omega)]
    exact he
   obtain ⟨y,hy,hx⟩ := hLA.at (f + k) e hM
   have ix := index_cut g f k K (cap - f) hlt
   have cc := own_row_at okN hL hy wr (Below.refl _ _)
   obtain ⟨cur,hbx⟩ := own_tag hL
   have fr := hbx.fr ((f + k) * 7 + 6)
   have zl := hbx.lt
   obtain ⟨y1,y2,y3,y4,⟨yo,yn,yc⟩,y6,y7⟩ := y
   have c0 := cc 0 _ rfl
   have c1 := cc 1 _ rfl
   have c2 := cc 2 _ rfl
   have c3 := cc 3 _ rfl
   have c4 := cc 4 _ rfl
   have c5 := cc 5 _ rfl
   have c6 := cc 6 _ rfl
   simp [Addr.add,EN] at c0 c1 c2 c3 c4 c5 c6
   have CUT := own_cut (f := f) (K := K) hL hfK (by omega)
   have CUA : All2 (EnIn wr) ((L.drop f).take K) r' := by
    have h := ((hLA.drop f).take K).mono fun _ _ q => enm_in q WR.out
    rw [List.append_assoc,List.drop_left' AL_.out,List.take_left' hRk] at h
    exact h
   obtain ⟨t,ht⟩ : ∃ t,covB r' e.p = t := ⟨_,rfl⟩
   have CV := Lib.hid (covered_any (some ⟨g,f * 7,none⟩,K,cap - f) (.slice yo yn yc) _ r' e.p wr CUT CUA (enm_in hx WR.out).2.2.2.2 OKS.out (OKS.out e (List.mem_of_getElem? he)))
   rw [ht] at CV
   have HX := Lib.hid hx
   have HL := Lib.hid hL
   have HLA := Lib.hid hLA
   have HY := Lib.hid hy
   have HM := Lib.hid hM
   have RE := Lib.hid (show raiseK r (k + 1) = if y7 = true ∨ t = true then (r',us) else (r'.set k (upE e),us ++ [upE e]) by
    rw [RS.out]
    unfold raiseStep
    simp only [he]
    rw [ht,← hx.2.2.2.1])
   have hw3 : IntKind.i64.wrap ((k : Int) + 1) = (k : Int) + 1 := IntWalk.i64_in _ (by omega)
   have SS := Lib.hid hs
   have RK := Lib.hid hRk
   clear cc hbx CUT CUA ht hx hL hLA hy hM he RS hs hRk
   cases y7
   ·go_wp2_with fail
    refine CV.out.mono ?_
    rintro e3 w3 ⟨rfl,hb⟩
    clear CV
    cases t
    ·have d6 := (hb.cell (p := ⟨g,(f + k) * 7 + 6,none⟩) zl).trans c6
     have f6 : w3.frozen? ⟨g,(f + k) * 7 + 6,none⟩ = false := (hb.frozen (p := ⟨g,(f + k) * 7 + 6,none⟩) zl).trans fr
     have z3 : g < w3.heap.size := Nat.lt_of_lt_of_le zl hb.size
     obtain ⟨lu,hu1,hu2⟩ := RX.out.up
     obtain ⟨o4,_,_⟩ := own_upN (Bk.own_on HL.out hb) HY.out
     have bt := but_cell w3 g ((f + k) * 7 + 6) (.bool true)
     obtain ⟨cur3,hg3⟩ := own_tag (Bk.own_on HL.out hb)
     have G1 : ∀ x z,EnM w0 B wr x z → EnM w0 B (w3.setCell ⟨g,(f + k) * 7 + 6,none⟩ (.bool true)) x z := fun x z q => (q.grow hb).but bt hg3 (by decide)
     have G2 : ∀ x z,EnM w0 w.heap.size wr x z → EnM w0 w.heap.size (w3.setCell ⟨g,(f + k) * 7 + 6,none⟩ (.bool true)) x z := fun x z q => (q.grow hb).but bt hg3 (by decide)
     have O4 := Lib.hid o4
     have A4 := Lib.hid (All2.set2 (f + k) (HLA.out.mono G1) (show EnM w0 B (w3.setCell ⟨g,(f + k) * 7 + 6,none⟩ (.bool true)) (y1,y2,y3,y4,(yo,yn,yc),y6,true) (upE e) from ⟨(G1 _ _ HX.out).1,(G1 _ _ HX.out).2.1,(G1 _ _ HX.out).2.2.1,rfl,(G1 _ _ HX.out).2.2.2.2⟩))
     have U4 := Lib.hid (own_cell (Bk.own_on hu1 hb) g ((f + k) * 7 + 6) (.bool true) hgw)
     have V4 := Lib.hid (hu2.mono G2)
     have B4 := Lib.hid ((RX.out.but.trans (But.of_below hb)).trans bt)
     have L4 := Lib.hid (show ∀ B' W,B' ≤ g → Below B' W w → Below B' W (w3.setCell ⟨g,(f + k) * 7 + 6,none⟩ (.bool true)) from fun B' W h1 h2 => ((RX.out.low B' W h1 h2).trans (hb.mono (by have := zl; omega))).setCell (p := ⟨g,(f + k) * 7 + 6,none⟩) h1 _)
     have HY4 := Lib.hid (show (L.set (f + k) (y1,y2,y3,y4,(yo,yn,yc),y6,true))[f + k]? = some (y1,y2,y3,y4,(yo,yn,yc),y6,true) from List.getElem?_set_self (List.getElem?_eq_some_iff.1 HY.out).1)
     have US := Lib.hid (show lu.length ≤ 1000 by
      have h1 : lu.length = us.length := hu2.len
      have h2 := raiseK_up r k
      rw [SS.out] at h2
      simp only at h2
      omega)
     have PO := Lib.hid (predOk_len (OKS.out e (by
      have h := HM.out
      rw [List.append_assoc,List.getElem?_append_right (by rw [AL_.out]; omega),AL_.out,Nat.add_sub_cancel_left,List.getElem?_append_left (by rw [RK.out]; exact hlt)] at h
      exact List.mem_of_getElem? h)))
     have AS := Lib.hid (show (a ++ r' ++ c).set (f + k) (upE e) = a ++ r'.set k (upE e) ++ c by
      rw [List.append_assoc,List.set_append_right _ _ (by rw [AL_.out]; omega),AL_.out,Nat.add_sub_cancel_left,List.set_append_left _ _ (by rw [RK.out]; exact hlt),List.append_assoc])
     clear hu1 hu2 o4 bt hg3 G1 G2 c0 c1 c2 c3 c4 c5 c6 fr
     go_upto_region 7 with fail
     clear d6 f6 z3 hb
     generalize w3.setCell ⟨g,(f + k) * 7 + 6,none⟩ (.bool true) = w4 at *
     have cc := own_row_at okN O4.out HY4.out w4 (Below.refl _ _)
     have c0 := cc 0 _ rfl
     have c1 := cc 1 _ rfl
     have c2 := cc 2 _ rfl
     have c3 := cc 3 _ rfl
     have c4 := cc 4 _ rfl
     have c5 := cc 5 _ rfl
     have c6 := cc 6 _ rfl
     simp [Addr.add,EN] at c0 c1 c2 c3 c4 c5 c6
     have X4 := Lib.hid (show EnM w0 B w4 (y1,y2,y3,y4,(yo,yn,yc),y6,true) (upE e) from by
      obtain ⟨y',h1,h2⟩ := A4.out.at (f + k) (upE e) (List.getElem?_set_self (List.getElem?_eq_some_iff.1 HM.out).1)
      rw [HY4.out] at h1
      rw [Option.some.inj h1]
      exact h2)
     have CP := Lib.hid (cpE_any (y1,y2,y3,y4,(yo,yn,yc),y6,true) e.p w4 (enm_in X4.out (L4.out _ _ HB.out W0.out)).2.2.2.2 PO.out)
     clear cc
     go_wp2_with fail
     refine CP.out.mono ?_
     rintro e5 w5 ⟨⟨⟨u1,u2,u3⟩,rfl,ho⟩,hb⟩
     have sz4 := B4.out.2
     obtain ⟨v',w',r7,o',a',bl,hof⟩ := app_en (w0 := w0) (B := w.heap.size) (y1,y2,y3,y4,(u1,u2,u3),y6,true) (upE e) (Bk.own_on U4.out hb) (V4.out.mono fun _ _ q => q.grow hb) ⟨X4.out.1,X4.out.2.1,X4.out.2.2.1,X4.out.2.2.2.1,Or.inr (own_fewer ho sz4)⟩ US.out (by have := hb.size; omega)
     have nb := newB w5 (.cells (cellsN (y1,y2,y3,y4,(u1,u2,u3),y6,true)).toArray 43)
     have hbk := own_blk U4.out
     have RX2 := Lib.hid (show Ra w0 w w' B g n cap a c (raiseK r (k + 1)) v' from by
      rw [RE.out,if_neg (by simp)]
      have hg5 := own_tag (Bk.own_on (Bk.own_on O4.out hb) nb)
      refine ⟨⟨_,off_far hof (Bk.own_on (Bk.own_on O4.out hb) nb) fun e => ?_,?_⟩,⟨_,o',a'⟩,But.off ((B4.out.trans (But.of_below hb)).trans (But.of_below nb)) hof hbk,fun B' W h1 h2 => bl B' W (by omega) ((L4.out B' W h1 h2).trans (hb.mono (by omega)))⟩
      ·have := hbk g e.symm
       omega
      ·rw [← AS.out]
       have tg := tag_own (Bk.own_on (Bk.own_on U4.out hb) nb)
       exact A4.out.mono fun _ _ q => (((q.grow hb).grow nb).off hof tg (by decide)))
     clear CP hb ho o' a' bl hof nb hbk c0 c1 c2 c3 c4 c5 c6 ix sz4
     go_wp2_with (first | (at_builtin; refine wpList_append_run rfl _ _ 28 rfl rfl rfl r7 ?_) | fail)
     go_roundw
     case rel => exact ⟨k + 1,by omega,by go_num,RX2.out⟩
     case measure => simp [intOf]; omega
    ·have RX2 := Lib.hid (show Ra w0 w w3 B g n cap a c (raiseK r (k + 1)) _ from by
      rw [RE.out,if_pos (Or.inr rfl)]
      obtain ⟨q1,q2,q3,q4⟩ := RX.out
      exact ⟨by obtain ⟨l,h1,h2⟩ := q1; exact ⟨l,Bk.own_on h1 hb,h2.mono fun _ _ q => q.grow hb⟩,by obtain ⟨l,h1,h2⟩ := q2; exact ⟨l,Bk.own_on h1 hb,h2.mono fun _ _ q => q.grow hb⟩,q3.trans (But.of_below hb),fun B' W h1 h2 => (q4 B' W h1 h2).trans (hb.mono (by have := zl; omega))⟩)
     clear hb c0 c1 c2 c3 c4 c5 c6 fr ix
     go_wp2
     go_roundw
     case rel => exact ⟨k + 1,by omega,by go_num,RX2.out⟩
     case measure => simp [intOf]; omega
   ·clear CV
    have RX2 := Lib.hid (show Ra w0 w wr B g n cap a c (raiseK r (k + 1)) _ from by
     rw [RE.out,if_pos (Or.inl rfl)]
     exact RX.out)
    go_wp2
    go_roundw
    case rel => exact ⟨k + 1,by omega,by go_num,RX2.out⟩
    case measure => simp [intOf]; omega
  ·obtain rfl : K = k := by omega
   obtain ⟨lu,hu,_⟩ := RX.out.up
   obtain ⟨vo1,vo2,hv⟩ := (Row.of_own hu).len
   subst hv
   clear hu
   go_wp2
   go_ret
   exact ⟨(vo1,_,vo2),rfl,RX.out⟩
theorem PM.less {w0 wr : World} {B B' : Nat} {v : Value} {p : List C5} (h : PM w0 B wr v p) (hB : B' ≤ B) : PM w0 B' wr v p := h.imp id fun h => own_fewer h hB
theorem Cp.less {w0 wr : World} {B B' : Nat} {b : Br} {nv av sv ev ov : Sl} (h : Cp w0 B wr b nv av sv ev ov) (hB : B' ≤ B) : Cp w0 B' wr b nv av sv ev ov where
 near := own_fewer h.near hB
 seen := own_fewer h.seen hB
 adv := by obtain ⟨l,h1,h2⟩ := h.adv; exact ⟨l,own_fewer h1 hB,h2.mono fun _ _ q => ⟨q.1,q.2.1,PM.less q.2.2 hB⟩⟩
 ent := by obtain ⟨l,h1,h2⟩ := h.ent; exact ⟨l,own_fewer h1 hB,h2.mono fun _ _ q => ⟨q.1,q.2.1,q.2.2.1,q.2.2.2.1,PM.less q.2.2.2.2 hB⟩⟩
 own := by obtain ⟨l,h1,h2⟩ := h.own; exact ⟨l,own_fewer h1 hB,h2.mono fun _ _ q => ⟨q.1,PM.less q.2 hB⟩⟩
def addF (b : Br) (e : En) : Br × Bool := match findA b.adv e.tree with
 | none => (b,false)
 | some a => if thereE b.ent e.tree e.sub = true then (b,false) else if e.from_ = a.par ∧ a.par ≠ -1 then (b,false) else
  ({ b with ent := insAt b.ent (placeP (b.ent.map keyE) (e.tree,e.sub)) { e with up := !(a.par == -1) && !coveredE b.ent e.tree e.p } },!(a.par == -1) && !coveredE b.ent e.tree e.p)
theorem addF_eq {b : Br} (hr : RiseE b.ent) {e : En} : addF b e = addB b e := by
 unfold addF addB
 have ft := find_there hr e.tree e.sub
 have ek : keyE e = (e.tree,e.sub) := rfl
 rw [ek,ft]
 by_cases h : findI (b.adv.map Ad.id) e.tree = -1
 ·have hn : findA b.adv e.tree = none := findA_none fun j a hj => findI_neg (key := Ad.id) h j a hj
  rw [hn]
  cases b.adv[(findI (b.adv.map Ad.id) e.tree).toNat]? with
  | none => rfl
  | some a => simp only; rw [if_pos h]
 ·obtain ⟨k,hk⟩ : ∃ k : Nat,findI (b.adv.map Ad.id) e.tree = k := ⟨(findI (b.adv.map Ad.id) e.tree).toNat,by have := findI_bd (b.adv.map Ad.id) e.tree; omega⟩
  obtain ⟨g1,g2⟩ := findI_get hk
  rw [List.getElem?_map] at g1
  cases ha : b.adv[k]? with
  | none => rw [ha] at g1; cases g1
  | some a =>
   rw [ha] at g1
   have hx : a.id = e.tree := Option.some.inj g1
   have hf : findA b.adv e.tree = some a := findA_at ha hx fun j z hj hz => g2 j z.id hj (by rw [List.getElem?_map,hz]; rfl)
   rw [hf,hk,Int.toNat_natCast,ha]
   simp only
   rw [if_neg (show ¬ ((k : Int) = -1) by omega)]
   have e1 : (!(a.par == -1)) = decide (a.par ≠ -1) := by by_cases hp : a.par = -1 <;> simp [hp]
   rw [e1]
   by_cases ht : thereE b.ent e.tree e.sub = true
   ·rw [if_pos ht,if_pos ht,if_pos (by omega)]
   ·rw [if_neg ht,if_neg ht,if_neg (show ¬ ((-1 : Int) ≠ -1) by simp)]
    by_cases hp : e.from_ = a.par ∧ a.par ≠ -1
    ·rw [if_pos hp,if_pos ⟨by rw [hp.1]; exact hp.2,hp.1⟩]
    ·rw [if_neg hp,if_neg fun q => hp ⟨q.2,by rw [← q.2]; exact q.1⟩]
theorem sadd_any (b : Br) (e : En) (nv av sv ev ov : Sl) (x : XEn) (w : World) (h : BrIn w b nv av sv ev ov) (he : EnIn w x e) (hf : Few b) (hp : FewP b) (hr : RiseE b.ent) (hok : ∀ e ∈ b.ent,PredOk e.p) (hoe : PredOk e.p) :
  Calls Tryz.prog 16 #[brv b.me nv av sv ev ov,valN x] w (LearnQ w (NearOwn w nv b.near) (addB b e)) := by
 obtain ⟨no,nn,nc⟩ := nv
 obtain ⟨ao,an,ac⟩ := av
 obtain ⟨so,sn,sc⟩ := sv
 obtain ⟨eo,en,ec⟩ := ev
 obtain ⟨oo,on_,oc⟩ := ov
 obtain ⟨y1,y2,y3,y4,⟨yo,yn,yc⟩,y6,y7⟩ := x
 obtain ⟨h0,h1,h2,h3⟩ := three_new w #[.int .i64 b.me,.slice no nn nc,.slice ao an ac,.slice so sn sc,.slice eo en ec,.slice oo on_ oc] #[.int .i64 y1,.int .i64 y2,.int .i64 y3,.int .i64 y4,.slice yo yn yc,.int .i64 y6,.bool y7] #[.int .i64 0,.slice none 0 0,.slice none 0 0,.slice none 0 0,.slice none 0 0,.slice none 0 0] 31 43 31
 have BB := Lib.hid h0
 have X1 := Lib.hid h1
 have X2 := Lib.hid h2
 have X3 := Lib.hid h3
 have HH := Lib.hid h
 have EE := Lib.hid he
 have HF := Lib.hid hf
 have HP := Lib.hid hp
 have HR := Lib.hid hr
 have OK := Lib.hid hok
 have OE := Lib.hid hoe
 obtain ⟨la,ha1,ha2⟩ := h.adv
 have SW := Lib.hid (find_any b.me (.slice no nn nc) (.slice so sn sc) (.slice eo en ec) (.slice oo on_ oc) (ao,an,ac) la b.adv (y1,y2) _ (ha1.on BB.out) (ha2.mono fun _ _ q => q.on BB.out) hp.adv)
 have ET := Lib.hid (show e.tree = (y1,y2) from he.1.symm)
 have ES := Lib.hid (show e.sub = (y3,y4) from he.2.1.symm)
 have EF := Lib.hid (show e.from_ = y6 from he.2.2.1.symm)
 obtain ⟨x0,x1,x2,x3,x4,x5⟩ := X1.out.cs6
 obtain ⟨d0,d1,d2,d3,d4,d5,d6⟩ := X2.out.cs7
 clear h0 h1 h2 h3 h he hf hp hr hok hoe ha1 ha2 la
 go_enter Tryz.func16,Tryz.ntmps16
 go_wp2_with fail
 generalize ((w.alloc (.cells #[.int .i64 b.me,.slice no nn nc,.slice ao an ac,.slice so sn sc,.slice eo en ec,.slice oo on_ oc] 31)).alloc (.cells #[.int .i64 y1,.int .i64 y2,.int .i64 y3,.int .i64 y4,.slice yo yn yc,.int .i64 y6,.bool y7] 43)).alloc (.cells #[.int .i64 0,.slice none 0 0,.slice none 0 0,.slice none 0 0,.slice none 0 0,.slice none 0 0] 31) = W at *
 refine SW.out.mono ?_
 rintro e1 w1 ⟨hq,hb⟩
 have B1 := Lib.hid (BB.out.trans (hb.mono BB.out.size))
 have Z1 := Lib.hid (X1.out.on hb)
 have Z2 := Lib.hid (X2.out.on hb)
 have Z3 := Lib.hid (X3.out.on hb)
 clear hb SW X1 X2 X3
 clear x0 x1 x2 x3 x4 x5
 clear d0 d1 d2 d3 d4 d5 d6
 obtain ⟨⟨r1,r2,⟨ro,rn,rc⟩,r4⟩,kn,rfl,hin⟩ : ∃ (r : XAd) (kn : Bool),e1 = .returned (.tuple #[valD r,.bool kn]) ∧ ((kn = false ∧ findA b.adv (y1,y2) = none) ∨ (kn = true ∧ ∃ a,findA b.adv (y1,y2) = some a ∧ r.2.2.2 = a.par)) := by
  cases hfa : findA b.adv (y1,y2) with
  | none =>
   rw [hfa] at hq
   exact ⟨_,false,hq,Or.inl ⟨rfl,rfl⟩⟩
  | some a =>
   rw [hfa] at hq
   obtain ⟨r,h1,h2⟩ := hq
   exact ⟨r,true,h1,Or.inr ⟨rfl,a,rfl,h2.2.1⟩⟩
 have HI := Lib.hid hin
 have nb := newB w1 (.cells #[.int .i64 r1,.int .i64 r2,.slice ro rn rc,.int .i64 r4] 41)
 have AB := Lib.hid (box_new w1 #[.int .i64 r1,.int .i64 r2,.slice ro rn rc,.int .i64 r4] 41)
 have B2 := Lib.hid (B1.out.trans (nb.mono B1.out.size))
 have Y1 := Lib.hid (Z1.out.on nb)
 have Y2 := Lib.hid (Z2.out.on nb)
 have Y3 := Lib.hid (Z3.out.on nb)
 obtain ⟨les,hs1,hs2⟩ := HH.out.ent
 have PL := Lib.hid (place_any (eo,en,ec) les b.ent (y1,y2) (y3,y4) _ (hs1.on B2.out) (hs2.mono fun _ _ q => q.on B2.out) HR.out (by rw [hs2.len]; have := HF.out.ent; omega))
 have LES1 := Lib.hid hs1
 have LES2 := Lib.hid hs2
 obtain ⟨k,hk⟩ : ∃ k,placeP (b.ent.map keyE) ((y1,y2),(y3,y4)) = k := ⟨_,rfl⟩
 obtain ⟨th,hth⟩ : ∃ k,thereE b.ent (y1,y2) (y3,y4) = k := ⟨_,rfl⟩
 rw [hk,hth] at PL
 have HK := Lib.hid hk
 have TH := Lib.hid hth
 have KL := Lib.hid (show k ≤ b.ent.length by rw [← hk]; simpa using place_le (b.ent.map keyE) ((y1,y2),(y3,y4)))
 have x4 := Y1.out.cell 4
 simp only [List.getElem?_toArray,List.getElem?_cons_zero,List.getElem?_cons_succ] at x4
 have d1 := Y2.out.cell 1
 have d0 := Y2.out.cell 0
 have d2 := Y2.out.cell 2
 have d3 := Y2.out.cell 3
 simp only [List.getElem?_toArray,List.getElem?_cons_zero,List.getElem?_cons_succ] at d0 d1 d2 d3
 clear hin hq nb hs1 hs2 hk hth Z1 Z2 Z3
 go_wp2_with fail
 generalize hw2 : w1.alloc (.cells #[.int .i64 r1,.int .i64 r2,.slice ro rn rc,.int .i64 r4] 41) = w2 at *
 refine PL.out.mono ?_
 rintro e2 w3 ⟨rfl,hb⟩
 have BW := Lib.hid (B2.out.trans (hb.mono B2.out.size))
 have T1 := Lib.hid (Y1.out.on hb)
 have T2 := Lib.hid (Y2.out.on hb)
 have T3 := Lib.hid (Y3.out.on hb)
 have TA := AB.out.on hb
 clear x4
 clear d0 d1 d2 d3
 have a3 := TA.cell 3
 have d5 := T2.out.cell 5
 simp only [List.getElem?_toArray,List.getElem?_cons_zero,List.getElem?_cons_succ] at a3 d5
 obtain ⟨fq,hfq⟩ : ∃ q,(y6 == r4) = q := ⟨_,rfl⟩
 obtain ⟨rt,hrt⟩ : ∃ q,(r4 == -1) = q := ⟨_,rfl⟩
 have FQ := Lib.hid hfq
 have RT := Lib.hid hrt
 clear hb PL TA Y1 Y2 Y3 AB hw2
 cases kn
 ·have LQ := Lib.hid (show addB b e = (b,false) from by
   rw [← addF_eq HR.out]
   unfold addF
   have h0 : findA b.adv e.tree = none := by
    rw [ET.out]
    rcases HI.out with ⟨_,h⟩ | ⟨h,_⟩
    ·exact h
    ·cases h
   rw [h0])
  have Q1 := T1.out
  have Q3 := T3.out
  obtain ⟨x0,x1,x2,x3,x4,x5⟩ := Q1.cs6
  obtain ⟨z0,z1,z2,z3,z4,z5⟩ := Q3.cs6
  obtain ⟨zf0,zf1,zf2,zf3,zf4,zf5⟩ := Q3.fs6
  have zlt := Q3.lt
  have FB := Lib.hid (setB_box Q3 (.int .i64 b.me) (.slice no nn nc) (.slice ao an ac) (.slice so sn sc) (.slice eo en ec) (.slice oo on_ oc))
  have FL := Lib.hid (setB_below (b := w.heap.size + 1 + 1) BW.out (by omega) (.int .i64 b.me) (.slice no nn nc) (.slice ao an ac) (.slice so sn sc) (.slice eo en ec) (.slice oo on_ oc))
  clear Q1 Q3
  go_wp2_with fail
  clear z0 z1 z2 z3 z4 z5
  obtain ⟨v0,v1,v2,v3,v4,v5⟩ := FB.out.cs6
  refine bodyPost_ret (v := .tuple #[.agg #[.int .i64 b.me,.slice no nn nc,.slice ao an ac,.slice so sn sc,.slice eo en ec,.slice oo on_ oc],.bool false]) (by simp [results,Tryz.results16,go_sem,v0,v1,v2,v3,v4,v5]) rfl ?_
  rw [LQ.out]
  exact ⟨⟨(no,nn,nc),(ao,an,ac),(so,sn,sc),(eo,en,ec),(oo,on_,oc),rfl,HH.out.on FL.out,fun h => h.on FL.out⟩,FL.out⟩
 ·cases th
  ·cases rt
   ·cases fq
    ·have x1 := T2.out.cell 1
     have x0 := T2.out.cell 0
     have x2 := T2.out.cell 2
     have x3 := T2.out.cell 3
     have x4 := T2.out.cell 4
     have x6 := T2.out.cell 6
     simp only [List.getElem?_toArray,List.getElem?_cons_zero,List.getElem?_cons_succ] at x0 x1 x2 x3 x4 x6
     have PE := Lib.hid (show RowC w3 (.slice yo yn yc) e.p from (EE.out.2.2.2.2).on BW.out)
     have CP := Lib.hid (cpE_any (y1,y2,y3,y4,(yo,yn,yc),y6,y7) e.p w3 PE.out (predOk_len OE.out))
     go_wp2_with fail
     refine CP.out.mono ?_
     rintro e4 w3b ⟨⟨⟨u1,u2,u3⟩,rfl,ho⟩,hb⟩
     clear x0 x1 x2 x3 x4 x6
     clear a3 d5
     have V2 := T2.out.on hb
     obtain ⟨x0,x1,x2,x3,x4,x5,x6⟩ := V2.cs7
     obtain ⟨xf0,xf1,xf2,xf3,xf4,xf5,xf6⟩ := V2.fs7
     have xlt := V2.lt
     have bs := but_setE w3b (w.heap.size + 1) (.int .i64 y1) (.int .i64 y2) (.int .i64 y3) (.int .i64 y4) (.slice u1 u2 u3) (.int .i64 y6) (.bool y7)
     have E2 := Lib.hid (setE_box V2 (.int .i64 y1) (.int .i64 y2) (.int .i64 y3) (.int .i64 y4) (.slice u1 u2 u3) (.int .i64 y6) (.bool y7))
     have E1 := Lib.hid (bs.box (T1.out.on hb) (by omega))
     have E3 := Lib.hid (bs.box (T3.out.on hb) (by omega))
     have EO := Lib.hid (bs.own ho V2 (by decide))
     have EL := Lib.hid (setE_below (b := w.heap.size + 1) (BW.out.trans (hb.mono BW.out.size)) (by omega) (.int .i64 y1) (.int .i64 y2) (.int .i64 y3) (.int .i64 y4) (.slice u1 u2 u3) (.int .i64 y6) (.bool y7))
     have ES2 := Lib.hid (show w3.heap.size ≤ (setE w3b (w.heap.size + 1) (.int .i64 y1) (.int .i64 y2) (.int .i64 y3) (.int .i64 y4) (.slice u1 u2 u3) (.int .i64 y6) (.bool y7)).heap.size by have := hb.size; simp; omega)
     have L4 := Lib.hid (show w.heap.size + 1 + 1 < w3.heap.size from T3.out.lt)
     clear V2 ho hb CP T1 T2 T3 BW bs
     go_upto_region 7 with fail
     clear x0 x1 x2 x3 x4 x5 x6 xf0 xf1 xf2 xf3 xf4 xf5 xf6 xlt
     unfold setE at E2 E1 E3 EO EL ES2
     generalize (((((((w3b).setCell ⟨w.heap.size + 1,0,none⟩ (.int .i64 y1)).setCell ⟨w.heap.size + 1,1,none⟩ (.int .i64 y2)).setCell ⟨w.heap.size + 1,2,none⟩ (.int .i64 y3)).setCell ⟨w.heap.size + 1,3,none⟩ (.int .i64 y4)).setCell ⟨w.heap.size + 1,4,none⟩ (.slice u1 u2 u3)).setCell ⟨w.heap.size + 1,5,none⟩ (.int .i64 y6)).setCell ⟨w.heap.size + 1,6,none⟩ (.bool y7) = w4b at *
     have x1 := E2.out.cell 1
     have x0 := E2.out.cell 0
     have x4 := E2.out.cell 4
     simp only [List.getElem?_toArray,List.getElem?_cons_zero,List.getElem?_cons_succ] at x0 x1 x4
     obtain ⟨z0,z1,z2,z3,z4,z5⟩ := E1.out.cs6
     have CV := Lib.hid (scov_any b.me (.slice no nn nc) (.slice ao an ac) (.slice so sn sc) (.slice oo on_ oc) (eo,en,ec) les b.ent (y1,y2) (.slice u1 u2 u3) e.p w4b (LES1.out.on EL.out) (LES2.out.mono fun _ _ q => q.on EL.out) HR.out (by rw [LES2.out.len]; have := HF.out.ent; omega) (Row.of_own EO.out) OK.out OE.out)
     obtain ⟨cv,hcv⟩ : ∃ c,coveredE b.ent (y1,y2) e.p = c := ⟨_,rfl⟩
     rw [hcv] at CV
     have CVQ := Lib.hid hcv
     clear hcv
     go_wp2_with fail
     refine CV.out.mono ?_
     rintro e5 w4c ⟨rfl,hb⟩
     clear x0 x1 x4
     clear z0 z1 z2 z3 z4 z5
     replace E2 := Lib.hid (E2.out.on hb)
     replace E1 := Lib.hid (E1.out.on hb)
     replace E3 := Lib.hid (E3.out.on hb)
     replace EO := Lib.hid (Bk.own_on EO.out hb)
     replace ES2 := Lib.hid (Nat.le_trans ES2.out hb.size)
     replace EL := Lib.hid (EL.out.trans (hb.mono EL.out.size))
     clear CV hb
     have x6 := E2.out.cell 6
     have xf6 := E2.out.fr 6
     have xlt := E2.out.lt
     simp only [List.getElem?_toArray,List.getElem?_cons_zero,List.getElem?_cons_succ] at x6
     have bs := but_cell w4c (w.heap.size + 1) 6 (.bool (!cv))
     have T2 := Lib.hid (show Box (w4c.setCell ⟨w.heap.size + 1,6,none⟩ (.bool (!cv))) (w.heap.size + 1) #[.int .i64 y1,.int .i64 y2,.int .i64 y3,.int .i64 y4,.slice u1 u2 u3,.int .i64 y6,.bool (!cv)] 43 by simpa using box_set (k := 6) E2.out (.bool (!cv)))
     have T1 := Lib.hid (bs.box E1.out (by omega))
     have T3 := Lib.hid (bs.box E3.out (by omega))
     have OC := Lib.hid (bs.own EO.out E2.out (by decide))
     have BW := Lib.hid (EL.out.setCell (p := ⟨w.heap.size + 1,6,none⟩) (by simp) (.bool (!cv)))
     have S45 := Lib.hid (show w3.heap.size ≤ (w4c.setCell ⟨w.heap.size + 1,6,none⟩ (.bool (!cv))).heap.size by have := ES2.out; simp; omega)
     clear bs E1 E2 E3 EO EL ES2
     go_upto_region 8 with fail
     clear x6 xf6 xlt
     generalize w4c.setCell ⟨w.heap.size + 1,6,none⟩ (.bool (!cv)) = w5 at *
     have LQ := Lib.hid (show addB b e = ({ b with ent := insAt b.ent k { e with up := (!cv) } },(!cv)) from by
      rw [← addF_eq HR.out]
      unfold addF
      obtain ⟨a,h0,h1⟩ : ∃ a,findA b.adv e.tree = some a ∧ r4 = a.par := by
       rw [ET.out]
       rcases HI.out with ⟨h,_⟩ | ⟨_,h⟩
       ·cases h
       ·exact h
      rw [h0]
      simp only
      rw [if_neg (by rw [ET.out,ES.out,TH.out]; simp),if_neg ?_,show placeP (b.ent.map keyE) (e.tree,e.sub) = k by rw [ET.out,ES.out]; exact HK.out,← h1,RT.out]
      ·rw [ET.out,CVQ.out]
       rfl
      ·rintro ⟨g,_⟩
       rw [EF.out,← h1] at g
       have := FQ.out
       simp at this
       exact this g)
     have Q1 := T1.out
     obtain ⟨x0,x1,x2,x3,x4,x5⟩ := Q1.cs6
     clear Q1
     go_wp2_with fail
     refine (acopy_any b (no,nn,nc) (ao,an,ac) (so,sn,sc) (eo,en,ec) (oo,on_,oc) w w5 BW.out HH.out HF.out HP.out).mono ?_
     rintro e6 w6 ⟨⟨⟨p1,q1,s1⟩,⟨p2,q2,s2⟩,⟨p3,q3,s3⟩,⟨p4,q4,s4⟩,⟨p5,q5,s5⟩,rfl,cp⟩,hb6⟩
     clear x0 x1 x2 x3 x4 x5
     have V1 := T1.out.on hb6
     have V2 := Lib.hid (T2.out.on hb6)
     have V3 := Lib.hid (T3.out.on hb6)
     obtain ⟨x0,x1,x2,x3,x4,x5⟩ := V1.cs6
     obtain ⟨xf0,xf1,xf2,xf3,xf4,xf5⟩ := V1.fs6
     have xlt := V1.lt
     have bs := but_setB w6 w.heap.size (.int .i64 b.me) (.slice p1 q1 s1) (.slice p2 q2 s2) (.slice p3 q3 s3) (.slice p4 q4 s4) (.slice p5 q5 s5)
     have FB := Lib.hid (setB_box V1 (.int .i64 b.me) (.slice p1 q1 s1) (.slice p2 q2 s2) (.slice p3 q3 s3) (.slice p4 q4 s4) (.slice p5 q5 s5))
     have FC := Lib.hid (Sb.Cp.less (cp.but bs V1) (show w3.heap.size ≤ w5.heap.size from S45.out))
     have FO := Lib.hid (bs.own (Bk.own_on OC.out hb6) V1 (by decide))
     have FL := Lib.hid (setB_below (b := w.heap.size) (BW.out.trans (hb6.mono BW.out.size)) (Nat.le_refl _) (.int .i64 b.me) (.slice p1 q1 s1) (.slice p2 q2 s2) (.slice p3 q3 s3) (.slice p4 q4 s4) (.slice p5 q5 s5))
     have F2 := Lib.hid (bs.box V2.out (by omega))
     have F3 := Lib.hid (bs.box V3.out (by omega))
     have SZ := Lib.hid (show w3.heap.size ≤ (setB w6 w.heap.size (.int .i64 b.me) (.slice p1 q1 s1) (.slice p2 q2 s2) (.slice p3 q3 s3) (.slice p4 q4 s4) (.slice p5 q5 s5)).heap.size by have := hb6.size; have := S45.out; simp; omega)
     clear V1 V2 V3 cp hb6 bs T1 T2 T3 OC BW
     go_upto_region 9 with fail
     clear x0 x1 x2 x3 x4 x5 xf0 xf1 xf2 xf3 xf4 xf5 xlt
     unfold setB at FB FC FL F2 F3 SZ FO
     generalize ((((((w6).setCell ⟨w.heap.size,0,none⟩ (.int .i64 b.me)).setCell ⟨w.heap.size,1,none⟩ (.slice p1 q1 s1)).setCell ⟨w.heap.size,2,none⟩ (.slice p2 q2 s2)).setCell ⟨w.heap.size,3,none⟩ (.slice p3 q3 s3)).setCell ⟨w.heap.size,4,none⟩ (.slice p4 q4 s4)).setCell ⟨w.heap.size,5,none⟩ (.slice p5 q5 s5) = w7 at *
     obtain ⟨le,hle1,hle2⟩ := FC.out.ent
     have HL1 := Lib.hid hle1
     have HL2 := Lib.hid hle2
     clear hle1 hle2
     have nb := newB w7 (.cells #[.int .i64 y1,.int .i64 y2,.int .i64 y3,.int .i64 y4,.slice u1 u2 u3,.int .i64 y6,.bool (!cv)] 43)
     have bx := box_new w7 #[.int .i64 y1,.int .i64 y2,.int .i64 y3,.int .i64 y4,.slice u1 u2 u3,.int .i64 y6,.bool (!cv)] 43
     have IN := Lib.hid (insert_anyN w3.heap.size (.slice p4 q4 s4) le k (y1,y2,y3,y4,(u1,u2,u3),y6,(!cv)) w7.heap.size _ (Bk.own_on HL1.out nb) bx (fun e => by
      obtain ⟨d,hd⟩ := tag_own HL1.out _ e
      have := hd.lt
      omega) (by rw [HL2.out.len]; exact KL.out) (by rw [HL2.out.len]; exact HF.out.ent) (Nat.le_trans SZ.out nb.size))
     have FB2 := Lib.hid (FB.out.on nb)
     have F22 := Lib.hid (F2.out.on nb)
     have F32 := Lib.hid (F3.out.on nb)
     have FO2 := Lib.hid (Bk.own_on FO.out nb)
     have FC2 := Lib.hid (FC.out.grow nb)
     have FL2 := Lib.hid (FL.out.trans (nb.mono FL.out.size))
     have HA2 := Lib.hid (HL2.out.mono fun _ _ q => q.grow nb)
     have HO2 := Lib.hid (tag_own (Bk.own_on HL1.out nb))
     have x4 := FB.out.cell 4
     simp only [List.getElem?_toArray,List.getElem?_cons_zero,List.getElem?_cons_succ] at x4
     obtain ⟨d0,d1,d2,d3,d4,d5,d6⟩ := F2.out.cs7
     clear nb bx
     go_wp2_with fail
     refine IN.out.mono ?_
     rintro e8 w8 ⟨v8,rfl,hown,hbel,hoth⟩
     clear x4
     clear d0 d1 d2 d3 d4 d5 d6
     generalize w7.alloc (.cells #[.int .i64 y1,.int .i64 y2,.int .i64 y3,.int .i64 y4,.slice u1 u2 u3,.int .i64 y6,.bool (!cv)] 43) = w7a at *
     obtain ⟨t1,t2,hv8⟩ := (Row.of_own hown).len
     subst hv8
     generalize (le.take k ++ (y1,y2,y3,y4,(u1,u2,u3),y6,(!cv)) :: le.drop k).length = tn at *
     have hoff : Off (Value.slice p4 q4 s4).ownBlock w7a w8 := ⟨hoth,hbel.size⟩
     have CP := Lib.hid (FC2.out.offN (ev' := (t1,tn,t2)) (el := insAt b.ent k { e with up := (!cv) }) hoff ⟨insAt le k (y1,y2,y3,y4,(u1,u2,u3),y6,(!cv)),by unfold insAt; rw [List.append_assoc]; exact hown,all2_ins (HA2.out.mono fun _ _ q => q.off hoff HO2.out (by decide)) k ⟨EE.out.1,EE.out.2.1,EE.out.2.2.1,rfl,Or.inr (hoff.own FO2.out HO2.out (by decide))⟩⟩)
     have G1 := hoff.box FB2.out HO2.out (by decide)
     have G3 := hoff.box F32.out HO2.out (by decide)
     have G2 := Lib.hid (show Box w8 (w.heap.size + 1) #[.int .i64 y1,.int .i64 y2,.int .i64 y3,.int .i64 y4,.slice u1 u2 u3,.int .i64 y6,.bool (!cv)] 43 from (hoth _ F22.out.lt (fun e => by
      have := own_blk HL1.out _ e.symm
      have := L4.out
      omega)).trans F22.out)
     have NC := Lib.hid (show Box (w8.setCell ⟨w.heap.size,4,none⟩ (.slice t1 tn t2)) w.heap.size #[.int .i64 b.me,.slice p1 q1 s1,.slice p2 q2 s2,.slice p3 q3 s3,.slice t1 tn t2,.slice p5 q5 s5] 31 by simpa using box_set (k := 4) G1 (.slice t1 tn t2))
     have MC := Lib.hid (CP.out.but (but_cell w8 w.heap.size 4 (.slice t1 tn t2)) G1)
     have M3 := Lib.hid ((but_cell w8 w.heap.size 4 (.slice t1 tn t2)).box G3 (by omega))
     have M2 := Lib.hid ((but_cell w8 w.heap.size 4 (.slice t1 tn t2)).box G2.out (by omega))
     have ML := Lib.hid (show Below w.heap.size w (w8.setCell ⟨w.heap.size,4,none⟩ (.slice t1 tn t2)) from (FL2.out.trans (hbel.mono (by have := L4.out; omega))).setCell (p := ⟨w.heap.size,4,none⟩) (Nat.le_refl _) _)
     have x4 := G1.cell 4
     have xf4 := G1.fr 4
     have xlt := G1.lt
     simp only [List.getElem?_toArray,List.getElem?_cons_zero,List.getElem?_cons_succ] at x4
     clear hown hbel hoth hoff G1 G2 G3 CP FB FB2 FC FC2 FO FO2 F2 F22 F3 F32 FL FL2 HL1 HL2 HA2 HO2 IN SZ
     go_upto_region 10 with fail
     clear x4 xf4 xlt
     generalize w8.setCell ⟨w.heap.size,4,none⟩ (.slice t1 tn t2) = w9 at *
     have Q1 := NC.out
     have Q2 := M2.out
     have Q3 := M3.out
     obtain ⟨x0,x1,x2,x3,x4,x5⟩ := Q1.cs6
     have d6 := Q2.cell 6
     simp only [List.getElem?_toArray,List.getElem?_cons_zero,List.getElem?_cons_succ] at d6
     obtain ⟨z0,z1,z2,z3,z4,z5⟩ := Q3.cs6
     obtain ⟨zf0,zf1,zf2,zf3,zf4,zf5⟩ := Q3.fs6
     have zlt := Q3.lt
     have FB := Lib.hid ((setB_box Q3 (.int .i64 b.me) (.slice p1 q1 s1) (.slice p2 q2 s2) (.slice p3 q3 s3) (.slice t1 tn t2) (.slice p5 q5 s5)).on (Below.refl _ _).drew)
     have FC := Lib.hid ((MC.out.but (but_setB w9 (w.heap.size + 1 + 1) (.int .i64 b.me) (.slice p1 q1 s1) (.slice p2 q2 s2) (.slice p3 q3 s3) (.slice t1 tn t2) (.slice p5 q5 s5)) Q3).grow (Below.refl _ _).drew)
     have FL := Lib.hid (setB_below (b := w.heap.size + 1 + 1) ML.out (by omega) (.int .i64 b.me) (.slice p1 q1 s1) (.slice p2 q2 s2) (.slice p3 q3 s3) (.slice t1 tn t2) (.slice p5 q5 s5)).drew
     clear Q1 Q2 Q3 NC MC M2 M3 ML
     go_wp2
     go_region
     all_goals simp only [Exit.then]
     all_goals apply_assumption
     all_goals
      clear x0 x1 x2 x3 x4 x5
      clear z0 z1 z2 z3 z4 z5 zf0 zf1 zf2 zf3 zf4 zf5 zlt
      clear d6
      unfold setB at FB FC FL
      generalize (((((((w9).setCell ⟨w.heap.size + 1 + 1,0,none⟩ (.int .i64 b.me)).setCell ⟨w.heap.size + 1 + 1,1,none⟩ (.slice p1 q1 s1)).setCell ⟨w.heap.size + 1 + 1,2,none⟩ (.slice p2 q2 s2)).setCell ⟨w.heap.size + 1 + 1,3,none⟩ (.slice p3 q3 s3)).setCell ⟨w.heap.size + 1 + 1,4,none⟩ (.slice t1 tn t2)).setCell ⟨w.heap.size + 1 + 1,5,none⟩ (.slice p5 q5 s5)).drew = wz at *
      obtain ⟨v0,v1,v2,v3,v4,v5⟩ := FB.out.cs6
      go_wp2
      refine bodyPost_ret (v := .tuple #[.agg #[.int .i64 b.me,.slice p1 q1 s1,.slice p2 q2 s2,.slice p3 q3 s3,.slice t1 tn t2,.slice p5 q5 s5],.bool (!cv)]) (by simp [results,Tryz.results16,go_sem,v0,v1,v2,v3,v4,v5]) rfl ?_
      rw [LQ.out]
      exact ⟨⟨(p1,q1,s1),(p2,q2,s2),(p3,q3,s3),(t1,tn,t2),(p5,q5,s5),rfl,FC.out.br FL.out,fun _ => ⟨_,FC.out.near⟩⟩,FL.out⟩
    ·have LQ := Lib.hid (show addB b e = (b,false) from by
      rw [← addF_eq HR.out]
      unfold addF
      obtain ⟨a,h0,h1⟩ : ∃ a,findA b.adv e.tree = some a ∧ r4 = a.par := by
       rw [ET.out]
       rcases HI.out with ⟨h,_⟩ | ⟨_,h⟩
       ·cases h
       ·exact h
      rw [h0]
      simp only
      rw [if_neg (by rw [ET.out,ES.out,TH.out]; simp),if_pos ?_]
      refine ⟨?_,?_⟩
      ·rw [EF.out,← h1]
       have := FQ.out
       simpa using this
      ·rw [← h1]
       have := RT.out
       simpa using this)
     have Q1 := T1.out
     have Q3 := T3.out
     obtain ⟨x0,x1,x2,x3,x4,x5⟩ := Q1.cs6
     obtain ⟨z0,z1,z2,z3,z4,z5⟩ := Q3.cs6
     obtain ⟨zf0,zf1,zf2,zf3,zf4,zf5⟩ := Q3.fs6
     have zlt := Q3.lt
     have FB := Lib.hid (setB_box Q3 (.int .i64 b.me) (.slice no nn nc) (.slice ao an ac) (.slice so sn sc) (.slice eo en ec) (.slice oo on_ oc))
     have FL := Lib.hid (setB_below (b := w.heap.size + 1 + 1) BW.out (by omega) (.int .i64 b.me) (.slice no nn nc) (.slice ao an ac) (.slice so sn sc) (.slice eo en ec) (.slice oo on_ oc))
     clear Q1 Q3
     go_wp2_with fail
     clear z0 z1 z2 z3 z4 z5
     obtain ⟨v0,v1,v2,v3,v4,v5⟩ := FB.out.cs6
     refine bodyPost_ret (v := .tuple #[.agg #[.int .i64 b.me,.slice no nn nc,.slice ao an ac,.slice so sn sc,.slice eo en ec,.slice oo on_ oc],.bool false]) (by simp [results,Tryz.results16,go_sem,v0,v1,v2,v3,v4,v5]) rfl ?_
     rw [LQ.out]
     exact ⟨⟨(no,nn,nc),(ao,an,ac),(so,sn,sc),(eo,en,ec),(oo,on_,oc),rfl,HH.out.on FL.out,fun h => h.on FL.out⟩,FL.out⟩
   ·cases fq
    all_goals
     have x1 := T2.out.cell 1
     have x0 := T2.out.cell 0
     have x2 := T2.out.cell 2
     have x3 := T2.out.cell 3
     have x4 := T2.out.cell 4
     have x6 := T2.out.cell 6
     simp only [List.getElem?_toArray,List.getElem?_cons_zero,List.getElem?_cons_succ] at x0 x1 x2 x3 x4 x6
     have PE := Lib.hid (show RowC w3 (.slice yo yn yc) e.p from (EE.out.2.2.2.2).on BW.out)
     have CP := Lib.hid (cpE_any (y1,y2,y3,y4,(yo,yn,yc),y6,y7) e.p w3 PE.out (predOk_len OE.out))
     go_wp2_with fail
     refine CP.out.mono ?_
     rintro e4 w3b ⟨⟨⟨u1,u2,u3⟩,rfl,ho⟩,hb⟩
     clear x0 x1 x2 x3 x4 x6
     clear a3 d5
     have V2 := T2.out.on hb
     obtain ⟨x0,x1,x2,x3,x4,x5,x6⟩ := V2.cs7
     obtain ⟨xf0,xf1,xf2,xf3,xf4,xf5,xf6⟩ := V2.fs7
     have xlt := V2.lt
     have bs := but_setE w3b (w.heap.size + 1) (.int .i64 y1) (.int .i64 y2) (.int .i64 y3) (.int .i64 y4) (.slice u1 u2 u3) (.int .i64 y6) (.bool y7)
     have E2 := Lib.hid (setE_box V2 (.int .i64 y1) (.int .i64 y2) (.int .i64 y3) (.int .i64 y4) (.slice u1 u2 u3) (.int .i64 y6) (.bool y7))
     have E1 := Lib.hid (bs.box (T1.out.on hb) (by omega))
     have E3 := Lib.hid (bs.box (T3.out.on hb) (by omega))
     have EO := Lib.hid (bs.own ho V2 (by decide))
     have EL := Lib.hid (setE_below (b := w.heap.size + 1) (BW.out.trans (hb.mono BW.out.size)) (by omega) (.int .i64 y1) (.int .i64 y2) (.int .i64 y3) (.int .i64 y4) (.slice u1 u2 u3) (.int .i64 y6) (.bool y7))
     have ES2 := Lib.hid (show w3.heap.size ≤ (setE w3b (w.heap.size + 1) (.int .i64 y1) (.int .i64 y2) (.int .i64 y3) (.int .i64 y4) (.slice u1 u2 u3) (.int .i64 y6) (.bool y7)).heap.size by have := hb.size; simp; omega)
     have L4 := Lib.hid (show w.heap.size + 1 + 1 < w3.heap.size from T3.out.lt)
     clear V2 ho hb CP T1 T2 T3 BW bs
     go_upto_region 7 with fail
     clear x0 x1 x2 x3 x4 x5 x6 xf0 xf1 xf2 xf3 xf4 xf5 xf6 xlt
     unfold setE at E2 E1 E3 EO EL ES2
     generalize (((((((w3b).setCell ⟨w.heap.size + 1,0,none⟩ (.int .i64 y1)).setCell ⟨w.heap.size + 1,1,none⟩ (.int .i64 y2)).setCell ⟨w.heap.size + 1,2,none⟩ (.int .i64 y3)).setCell ⟨w.heap.size + 1,3,none⟩ (.int .i64 y4)).setCell ⟨w.heap.size + 1,4,none⟩ (.slice u1 u2 u3)).setCell ⟨w.heap.size + 1,5,none⟩ (.int .i64 y6)).setCell ⟨w.heap.size + 1,6,none⟩ (.bool y7) = w4b at *
     have x6 := E2.out.cell 6
     have xf6 := E2.out.fr 6
     have xlt := E2.out.lt
     simp only [List.getElem?_toArray,List.getElem?_cons_zero,List.getElem?_cons_succ] at x6
     have bs := but_cell w4b (w.heap.size + 1) 6 (.bool false)
     have T2 := Lib.hid (show Box (w4b.setCell ⟨w.heap.size + 1,6,none⟩ (.bool false)) (w.heap.size + 1) #[.int .i64 y1,.int .i64 y2,.int .i64 y3,.int .i64 y4,.slice u1 u2 u3,.int .i64 y6,.bool false] 43 by simpa using box_set (k := 6) E2.out (.bool false))
     have T1 := Lib.hid (bs.box E1.out (by omega))
     have T3 := Lib.hid (bs.box E3.out (by omega))
     have OC := Lib.hid (bs.own EO.out E2.out (by decide))
     have BW := Lib.hid (EL.out.setCell (p := ⟨w.heap.size + 1,6,none⟩) (by simp) (.bool false))
     have S45 := Lib.hid (show w3.heap.size ≤ (w4b.setCell ⟨w.heap.size + 1,6,none⟩ (.bool false)).heap.size by have := ES2.out; simp; omega)
     clear bs E1 E2 E3 EO EL ES2
     go_upto_region 8 with fail
     clear x6 xf6 xlt
     generalize w4b.setCell ⟨w.heap.size + 1,6,none⟩ (.bool false) = w5 at *
     have LQ := Lib.hid (show addB b e = ({ b with ent := insAt b.ent k { e with up := false } },false) from by
      rw [← addF_eq HR.out]
      unfold addF
      obtain ⟨a,h0,h1⟩ : ∃ a,findA b.adv e.tree = some a ∧ r4 = a.par := by
       rw [ET.out]
       rcases HI.out with ⟨h,_⟩ | ⟨_,h⟩
       ·cases h
       ·exact h
      rw [h0]
      simp only
      rw [if_neg (by rw [ET.out,ES.out,TH.out]; simp),if_neg ?_,show placeP (b.ent.map keyE) (e.tree,e.sub) = k by rw [ET.out,ES.out]; exact HK.out,← h1,RT.out]
      ·rfl
      ·rintro ⟨_,g⟩
       rw [← h1] at g
       have := RT.out
       simp at this
       exact g this)
     have Q1 := T1.out
     obtain ⟨x0,x1,x2,x3,x4,x5⟩ := Q1.cs6
     clear Q1
     go_wp2_with fail
     refine (acopy_any b (no,nn,nc) (ao,an,ac) (so,sn,sc) (eo,en,ec) (oo,on_,oc) w w5 BW.out HH.out HF.out HP.out).mono ?_
     rintro e6 w6 ⟨⟨⟨p1,q1,s1⟩,⟨p2,q2,s2⟩,⟨p3,q3,s3⟩,⟨p4,q4,s4⟩,⟨p5,q5,s5⟩,rfl,cp⟩,hb6⟩
     clear x0 x1 x2 x3 x4 x5
     have V1 := T1.out.on hb6
     have V2 := Lib.hid (T2.out.on hb6)
     have V3 := Lib.hid (T3.out.on hb6)
     obtain ⟨x0,x1,x2,x3,x4,x5⟩ := V1.cs6
     obtain ⟨xf0,xf1,xf2,xf3,xf4,xf5⟩ := V1.fs6
     have xlt := V1.lt
     have bs := but_setB w6 w.heap.size (.int .i64 b.me) (.slice p1 q1 s1) (.slice p2 q2 s2) (.slice p3 q3 s3) (.slice p4 q4 s4) (.slice p5 q5 s5)
     have FB := Lib.hid (setB_box V1 (.int .i64 b.me) (.slice p1 q1 s1) (.slice p2 q2 s2) (.slice p3 q3 s3) (.slice p4 q4 s4) (.slice p5 q5 s5))
     have FC := Lib.hid (Sb.Cp.less (cp.but bs V1) (show w3.heap.size ≤ w5.heap.size from S45.out))
     have FO := Lib.hid (bs.own (Bk.own_on OC.out hb6) V1 (by decide))
     have FL := Lib.hid (setB_below (b := w.heap.size) (BW.out.trans (hb6.mono BW.out.size)) (Nat.le_refl _) (.int .i64 b.me) (.slice p1 q1 s1) (.slice p2 q2 s2) (.slice p3 q3 s3) (.slice p4 q4 s4) (.slice p5 q5 s5))
     have F2 := Lib.hid (bs.box V2.out (by omega))
     have F3 := Lib.hid (bs.box V3.out (by omega))
     have SZ := Lib.hid (show w3.heap.size ≤ (setB w6 w.heap.size (.int .i64 b.me) (.slice p1 q1 s1) (.slice p2 q2 s2) (.slice p3 q3 s3) (.slice p4 q4 s4) (.slice p5 q5 s5)).heap.size by have := hb6.size; have := S45.out; simp; omega)
     clear V1 V2 V3 cp hb6 bs T1 T2 T3 OC BW
     go_upto_region 9 with fail
     clear x0 x1 x2 x3 x4 x5 xf0 xf1 xf2 xf3 xf4 xf5 xlt
     unfold setB at FB FC FL F2 F3 SZ FO
     generalize ((((((w6).setCell ⟨w.heap.size,0,none⟩ (.int .i64 b.me)).setCell ⟨w.heap.size,1,none⟩ (.slice p1 q1 s1)).setCell ⟨w.heap.size,2,none⟩ (.slice p2 q2 s2)).setCell ⟨w.heap.size,3,none⟩ (.slice p3 q3 s3)).setCell ⟨w.heap.size,4,none⟩ (.slice p4 q4 s4)).setCell ⟨w.heap.size,5,none⟩ (.slice p5 q5 s5) = w7 at *
     obtain ⟨le,hle1,hle2⟩ := FC.out.ent
     have HL1 := Lib.hid hle1
     have HL2 := Lib.hid hle2
     clear hle1 hle2
     have nb := newB w7 (.cells #[.int .i64 y1,.int .i64 y2,.int .i64 y3,.int .i64 y4,.slice u1 u2 u3,.int .i64 y6,.bool false] 43)
     have bx := box_new w7 #[.int .i64 y1,.int .i64 y2,.int .i64 y3,.int .i64 y4,.slice u1 u2 u3,.int .i64 y6,.bool false] 43
     have IN := Lib.hid (insert_anyN w3.heap.size (.slice p4 q4 s4) le k (y1,y2,y3,y4,(u1,u2,u3),y6,false) w7.heap.size _ (Bk.own_on HL1.out nb) bx (fun e => by
      obtain ⟨d,hd⟩ := tag_own HL1.out _ e
      have := hd.lt
      omega) (by rw [HL2.out.len]; exact KL.out) (by rw [HL2.out.len]; exact HF.out.ent) (Nat.le_trans SZ.out nb.size))
     have FB2 := Lib.hid (FB.out.on nb)
     have F22 := Lib.hid (F2.out.on nb)
     have F32 := Lib.hid (F3.out.on nb)
     have FO2 := Lib.hid (Bk.own_on FO.out nb)
     have FC2 := Lib.hid (FC.out.grow nb)
     have FL2 := Lib.hid (FL.out.trans (nb.mono FL.out.size))
     have HA2 := Lib.hid (HL2.out.mono fun _ _ q => q.grow nb)
     have HO2 := Lib.hid (tag_own (Bk.own_on HL1.out nb))
     have x4 := FB.out.cell 4
     simp only [List.getElem?_toArray,List.getElem?_cons_zero,List.getElem?_cons_succ] at x4
     obtain ⟨d0,d1,d2,d3,d4,d5,d6⟩ := F2.out.cs7
     clear nb bx
     go_wp2_with fail
     refine IN.out.mono ?_
     rintro e8 w8 ⟨v8,rfl,hown,hbel,hoth⟩
     clear x4
     clear d0 d1 d2 d3 d4 d5 d6
     generalize w7.alloc (.cells #[.int .i64 y1,.int .i64 y2,.int .i64 y3,.int .i64 y4,.slice u1 u2 u3,.int .i64 y6,.bool false] 43) = w7a at *
     obtain ⟨t1,t2,hv8⟩ := (Row.of_own hown).len
     subst hv8
     generalize (le.take k ++ (y1,y2,y3,y4,(u1,u2,u3),y6,false) :: le.drop k).length = tn at *
     have hoff : Off (Value.slice p4 q4 s4).ownBlock w7a w8 := ⟨hoth,hbel.size⟩
     have CP := Lib.hid (FC2.out.offN (ev' := (t1,tn,t2)) (el := insAt b.ent k { e with up := false }) hoff ⟨insAt le k (y1,y2,y3,y4,(u1,u2,u3),y6,false),by unfold insAt; rw [List.append_assoc]; exact hown,all2_ins (HA2.out.mono fun _ _ q => q.off hoff HO2.out (by decide)) k ⟨EE.out.1,EE.out.2.1,EE.out.2.2.1,rfl,Or.inr (hoff.own FO2.out HO2.out (by decide))⟩⟩)
     have G1 := hoff.box FB2.out HO2.out (by decide)
     have G3 := hoff.box F32.out HO2.out (by decide)
     have G2 := Lib.hid (show Box w8 (w.heap.size + 1) #[.int .i64 y1,.int .i64 y2,.int .i64 y3,.int .i64 y4,.slice u1 u2 u3,.int .i64 y6,.bool false] 43 from (hoth _ F22.out.lt (fun e => by
      have := own_blk HL1.out _ e.symm
      have := L4.out
      omega)).trans F22.out)
     have NC := Lib.hid (show Box (w8.setCell ⟨w.heap.size,4,none⟩ (.slice t1 tn t2)) w.heap.size #[.int .i64 b.me,.slice p1 q1 s1,.slice p2 q2 s2,.slice p3 q3 s3,.slice t1 tn t2,.slice p5 q5 s5] 31 by simpa using box_set (k := 4) G1 (.slice t1 tn t2))
     have MC := Lib.hid (CP.out.but (but_cell w8 w.heap.size 4 (.slice t1 tn t2)) G1)
     have M3 := Lib.hid ((but_cell w8 w.heap.size 4 (.slice t1 tn t2)).box G3 (by omega))
     have M2 := Lib.hid ((but_cell w8 w.heap.size 4 (.slice t1 tn t2)).box G2.out (by omega))
     have ML := Lib.hid (show Below w.heap.size w (w8.setCell ⟨w.heap.size,4,none⟩ (.slice t1 tn t2)) from (FL2.out.trans (hbel.mono (by have := L4.out; omega))).setCell (p := ⟨w.heap.size,4,none⟩) (Nat.le_refl _) _)
     have x4 := G1.cell 4
     have xf4 := G1.fr 4
     have xlt := G1.lt
     simp only [List.getElem?_toArray,List.getElem?_cons_zero,List.getElem?_cons_succ] at x4
     clear hown hbel hoth hoff G1 G2 G3 CP FB FB2 FC FC2 FO FO2 F2 F22 F3 F32 FL FL2 HL1 HL2 HA2 HO2 IN SZ
     go_upto_region 10 with fail
     clear x4 xf4 xlt
     generalize w8.setCell ⟨w.heap.size,4,none⟩ (.slice t1 tn t2) = w9 at *
     have Q1 := NC.out
     have Q2 := M2.out
     have Q3 := M3.out
     obtain ⟨x0,x1,x2,x3,x4,x5⟩ := Q1.cs6
     have d6 := Q2.cell 6
     simp only [List.getElem?_toArray,List.getElem?_cons_zero,List.getElem?_cons_succ] at d6
     obtain ⟨z0,z1,z2,z3,z4,z5⟩ := Q3.cs6
     obtain ⟨zf0,zf1,zf2,zf3,zf4,zf5⟩ := Q3.fs6
     have zlt := Q3.lt
     have FB := Lib.hid ((setB_box Q3 (.int .i64 b.me) (.slice p1 q1 s1) (.slice p2 q2 s2) (.slice p3 q3 s3) (.slice t1 tn t2) (.slice p5 q5 s5)).on (Below.refl _ _).drew)
     have FC := Lib.hid ((MC.out.but (but_setB w9 (w.heap.size + 1 + 1) (.int .i64 b.me) (.slice p1 q1 s1) (.slice p2 q2 s2) (.slice p3 q3 s3) (.slice t1 tn t2) (.slice p5 q5 s5)) Q3).grow (Below.refl _ _).drew)
     have FL := Lib.hid (setB_below (b := w.heap.size + 1 + 1) ML.out (by omega) (.int .i64 b.me) (.slice p1 q1 s1) (.slice p2 q2 s2) (.slice p3 q3 s3) (.slice t1 tn t2) (.slice p5 q5 s5)).drew
     clear Q1 Q2 Q3 NC MC M2 M3 ML
     go_wp2
     go_region
     all_goals simp only [Exit.then]
     all_goals apply_assumption
     all_goals
      clear x0 x1 x2 x3 x4 x5
      clear z0 z1 z2 z3 z4 z5 zf0 zf1 zf2 zf3 zf4 zf5 zlt
      clear d6
      unfold setB at FB FC FL
      generalize (((((((w9).setCell ⟨w.heap.size + 1 + 1,0,none⟩ (.int .i64 b.me)).setCell ⟨w.heap.size + 1 + 1,1,none⟩ (.slice p1 q1 s1)).setCell ⟨w.heap.size + 1 + 1,2,none⟩ (.slice p2 q2 s2)).setCell ⟨w.heap.size + 1 + 1,3,none⟩ (.slice p3 q3 s3)).setCell ⟨w.heap.size + 1 + 1,4,none⟩ (.slice t1 tn t2)).setCell ⟨w.heap.size + 1 + 1,5,none⟩ (.slice p5 q5 s5)).drew = wz at *
      obtain ⟨v0,v1,v2,v3,v4,v5⟩ := FB.out.cs6
      go_wp2
      refine bodyPost_ret (v := .tuple #[.agg #[.int .i64 b.me,.slice p1 q1 s1,.slice p2 q2 s2,.slice p3 q3 s3,.slice t1 tn t2,.slice p5 q5 s5],.bool false]) (by simp [results,Tryz.results16,go_sem,v0,v1,v2,v3,v4,v5]) rfl ?_
      rw [LQ.out]
      exact ⟨⟨(p1,q1,s1),(p2,q2,s2),(p3,q3,s3),(t1,tn,t2),(p5,q5,s5),rfl,FC.out.br FL.out,fun _ => ⟨_,FC.out.near⟩⟩,FL.out⟩
  ·have LQ := Lib.hid (show addB b e = (b,false) from by
    rw [← addF_eq HR.out]
    unfold addF
    obtain ⟨a,h0,h1⟩ : ∃ a,findA b.adv e.tree = some a ∧ r4 = a.par := by
     rw [ET.out]
     rcases HI.out with ⟨h,_⟩ | ⟨_,h⟩
     ·cases h
     ·exact h
    rw [h0]
    simp only
    rw [if_pos (by rw [ET.out,ES.out,TH.out])])
   have Q1 := T1.out
   have Q3 := T3.out
   obtain ⟨x0,x1,x2,x3,x4,x5⟩ := Q1.cs6
   obtain ⟨z0,z1,z2,z3,z4,z5⟩ := Q3.cs6
   obtain ⟨zf0,zf1,zf2,zf3,zf4,zf5⟩ := Q3.fs6
   have zlt := Q3.lt
   have FB := Lib.hid (setB_box Q3 (.int .i64 b.me) (.slice no nn nc) (.slice ao an ac) (.slice so sn sc) (.slice eo en ec) (.slice oo on_ oc))
   have FL := Lib.hid (setB_below (b := w.heap.size + 1 + 1) BW.out (by omega) (.int .i64 b.me) (.slice no nn nc) (.slice ao an ac) (.slice so sn sc) (.slice eo en ec) (.slice oo on_ oc))
   clear Q1 Q3
   go_wp2_with fail
   clear z0 z1 z2 z3 z4 z5
   obtain ⟨v0,v1,v2,v3,v4,v5⟩ := FB.out.cs6
   refine bodyPost_ret (v := .tuple #[.agg #[.int .i64 b.me,.slice no nn nc,.slice ao an ac,.slice so sn sc,.slice eo en ec,.slice oo on_ oc],.bool false]) (by simp [results,Tryz.results16,go_sem,v0,v1,v2,v3,v4,v5]) rfl ?_
   rw [LQ.out]
   exact ⟨⟨(no,nn,nc),(ao,an,ac),(so,sn,sc),(eo,en,ec),(oo,on_,oc),rfl,HH.out.on FL.out,fun h => h.on FL.out⟩,FL.out⟩
end Go.Proofs.YtncogjpmboglhaaGreat.Sb
