/-
  Unsubscribe of broadsideref9: an own subscription taken out, and its e. Conditions as told.
-/
import Derived.Test.YtncogjpmboglhaaGreatQ035
import Derived.Test.YtncogjpmboglhaaGreatQ032
import Derived.Test.YtncogjpmboglhaaGreatQ018
import Derived.Test.YtncogjpmboglhaaGreatQ022
import Derived.Test.YtncogjpmboglhaaGreatQ007
import Derived.Test.YtncogjpmboglhaaGreatQ012
import Derived.Test.YtncogjpmboglhaaGreatQ011
import Derived.Test.YtncogjpmboglhaaGreatQ014
set_option maxRecDepth 100000
set_option maxHeartbeats 64000000
namespace Go.Proofs.YtncogjpmboglhaaGreat.Bk
open Go.RowKit Go.Sort Rw YtncogjpmboglhaaGreat.Nm Pr
theorem ous_keep {W W' : World} {k : Nat} {me : Int} {s1 s2 s3 s4 s5 : Sl} {l : List XOu} {m : List Ou} (h : All2 (OuIn W) l m) (hb : Box W k (brcells me s1 s2 s3 s4 s5) 31) (hk : ∀ j,j < W.heap.size → j ≠ k → W'.heap[j]? = W.heap[j]?) : All2 (OuIn W') l m :=
 h.mono fun _ _ hx => ⟨hx.1,hx.2.1,hx.2.2.1,hx.2.2.2.1,row_keep okC hx.2.2.2.2.1 hk (no_text hb (br_text me s1 s2 s3 s4 s5)),hx.2.2.2.2.2⟩
def keepW (x : Id) (o : XOw) : Bool := decide ((o.1,o.2.1) ≠ x)
theorem runsubs_any (b : Br) (nv av sv ev ov : Sl) (x : Id) (w : World) (h : BrIn w b nv av sv ev ov) (l2 : b.adv.length ≤ 900) (l3 : b.ent.length ≤ 900) (l4 : b.own.length ≤ 900) (hok : ∀ e ∈ b.ent,PredOk e.p) (hkn : ∀ e ∈ b.ent,e.tree ∈ b.adv.map Ad.id) :
  Calls Tryz.prog 33 #[brv b.me nv av sv ev ov,idv x] w fun e w' => (∃ ev' ov' lo : Sl,e = .returned (.tuple #[brv b.me nv av sv ev' ov',slv lo]) ∧ BrIn w' (unsubsB b x).1 nv av sv ev' ov' ∧ OutsIn w' lo (unsubsB b x).2) ∧ Below w.heap.size w w' := by
 obtain ⟨no,nn,nc⟩ := nv
 obtain ⟨ao,an,ac⟩ := av
 obtain ⟨so,sn,sc⟩ := sv
 obtain ⟨eo,en,ec⟩ := ev
 obtain ⟨oo,on_,oc⟩ := ov
 obtain ⟨c,d⟩ := x
 obtain ⟨ws,hw1,hw2⟩ := h.own
 obtain ⟨q1,q2,hq⟩ := hw1.len
 obtain ⟨rfl,rfl,rfl⟩ : oo = q1 ∧ on_ = ws.length ∧ oc = q2 := by
  have : Value.slice oo on_ oc = .slice q1 ws.length q2 := hq
  simpa using this
 have HH := Lib.hid h
 have L2 := Lib.hid l2
 have L3 := Lib.hid l3
 have WL := Lib.hid (show ws.length ≤ 900 from by rw [hw2.len]; exact l4)
 have HW2 := Lib.hid hw2
 have OK := Lib.hid hok
 have KN := Lib.hid hkn
 obtain ⟨on_,hon⟩ : ∃ n,n = ws.length := ⟨_,rfl⟩
 simp only [← hon] at HH hw1 ⊢
 have N5 := Lib.hid hon
 obtain ⟨h0,h1,h2,h3⟩ := three_new w #[.int .i64 b.me,.slice no nn nc,.slice ao an ac,.slice so sn sc,.slice eo en ec,.slice oo on_ oc] #[.int .i64 c,.int .i64 d] #[.int .i64 0,.slice none 0 0,.slice none 0 0,.slice none 0 0,.slice none 0 0,.slice none 0 0] 31 38 31
 obtain ⟨me,hme⟩ : ∃ me,me = b.me := ⟨_,rfl⟩
 simp only [← hme] at h0 h1 h2 h3 ⊢
 have GB_1 := Lib.hid (h0)
 have X2_2 := Lib.hid (h1)
 have X3_3 := Lib.hid (h2)
 have X4_4 := Lib.hid (h3)
 have HW_5 := Lib.hid (hw1.on h0)
 have ME := Lib.hid hme
 clear h0 h1 h2 h3 h l2 l3 l4 hme hok hkn hw1 hw2 hq hon
 show Calls Tryz.prog 33 #[.agg #[.int .i64 me,.slice no nn nc,.slice ao an ac,.slice so sn sc,.slice eo en ec,.slice oo on_ oc],.agg #[.int .i64 c,.int .i64 d]] w _
 go_enter Tryz.func33,Tryz.ntmps33
 go_upto_region 1 with fail
 generalize (((w.alloc (.cells #[.int .i64 me,.slice no nn nc,.slice ao an ac,.slice so sn sc,.slice eo en ec,.slice oo on_ oc] 31)).alloc (.cells #[.int .i64 c,.int .i64 d] 38)).alloc (.cells #[.int .i64 0,.slice none 0 0,.slice none 0 0,.slice none 0 0,.slice none 0 0,.slice none 0 0] 31)) = W at *
 have W4 := Lib.hid (show w.heap.size + 3 ≤ W.heap.size from by have := X4_4.out.lt; omega)
 obtain ⟨x0,x1,x2,x3,x4,x5⟩ := X2_2.out.cs6
 go_wp2_with fail
 clear x0 x1 x2 x3 x4 x5
 go_loopw [6,17] (fun v i wr => ∃ q : Nat,q ≤ on_ ∧ i = .int .i64 q ∧ Below W.heap.size W wr ∧ OwnW wr W.heap.size v ((ws.take q).filter (keepW (c,d)))) (fun _ i _ => on_ - (intOf i).toNat)
 case atStart => exact ⟨0,Nat.zero_le _,rfl,Below.refl _ _,own_nil _ _⟩
 case round =>
  obtain ⟨q,hq,rfl,hbe,hown⟩ := hrel
  have BE := Lib.hid hbe
  have OE := Lib.hid hown
  clear hbe hown
  have l9 : on_ ≤ 900 := by rw [N5.out]; exact WL.out
  by_cases hlt : q < on_
  ·have hlt' : (q : Int) < (on_ : Int) := by omega
   have hw : IntKind.i64.wrap ((q : Int) + 1) = (q : Int) + 1 := IntWalk.i64_in _ (by omega)
   obtain ⟨z,hz⟩ : ∃ z,ws[q]? = some z := ⟨_,List.getElem?_eq_getElem (by rw [← N5.out]; exact hlt)⟩
   obtain ⟨p,ix,px⟩ := elW HW_5.out rfl N5.out.symm hz
   obtain ⟨p0,p1,p2⟩ := px wr BE.out
   have FS := Lib.hid (fil_snoc ws q z (keepW (c,d)) hz)
   obtain ⟨y1,y2,⟨yo,yn,yc⟩⟩ := z
   simp only at p0 p1 p2
   clear px hz
   go_upto_region 5 with fail
   clear p0 p1 p2 ix
   have NN := newB wr (.cells #[.int .i64 y1,.int .i64 y2,.slice yo yn yc] 45)
   have XE := Lib.hid (box_new wr #[.int .i64 y1,.int .i64 y2,.slice yo yn yc] 45)
   have BE2 := Lib.hid (BE.out.trans (NN.mono BE.out.size))
   have OE2 := Lib.hid (own_on OE.out NN)
   clear BE OE NN
   generalize wr.alloc (.cells #[.int .i64 y1,.int .i64 y2,.slice yo yn yc] 45) = wa at *
   obtain ⟨e0_,e1_,e2_⟩ := XE.out.cs3
   have y0 := (X3_3.out.on BE2.out).cell 0
   have y1_ := (X3_3.out.on BE2.out).cell 1
   simp only [List.getElem?_toArray,List.getElem?_cons_zero,List.getElem?_cons_succ] at y0 y1_
   obtain ⟨r,hr⟩ : ∃ r,(!(y1 == c && y2 == d)) = r := ⟨_,rfl⟩
   have he := neId y1 y2 c d r hr
   have KW := Lib.hid (show keepW (c,d) (y1,y2,(yo,yn,yc)) = r by
    rw [← hr]
    unfold keepW
    by_cases h1 : y1 = c <;> by_cases h2 : y2 = d <;> simp [h1,h2])
   clear hr
   cases r
   ·go_wp2_with fail
    go_roundw
    case rel => exact ⟨q + 1,hlt,by go_num,BE2.out,by rw [FS.out,KW.out]; simpa using OE2.out⟩
    case measure => simp [intOf]; omega
   ·have hl := row_lit okW wa [((y1,y2,(yo,yn,yc)) : XOw)] 1 rfl (by simp) #[.int .i64 y1,.int .i64 y2,.slice yo yn yc] (by rfl)
    have NB := newB wa (.cells #[.int .i64 y1,.int .i64 y2,.slice yo yn yc] 45)
    obtain ⟨v',x5,q2,o2,g2⟩ := app_row okW W.heap.size (own_on OE2.out NB) (Row.of_own hl) (by have h1 := List.length_filter_le (keepW (c,d)) (ws.take q); rw [List.length_take] at h1; omega) (by simp) (Nat.le_trans BE2.out.size NB.size) 29
    have q2 : (Builtin.append_ #[29,29] 29 #[u6,.slice (some ⟨wa.heap.size,0,none⟩) 1 1]).run Tryz.prog (wa.alloc (.cells #[.int .i64 y1,.int .i64 y2,.slice yo yn yc] 45)) = .ok v' x5 := q2
    have BX := Lib.hid ((BE2.out.trans (NB.mono BE2.out.size)).grown g2 (Nat.le_trans BE2.out.size NB.size) (fun j hj => ((own_on OE2.out NB).lt j hj).1))
    have O2 := Lib.hid o2
    clear hl NB o2 g2
    go_wp2_with (first | (at_builtin; refine wpList_append_run rfl _ _ 29 rfl rfl rfl q2 ?_) | fail)
    go_roundw
    case rel => exact ⟨q + 1,hlt,by go_num,BX.out,by rw [FS.out,KW.out]; simpa using O2.out⟩
    case measure => simp [intOf]; omega
  ·obtain rfl : on_ = q := by omega
   have et : ws.take on_ = ws := List.take_of_length_le (by have := N5.out; omega)
   rw [et] at OE
   clear et
   have FI := Lib.hid (show All2 (OwIn w) (ws.filter (keepW (c,d))) (ownBut b (c,d)) from HW2.out.fil _ _ fun a b h => by unfold keepW; rw [h.1])
   generalize ws.filter (keepW (c,d)) = ls at *
   obtain ⟨la,lc,hlv⟩ := (Row.of_own OE.out).len
   obtain ⟨ln,hln⟩ : ∃ n,n = ls.length := ⟨_,rfl⟩
   rw [← hln] at hlv
   subst hlv
   have LN := Lib.hid hln
   clear hln
   have LE := Lib.hid (show (ownBut b (c,d)).length = ln from by rw [LN.out,FI.out.len])
   have LO := Lib.hid (show b.own.length = on_ from by rw [← HW2.out.len,N5.out])
   have GB_6 := Lib.hid (GB_1.out.trans (BE.out.mono GB_1.out.size))
   have X2_6 := Lib.hid (X2_2.out.on BE.out)
   have X3_6 := Lib.hid (X3_3.out.on BE.out)
   have X4_6 := Lib.hid (X4_4.out.on BE.out)
   have HW_6 := Lib.hid (HW_5.out.on BE.out)
   clear GB_1 X2_2 X3_3 X4_4 HW_5
   obtain ⟨x0,x1,x2,x3,x4,x5⟩ := X2_6.out.cs6
   by_cases hll : ln = on_
   ·have hq1 : ((ln : Int) == (on_ : Int)) = true := by simp [hll]
    have HI := Lib.hid (HH.out.on GB_6.out)
    obtain ⟨r0,r1,r2,r3,r4,r5⟩ := X4_6.out.cs6
    obtain ⟨rf0,rf1,rf2,rf3,rf4,rf5⟩ := X4_6.out.fs6
    have zz := X4_6.out.lt
    have GG := Lib.hid (setB_box X4_6.out (.int .i64 me) (.slice no nn nc) (.slice ao an ac) (.slice so sn sc) (.slice eo en ec) (.slice oo on_ oc))
    have BL := Lib.hid (setB_below (b := w.heap.size + 1 + 1) GB_6.out (by omega) (.int .i64 me) (.slice no nn nc) (.slice ao an ac) (.slice so sn sc) (.slice eo en ec) (.slice oo on_ oc))
    have HK := Lib.hid (fun j (_ : j < wr.heap.size) (hj : j ≠ w.heap.size + 1 + 1) => setB_heap wr (w.heap.size + 1 + 1) (.int .i64 me) (.slice no nn nc) (.slice ao an ac) (.slice so sn sc) (.slice eo en ec) (.slice oo on_ oc) j hj)
    have HC := Lib.hid (brin_keep (s1 := (none,0,0)) (s2 := (none,0,0)) (s3 := (none,0,0)) (s4 := (none,0,0)) (s5 := (none,0,0)) HI.out X4_6.out HK.out (HH.out.near.on BL.out))
    go_wp2_with fail
    obtain ⟨v0,v1,v2,v3,v4,v5⟩ := GG.out.cs6
    refine bodyPost_ret (v := .tuple #[.agg #[.int .i64 me,.slice no nn nc,.slice ao an ac,.slice so sn sc,.slice eo en ec,.slice oo on_ oc],.slice none 0 0]) (by simp [results,Tryz.results33,go_sem,v0,v1,v2,v3,v4,v5]) rfl ?_
    have hd : unsubsB b (c,d) = (b,[]) := by unfold unsubsB; rw [if_pos (by rw [LE.out,LO.out]; exact hll)]
    rw [hd]
    exact ⟨⟨(eo,en,ec),(oo,on_,oc),(none,0,0),rfl,HC.out,outs_nil _⟩,BL.out⟩
   ·have hq1 : ((ln : Int) == (on_ : Int)) = false := by simp; omega
    have DB := Lib.hid (show unsubsB b (c,d) = unsubK b (c,d) b.adv.length from by unfold unsubsB; rw [if_neg (by rw [LE.out,LO.out]; exact hll)])
    have f5 := X2_6.out.fr 5
    have zz := X2_6.out.lt
    go_upto_region 11 with fail
    clear x0 x1 x2 x3 x4 x5
    have B2 := Lib.hid (GB_6.out.setCell (p := ⟨w.heap.size,5,none⟩) (Nat.le_refl _) (.slice la ln lc))
    have X2b := box_set (k := 5) X2_6.out (.slice la ln lc)
    simp only [List.setIfInBounds_toArray,List.set_cons_zero,List.set_cons_succ] at X2b
    have X3b : Box _ _ _ _ := (RowKit.Below.heap_setCell wr ⟨w.heap.size,5,none⟩ (.slice la ln lc) _ (show w.heap.size + 1 ≠ w.heap.size by omega)).trans X3_6.out
    have X4b : Box _ _ _ _ := (RowKit.Below.heap_setCell wr ⟨w.heap.size,5,none⟩ (.slice la ln lc) _ (show w.heap.size + 1 + 1 ≠ w.heap.size by omega)).trans X4_6.out
    have OL := Lib.hid (own_cell OE.out w.heap.size 5 (.slice la ln lc) (by have := W4.out; omega))
    have BS := Lib.hid (show BrIn _ { b with own := ownBut b (c,d) } (no,nn,nc) (ao,an,ac) (so,sn,sc) (eo,en,ec) (la,ln,lc) from ⟨HH.out.near.on B2.out,(HH.out.on B2.out).adv,(HH.out.on B2.out).seen,(HH.out.on B2.out).ent,⟨ls,Row.of_own OL.out,FI.out.mono fun _ _ h => h.on B2.out⟩⟩)
    clear zz f5 OL OE BE GB_6 X2_6 X3_6 X4_6 HW_6
    generalize wr.setCell ⟨w.heap.size,5,none⟩ (.slice la ln lc) = w2 at *
    have GB_7 := Lib.hid (B2.out)
    have X2_8 := Lib.hid (X2b)
    have X3_9 := Lib.hid (X3b)
    have X4_10 := Lib.hid (X4b)
    clear B2 X2b X3b X4b
    obtain ⟨ad0,ha1,ha2⟩ := BS.out.adv
    obtain ⟨q1,q2,hqv⟩ := ha1.len
    obtain rfl : an = b.adv.length := by have h1 : (Value.slice ao an ac) = .slice q1 ad0.length q2 := hqv; have h2 : an = ad0.length := (by simpa using congrArg (fun v => match v with | Value.slice _ n _ => n | _ => 0) h1); rw [h2,ha2.len]
    clear hqv ha1 ha2
    obtain ⟨an,han⟩ : ∃ n,n = b.adv.length := ⟨_,rfl⟩
    have AN := Lib.hid (show b.adv.length ≤ 900 from L2.out)
    obtain ⟨x0,x1,x2,x3,x4,x5⟩ := X2_8.out.cs6
    go_wp2_with fail
    clear x0 x1 x2 x3 x4 x5
    go_loopw [9,42] (fun v i wr => ∃ (k : Nat) (ea : Option Addr) (en2 ec2 : Nat) (ta : Option Addr) (tn tc : Nat),k ≤ b.adv.length ∧ i = .int .i64 k ∧ v = .slice ta tn tc ∧ Below w.heap.size w wr ∧ Box wr w.heap.size #[.int .i64 me,.slice no nn nc,.slice ao b.adv.length ac,.slice so sn sc,.slice ea en2 ec2,.slice la ln lc] 31 ∧ Box wr (w.heap.size + 1) #[.int .i64 c,.int .i64 d] 38 ∧ Box wr (w.heap.size + 1 + 1) #[.int .i64 0,.slice none 0 0,.slice none 0 0,.slice none 0 0,.slice none 0 0,.slice none 0 0] 31 ∧ BrIn wr (unsubK b (c,d) k).1 (no,nn,nc) (ao,b.adv.length,ac) (so,sn,sc) (ea,en2,ec2) (la,ln,lc) ∧ OutsIn wr (ta,tn,tc) (unsubK b (c,d) k).2) (fun _ i _ => b.adv.length - (intOf i).toNat)
    case atStart => exact ⟨0,eo,en,ec,none,0,0,Nat.zero_le _,rfl,rfl,GB_7.out,X2_8.out,X3_9.out,X4_10.out,BS.out,outs_nil _⟩
    case round =>
     clear BS GB_7 X2_8 X3_9 X4_10
     obtain ⟨k,ea,en2,ec2,ta,tn,tc,hk,rfl,rfl,hgb,hx2,hx3,hx4,hbr,hou⟩ := hrel
     have GB_21 := Lib.hid (hgb)
     have X2_22 := Lib.hid (hx2)
     have X3_23 := Lib.hid (hx3)
     have X4_24 := Lib.hid (hx4)
     have BR_25 := Lib.hid (hbr)
     have OU_26 := Lib.hid (hou)
     clear hgb hx2 hx3 hx4 hbr hou
     have UK := Lib.hid (unsubK_ok b (c,d) k hk)
     have l9 := AN.out
     by_cases hlt : k < b.adv.length
     ·have hlt' : (k : Int) < (b.adv.length : Int) := by omega
      have hw : IntKind.i64.wrap ((k : Int) + 1) = (k : Int) + 1 := IntWalk.i64_in _ (by omega)
      obtain ⟨a,hak⟩ : ∃ a,b.adv[k]? = some a := ⟨_,List.getElem?_eq_getElem hlt⟩
      have US := Lib.hid (unsubK_succ b (c,d) hak)
      have PK := Lib.hid (unsubK_all b (c,d) (fun e => PredOk e.p) (fun _ h => h) OK.out k hk)
      have TKN := Lib.hid (unsubK_all b (c,d) (fun e => e.tree ∈ b.adv.map Ad.id) (fun _ h => h) KN.out k hk)
      obtain ⟨ad,had1,had2⟩ := BR_25.out.adv
      rw [UK.out.1.adv] at had2
      obtain ⟨z,hz1,hz2⟩ := had2.at k a hak
      obtain ⟨p,ix,px⟩ := elD had1 rfl (by rw [had2.len]) hz1
      obtain ⟨p0,p1,p2,p3⟩ := px wr (Below.refl _ _)
      obtain ⟨z1,z2,⟨z3,z4,z5⟩,z6⟩ := z
      simp only at p0 p1 p2 p3
      have ZI := Lib.hid (show a.id = (z1,z2) from hz2.1.symm)
      clear px hz1 hz2 had1 had2 hak
      go_upto_region 15 with fail
      clear p0 p1 p2 p3 ix
      have NN := newB wr (.cells #[.int .i64 z1,.int .i64 z2,.slice z3 z4 z5,.int .i64 z6] 41)
      have GB_27 := Lib.hid (GB_21.out.trans (NN.mono GB_21.out.size))
      have X2_27 := Lib.hid (X2_22.out.on NN)
      have X3_27 := Lib.hid (X3_23.out.on NN)
      have X4_27 := Lib.hid (X4_24.out.on NN)
      have BR_27 := Lib.hid (BR_25.out.on NN)
      have OU_27 := Lib.hid (OU_26.out.on NN)
      clear GB_21 X2_22 X3_23 X4_24 BR_25 OU_26
      clear NN
      have X11_28 := Lib.hid (box_new wr #[.int .i64 z1,.int .i64 z2,.slice z3 z4 z5,.int .i64 z6] 41)
      generalize wr.alloc (.cells #[.int .i64 z1,.int .i64 z2,.slice z3 z4 z5,.int .i64 z6] 41) = wa at *
      have DP := Lib.hid (rdrop_any (unsubK b (c,d) k).1 (no,nn,nc) (ao,b.adv.length,ac) (so,sn,sc) (ea,en2,ec2) (la,ln,lc) (z1,z2) (c,d) (-1) wa BR_27.out (by rw [UK.out.1.adv]; exact AN.out) (Nat.le_trans UK.out.1.len L3.out) PK.out (by rw [UK.out.1.adv]; exact TKN.out))
      rw [UK.out.1.me,← ME.out] at DP
      obtain ⟨x0,x1,x2,x3,x4,x5⟩ := X2_27.out.cs6
      obtain ⟨y0,y1⟩ := X3_27.out.cs2
      obtain ⟨zc0,zc1,zc2,zc3⟩ := X11_28.out.cs4
      rw [ZI.out] at US
      have UK2 := Lib.hid (unsubK_ok b (c,d) (k + 1) hlt)
      rw [US.out] at UK2
      go_wp2_with fail
      refine DP.out.mono ?_
      rintro e1 w1 ⟨⟨⟨ea2,en3,ec3⟩,⟨ta2,tn2,tc2⟩,rfl,hbr,hou⟩,hb⟩
      clear DP
      clear x0 x1 x2 x3 x4 x5 y0 y1 zc0 zc1 zc2 zc3
      have GB_29 := Lib.hid (GB_27.out.trans (hb.mono GB_27.out.size))
      have X2_29 := Lib.hid (X2_27.out.on hb)
      have X3_29 := Lib.hid (X3_27.out.on hb)
      have X4_29 := Lib.hid (X4_27.out.on hb)
      have BR_29 := Lib.hid (BR_27.out.on hb)
      have OU_29 := Lib.hid (OU_27.out.on hb)
      have X11_29 := Lib.hid (X11_28.out.on hb)
      clear GB_27 X2_27 X3_27 X4_27 BR_27 OU_27 X11_28
      have BR2 := Lib.hid hbr
      have OU2 := Lib.hid hou
      clear hb hbr hou BR_29 X11_29
      go_upto_region 16 with fail
      have BR3 := Lib.hid (BR2.out.on (newB w1 (.cells #[.int .i64 me,.slice no nn nc,.slice ao b.adv.length ac,.slice so sn sc,.slice ea2 en3 ec3,.slice la ln lc] 31)))
      have OU3 := Lib.hid (OU2.out.on (newB w1 (.cells #[.int .i64 me,.slice no nn nc,.slice ao b.adv.length ac,.slice so sn sc,.slice ea2 en3 ec3,.slice la ln lc] 31)))
      clear BR2 OU2
      have NN := newB w1 (.cells #[.int .i64 me,.slice no nn nc,.slice ao b.adv.length ac,.slice so sn sc,.slice ea2 en3 ec3,.slice la ln lc] 31)
      have GB_30 := Lib.hid (GB_29.out.trans (NN.mono GB_29.out.size))
      have X2_30 := Lib.hid (X2_29.out.on NN)
      have X3_30 := Lib.hid (X3_29.out.on NN)
      have X4_30 := Lib.hid (X4_29.out.on NN)
      have OU_30 := Lib.hid (OU_29.out.on NN)
      clear GB_29 X2_29 X3_29 X4_29 OU_29
      clear NN
      have X12_31 := Lib.hid (box_new w1 #[.int .i64 me,.slice no nn nc,.slice ao b.adv.length ac,.slice so sn sc,.slice ea2 en3 ec3,.slice la ln lc] 31)
      generalize w1.alloc (.cells #[.int .i64 me,.slice no nn nc,.slice ao b.adv.length ac,.slice so sn sc,.slice ea2 en3 ec3,.slice la ln lc] 31) = wb at *
      obtain ⟨lo,hlo1,hlo2⟩ := OU_30.out
      obtain ⟨ls2,hls1,hls2⟩ := OU3.out
      have LL := UK.out.2
      have LD := dropB_len (unsubK b (c,d) k).1 (z1,z2) (c,d) (-1)
      have LU := UK.out.1.len
      have l3 := L3.out
      have LM : k * (b.ent.length + 1) ≤ 900 * 901 := Nat.mul_le_mul (by omega) (by omega)
      refine uns16 _ wb w.heap.size w1.heap.size me no ao so ea2 la nn nc b.adv.length ac sn sc en3 ec3 ln lc ta ta2 tn tc tn2 tc2 lo ls2 _ _ _ _ _ _ _ _ _ _ _ _ _ _ _ _ _ _ _ _ _ _ _ _ _ _ _ _ _ _ _ _ _ _ _ _ _ _ _ _ _ _ _ _ _ _ _ _ _ _ _ _ _ _ _ _ _ _ _ _ _ _ _ _ _ X2_30.out X12_31.out hlo1 hls1 (by rw [hlo2.len]; omega) (by rw [hls2.len]; omega) ?_
      intro x w9 v54 v55 v56 v57 v58 v59 hbx hown hblk hbl
      have GX := Lib.hid (GB_30.out.trans (hbl _ (Nat.le_refl _)))
      have Y2 := Lib.hid hbx
      have Y3 := Lib.hid (show Box _ _ _ _ from (hblk _ X3_30.out.lt (by omega)).trans X3_30.out)
      have Y4 := Lib.hid (show Box _ _ _ _ from (hblk _ X4_30.out.lt (by omega)).trans X4_30.out)
      have BRX := Lib.hid (brin_keep (s1 := (no,nn,nc)) (s2 := (ao,b.adv.length,ac)) (s3 := (so,sn,sc)) (s4 := (ea,en2,ec2)) (s5 := (la,ln,lc)) BR3.out X2_30.out hblk (by rw [show (dropB (unsubK b (c,d) k).1 (z1,z2) (c,d) (-1)).1.near = b.near from UK2.out.1.near]; exact HH.out.near.on GX.out))
      have OA := Lib.hid ((ous_keep (s1 := (no,nn,nc)) (s2 := (ao,b.adv.length,ac)) (s3 := (so,sn,sc)) (s4 := (ea,en2,ec2)) (s5 := (la,ln,lc)) hlo2 X2_30.out hblk).append (ous_keep (s1 := (no,nn,nc)) (s2 := (ao,b.adv.length,ac)) (s3 := (so,sn,sc)) (s4 := (ea,en2,ec2)) (s5 := (la,ln,lc)) hls2 X2_30.out hblk))
      obtain ⟨ra,rc,hrv⟩ := (Row.of_own hown).len
      have RR := Lib.hid (Row.of_own hown)
      rw [hrv] at RR
      rw [hrv]
      clear hbx hown hblk hbl hlo1 hlo2 hls1 hls2 hrv BR3 OU3
      go_wp2_with fail
      go_roundw
      case rel => exact ⟨k + 1,ea2,en3,ec3,ra,_,rc,hlt,by go_num,rfl,GX.out,Y2.out,Y3.out,Y4.out,by rw [US.out]; exact BRX.out,by rw [US.out]; exact ⟨_,RR.out,OA.out⟩⟩
      case measure => simp [intOf]; omega
     ·obtain rfl : k = b.adv.length := by omega
      obtain ⟨x0,x1,x2,x3,x4,x5⟩ := X2_22.out.cs6
      obtain ⟨r0,r1,r2,r3,r4,r5⟩ := X4_24.out.cs6
      obtain ⟨rf0,rf1,rf2,rf3,rf4,rf5⟩ := X4_24.out.fs6
      have zz := X4_24.out.lt
      have GG := Lib.hid (setB_box X4_24.out (.int .i64 me) (.slice no nn nc) (.slice ao b.adv.length ac) (.slice so sn sc) (.slice ea en2 ec2) (.slice la ln lc))
      have BL := Lib.hid (setB_below (b := w.heap.size + 1 + 1) GB_21.out (by omega) (.int .i64 me) (.slice no nn nc) (.slice ao b.adv.length ac) (.slice so sn sc) (.slice ea en2 ec2) (.slice la ln lc))
      have HK := Lib.hid (fun j (_ : j < wr.heap.size) (hj : j ≠ w.heap.size + 1 + 1) => setB_heap wr (w.heap.size + 1 + 1) (.int .i64 me) (.slice no nn nc) (.slice ao b.adv.length ac) (.slice so sn sc) (.slice ea en2 ec2) (.slice la ln lc) j hj)
      have HC := Lib.hid (brin_keep (s1 := (none,0,0)) (s2 := (none,0,0)) (s3 := (none,0,0)) (s4 := (none,0,0)) (s5 := (none,0,0)) BR_25.out X4_24.out HK.out (by rw [UK.out.1.near]; exact HH.out.near.on BL.out))
      have HO := Lib.hid (outs_keep (s1 := (none,0,0)) (s2 := (none,0,0)) (s3 := (none,0,0)) (s4 := (none,0,0)) (s5 := (none,0,0)) OU_26.out X4_24.out HK.out)
      go_wp2_with fail
      obtain ⟨v0,v1,v2,v3,v4,v5⟩ := GG.out.cs6
      refine bodyPost_ret (v := .tuple #[.agg #[.int .i64 me,.slice no nn nc,.slice ao b.adv.length ac,.slice so sn sc,.slice ea en2 ec2,.slice la ln lc],.slice ta tn tc]) (by simp [results,Tryz.results33,go_sem,v0,v1,v2,v3,v4,v5]) rfl ?_
      rw [DB.out]
      exact ⟨⟨(ea,en2,ec2),(la,ln,lc),(ta,tn,tc),rfl,HC.out,HO.out⟩,BL.out⟩
end Go.Proofs.YtncogjpmboglhaaGreat.Bk
namespace Go.Proofs.YtncogjpmboglhaaGreat.Av
open Go.RowKit Go.Sort Rw YtncogjpmboglhaaGreat.Nm Pr Bk
structure BrN (W : World) (b : Br) (nv av sv ev ov : Sl) : Prop where
 br : BrIn W b nv av sv ev ov
 no : NearOwn W nv b.near
theorem BrN.on {W W' : World} {b : Br} {nv av sv ev ov : Sl} (h : BrN W b nv av sv ev ov) (hb : Below W.heap.size W W') : BrN W' b nv av sv ev ov := ⟨h.br.on hb,h.no.on hb⟩
theorem BrN.keep {W W' : World} {k : Nat} {me : Int} {s1 s2 s3 s4 s5 : Sl} {b : Br} {nv av sv ev ov : Sl} (h : BrN W b nv av sv ev ov) (hb : Box W k (brcells me s1 s2 s3 s4 s5) 31) (hk : But k W W') : BrN W' b nv av sv ev ov := by
 obtain ⟨B,hn⟩ := h.no
 have hn2 : OwnI W' B (slv nv) b.near := hk.own hn hb (by decide)
 exact ⟨brin_keep h.br hb hk.1 (Row.of_own hn2),B,hn2⟩
theorem brin_nil (W : World) (me : Int) {near : List Int} {nv : Sl} (h : RowI W (slv nv) near) : BrIn W ⟨me,near,[],[],[],[]⟩ nv (none,0,0) (none,0,0) (none,0,0) (none,0,0) := ⟨h,⟨[],row_nil _,.nil⟩,row_nil _,⟨[],row_nil _,.nil⟩,⟨[],row_nil _,.nil⟩⟩
theorem rise_uniq : ∀ {l m : List Int},l.Pairwise (· < ·) → m.Pairwise (· < ·) → (∀ x,x ∈ l ↔ x ∈ m) → l = m
 | [],[],_,_,_ => rfl
 | [],y :: m,_,_,h => by have := (h y).2 (by simp); simp at this
 | x :: l,[],_,_,h => by have := (h x).1 (by simp); simp at this
 | x :: l,y :: m,hl,hm,h => by
  have hl' := List.pairwise_cons.1 hl
  have hm' := List.pairwise_cons.1 hm
  have h1 : x = y := by
   rcases List.mem_cons.1 ((h x).1 (by simp)) with e | e
   ·exact e
   ·rcases List.mem_cons.1 ((h y).2 (by simp)) with e2 | e2
    ·exact e2.symm
    ·have a1 := hm'.1 x e
     have a2 := hl'.1 y e2
     omega
  subst h1
  rw [rise_uniq hl'.2 hm'.2 fun z => ⟨fun hz => ?_,fun hz => ?_⟩]
  ·rcases List.mem_cons.1 ((h z).1 (List.mem_cons_of_mem _ hz)) with e | e
   ·have := hl'.1 z hz
    omega
   ·exact e
  ·rcases List.mem_cons.1 ((h z).2 (List.mem_cons_of_mem _ hz)) with e | e
   ·have := hm'.1 z hz
    omega
   ·exact e
theorem but_grown {W W' : World} {b : Nat} (h : W.grownBy W' (some b)) : But b W W' := ⟨fun k hk hne => h.block k hk (by simpa using hne),h.size⟩
end Go.Proofs.YtncogjpmboglhaaGreat.Av
namespace Go.Proofs.YtncogjpmboglhaaGreat.Bk
open Go.RowKit Rw YtncogjpmboglhaaGreat.Nm Pr
def subs6V (B b2 _ : Nat) (so : Option Addr) (sn sc at_ : Nat) (lo hiv : Value) (z : XOw) (lt ld : List XOw) (i : Nat) (v : Value) (x : World) : Prop :=
 match i with
 | 0 => ∃ g,v = .slice (some ⟨g,0,none⟩) 0 0 ∧ B ≤ g ∧ Box x g #[] 45
 | 1 => v = .pointer (some ⟨b2,5,none⟩)
 | 2 => v = .slice so sn sc
 | 3 => v = .int .i64 (at_ : Int)
 | 4 => v = lo
 | 5 => OwnW x B v lt
 | 6 => v = idv (z.1,z.2.1)
 | 7 => v = slv z.2.2
 | 8 => v = valW z
 | 9 => OwnW x B v [z]
 | 10 => OwnW x B v (lt ++ [z])
 | 11 => v = .pointer (some ⟨b2,5,none⟩)
 | 12 => v = .slice so sn sc
 | 13 => v = .int .i64 (at_ : Int)
 | 14 => v = hiv
 | 15 => OwnW x B v (lt ++ [z] ++ ld)
 | 16 => v = .pointer (some ⟨b2,5,none⟩)
 | _ => True
noncomputable def subsR6 : Code := ((Tryz.f32.body.bind (findRegion 6)).getD .skip)
theorem subs6V_on (B b2 b3 : Nat) (so : Option Addr) (sn sc at_ : Nat) (lo hiv : Value) (z : XOw) (lt ld : List XOw) (i : Nat) (v : Value) (x x' : World) (h : subs6V B b2 b3 so sn sc at_ lo hiv z lt ld i v x) (hb : Below x.heap.size x x') : subs6V B b2 b3 so sn sc at_ lo hiv z lt ld i v x' := by
 by_cases hi : i < 17
 ·rcases (by omega : i = 0 ∨ i = 1 ∨ i = 2 ∨ i = 3 ∨ i = 4 ∨ i = 5 ∨ i = 6 ∨ i = 7 ∨ i = 8 ∨ i = 9 ∨ i = 10 ∨ i = 11 ∨ i = 12 ∨ i = 13 ∨ i = 14 ∨ i = 15 ∨ i = 16) with rfl | rfl | rfl | rfl | rfl | rfl | rfl | rfl | rfl | rfl | rfl | rfl | rfl | rfl | rfl | rfl | rfl
  ·obtain ⟨g,h1,h2,h3⟩ := h
   exact ⟨g,h1,h2,h3.on hb⟩
  ·exact h
  ·exact h
  ·exact h
  ·exact h
  ·exact own_on h hb
  ·exact h
  ·exact h
  ·exact h
  ·exact own_on h hb
  ·exact own_on h hb
  ·exact h
  ·exact h
  ·exact h
  ·exact h
  ·exact own_on h hb
  ·exact h
 ·unfold subs6V
  split <;> first | omega | trivial
theorem subs6 (Q : Exit → Act → World → Prop) (W : World) (b2 b3 : Nat) (me : Int) (y1 y2 y3 y4 : Value) (so : Option Addr) (sn sc at_ : Nat) (l : List XOw) (z : XOw) (u0 u1 u5 u6 u7 u9 u10 u11 u12 u13 u14 u15 u16 u17 u18 u19 u20 u21 u22 u23 u24 u25 u26 u27 u28 u29 u30 u31 u32 u33 u34 u35 u36 u37 u38 u39 u40 u41 u42 u43 u44 u45 u46 u47 u48 u49 u50 u51 u52 u53 u54 u55 u56 u57 u58 u59 u60 u61 u62 u63 u64 u65 u66 u67 u68 u69 u70 u71 u72 u73 u74 u75 u76 u77 u78 u79 u80 u81 u82 u83 u84 u85 u86 u87 u88 u89 u90 u91 u92 u93 u94 u95 u96 u97 u98 : Value)
  (h2 : Box W b2 #[.int .i64 me,y1,y2,y3,y4,.slice so sn sc] 31) (hx : ∀ x,Below W.heap.size W x → ∀ j u,(cellsJ (z.1,z.2.1))[j]? = some u → x.cell? ((⟨b3,0,none⟩ : Addr).add j) = some u) (hs : RowW W (.slice so sn sc) l) (hat : at_ ≤ l.length) (hlen : l.length ≤ 900)
  (hQ : ∀ (x : World) (v47 v48 v49 v50 v51 v52 v53 v54 v55 v56 v57 v58 v59 v60 v61 v62 v63 : Value),Box x b2 #[.int .i64 me,y1,y2,y3,y4,v62] 31 → OwnW x W.heap.size v62 (l.take at_ ++ [z] ++ l.drop at_) → (∀ B,B ≤ b2 → Below B W x) → (∀ c cs t,c ≠ b2 → Box W c cs t → Box x c cs t) → (∀ k,k < W.heap.size → k ≠ b2 → x.heap[k]? = W.heap[k]?) → Q .normal ⟨(u0 :: u1 :: slv z.2.2 :: .pointer (some ⟨b2,0,none⟩) :: .pointer (some ⟨b3,0,none⟩) :: u5 :: u6 :: u7 :: .int .i64 (at_ : Int) :: u9 :: u10 :: u11 :: u12 :: u13 :: u14 :: u15 :: u16 :: u17 :: u18 :: u19 :: u20 :: u21 :: u22 :: u23 :: u24 :: u25 :: u26 :: u27 :: u28 :: u29 :: u30 :: u31 :: u32 :: u33 :: u34 :: u35 :: u36 :: u37 :: u38 :: u39 :: u40 :: u41 :: u42 :: u43 :: u44 :: u45 :: u46 :: v47 :: v48 :: v49 :: v50 :: v51 :: v52 :: v53 :: v54 :: v55 :: v56 :: v57 :: v58 :: v59 :: v60 :: v61 :: v62 :: v63 :: u64 :: u65 :: u66 :: u67 :: u68 :: u69 :: u70 :: u71 :: u72 :: u73 :: u74 :: u75 :: u76 :: u77 :: u78 :: u79 :: u80 :: u81 :: u82 :: u83 :: u84 :: u85 :: u86 :: u87 :: u88 :: u89 :: u90 :: u91 :: u92 :: u93 :: u94 :: u95 :: u96 :: u97 :: u98 :: []).toArray,[]⟩ x) :
  Code.wp Tryz.prog subsR6 Q ⟨(u0 :: u1 :: slv z.2.2 :: .pointer (some ⟨b2,0,none⟩) :: .pointer (some ⟨b3,0,none⟩) :: u5 :: u6 :: u7 :: .int .i64 (at_ : Int) :: u9 :: u10 :: u11 :: u12 :: u13 :: u14 :: u15 :: u16 :: u17 :: u18 :: u19 :: u20 :: u21 :: u22 :: u23 :: u24 :: u25 :: u26 :: u27 :: u28 :: u29 :: u30 :: u31 :: u32 :: u33 :: u34 :: u35 :: u36 :: u37 :: u38 :: u39 :: u40 :: u41 :: u42 :: u43 :: u44 :: u45 :: u46 :: u47 :: u48 :: u49 :: u50 :: u51 :: u52 :: u53 :: u54 :: u55 :: u56 :: u57 :: u58 :: u59 :: u60 :: u61 :: u62 :: u63 :: u64 :: u65 :: u66 :: u67 :: u68 :: u69 :: u70 :: u71 :: u72 :: u73 :: u74 :: u75 :: u76 :: u77 :: u78 :: u79 :: u80 :: u81 :: u82 :: u83 :: u84 :: u85 :: u86 :: u87 :: u88 :: u89 :: u90 :: u91 :: u92 :: u93 :: u94 :: u95 :: u96 :: u97 :: u98 :: []).toArray,[]⟩ W := by
 have HQ := Lib.hid hQ
 have H2 := Lib.hid h2
 have LX := Lib.hid hx
 obtain ⟨lo,slo,rlo⟩ := row_lo okW hs at_ (by omega)
 obtain ⟨hiv,shi,rhi⟩ := row_hi okW hs (at_) hat
 have LT := Lib.hid (show (l.take at_).length ≤ 1000 by rw [List.length_take]; omega)
 have LTD := Lib.hid (show (l.take at_).length ≤ 900 by rw [List.length_take]; omega)
 have LD := Lib.hid (show (l.drop (at_)).length ≤ 1000 by rw [List.length_drop]; omega)
 generalize l.take at_ = lt at *
 generalize l.drop (at_) = ld at *
 have SL := Lib.hid slo
 have SH := Lib.hid shi
 have RL := Lib.hid rlo
 have RH := Lib.hid rhi
 clear hQ h2 hx hs slo shi rlo rhi hat hlen
 have stab := subs6V_on W.heap.size b2 b3 so sn sc at_ lo hiv z lt ld
 unfold subsR6
 conv => arg 2; whnf
 have nd : ∀ j,(j < 47 ∨ 64 ≤ j) → ∀ i,i < 17 → (fun i => 47 + i) i ≠ j := by
  intro j hj i hi h
  simp only at h
  omega
 refine Rg.region_live 18 17 (fun i => 47 + i) (fun i => if i = 0 then 5 else if i = 5 then 10 else if i = 9 then 10 else if i = 10 then 15 else 17) (subs6V W.heap.size b2 b3 so sn sc at_ lo hiv z lt ld) (by kernel_rfl) (by kernel_rfl) rfl (by decide) (fun i j _ _ h => by have h2 : 47 + i = 47 + j := h; omega) (fun i hi => by show 47 + i < 99; omega) ?_ (fun _ => Rg.hall_of 1 (by kernel_rfl)) (fun kk o h1 h2 => by omega) ?_
 ·intro i o hi ho a x D hnd hc hD hb seen K hK
  clear HQ
  rcases (by omega : i = 0 ∨ i = 1 ∨ i = 2 ∨ i = 3 ∨ i = 4 ∨ i = 5 ∨ i = 6 ∨ i = 7 ∨ i = 8 ∨ i = 9 ∨ i = 10 ∨ i = 11 ∨ i = 12 ∨ i = 13 ∨ i = 14 ∨ i = 15 ∨ i = 16) with rfl | rfl | rfl | rfl | rfl | rfl | rfl | rfl | rfl | rfl | rfl | rfl | rfl | rfl | rfl | rfl | rfl
  ·obtain rfl := Option.some.inj ho
   exact Rg.op_value rfl rfl (Rg.ex_build a.eval _ 29 0 #[] rfl rfl (by simp [go_sem])) (hK (.slice (some ⟨x.heap.size,0,none⟩) 0 0) (x.alloc (.cells #[] 45)) ⟨x.heap.size,rfl,hb.size,box_new x #[] 45⟩ ((Below.refl _ _).alloc hb.size _) fun j u _ _ _ _ _ h => stab j u _ _ h ((Below.refl _ _).alloc (Nat.le_refl _) _))
  ·obtain rfl := Option.some.inj ho
   have e3 : a.eval (.tmp 3) = .pointer (some ⟨b2,0,none⟩) := seen.kp 3 _ (nd 3 (by omega)) rfl
   exact Rg.op_value rfl rfl (Rg.ex_field a.eval _ 31 (.tmp 3) 5 rfl (by rw [e3]; simp [go_sem])) (hK _ _ rfl (Below.refl _ _) fun _ _ _ _ _ _ _ h => h)
  ·obtain rfl := Option.some.inj ho
   have e48 : a.eval (.tmp 48) = .pointer (some ⟨b2,5,none⟩) := seen.at_ ⟨1,.data⟩ (by simp) rfl (Or.inr (by decide))
   have y := (H2.out.on hb).cell 5
   simp only [List.getElem?_toArray,List.getElem?_cons_zero,List.getElem?_cons_succ] at y
   exact Rg.op_value rfl rfl (Rg.ex_load a.eval _ 29 (.tmp 48) rfl (by rw [e48]; simp [go_sem,y])) (hK _ _ rfl (Below.refl _ _) fun _ _ _ _ _ _ _ h => h)
  ·obtain rfl := Option.some.inj ho
   have e8 : a.eval (.tmp 8) = .int .i64 (at_ : Int) := seen.kp 8 _ (nd 8 (by omega)) rfl
   exact Rg.op_value rfl rfl (Rg.ex_move a.eval _ (.tmp 8) rfl x) (hK _ _ e8 (Below.refl _ _) fun _ _ _ _ _ _ _ h => h)
  ·obtain rfl := Option.some.inj ho
   have e49 : a.eval (.tmp 49) = .slice so sn sc := seen.at_ ⟨2,.data⟩ (by simp) rfl (Or.inr (by decide))
   have e50 : a.eval (.tmp 50) = .int .i64 (at_ : Int) := seen.at_ ⟨3,.data⟩ (by simp) rfl (Or.inr (by decide))
   exact Rg.op_value rfl rfl (Rg.ex_slice a.eval _ 29 (.tmp 49) none (some (.tmp 50)) none rfl (by show (Instr.sliceAt 29 (a.eval (.tmp 49)) none (some (a.eval (.tmp 50))) none).run Tryz.prog x = .ok lo x; rw [e49,e50]; exact SL.out x)) (hK _ _ rfl (Below.refl _ _) fun _ _ _ _ _ _ _ h => h)
  ·obtain rfl := Option.some.inj ho
   obtain ⟨g,q0,hBg,hbx⟩ := seen.at_ ⟨0,.data⟩ (by simp) rfl (Or.inl rfl)
   have q0 : a.eval (.tmp 47) = .slice (some ⟨g,0,none⟩) 0 0 := q0
   have e51 : a.eval (.tmp 51) = lo := seen.at_ ⟨4,.data⟩ (by simp) rfl (Or.inr (by decide))
   obtain ⟨v',x',r,o',gr⟩ := app_fresh okW W.heap.size hbx hBg (RL.out.on hb) LT.out 29
   exact Rg.op_value rfl rfl (Rg.ex_append a.eval _ (.tmp 47) (.tmp 51) 29 rfl q0 e51 r) (hK v' x' o' (gr.mono hb.size) fun j u _ _ _ _ _ h => stab j u _ _ h gr)
  ·obtain rfl := Option.some.inj ho
   have e4 : a.eval (.tmp 4) = .pointer (some ⟨b3,0,none⟩) := seen.kp 4 _ (nd 4 (by omega)) rfl
   exact Rg.op_value rfl rfl (Rg.ex_load a.eval _ 38 (.tmp 4) rfl (by rw [e4]; exact loadJ x _ (z.1,z.2.1) (LX.out x hb))) (hK _ _ rfl (Below.refl _ _) fun _ _ _ _ _ _ _ h => h)
  ·obtain rfl := Option.some.inj ho
   have e2 : a.eval (.tmp 2) = slv z.2.2 := seen.kp 2 _ (nd 2 (by omega)) rfl
   exact Rg.op_value rfl rfl (Rg.ex_move a.eval _ (.tmp 2) rfl x) (hK _ _ e2 (Below.refl _ _) fun _ _ _ _ _ _ _ h => h)
  ·obtain rfl := Option.some.inj ho
   have e53 : a.eval (.tmp 53) = idv (z.1,z.2.1) := seen.at_ ⟨6,.data⟩ (by simp) rfl (Or.inr (by decide))
   have e54 : a.eval (.tmp 54) = slv z.2.2 := seen.at_ ⟨7,.data⟩ (by simp) rfl (Or.inr (by decide))
   exact Rg.op_value rfl rfl (Rg.ex_buildS a.eval _ 45 #[(0,.tmp 53),(1,.tmp 54)] rfl (ps := #[(0,idv (z.1,z.2.1)),(1,slv z.2.2)]) (by simp only [List.map_toArray,List.map_cons,List.map_nil,e53,e54]) (by simp [go_sem])) (hK _ _ rfl (Below.refl _ _) fun _ _ _ _ _ _ _ h => h)
  ·obtain rfl := Option.some.inj ho
   have e55 : a.eval (.tmp 55) = valW z := seen.at_ ⟨8,.data⟩ (by simp) rfl (Or.inr (by decide))
   have hl := row_lit okW x [z] 1 rfl (by simp) (cellsW z).toArray (by simp [flat,EW])
   have hl : OwnW (x.alloc (.cells (cellsW z).toArray 45)) x.heap.size (.slice (some ⟨x.heap.size,0,none⟩) 1 1) [z] := hl
   exact Rg.op_value rfl rfl (Rg.ex_build a.eval _ 29 1 #[(0,.tmp 55)] rfl (ps := #[(0,valW z)]) (by simp [e55]) (by simp [go_sem])) (hK (.slice (some ⟨x.heap.size,0,none⟩) 1 1) (x.alloc (.cells (cellsW z).toArray 45)) (own_fewer hl hb.size) ((Below.refl _ _).alloc hb.size _) fun j u _ _ _ _ _ h => stab j u _ _ h ((Below.refl _ _).alloc (Nat.le_refl _) _))
  ·obtain rfl := Option.some.inj ho
   have o52 : OwnW x W.heap.size (a.eval (.tmp 52)) (lt) := seen.at_ ⟨5,.data⟩ (by simp) rfl (Or.inl rfl)
   have o56 : OwnW x W.heap.size (a.eval (.tmp 56)) ([z]) := seen.at_ ⟨9,.data⟩ (by simp) rfl (Or.inl rfl)
   have ox := Row.of_own o56
   obtain ⟨v',x',r,o',gr⟩ := app_row okW W.heap.size o52 ox (by have := LT.out; omega) (by simp) hb.size 29
   exact Rg.op_value rfl rfl (Rg.ex_append a.eval _ (.tmp 52) (.tmp 56) 29 rfl rfl rfl r) (hK v' x' o' ((Below.refl _ x).grown gr hb.size fun j hj => (o52.lt j hj).1) fun j u hj dj nl nx ni h => by
    rcases (by omega : j = 0 ∨ j = 1 ∨ j = 2 ∨ j = 3 ∨ j = 4 ∨ j = 5 ∨ j = 6 ∨ j = 7 ∨ j = 8 ∨ j = 9 ∨ j = 10 ∨ j = 11 ∨ j = 12 ∨ j = 13 ∨ j = 14 ∨ j = 15 ∨ j = 16) with rfl | rfl | rfl | rfl | rfl | rfl | rfl | rfl | rfl | rfl | rfl | rfl | rfl | rfl | rfl | rfl | rfl
    ·exact absurd rfl (fun _ : (0 : Nat) = 0 => nl (hc 5 _ (hD ⟨5,.data⟩ (by simp) rfl) rfl ⟨0,.data⟩ (by simp) rfl |> fun _ => hD ⟨5,.data⟩ (by simp) rfl))
    ·exact h
    ·exact h
    ·exact h
    ·exact h
    ·exact absurd rfl (fun _ : (0 : Nat) = 0 => nx rfl)
    ·exact h
    ·exact h
    ·exact h
    ·exact absurd rfl (fun _ : (0 : Nat) = 0 => nx rfl)
    ·exact absurd rfl (fun _ : (0 : Nat) = 0 => ni rfl)
    ·exact h
    ·exact h
    ·exact h
    ·exact h
    ·exact absurd rfl (fun _ : (0 : Nat) = 0 => hnd (hc 15 _ dj rfl ⟨10,.data⟩ (by simp) rfl))
    ·exact h)
  ·obtain rfl := Option.some.inj ho
   have e3 : a.eval (.tmp 3) = .pointer (some ⟨b2,0,none⟩) := seen.kp 3 _ (nd 3 (by omega)) rfl
   exact Rg.op_value rfl rfl (Rg.ex_field a.eval _ 31 (.tmp 3) 5 rfl (by rw [e3]; simp [go_sem])) (hK _ _ rfl (Below.refl _ _) fun _ _ _ _ _ _ _ h => h)
  ·obtain rfl := Option.some.inj ho
   have e58 : a.eval (.tmp 58) = .pointer (some ⟨b2,5,none⟩) := seen.at_ ⟨11,.data⟩ (by simp) rfl (Or.inr (by decide))
   have y := (H2.out.on hb).cell 5
   simp only [List.getElem?_toArray,List.getElem?_cons_zero,List.getElem?_cons_succ] at y
   exact Rg.op_value rfl rfl (Rg.ex_load a.eval _ 29 (.tmp 58) rfl (by rw [e58]; simp [go_sem,y])) (hK _ _ rfl (Below.refl _ _) fun _ _ _ _ _ _ _ h => h)
  ·obtain rfl := Option.some.inj ho
   have e8 : a.eval (.tmp 8) = .int .i64 (at_ : Int) := seen.kp 8 _ (nd 8 (by omega)) rfl
   exact Rg.op_value rfl rfl (Rg.ex_move a.eval _ (.tmp 8) rfl x) (hK _ _ e8 (Below.refl _ _) fun _ _ _ _ _ _ _ h => h)
  ·obtain rfl := Option.some.inj ho
   have e59 : a.eval (.tmp 59) = .slice so sn sc := seen.at_ ⟨12,.data⟩ (by simp) rfl (Or.inr (by decide))
   have e60 : a.eval (.tmp 60) = .int .i64 (at_ : Int) := seen.at_ ⟨13,.data⟩ (by simp) rfl (Or.inr (by decide))
   exact Rg.op_value rfl rfl (Rg.ex_slice a.eval _ 29 (.tmp 59) (some (.tmp 60)) none none rfl (by show (Instr.sliceAt 29 (a.eval (.tmp 59)) (some (a.eval (.tmp 60))) none none).run Tryz.prog x = .ok hiv x; rw [e59,e60]; exact SH.out x)) (hK _ _ rfl (Below.refl _ _) fun _ _ _ _ _ _ _ h => h)
  ·obtain rfl := Option.some.inj ho
   have o57 : OwnW x W.heap.size (a.eval (.tmp 57)) ((lt ++ [z])) := seen.at_ ⟨10,.data⟩ (by simp) rfl (Or.inl rfl)
   have e61 : a.eval (.tmp 61) = hiv := seen.at_ ⟨14,.data⟩ (by simp) rfl (Or.inr (by decide))
   have ox : RowW x (a.eval (.tmp 61)) ld := by rw [e61]; exact RH.out.on hb
   obtain ⟨v',x',r,o',gr⟩ := app_row okW W.heap.size o57 ox (by have := LTD.out; rw [List.length_append,List.length_singleton]; omega) LD.out hb.size 29
   exact Rg.op_value rfl rfl (Rg.ex_append a.eval _ (.tmp 57) (.tmp 61) 29 rfl rfl rfl r) (hK v' x' o' ((Below.refl _ x).grown gr hb.size fun j hj => (o57.lt j hj).1) fun j u hj dj nl nx ni h => by
    rcases (by omega : j = 0 ∨ j = 1 ∨ j = 2 ∨ j = 3 ∨ j = 4 ∨ j = 5 ∨ j = 6 ∨ j = 7 ∨ j = 8 ∨ j = 9 ∨ j = 10 ∨ j = 11 ∨ j = 12 ∨ j = 13 ∨ j = 14 ∨ j = 15 ∨ j = 16) with rfl | rfl | rfl | rfl | rfl | rfl | rfl | rfl | rfl | rfl | rfl | rfl | rfl | rfl | rfl | rfl | rfl
    ·exact absurd rfl (fun _ : (0 : Nat) = 0 => nl (hc 10 _ (hD ⟨10,.data⟩ (by simp) rfl) rfl ⟨5,.data⟩ (by simp) rfl))
    ·exact h
    ·exact h
    ·exact h
    ·exact h
    ·exact absurd rfl (fun _ : (0 : Nat) = 0 => nl (hD ⟨10,.data⟩ (by simp) rfl))
    ·exact h
    ·exact h
    ·exact h
    ·exact absurd rfl (fun _ : (0 : Nat) = 0 => nl (hD ⟨10,.data⟩ (by simp) rfl))
    ·exact absurd rfl (fun _ : (0 : Nat) = 0 => nx rfl)
    ·exact h
    ·exact h
    ·exact h
    ·exact h
    ·exact absurd rfl (fun _ : (0 : Nat) = 0 => ni rfl)
    ·exact h)
  ·obtain rfl := Option.some.inj ho
   have e3 : a.eval (.tmp 3) = .pointer (some ⟨b2,0,none⟩) := seen.kp 3 _ (nd 3 (by omega)) rfl
   exact Rg.op_value rfl rfl (Rg.ex_field a.eval _ 31 (.tmp 3) 5 rfl (by rw [e3]; simp [go_sem])) (hK _ _ rfl (Below.refl _ _) fun _ _ _ _ _ _ _ h => h)
 ·intro a w' df sz kp ⟨vs,hv⟩ hb
  have gr : a.tmps[62]? = some (vs 15) := (hv 15 (by omega)).1
  have gp : a.tmps[63]? = some (.pointer (some ⟨b2,5,none⟩)) := by
   have h : vs 16 = .pointer (some ⟨b2,5,none⟩) := (hv 16 (by omega)).2 (by decide)
   rw [← h]
   exact (hv 16 (by omega)).1
  have oR : OwnW w' W.heap.size (vs 15) (lt ++ [z] ++ ld) := (hv 15 (by omega)).2 (by decide)
  generalize vs 15 = xR at *
  obtain ⟨ca,cp,eR⟩ := (Row.of_own oR).len
  have hbx := H2.out.on hb
  have hblt := H2.out.lt
  have c5 := hbx.cell 5
  have f5 := hbx.fr 5
  simp only [List.getElem?_toArray,List.getElem?_cons_zero,List.getElem?_cons_succ] at c5
  have hb1 := box_set (k := 5) hbx xR
  show Rg.SeqFrom _ _ _ 1 17 a w'
  simp only [Rg.SeqFrom]
  refine Rg.op_store 29 (.tmp 63) (.tmp 62) rfl rfl rfl rfl (Rg.eval_some gp) (Rg.eval_some gr) (w' := w'.setCell ⟨b2,5,none⟩ xR) (by rw [eR]; simp [go_sem,c5,f5]) ?_
  have kp2 : ∀ j,(j < 47 ∨ 64 ≤ j) → a.tmps[j]? = (u0 :: u1 :: slv z.2.2 :: .pointer (some ⟨b2,0,none⟩) :: .pointer (some ⟨b3,0,none⟩) :: u5 :: u6 :: u7 :: .int .i64 (at_ : Int) :: u9 :: u10 :: u11 :: u12 :: u13 :: u14 :: u15 :: u16 :: u17 :: u18 :: u19 :: u20 :: u21 :: u22 :: u23 :: u24 :: u25 :: u26 :: u27 :: u28 :: u29 :: u30 :: u31 :: u32 :: u33 :: u34 :: u35 :: u36 :: u37 :: u38 :: u39 :: u40 :: u41 :: u42 :: u43 :: u44 :: u45 :: u46 :: u47 :: u48 :: u49 :: u50 :: u51 :: u52 :: u53 :: u54 :: u55 :: u56 :: u57 :: u58 :: u59 :: u60 :: u61 :: u62 :: u63 :: u64 :: u65 :: u66 :: u67 :: u68 :: u69 :: u70 :: u71 :: u72 :: u73 :: u74 :: u75 :: u76 :: u77 :: u78 :: u79 :: u80 :: u81 :: u82 :: u83 :: u84 :: u85 :: u86 :: u87 :: u88 :: u89 :: u90 :: u91 :: u92 :: u93 :: u94 :: u95 :: u96 :: u97 :: u98 :: [])[j]? := fun j hj => (kp j (nd j hj)).trans List.getElem?_toArray
  obtain ⟨mid,hmid,rfl⟩ := Rg.frame_mid 47 17 df sz (by simp) kp2
  match mid,hmid with
  | [v47,v48,v49,v50,v51,v52,v53,v54,v55,v56,v57,v58,v59,v60,v61,v62,v63],_ =>
   have e1 : some v62 = some xR := gr
   obtain rfl := Option.some.inj e1
   refine HQ.out _ v47 v48 v49 v50 v51 v52 v53 v54 v55 v56 v57 v58 v59 v60 v61 v62 v63 ?_ ?_ ?_ ?_ ?_
   ·simpa using hb1
   ·exact own_cell oR b2 5 _ hblt
   ·exact fun B hB => (hb.mono (Nat.le_of_lt (Nat.lt_of_le_of_lt hB hblt))).setCell hB _
   ·intro c cs t hc hbc
    exact (RowKit.Below.heap_setCell _ _ _ _ hc).trans (hbc.on hb)
   ·intro k hk hne
    exact (RowKit.Below.heap_setCell _ _ _ _ hne).trans (hb.block k hk)
end Go.Proofs.YtncogjpmboglhaaGreat.Bk
namespace Go.Proofs.YtncogjpmboglhaaGreat.Bk
open Go.RowKit Go.Sort Rw YtncogjpmboglhaaGreat.Nm Pr
def subs16V (B : Nat) (b11 _ _ : Nat) (_ _ to_ c d c2 d2 fr : Int) (up : Bool) (_ po : Option Addr) (_ _ pn pc : Nat) (rv : Value) (_ : List XOu) (i : Nat) (v : Value) (x : World) : Prop :=
 match i with
 | 0 => v = rv
 | 1 => v = .pointer (some ⟨b11,3,none⟩)
 | 2 => v = .int .i64 to_
 | 3 => v = .agg #[.int .i64 c,.int .i64 d,.int .i64 c2,.int .i64 d2,.slice po pn pc,.int .i64 fr,.bool up]
 | 4 => v = .agg #[.int .i64 3,.int .i64 c,.int .i64 d,.int .i64 c2,.int .i64 d2,.slice po pn pc,.slice none 0 0]
 | 5 => v = valU (to_,3,c,d,c2,d2,(po,pn,pc),(none,0,0))
 | 6 => OwnU x B v [(to_,3,c,d,c2,d2,(po,pn,pc),(none,0,0))]
 | _ => True
noncomputable def subs16C : Code := ((Tryz.f32.body.bind (findRegion 16)).getD .skip)
theorem subs16V_on (B : Nat) (b11 b12 F0 : Nat) (z1 z2 to_ c d c2 d2 fr : Int) (up : Bool) (z3 po : Option Addr) (z4 z5 pn pc : Nat) (rv : Value) (lo : List XOu) (i : Nat) (v : Value) (x x' : World) (h : subs16V B b11 b12 F0 z1 z2 to_ c d c2 d2 fr up z3 po z4 z5 pn pc rv lo i v x) (hb : Below x.heap.size x x') : subs16V B b11 b12 F0 z1 z2 to_ c d c2 d2 fr up z3 po z4 z5 pn pc rv lo i v x' := by
 by_cases hi : i < 7
 ·rcases (by omega : i = 0 ∨ i = 1 ∨ i = 2 ∨ i = 3 ∨ i = 4 ∨ i = 5 ∨ i = 6) with rfl | rfl | rfl | rfl | rfl | rfl | rfl
  ·exact h
  ·exact h
  ·exact h
  ·exact h
  ·exact h
  ·exact h
  ·exact own_on h hb
 ·unfold subs16V
  split <;> first | omega | trivial
theorem subs16 (Q : Exit → Act → World → Prop) (W : World) (b11 b12 F0 : Nat) (z1 z2 to_ c d c2 d2 fr : Int) (up : Bool) (z3 po : Option Addr) (z4 z5 pn pc : Nat) (rv : Value) (lo : List XOu) (u0 u1 u2 u3 u4 u5 u6 u7 u8 u10 u13 u14 u15 u16 u17 u18 u19 u20 u21 u22 u23 u24 u25 u26 u27 u28 u29 u30 u31 u32 u33 u34 u35 u36 u37 u38 u39 u40 u41 u42 u43 u44 u45 u46 u47 u48 u49 u50 u51 u52 u53 u54 u55 u56 u57 u58 u59 u60 u61 u62 u63 u64 u65 u66 u67 u68 u69 u70 u71 u72 u73 u74 u75 u76 u77 u78 u79 u80 u81 u82 u83 u84 u85 u86 u87 u88 u89 u90 u91 u92 u93 u94 u95 u96 u97 u98 : Value)
  (h11 : Box W b11 #[.int .i64 z1,.int .i64 z2,.slice z3 z4 z5,.int .i64 to_] 41) (h12 : Box W b12 #[.int .i64 c,.int .i64 d,.int .i64 c2,.int .i64 d2,.slice po pn pc,.int .i64 fr,.bool up] 43) (fw : F0 ≤ W.heap.size) (ho : OwnU W F0 rv lo) (hl : lo.length ≤ 1000000)
  (hQ : ∀ (x0 x : World) (w9 : Value) (v88 v89 v90 v91 v92 v93 v94 v95 : Value),Below W.heap.size W x0 → x0.grownBy x rv.ownBlock → OwnU x F0 w9 (lo ++ [(to_,3,c,d,c2,d2,(po,pn,pc),(none,0,0))]) → Q .normal ⟨(u0 :: u1 :: u2 :: u3 :: u4 :: u5 :: u6 :: u7 :: u8 :: w9 :: u10 :: .pointer (some ⟨b11,0,none⟩) :: .pointer (some ⟨b12,0,none⟩) :: u13 :: u14 :: u15 :: u16 :: u17 :: u18 :: u19 :: u20 :: u21 :: u22 :: u23 :: u24 :: u25 :: u26 :: u27 :: u28 :: u29 :: u30 :: u31 :: u32 :: u33 :: u34 :: u35 :: u36 :: u37 :: u38 :: u39 :: u40 :: u41 :: u42 :: u43 :: u44 :: u45 :: u46 :: u47 :: u48 :: u49 :: u50 :: u51 :: u52 :: u53 :: u54 :: u55 :: u56 :: u57 :: u58 :: u59 :: u60 :: u61 :: u62 :: u63 :: u64 :: u65 :: u66 :: u67 :: u68 :: u69 :: u70 :: u71 :: u72 :: u73 :: u74 :: u75 :: u76 :: u77 :: u78 :: u79 :: u80 :: u81 :: u82 :: u83 :: u84 :: u85 :: u86 :: u87 :: v88 :: v89 :: v90 :: v91 :: v92 :: v93 :: v94 :: v95 :: u96 :: u97 :: u98 :: []).toArray,[]⟩ x) :
  Code.wp Tryz.prog subs16C Q ⟨(u0 :: u1 :: u2 :: u3 :: u4 :: u5 :: u6 :: u7 :: u8 :: rv :: u10 :: .pointer (some ⟨b11,0,none⟩) :: .pointer (some ⟨b12,0,none⟩) :: u13 :: u14 :: u15 :: u16 :: u17 :: u18 :: u19 :: u20 :: u21 :: u22 :: u23 :: u24 :: u25 :: u26 :: u27 :: u28 :: u29 :: u30 :: u31 :: u32 :: u33 :: u34 :: u35 :: u36 :: u37 :: u38 :: u39 :: u40 :: u41 :: u42 :: u43 :: u44 :: u45 :: u46 :: u47 :: u48 :: u49 :: u50 :: u51 :: u52 :: u53 :: u54 :: u55 :: u56 :: u57 :: u58 :: u59 :: u60 :: u61 :: u62 :: u63 :: u64 :: u65 :: u66 :: u67 :: u68 :: u69 :: u70 :: u71 :: u72 :: u73 :: u74 :: u75 :: u76 :: u77 :: u78 :: u79 :: u80 :: u81 :: u82 :: u83 :: u84 :: u85 :: u86 :: u87 :: u88 :: u89 :: u90 :: u91 :: u92 :: u93 :: u94 :: u95 :: u96 :: u97 :: u98 :: []).toArray,[]⟩ W := by
 have HQ := Lib.hid hQ
 have H11 := Lib.hid h11
 have H12 := Lib.hid h12
 have FW := Lib.hid fw
 have HO := Lib.hid ho
 have HL := Lib.hid hl
 clear hQ h11 h12 fw ho hl
 have stab := subs16V_on W.heap.size b11 b12 F0 z1 z2 to_ c d c2 d2 fr up z3 po z4 z5 pn pc rv lo
 unfold subs16C
 conv => arg 2; whnf
 have nd : ∀ j,(∀ i,i < 7 → [88,89,90,91,92,93,94].getD i 0 ≠ j) → ∀ i,i < 7 → (fun i => [88,89,90,91,92,93,94].getD i 0) i ≠ j := fun j h => h
 refine Rg.region_live 9 7 (fun i => [88,89,90,91,92,93,94].getD i 0) (fun _ => 7) (subs16V W.heap.size b11 b12 F0 z1 z2 to_ c d c2 d2 fr up z3 po z4 z5 pn pc rv lo) (by kernel_rfl) (by kernel_rfl) rfl (by decide) (fun i j hi hj h => (by decide : ∀ i,i < 7 → ∀ j,j < 7 → [88,89,90,91,92,93,94].getD i 0 = [88,89,90,91,92,93,94].getD j 0 → i = j) i hi j hj h) (fun i hi => (by decide : ∀ i,i < 7 → [88,89,90,91,92,93,94].getD i 0 < 99) i hi) ?_ (fun _ => Rg.hall_of 14 (by kernel_rfl)) ?_ ?_
 ·intro i o hi ho a x D hnd hc hD hb seen K hK
  clear HQ
  rcases (by omega : i = 0 ∨ i = 1 ∨ i = 2 ∨ i = 3 ∨ i = 4 ∨ i = 5 ∨ i = 6) with rfl | rfl | rfl | rfl | rfl | rfl | rfl
  ·obtain rfl := Option.some.inj ho
   have e9 : a.eval (.tmp 9) = rv := seen.kp 9 _ (nd 9 (by decide)) rfl
   exact Rg.op_value rfl rfl (Rg.ex_move a.eval _ (.tmp 9) rfl x) (hK _ _ e9 (Below.refl _ _) fun _ _ _ _ _ _ _ h => h)
  ·obtain rfl := Option.some.inj ho
   have e11 : a.eval (.tmp 11) = .pointer (some ⟨b11,0,none⟩) := seen.kp 11 _ (nd 11 (by decide)) rfl
   exact Rg.op_value rfl rfl (Rg.ex_field a.eval _ 41 (.tmp 11) 2 rfl (by rw [e11]; simp [go_sem])) (hK _ _ rfl (Below.refl _ _) fun _ _ _ _ _ _ _ h => h)
  ·obtain rfl := Option.some.inj ho
   have e89 : a.eval (.tmp 89) = .pointer (some ⟨b11,3,none⟩) := seen.at_ ⟨1,.data⟩ (by simp) rfl (Or.inr (by decide))
   have y3 := (H11.out.on hb).cell 3
   simp only [List.getElem?_toArray,List.getElem?_cons_zero,List.getElem?_cons_succ] at y3
   exact Rg.op_value rfl rfl (Rg.ex_load a.eval _ 3 (.tmp 89) rfl (by rw [e89]; simp [go_sem,y3])) (hK _ _ rfl (Below.refl _ _) fun _ _ _ _ _ _ _ h => h)
  ·obtain rfl := Option.some.inj ho
   have e12 : a.eval (.tmp 12) = .pointer (some ⟨b12,0,none⟩) := seen.kp 12 _ (nd 12 (by decide)) rfl
   obtain ⟨y0,y1,y2,y3,y4,y5,y6⟩ := (H12.out.on hb).cs7
   exact Rg.op_value rfl rfl (Rg.ex_load a.eval _ 43 (.tmp 12) rfl (by rw [e12]; simp [go_sem,y0,y1,y2,y3,y4,y5,y6])) (hK _ _ rfl (Below.refl _ _) fun _ _ _ _ _ _ _ h => h)
  ·obtain rfl := Option.some.inj ho
   have e91 : a.eval (.tmp 91) = .agg #[.int .i64 c,.int .i64 d,.int .i64 c2,.int .i64 d2,.slice po pn pc,.int .i64 fr,.bool up] := seen.at_ ⟨3,.data⟩ (by simp) rfl (Or.inr (by decide))
   exact Rg.op_call rfl rfl (ex_call1 a.eval _ (.tmp 91) 43 96 rfl e91 rfl _ (call_fn Tryz.func96 rfl rfl _ _)) (sub_any (c,d,c2,d2,(po,pn,pc),fr,up) x) fun e w1 h => by
    obtain ⟨rfl,h3⟩ := h
    exact ⟨_,rfl,hK _ _ rfl (h3.mono hb.size) fun j u _ _ _ _ _ h => stab j u _ _ h h3⟩
  ·obtain rfl := Option.some.inj ho
   have e90 : a.eval (.tmp 90) = .int .i64 to_ := seen.at_ ⟨2,.data⟩ (by simp) rfl (Or.inr (by decide))
   have e92 : a.eval (.tmp 92) = .agg #[.int .i64 3,.int .i64 c,.int .i64 d,.int .i64 c2,.int .i64 d2,.slice po pn pc,.slice none 0 0] := seen.at_ ⟨4,.data⟩ (by simp) rfl (Or.inr (by decide))
   exact Rg.op_value rfl rfl (Rg.ex_buildS a.eval _ 141 #[(0,.tmp 90),(1,.tmp 92)] rfl (ps := #[(0,.int .i64 to_),(1,.agg #[.int .i64 3,.int .i64 c,.int .i64 d,.int .i64 c2,.int .i64 d2,.slice po pn pc,.slice none 0 0])]) (by simp only [List.map_toArray,List.map_cons,List.map_nil,e90,e92]) (by simp [go_sem])) (hK _ _ rfl (Below.refl _ _) fun _ _ _ _ _ _ _ h => h)
  ·obtain rfl := Option.some.inj ho
   have e93 : a.eval (.tmp 93) = valU (to_,3,c,d,c2,d2,(po,pn,pc),(none,0,0)) := seen.at_ ⟨5,.data⟩ (by simp) rfl (Or.inr (by decide))
   have hl := row_lit okU x [((to_,3,c,d,c2,d2,(po,pn,pc),(none,0,0)) : XOu)] 1 rfl (by simp) (cellsU (to_,3,c,d,c2,d2,(po,pn,pc),(none,0,0))).toArray (by simp [flat,EU])
   have nb := newB x (.cells (cellsU (to_,3,c,d,c2,d2,(po,pn,pc),(none,0,0))).toArray 141)
   exact Rg.op_value rfl rfl (Rg.ex_build a.eval _ 78 1 #[(0,.tmp 93)] rfl (ps := #[(0,valU (to_,3,c,d,c2,d2,(po,pn,pc),(none,0,0)))]) (by simp [e93]) (by simp [go_sem])) (hK (.slice (some ⟨x.heap.size,0,none⟩) 1 1) (x.alloc (.cells (cellsU (to_,3,c,d,c2,d2,(po,pn,pc),(none,0,0))).toArray 141)) (own_fewer hl hb.size) (nb.mono hb.size) fun j u _ _ _ _ _ h => stab j u _ _ h nb)
 ·intro kk o h1 h2 ho
  rcases (by omega : kk = 8) with rfl
  ·obtain rfl := Option.some.inj ho
   exact ⟨⟨7,.data⟩,by simp,rfl,rfl⟩
 ·intro a w' df sz kp ⟨vs,hv⟩ hb
  have sz' : a.tmps.size = 99 := sz
  have g88 : a.tmps[88]? = some (rv) := by
   have h : vs 0 = rv := (hv 0 (by omega)).2 (by decide)
   rw [← h]
   exact (hv 0 (by omega)).1
  have g94 : a.tmps[94]? = some (vs 6) := (hv 6 (by omega)).1
  have G94 := (hv 6 (by omega)).2 (by decide)
  have o94 : OwnU w' W.heap.size (vs 6) [(to_,3,c,d,c2,d2,(po,pn,pc),(none,0,0))] := G94
  generalize vs 6 = v6 at *
  obtain ⟨v',x',r,o',gr⟩ := app_rowL okU F0 (own_on HO.out hb) (Row.of_own o94) HL.out (by simp) (Nat.le_trans FW.out hb.size) 78
  show Rg.SeqFrom _ _ _ 2 7 a w'
  simp only [Rg.SeqFrom]
  refine Rg.op_value rfl rfl (Rg.ex_append a.eval _ (.tmp 88) (.tmp 94) 78 rfl (Rg.eval_some g88) (Rg.eval_some g94) r) ?_
  have e95 : (a.put (some 95) v').eval (.tmp 95) = v' := Rg.eval_some (by simp [Act.put,sz'])
  refine Rg.op_value rfl rfl (Rg.ex_assign _ _ (.tmp 95) rfl x') ?_
  show Q .normal ((a.put (some 95) v').put (some 9) ((a.put (some 95) v').eval (.tmp 95))) x'
  rw [e95]
  show Q .normal ((a.put (some 95) v').put (some 9) v') x'
  have ka : ∀ j,j ≠ 95 → j ≠ 9 → ((a.put (some 95) v').put (some 9) v').tmps[j]? = a.tmps[j]? := fun j h1 h2 => by rw [Rg.get_put _ _ _ _ (by omega),Rg.get_put _ _ _ _ (by omega)]
  have kt : ((a.put (some 95) v').put (some 9) v').tmps[9]? = some (v') := by simp [Act.put,sz']
  have kp2 : ∀ j,(j < 88 ∨ 96 ≤ j) → ((a.put (some 95) v').put (some 9) v').tmps[j]? = (u0 :: u1 :: u2 :: u3 :: u4 :: u5 :: u6 :: u7 :: u8 :: v' :: u10 :: .pointer (some ⟨b11,0,none⟩) :: .pointer (some ⟨b12,0,none⟩) :: u13 :: u14 :: u15 :: u16 :: u17 :: u18 :: u19 :: u20 :: u21 :: u22 :: u23 :: u24 :: u25 :: u26 :: u27 :: u28 :: u29 :: u30 :: u31 :: u32 :: u33 :: u34 :: u35 :: u36 :: u37 :: u38 :: u39 :: u40 :: u41 :: u42 :: u43 :: u44 :: u45 :: u46 :: u47 :: u48 :: u49 :: u50 :: u51 :: u52 :: u53 :: u54 :: u55 :: u56 :: u57 :: u58 :: u59 :: u60 :: u61 :: u62 :: u63 :: u64 :: u65 :: u66 :: u67 :: u68 :: u69 :: u70 :: u71 :: u72 :: u73 :: u74 :: u75 :: u76 :: u77 :: u78 :: u79 :: u80 :: u81 :: u82 :: u83 :: u84 :: u85 :: u86 :: u87 :: u88 :: u89 :: u90 :: u91 :: u92 :: u93 :: u94 :: u95 :: u96 :: u97 :: u98 :: [])[j]? := fun j hj => by
   by_cases hj2 : j = 9
   ·subst hj2
    exact kt
   ·have hs : (u0 :: u1 :: u2 :: u3 :: u4 :: u5 :: u6 :: u7 :: u8 :: v' :: u10 :: .pointer (some ⟨b11,0,none⟩) :: .pointer (some ⟨b12,0,none⟩) :: u13 :: u14 :: u15 :: u16 :: u17 :: u18 :: u19 :: u20 :: u21 :: u22 :: u23 :: u24 :: u25 :: u26 :: u27 :: u28 :: u29 :: u30 :: u31 :: u32 :: u33 :: u34 :: u35 :: u36 :: u37 :: u38 :: u39 :: u40 :: u41 :: u42 :: u43 :: u44 :: u45 :: u46 :: u47 :: u48 :: u49 :: u50 :: u51 :: u52 :: u53 :: u54 :: u55 :: u56 :: u57 :: u58 :: u59 :: u60 :: u61 :: u62 :: u63 :: u64 :: u65 :: u66 :: u67 :: u68 :: u69 :: u70 :: u71 :: u72 :: u73 :: u74 :: u75 :: u76 :: u77 :: u78 :: u79 :: u80 :: u81 :: u82 :: u83 :: u84 :: u85 :: u86 :: u87 :: u88 :: u89 :: u90 :: u91 :: u92 :: u93 :: u94 :: u95 :: u96 :: u97 :: u98 :: [] : List Value) = (u0 :: u1 :: u2 :: u3 :: u4 :: u5 :: u6 :: u7 :: u8 :: rv :: u10 :: .pointer (some ⟨b11,0,none⟩) :: .pointer (some ⟨b12,0,none⟩) :: u13 :: u14 :: u15 :: u16 :: u17 :: u18 :: u19 :: u20 :: u21 :: u22 :: u23 :: u24 :: u25 :: u26 :: u27 :: u28 :: u29 :: u30 :: u31 :: u32 :: u33 :: u34 :: u35 :: u36 :: u37 :: u38 :: u39 :: u40 :: u41 :: u42 :: u43 :: u44 :: u45 :: u46 :: u47 :: u48 :: u49 :: u50 :: u51 :: u52 :: u53 :: u54 :: u55 :: u56 :: u57 :: u58 :: u59 :: u60 :: u61 :: u62 :: u63 :: u64 :: u65 :: u66 :: u67 :: u68 :: u69 :: u70 :: u71 :: u72 :: u73 :: u74 :: u75 :: u76 :: u77 :: u78 :: u79 :: u80 :: u81 :: u82 :: u83 :: u84 :: u85 :: u86 :: u87 :: u88 :: u89 :: u90 :: u91 :: u92 :: u93 :: u94 :: u95 :: u96 :: u97 :: u98 :: []).set 9 (v') := rfl
    rw [hs,List.getElem?_set_ne (Ne.symm hj2)]
    exact (ka j (by omega) hj2).trans ((kp j (nd j fun i hi h => by have := (by decide : ∀ i,i < 7 → 88 ≤ [88,89,90,91,92,93,94].getD i 0 ∧ [88,89,90,91,92,93,94].getD i 0 < 96) i hi; omega)).trans List.getElem?_toArray)
  obtain ⟨mid,hmid,hfr⟩ := Rg.frame_mid (a := (a.put (some 95) v').put (some 9) v') 88 8 (by simp [Act.put,df]) (by simp [Act.put,sz']) (by simp) kp2
  rw [hfr]
  match mid,hmid with
  | [v88,v89,v90,v91,v92,v93,v94,v95],_ =>
   exact HQ.out w' x' _ _ _ _ _ _ _ _ _ hb gr o'
end Go.Proofs.YtncogjpmboglhaaGreat.Bk
