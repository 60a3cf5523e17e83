/-
  Copy of package adverts: the same in new memory. Conditions as told.
-/
import Derived.Test.YtncogjpmboglhaaGreatG013
import Derived.Test.YtncogjpmboglhaaGreatG014
import Derived.Test.YtncogjpmboglhaaGreatG010
import Derived.Deep.LoopGhost
import Derived.Laws.Externs
import Derived.Test.YtncogjpmboglhaaGreatG018
import Derived.Test.YtncogjpmboglhaaGreatG019
import Derived.Test.YtncogjpmboglhaaGreatG022
import Derived.Test.YtncogjpmboglhaaGreatG007
import Derived.Test.YtncogjpmboglhaaGreatG004
import Derived.Test.YtncogjpmboglhaaGreatG000
import Derived.Test.YtncogjpmboglhaaGreatG006
import Derived.ChangeArms
import Derived.ChangeSlices
import Derived.Deep.Slices
set_option maxRecDepth 100000
set_option maxHeartbeats 64000000
namespace Go.Proofs.YtncogjpmboglhaaGreat.Av
open Go.RowKit Go.Sort Rw YtncogjpmboglhaaGreat.Nm Pr Bk
structure FewP (b : Br) : Prop where
 adv : ∀ a ∈ b.adv,a.p.length ≤ 900
 ent : ∀ a ∈ b.ent,a.p.length ≤ 900
 own : ∀ a ∈ b.own,a.p.length ≤ 900
theorem own_row_len {α : Type} {E : Ek α} {W : World} {B n cap : Nat} {o : Option Addr} {l : List α} (h : Own E W B (.slice o n cap) l) : l.length = n := by
 obtain ⟨_,_,hv⟩ := (Row.of_own h).len
 have : n = l.length := by simpa using congrArg (fun v => match v with | Value.slice _ n _ => n | _ => 0) hv
 exact this.symm
theorem own_some {α : Type} {E : Ek α} {W : World} {B n cap : Nat} {o : Option Addr} {l : List α} (h : Own E W B (.slice o n cap) l) (hn : 0 < n) : ∃ g,o = some ⟨g,0,none⟩ ∧ B ≤ g := by
 have hl := own_row_len h
 rcases own_open h with ⟨_,h2⟩ | ⟨g,c',cur,h1,h2,_⟩
 ·rw [h2] at hl; simp at hl; omega
 ·exact ⟨g,by simp at h1; exact h1.1,h2⟩
theorem but_setB (w : World) (b : Nat) (a0 a1 a2 a3 a4 a5 : Value) : But b w (setB w b a0 a1 a2 a3 a4 a5) :=
 (((but_cell _ b _ _).trans (but_cell _ b _ _)).trans ((but_cell _ b _ _).trans (but_cell _ b _ _))).trans ((but_cell _ b _ _).trans (but_cell _ b _ _))
theorem Cs.done {w0 w wr : World} {b : Br} {nv av sv ev ov : Sl} (h : Cs w0 w wr b nv av sv ev ov) (a0 a1 a2 a3 a4 a5 : Value) : Cp w0 w.heap.size (setB wr (w.heap.size + 1) a0 a1 a2 a3 a4 a5) b nv av sv ev ov ∧ Below w.heap.size w (setB wr (w.heap.size + 1) a0 a1 a2 a3 a4 a5) :=
 ⟨Cp.but ⟨h.near,h.seen,h.adv,h.ent,h.own⟩ (but_setB wr (w.heap.size + 1) a0 a1 a2 a3 a4 a5) h.bz,setB_below h.bel (by omega) a0 a1 a2 a3 a4 a5⟩
theorem acopy_any (b : Br) (nv av sv ev ov : Sl) (w0 w : World) (hw0 : Below w0.heap.size w0 w) (h : BrIn w0 b nv av sv ev ov) (hf : Few b) (hp : FewP b) :
  Calls Tryz.prog 76 #[brv b.me nv av sv ev ov] w fun e w' => (∃ nv' av' sv' ev' ov' : Sl,e = .returned (brv b.me nv' av' sv' ev' ov') ∧ Cp w0 w.heap.size w' b nv' av' sv' ev' ov') ∧ Below w.heap.size w w' := by
 obtain ⟨no,nn,nc⟩ := nv
 obtain ⟨ao,an,ac⟩ := av
 obtain ⟨so,sn,sc⟩ := sv
 obtain ⟨eo,en,ec⟩ := ev
 obtain ⟨oo,on_,oc⟩ := ov
 obtain ⟨la,ha1,ha2⟩ := h.adv
 obtain ⟨le,he1,he2⟩ := h.ent
 obtain ⟨lo_,ho1,ho2⟩ := h.own
 have HA := Lib.hid ha2
 have HE := Lib.hid he2
 have HO := Lib.hid ho2
 have R0 := Lib.hid (h.near.on hw0)
 have R1 := Lib.hid (ha1.on hw0)
 have R2 := Lib.hid (h.seen.on hw0)
 have R3 := Lib.hid (he1.on hw0)
 have R4 := Lib.hid (ho1.on hw0)
 have W0 := Lib.hid hw0
 have HP := Lib.hid hp
 have LL0 := Lib.hid hf.near
 have LL1 := Lib.hid (show la.length ≤ 900 by rw [ha2.len]; exact hf.adv)
 have LL2 := Lib.hid hf.seen
 have LL3 := Lib.hid (show le.length ≤ 900 by rw [he2.len]; exact hf.ent)
 have LL4 := Lib.hid (show lo_.length ≤ 900 by rw [ho2.len]; exact hf.own)
 obtain ⟨h0,h1,h2⟩ := two_new w #[.int .i64 b.me,.slice no nn nc,.slice ao an ac,.slice so sn sc,.slice eo en ec,.slice oo on_ oc] #[.int .i64 0,.slice none 0 0,.slice none 0 0,.slice none 0 0,.slice none 0 0,.slice none 0 0] 31 31
 have B0 := Lib.hid h0
 have XB := Lib.hid h1
 have ZB := Lib.hid h2
 clear h0 h1 h2 h hf hp hw0 ha1 ha2 he1 he2 ho1 ho2
 go_enter Tryz.func76,Tryz.ntmps76
 go_upto_region 1 with fail
 generalize (w.alloc (.cells #[.int .i64 b.me,.slice no nn nc,.slice ao an ac,.slice so sn sc,.slice eo en ec,.slice oo on_ oc] 31)).alloc (.cells #[.int .i64 0,.slice none 0 0,.slice none 0 0,.slice none 0 0,.slice none 0 0,.slice none 0 0] 31) = W at *
 refine cp1 _ W w.heap.size b.me (.slice ao an ac) (.slice eo en ec) (.slice oo on_ oc) no nn nc b.near so sn sc b.seen _ _ _ _ _ _ _ _ _ _ _ _ _ _ _ _ _ _ _ _ _ _ _ _ _ _ _ _ _ _ _ _ _ _ _ _ _ _ _ _ _ _ _ _ _ _ _ _ _ _ _ _ _ _ _ _ _ _ _ _ _ _ _ _ _ _ _ _ _ _ _ _ _ _ _ _ _ _ _ _ _ XB.out (R0.out.on B0.out) (R2.out.on B0.out) LL0.out LL2.out ?_
 intro x1 v6 v7 v8 v9 v10 v11 v12 v13 p1 q1 s1 p3 q3 s3 hb1 hn1 hs1 hbel1 hsame1
 have B1 := Lib.hid (B0.out.trans (hbel1 _ (Nat.le_refl _)))
 have S1 := Lib.hid (show W.heap.size ≤ x1.heap.size from (hbel1 _ (Nat.le_refl _)).size)
 have ZB1 := Lib.hid (show Box x1 (w.heap.size + 1) _ _ from (hsame1 _ ZB.out.lt (by omega)).trans ZB.out)
 have XB1 := Lib.hid hb1
 have N1 := Lib.hid (own_fewer hn1 B0.out.size)
 have J1 := Lib.hid (own_fewer hs1 B0.out.size)
 clear hb1 hn1 hs1 hbel1 hsame1 XB ZB
 go_upto_region 2 with fail
 refine cp2 _ x1 w.heap.size b.me (.slice p1 q1 s1) (.slice p3 q3 s3) ao an ac la eo en ec le oo on_ oc lo_ _ _ _ _ _ _ _ _ _ _ _ _ _ _ _ _ _ _ _ _ _ _ _ _ _ _ _ _ _ _ _ _ _ _ _ _ _ _ _ _ _ _ _ _ _ _ _ _ _ _ _ _ _ _ _ _ _ _ _ _ _ _ _ _ _ _ _ _ _ _ _ _ _ _ _ _ _ _ _ _ _ XB1.out (R1.out.on B1.out) (R3.out.on B1.out) (R4.out.on B1.out) LL1.out LL3.out LL4.out ?_
 intro x2 v14 v15 v16 v17 v18 v19 v20 v21 v22 v23 v24 v25 p2 q2 s2 p4 q4 s4 p5 q5 s5 hb2 ha2 he2 ho2 hbel2 hsame2
 have CS := Lib.hid (show Cs w0 w x2 b (p1,q1,s1) (p2,q2,s2) (p3,q3,s3) (p4,q4,s4) (p5,q5,s5) from {
  bel := B1.out.trans (hbel2 _ (Nat.le_refl _))
  bx := hb2
  bz := (hsame2 _ ZB1.out.lt (by omega)).trans ZB1.out
  near := But.own ⟨hsame2,(hbel2 _ (Nat.le_refl _)).size⟩ N1.out XB1.out (by decide)
  seen := But.own ⟨hsame2,(hbel2 _ (Nat.le_refl _)).size⟩ J1.out XB1.out (by decide)
  adv := ⟨la,own_fewer ha2 B1.out.size,HA.out.mono fun _ _ q => ⟨q.1,q.2.1,Or.inl q.2.2⟩⟩
  ent := ⟨le,own_fewer he2 B1.out.size,HE.out.mono fun _ _ q => ⟨q.1,q.2.1,q.2.2.1,q.2.2.2.1,Or.inl q.2.2.2.2⟩⟩
  own := ⟨lo_,own_fewer ho2 B1.out.size,HO.out.mono fun _ _ q => ⟨q.1,Or.inl q.2⟩⟩ })
 have Q2 := Lib.hid (show q2 ≤ 900 from by rw [← own_row_len ha2]; exact LL1.out)
 have Q4 := Lib.hid (show q4 ≤ 900 from by rw [← own_row_len he2]; exact LL3.out)
 have Q5 := Lib.hid (show q5 ≤ 900 from by rw [← own_row_len ho2]; exact LL4.out)
 clear hb2 ha2 he2 ho2 hbel2 hsame2 XB1 ZB1 N1 J1 B1 S1 R0 R1 R2 R3 R4 HA HE HO LL0 LL1 LL2 LL3 LL4 B0
 have cf2 := CS.out.bx.cell 2
 simp only [List.getElem?_toArray,List.getElem?_cons_zero,List.getElem?_cons_succ] at cf2
 go_wp2
 go_loopw [29] (fun i wr => ∃ k : Nat,k ≤ q2 ∧ i = .int .i64 k ∧ Cs w0 w wr b (p1,q1,s1) (p2,q2,s2) (p3,q3,s3) (p4,q4,s4) (p5,q5,s5)) (fun i _ => q2 - (intOf i).toNat)
 case atStart => exact ⟨0,Nat.zero_le _,rfl,CS.out⟩
 case round =>
  obtain ⟨k,hk,rfl,hcs⟩ := hrel
  have CS := Lib.hid hcs
  have hq := Q2.out
  clear hcs
  by_cases hlt : k < q2
  ·obtain ⟨l,hl,hA⟩ := CS.out.adv
   have hln : l.length = q2 := own_row_len hl
   obtain ⟨g,rfl,hBg⟩ : ∃ g,p2 = some ⟨g,0,none⟩ ∧ w.heap.size ≤ g := own_some hl (show 0 < q2 by omega)
   obtain ⟨y,hy⟩ : ∃ y,l[k]? = some y := ⟨_,List.getElem?_eq_getElem (by omega)⟩
   obtain ⟨a,ha⟩ : ∃ a,b.adv[k]? = some a := ⟨_,List.getElem?_eq_getElem (by have h := hA.len; have h2 : l.length = q2 := hln; omega)⟩
   obtain ⟨y',hy',hym⟩ := hA.at k a ha
   rw [hy] at hy'
   obtain rfl := Option.some.inj hy'
   obtain ⟨y1,y2,⟨yo,yn,yc⟩,y4⟩ := y
   have HW := Lib.hid hl
   have HAA := Lib.hid hA
   have HYM := Lib.hid hym
   have HYY := Lib.hid hy
   have HAK := Lib.hid ha
   have HBG := Lib.hid hBg
   have hw3 : IntKind.i64.wrap ((k : Int) + 1) = (k : Int) + 1 := IntWalk.i64_in _ (by omega)
   clear hl hA hln hy ha hy' hym hBg cf2
   go_upto_region 6 with fail
   refine cp6 _ wr w.heap.size l w.heap.size b.me (.slice p1 q1 s1) (.slice p3 q3 s3) (.slice p4 q4 s4) (.slice p5 q5 s5) g q2 s2 k y1 y2 yo yn yc y4 a.p _ _ _ _ _ _ _ _ _ _ _ _ _ _ _ _ _ _ _ _ _ _ _ _ _ _ _ _ _ _ _ _ _ _ _ _ _ _ _ _ _ _ _ _ _ _ _ _ _ _ _ _ _ _ _ _ _ _ _ _ _ _ _ _ _ _ _ _ _ _ _ _ _ _ _ _ _ _ _ _ CS.out.bx HW.out HYY.out (HYM.out.2.2.row (W0.out.trans (CS.out.bel.mono W0.out.size))) (HP.out.adv a (List.mem_of_getElem? HAK.out)) ?_
   intro x v32 v33 v34 v35 v36 v37 v38 v39 v40 v41 t1 t2 t3 hC hO hBut hBel
   have CS2 := Lib.hid (show Cs w0 w x b (p1,q1,s1) (some ⟨g,0,none⟩,q2,s2) (p3,q3,s3) (p4,q4,s4) (p5,q5,s5) from by
    obtain ⟨cur,hg⟩ := own_tag HW.out
    exact CS.out.setD HW.out hO hBut (CS.out.bel.trans (hBel _ HBG.out CS.out.bel.size)) (All2.set k _ a (HAA.out.mono fun _ _ q => q.but hBut hg (by decide)) HAK.out ⟨HYM.out.1,HYM.out.2.1,Or.inr (own_fewer hC CS.out.bel.size)⟩))
   clear hC hO hBut hBel CS HW HAA HYM HYY HAK HBG
   go_wp2
   go_roundw
   case rel => exact ⟨k + 1,by omega,by go_num,CS2.out⟩
   case measure => simp [intOf]; omega
  ·obtain rfl : q2 = k := by omega
   have cf4 := CS.out.bx.cell 4
   simp only [List.getElem?_toArray,List.getElem?_cons_zero,List.getElem?_cons_succ] at cf4
   clear hlt
   go_wp2
   go_loopw [46] (fun i wr => ∃ k : Nat,k ≤ q4 ∧ i = .int .i64 k ∧ Cs w0 w wr b (p1,q1,s1) (p2,q2,s2) (p3,q3,s3) (p4,q4,s4) (p5,q5,s5)) (fun i _ => q4 - (intOf i).toNat)
   case atStart => exact ⟨0,Nat.zero_le _,rfl,CS.out⟩
   case round =>
    obtain ⟨k,hk,rfl,hcs⟩ := hrel
    have CS := Lib.hid hcs
    have hq := Q4.out
    clear hcs
    by_cases hlt : k < q4
    ·obtain ⟨l,hl,hA⟩ := CS.out.ent
     have hln : l.length = q4 := own_row_len hl
     obtain ⟨g,rfl,hBg⟩ : ∃ g,p4 = some ⟨g,0,none⟩ ∧ w.heap.size ≤ g := own_some hl (show 0 < q4 by omega)
     obtain ⟨y,hy⟩ : ∃ y,l[k]? = some y := ⟨_,List.getElem?_eq_getElem (by omega)⟩
     obtain ⟨a,ha⟩ : ∃ a,b.ent[k]? = some a := ⟨_,List.getElem?_eq_getElem (by have h := hA.len; have h2 : l.length = q4 := hln; omega)⟩
     obtain ⟨y',hy',hym⟩ := hA.at k a ha
     rw [hy] at hy'
     obtain rfl := Option.some.inj hy'
     obtain ⟨y1,y2,y3,y4,⟨yo,yn,yc⟩,y6,y7⟩ := y
     have HW := Lib.hid hl
     have HAA := Lib.hid hA
     have HYM := Lib.hid hym
     have HYY := Lib.hid hy
     have HAK := Lib.hid ha
     have HBG := Lib.hid hBg
     have hw3 : IntKind.i64.wrap ((k : Int) + 1) = (k : Int) + 1 := IntWalk.i64_in _ (by omega)
     clear hl hA hln hy ha hy' hym hBg cf4
     go_upto_region 11 with fail
     refine cp11 _ wr w.heap.size l w.heap.size b.me (.slice p1 q1 s1) (.slice p2 q2 s2) (.slice p3 q3 s3) (.slice p5 q5 s5) g q4 s4 k y1 y2 y3 y4 yo yn yc y6 y7 a.p _ _ _ _ _ _ _ _ _ _ _ _ _ _ _ _ _ _ _ _ _ _ _ _ _ _ _ _ _ _ _ _ _ _ _ _ _ _ _ _ _ _ _ _ _ _ _ _ _ _ _ _ _ _ _ _ _ _ _ _ _ _ _ _ _ _ _ _ _ _ _ _ _ _ _ _ _ _ _ _ CS.out.bx HW.out HYY.out (HYM.out.2.2.2.2.row (W0.out.trans (CS.out.bel.mono W0.out.size))) (HP.out.ent a (List.mem_of_getElem? HAK.out)) ?_
     intro x v49 v50 v51 v52 v53 v54 v55 v56 v57 v58 v59 v60 t1 t2 t3 hC hO hBut hBel
     have CS2 := Lib.hid (show Cs w0 w x b (p1,q1,s1) (p2,q2,s2) (p3,q3,s3) (some ⟨g,0,none⟩,q4,s4) (p5,q5,s5) from by
      obtain ⟨cur,hg⟩ := own_tag HW.out
      exact CS.out.setN HW.out hO hBut (CS.out.bel.trans (hBel _ HBG.out CS.out.bel.size)) (All2.set k _ a (HAA.out.mono fun _ _ q => q.but hBut hg (by decide)) HAK.out ⟨HYM.out.1,HYM.out.2.1,HYM.out.2.2.1,HYM.out.2.2.2.1,Or.inr (own_fewer hC CS.out.bel.size)⟩))
     clear hC hO hBut hBel CS HW HAA HYM HYY HAK HBG
     go_wp2
     go_roundw
     case rel => exact ⟨k + 1,by omega,by go_num,CS2.out⟩
     case measure => simp [intOf]; omega
    ·obtain rfl : q4 = k := by omega
     have cf5 := CS.out.bx.cell 5
     simp only [List.getElem?_toArray,List.getElem?_cons_zero,List.getElem?_cons_succ] at cf5
     clear hlt
     go_wp2
     go_loopw [65] (fun i wr => ∃ k : Nat,k ≤ q5 ∧ i = .int .i64 k ∧ Cs w0 w wr b (p1,q1,s1) (p2,q2,s2) (p3,q3,s3) (p4,q4,s4) (p5,q5,s5)) (fun i _ => q5 - (intOf i).toNat)
     case atStart => exact ⟨0,Nat.zero_le _,rfl,CS.out⟩
     case round =>
      obtain ⟨k,hk,rfl,hcs⟩ := hrel
      have CS := Lib.hid hcs
      have hq := Q5.out
      clear hcs
      by_cases hlt : k < q5
      ·obtain ⟨l,hl,hA⟩ := CS.out.own
       have hln : l.length = q5 := own_row_len hl
       obtain ⟨g,rfl,hBg⟩ : ∃ g,p5 = some ⟨g,0,none⟩ ∧ w.heap.size ≤ g := own_some hl (show 0 < q5 by omega)
       obtain ⟨y,hy⟩ : ∃ y,l[k]? = some y := ⟨_,List.getElem?_eq_getElem (by omega)⟩
       obtain ⟨a,ha⟩ : ∃ a,b.own[k]? = some a := ⟨_,List.getElem?_eq_getElem (by have h := hA.len; have h2 : l.length = q5 := hln; omega)⟩
       obtain ⟨y',hy',hym⟩ := hA.at k a ha
       rw [hy] at hy'
       obtain rfl := Option.some.inj hy'
       obtain ⟨y1,y2,⟨yo,yn,yc⟩⟩ := y
       have HW := Lib.hid hl
       have HAA := Lib.hid hA
       have HYM := Lib.hid hym
       have HYY := Lib.hid hy
       have HAK := Lib.hid ha
       have HBG := Lib.hid hBg
       have hw3 : IntKind.i64.wrap ((k : Int) + 1) = (k : Int) + 1 := IntWalk.i64_in _ (by omega)
       clear hl hA hln hy ha hy' hym hBg cf5
       go_upto_region 16 with fail
       refine cp16 _ wr w.heap.size l w.heap.size b.me (.slice p1 q1 s1) (.slice p2 q2 s2) (.slice p3 q3 s3) (.slice p4 q4 s4) g q5 s5 k y1 y2 yo yn yc a.p _ _ _ _ _ _ _ _ _ _ _ _ _ _ _ _ _ _ _ _ _ _ _ _ _ _ _ _ _ _ _ _ _ _ _ _ _ _ _ _ _ _ _ _ _ _ _ _ _ _ _ _ _ _ _ _ _ _ _ _ _ _ _ _ _ _ _ _ _ _ _ _ _ _ _ _ _ _ _ _ CS.out.bx HW.out HYY.out (HYM.out.2.row (W0.out.trans (CS.out.bel.mono W0.out.size))) (HP.out.own a (List.mem_of_getElem? HAK.out)) ?_
       intro x v68 v69 v70 v71 v72 v73 v74 v75 v76 v77 v78 v79 t1 t2 t3 hC hO hBut hBel
       have CS2 := Lib.hid (show Cs w0 w x b (p1,q1,s1) (p2,q2,s2) (p3,q3,s3) (p4,q4,s4) (some ⟨g,0,none⟩,q5,s5) from by
        obtain ⟨cur,hg⟩ := own_tag HW.out
        exact CS.out.setW HW.out hO hBut (CS.out.bel.trans (hBel _ HBG.out CS.out.bel.size)) (All2.set k _ a (HAA.out.mono fun _ _ q => q.but hBut hg (by decide)) HAK.out ⟨HYM.out.1,Or.inr (own_fewer hC CS.out.bel.size)⟩))
       clear hC hO hBut hBel CS HW HAA HYM HYY HAK HBG
       go_wp2
       go_roundw
       case rel => exact ⟨k + 1,by omega,by go_num,CS2.out⟩
       case measure => simp [intOf]; omega
      ·obtain rfl : q5 = k := by omega
       have X1 := CS.out.bx
       have Z1 := CS.out.bz
       obtain ⟨x0,x1,x2,x3,x4,x5⟩ := X1.cs6
       obtain ⟨r0,r1,r2,r3,r4,r5⟩ := Z1.cs6
       obtain ⟨t0,t1,t2,t3,t4,t5⟩ := Z1.fs6
       have zz := Z1.lt
       have FB := Lib.hid (setB_box Z1 (.int .i64 b.me) (.slice p1 q1 s1) (.slice p2 q2 s2) (.slice p3 q3 s3) (.slice p4 q4 s4) (.slice p5 q5 s5))
       have FD := Lib.hid (CS.out.done (.int .i64 b.me) (.slice p1 q1 s1) (.slice p2 q2 s2) (.slice p3 q3 s3) (.slice p4 q4 s4) (.slice p5 q5 s5))
       clear X1 Z1 CS
       go_wp2_with fail
       obtain ⟨v0,v1,v2,v3,v4,v5⟩ := FB.out.cs6
       refine bodyPost_ret (v := .agg #[.int .i64 b.me,.slice p1 q1 s1,.slice p2 q2 s2,.slice p3 q3 s3,.slice p4 q4 s4,.slice p5 q5 s5]) (by simp [results,Tryz.results76,go_sem,v0,v1,v2,v3,v4,v5]) rfl ?_
       exact ⟨⟨(p1,q1,s1),(p2,q2,s2),(p3,q3,s3),(p4,q4,s4),(p5,q5,s5),rfl,FD.out.1⟩,FD.out.2⟩
def ent1V (_B : Nat) (b1 b2 : Nat) (x1 x2 x3 x4 : Int) (_xo : Option Addr) (_xn _xc : Nat) (_x6 : Int) (_x7 : Bool) (y1 y2 y3 y4 : Int) (_yo : Option Addr) (_yn _yc : Nat) (_y6 : Int) (_y7 : Bool) (i : Nat) (v : Value) (x : World) : Prop :=
 match i with
 | 0 => v = .pointer (some ⟨b1,0,none⟩)
 | 1 => v = .agg #[.int .i64 x1,.int .i64 x2]
 | 2 => v = .pointer (some ⟨b2,0,none⟩)
 | 3 => v = .agg #[.int .i64 y1,.int .i64 y2]
 | 4 => v = .int .i64 (cmpJ (x1,x2) (y1,y2))
 | 5 => v = .pointer (some ⟨b1,2,none⟩)
 | 6 => v = .agg #[.int .i64 x3,.int .i64 x4]
 | 7 => v = .pointer (some ⟨b2,2,none⟩)
 | 8 => v = .agg #[.int .i64 y3,.int .i64 y4]
 | 9 => v = .int .i64 (cmpJ (x3,x4) (y3,y4))
 | 10 => ∃ g,v = .slice (some ⟨g,0,none⟩) 2 2 ∧ x.cell? ⟨g,0,none⟩ = some (.int .i64 (cmpJ (x1,x2) (y1,y2))) ∧ x.cell? ⟨g,1,none⟩ = some (.int .i64 (cmpJ (x3,x4) (y3,y4)))
 | 11 => v = .int .i64 (orI (cmpJ (x1,x2) (y1,y2)) (cmpJ (x3,x4) (y3,y4)))
 | _ => True
noncomputable def ent1C : Code := ((Tryz.f43.body.bind (findRegion 1)).getD .skip)
theorem ent1V_on (B : Nat) (b1 b2 : Nat) (x1 x2 x3 x4 : Int) (xo : Option Addr) (xn xc : Nat) (x6 : Int) (x7 : Bool) (y1 y2 y3 y4 : Int) (yo : Option Addr) (yn yc : Nat) (y6 : Int) (y7 : Bool) (i : Nat) (v : Value) (x x' : World) (h : ent1V B b1 b2 x1 x2 x3 x4 xo xn xc x6 x7 y1 y2 y3 y4 yo yn yc y6 y7 i v x) (hb : Below x.heap.size x x') : ent1V B b1 b2 x1 x2 x3 x4 xo xn xc x6 x7 y1 y2 y3 y4 yo yn yc y6 y7 i v x' := by
 by_cases hi : i < 12
 ·rcases (by omega : i = 0 ∨ i = 1 ∨ i = 2 ∨ i = 3 ∨ i = 4 ∨ i = 5 ∨ i = 6 ∨ i = 7 ∨ i = 8 ∨ i = 9 ∨ i = 10 ∨ i = 11) with rfl | rfl | rfl | rfl | rfl | rfl | rfl | rfl | rfl | rfl | rfl | rfl
  ·exact h
  ·exact h
  ·exact h
  ·exact h
  ·exact h
  ·exact h
  ·exact h
  ·exact h
  ·exact h
  ·exact h
  ·obtain ⟨g,h1,h2,h3⟩ := h; exact ⟨g,h1,by rw [hb.cell (World.block_lt_of_cell? x _ h2)]; exact h2,by rw [hb.cell (World.block_lt_of_cell? x _ h3)]; exact h3⟩
  ·exact h
 ·unfold ent1V
  split <;> first | omega | trivial
theorem ent1 (Q : Exit → Act → World → Prop) (W : World) (b1 b2 : Nat) (x1 x2 x3 x4 : Int) (xo : Option Addr) (xn xc : Nat) (x6 : Int) (x7 : Bool) (y1 y2 y3 y4 : Int) (yo : Option Addr) (yn yc : Nat) (y6 : Int) (y7 : Bool) (u0 u1 u4 u5 u6 u7 u8 u9 u10 u11 u12 u13 u14 u15 u16 : Value)
  (h1 : Box W b1 #[.int .i64 x1,.int .i64 x2,.int .i64 x3,.int .i64 x4,.slice xo xn xc,.int .i64 x6,.bool x7] 43) (h2 : Box W b2 #[.int .i64 y1,.int .i64 y2,.int .i64 y3,.int .i64 y4,.slice yo yn yc,.int .i64 y6,.bool y7] 43)
  (hQ : ∀ (x : World) (v5 v6 v7 v8 v9 v10 v11 v12 v13 v14 v15 v16 : Value),Below W.heap.size W x → Q .normal ⟨(u0 :: u1 :: .pointer (some ⟨b1,0,none⟩) :: .pointer (some ⟨b2,0,none⟩) :: (.int .i64 (orI (cmpJ (x1,x2) (y1,y2)) (cmpJ (x3,x4) (y3,y4)))) :: v5 :: v6 :: v7 :: v8 :: v9 :: v10 :: v11 :: v12 :: v13 :: v14 :: v15 :: v16 :: []).toArray,[]⟩ x) :
  Code.wp Tryz.prog ent1C Q ⟨(u0 :: u1 :: .pointer (some ⟨b1,0,none⟩) :: .pointer (some ⟨b2,0,none⟩) :: u4 :: u5 :: u6 :: u7 :: u8 :: u9 :: u10 :: u11 :: u12 :: u13 :: u14 :: u15 :: u16 :: []).toArray,[]⟩ W := by
 have HQ := Lib.hid hQ
 have H1 := Lib.hid h1
 have H2 := Lib.hid h2
 clear hQ h1 h2
 have stab := ent1V_on W.heap.size b1 b2 x1 x2 x3 x4 xo xn xc x6 x7 y1 y2 y3 y4 yo yn yc y6 y7
 unfold ent1C
 conv => arg 2; whnf
 have nd : ∀ j,(j < 5 ∨ 17 ≤ j) → ∀ i,i < 12 → (fun i => 5 + i) i ≠ j := by
  intro j hj i hi h
  simp only at h
  omega
 refine Rg.region_live 13 12 (fun i => 5 + i) (fun _ => 12) (ent1V W.heap.size b1 b2 x1 x2 x3 x4 xo xn xc x6 x7 y1 y2 y3 y4 yo yn yc y6 y7) (by kernel_rfl) (by kernel_rfl) rfl (by decide) (fun i j _ _ h => by have h2 : 5 + i = 5 + j := h; omega) (fun i hi => by show 5 + i < 17; omega) ?_ (fun _ => Rg.hall_of 14 (by kernel_rfl)) ?_ ?_
 ·intro i o hi ho a x D hnd hc hD hb seen K hK
  clear HQ
  rcases (by omega : i = 0 ∨ i = 1 ∨ i = 2 ∨ i = 3 ∨ i = 4 ∨ i = 5 ∨ i = 6 ∨ i = 7 ∨ i = 8 ∨ i = 9 ∨ i = 10 ∨ i = 11) with rfl | rfl | rfl | rfl | rfl | rfl | rfl | rfl | rfl | rfl | rfl | rfl
  ·obtain rfl := Option.some.inj ho
   have e2 : a.eval (.tmp 2) = .pointer (some ⟨b1,0,none⟩) := seen.kp 2 _ (nd 2 (by omega)) rfl
   exact Rg.op_value rfl rfl (Rg.ex_field a.eval _ 43 (.tmp 2) 0 rfl (by rw [e2]; simp [go_sem])) (hK _ _ rfl (Below.refl _ _) fun _ _ _ _ _ _ _ h => h)
  ·obtain rfl := Option.some.inj ho
   have e5 : a.eval (.tmp 5) = .pointer (some ⟨b1,0,none⟩) := seen.at_ ⟨0,.data⟩ (by simp) rfl (Or.inr (by decide))
   have y1 := (H1.out.on hb).cell 1
   have y0 := (H1.out.on hb).cell 0
   simp only [List.getElem?_toArray,List.getElem?_cons_zero,List.getElem?_cons_succ] at y0 y1
   exact Rg.op_value rfl rfl (Rg.ex_load a.eval _ 38 (.tmp 5) rfl (by rw [e5]; simp [go_sem,y0,y1])) (hK _ _ rfl (Below.refl _ _) fun _ _ _ _ _ _ _ h => h)
  ·obtain rfl := Option.some.inj ho
   have e3 : a.eval (.tmp 3) = .pointer (some ⟨b2,0,none⟩) := seen.kp 3 _ (nd 3 (by omega)) rfl
   exact Rg.op_value rfl rfl (Rg.ex_field a.eval _ 43 (.tmp 3) 0 rfl (by rw [e3]; simp [go_sem])) (hK _ _ rfl (Below.refl _ _) fun _ _ _ _ _ _ _ h => h)
  ·obtain rfl := Option.some.inj ho
   have e7 : a.eval (.tmp 7) = .pointer (some ⟨b2,0,none⟩) := seen.at_ ⟨2,.data⟩ (by simp) rfl (Or.inr (by decide))
   have y1 := (H2.out.on hb).cell 1
   have y0 := (H2.out.on hb).cell 0
   simp only [List.getElem?_toArray,List.getElem?_cons_zero,List.getElem?_cons_succ] at y0 y1
   exact Rg.op_value rfl rfl (Rg.ex_load a.eval _ 38 (.tmp 7) rfl (by rw [e7]; simp [go_sem,y0,y1])) (hK _ _ rfl (Below.refl _ _) fun _ _ _ _ _ _ _ h => h)
  ·obtain rfl := Option.some.inj ho
   have e6 : a.eval (.tmp 6) = .agg #[.int .i64 x1,.int .i64 x2] := seen.at_ ⟨1,.data⟩ (by simp) rfl (Or.inr (by decide))
   have e8 : a.eval (.tmp 8) = .agg #[.int .i64 y1,.int .i64 y2] := seen.at_ ⟨3,.data⟩ (by simp) rfl (Or.inr (by decide))
   exact Rg.op_call rfl rfl (Rw.ex_call2 a.eval _ (.tmp 6) (.tmp 8) 38 38 39 rfl e6 e8 rfl _ (call_byID _ _)) (byID_any (x1,x2) (y1,y2) x) fun e w1 h => by
    obtain ⟨rfl,h3⟩ := h
    exact ⟨_,rfl,hK _ _ rfl (h3.mono hb.size) fun j u hj _ _ _ hne h => stab j u _ _ h h3⟩
  ·obtain rfl := Option.some.inj ho
   have e2 : a.eval (.tmp 2) = .pointer (some ⟨b1,0,none⟩) := seen.kp 2 _ (nd 2 (by omega)) rfl
   exact Rg.op_value rfl rfl (Rg.ex_field a.eval _ 43 (.tmp 2) 1 rfl (by rw [e2]; simp [go_sem])) (hK _ _ rfl (Below.refl _ _) fun _ _ _ _ _ _ _ h => h)
  ·obtain rfl := Option.some.inj ho
   have e10 : a.eval (.tmp 10) = .pointer (some ⟨b1,2,none⟩) := seen.at_ ⟨5,.data⟩ (by simp) rfl (Or.inr (by decide))
   have y2 := (H1.out.on hb).cell 2
   have y3 := (H1.out.on hb).cell 3
   simp only [List.getElem?_toArray,List.getElem?_cons_zero,List.getElem?_cons_succ] at y2 y3
   exact Rg.op_value rfl rfl (Rg.ex_load a.eval _ 38 (.tmp 10) rfl (by rw [e10]; simp [go_sem,y2,y3])) (hK _ _ rfl (Below.refl _ _) fun _ _ _ _ _ _ _ h => h)
  ·obtain rfl := Option.some.inj ho
   have e3 : a.eval (.tmp 3) = .pointer (some ⟨b2,0,none⟩) := seen.kp 3 _ (nd 3 (by omega)) rfl
   exact Rg.op_value rfl rfl (Rg.ex_field a.eval _ 43 (.tmp 3) 1 rfl (by rw [e3]; simp [go_sem])) (hK _ _ rfl (Below.refl _ _) fun _ _ _ _ _ _ _ h => h)
  ·obtain rfl := Option.some.inj ho
   have e12 : a.eval (.tmp 12) = .pointer (some ⟨b2,2,none⟩) := seen.at_ ⟨7,.data⟩ (by simp) rfl (Or.inr (by decide))
   have y2 := (H2.out.on hb).cell 2
   have y3 := (H2.out.on hb).cell 3
   simp only [List.getElem?_toArray,List.getElem?_cons_zero,List.getElem?_cons_succ] at y2 y3
   exact Rg.op_value rfl rfl (Rg.ex_load a.eval _ 38 (.tmp 12) rfl (by rw [e12]; simp [go_sem,y2,y3])) (hK _ _ rfl (Below.refl _ _) fun _ _ _ _ _ _ _ h => h)
  ·obtain rfl := Option.some.inj ho
   have e11 : a.eval (.tmp 11) = .agg #[.int .i64 x3,.int .i64 x4] := seen.at_ ⟨6,.data⟩ (by simp) rfl (Or.inr (by decide))
   have e13 : a.eval (.tmp 13) = .agg #[.int .i64 y3,.int .i64 y4] := seen.at_ ⟨8,.data⟩ (by simp) rfl (Or.inr (by decide))
   exact Rg.op_call rfl rfl (Rw.ex_call2 a.eval _ (.tmp 11) (.tmp 13) 38 38 39 rfl e11 e13 rfl _ (call_byID _ _)) (byID_any (x3,x4) (y3,y4) x) fun e w1 h => by
    obtain ⟨rfl,h3⟩ := h
    exact ⟨_,rfl,hK _ _ rfl (h3.mono hb.size) fun j u hj _ _ _ hne h => stab j u _ _ h h3⟩
  ·obtain rfl := Option.some.inj ho
   have e9 : a.eval (.tmp 9) = .int .i64 (cmpJ (x1,x2) (y1,y2)) := seen.at_ ⟨4,.data⟩ (by simp) rfl (Or.inr (by decide))
   have e14 : a.eval (.tmp 14) = .int .i64 (cmpJ (x3,x4) (y3,y4)) := seen.at_ ⟨9,.data⟩ (by simp) rfl (Or.inr (by decide))
   have hbx := box_new x #[.int .i64 (cmpJ (x1,x2) (y1,y2)),.int .i64 (cmpJ (x3,x4) (y3,y4))] 3
   exact Rg.op_value rfl rfl (Rg.ex_build a.eval _ 25 2 #[(0,.tmp 9),(1,.tmp 14)] rfl (ps := #[(0,.int .i64 (cmpJ (x1,x2) (y1,y2))),(1,.int .i64 (cmpJ (x3,x4) (y3,y4)))]) (by simp [e9,e14]) (by simp [go_sem])) (hK (.slice (some ⟨x.heap.size,0,none⟩) 2 2) (x.alloc (.cells #[.int .i64 (cmpJ (x1,x2) (y1,y2)),.int .i64 (cmpJ (x3,x4) (y3,y4))] 3)) ⟨x.heap.size,rfl,hbx.cell 0,hbx.cell 1⟩ ((Below.refl _ _).alloc hb.size _) fun j u _ _ _ _ _ h => stab j u _ _ h ((Below.refl _ _).alloc (Nat.le_refl _) _))
  ·obtain rfl := Option.some.inj ho
   have E15 := seen.at_ ⟨10,.data⟩ (by simp) rfl (Or.inr (by decide))
   obtain ⟨g,q0,q1,q2⟩ := E15
   exact Rg.op_call rfl rfl (Rw.ex_call1 a.eval _ (.tmp 15) 25 104 rfl q0 rfl _ (call_or _ _)) (or_any g 2 _ _ x q1 q2) fun e w1 h => by
    obtain ⟨rfl,rfl⟩ := h
    exact ⟨_,rfl,hK _ _ rfl (Below.refl _ _) fun j u hj _ _ _ hne h => h⟩
 ·intro kk o h1 h2 ho
  omega
 ·intro a w' df sz kp ⟨vs,hv⟩ hb
  have sz' : a.tmps.size = 17 := sz
  have g16 : a.tmps[16]? = some (.int .i64 (orI (cmpJ (x1,x2) (y1,y2)) (cmpJ (x3,x4) (y3,y4)))) := by
   have h : vs 11 = .int .i64 (orI (cmpJ (x1,x2) (y1,y2)) (cmpJ (x3,x4) (y3,y4))) := (hv 11 (by omega)).2 (by decide)
   rw [← h]
   exact (hv 11 (by omega)).1
  show Rg.SeqFrom _ _ _ 1 12 a w'
  simp only [Rg.SeqFrom]
  refine Rg.op_value rfl rfl (Rg.ex_assign a.eval _ (.tmp 16) rfl _) ?_
  rw [Rg.eval_some g16]
  have hp4 : (a.put (some 4) (.int .i64 (orI (cmpJ (x1,x2) (y1,y2)) (cmpJ (x3,x4) (y3,y4))))).tmps[4]? = some (.int .i64 (orI (cmpJ (x1,x2) (y1,y2)) (cmpJ (x3,x4) (y3,y4)))) := by simp [Act.put,sz']
  have kp2 : ∀ j,(j < 4 ∨ 17 ≤ j) → (a.put (some 4) (.int .i64 (orI (cmpJ (x1,x2) (y1,y2)) (cmpJ (x3,x4) (y3,y4))))).tmps[j]? = (u0 :: u1 :: .pointer (some ⟨b1,0,none⟩) :: .pointer (some ⟨b2,0,none⟩) :: u4 :: u5 :: u6 :: u7 :: u8 :: u9 :: u10 :: u11 :: u12 :: u13 :: u14 :: u15 :: u16 :: [])[j]? := fun j hj => (Rg.get_put _ 4 _ j (by omega)).trans ((kp j (nd j (by omega))).trans List.getElem?_toArray)
  obtain ⟨mid,hmid,hfr⟩ := Rg.frame_mid (a := a.put (some 4) (.int .i64 (orI (cmpJ (x1,x2) (y1,y2)) (cmpJ (x3,x4) (y3,y4))))) 4 13 df (by simp [Rg.size_put,sz']) (by simp) kp2
  show Q .normal (a.put (some 4) (.int .i64 (orI (cmpJ (x1,x2) (y1,y2)) (cmpJ (x3,x4) (y3,y4))))) _
  rw [hfr] at hp4 ⊢
  match mid,hmid with
  | [v4,v5,v6,v7,v8,v9,v10,v11,v12,v13,v14,v15,v16],_ =>
   obtain rfl : v4 = .int .i64 (orI (cmpJ (x1,x2) (y1,y2)) (cmpJ (x3,x4) (y3,y4))) := Option.some.inj hp4
   exact HQ.out _ _ _ _ _ _ _ _ _ _ _ _ _ hb
def cmpN (x y : XEn) : Int := orI (cmpJ (x.1,x.2.1) (y.1,y.2.1)) (cmpJ (x.2.2.1,x.2.2.2.1) (y.2.2.1,y.2.2.2.1))
theorem inEnt_any (x y : XEn) (w : World) : Calls Tryz.prog 43 #[valN x,valN y] w fun e w' => e = .returned (.int .i64 (cmpN x y)) ∧ Below w.heap.size w w' := by
 obtain ⟨x1,x2,x3,x4,⟨xo,xn,xc⟩,x6,x7⟩ := x
 obtain ⟨y1,y2,y3,y4,⟨yo,yn,yc⟩,y6,y7⟩ := y
 obtain ⟨h0,X,Y⟩ := two_new w #[.int .i64 x1,.int .i64 x2,.int .i64 x3,.int .i64 x4,.slice xo xn xc,.int .i64 x6,.bool x7] #[.int .i64 y1,.int .i64 y2,.int .i64 y3,.int .i64 y4,.slice yo yn yc,.int .i64 y6,.bool y7] 43 43
 have B := Lib.hid h0
 have HX := Lib.hid X
 have HY := Lib.hid Y
 have R := Lib.hid (show cmpN (x1,x2,x3,x4,(xo,xn,xc),x6,x7) (y1,y2,y3,y4,(yo,yn,yc),y6,y7) = orI (cmpJ (x1,x2) (y1,y2)) (cmpJ (x3,x4) (y3,y4)) from rfl)
 generalize cmpN (x1,x2,x3,x4,(xo,xn,xc),x6,x7) (y1,y2,y3,y4,(yo,yn,yc),y6,y7) = res at *
 clear h0 X Y
 go_enter Tryz.func43,Tryz.ntmps43
 go_upto_region 1 with fail
 generalize (w.alloc (.cells #[.int .i64 x1,.int .i64 x2,.int .i64 x3,.int .i64 x4,.slice xo xn xc,.int .i64 x6,.bool x7] 43)).alloc (.cells #[.int .i64 y1,.int .i64 y2,.int .i64 y3,.int .i64 y4,.slice yo yn yc,.int .i64 y6,.bool y7] 43) = W at *
 refine ent1 _ W w.heap.size (w.heap.size + 1) x1 x2 x3 x4 xo xn xc x6 x7 y1 y2 y3 y4 yo yn yc y6 y7 _ _ _ _ _ _ _ _ _ _ _ _ _ _ _ HX.out HY.out ?_
 intro x v5 v6 v7 v8 v9 v10 v11 v12 v13 v14 v15 v16 hb
 have HB := Lib.hid hb
 clear hb
 go_wp2
 go_ret
 exact ⟨by have h := R.out; subst h; rfl,B.out.trans (HB.out.mono B.out.size)⟩
abbrev cmpD (x y : XAd) : Int := cmpJ (x.1,x.2.1) (y.1,y.2.1)
abbrev cmpW (x y : XOw) : Int := cmpJ (x.1,x.2.1) (y.1,y.2.1)
def riseB {α : Type} (c : α → α → Int) : List α → Bool
 | x :: y :: l => decide (c x y < 0) && riseB c (y :: l)
 | _ => true
theorem riseB_all {α : Type} {c : α → α → Int} : ∀ {l : List α},(∀ (k : Nat) (x y : α),l[k]? = some x → l[k + 1]? = some y → c x y < 0) → riseB c l = true
 | [],_ => rfl
 | [_],_ => rfl
 | x :: y :: l,h => by
  unfold riseB
  rw [decide_eq_true (h 0 x y rfl rfl),Bool.true_and]
  exact riseB_all fun k a b ha hb => h (k + 1) a b (by simpa using ha) (by simpa using hb)
theorem riseB_not {α : Type} {c : α → α → Int} : ∀ {l : List α} {k : Nat} {x y : α},l[k]? = some x → l[k + 1]? = some y → ¬ c x y < 0 → riseB c l = false
 | [],k,x,y,h,_,_ => by simp at h
 | [_],0,x,y,_,h,_ => by simp at h
 | [_],k + 1,x,y,h,_,_ => by simp at h
 | a :: b :: l,0,x,y,h1,h2,h3 => by
  simp at h1 h2
  subst h1 h2
  unfold riseB
  rw [decide_eq_false h3,Bool.false_and]
 | a :: b :: l,k + 1,x,y,h1,h2,h3 => by
  unfold riseB
  rw [riseB_not (l := b :: l) (k := k) (by simpa using h1) (by simpa using h2) h3,Bool.and_false]
theorem elrI {W W1 : World} {v : Value} {l : List Int} {ao : Option Addr} {n c k : Nat} {x : Int} (h : Row EI W v l) (hv : v = .slice ao n c) (hn : l.length = n) (hk : l[k]? = some x) (hb : Below W.heap.size W W1) :
  ∃ p : Addr,(∀ w,(Instr.indexAt 25 (.slice ao n c) (.int .i64 k)).run Tryz.prog w = .ok (.pointer (some p)) w) ∧ (∀ d os,(grow (redrawn W1 d) os).cell? p = some (.int .i64 x)) := by
 obtain ⟨p,h1,h2⟩ := elI h hv hn hk
 have h3 := h2.2 _ hb
 exact ⟨p,h1,cell_regrown h3⟩
theorem creI (c d : Int) (r : Int) (hr : cmpI c d = r) (w : World) (k : Nat) (os : Array Obj) :
  Calls Tryz.prog 37 #[.int .i64 c,.int .i64 d] (grow (redrawn w k) os) fun e w'' => e = .returned (.int .i64 r) ∧ ∃ p : Regrown,w'' = grow (redrawn w p.d) p.os := by
 subst hr
 exact (compare_any c d _).mono fun e w' h => ⟨h.1,⟨k,os⟩,h.2⟩
theorem riseI_any (v : Value) (l : List Int) (w : World) (hv : Row EI w v l) :
  Calls Tryz.prog 36 #[v,.func (.func 37) #[] #[]] w fun e w' => e = .returned (.bool (riseB cmpI l)) ∧ Below w.heap.size w w' := by
 have HL := Lib.hid hv
 have lm := hv.most
 unfold maxLen at lm
 obtain ⟨ao,ac,rfl⟩ := hv.len
 obtain ⟨n,hn⟩ : ∃ n,n = l.length := ⟨_,rfl⟩
 rw [← hn] at HL lm ⊢
 have HN := Lib.hid hn.symm
 clear hv hn
 go_enter Tryz.func36,Tryz.ntmps36
 go_wp2
 go_loopw [5] (fun i wr => ∃ k : Nat,(k + 1 ≤ n ∨ n = 0 ∧ k = 0) ∧ i = .int .i64 ((k + 1 : Nat) : Int) ∧ Below w.heap.size w wr ∧ ∀ (j : Nat) (x y : Int),j < k → l[j]? = some x → l[j + 1]? = some y → cmpI x y < 0) (fun i _ => n + 1 - (intOf i).toNat)
 case atStart => exact ⟨0,by omega,rfl,Below.refl _ _,fun j x y h => by omega⟩
 case round =>
  obtain ⟨k,hk,rfl,hbe,hall⟩ := hrel
  have BE := Lib.hid hbe
  have AL := Lib.hid hall
  clear hbe hall
  by_cases hlt : k + 1 < n
  ·obtain ⟨x,hx⟩ : ∃ x,l[k]? = some x := ⟨_,List.getElem?_eq_getElem (by rw [HN.out]; omega)⟩
   obtain ⟨y,hy⟩ : ∃ y,l[k + 1]? = some y := ⟨_,List.getElem?_eq_getElem (by rw [HN.out]; omega)⟩
   obtain ⟨p,ix,p0⟩ := elrI HL.out rfl HN.out hx BE.out
   obtain ⟨q,iy,q0⟩ := elrI HL.out rfl HN.out hy BE.out
   rw [show ((k + 1 : Nat) : Int) = (k : Int) + 1 by omega] at iy
   obtain ⟨r,hr⟩ : ∃ r,cmpI x y = r := ⟨_,rfl⟩
   have C := creI x y r hr wr
   have HX := Lib.hid hx
   have HY := Lib.hid hy
   have HR := Lib.hid hr
   have BN := Lib.hid (fun dq osq => BE.out.trans ((below_regrown wr dq osq).mono BE.out.size))
   have w1 : IntKind.i64.wrap ((k : Int) + 1 - 1) = k := by rw [show (k : Int) + 1 - 1 = k by omega]; exact IntWalk.i64_in _ (by omega)
   have w2 : IntKind.i64.wrap ((k : Int) + 1 + 1) = (k : Int) + 1 + 1 := IntWalk.i64_in _ (by omega)
   clear hx hy hr
   by_cases hneg : r < 0
   ·have d0 : decide ((0 : Int) ≤ r) = false := by simp; omega
    go_wp2
    refine wp_region_quiet_below (by kernel_rfl) (by kernel_rfl) ?_
    repeat (go_big_quiet_step (first | (with_reducible exact C _ _) | exact calI _ _))
    refine wpQuiet_nil ?_
    intro _ hw'
    obtain ⟨⟨dq,osq⟩,hw''⟩ := hw'
    subst hw''
    clear ix iy p0 q0 C w1 d0
    go_wp2
    go_roundw
    case rel => exact ⟨k + 1,by omega,by go_num,BN.out _ _,fun j a b hj h1 h2 => by
     rcases Nat.lt_or_ge j k with h3 | h3
     ·exact AL.out j a b h3 h1 h2
     ·obtain rfl : j = k := by omega
      have e1 := HX.out
      have e2 := HY.out
      rw [h1] at e1
      rw [h2] at e2
      rw [Option.some.inj e1,Option.some.inj e2,HR.out]
      exact hneg⟩
    case measure => simp [intOf]; omega
   ·have d0 : decide ((0 : Int) ≤ r) = true := by simp; omega
    have RR := Lib.hid (show riseB cmpI l = false from riseB_not HX.out HY.out (by rw [HR.out]; exact hneg))
    go_wp2
    refine wp_region_quiet_below (by kernel_rfl) (by kernel_rfl) ?_
    repeat (go_big_quiet_step (first | (with_reducible exact C _ _) | exact calI _ _))
    refine wpQuiet_nil ?_
    intro _ hw'
    obtain ⟨⟨dq,osq⟩,hw''⟩ := hw'
    subst hw''
    clear ix iy p0 q0 C w1 d0
    go_wp2
    go_ret
    exact ⟨by rw [RR.out]; rfl,BN.out _ _⟩
  ·have RR := Lib.hid (show riseB cmpI l = true from riseB_all fun j x y h1 h2 => AL.out j x y (by have := (List.getElem?_eq_some_iff.1 h2).1; have := HN.out; omega) h1 h2)
   go_wp2
   go_ret
   exact ⟨by rw [RR.out]; rfl,BE.out⟩
theorem elrJ {W W1 : World} {v : Value} {l : List XID} {ao : Option Addr} {n c k : Nat} {x : XID} (h : Row EJ W v l) (hv : v = .slice ao n c) (hn : l.length = n) (hk : l[k]? = some x) (hb : Below W.heap.size W W1) :
  ∃ p : Addr,(∀ w,(Instr.indexAt 27 (.slice ao n c) (.int .i64 k)).run Tryz.prog w = .ok (.pointer (some p)) w) ∧ (∀ d os,(grow (redrawn W1 d) os).cell? p = some (.int .i64 x.1)) ∧ (∀ d os,(grow (redrawn W1 d) os).cell? ⟨p.block,p.off + 1,none⟩ = some (.int .i64 x.2)) := by
 obtain ⟨p,h1,h2⟩ := elJ h hv hn hk
 have h3 := h2 _ hb
 exact ⟨p,h1,cell_regrown h3.1,cell_regrown h3.2⟩
theorem creJ (c d : XID) (r : Int) (hr : cmpJ c d = r) (w : World) (k : Nat) (os : Array Obj) :
  Calls Tryz.prog 39 #[idv c,idv d] (grow (redrawn w k) os) fun e w'' => e = .returned (.int .i64 r) ∧ ∃ p : Regrown,w'' = grow (redrawn w p.d) p.os := by
 subst hr
 exact Calls.regrown_of (byID_any c d _)
theorem riseJ_any (v : Value) (l : List XID) (w : World) (hv : Row EJ w v l) :
  Calls Tryz.prog 38 #[v,.func (.func 39) #[] #[]] w fun e w' => e = .returned (.bool (riseB cmpJ l)) ∧ Below w.heap.size w w' := by
 have HL := Lib.hid hv
 have lm := hv.most
 unfold maxLen at lm
 obtain ⟨ao,ac,rfl⟩ := hv.len
 obtain ⟨n,hn⟩ : ∃ n,n = l.length := ⟨_,rfl⟩
 rw [← hn] at HL lm ⊢
 have HN := Lib.hid hn.symm
 clear hv hn
 go_enter Tryz.func38,Tryz.ntmps38
 go_wp2
 go_loopw [5] (fun i wr => ∃ k : Nat,(k + 1 ≤ n ∨ n = 0 ∧ k = 0) ∧ i = .int .i64 ((k + 1 : Nat) : Int) ∧ Below w.heap.size w wr ∧ ∀ (j : Nat) (x y : XID),j < k → l[j]? = some x → l[j + 1]? = some y → cmpJ x y < 0) (fun i _ => n + 1 - (intOf i).toNat)
 case atStart => exact ⟨0,by omega,rfl,Below.refl _ _,fun j x y h => by omega⟩
 case round =>
  obtain ⟨k,hk,rfl,hbe,hall⟩ := hrel
  have BE := Lib.hid hbe
  have AL := Lib.hid hall
  clear hbe hall
  by_cases hlt : k + 1 < n
  ·obtain ⟨x,hx⟩ : ∃ x,l[k]? = some x := ⟨_,List.getElem?_eq_getElem (by rw [HN.out]; omega)⟩
   obtain ⟨y,hy⟩ : ∃ y,l[k + 1]? = some y := ⟨_,List.getElem?_eq_getElem (by rw [HN.out]; omega)⟩
   obtain ⟨p,ix,p0,p1⟩ := elrJ HL.out rfl HN.out hx BE.out
   obtain ⟨q,iy,q0,q1⟩ := elrJ HL.out rfl HN.out hy BE.out
   rw [show ((k + 1 : Nat) : Int) = (k : Int) + 1 by omega] at iy
   obtain ⟨r,hr⟩ : ∃ r,cmpJ x y = r := ⟨_,rfl⟩
   have C := creJ x y r hr wr
   have HX := Lib.hid hx
   have HY := Lib.hid hy
   have HR := Lib.hid hr
   have BN := Lib.hid (fun dq osq => BE.out.trans ((below_regrown wr dq osq).mono BE.out.size))
   have w1 : IntKind.i64.wrap ((k : Int) + 1 - 1) = k := by rw [show (k : Int) + 1 - 1 = k by omega]; exact IntWalk.i64_in _ (by omega)
   have w2 : IntKind.i64.wrap ((k : Int) + 1 + 1) = (k : Int) + 1 + 1 := IntWalk.i64_in _ (by omega)
   clear hx hy hr
   obtain ⟨x1,x2⟩ := x
   obtain ⟨y1,y2⟩ := y
   simp only at p0 p1 q0 q1 C
   by_cases hneg : r < 0
   ·have d0 : decide ((0 : Int) ≤ r) = false := by simp; omega
    go_wp2
    refine wp_region_quiet_below (by kernel_rfl) (by kernel_rfl) ?_
    repeat (go_big_quiet_step (first | (with_reducible exact C _ _) | exact calJ _ _))
    refine wpQuiet_nil ?_
    intro _ hw'
    obtain ⟨⟨dq,osq⟩,hw''⟩ := hw'
    subst hw''
    clear ix iy p0 p1 q0 q1 C w1 d0
    go_wp2
    go_roundw
    case rel => exact ⟨k + 1,by omega,by go_num,BN.out _ _,fun j a b hj h1 h2 => by
     rcases Nat.lt_or_ge j k with h3 | h3
     ·exact AL.out j a b h3 h1 h2
     ·obtain rfl : j = k := by omega
      have e1 := HX.out
      have e2 := HY.out
      rw [h1] at e1
      rw [h2] at e2
      rw [Option.some.inj e1,Option.some.inj e2,HR.out]
      exact hneg⟩
    case measure => simp [intOf]; omega
   ·have d0 : decide ((0 : Int) ≤ r) = true := by simp; omega
    have RR := Lib.hid (show riseB cmpJ l = false from riseB_not HX.out HY.out (by rw [HR.out]; exact hneg))
    go_wp2
    refine wp_region_quiet_below (by kernel_rfl) (by kernel_rfl) ?_
    repeat (go_big_quiet_step (first | (with_reducible exact C _ _) | exact calJ _ _))
    refine wpQuiet_nil ?_
    intro _ hw'
    obtain ⟨⟨dq,osq⟩,hw''⟩ := hw'
    subst hw''
    clear ix iy p0 p1 q0 q1 C w1 d0
    go_wp2
    go_ret
    exact ⟨by rw [RR.out]; rfl,BN.out _ _⟩
  ·have RR := Lib.hid (show riseB cmpJ l = true from riseB_all fun j x y h1 h2 => AL.out j x y (by have := (List.getElem?_eq_some_iff.1 h2).1; have := HN.out; omega) h1 h2)
   go_wp2
   go_ret
   exact ⟨by rw [RR.out]; rfl,BE.out⟩
theorem elrD {W W1 : World} {v : Value} {l : List XAd} {ao : Option Addr} {n c k : Nat} {x : XAd} (h : Row ED W v l) (hv : v = .slice ao n c) (hn : l.length = n) (hk : l[k]? = some x) (hb : Below W.heap.size W W1) :
  ∃ p : Addr,(∀ w,(Instr.indexAt 26 (.slice ao n c) (.int .i64 k)).run Tryz.prog w = .ok (.pointer (some p)) w) ∧ (∀ d os,(grow (redrawn W1 d) os).cell? p = some (.int .i64 x.1)) ∧ (∀ d os,(grow (redrawn W1 d) os).cell? ⟨p.block,p.off + 1,none⟩ = some (.int .i64 x.2.1)) ∧ (∀ d os,(grow (redrawn W1 d) os).cell? ⟨p.block,p.off + 2,none⟩ = some (slv x.2.2.1)) ∧ (∀ d os,(grow (redrawn W1 d) os).cell? ⟨p.block,p.off + 3,none⟩ = some (.int .i64 x.2.2.2)) := by
 obtain ⟨p,h1,h2⟩ := elD h hv hn hk
 have h3 := h2 _ hb
 exact ⟨p,h1,cell_regrown h3.1,cell_regrown h3.2.1,cell_regrown h3.2.2.1,cell_regrown h3.2.2.2⟩
theorem creD (c d : XAd) (r : Int) (hr : cmpD c d = r) (w : World) (k : Nat) (os : Array Obj) :
  Calls Tryz.prog 41 #[valD c,valD d] (grow (redrawn w k) os) fun e w'' => e = .returned (.int .i64 r) ∧ ∃ p : Regrown,w'' = grow (redrawn w p.d) p.os := by
 subst hr
 exact Calls.regrown_of (inAdv_any c d _)
theorem riseD_any (v : Value) (l : List XAd) (w : World) (hv : Row ED w v l) :
  Calls Tryz.prog 40 #[v,.func (.func 41) #[] #[]] w fun e w' => e = .returned (.bool (riseB cmpD l)) ∧ Below w.heap.size w w' := by
 have HL := Lib.hid hv
 have lm := hv.most
 unfold maxLen at lm
 obtain ⟨ao,ac,rfl⟩ := hv.len
 obtain ⟨n,hn⟩ : ∃ n,n = l.length := ⟨_,rfl⟩
 rw [← hn] at HL lm ⊢
 have HN := Lib.hid hn.symm
 clear hv hn
 go_enter Tryz.func40,Tryz.ntmps40
 go_wp2
 go_loopw [5] (fun i wr => ∃ k : Nat,(k + 1 ≤ n ∨ n = 0 ∧ k = 0) ∧ i = .int .i64 ((k + 1 : Nat) : Int) ∧ Below w.heap.size w wr ∧ ∀ (j : Nat) (x y : XAd),j < k → l[j]? = some x → l[j + 1]? = some y → cmpD x y < 0) (fun i _ => n + 1 - (intOf i).toNat)
 case atStart => exact ⟨0,by omega,rfl,Below.refl _ _,fun j x y h => by omega⟩
 case round =>
  obtain ⟨k,hk,rfl,hbe,hall⟩ := hrel
  have BE := Lib.hid hbe
  have AL := Lib.hid hall
  clear hbe hall
  by_cases hlt : k + 1 < n
  ·obtain ⟨x,hx⟩ : ∃ x,l[k]? = some x := ⟨_,List.getElem?_eq_getElem (by rw [HN.out]; omega)⟩
   obtain ⟨y,hy⟩ : ∃ y,l[k + 1]? = some y := ⟨_,List.getElem?_eq_getElem (by rw [HN.out]; omega)⟩
   obtain ⟨p,ix,p0,p1,p2,p3⟩ := elrD HL.out rfl HN.out hx BE.out
   obtain ⟨q,iy,q0,q1,q2,q3⟩ := elrD HL.out rfl HN.out hy BE.out
   rw [show ((k + 1 : Nat) : Int) = (k : Int) + 1 by omega] at iy
   obtain ⟨r,hr⟩ : ∃ r,cmpD x y = r := ⟨_,rfl⟩
   have C := creD x y r hr wr
   have HX := Lib.hid hx
   have HY := Lib.hid hy
   have HR := Lib.hid hr
   have BN := Lib.hid (fun dq osq => BE.out.trans ((below_regrown wr dq osq).mono BE.out.size))
   have w1 : IntKind.i64.wrap ((k : Int) + 1 - 1) = k := by rw [show (k : Int) + 1 - 1 = k by omega]; exact IntWalk.i64_in _ (by omega)
   have w2 : IntKind.i64.wrap ((k : Int) + 1 + 1) = (k : Int) + 1 + 1 := IntWalk.i64_in _ (by omega)
   clear hx hy hr
   obtain ⟨x1,x2,⟨xo,xn,xc⟩,x4⟩ := x
   obtain ⟨y1,y2,⟨yo,yn,yc⟩,y4⟩ := y
   simp only at p0 p1 p2 p3 q0 q1 q2 q3 C
   by_cases hneg : r < 0
   ·have d0 : decide ((0 : Int) ≤ r) = false := by simp; omega
    go_wp2
    refine wp_region_quiet_below (by kernel_rfl) (by kernel_rfl) ?_
    repeat (go_big_quiet_step (first | (with_reducible exact C _ _) | exact calD _ _))
    refine wpQuiet_nil ?_
    intro _ hw'
    obtain ⟨⟨dq,osq⟩,hw''⟩ := hw'
    subst hw''
    clear ix iy p0 p1 p2 p3 q0 q1 q2 q3 C w1 d0
    go_wp2
    go_roundw
    case rel => exact ⟨k + 1,by omega,by go_num,BN.out _ _,fun j a b hj h1 h2 => by
     rcases Nat.lt_or_ge j k with h3 | h3
     ·exact AL.out j a b h3 h1 h2
     ·obtain rfl : j = k := by omega
      have e1 := HX.out
      have e2 := HY.out
      rw [h1] at e1
      rw [h2] at e2
      rw [Option.some.inj e1,Option.some.inj e2,HR.out]
      exact hneg⟩
    case measure => simp [intOf]; omega
   ·have d0 : decide ((0 : Int) ≤ r) = true := by simp; omega
    have RR := Lib.hid (show riseB cmpD l = false from riseB_not HX.out HY.out (by rw [HR.out]; exact hneg))
    go_wp2
    refine wp_region_quiet_below (by kernel_rfl) (by kernel_rfl) ?_
    repeat (go_big_quiet_step (first | (with_reducible exact C _ _) | exact calD _ _))
    refine wpQuiet_nil ?_
    intro _ hw'
    obtain ⟨⟨dq,osq⟩,hw''⟩ := hw'
    subst hw''
    clear ix iy p0 p1 p2 p3 q0 q1 q2 q3 C w1 d0
    go_wp2
    go_ret
    exact ⟨by rw [RR.out]; rfl,BN.out _ _⟩
  ·have RR := Lib.hid (show riseB cmpD l = true from riseB_all fun j x y h1 h2 => AL.out j x y (by have := (List.getElem?_eq_some_iff.1 h2).1; have := HN.out; omega) h1 h2)
   go_wp2
   go_ret
   exact ⟨by rw [RR.out]; rfl,BE.out⟩
theorem elrN {W W1 : World} {v : Value} {l : List XEn} {ao : Option Addr} {n c k : Nat} {x : XEn} (h : Row EN W v l) (hv : v = .slice ao n c) (hn : l.length = n) (hk : l[k]? = some x) (hb : Below W.heap.size W W1) :
  ∃ p : Addr,(∀ w,(Instr.indexAt 28 (.slice ao n c) (.int .i64 k)).run Tryz.prog w = .ok (.pointer (some p)) w) ∧ (∀ d os,(grow (redrawn W1 d) os).cell? p = some (.int .i64 x.1)) ∧ (∀ d os,(grow (redrawn W1 d) os).cell? ⟨p.block,p.off + 1,none⟩ = some (.int .i64 x.2.1)) ∧ (∀ d os,(grow (redrawn W1 d) os).cell? ⟨p.block,p.off + 2,none⟩ = some (.int .i64 x.2.2.1)) ∧ (∀ d os,(grow (redrawn W1 d) os).cell? ⟨p.block,p.off + 3,none⟩ = some (.int .i64 x.2.2.2.1)) ∧ (∀ d os,(grow (redrawn W1 d) os).cell? ⟨p.block,p.off + 4,none⟩ = some (slv x.2.2.2.2.1)) ∧ (∀ d os,(grow (redrawn W1 d) os).cell? ⟨p.block,p.off + 5,none⟩ = some (.int .i64 x.2.2.2.2.2.1)) ∧ (∀ d os,(grow (redrawn W1 d) os).cell? ⟨p.block,p.off + 6,none⟩ = some (.bool x.2.2.2.2.2.2)) := by
 obtain ⟨p,h1,h2⟩ := elN h hv hn hk
 have h3 := h2 _ hb
 exact ⟨p,h1,cell_regrown h3.1,cell_regrown h3.2.1,cell_regrown h3.2.2.1,cell_regrown h3.2.2.2.1,cell_regrown h3.2.2.2.2.1,cell_regrown h3.2.2.2.2.2.1,cell_regrown h3.2.2.2.2.2.2⟩
theorem creN (c d : XEn) (r : Int) (hr : cmpN c d = r) (w : World) (k : Nat) (os : Array Obj) :
  Calls Tryz.prog 43 #[valN c,valN d] (grow (redrawn w k) os) fun e w'' => e = .returned (.int .i64 r) ∧ ∃ p : Regrown,w'' = grow (redrawn w p.d) p.os := by
 subst hr
 exact Calls.regrown_of (inEnt_any c d _)
theorem riseN_any (v : Value) (l : List XEn) (w : World) (hv : Row EN w v l) :
  Calls Tryz.prog 42 #[v,.func (.func 43) #[] #[]] w fun e w' => e = .returned (.bool (riseB cmpN l)) ∧ Below w.heap.size w w' := by
 have HL := Lib.hid hv
 have lm := hv.most
 unfold maxLen at lm
 obtain ⟨ao,ac,rfl⟩ := hv.len
 obtain ⟨n,hn⟩ : ∃ n,n = l.length := ⟨_,rfl⟩
 rw [← hn] at HL lm ⊢
 have HN := Lib.hid hn.symm
 clear hv hn
 go_enter Tryz.func42,Tryz.ntmps42
 go_wp2
 go_loopw [5] (fun i wr => ∃ k : Nat,(k + 1 ≤ n ∨ n = 0 ∧ k = 0) ∧ i = .int .i64 ((k + 1 : Nat) : Int) ∧ Below w.heap.size w wr ∧ ∀ (j : Nat) (x y : XEn),j < k → l[j]? = some x → l[j + 1]? = some y → cmpN x y < 0) (fun i _ => n + 1 - (intOf i).toNat)
 case atStart => exact ⟨0,by omega,rfl,Below.refl _ _,fun j x y h => by omega⟩
 case round =>
  obtain ⟨k,hk,rfl,hbe,hall⟩ := hrel
  have BE := Lib.hid hbe
  have AL := Lib.hid hall
  clear hbe hall
  by_cases hlt : k + 1 < n
  ·obtain ⟨x,hx⟩ : ∃ x,l[k]? = some x := ⟨_,List.getElem?_eq_getElem (by rw [HN.out]; omega)⟩
   obtain ⟨y,hy⟩ : ∃ y,l[k + 1]? = some y := ⟨_,List.getElem?_eq_getElem (by rw [HN.out]; omega)⟩
   obtain ⟨p,ix,p0,p1,p2,p3,p4,p5,p6⟩ := elrN HL.out rfl HN.out hx BE.out
   obtain ⟨q,iy,q0,q1,q2,q3,q4,q5,q6⟩ := elrN HL.out rfl HN.out hy BE.out
   rw [show ((k + 1 : Nat) : Int) = (k : Int) + 1 by omega] at iy
   obtain ⟨r,hr⟩ : ∃ r,cmpN x y = r := ⟨_,rfl⟩
   have C := creN x y r hr wr
   have HX := Lib.hid hx
   have HY := Lib.hid hy
   have HR := Lib.hid hr
   have BN := Lib.hid (fun dq osq => BE.out.trans ((below_regrown wr dq osq).mono BE.out.size))
   have w1 : IntKind.i64.wrap ((k : Int) + 1 - 1) = k := by rw [show (k : Int) + 1 - 1 = k by omega]; exact IntWalk.i64_in _ (by omega)
   have w2 : IntKind.i64.wrap ((k : Int) + 1 + 1) = (k : Int) + 1 + 1 := IntWalk.i64_in _ (by omega)
   clear hx hy hr
   obtain ⟨x1,x2,x3,x4,⟨xo,xn,xc⟩,x6,x7⟩ := x
   obtain ⟨y1,y2,y3,y4,⟨yo,yn,yc⟩,y6,y7⟩ := y
   simp only at p0 p1 p2 p3 p4 p5 p6 q0 q1 q2 q3 q4 q5 q6 C
   by_cases hneg : r < 0
   ·have d0 : decide ((0 : Int) ≤ r) = false := by simp; omega
    go_wp2
    refine wp_region_quiet_below (by kernel_rfl) (by kernel_rfl) ?_
    repeat (go_big_quiet_step (first | (with_reducible exact C _ _) | exact calN _ _))
    refine wpQuiet_nil ?_
    intro _ hw'
    obtain ⟨⟨dq,osq⟩,hw''⟩ := hw'
    subst hw''
    clear ix iy p0 p1 p2 p3 p4 p5 p6 q0 q1 q2 q3 q4 q5 q6 C w1 d0
    go_wp2
    go_roundw
    case rel => exact ⟨k + 1,by omega,by go_num,BN.out _ _,fun j a b hj h1 h2 => by
     rcases Nat.lt_or_ge j k with h3 | h3
     ·exact AL.out j a b h3 h1 h2
     ·obtain rfl : j = k := by omega
      have e1 := HX.out
      have e2 := HY.out
      rw [h1] at e1
      rw [h2] at e2
      rw [Option.some.inj e1,Option.some.inj e2,HR.out]
      exact hneg⟩
    case measure => simp [intOf]; omega
   ·have d0 : decide ((0 : Int) ≤ r) = true := by simp; omega
    have RR := Lib.hid (show riseB cmpN l = false from riseB_not HX.out HY.out (by rw [HR.out]; exact hneg))
    go_wp2
    refine wp_region_quiet_below (by kernel_rfl) (by kernel_rfl) ?_
    repeat (go_big_quiet_step (first | (with_reducible exact C _ _) | exact calN _ _))
    refine wpQuiet_nil ?_
    intro _ hw'
    obtain ⟨⟨dq,osq⟩,hw''⟩ := hw'
    subst hw''
    clear ix iy p0 p1 p2 p3 p4 p5 p6 q0 q1 q2 q3 q4 q5 q6 C w1 d0
    go_wp2
    go_ret
    exact ⟨by rw [RR.out]; rfl,BN.out _ _⟩
  ·have RR := Lib.hid (show riseB cmpN l = true from riseB_all fun j x y h1 h2 => AL.out j x y (by have := (List.getElem?_eq_some_iff.1 h2).1; have := HN.out; omega) h1 h2)
   go_wp2
   go_ret
   exact ⟨by rw [RR.out]; rfl,BE.out⟩
theorem elrW {W W1 : World} {v : Value} {l : List XOw} {ao : Option Addr} {n c k : Nat} {x : XOw} (h : Row EW W v l) (hv : v = .slice ao n c) (hn : l.length = n) (hk : l[k]? = some x) (hb : Below W.heap.size W W1) :
  ∃ p : Addr,(∀ w,(Instr.indexAt 29 (.slice ao n c) (.int .i64 k)).run Tryz.prog w = .ok (.pointer (some p)) w) ∧ (∀ d os,(grow (redrawn W1 d) os).cell? p = some (.int .i64 x.1)) ∧ (∀ d os,(grow (redrawn W1 d) os).cell? ⟨p.block,p.off + 1,none⟩ = some (.int .i64 x.2.1)) ∧ (∀ d os,(grow (redrawn W1 d) os).cell? ⟨p.block,p.off + 2,none⟩ = some (slv x.2.2)) := by
 obtain ⟨p,h1,h2⟩ := elW h hv hn hk
 have h3 := h2 _ hb
 exact ⟨p,h1,cell_regrown h3.1,cell_regrown h3.2.1,cell_regrown h3.2.2⟩
theorem creW (c d : XOw) (r : Int) (hr : cmpW c d = r) (w : World) (k : Nat) (os : Array Obj) :
  Calls Tryz.prog 45 #[valW c,valW d] (grow (redrawn w k) os) fun e w'' => e = .returned (.int .i64 r) ∧ ∃ p : Regrown,w'' = grow (redrawn w p.d) p.os := by
 subst hr
 exact Calls.regrown_of (inOwn_any c d _)
theorem riseW_any (v : Value) (l : List XOw) (w : World) (hv : Row EW w v l) :
  Calls Tryz.prog 44 #[v,.func (.func 45) #[] #[]] w fun e w' => e = .returned (.bool (riseB cmpW l)) ∧ Below w.heap.size w w' := by
 have HL := Lib.hid hv
 have lm := hv.most
 unfold maxLen at lm
 obtain ⟨ao,ac,rfl⟩ := hv.len
 obtain ⟨n,hn⟩ : ∃ n,n = l.length := ⟨_,rfl⟩
 rw [← hn] at HL lm ⊢
 have HN := Lib.hid hn.symm
 clear hv hn
 go_enter Tryz.func44,Tryz.ntmps44
 go_wp2
 go_loopw [5] (fun i wr => ∃ k : Nat,(k + 1 ≤ n ∨ n = 0 ∧ k = 0) ∧ i = .int .i64 ((k + 1 : Nat) : Int) ∧ Below w.heap.size w wr ∧ ∀ (j : Nat) (x y : XOw),j < k → l[j]? = some x → l[j + 1]? = some y → cmpW x y < 0) (fun i _ => n + 1 - (intOf i).toNat)
 case atStart => exact ⟨0,by omega,rfl,Below.refl _ _,fun j x y h => by omega⟩
 case round =>
  obtain ⟨k,hk,rfl,hbe,hall⟩ := hrel
  have BE := Lib.hid hbe
  have AL := Lib.hid hall
  clear hbe hall
  by_cases hlt : k + 1 < n
  ·obtain ⟨x,hx⟩ : ∃ x,l[k]? = some x := ⟨_,List.getElem?_eq_getElem (by rw [HN.out]; omega)⟩
   obtain ⟨y,hy⟩ : ∃ y,l[k + 1]? = some y := ⟨_,List.getElem?_eq_getElem (by rw [HN.out]; omega)⟩
   obtain ⟨p,ix,p0,p1,p2⟩ := elrW HL.out rfl HN.out hx BE.out
   obtain ⟨q,iy,q0,q1,q2⟩ := elrW HL.out rfl HN.out hy BE.out
   rw [show ((k + 1 : Nat) : Int) = (k : Int) + 1 by omega] at iy
   obtain ⟨r,hr⟩ : ∃ r,cmpW x y = r := ⟨_,rfl⟩
   have C := creW x y r hr wr
   have HX := Lib.hid hx
   have HY := Lib.hid hy
   have HR := Lib.hid hr
   have BN := Lib.hid (fun dq osq => BE.out.trans ((below_regrown wr dq osq).mono BE.out.size))
   have w1 : IntKind.i64.wrap ((k : Int) + 1 - 1) = k := by rw [show (k : Int) + 1 - 1 = k by omega]; exact IntWalk.i64_in _ (by omega)
   have w2 : IntKind.i64.wrap ((k : Int) + 1 + 1) = (k : Int) + 1 + 1 := IntWalk.i64_in _ (by omega)
   clear hx hy hr
   obtain ⟨x1,x2,⟨xo,xn,xc⟩⟩ := x
   obtain ⟨y1,y2,⟨yo,yn,yc⟩⟩ := y
   simp only at p0 p1 p2 q0 q1 q2 C
   by_cases hneg : r < 0
   ·have d0 : decide ((0 : Int) ≤ r) = false := by simp; omega
    go_wp2
    refine wp_region_quiet_below (by kernel_rfl) (by kernel_rfl) ?_
    repeat (go_big_quiet_step (first | (with_reducible exact C _ _) | exact calW _ _))
    refine wpQuiet_nil ?_
    intro _ hw'
    obtain ⟨⟨dq,osq⟩,hw''⟩ := hw'
    subst hw''
    clear ix iy p0 p1 p2 q0 q1 q2 C w1 d0
    go_wp2
    go_roundw
    case rel => exact ⟨k + 1,by omega,by go_num,BN.out _ _,fun j a b hj h1 h2 => by
     rcases Nat.lt_or_ge j k with h3 | h3
     ·exact AL.out j a b h3 h1 h2
     ·obtain rfl : j = k := by omega
      have e1 := HX.out
      have e2 := HY.out
      rw [h1] at e1
      rw [h2] at e2
      rw [Option.some.inj e1,Option.some.inj e2,HR.out]
      exact hneg⟩
    case measure => simp [intOf]; omega
   ·have d0 : decide ((0 : Int) ≤ r) = true := by simp; omega
    have RR := Lib.hid (show riseB cmpW l = false from riseB_not HX.out HY.out (by rw [HR.out]; exact hneg))
    go_wp2
    refine wp_region_quiet_below (by kernel_rfl) (by kernel_rfl) ?_
    repeat (go_big_quiet_step (first | (with_reducible exact C _ _) | exact calW _ _))
    refine wpQuiet_nil ?_
    intro _ hw'
    obtain ⟨⟨dq,osq⟩,hw''⟩ := hw'
    subst hw''
    clear ix iy p0 p1 p2 q0 q1 q2 C w1 d0
    go_wp2
    go_ret
    exact ⟨by rw [RR.out]; rfl,BN.out _ _⟩
  ·have RR := Lib.hid (show riseB cmpW l = true from riseB_all fun j x y h1 h2 => AL.out j x y (by have := (List.getElem?_eq_some_iff.1 h2).1; have := HN.out; omega) h1 h2)
   go_wp2
   go_ret
   exact ⟨by rw [RR.out]; rfl,BE.out⟩
end Go.Proofs.YtncogjpmboglhaaGreat.Av
namespace Go.Proofs.YtncogjpmboglhaaGreat.Bk
open Go.RowKit Rw YtncogjpmboglhaaGreat.Nm Pr Rl
def unR (c : C5) : Cn := (c.1,if c.2.1 = 1 then .rg c.2.2.1 c.2.2.2.1 else if c.2.1 = 2 then .tx c.2.2.2.2 else .pr c.2.2.2.2)
theorem unR_r5 (c : Cn) : unR (r5 c) = c := by
 obtain ⟨n,k⟩ := c
 cases k <;> simp [unR,r5,kN,kLo,kHi,kT]
theorem unR_map (a : List Cn) : (a.map r5).map unR = a := by
 rw [List.map_map]
 have h : unR ∘ r5 = id := funext unR_r5
 rw [h,List.map_id]
def PredOk (p : List C5) : Prop := ∃ a : List Cn,NF a ∧ p = a.map r5
def coversC (p q : List C5) : Bool := coversL (p.map unR) (q.map unR)
theorem covers_c (av_ bv : Value) (p q : List C5) (w : World) (ha : RowC w av_ p) (hb : RowC w bv q) (hp : PredOk p) (hq : PredOk q) :
  Calls Tryz.prog 73 #[av_,bv] w fun e w' => e = .returned (.bool (coversC p q)) ∧ Below w.heap.size w w' := by
 obtain ⟨a,na,rfl⟩ := hp
 obtain ⟨b,nb,rfl⟩ := hq
 unfold coversC
 rw [unR_map,unR_map]
 exact rcovers_any av_ bv a b w ha hb (by have := na.five; omega) (by have := nb.five; omega)
def covE (t : Id) (p : List C5) (e : En) : Bool := decide (e.tree = t) && (e.up && coversC e.p p)
def coveredE (m : List En) (t : Id) (p : List C5) : Bool := m.any (covE t p)
theorem rcovered_any (me : Int) (nv av sv ov : Value) (ev : Sl) (l : List XEn) (m : List En) (x : Id) (pv : Value) (p' : List C5) (w : World) (hs : RowN w (slv ev) l) (hu : All2 (EnIn w) l m) (hp : RowC w pv p') (hok : ∀ e ∈ m,PredOk e.p) (hop : PredOk p') :
  Calls Tryz.prog 15 #[.agg #[.int .i64 me,nv,av,sv,slv ev,ov],idv x,pv] w fun e w' => e = .returned (.bool (coveredE m x p')) ∧ Below w.heap.size w w' := by
 have HU := Lib.hid hu
 have HP := Lib.hid hp
 have OK := Lib.hid hok
 have OP := Lib.hid hop
 obtain ⟨pa,pc,rfl⟩ := hp.len
 obtain ⟨pn,hpn⟩ : ∃ n,n = p'.length := ⟨_,rfl⟩
 rw [← hpn] at HP ⊢
 clear hu hp hok hop hpn
 obtain ⟨c,d⟩ := x
 obtain ⟨so,sn,sc⟩ := ev
 obtain ⟨ao,ac,hv⟩ := hs.len
 have hv : Value.slice so sn sc = .slice ao l.length ac := hv
 obtain ⟨rfl,rfl,rfl⟩ : so = ao ∧ sn = l.length ∧ sc = ac := by simpa using hv
 obtain ⟨h0,h1,h2⟩ := two_new w #[.int .i64 me,nv,av,sv,.slice so l.length sc,ov] #[.int .i64 c,.int .i64 d] 31 38
 have B := Lib.hid h0
 have HS := Lib.hid (hs.on h0)
 have X2 := Lib.hid h1
 have X3 := Lib.hid h2
 have lm := hs.most
 unfold maxLen at lm
 obtain ⟨n,hn⟩ : ∃ n,n = l.length := ⟨_,rfl⟩
 have q3 := h1.cell 4
 simp only [List.getElem?_toArray,List.getElem?_cons_zero,List.getElem?_cons_succ] at q3
 rw [← hn] at HS X2 lm q3 B X3 ⊢
 have HN := Lib.hid hn.symm
 clear h0 h1 h2 hs hv hn
 go_enter Tryz.func15,Tryz.ntmps15
 go_upto_region 1 with fail
 generalize (w.alloc (.cells #[.int .i64 me,nv,av,sv,.slice so n sc,ov] 31)).alloc (.cells #[.int .i64 c,.int .i64 d] 38) = W at *
 go_wp2
 go_loopw [12] (fun i wr => ∃ k : Nat,k ≤ n ∧ i = .int .i64 k ∧ Below W.heap.size W wr ∧ ∀ (j : Nat) (y : En),j < k → m[j]? = some y → covE (c,d) p' y = false) (fun i _ => n - (intOf i).toNat)
 case atStart => exact ⟨0,Nat.zero_le _,rfl,Below.refl _ _,fun j y h => by omega⟩
 case round =>
  obtain ⟨k,hk,rfl,hbe,hall⟩ := hrel
  have BE := Lib.hid hbe
  have AL := Lib.hid hall
  clear hbe hall
  by_cases hlt : k < n
  ·obtain ⟨y,hy⟩ : ∃ y,l[k]? = some y := ⟨_,List.getElem?_eq_getElem (by rw [HN.out]; exact hlt)⟩
   obtain ⟨p,ix,px⟩ := elN HS.out rfl HN.out hy
   obtain ⟨p0,p1,p2,p3,p4,p5,p6⟩ := px wr BE.out
   obtain ⟨y1,y2,y3,y4,⟨yo,yn,yc⟩,y6,y7⟩ := y
   simp only at p0 p1 p2 p3 p4 p5 p6
   have NB := Lib.hid (newB wr (.cells #[.int .i64 y1,.int .i64 y2,.int .i64 y3,.int .i64 y4,.slice yo yn yc,.int .i64 y6,.bool y7] 43))
   obtain ⟨x0,x1⟩ := ((X3.out.on BE.out).on NB.out).cs2
   have hw3 : IntKind.i64.wrap ((k : Int) + 1) = (k : Int) + 1 := IntWalk.i64_in _ (by omega)
   obtain ⟨me_,hm,hin⟩ := at_left HU.out k _ hy
   obtain ⟨r,hr⟩ : ∃ r,(y1 == c && y2 == d) = r := ⟨_,rfl⟩
   obtain ⟨t,ht⟩ : ∃ r,coversC me_.p p' = r := ⟨_,rfl⟩
   have he := eqId y1 y2 c d r hr
   have HV := Lib.hid (show covE (c,d) p' me_ = (r && (y7 && t)) by
    rw [← hr,← ht]
    unfold covE
    rw [← hin.1,← hin.2.2.2.1]
    by_cases g1 : y1 = c <;> by_cases g2 : y2 = d <;> simp [g1,g2])
   have HM := Lib.hid hm
   have CV := Lib.hid (fun W' (hb' : Below w.heap.size w W') => (covers_c (.slice yo yn yc) (.slice pa pn pc) me_.p p' W' (hin.2.2.2.2.on hb') (HP.out.on hb') (OK.out _ (List.mem_of_getElem? hm)) OP.out))
   rw [ht] at CV
   clear px hy hr ht hm hin
   cases r
   ·go_wp2
    go_roundw
    case rel => exact ⟨k + 1,by omega,by go_num,BE.out.trans (NB.out.mono BE.out.size),fun j y' hj h1 => by
     rcases Nat.lt_or_ge j k with h3 | h3
     ·exact AL.out j y' h3 h1
     ·obtain rfl : j = k := by omega
      have e1 := HM.out
      rw [h1] at e1
      rw [Option.some.inj e1]
      exact HV.out.trans (by simp)⟩
    case measure => simp [intOf]; omega
   ·cases y7
    ·go_wp2
     go_roundw
     case rel => exact ⟨k + 1,by omega,by go_num,BE.out.trans (NB.out.mono BE.out.size),fun j y' hj h1 => by
     rcases Nat.lt_or_ge j k with h3 | h3
     ·exact AL.out j y' h3 h1
     ·obtain rfl : j = k := by omega
      have e1 := HM.out
      rw [h1] at e1
      rw [Option.some.inj e1]
      exact HV.out.trans (by simp)⟩
     case measure => simp [intOf]; omega
    ·have BF := Lib.hid (BE.out.trans (NB.out.mono BE.out.size))
     have CW := Lib.hid (CV.out _ (B.out.trans (BF.out.mono B.out.size)))
     clear CV
     go_wp2_with fail
     refine CW.out.mono ?_
     rintro e3 w3 ⟨rfl,hb⟩
     have BG := Lib.hid (BF.out.trans (hb.mono BF.out.size))
     clear CW hb x0 x1 p0 p1 p2 p3 p4 p5 p6 ix he
     cases t
     ·go_wp2
      go_roundw
      case rel => exact ⟨k + 1,by omega,by go_num,BG.out,fun j y' hj h1 => by
     rcases Nat.lt_or_ge j k with h3 | h3
     ·exact AL.out j y' h3 h1
     ·obtain rfl : j = k := by omega
      have e1 := HM.out
      rw [h1] at e1
      rw [Option.some.inj e1]
      exact HV.out.trans (by simp)⟩
      case measure => simp [intOf]; omega
     ·go_wp2
      go_ret
      have hd : coveredE m (c,d) p' = true := by
       unfold coveredE
       rw [List.any_eq_true]
       exact ⟨me_,List.mem_of_getElem? HM.out,HV.out.trans (by simp)⟩
      exact ⟨by rw [hd]; rfl,B.out.trans (BG.out.mono B.out.size)⟩
  ·obtain rfl : k = n := by omega
   go_wp2
   go_ret
   have hd : coveredE m (c,d) p' = false := by
    unfold coveredE
    rw [List.any_eq_false]
    intro e he
    obtain ⟨j,hj,hje⟩ := List.getElem_of_mem he
    have h9 := AL.out j e (by rw [← HN.out,HU.out.len]; exact hj) (by rw [List.getElem?_eq_getElem hj,hje])
    simpa using h9
   exact ⟨by rw [hd]; rfl,B.out.trans (BE.out.mono B.out.size)⟩
def findK {κ : Type} [DecidableEq κ] : List κ → κ → Int
 | [],_ => -1
 | a :: l,x => if a = x then 0 else if findK l x = -1 then -1 else findK l x + 1
theorem findK_none {κ : Type} [DecidableEq κ] (l : List κ) (x : κ) (h : ∀ (j : Nat) (y : κ),l[j]? = some y → y ≠ x) : findK l x = -1 := by
 induction l with
 | nil => rfl
 | cons a l ih => rw [findK,if_neg (h 0 a rfl),ih fun j y hj => h (j + 1) y (by simpa using hj),if_pos rfl]
theorem findK_at {κ : Type} [DecidableEq κ] (l : List κ) (k : Nat) (x : κ) (h : l[k]? = some x) (hall : ∀ (j : Nat) (z : κ),j < k → l[j]? = some z → z ≠ x) : findK l x = k := by
 induction l generalizing k with
 | nil => simp at h
 | cons a l ih =>
  cases k with
  | zero =>
   obtain rfl : a = x := by simpa using h
   rw [findK,if_pos rfl]
   rfl
  | succ k =>
   have h2 := ih k (by simpa using h) fun j z hj hz => hall (j + 1) z (by omega) (by simpa using hz)
   rw [findK,if_neg (hall 0 a (by omega) rfl),h2,if_neg (by omega)]
   omega
theorem findK_or {κ : Type} [DecidableEq κ] (l : List κ) (x : κ) : findK l x = -1 ∨ ∃ k : Nat,findK l x = k ∧ l[k]? = some x := by
 induction l with
 | nil => exact Or.inl rfl
 | cons a l ih =>
  rw [findK]
  by_cases h : a = x
  ·rw [if_pos h]
   exact Or.inr ⟨0,rfl,by rw [h]; rfl⟩
  ·rw [if_neg h]
   rcases ih with h2 | ⟨k,h2,h3⟩
   ·rw [if_pos h2]
    exact Or.inl rfl
   ·rw [if_neg (by omega),h2]
    exact Or.inr ⟨k + 1,by omega,by simpa using h3⟩
abbrev keyN (e : XEn) : Id × Id := ((e.1,e.2.1),(e.2.2.1,e.2.2.2.1))
theorem rentry_any (me : Int) (nv av sv ov : Value) (ev : Sl) (l : List XEn) (x z : Id) (w : World) (hs : RowN w (slv ev) l) :
  Calls Tryz.prog 79 #[.agg #[.int .i64 me,nv,av,sv,slv ev,ov],idv x,idv z] w fun e w' => e = .returned (.int .i64 (findK (l.map keyN) (x,z))) ∧ Below w.heap.size w w' := by
 obtain ⟨c,d⟩ := x
 obtain ⟨g,h⟩ := z
 obtain ⟨so,sn,sc⟩ := ev
 obtain ⟨ao,ac,hv⟩ := hs.len
 have hv : Value.slice so sn sc = .slice ao l.length ac := hv
 obtain ⟨rfl,rfl,rfl⟩ : so = ao ∧ sn = l.length ∧ sc = ac := by simpa using hv
 obtain ⟨h0,h1,h2,h3⟩ := three_new w #[.int .i64 me,nv,av,sv,.slice so l.length sc,ov] #[.int .i64 c,.int .i64 d] #[.int .i64 g,.int .i64 h] 31 38 38
 have B := Lib.hid h0
 have HS := Lib.hid (hs.on h0)
 have X2 := Lib.hid h1
 have X3 := Lib.hid h2
 have X4 := Lib.hid h3
 have lm := hs.most
 unfold maxLen at lm
 obtain ⟨n,hn⟩ : ∃ n,n = l.length := ⟨_,rfl⟩
 have q3 := h1.cell 4
 simp only [List.getElem?_toArray,List.getElem?_cons_zero,List.getElem?_cons_succ] at q3
 rw [← hn] at HS X2 lm q3 B X3 X4 ⊢
 have HN := Lib.hid hn.symm
 clear h0 h1 h2 h3 hs hv hn
 go_enter Tryz.func79,Tryz.ntmps79
 go_upto_region 1 with fail
 generalize ((w.alloc (.cells #[.int .i64 me,nv,av,sv,.slice so n sc,ov] 31)).alloc (.cells #[.int .i64 c,.int .i64 d] 38)).alloc (.cells #[.int .i64 g,.int .i64 h] 38) = W at *
 go_wp2
 go_loopw [12] (fun i wr => ∃ k : Nat,k ≤ n ∧ i = .int .i64 k ∧ Below W.heap.size W wr ∧ ∀ (j : Nat) (y : XEn),j < k → l[j]? = some y → keyN y ≠ ((c,d),(g,h))) (fun i _ => n - (intOf i).toNat)
 case atStart => exact ⟨0,Nat.zero_le _,rfl,Below.refl _ _,fun j y h => by omega⟩
 case round =>
  obtain ⟨k,hk,rfl,hbe,hall⟩ := hrel
  have BE := Lib.hid hbe
  have AL := Lib.hid hall
  clear hbe hall
  by_cases hlt : k < n
  ·obtain ⟨y,hy⟩ : ∃ y,l[k]? = some y := ⟨_,List.getElem?_eq_getElem (by rw [HN.out]; exact hlt)⟩
   obtain ⟨p,ix,px⟩ := elN HS.out rfl HN.out hy
   obtain ⟨p0,p1,p2,p3,p4,p5,p6⟩ := px wr BE.out
   obtain ⟨y1,y2,y3,y4,⟨yo,yn,yc⟩,y6,y7⟩ := y
   simp only at p0 p1 p2 p3 p4 p5 p6
   have NB := Lib.hid (newB wr (.cells #[.int .i64 y1,.int .i64 y2,.int .i64 y3,.int .i64 y4,.slice yo yn yc,.int .i64 y6,.bool y7] 43))
   obtain ⟨x0,x1⟩ := ((X3.out.on BE.out).on NB.out).cs2
   obtain ⟨z0,z1⟩ := ((X4.out.on BE.out).on NB.out).cs2
   have hw3 : IntKind.i64.wrap ((k : Int) + 1) = (k : Int) + 1 := IntWalk.i64_in _ (by omega)
   obtain ⟨r,hr⟩ : ∃ r,(y1 == c && y2 == d) = r := ⟨_,rfl⟩
   obtain ⟨t,ht⟩ : ∃ r,(y3 == g && y4 == h) = r := ⟨_,rfl⟩
   have he := eqId y1 y2 c d r hr
   have hf := eqId y3 y4 g h t ht
   have HY := Lib.hid hy
   have HR := Lib.hid hr
   have HT := Lib.hid ht
   clear px hy hr ht
   cases r
   ·go_wp2
    go_roundw
    case rel => exact ⟨k + 1,by omega,by go_num,BE.out.trans (NB.out.mono BE.out.size),fun j y' hj h1 => by
     rcases Nat.lt_or_ge j k with h3 | h3
     ·exact AL.out j y' h3 h1
     ·obtain rfl : j = k := by omega
      have e1 := HY.out
      rw [h1] at e1
      rw [Option.some.inj e1]
      intro e
      obtain ⟨⟨rfl,rfl⟩,_⟩ : (y1 = c ∧ y2 = d) ∧ (y3 = g ∧ y4 = h) := by simpa [keyN] using e
      have := HR.out
      simp at this⟩
    case measure => simp [intOf]; omega
   ·cases t
    ·go_wp2
     go_roundw
     case rel => exact ⟨k + 1,by omega,by go_num,BE.out.trans (NB.out.mono BE.out.size),fun j y' hj h1 => by
      rcases Nat.lt_or_ge j k with h3 | h3
      ·exact AL.out j y' h3 h1
      ·obtain rfl : j = k := by omega
       have e1 := HY.out
       rw [h1] at e1
       rw [Option.some.inj e1]
       intro e
       obtain ⟨_,rfl,rfl⟩ : (y1 = c ∧ y2 = d) ∧ (y3 = g ∧ y4 = h) := by simpa [keyN] using e
       have := HT.out
       simp at this⟩
     case measure => simp [intOf]; omega
    ·go_wp2
     go_ret
     have h8 := HR.out
     have h9 := HT.out
     obtain ⟨rfl,rfl⟩ : y1 = c ∧ y2 = d := by simpa using h8
     obtain ⟨rfl,rfl⟩ : y3 = g ∧ y4 = h := by simpa using h9
     exact ⟨by rw [findK_at (l.map keyN) k ((y1,y2),(y3,y4)) (by rw [List.getElem?_map,HY.out]; rfl) (fun j z hj hz => by
      rw [List.getElem?_map] at hz
      cases hl : l[j]? with
      | none => rw [hl] at hz; cases hz
      | some q =>
       rw [hl] at hz
       have hz : keyN q = z := Option.some.inj hz
       rw [← hz]
       exact AL.out j q hj hl)]; rfl,B.out.trans ((BE.out.trans (NB.out.mono BE.out.size)).mono B.out.size)⟩
  ·obtain rfl : k = n := by omega
   go_wp2
   go_ret
   have hd : findK (l.map keyN) ((c,d),(g,h)) = -1 := findK_none _ _ fun j z hz => by
    rw [List.getElem?_map] at hz
    cases hl : l[j]? with
    | none => rw [hl] at hz; cases hz
    | some q =>
     rw [hl] at hz
     have hz : keyN q = z := Option.some.inj hz
     rw [← hz]
     exact AL.out j q (by rw [← HN.out]; exact (List.getElem?_eq_some_iff.1 hl).1) hl
   exact ⟨by rw [hd]; rfl,B.out.trans (BE.out.mono B.out.size)⟩
end Go.Proofs.YtncogjpmboglhaaGreat.Bk
namespace Go.Proofs.YtncogjpmboglhaaGreat.Bk
open Go.RowKit Go.Sort Rw YtncogjpmboglhaaGreat.Nm Pr
theorem place_isG {κ : Type} (f : κ → Bool) (l : List κ) (k : Nat) (hall : ∀ (j : Nat) (y : κ),j < k → l[j]? = some y → f y = true) (hend : k = l.length ∨ ∃ y,l[k]? = some y ∧ f y = false) : (l.takeWhile f).length = k := by
 induction l generalizing k with
 | nil =>
  rcases hend with h | ⟨y,h,_⟩
  ·rw [h]; rfl
  ·simp at h
 | cons a l ih =>
  cases k with
  | zero =>
   rcases hend with h | ⟨y,h,h2⟩
   ·simp at h
   ·obtain rfl : a = y := by simpa using h
    rw [List.takeWhile_cons,h2]
    rfl
  | succ k =>
   have h0 := hall 0 a (by omega) rfl
   rw [List.takeWhile_cons,h0]
   simp only [if_true,List.length_cons]
   rw [ih k (fun j y hj hy => hall (j + 1) y (by omega) (by simpa using hy)) (by
    rcases hend with h | ⟨y,h,h2⟩
    ·exact Or.inl (by simpa using h)
    ·exact Or.inr ⟨y,by simpa using h,h2⟩)]
def lessP (a b : Id × Id) : Bool := lessI a.1 b.1 || (eqI a.1 b.1 && lessI a.2 b.2)
def placeP (l : List (Id × Id)) (x : Id × Id) : Nat := (l.takeWhile fun a => lessP a x).length
noncomputable def addB0 : Code := ((Tryz.f17.body.bind (findBlock 0)).getD .skip)
theorem add_b0 (Q : Exit → Act → World → Prop) (W : World) (b2 b3 : Nat) (me c d g h : Int) (y1_ y2_ y3_ y5_ p3' p4' p5' : Value) (so : Option Addr) (n sc : Nat) (l : List XEn) (u0 u1 u4 u5 u6 u8 u9 u10 u11 u12 u13 u14 u15 u16 u17 u18 u19 u20 u21 u22 u23 u24 u25 u26 u27 u28 u29 u30 u31 u32 u33 u34 u35 u36 u37 u38 u39 u40 u41 u42 u43 u44 u45 u46 u47 u48 u49 u50 u51 u52 u53 u54 u55 u56 u57 u58 u59 u60 u61 u62 u63 u64 u65 u66 u67 u68 u69 u70 u71 u72 u73 u74 u75 u76 u77 u78 u79 u80 u81 u82 u83 u84 u85 u86 u87 u88 u89 u90 u91 u92 u93 u94 u95 u96 u97 u98 u99 u100 u101 u102 u103 u104 u105 u106 u107 u108 u109 u110 u111 u112 u113 u114 : Value)
  (h2 : Box W b2 #[.int .i64 me,y1_,y2_,y3_,.slice so n sc,y5_] 31) (h3 : Box W b3 #[.int .i64 c,.int .i64 d,.int .i64 g,.int .i64 h,p3',p4',p5'] 43) (hs : RowN W (.slice so n sc) l) (hn : n = l.length) (hm : n ≤ 1000000)
  (hQ : ∀ (wr : World) (v57 v58 v59 v60 v61 v62 v63 v64 v65 v66 v67 v68 v69 v70 v71 v72 v73 v74 v75 v76 v77 v78 v79 v80 v81 v82 v83 v84 v85 v86 v87 v88 v89 v90 v91 v92 v93 v94 v95 v96 : Value),Below W.heap.size W wr → Q .normal ⟨(u0 :: u1 :: .pointer (some ⟨b2,0,none⟩) :: .pointer (some ⟨b3,0,none⟩) :: u4 :: u5 :: u6 :: .int .i64 (placeP (l.map keyN) ((c,d),(g,h)) : Nat) :: u8 :: u9 :: u10 :: u11 :: u12 :: u13 :: u14 :: u15 :: u16 :: u17 :: u18 :: u19 :: u20 :: u21 :: u22 :: u23 :: u24 :: u25 :: u26 :: u27 :: u28 :: u29 :: u30 :: u31 :: u32 :: u33 :: u34 :: u35 :: u36 :: u37 :: u38 :: u39 :: u40 :: u41 :: u42 :: u43 :: u44 :: u45 :: u46 :: u47 :: u48 :: u49 :: u50 :: u51 :: u52 :: u53 :: u54 :: u55 :: u56 :: v57 :: v58 :: v59 :: v60 :: v61 :: v62 :: v63 :: v64 :: v65 :: v66 :: v67 :: v68 :: v69 :: v70 :: v71 :: v72 :: v73 :: v74 :: v75 :: v76 :: v77 :: v78 :: v79 :: v80 :: v81 :: v82 :: v83 :: v84 :: v85 :: v86 :: v87 :: v88 :: v89 :: v90 :: v91 :: v92 :: v93 :: v94 :: v95 :: v96 :: u97 :: u98 :: u99 :: u100 :: u101 :: u102 :: u103 :: u104 :: u105 :: u106 :: u107 :: u108 :: u109 :: u110 :: u111 :: u112 :: u113 :: u114 :: []).toArray,[]⟩ wr) :
  Code.wp Tryz.prog addB0 Q ⟨(u0 :: u1 :: .pointer (some ⟨b2,0,none⟩) :: .pointer (some ⟨b3,0,none⟩) :: u4 :: u5 :: u6 :: .int .i64 0 :: u8 :: u9 :: u10 :: u11 :: u12 :: u13 :: u14 :: u15 :: u16 :: u17 :: u18 :: u19 :: u20 :: u21 :: u22 :: u23 :: u24 :: u25 :: u26 :: u27 :: u28 :: u29 :: u30 :: u31 :: u32 :: u33 :: u34 :: u35 :: u36 :: u37 :: u38 :: u39 :: u40 :: u41 :: u42 :: u43 :: u44 :: u45 :: u46 :: u47 :: u48 :: u49 :: u50 :: u51 :: u52 :: u53 :: u54 :: u55 :: u56 :: u57 :: u58 :: u59 :: u60 :: u61 :: u62 :: u63 :: u64 :: u65 :: u66 :: u67 :: u68 :: u69 :: u70 :: u71 :: u72 :: u73 :: u74 :: u75 :: u76 :: u77 :: u78 :: u79 :: u80 :: u81 :: u82 :: u83 :: u84 :: u85 :: u86 :: u87 :: u88 :: u89 :: u90 :: u91 :: u92 :: u93 :: u94 :: u95 :: u96 :: u97 :: u98 :: u99 :: u100 :: u101 :: u102 :: u103 :: u104 :: u105 :: u106 :: u107 :: u108 :: u109 :: u110 :: u111 :: u112 :: u113 :: u114 :: []).toArray,[]⟩ W := by
 have HQ := Lib.hid hQ
 have H2 := Lib.hid h2
 have H3 := Lib.hid h3
 have HS := Lib.hid hs
 have HN := Lib.hid hn
 clear hQ h2 h3 hs hn
 conv => arg 2; whnf
 go_wp2
 go_loopw [7] (fun i wr => ∃ k : Nat,k ≤ n ∧ i = .int .i64 k ∧ Below W.heap.size W wr ∧ ∀ (j : Nat) (y : Id × Id),j < k → (l.map keyN)[j]? = some y → lessP y ((c,d),(g,h)) = true) (fun i _ => n - (intOf i).toNat)
 case atStart => exact ⟨0,Nat.zero_le _,rfl,Below.refl _ _,fun j y h => by omega⟩
 case round =>
  obtain ⟨k,hk,rfl,hbe,hall⟩ := hrel
  have BE := Lib.hid hbe
  have AL := Lib.hid hall
  clear hbe hall
  have q0 := cell_regrown (show wr.cell? ⟨b2,4,none⟩ = some (.slice so n sc) from (H2.out.on BE.out).cell 4)
  have r0 := cell_regrown (show wr.cell? ⟨b3,0,none⟩ = some (.int .i64 c) from (H3.out.on BE.out).cell 0)
  have r1 := cell_regrown (show wr.cell? ⟨b3,1,none⟩ = some (.int .i64 d) from (H3.out.on BE.out).cell 1)
  have r2 := cell_regrown (show wr.cell? ⟨b3,2,none⟩ = some (.int .i64 g) from (H3.out.on BE.out).cell 2)
  have r3 := cell_regrown (show wr.cell? ⟨b3,3,none⟩ = some (.int .i64 h) from (H3.out.on BE.out).cell 3)
  have hw3 : IntKind.i64.wrap ((k : Int) + 1) = (k : Int) + 1 := IntWalk.i64_in _ (by omega)
  by_cases hlt : k < n
  ·obtain ⟨y,hy⟩ : ∃ y,l[k]? = some y := ⟨_,List.getElem?_eq_getElem (by rw [← HN.out]; exact hlt)⟩
   obtain ⟨p,ix,px⟩ := elN HS.out rfl HN.out.symm hy
   have px2 := px wr BE.out
   obtain ⟨y1,y2,y3,y4,⟨yo,yn,yc⟩,y6,y7⟩ := y
   simp only at px2
   have p0 := cell_regrown px2.1
   have p1 := cell_regrown px2.2.1
   have p2 := cell_regrown px2.2.2.1
   have p3 := cell_regrown px2.2.2.2.1
   have dlt : decide ((k : Int) < (n : Int)) = true := decide_eq_true (by omega)
   have dln : decide (k < n) = true := decide_eq_true hlt
   obtain ⟨r,hr⟩ : ∃ r,lessI (y1,y2) (c,d) = r := ⟨_,rfl⟩
   obtain ⟨t,ht⟩ : ∃ r,(y1 == c && y2 == d) = r := ⟨_,rfl⟩
   obtain ⟨s,hs⟩ : ∃ r,lessI (y3,y4) (g,h) = r := ⟨_,rfl⟩
   have he := eqId y1 y2 c d t ht
   have LS := Lib.hid (fun d' os => Calls.regrown_of (d := d') (os := os) ((less_any (y1,y2) (c,d) (grow (redrawn wr d') os)).mono fun _ _ h => ⟨by rw [h.1,hr],h.2⟩))
   have LT := Lib.hid (fun d' os => Calls.regrown_of (d := d') (os := os) ((less_any (y3,y4) (g,h) (grow (redrawn wr d') os)).mono fun _ _ h => ⟨by rw [h.1,hs],h.2⟩))
   have HY := Lib.hid (show (l.map keyN)[k]? = some ((y1,y2),(y3,y4)) by rw [List.getElem?_map,hy]; rfl)
   have HV := Lib.hid (show lessP ((y1,y2),(y3,y4)) ((c,d),(g,h)) = (r || (t && s)) by rw [← hr,← ht,← hs]; rfl)
   clear px px2 hy hr ht hs
   cases r
   ·cases t
    ·have HR := Lib.hid (HV.out.trans (show _ = false by simp))
     go_wp2_with fail
     refine wp_region_quiet_below (by kernel_rfl) (by kernel_rfl) ?_
     repeat (go_big_quiet_step (first | (with_reducible exact LS.out _ _) | (with_reducible exact LT.out _ _)))
     refine wpQuiet_nil ?_
     intro _ hw'
     obtain ⟨⟨dq,osq⟩,hw''⟩ := hw'
     subst hw''
     have Z6 := below_regrown wr dq osq
     have HF := Lib.hid (fun v57 v58 v59 v60 v61 v62 v63 v64 v65 v66 v67 v68 v69 v70 v71 v72 v73 v74 v75 v76 v77 v78 v79 v80 v81 v82 v83 v84 v85 v86 v87 v88 v89 v90 v91 v92 v93 v94 v95 v96 => HQ.out (grow (redrawn wr dq) osq) v57 v58 v59 v60 v61 v62 v63 v64 v65 v66 v67 v68 v69 v70 v71 v72 v73 v74 v75 v76 v77 v78 v79 v80 v81 v82 v83 v84 v85 v86 v87 v88 v89 v90 v91 v92 v93 v94 v95 v96 (BE.out.trans (Z6.mono BE.out.size)))
     rw [show placeP (l.map keyN) ((c,d),(g,h)) = k from place_isG _ _ k AL.out (Or.inr ⟨_,HY.out,HR.out⟩)] at HF
     clear ix HQ q0 r0 r1 r2 r3 LS LT dlt dln p0 p1 p2 p3 he
     go_wp2
     exact HF.out _ _ _ _ _ _ _ _ _ _ _ _ _ _ _ _ _ _ _ _ _ _ _ _ _ _ _ _ _ _ _ _ _ _ _ _ _ _ _ _
    ·cases s
     ·have HR := Lib.hid (HV.out.trans (show _ = false by simp))
      go_wp2_with fail
      refine wp_region_quiet_below (by kernel_rfl) (by kernel_rfl) ?_
      repeat (go_big_quiet_step (first | (with_reducible exact LS.out _ _) | (with_reducible exact LT.out _ _)))
      refine wpQuiet_nil ?_
      intro _ hw'
      obtain ⟨⟨dq,osq⟩,hw''⟩ := hw'
      subst hw''
      have Z6 := below_regrown wr dq osq
      have HF := Lib.hid (fun v57 v58 v59 v60 v61 v62 v63 v64 v65 v66 v67 v68 v69 v70 v71 v72 v73 v74 v75 v76 v77 v78 v79 v80 v81 v82 v83 v84 v85 v86 v87 v88 v89 v90 v91 v92 v93 v94 v95 v96 => HQ.out (grow (redrawn wr dq) osq) v57 v58 v59 v60 v61 v62 v63 v64 v65 v66 v67 v68 v69 v70 v71 v72 v73 v74 v75 v76 v77 v78 v79 v80 v81 v82 v83 v84 v85 v86 v87 v88 v89 v90 v91 v92 v93 v94 v95 v96 (BE.out.trans (Z6.mono BE.out.size)))
      rw [show placeP (l.map keyN) ((c,d),(g,h)) = k from place_isG _ _ k AL.out (Or.inr ⟨_,HY.out,HR.out⟩)] at HF
      clear ix HQ q0 r0 r1 r2 r3 LS LT dlt dln p0 p1 p2 p3 he
      go_wp2
      exact HF.out _ _ _ _ _ _ _ _ _ _ _ _ _ _ _ _ _ _ _ _ _ _ _ _ _ _ _ _ _ _ _ _ _ _ _ _ _ _ _ _
     ·have HR := Lib.hid (HV.out.trans (show _ = true by simp))
      go_wp2_with fail
      refine wp_region_quiet_below (by kernel_rfl) (by kernel_rfl) ?_
      repeat (go_big_quiet_step (first | (with_reducible exact LS.out _ _) | (with_reducible exact LT.out _ _)))
      refine wpQuiet_nil ?_
      intro _ hw'
      obtain ⟨⟨dq,osq⟩,hw''⟩ := hw'
      subst hw''
      have Z6 := Lib.hid (below_regrown wr dq osq)
      clear ix q0 r0 r1 r2 r3 LS LT dlt dln p0 p1 p2 p3 he
      go_wp2
      go_roundw
      case rel => exact ⟨k + 1,by omega,by go_num,BE.out.trans (Z6.out.mono BE.out.size),fun j y' hj h1 => by
       rcases Nat.lt_or_ge j k with h3 | h3
       ·exact AL.out j y' h3 h1
       ·obtain rfl : j = k := by omega
        have e1 := HY.out
        rw [h1] at e1
        rw [Option.some.inj e1]
        exact HR.out⟩
      case measure => simp [intOf]; omega
   ·have HR := Lib.hid (HV.out.trans (show _ = true by simp))
    go_wp2_with fail
    refine wp_region_quiet_below (by kernel_rfl) (by kernel_rfl) ?_
    repeat (go_big_quiet_step (first | (with_reducible exact LS.out _ _) | (with_reducible exact LT.out _ _)))
    refine wpQuiet_nil ?_
    intro _ hw'
    obtain ⟨⟨dq,osq⟩,hw''⟩ := hw'
    subst hw''
    have Z6 := Lib.hid (below_regrown wr dq osq)
    clear ix q0 r0 r1 r2 r3 LS LT dlt dln p0 p1 p2 p3 he
    go_wp2
    go_roundw
    case rel => exact ⟨k + 1,by omega,by go_num,BE.out.trans (Z6.out.mono BE.out.size),fun j y' hj h1 => by
     rcases Nat.lt_or_ge j k with h3 | h3
     ·exact AL.out j y' h3 h1
     ·obtain rfl : j = k := by omega
      have e1 := HY.out
      rw [h1] at e1
      rw [Option.some.inj e1]
      exact HR.out⟩
    case measure => simp [intOf]; omega
  ·obtain rfl : n = k := by omega
   have dlt : decide ((n : Int) < (n : Int)) = false := by simp
   have dln : decide (n < n) = false := by simp
   go_wp2_with fail
   refine wp_region_quiet_below (by kernel_rfl) (by kernel_rfl) ?_
   repeat (go_big_quiet_step (fail))
   refine wpQuiet_nil ?_
   intro _ hw'
   obtain ⟨⟨dq,osq⟩,hw''⟩ := hw'
   subst hw''
   have Z6 := below_regrown wr dq osq
   have HF := Lib.hid (fun v57 v58 v59 v60 v61 v62 v63 v64 v65 v66 v67 v68 v69 v70 v71 v72 v73 v74 v75 v76 v77 v78 v79 v80 v81 v82 v83 v84 v85 v86 v87 v88 v89 v90 v91 v92 v93 v94 v95 v96 => HQ.out (grow (redrawn wr dq) osq) v57 v58 v59 v60 v61 v62 v63 v64 v65 v66 v67 v68 v69 v70 v71 v72 v73 v74 v75 v76 v77 v78 v79 v80 v81 v82 v83 v84 v85 v86 v87 v88 v89 v90 v91 v92 v93 v94 v95 v96 (BE.out.trans (Z6.mono BE.out.size)))
   rw [show placeP (l.map keyN) ((c,d),(g,h)) = n from place_isG _ _ n AL.out (Or.inl (by simpa using HN.out))] at HF
   clear HQ q0 r0 r1 r2 r3 dlt dln
   go_wp2
   exact HF.out _ _ _ _ _ _ _ _ _ _ _ _ _ _ _ _ _ _ _ _ _ _ _ _ _ _ _ _ _ _ _ _ _ _ _ _ _ _ _ _
abbrev keyE (e : En) : Id × Id := (e.tree,e.sub)
theorem keys_eq {W : World} {l : List XEn} {m : List En} (h : All2 (EnIn W) l m) : l.map keyN = m.map keyE := by
 induction h with
 | nil => rfl
 | cons x t ih => rw [List.map_cons,List.map_cons,ih,show keyN _ = keyE _ from Prod.ext x.1 x.2.1]
def addB (b : Br) (e : En) : Br × Bool := match b.adv[(findI (b.adv.map Ad.id) e.tree).toNat]? with
 | none => (b,false)
 | some a => if findI (b.adv.map Ad.id) e.tree = -1 then (b,false) else if findK (b.ent.map keyE) (keyE e) ≠ -1 then (b,false) else if e.from_ ≠ -1 ∧ e.from_ = a.par then (b,false) else
  ({ b with ent := insAt b.ent (placeP (b.ent.map keyE) (keyE e)) { e with up := decide (a.par ≠ -1) && !coveredE b.ent e.tree e.p } },decide (a.par ≠ -1) && !coveredE b.ent e.tree e.p)
theorem placeP_le (l : List (Id × Id)) (x : Id × Id) : placeP l x ≤ l.length := by
 unfold placeP
 exact (List.takeWhile_sublist _).length_le
theorem box_sevenN {W : World} {b : Nat} {c d g h f : Int} {p : Sl} {u : Bool} (hb : Box W b #[.int .i64 c,.int .i64 d,.int .i64 g,.int .i64 h,slv p,.int .i64 f,.bool u] 43) : ∀ x,Below W.heap.size W x → ∀ j v,(cellsN (c,d,g,h,p,f,u))[j]? = some v → x.cell? ((⟨b,0,none⟩ : Addr).add j) = some v := by
 intro x hx j v hj
 rw [add_own,(hb.on hx).cell]
 match j with
 | 0 => exact hj
 | 1 => exact hj
 | 2 => exact hj
 | 3 => exact hj
 | 4 => exact hj
 | 5 => exact hj
 | 6 => exact hj
 | j + 7 => simp at hj
theorem radd2_any (b : Br) (nv av sv ev ov : Sl) (z : XEn) (e : En) (w : World) (es : List XEn) (R : XEn → En → Prop) (h_ : BrIn w b nv av sv ev ov) (he1 : RowN w (slv ev) es) (he2 : All2 (EnIn w) es b.ent) (hr2 : All2 R es b.ent) (hrz : ∀ u,R (z.1,z.2.1,z.2.2.1,z.2.2.2.1,z.2.2.2.2.1,z.2.2.2.2.2.1,u) { e with up := u }) (hz : EnIn w z e) (l2 : b.adv.length ≤ 900) (l3 : b.ent.length ≤ 900) (hok : ∀ e ∈ b.ent,PredOk e.p) (hop : PredOk e.p) :
  Calls Tryz.prog 17 #[brv b.me nv av sv ev ov,valN z] w fun e' w' => (∃ (ev' : Sl) (xs : List XEn),e' = .returned (.tuple #[brv b.me nv av sv ev' ov,.bool (addB b e).2]) ∧ ((ev' = ev ∧ xs = es ∧ (addB b e).1 = b) ∨ OwnN w' w.heap.size (slv ev') xs) ∧ All2 R xs (addB b e).1.ent) ∧ Below w.heap.size w w' := by
 obtain ⟨no,nn,nc⟩ := nv
 obtain ⟨ao,an,ac⟩ := av
 obtain ⟨so,sn,sc⟩ := sv
 obtain ⟨eo,en,ec⟩ := ev
 obtain ⟨oo,on_,oc⟩ := ov
 obtain ⟨c,d,g,h,⟨po,pn,pc⟩,fr,up0⟩ := z
 obtain ⟨⟨tc,td⟩,⟨sg,sh⟩,p',fr',up'⟩ := e
 obtain ⟨hz1,hz2,hz3,hz4,hz5⟩ := hz
 obtain ⟨rfl,rfl⟩ : c = tc ∧ d = td := by simpa using hz1
 obtain ⟨rfl,rfl⟩ : g = sg ∧ h = sh := by simpa using hz2
 obtain rfl : fr = fr' := hz3
 obtain rfl : up0 = up' := hz4
 have HP := Lib.hid hz5
 have HR2 := Lib.hid hr2
 have HRZ := Lib.hid hrz
 clear hr2 hrz
 obtain ⟨xs,hx1,hx2⟩ := h_.adv
 have IDS := Lib.hid (ids_eq hx2)
 have KYS := Lib.hid (keys_eq he2)
 have XL := Lib.hid (show xs.length ≤ 900 by rw [hx2.len]; exact l2)
 have EL := Lib.hid (show es.length ≤ 900 by rw [he2.len]; exact l3)
 have HA2 := Lib.hid hx2
 have HE2 := Lib.hid he2
 have OK := Lib.hid hok
 have OP := Lib.hid hop
 obtain ⟨q1,q2,hq⟩ := hx1.len
 obtain ⟨rfl,rfl,rfl⟩ : ao = q1 ∧ an = xs.length ∧ ac = q2 := by
  have : Value.slice ao an ac = .slice q1 xs.length q2 := hq
  simpa using this
 clear hq
 obtain ⟨q1,q2,hq⟩ := he1.len
 obtain ⟨rfl,rfl,rfl⟩ : eo = q1 ∧ en = es.length ∧ ec = q2 := by
  have : Value.slice eo en ec = .slice q1 es.length q2 := hq
  simpa using this
 clear hq
 have FD := rfind_any b.me (.slice no nn nc) (.slice eo es.length ec) (.slice so sn sc) (.slice oo on_ oc) (ao,xs.length,ac) xs (c,d)
 have EN := rentry_any b.me (.slice no nn nc) (.slice ao xs.length ac) (.slice so sn sc) (.slice oo on_ oc) (eo,es.length,ec) es (c,d) (g,h)
 have CV := fun W hb' => rcovered_any b.me (.slice no nn nc) (.slice ao xs.length ac) (.slice so sn sc) (.slice oo on_ oc) (eo,es.length,ec) es b.ent (c,d) (.slice po pn pc) p' W (he1.on (show Below w.heap.size w W from hb')) (he2.mono fun _ _ h => h.on hb') (hz5.on hb') hok hop
 have HH := Lib.hid h_
 obtain ⟨h0,h1,h2,h3⟩ := three_new w #[.int .i64 b.me,.slice no nn nc,.slice ao xs.length ac,.slice so sn sc,.slice eo es.length ec,.slice oo on_ oc] #[.int .i64 c,.int .i64 d,.int .i64 g,.int .i64 h,.slice po pn pc,.int .i64 fr,.bool up0] #[.int .i64 0,.slice none 0 0,.slice none 0 0,.slice none 0 0,.slice none 0 0,.slice none 0 0] 31 43 31
 obtain ⟨n2,hn2⟩ : ∃ n,n = xs.length := ⟨_,rfl⟩
 obtain ⟨n3,hn3⟩ : ∃ n,n = es.length := ⟨_,rfl⟩
 simp only [← hn2,← hn3] at h0 h1 h2 h3 hx1 he1 HH FD EN CV ⊢
 have B0 := Lib.hid h0
 have X2 := Lib.hid h1
 have X3 := Lib.hid h2
 have X5 := Lib.hid h3
 have HS := Lib.hid hx1
 have HE := Lib.hid he1
 have N2 := Lib.hid hn2
 have N3 := Lib.hid hn3
 obtain ⟨me,hme⟩ : ∃ me,me = b.me := ⟨_,rfl⟩
 simp only [← hme] at X2 B0 X3 X5 FD EN CV ⊢
 have EN := Lib.hid EN
 have CV := Lib.hid CV
 clear h0 h1 h2 h3 hx1 he1 hx2 he2 h_ hn2 hn3 l2 l3 hme hz1 hz2 hz5 hok hop
 show Calls Tryz.prog 17 #[.agg #[.int .i64 me,.slice no nn nc,.slice ao n2 ac,.slice so sn sc,.slice eo n3 ec,.slice oo on_ oc],.agg #[.int .i64 c,.int .i64 d,.int .i64 g,.int .i64 h,.slice po pn pc,.int .i64 fr,.bool up0]] w _
 go_enter Tryz.func17,Tryz.ntmps17
 go_upto_region 1 with fail
 generalize (((w.alloc (.cells #[.int .i64 me,.slice no nn nc,.slice ao n2 ac,.slice so sn sc,.slice eo n3 ec,.slice oo on_ oc] 31)).alloc (.cells #[.int .i64 c,.int .i64 d,.int .i64 g,.int .i64 h,.slice po pn pc,.int .i64 fr,.bool up0] 43)).alloc (.cells #[.int .i64 0,.slice none 0 0,.slice none 0 0,.slice none 0 0,.slice none 0 0,.slice none 0 0] 31)) = W at *
 have SW := Lib.hid (FD W (HS.out.on B0.out))
 clear FD
 have x_ := X2.out
 have y_ := X3.out
 obtain ⟨x0,x1,x2,x3,x4,x5⟩ := x_.cs6
 obtain ⟨y0,y1,y2,y3,y4,y5,y6⟩ := y_.cs7
 clear x_ y_
 go_wp2_with fail
 refine SW.out.mono ?_
 rintro e1 w1 ⟨rfl,hb⟩
 have B1 := Lib.hid (B0.out.trans (hb.mono B0.out.size))
 have Y2 := Lib.hid (X2.out.on hb)
 have Y3 := Lib.hid (X3.out.on hb)
 have Y5 := Lib.hid (X5.out.on hb)
 clear SW hb X2 X3 X5 x0 x1 x2 x3 x4 x5 y0 y1 y2 y3 y4 y5 y6
 have a0 := cell_regrown (show w1.cell? ⟨w.heap.size,0,none⟩ = some (.int .i64 me) from Y2.out.cell 0)
 have a1 := cell_regrown (show w1.cell? ⟨w.heap.size,1,none⟩ = some (.slice no nn nc) from Y2.out.cell 1)
 have a2 := cell_regrown (show w1.cell? ⟨w.heap.size,2,none⟩ = some (.slice ao n2 ac) from Y2.out.cell 2)
 have a3 := cell_regrown (show w1.cell? ⟨w.heap.size,3,none⟩ = some (.slice so sn sc) from Y2.out.cell 3)
 have a4 := cell_regrown (show w1.cell? ⟨w.heap.size,4,none⟩ = some (.slice eo n3 ec) from Y2.out.cell 4)
 have a5 := cell_regrown (show w1.cell? ⟨w.heap.size,5,none⟩ = some (.slice oo on_ oc) from Y2.out.cell 5)
 have b0 := cell_regrown (show w1.cell? ⟨w.heap.size + 1,0,none⟩ = some (.int .i64 c) from Y3.out.cell 0)
 have b1 := cell_regrown (show w1.cell? ⟨w.heap.size + 1,1,none⟩ = some (.int .i64 d) from Y3.out.cell 1)
 have b2 := cell_regrown (show w1.cell? ⟨w.heap.size + 1,2,none⟩ = some (.int .i64 g) from Y3.out.cell 2)
 have b3 := cell_regrown (show w1.cell? ⟨w.heap.size + 1,3,none⟩ = some (.int .i64 h) from Y3.out.cell 3)
 have b4 := cell_regrown (show w1.cell? ⟨w.heap.size + 1,4,none⟩ = some (.slice po pn pc) from Y3.out.cell 4)
 have b5 := cell_regrown (show w1.cell? ⟨w.heap.size + 1,5,none⟩ = some (.int .i64 fr) from Y3.out.cell 5)
 have b6 := cell_regrown (show w1.cell? ⟨w.heap.size + 1,6,none⟩ = some (.bool up0) from Y3.out.cell 6)
 have CE := Lib.hid (fun d os => Calls.regrown_of (d := d) (os := os) (EN.out _ ((HE.out.on B1.out).on (below_regrown w1 d os))))
 clear EN
 rcases find_or xs (c,d) with hf | ⟨k,y,hf,hy⟩
 ·have LB := Lib.hid (show addB b ⟨(c,d),(g,h),p',fr,up0⟩ = (b,false) by
   have hf' := hf
   rw [IDS.out] at hf'
   unfold addB
   simp only
   rw [hf']
   split
   ·rfl
   ·rw [if_pos rfl])
  rw [hf]
  clear hf
  go_upto_region 2 with fail
  refine wp_region_quiet_below (by kernel_rfl) (by kernel_rfl) ?_
  repeat (go_big_quiet_step (fail))
  refine wpQuiet_nil ?_
  intro _ hw'
  obtain ⟨⟨dq,osq⟩,hw''⟩ := hw'
  subst hw''
  have Z6 := below_regrown w1 dq osq
  have B2 := Lib.hid (B1.out.trans (Z6.mono B1.out.size))
  have Z2 := Lib.hid (Y2.out.on Z6)
  have Z3 := Lib.hid (Y3.out.on Z6)
  have Z5 := Lib.hid (Y5.out.on Z6)
  clear Z6 B1 Y2 Y3 Y5 a0 a1 a2 a3 a4 a5 b0 b1 b2 b3 b4 b5 b6
  generalize grow (redrawn w1 dq) osq = w2 at *
  have FB := Lib.hid (setB_box Z5.out (.int .i64 me) (.slice no nn nc) (.slice ao n2 ac) (.slice so sn sc) (.slice eo n3 ec) (.slice oo on_ oc))
  have BL := Lib.hid (setB_below (b := w.heap.size + 1 + 1) B2.out (by omega) (.int .i64 me) (.slice no nn nc) (.slice ao n2 ac) (.slice so sn sc) (.slice eo n3 ec) (.slice oo on_ oc))
  have X2a := Z2.out
  have X5a := Z5.out
  obtain ⟨x0,x1,x2,x3,x4,x5⟩ := X2a.cs6
  obtain ⟨r0,r1,r2,r3,r4,r5⟩ := X5a.cs6
  obtain ⟨t0,t1,t2,t3,t4,t5⟩ := X5a.fs6
  have zz := X5a.lt
  clear X2a X5a
  go_wp2_with fail
  obtain ⟨v0,v1,v2,v3,v4,v5⟩ := FB.out.cs6
  refine bodyPost_ret (v := .tuple #[.agg #[.int .i64 me,.slice no nn nc,.slice ao n2 ac,.slice so sn sc,.slice eo n3 ec,.slice oo on_ oc],.bool false]) (by simp [results,Tryz.results17,go_sem,v0,v1,v2,v3,v4,v5]) rfl ?_
  rw [LB.out]
  exact ⟨⟨(eo,n3,ec),es,rfl,Or.inl ⟨rfl,rfl,rfl⟩,HR2.out⟩,BL.out⟩
 ·have HF := Lib.hid hf
  have HY := Lib.hid hy
  have hk := (List.getElem?_eq_some_iff.1 hy).1
  have XL2 := XL.out
  have hkn : k < n2 := by rw [N2.out]; exact hk
  obtain ⟨p,ix,px⟩ := elD HS.out rfl N2.out.symm hy
  obtain ⟨z1,z2,⟨zo,zn,zc⟩,par⟩ := y
  have PX := Lib.hid px
  have pr := cell_regrown (show w1.cell? ⟨p.block,p.off + 3,none⟩ = some (.int .i64 par) from (px w1 B1.out).2.2.2)
  obtain ⟨a,hak⟩ : ∃ a,b.adv[k]? = some a := ⟨_,List.getElem?_eq_getElem (by rw [← HA2.out.len]; exact hk)⟩
  have hap : a.par = par := by
   obtain ⟨z,hz1,hz2⟩ := HA2.out.at k a hak
   rw [HY.out] at hz1
   obtain rfl := Option.some.inj hz1
   exact hz2.2.1.symm
  have LA := Lib.hid (show ∀ i,findK (es.map keyN) ((c,d),(g,h)) = i → addB b ⟨(c,d),(g,h),p',fr,up0⟩ = if i ≠ -1 then (b,false) else if fr ≠ -1 ∧ fr = par then (b,false) else ({ b with ent := insAt b.ent (placeP (b.ent.map keyE) ((c,d),(g,h))) ⟨(c,d),(g,h),p',fr,decide (par ≠ -1) && !coveredE b.ent (c,d) p'⟩ },decide (par ≠ -1) && !coveredE b.ent (c,d) p') from fun i hi => by
   have hf' := HF.out
   rw [IDS.out] at hf'
   rw [KYS.out] at hi
   unfold addB
   simp only
   rw [hf',Int.toNat_natCast,hak]
   simp only
   rw [if_neg (by omega),hap,hi])
  have hik : decide ((k : Int) < 0) = false := decide_eq_false (by omega)
  rw [hf]
  clear hf hy px hak hap HF HY
  rcases findK_or (es.map keyN) ((c,d),(g,h)) with he | ⟨j,he,_⟩
  ·have LC := LA.out _ he
   rw [if_neg (by simp)] at LC
   rw [he] at CE
   clear LA he
   obtain ⟨f1,hf1⟩ : ∃ r,(fr != -1) = r := ⟨_,rfl⟩
   obtain ⟨f2,hf2⟩ : ∃ r,(fr == par) = r := ⟨_,rfl⟩
   have F1 := Lib.hid hf1
   have F2_ := Lib.hid hf2
   cases f1
   ·have LD := LC
    rw [if_neg (by exact fun q => q.1 (by simpa using hf1))] at LD
    clear LC
    go_upto_region 2 with fail
    refine wp_region_quiet_below (by kernel_rfl) (by kernel_rfl) ?_
    repeat (go_big_quiet_step (first | (with_reducible exact CE.out _ _)))
    refine wpQuiet_nil ?_
    intro _ hw'
    obtain ⟨⟨dq,osq⟩,hw''⟩ := hw'
    subst hw''
    have Z6 := below_regrown w1 dq osq
    have B2 := Lib.hid (B1.out.trans (Z6.mono B1.out.size))
    have Z2 := Lib.hid (Y2.out.on Z6)
    have Z3 := Lib.hid (Y3.out.on Z6)
    have Z5 := Lib.hid (Y5.out.on Z6)
    clear Z6 B1 Y2 Y3 Y5 a0 a1 a2 a3 a4 a5 b0 b1 b2 b3 b4 b5 b6
    generalize grow (redrawn w1 dq) osq = w2 at *
    have p3b := (PX.out w2 B2.out).2.2.2
    have x_ := Z2.out
    have y_ := Z3.out
    obtain ⟨x0,x1,x2,x3,x4,x5⟩ := x_.cs6
    obtain ⟨y0,y1,y2,y3,y4,y5,y6⟩ := y_.cs7
    clear x_ y_
    obtain ⟨g1,hg1⟩ : ∃ r,(par != -1) = r := ⟨_,rfl⟩
    have GP := Lib.hid (show decide (par ≠ -1) = g1 by rw [← hg1]; by_cases q : par = -1 <;> simp [q])
    rw [GP.out] at LD
    cases g1
    ·have LB := Lib.hid LD
     clear LD CV
     have B3 := Lib.hid B2.out
     have F2 := Lib.hid Z2.out
     have F3 := Lib.hid Z3.out
     have F5 := Lib.hid Z5.out
     clear B2 Z2 Z3 Z5
     have f3 := F3.out
     obtain ⟨k0,k1,k2,k3,k4,k5,k6⟩ := f3.cs7
     have f36 := f3.fr 6
     have f3l := f3.lt
     clear f3
     go_upto_region 5 with fail
     clear k0 k1 k2 k3 k4 k5 k6 f36 f3l
     have G3 := Lib.hid (show Box _ _ #[.int .i64 c,.int .i64 d,.int .i64 g,.int .i64 h,.slice po pn pc,.int .i64 fr,.bool false] _ from by simpa using box_set (k := 6) F3.out (.bool false))
     have G2 := Lib.hid (show Box _ _ _ _ from (RowKit.Below.heap_setCell w2 ⟨w.heap.size + 1,6,none⟩ (.bool false) _ (show w.heap.size ≠ w.heap.size + 1 by omega)).trans F2.out)
     have G5 := Lib.hid (show Box _ _ _ _ from (RowKit.Below.heap_setCell w2 ⟨w.heap.size + 1,6,none⟩ (.bool false) _ (show w.heap.size + 1 + 1 ≠ w.heap.size + 1 by omega)).trans F5.out)
     have B4 := Lib.hid (B3.out.setCell (p := ⟨w.heap.size + 1,6,none⟩) (by show w.heap.size ≤ w.heap.size + 1; omega) (.bool false))
     clear B3 F2 F3 F5
     generalize w2.setCell ⟨w.heap.size + 1,6,none⟩ (.bool false) = w4 at *
     have R4 := Lib.hid (HE.out.on B4.out)
     go_upto_block 0 with (fail)
     refine add_b0 _ w4 w.heap.size (w.heap.size + 1) me c d g h _ _ _ _ _ _ _ eo n3 ec es _ _ _ _ _ _ _ _ _ _ _ _ _ _ _ _ _ _ _ _ _ _ _ _ _ _ _ _ _ _ _ _ _ _ _ _ _ _ _ _ _ _ _ _ _ _ _ _ _ _ _ _ _ _ _ _ _ _ _ _ _ _ _ _ _ _ _ _ _ _ _ _ _ _ _ _ _ _ _ _ _ _ _ _ _ _ _ _ _ _ _ _ _ _ _ _ _ _ _ _ _ _ _ _ _ _ _ _ _ _ _ _ G2.out G3.out R4.out N3.out (by have := EL.out; have := N3.out; omega) ?_
     intro wr v57 v58 v59 v60 v61 v62 v63 v64 v65 v66 v67 v68 v69 v70 v71 v72 v73 v74 v75 v76 v77 v78 v79 v80 v81 v82 v83 v84 v85 v86 v87 v88 v89 v90 v91 v92 v93 v94 v95 v96 hb
     have B5 := Lib.hid (B4.out.trans (hb.mono B4.out.size))
     have K2 := Lib.hid (G2.out.on hb)
     have K3 := Lib.hid (G3.out.on hb)
     have K5 := Lib.hid (G5.out.on hb)
     have R5 := Lib.hid (R4.out.on hb)
     clear hb B4 G2 G3 G5 R4
     go_upto_region 8 with fail
     refine ins8 _ wr w.heap.size (w.heap.size + 1) me _ _ _ _ eo n3 ec (placeP (es.map keyN) ((c,d),(g,h))) es (c,d,g,h,(po,pn,pc),fr,false) _ _ _ _ _ _ _ _ _ _ _ _ _ _ _ _ _ _ _ _ _ _ _ _ _ _ _ _ _ _ _ _ _ _ _ _ _ _ _ _ _ _ _ _ _ _ _ _ _ _ _ _ _ _ _ _ _ _ _ _ _ _ _ _ _ _ _ _ _ _ _ _ _ _ _ _ _ _ _ _ _ _ _ _ _ _ _ _ _ _ _ _ _ _ _ _ _ _ _ _ _ _ _ _ _ _ _ _ _ _ _ _ K2.out (box_sevenN (p := (po,pn,pc)) K3.out) R5.out (by have := placeP_le (es.map keyN) ((c,d),(g,h)); rw [List.length_map] at this; exact this) EL.out ?_
     intro xw v97 v98 v99 v100 v101 v102 v103 v104 v105 v106 v107 v108 v109 v110 v111 hbx ho hbl hoth hblk
     obtain ⟨td1,td2,htv⟩ := (Row.of_own ho).len
     obtain ⟨tl,htl⟩ : ∃ n,n = (es.take (placeP (es.map keyN) ((c,d),(g,h))) ++ [(c,d,g,h,(po,pn,pc),fr,false)] ++ es.drop (placeP (es.map keyN) ((c,d),(g,h)))).length := ⟨_,rfl⟩
     rw [← htl] at htv
     subst htv
     have B6 := Lib.hid (B5.out.trans (hbl _ (Nat.le_refl _)))
     have M2 := hbx
     have M3 := hoth _ _ _ (by omega) K3.out
     have M5 := hoth _ _ _ (by omega) K5.out
     have OE := Lib.hid (own_fewer ho (show w.heap.size + 3 ≤ wr.heap.size by have := K5.out.lt; omega))
     clear ho hbl hoth hblk htl hbx B5 K2 K3 K5 R5
     go_upto_region 9 with fail
     refine add_r9 _ xw w.heap.size (w.heap.size + 1) (w.heap.size + 1 + 1) me no ao so td1 oo nn nc n2 ac sn sc tl td2 on_ oc _ _ _ _ _ _ _ _ _ _ _ _ false _ _ _ _ _ _ _ _ _ _ _ _ _ _ _ _ _ _ _ _ _ _ _ _ _ _ _ _ _ _ _ _ _ _ _ _ _ _ _ _ _ _ _ _ _ _ _ _ _ _ _ _ _ _ _ _ _ _ _ _ _ _ _ _ _ _ _ _ _ _ _ _ _ _ _ _ _ _ _ _ _ _ _ _ _ _ _ _ _ _ _ _ _ _ _ _ _ _ _ _ _ _ _ _ _ _ _ _ _ _ _ _ M2 M3 M5 (by omega) ?_
     intro a9 x9 hd9 h49 h59 hx9
     subst hx9
     have FB := Lib.hid (setB_box M5.drew (.int .i64 me) (.slice no nn nc) (.slice ao n2 ac) (.slice so sn sc) (.slice td1 tl td2) (.slice oo on_ oc))
     have BL := Lib.hid (setB_below (b := w.heap.size + 1 + 1) B6.out.drew (by omega) (.int .i64 me) (.slice no nn nc) (.slice ao n2 ac) (.slice so sn sc) (.slice td1 tl td2) (.slice oo on_ oc))
     have FE := Lib.hid (setB_ownA (own_on OE.out ((Below.refl xw.heap.size xw).drew)) (w.heap.size + 1 + 1) (by omega) (.int .i64 me) (.slice no nn nc) (.slice ao n2 ac) (.slice so sn sc) (.slice td1 tl td2) (.slice oo on_ oc))
     clear OE M2 M3 M5 B6
     simp only [Exit.then]
     apply_assumption
     go_wp2_with fail
     obtain ⟨v0,v1,v2,v3,v4,v5⟩ := FB.out.cs6
     refine bodyPost_ret (v := .tuple #[.agg #[.int .i64 me,.slice no nn nc,.slice ao n2 ac,.slice so sn sc,.slice td1 tl td2,.slice oo on_ oc],.bool false]) (by simp [results,Tryz.results17,go_sem,h49,h59,v0,v1,v2,v3,v4,v5]) hd9 ?_
     rw [LB.out]
     refine ⟨⟨(td1,tl,td2),_,rfl,Or.inr (own_fewer FE.out (show w.heap.size ≤ w.heap.size + 3 by omega)),?_⟩,BL.out⟩
     rw [← KYS.out]
     exact ((HR2.out.take _).append (.cons (HRZ.out _) .nil)).append (HR2.out.drop _)
    ·have CW := Lib.hid (CV.out w2 B2.out)
     obtain ⟨cv,hcv⟩ : ∃ r,coveredE b.ent (c,d) p' = r := ⟨_,rfl⟩
     rw [hcv] at CW LD
     clear CV hcv
     go_wp2_with fail
     refine CW.out.mono ?_
     rintro e3 w3 ⟨rfl,hb⟩
     have B3 := Lib.hid (B2.out.trans (hb.mono B2.out.size))
     have F2 := Lib.hid (Z2.out.on hb)
     have F3 := Lib.hid (Z3.out.on hb)
     have F5 := Lib.hid (Z5.out.on hb)
     clear hb CW B2 Z2 Z3 Z5 x0 x1 x2 x3 x4 x5 y0 y1 y2 y3 y4 y5 y6 p3b
     cases cv
     ·have LB := Lib.hid LD
      clear LD
      have f3 := F3.out
      obtain ⟨k0,k1,k2,k3,k4,k5,k6⟩ := f3.cs7
      have f36 := f3.fr 6
      have f3l := f3.lt
      clear f3
      go_upto_region 5 with fail
      clear k0 k1 k2 k3 k4 k5 k6 f36 f3l
      have G3 := Lib.hid (show Box _ _ #[.int .i64 c,.int .i64 d,.int .i64 g,.int .i64 h,.slice po pn pc,.int .i64 fr,.bool true] _ from by simpa using box_set (k := 6) F3.out (.bool true))
      have G2 := Lib.hid (show Box _ _ _ _ from (RowKit.Below.heap_setCell w3 ⟨w.heap.size + 1,6,none⟩ (.bool true) _ (show w.heap.size ≠ w.heap.size + 1 by omega)).trans F2.out)
      have G5 := Lib.hid (show Box _ _ _ _ from (RowKit.Below.heap_setCell w3 ⟨w.heap.size + 1,6,none⟩ (.bool true) _ (show w.heap.size + 1 + 1 ≠ w.heap.size + 1 by omega)).trans F5.out)
      have B4 := Lib.hid (B3.out.setCell (p := ⟨w.heap.size + 1,6,none⟩) (by show w.heap.size ≤ w.heap.size + 1; omega) (.bool true))
      clear B3 F2 F3 F5
      generalize w3.setCell ⟨w.heap.size + 1,6,none⟩ (.bool true) = w4 at *
      have R4 := Lib.hid (HE.out.on B4.out)
      go_upto_block 0 with (fail)
      refine add_b0 _ w4 w.heap.size (w.heap.size + 1) me c d g h _ _ _ _ _ _ _ eo n3 ec es _ _ _ _ _ _ _ _ _ _ _ _ _ _ _ _ _ _ _ _ _ _ _ _ _ _ _ _ _ _ _ _ _ _ _ _ _ _ _ _ _ _ _ _ _ _ _ _ _ _ _ _ _ _ _ _ _ _ _ _ _ _ _ _ _ _ _ _ _ _ _ _ _ _ _ _ _ _ _ _ _ _ _ _ _ _ _ _ _ _ _ _ _ _ _ _ _ _ _ _ _ _ _ _ _ _ _ _ _ _ _ _ G2.out G3.out R4.out N3.out (by have := EL.out; have := N3.out; omega) ?_
      intro wr v57 v58 v59 v60 v61 v62 v63 v64 v65 v66 v67 v68 v69 v70 v71 v72 v73 v74 v75 v76 v77 v78 v79 v80 v81 v82 v83 v84 v85 v86 v87 v88 v89 v90 v91 v92 v93 v94 v95 v96 hb
      have B5 := Lib.hid (B4.out.trans (hb.mono B4.out.size))
      have K2 := Lib.hid (G2.out.on hb)
      have K3 := Lib.hid (G3.out.on hb)
      have K5 := Lib.hid (G5.out.on hb)
      have R5 := Lib.hid (R4.out.on hb)
      clear hb B4 G2 G3 G5 R4
      go_upto_region 8 with fail
      refine ins8 _ wr w.heap.size (w.heap.size + 1) me _ _ _ _ eo n3 ec (placeP (es.map keyN) ((c,d),(g,h))) es (c,d,g,h,(po,pn,pc),fr,true) _ _ _ _ _ _ _ _ _ _ _ _ _ _ _ _ _ _ _ _ _ _ _ _ _ _ _ _ _ _ _ _ _ _ _ _ _ _ _ _ _ _ _ _ _ _ _ _ _ _ _ _ _ _ _ _ _ _ _ _ _ _ _ _ _ _ _ _ _ _ _ _ _ _ _ _ _ _ _ _ _ _ _ _ _ _ _ _ _ _ _ _ _ _ _ _ _ _ _ _ _ _ _ _ _ _ _ _ _ _ _ _ K2.out (box_sevenN (p := (po,pn,pc)) K3.out) R5.out (by have := placeP_le (es.map keyN) ((c,d),(g,h)); rw [List.length_map] at this; exact this) EL.out ?_
      intro xw v97 v98 v99 v100 v101 v102 v103 v104 v105 v106 v107 v108 v109 v110 v111 hbx ho hbl hoth hblk
      obtain ⟨td1,td2,htv⟩ := (Row.of_own ho).len
      obtain ⟨tl,htl⟩ : ∃ n,n = (es.take (placeP (es.map keyN) ((c,d),(g,h))) ++ [(c,d,g,h,(po,pn,pc),fr,true)] ++ es.drop (placeP (es.map keyN) ((c,d),(g,h)))).length := ⟨_,rfl⟩
      rw [← htl] at htv
      subst htv
      have B6 := Lib.hid (B5.out.trans (hbl _ (Nat.le_refl _)))
      have M2 := hbx
      have M3 := hoth _ _ _ (by omega) K3.out
      have M5 := hoth _ _ _ (by omega) K5.out
      have OE := Lib.hid (own_fewer ho (show w.heap.size + 3 ≤ wr.heap.size by have := K5.out.lt; omega))
      clear ho hbl hoth hblk htl hbx B5 K2 K3 K5 R5
      go_upto_region 9 with fail
      refine add_r9 _ xw w.heap.size (w.heap.size + 1) (w.heap.size + 1 + 1) me no ao so td1 oo nn nc n2 ac sn sc tl td2 on_ oc _ _ _ _ _ _ _ _ _ _ _ _ true _ _ _ _ _ _ _ _ _ _ _ _ _ _ _ _ _ _ _ _ _ _ _ _ _ _ _ _ _ _ _ _ _ _ _ _ _ _ _ _ _ _ _ _ _ _ _ _ _ _ _ _ _ _ _ _ _ _ _ _ _ _ _ _ _ _ _ _ _ _ _ _ _ _ _ _ _ _ _ _ _ _ _ _ _ _ _ _ _ _ _ _ _ _ _ _ _ _ _ _ _ _ _ _ _ _ _ _ _ _ _ _ M2 M3 M5 (by omega) ?_
      intro a9 x9 hd9 h49 h59 hx9
      subst hx9
      have FB := Lib.hid (setB_box M5.drew (.int .i64 me) (.slice no nn nc) (.slice ao n2 ac) (.slice so sn sc) (.slice td1 tl td2) (.slice oo on_ oc))
      have BL := Lib.hid (setB_below (b := w.heap.size + 1 + 1) B6.out.drew (by omega) (.int .i64 me) (.slice no nn nc) (.slice ao n2 ac) (.slice so sn sc) (.slice td1 tl td2) (.slice oo on_ oc))
      have FE := Lib.hid (setB_ownA (own_on OE.out ((Below.refl xw.heap.size xw).drew)) (w.heap.size + 1 + 1) (by omega) (.int .i64 me) (.slice no nn nc) (.slice ao n2 ac) (.slice so sn sc) (.slice td1 tl td2) (.slice oo on_ oc))
      clear OE M2 M3 M5 B6
      simp only [Exit.then]
      apply_assumption
      go_wp2_with fail
      obtain ⟨v0,v1,v2,v3,v4,v5⟩ := FB.out.cs6
      refine bodyPost_ret (v := .tuple #[.agg #[.int .i64 me,.slice no nn nc,.slice ao n2 ac,.slice so sn sc,.slice td1 tl td2,.slice oo on_ oc],.bool true]) (by simp [results,Tryz.results17,go_sem,h49,h59,v0,v1,v2,v3,v4,v5]) hd9 ?_
      rw [LB.out]
      refine ⟨⟨(td1,tl,td2),_,rfl,Or.inr (own_fewer FE.out (show w.heap.size ≤ w.heap.size + 3 by omega)),?_⟩,BL.out⟩
      rw [← KYS.out]
      exact ((HR2.out.take _).append (.cons (HRZ.out _) .nil)).append (HR2.out.drop _)
     ·have LB := Lib.hid LD
      clear LD
      have f3 := F3.out
      obtain ⟨k0,k1,k2,k3,k4,k5,k6⟩ := f3.cs7
      have f36 := f3.fr 6
      have f3l := f3.lt
      clear f3
      go_upto_region 5 with fail
      clear k0 k1 k2 k3 k4 k5 k6 f36 f3l
      have G3 := Lib.hid (show Box _ _ #[.int .i64 c,.int .i64 d,.int .i64 g,.int .i64 h,.slice po pn pc,.int .i64 fr,.bool false] _ from by simpa using box_set (k := 6) F3.out (.bool false))
      have G2 := Lib.hid (show Box _ _ _ _ from (RowKit.Below.heap_setCell w3 ⟨w.heap.size + 1,6,none⟩ (.bool false) _ (show w.heap.size ≠ w.heap.size + 1 by omega)).trans F2.out)
      have G5 := Lib.hid (show Box _ _ _ _ from (RowKit.Below.heap_setCell w3 ⟨w.heap.size + 1,6,none⟩ (.bool false) _ (show w.heap.size + 1 + 1 ≠ w.heap.size + 1 by omega)).trans F5.out)
      have B4 := Lib.hid (B3.out.setCell (p := ⟨w.heap.size + 1,6,none⟩) (by show w.heap.size ≤ w.heap.size + 1; omega) (.bool false))
      clear B3 F2 F3 F5
      generalize w3.setCell ⟨w.heap.size + 1,6,none⟩ (.bool false) = w4 at *
      have R4 := Lib.hid (HE.out.on B4.out)
      go_upto_block 0 with (fail)
      refine add_b0 _ w4 w.heap.size (w.heap.size + 1) me c d g h _ _ _ _ _ _ _ eo n3 ec es _ _ _ _ _ _ _ _ _ _ _ _ _ _ _ _ _ _ _ _ _ _ _ _ _ _ _ _ _ _ _ _ _ _ _ _ _ _ _ _ _ _ _ _ _ _ _ _ _ _ _ _ _ _ _ _ _ _ _ _ _ _ _ _ _ _ _ _ _ _ _ _ _ _ _ _ _ _ _ _ _ _ _ _ _ _ _ _ _ _ _ _ _ _ _ _ _ _ _ _ _ _ _ _ _ _ _ _ _ _ _ _ G2.out G3.out R4.out N3.out (by have := EL.out; have := N3.out; omega) ?_
      intro wr v57 v58 v59 v60 v61 v62 v63 v64 v65 v66 v67 v68 v69 v70 v71 v72 v73 v74 v75 v76 v77 v78 v79 v80 v81 v82 v83 v84 v85 v86 v87 v88 v89 v90 v91 v92 v93 v94 v95 v96 hb
      have B5 := Lib.hid (B4.out.trans (hb.mono B4.out.size))
      have K2 := Lib.hid (G2.out.on hb)
      have K3 := Lib.hid (G3.out.on hb)
      have K5 := Lib.hid (G5.out.on hb)
      have R5 := Lib.hid (R4.out.on hb)
      clear hb B4 G2 G3 G5 R4
      go_upto_region 8 with fail
      refine ins8 _ wr w.heap.size (w.heap.size + 1) me _ _ _ _ eo n3 ec (placeP (es.map keyN) ((c,d),(g,h))) es (c,d,g,h,(po,pn,pc),fr,false) _ _ _ _ _ _ _ _ _ _ _ _ _ _ _ _ _ _ _ _ _ _ _ _ _ _ _ _ _ _ _ _ _ _ _ _ _ _ _ _ _ _ _ _ _ _ _ _ _ _ _ _ _ _ _ _ _ _ _ _ _ _ _ _ _ _ _ _ _ _ _ _ _ _ _ _ _ _ _ _ _ _ _ _ _ _ _ _ _ _ _ _ _ _ _ _ _ _ _ _ _ _ _ _ _ _ _ _ _ _ _ _ K2.out (box_sevenN (p := (po,pn,pc)) K3.out) R5.out (by have := placeP_le (es.map keyN) ((c,d),(g,h)); rw [List.length_map] at this; exact this) EL.out ?_
      intro xw v97 v98 v99 v100 v101 v102 v103 v104 v105 v106 v107 v108 v109 v110 v111 hbx ho hbl hoth hblk
      obtain ⟨td1,td2,htv⟩ := (Row.of_own ho).len
      obtain ⟨tl,htl⟩ : ∃ n,n = (es.take (placeP (es.map keyN) ((c,d),(g,h))) ++ [(c,d,g,h,(po,pn,pc),fr,false)] ++ es.drop (placeP (es.map keyN) ((c,d),(g,h)))).length := ⟨_,rfl⟩
      rw [← htl] at htv
      subst htv
      have B6 := Lib.hid (B5.out.trans (hbl _ (Nat.le_refl _)))
      have M2 := hbx
      have M3 := hoth _ _ _ (by omega) K3.out
      have M5 := hoth _ _ _ (by omega) K5.out
      have OE := Lib.hid (own_fewer ho (show w.heap.size + 3 ≤ wr.heap.size by have := K5.out.lt; omega))
      clear ho hbl hoth hblk htl hbx B5 K2 K3 K5 R5
      go_upto_region 9 with fail
      refine add_r9 _ xw w.heap.size (w.heap.size + 1) (w.heap.size + 1 + 1) me no ao so td1 oo nn nc n2 ac sn sc tl td2 on_ oc _ _ _ _ _ _ _ _ _ _ _ _ false _ _ _ _ _ _ _ _ _ _ _ _ _ _ _ _ _ _ _ _ _ _ _ _ _ _ _ _ _ _ _ _ _ _ _ _ _ _ _ _ _ _ _ _ _ _ _ _ _ _ _ _ _ _ _ _ _ _ _ _ _ _ _ _ _ _ _ _ _ _ _ _ _ _ _ _ _ _ _ _ _ _ _ _ _ _ _ _ _ _ _ _ _ _ _ _ _ _ _ _ _ _ _ _ _ _ _ _ _ _ _ _ M2 M3 M5 (by omega) ?_
      intro a9 x9 hd9 h49 h59 hx9
      subst hx9
      have FB := Lib.hid (setB_box M5.drew (.int .i64 me) (.slice no nn nc) (.slice ao n2 ac) (.slice so sn sc) (.slice td1 tl td2) (.slice oo on_ oc))
      have BL := Lib.hid (setB_below (b := w.heap.size + 1 + 1) B6.out.drew (by omega) (.int .i64 me) (.slice no nn nc) (.slice ao n2 ac) (.slice so sn sc) (.slice td1 tl td2) (.slice oo on_ oc))
      have FE := Lib.hid (setB_ownA (own_on OE.out ((Below.refl xw.heap.size xw).drew)) (w.heap.size + 1 + 1) (by omega) (.int .i64 me) (.slice no nn nc) (.slice ao n2 ac) (.slice so sn sc) (.slice td1 tl td2) (.slice oo on_ oc))
      clear OE M2 M3 M5 B6
      simp only [Exit.then]
      apply_assumption
      go_wp2_with fail
      obtain ⟨v0,v1,v2,v3,v4,v5⟩ := FB.out.cs6
      refine bodyPost_ret (v := .tuple #[.agg #[.int .i64 me,.slice no nn nc,.slice ao n2 ac,.slice so sn sc,.slice td1 tl td2,.slice oo on_ oc],.bool false]) (by simp [results,Tryz.results17,go_sem,h49,h59,v0,v1,v2,v3,v4,v5]) hd9 ?_
      rw [LB.out]
      refine ⟨⟨(td1,tl,td2),_,rfl,Or.inr (own_fewer FE.out (show w.heap.size ≤ w.heap.size + 3 by omega)),?_⟩,BL.out⟩
      rw [← KYS.out]
      exact ((HR2.out.take _).append (.cons (HRZ.out _) .nil)).append (HR2.out.drop _)
   ·cases f2
    ·have LD := LC
     rw [if_neg (by intro q; simp [q.2] at hf2)] at LD
     clear LC
     go_upto_region 2 with fail
     refine wp_region_quiet_below (by kernel_rfl) (by kernel_rfl) ?_
     repeat (go_big_quiet_step (first | (with_reducible exact CE.out _ _)))
     refine wpQuiet_nil ?_
     intro _ hw'
     obtain ⟨⟨dq,osq⟩,hw''⟩ := hw'
     subst hw''
     have Z6 := below_regrown w1 dq osq
     have B2 := Lib.hid (B1.out.trans (Z6.mono B1.out.size))
     have Z2 := Lib.hid (Y2.out.on Z6)
     have Z3 := Lib.hid (Y3.out.on Z6)
     have Z5 := Lib.hid (Y5.out.on Z6)
     clear Z6 B1 Y2 Y3 Y5 a0 a1 a2 a3 a4 a5 b0 b1 b2 b3 b4 b5 b6
     generalize grow (redrawn w1 dq) osq = w2 at *
     have p3b := (PX.out w2 B2.out).2.2.2
     have x_ := Z2.out
     have y_ := Z3.out
     obtain ⟨x0,x1,x2,x3,x4,x5⟩ := x_.cs6
     obtain ⟨y0,y1,y2,y3,y4,y5,y6⟩ := y_.cs7
     clear x_ y_
     obtain ⟨g1,hg1⟩ : ∃ r,(par != -1) = r := ⟨_,rfl⟩
     have GP := Lib.hid (show decide (par ≠ -1) = g1 by rw [← hg1]; by_cases q : par = -1 <;> simp [q])
     rw [GP.out] at LD
     cases g1
     ·have LB := Lib.hid LD
      clear LD CV
      have B3 := Lib.hid B2.out
      have F2 := Lib.hid Z2.out
      have F3 := Lib.hid Z3.out
      have F5 := Lib.hid Z5.out
      clear B2 Z2 Z3 Z5
      have f3 := F3.out
      obtain ⟨k0,k1,k2,k3,k4,k5,k6⟩ := f3.cs7
      have f36 := f3.fr 6
      have f3l := f3.lt
      clear f3
      go_upto_region 5 with fail
      clear k0 k1 k2 k3 k4 k5 k6 f36 f3l
      have G3 := Lib.hid (show Box _ _ #[.int .i64 c,.int .i64 d,.int .i64 g,.int .i64 h,.slice po pn pc,.int .i64 fr,.bool false] _ from by simpa using box_set (k := 6) F3.out (.bool false))
      have G2 := Lib.hid (show Box _ _ _ _ from (RowKit.Below.heap_setCell w2 ⟨w.heap.size + 1,6,none⟩ (.bool false) _ (show w.heap.size ≠ w.heap.size + 1 by omega)).trans F2.out)
      have G5 := Lib.hid (show Box _ _ _ _ from (RowKit.Below.heap_setCell w2 ⟨w.heap.size + 1,6,none⟩ (.bool false) _ (show w.heap.size + 1 + 1 ≠ w.heap.size + 1 by omega)).trans F5.out)
      have B4 := Lib.hid (B3.out.setCell (p := ⟨w.heap.size + 1,6,none⟩) (by show w.heap.size ≤ w.heap.size + 1; omega) (.bool false))
      clear B3 F2 F3 F5
      generalize w2.setCell ⟨w.heap.size + 1,6,none⟩ (.bool false) = w4 at *
      have R4 := Lib.hid (HE.out.on B4.out)
      go_upto_block 0 with (fail)
      refine add_b0 _ w4 w.heap.size (w.heap.size + 1) me c d g h _ _ _ _ _ _ _ eo n3 ec es _ _ _ _ _ _ _ _ _ _ _ _ _ _ _ _ _ _ _ _ _ _ _ _ _ _ _ _ _ _ _ _ _ _ _ _ _ _ _ _ _ _ _ _ _ _ _ _ _ _ _ _ _ _ _ _ _ _ _ _ _ _ _ _ _ _ _ _ _ _ _ _ _ _ _ _ _ _ _ _ _ _ _ _ _ _ _ _ _ _ _ _ _ _ _ _ _ _ _ _ _ _ _ _ _ _ _ _ _ _ _ _ G2.out G3.out R4.out N3.out (by have := EL.out; have := N3.out; omega) ?_
      intro wr v57 v58 v59 v60 v61 v62 v63 v64 v65 v66 v67 v68 v69 v70 v71 v72 v73 v74 v75 v76 v77 v78 v79 v80 v81 v82 v83 v84 v85 v86 v87 v88 v89 v90 v91 v92 v93 v94 v95 v96 hb
      have B5 := Lib.hid (B4.out.trans (hb.mono B4.out.size))
      have K2 := Lib.hid (G2.out.on hb)
      have K3 := Lib.hid (G3.out.on hb)
      have K5 := Lib.hid (G5.out.on hb)
      have R5 := Lib.hid (R4.out.on hb)
      clear hb B4 G2 G3 G5 R4
      go_upto_region 8 with fail
      refine ins8 _ wr w.heap.size (w.heap.size + 1) me _ _ _ _ eo n3 ec (placeP (es.map keyN) ((c,d),(g,h))) es (c,d,g,h,(po,pn,pc),fr,false) _ _ _ _ _ _ _ _ _ _ _ _ _ _ _ _ _ _ _ _ _ _ _ _ _ _ _ _ _ _ _ _ _ _ _ _ _ _ _ _ _ _ _ _ _ _ _ _ _ _ _ _ _ _ _ _ _ _ _ _ _ _ _ _ _ _ _ _ _ _ _ _ _ _ _ _ _ _ _ _ _ _ _ _ _ _ _ _ _ _ _ _ _ _ _ _ _ _ _ _ _ _ _ _ _ _ _ _ _ _ _ _ K2.out (box_sevenN (p := (po,pn,pc)) K3.out) R5.out (by have := placeP_le (es.map keyN) ((c,d),(g,h)); rw [List.length_map] at this; exact this) EL.out ?_
      intro xw v97 v98 v99 v100 v101 v102 v103 v104 v105 v106 v107 v108 v109 v110 v111 hbx ho hbl hoth hblk
      obtain ⟨td1,td2,htv⟩ := (Row.of_own ho).len
      obtain ⟨tl,htl⟩ : ∃ n,n = (es.take (placeP (es.map keyN) ((c,d),(g,h))) ++ [(c,d,g,h,(po,pn,pc),fr,false)] ++ es.drop (placeP (es.map keyN) ((c,d),(g,h)))).length := ⟨_,rfl⟩
      rw [← htl] at htv
      subst htv
      have B6 := Lib.hid (B5.out.trans (hbl _ (Nat.le_refl _)))
      have M2 := hbx
      have M3 := hoth _ _ _ (by omega) K3.out
      have M5 := hoth _ _ _ (by omega) K5.out
      have OE := Lib.hid (own_fewer ho (show w.heap.size + 3 ≤ wr.heap.size by have := K5.out.lt; omega))
      clear ho hbl hoth hblk htl hbx B5 K2 K3 K5 R5
      go_upto_region 9 with fail
      refine add_r9 _ xw w.heap.size (w.heap.size + 1) (w.heap.size + 1 + 1) me no ao so td1 oo nn nc n2 ac sn sc tl td2 on_ oc _ _ _ _ _ _ _ _ _ _ _ _ false _ _ _ _ _ _ _ _ _ _ _ _ _ _ _ _ _ _ _ _ _ _ _ _ _ _ _ _ _ _ _ _ _ _ _ _ _ _ _ _ _ _ _ _ _ _ _ _ _ _ _ _ _ _ _ _ _ _ _ _ _ _ _ _ _ _ _ _ _ _ _ _ _ _ _ _ _ _ _ _ _ _ _ _ _ _ _ _ _ _ _ _ _ _ _ _ _ _ _ _ _ _ _ _ _ _ _ _ _ _ _ _ M2 M3 M5 (by omega) ?_
      intro a9 x9 hd9 h49 h59 hx9
      subst hx9
      have FB := Lib.hid (setB_box M5.drew (.int .i64 me) (.slice no nn nc) (.slice ao n2 ac) (.slice so sn sc) (.slice td1 tl td2) (.slice oo on_ oc))
      have BL := Lib.hid (setB_below (b := w.heap.size + 1 + 1) B6.out.drew (by omega) (.int .i64 me) (.slice no nn nc) (.slice ao n2 ac) (.slice so sn sc) (.slice td1 tl td2) (.slice oo on_ oc))
      have FE := Lib.hid (setB_ownA (own_on OE.out ((Below.refl xw.heap.size xw).drew)) (w.heap.size + 1 + 1) (by omega) (.int .i64 me) (.slice no nn nc) (.slice ao n2 ac) (.slice so sn sc) (.slice td1 tl td2) (.slice oo on_ oc))
      clear OE M2 M3 M5 B6
      simp only [Exit.then]
      apply_assumption
      go_wp2_with fail
      obtain ⟨v0,v1,v2,v3,v4,v5⟩ := FB.out.cs6
      refine bodyPost_ret (v := .tuple #[.agg #[.int .i64 me,.slice no nn nc,.slice ao n2 ac,.slice so sn sc,.slice td1 tl td2,.slice oo on_ oc],.bool false]) (by simp [results,Tryz.results17,go_sem,h49,h59,v0,v1,v2,v3,v4,v5]) hd9 ?_
      rw [LB.out]
      refine ⟨⟨(td1,tl,td2),_,rfl,Or.inr (own_fewer FE.out (show w.heap.size ≤ w.heap.size + 3 by omega)),?_⟩,BL.out⟩
      rw [← KYS.out]
      exact ((HR2.out.take _).append (.cons (HRZ.out _) .nil)).append (HR2.out.drop _)
     ·have CW := Lib.hid (CV.out w2 B2.out)
      obtain ⟨cv,hcv⟩ : ∃ r,coveredE b.ent (c,d) p' = r := ⟨_,rfl⟩
      rw [hcv] at CW LD
      clear CV hcv
      go_wp2_with fail
      refine CW.out.mono ?_
      rintro e3 w3 ⟨rfl,hb⟩
      have B3 := Lib.hid (B2.out.trans (hb.mono B2.out.size))
      have F2 := Lib.hid (Z2.out.on hb)
      have F3 := Lib.hid (Z3.out.on hb)
      have F5 := Lib.hid (Z5.out.on hb)
      clear hb CW B2 Z2 Z3 Z5 x0 x1 x2 x3 x4 x5 y0 y1 y2 y3 y4 y5 y6 p3b
      cases cv
      ·have LB := Lib.hid LD
       clear LD
       have f3 := F3.out
       obtain ⟨k0,k1,k2,k3,k4,k5,k6⟩ := f3.cs7
       have f36 := f3.fr 6
       have f3l := f3.lt
       clear f3
       go_upto_region 5 with fail
       clear k0 k1 k2 k3 k4 k5 k6 f36 f3l
       have G3 := Lib.hid (show Box _ _ #[.int .i64 c,.int .i64 d,.int .i64 g,.int .i64 h,.slice po pn pc,.int .i64 fr,.bool true] _ from by simpa using box_set (k := 6) F3.out (.bool true))
       have G2 := Lib.hid (show Box _ _ _ _ from (RowKit.Below.heap_setCell w3 ⟨w.heap.size + 1,6,none⟩ (.bool true) _ (show w.heap.size ≠ w.heap.size + 1 by omega)).trans F2.out)
       have G5 := Lib.hid (show Box _ _ _ _ from (RowKit.Below.heap_setCell w3 ⟨w.heap.size + 1,6,none⟩ (.bool true) _ (show w.heap.size + 1 + 1 ≠ w.heap.size + 1 by omega)).trans F5.out)
       have B4 := Lib.hid (B3.out.setCell (p := ⟨w.heap.size + 1,6,none⟩) (by show w.heap.size ≤ w.heap.size + 1; omega) (.bool true))
       clear B3 F2 F3 F5
       generalize w3.setCell ⟨w.heap.size + 1,6,none⟩ (.bool true) = w4 at *
       have R4 := Lib.hid (HE.out.on B4.out)
       go_upto_block 0 with (fail)
       refine add_b0 _ w4 w.heap.size (w.heap.size + 1) me c d g h _ _ _ _ _ _ _ eo n3 ec es _ _ _ _ _ _ _ _ _ _ _ _ _ _ _ _ _ _ _ _ _ _ _ _ _ _ _ _ _ _ _ _ _ _ _ _ _ _ _ _ _ _ _ _ _ _ _ _ _ _ _ _ _ _ _ _ _ _ _ _ _ _ _ _ _ _ _ _ _ _ _ _ _ _ _ _ _ _ _ _ _ _ _ _ _ _ _ _ _ _ _ _ _ _ _ _ _ _ _ _ _ _ _ _ _ _ _ _ _ _ _ _ G2.out G3.out R4.out N3.out (by have := EL.out; have := N3.out; omega) ?_
       intro wr v57 v58 v59 v60 v61 v62 v63 v64 v65 v66 v67 v68 v69 v70 v71 v72 v73 v74 v75 v76 v77 v78 v79 v80 v81 v82 v83 v84 v85 v86 v87 v88 v89 v90 v91 v92 v93 v94 v95 v96 hb
       have B5 := Lib.hid (B4.out.trans (hb.mono B4.out.size))
       have K2 := Lib.hid (G2.out.on hb)
       have K3 := Lib.hid (G3.out.on hb)
       have K5 := Lib.hid (G5.out.on hb)
       have R5 := Lib.hid (R4.out.on hb)
       clear hb B4 G2 G3 G5 R4
       go_upto_region 8 with fail
       refine ins8 _ wr w.heap.size (w.heap.size + 1) me _ _ _ _ eo n3 ec (placeP (es.map keyN) ((c,d),(g,h))) es (c,d,g,h,(po,pn,pc),fr,true) _ _ _ _ _ _ _ _ _ _ _ _ _ _ _ _ _ _ _ _ _ _ _ _ _ _ _ _ _ _ _ _ _ _ _ _ _ _ _ _ _ _ _ _ _ _ _ _ _ _ _ _ _ _ _ _ _ _ _ _ _ _ _ _ _ _ _ _ _ _ _ _ _ _ _ _ _ _ _ _ _ _ _ _ _ _ _ _ _ _ _ _ _ _ _ _ _ _ _ _ _ _ _ _ _ _ _ _ _ _ _ _ K2.out (box_sevenN (p := (po,pn,pc)) K3.out) R5.out (by have := placeP_le (es.map keyN) ((c,d),(g,h)); rw [List.length_map] at this; exact this) EL.out ?_
       intro xw v97 v98 v99 v100 v101 v102 v103 v104 v105 v106 v107 v108 v109 v110 v111 hbx ho hbl hoth hblk
       obtain ⟨td1,td2,htv⟩ := (Row.of_own ho).len
       obtain ⟨tl,htl⟩ : ∃ n,n = (es.take (placeP (es.map keyN) ((c,d),(g,h))) ++ [(c,d,g,h,(po,pn,pc),fr,true)] ++ es.drop (placeP (es.map keyN) ((c,d),(g,h)))).length := ⟨_,rfl⟩
       rw [← htl] at htv
       subst htv
       have B6 := Lib.hid (B5.out.trans (hbl _ (Nat.le_refl _)))
       have M2 := hbx
       have M3 := hoth _ _ _ (by omega) K3.out
       have M5 := hoth _ _ _ (by omega) K5.out
       have OE := Lib.hid (own_fewer ho (show w.heap.size + 3 ≤ wr.heap.size by have := K5.out.lt; omega))
       clear ho hbl hoth hblk htl hbx B5 K2 K3 K5 R5
       go_upto_region 9 with fail
       refine add_r9 _ xw w.heap.size (w.heap.size + 1) (w.heap.size + 1 + 1) me no ao so td1 oo nn nc n2 ac sn sc tl td2 on_ oc _ _ _ _ _ _ _ _ _ _ _ _ true _ _ _ _ _ _ _ _ _ _ _ _ _ _ _ _ _ _ _ _ _ _ _ _ _ _ _ _ _ _ _ _ _ _ _ _ _ _ _ _ _ _ _ _ _ _ _ _ _ _ _ _ _ _ _ _ _ _ _ _ _ _ _ _ _ _ _ _ _ _ _ _ _ _ _ _ _ _ _ _ _ _ _ _ _ _ _ _ _ _ _ _ _ _ _ _ _ _ _ _ _ _ _ _ _ _ _ _ _ _ _ _ M2 M3 M5 (by omega) ?_
       intro a9 x9 hd9 h49 h59 hx9
       subst hx9
       have FB := Lib.hid (setB_box M5.drew (.int .i64 me) (.slice no nn nc) (.slice ao n2 ac) (.slice so sn sc) (.slice td1 tl td2) (.slice oo on_ oc))
       have BL := Lib.hid (setB_below (b := w.heap.size + 1 + 1) B6.out.drew (by omega) (.int .i64 me) (.slice no nn nc) (.slice ao n2 ac) (.slice so sn sc) (.slice td1 tl td2) (.slice oo on_ oc))
       have FE := Lib.hid (setB_ownA (own_on OE.out ((Below.refl xw.heap.size xw).drew)) (w.heap.size + 1 + 1) (by omega) (.int .i64 me) (.slice no nn nc) (.slice ao n2 ac) (.slice so sn sc) (.slice td1 tl td2) (.slice oo on_ oc))
       clear OE M2 M3 M5 B6
       simp only [Exit.then]
       apply_assumption
       go_wp2_with fail
       obtain ⟨v0,v1,v2,v3,v4,v5⟩ := FB.out.cs6
       refine bodyPost_ret (v := .tuple #[.agg #[.int .i64 me,.slice no nn nc,.slice ao n2 ac,.slice so sn sc,.slice td1 tl td2,.slice oo on_ oc],.bool true]) (by simp [results,Tryz.results17,go_sem,h49,h59,v0,v1,v2,v3,v4,v5]) hd9 ?_
       rw [LB.out]
       refine ⟨⟨(td1,tl,td2),_,rfl,Or.inr (own_fewer FE.out (show w.heap.size ≤ w.heap.size + 3 by omega)),?_⟩,BL.out⟩
       rw [← KYS.out]
       exact ((HR2.out.take _).append (.cons (HRZ.out _) .nil)).append (HR2.out.drop _)
      ·have LB := Lib.hid LD
       clear LD
       have f3 := F3.out
       obtain ⟨k0,k1,k2,k3,k4,k5,k6⟩ := f3.cs7
       have f36 := f3.fr 6
       have f3l := f3.lt
       clear f3
       go_upto_region 5 with fail
       clear k0 k1 k2 k3 k4 k5 k6 f36 f3l
       have G3 := Lib.hid (show Box _ _ #[.int .i64 c,.int .i64 d,.int .i64 g,.int .i64 h,.slice po pn pc,.int .i64 fr,.bool false] _ from by simpa using box_set (k := 6) F3.out (.bool false))
       have G2 := Lib.hid (show Box _ _ _ _ from (RowKit.Below.heap_setCell w3 ⟨w.heap.size + 1,6,none⟩ (.bool false) _ (show w.heap.size ≠ w.heap.size + 1 by omega)).trans F2.out)
       have G5 := Lib.hid (show Box _ _ _ _ from (RowKit.Below.heap_setCell w3 ⟨w.heap.size + 1,6,none⟩ (.bool false) _ (show w.heap.size + 1 + 1 ≠ w.heap.size + 1 by omega)).trans F5.out)
       have B4 := Lib.hid (B3.out.setCell (p := ⟨w.heap.size + 1,6,none⟩) (by show w.heap.size ≤ w.heap.size + 1; omega) (.bool false))
       clear B3 F2 F3 F5
       generalize w3.setCell ⟨w.heap.size + 1,6,none⟩ (.bool false) = w4 at *
       have R4 := Lib.hid (HE.out.on B4.out)
       go_upto_block 0 with (fail)
       refine add_b0 _ w4 w.heap.size (w.heap.size + 1) me c d g h _ _ _ _ _ _ _ eo n3 ec es _ _ _ _ _ _ _ _ _ _ _ _ _ _ _ _ _ _ _ _ _ _ _ _ _ _ _ _ _ _ _ _ _ _ _ _ _ _ _ _ _ _ _ _ _ _ _ _ _ _ _ _ _ _ _ _ _ _ _ _ _ _ _ _ _ _ _ _ _ _ _ _ _ _ _ _ _ _ _ _ _ _ _ _ _ _ _ _ _ _ _ _ _ _ _ _ _ _ _ _ _ _ _ _ _ _ _ _ _ _ _ _ G2.out G3.out R4.out N3.out (by have := EL.out; have := N3.out; omega) ?_
       intro wr v57 v58 v59 v60 v61 v62 v63 v64 v65 v66 v67 v68 v69 v70 v71 v72 v73 v74 v75 v76 v77 v78 v79 v80 v81 v82 v83 v84 v85 v86 v87 v88 v89 v90 v91 v92 v93 v94 v95 v96 hb
       have B5 := Lib.hid (B4.out.trans (hb.mono B4.out.size))
       have K2 := Lib.hid (G2.out.on hb)
       have K3 := Lib.hid (G3.out.on hb)
       have K5 := Lib.hid (G5.out.on hb)
       have R5 := Lib.hid (R4.out.on hb)
       clear hb B4 G2 G3 G5 R4
       go_upto_region 8 with fail
       refine ins8 _ wr w.heap.size (w.heap.size + 1) me _ _ _ _ eo n3 ec (placeP (es.map keyN) ((c,d),(g,h))) es (c,d,g,h,(po,pn,pc),fr,false) _ _ _ _ _ _ _ _ _ _ _ _ _ _ _ _ _ _ _ _ _ _ _ _ _ _ _ _ _ _ _ _ _ _ _ _ _ _ _ _ _ _ _ _ _ _ _ _ _ _ _ _ _ _ _ _ _ _ _ _ _ _ _ _ _ _ _ _ _ _ _ _ _ _ _ _ _ _ _ _ _ _ _ _ _ _ _ _ _ _ _ _ _ _ _ _ _ _ _ _ _ _ _ _ _ _ _ _ _ _ _ _ K2.out (box_sevenN (p := (po,pn,pc)) K3.out) R5.out (by have := placeP_le (es.map keyN) ((c,d),(g,h)); rw [List.length_map] at this; exact this) EL.out ?_
       intro xw v97 v98 v99 v100 v101 v102 v103 v104 v105 v106 v107 v108 v109 v110 v111 hbx ho hbl hoth hblk
       obtain ⟨td1,td2,htv⟩ := (Row.of_own ho).len
       obtain ⟨tl,htl⟩ : ∃ n,n = (es.take (placeP (es.map keyN) ((c,d),(g,h))) ++ [(c,d,g,h,(po,pn,pc),fr,false)] ++ es.drop (placeP (es.map keyN) ((c,d),(g,h)))).length := ⟨_,rfl⟩
       rw [← htl] at htv
       subst htv
       have B6 := Lib.hid (B5.out.trans (hbl _ (Nat.le_refl _)))
       have M2 := hbx
       have M3 := hoth _ _ _ (by omega) K3.out
       have M5 := hoth _ _ _ (by omega) K5.out
       have OE := Lib.hid (own_fewer ho (show w.heap.size + 3 ≤ wr.heap.size by have := K5.out.lt; omega))
       clear ho hbl hoth hblk htl hbx B5 K2 K3 K5 R5
       go_upto_region 9 with fail
       refine add_r9 _ xw w.heap.size (w.heap.size + 1) (w.heap.size + 1 + 1) me no ao so td1 oo nn nc n2 ac sn sc tl td2 on_ oc _ _ _ _ _ _ _ _ _ _ _ _ false _ _ _ _ _ _ _ _ _ _ _ _ _ _ _ _ _ _ _ _ _ _ _ _ _ _ _ _ _ _ _ _ _ _ _ _ _ _ _ _ _ _ _ _ _ _ _ _ _ _ _ _ _ _ _ _ _ _ _ _ _ _ _ _ _ _ _ _ _ _ _ _ _ _ _ _ _ _ _ _ _ _ _ _ _ _ _ _ _ _ _ _ _ _ _ _ _ _ _ _ _ _ _ _ _ _ _ _ _ _ _ _ M2 M3 M5 (by omega) ?_
       intro a9 x9 hd9 h49 h59 hx9
       subst hx9
       have FB := Lib.hid (setB_box M5.drew (.int .i64 me) (.slice no nn nc) (.slice ao n2 ac) (.slice so sn sc) (.slice td1 tl td2) (.slice oo on_ oc))
       have BL := Lib.hid (setB_below (b := w.heap.size + 1 + 1) B6.out.drew (by omega) (.int .i64 me) (.slice no nn nc) (.slice ao n2 ac) (.slice so sn sc) (.slice td1 tl td2) (.slice oo on_ oc))
       have FE := Lib.hid (setB_ownA (own_on OE.out ((Below.refl xw.heap.size xw).drew)) (w.heap.size + 1 + 1) (by omega) (.int .i64 me) (.slice no nn nc) (.slice ao n2 ac) (.slice so sn sc) (.slice td1 tl td2) (.slice oo on_ oc))
       clear OE M2 M3 M5 B6
       simp only [Exit.then]
       apply_assumption
       go_wp2_with fail
       obtain ⟨v0,v1,v2,v3,v4,v5⟩ := FB.out.cs6
       refine bodyPost_ret (v := .tuple #[.agg #[.int .i64 me,.slice no nn nc,.slice ao n2 ac,.slice so sn sc,.slice td1 tl td2,.slice oo on_ oc],.bool false]) (by simp [results,Tryz.results17,go_sem,h49,h59,v0,v1,v2,v3,v4,v5]) hd9 ?_
       rw [LB.out]
       refine ⟨⟨(td1,tl,td2),_,rfl,Or.inr (own_fewer FE.out (show w.heap.size ≤ w.heap.size + 3 by omega)),?_⟩,BL.out⟩
       rw [← KYS.out]
       exact ((HR2.out.take _).append (.cons (HRZ.out _) .nil)).append (HR2.out.drop _)
    ·have LB := Lib.hid (LC.trans (if_pos (by simpa using And.intro hf1 hf2)))
     clear LC
     go_upto_region 2 with fail
     refine wp_region_quiet_below (by kernel_rfl) (by kernel_rfl) ?_
     repeat (go_big_quiet_step (first | (with_reducible exact CE.out _ _)))
     refine wpQuiet_nil ?_
     intro _ hw'
     obtain ⟨⟨dq,osq⟩,hw''⟩ := hw'
     subst hw''
     have Z6 := below_regrown w1 dq osq
     have B2 := Lib.hid (B1.out.trans (Z6.mono B1.out.size))
     have Z2 := Lib.hid (Y2.out.on Z6)
     have Z3 := Lib.hid (Y3.out.on Z6)
     have Z5 := Lib.hid (Y5.out.on Z6)
     clear Z6 B1 Y2 Y3 Y5 a0 a1 a2 a3 a4 a5 b0 b1 b2 b3 b4 b5 b6
     generalize grow (redrawn w1 dq) osq = w2 at *
     have FB := Lib.hid (setB_box Z5.out (.int .i64 me) (.slice no nn nc) (.slice ao n2 ac) (.slice so sn sc) (.slice eo n3 ec) (.slice oo on_ oc))
     have BL := Lib.hid (setB_below (b := w.heap.size + 1 + 1) B2.out (by omega) (.int .i64 me) (.slice no nn nc) (.slice ao n2 ac) (.slice so sn sc) (.slice eo n3 ec) (.slice oo on_ oc))
     have X2a := Z2.out
     have X5a := Z5.out
     obtain ⟨x0,x1,x2,x3,x4,x5⟩ := X2a.cs6
     obtain ⟨r0,r1,r2,r3,r4,r5⟩ := X5a.cs6
     obtain ⟨t0,t1,t2,t3,t4,t5⟩ := X5a.fs6
     have zz := X5a.lt
     clear X2a X5a
     go_wp2_with fail
     obtain ⟨v0,v1,v2,v3,v4,v5⟩ := FB.out.cs6
     refine bodyPost_ret (v := .tuple #[.agg #[.int .i64 me,.slice no nn nc,.slice ao n2 ac,.slice so sn sc,.slice eo n3 ec,.slice oo on_ oc],.bool false]) (by simp [results,Tryz.results17,go_sem,v0,v1,v2,v3,v4,v5]) rfl ?_
     rw [LB.out]
     exact ⟨⟨(eo,n3,ec),es,rfl,Or.inl ⟨rfl,rfl,rfl⟩,HR2.out⟩,BL.out⟩
  ·have LB := Lib.hid (show addB b ⟨(c,d),(g,h),p',fr,up0⟩ = (b,false) from (LA.out _ he).trans (if_pos (by omega)))
   have hge : decide ((0 : Int) ≤ (j : Int)) = true := decide_eq_true (by omega)
   rw [he] at CE
   clear LA he
   go_upto_region 2 with fail
   refine wp_region_quiet_below (by kernel_rfl) (by kernel_rfl) ?_
   repeat (go_big_quiet_step (first | (with_reducible exact CE.out _ _)))
   refine wpQuiet_nil ?_
   intro _ hw'
   obtain ⟨⟨dq,osq⟩,hw''⟩ := hw'
   subst hw''
   have Z6 := below_regrown w1 dq osq
   have B2 := Lib.hid (B1.out.trans (Z6.mono B1.out.size))
   have Z2 := Lib.hid (Y2.out.on Z6)
   have Z3 := Lib.hid (Y3.out.on Z6)
   have Z5 := Lib.hid (Y5.out.on Z6)
   clear Z6 B1 Y2 Y3 Y5 a0 a1 a2 a3 a4 a5 b0 b1 b2 b3 b4 b5 b6
   generalize grow (redrawn w1 dq) osq = w2 at *
   have FB := Lib.hid (setB_box Z5.out (.int .i64 me) (.slice no nn nc) (.slice ao n2 ac) (.slice so sn sc) (.slice eo n3 ec) (.slice oo on_ oc))
   have BL := Lib.hid (setB_below (b := w.heap.size + 1 + 1) B2.out (by omega) (.int .i64 me) (.slice no nn nc) (.slice ao n2 ac) (.slice so sn sc) (.slice eo n3 ec) (.slice oo on_ oc))
   have X2a := Z2.out
   have X5a := Z5.out
   obtain ⟨x0,x1,x2,x3,x4,x5⟩ := X2a.cs6
   obtain ⟨r0,r1,r2,r3,r4,r5⟩ := X5a.cs6
   obtain ⟨t0,t1,t2,t3,t4,t5⟩ := X5a.fs6
   have zz := X5a.lt
   clear X2a X5a
   go_wp2_with fail
   obtain ⟨v0,v1,v2,v3,v4,v5⟩ := FB.out.cs6
   refine bodyPost_ret (v := .tuple #[.agg #[.int .i64 me,.slice no nn nc,.slice ao n2 ac,.slice so sn sc,.slice eo n3 ec,.slice oo on_ oc],.bool false]) (by simp [results,Tryz.results17,go_sem,v0,v1,v2,v3,v4,v5]) rfl ?_
   rw [LB.out]
   exact ⟨⟨(eo,n3,ec),es,rfl,Or.inl ⟨rfl,rfl,rfl⟩,HR2.out⟩,BL.out⟩
theorem addB_same (b : Br) (e : En) : (addB b e).1.me = b.me ∧ (addB b e).1.near = b.near ∧ (addB b e).1.adv = b.adv ∧ (addB b e).1.seen = b.seen ∧ (addB b e).1.own = b.own := by
 unfold addB
 split
 ·exact ⟨rfl,rfl,rfl,rfl,rfl⟩
 ·split
  ·exact ⟨rfl,rfl,rfl,rfl,rfl⟩
  ·split
   ·exact ⟨rfl,rfl,rfl,rfl,rfl⟩
   ·split <;> exact ⟨rfl,rfl,rfl,rfl,rfl⟩
theorem radd_any (b : Br) (nv av sv ev ov : Sl) (z : XEn) (e : En) (w : World) (h_ : BrIn w b nv av sv ev ov) (hz : EnIn w z e) (l2 : b.adv.length ≤ 900) (l3 : b.ent.length ≤ 900) (hok : ∀ e ∈ b.ent,PredOk e.p) (hop : PredOk e.p) :
  Calls Tryz.prog 17 #[brv b.me nv av sv ev ov,valN z] w fun e' w' => (∃ ev' : Sl,e' = .returned (.tuple #[brv b.me nv av sv ev' ov,.bool (addB b e).2]) ∧ BrIn w' (addB b e).1 nv av sv ev' ov) ∧ Below w.heap.size w w' := by
 obtain ⟨es,he1,he2⟩ := h_.ent
 refine (radd2_any b nv av sv ev ov z e w es (EnIn w) h_ he1 he2 he2 (fun u => ⟨hz.1,hz.2.1,hz.2.2.1,rfl,hz.2.2.2.2⟩) hz l2 l3 hok hop).mono ?_
 rintro e1 w1 ⟨⟨ev',xs,rfl,hr,hx⟩,hb⟩
 refine ⟨⟨ev',rfl,?_⟩,hb⟩
 have hI := h_.on hb
 obtain ⟨_,a2,a3,a4,a5⟩ := addB_same b e
 refine ⟨by rw [a2]; exact hI.near,by rw [a3]; exact hI.adv,by rw [a4]; exact hI.seen,⟨xs,?_,hx.mono fun _ _ h => h.on hb⟩,by rw [a5]; exact hI.own⟩
 rcases hr with ⟨h1,h2,_⟩ | hr
 ·rw [h1,h2]
  exact he1.on hb
 ·exact Row.of_own hr
end Go.Proofs.YtncogjpmboglhaaGreat.Bk
namespace Go.Proofs.YtncogjpmboglhaaGreat.Bk
open Go.RowKit Go.Sort Rw YtncogjpmboglhaaGreat.Nm Pr
open Av
def upE (e : En) : En := { e with up := true }
def takeStep (t : Id) (s : List En × List En) (k : Nat) : List En × List En := match s.1[k]? with
 | none => s
 | some e => if e.tree = t ∧ e.up = false ∧ coveredE s.1 t e.p = false then (s.1.set k (upE e),s.2 ++ [upE e]) else s
def takeK (t : Id) (m : List En) (k : Nat) : List En × List En := (List.range k).foldl (takeStep t) (m,[])
def takeB (b : Br) (t s : Id) (f : Int) : Br × List En × Bool := match b.ent[(findK (b.ent.map keyE) (t,s)).toNat]? with
 | none => (b,[],false)
 | some e => if findK (b.ent.map keyE) (t,s) = -1 then (b,[],false) else if e.from_ ≠ f then (b,[],false) else
  if e.up = false then ({ b with ent := cutAt b.ent (findK (b.ent.map keyE) (t,s)).toNat },[],false) else
  ({ b with ent := (takeK t (cutAt b.ent (findK (b.ent.map keyE) (t,s)).toNat) (cutAt b.ent (findK (b.ent.map keyE) (t,s)).toNat).length).1 },(takeK t (cutAt b.ent (findK (b.ent.map keyE) (t,s)).toNat) (cutAt b.ent (findK (b.ent.map keyE) (t,s)).toNat).length).2,true)
theorem takeK_succ (t : Id) (m : List En) (k : Nat) : takeK t m (k + 1) = takeStep t (takeK t m k) k := by
 simp [takeK,List.range_succ]
theorem takeStep_len (t : Id) (s : List En × List En) (k : Nat) : (takeStep t s k).1.length = s.1.length ∧ (takeStep t s k).2.length ≤ s.2.length + 1 := by
 unfold takeStep
 split
 ·exact ⟨rfl,Nat.le_succ _⟩
 ·split
  ·simp
  ·exact ⟨rfl,Nat.le_succ _⟩
theorem takeK_len (t : Id) (m : List En) : ∀ k,(takeK t m k).1.length = m.length ∧ (takeK t m k).2.length ≤ k
 | 0 => ⟨rfl,Nat.le_refl _⟩
 | k + 1 => by
  rw [takeK_succ]
  have h1 := takeK_len t m k
  have h2 := takeStep_len t (takeK t m k) k
  omega
theorem takeK_ok {t : Id} {m : List En} (P : List C5 → Prop) (h : ∀ e ∈ m,P e.p) : ∀ k,(∀ e ∈ (takeK t m k).1,P e.p) ∧ ∀ e ∈ (takeK t m k).2,P e.p
 | 0 => ⟨h,fun e he => by simp [takeK] at he⟩
 | k + 1 => by
  have ih := takeK_ok (t := t) P h k
  rw [takeK_succ]
  unfold takeStep
  split
  ·exact ih
  ·rename_i e he
   split
   ·refine ⟨fun x hx => ?_,fun x hx => ?_⟩
    ·rcases List.mem_or_eq_of_mem_set hx with h1 | h1
     ·exact ih.1 x h1
     ·rw [h1]
      exact ih.1 e (List.mem_of_getElem? he)
    ·rcases List.mem_append.1 hx with h1 | h1
     ·exact ih.2 x h1
     ·rw [List.mem_singleton.1 h1]
      exact ih.1 e (List.mem_of_getElem? he)
   ·exact ih
theorem flatN_up : ∀ (l : List XEn) (k : Nat) (x : XEn),l[k]? = some x → flat EN (l.set k (x.1,x.2.1,x.2.2.1,x.2.2.2.1,x.2.2.2.2.1,x.2.2.2.2.2.1,true)) = (flat EN l).set (k * 7 + 6) (.bool true)
 | [],k,x,h => by simp at h
 | y :: r,0,x,h => by
  obtain rfl : y = x := by simpa using h
  rfl
 | y :: r,k + 1,x,h => by
  have ih := flatN_up r k x (by simpa using h)
  rw [show (k + 1) * 7 + 6 = (k * 7 + 6) + 1 + 1 + 1 + 1 + 1 + 1 + 1 by omega]
  simp only [List.set_cons_succ,flat,EN,cellsN,List.cons_append,List.nil_append] at ih ⊢
  rw [ih]
theorem own_upN {w : World} {B g n cap k : Nat} {l : List XEn} {x : XEn} (h : OwnN w B (.slice (some ⟨g,0,none⟩) n cap) l) (hk : l[k]? = some x) :
  OwnN (w.setCell ⟨g,k * 7 + 6,none⟩ (.bool true)) B (.slice (some ⟨g,0,none⟩) n cap) (l.set k (x.1,x.2.1,x.2.2.1,x.2.2.2.1,x.2.2.2.2.1,x.2.2.2.2.2.1,true)) ∧ w.cell? ⟨g,k * 7 + 6,none⟩ = some (.bool x.2.2.2.2.2.2) ∧ w.frozen? ⟨g,k * 7 + 6,none⟩ = false := by
 have c := own_row_at okN h hk w (Below.refl _ _)
 have c6 := c 6 _ rfl
 simp [Addr.add,EN] at c6
 obtain ⟨cur,hb⟩ := own_tag h
 obtain ⟨ao,c',hv⟩ := (Row.of_own h).len
 obtain ⟨_,rfl,_⟩ : some ⟨g,0,none⟩ = ao ∧ n = l.length ∧ cap = c' := by simpa using hv
 have h : w.ownsRow B 43 7 (.slice (some ⟨g,0,none⟩) l.length cap) l.length (flat EN l) := h
 have t1 := (h.stored (k * 7 + 6) (.bool true)).1
 refine ⟨?_,c6,hb.fr _⟩
 have e := flatN_up l k x hk
 show World.ownsRow _ B 43 7 _ (List.length _) (flat EN _)
 rw [e,List.length_set]
 exact t1
theorem All2.set2 {α β : Type} {R : α → β → Prop} : ∀ {l : List α} {m : List β} (k : Nat) {a : α} {b : β},All2 R l m → R a b → All2 R (l.set k a) (m.set k b)
 | _,_,_,_,_,.nil,_ => .nil
 | _,_,0,_,_,.cons _ t,hr => .cons hr t
 | _,_,k + 1,_,_,.cons x t,hr => .cons x (All2.set2 k t hr)
theorem four_new (w : World) (c d e f : Array Value) (r s t u : TypeId) : Below w.heap.size w ((((w.alloc (.cells c r)).alloc (.cells d s)).alloc (.cells e t)).alloc (.cells f u)) ∧ Box ((((w.alloc (.cells c r)).alloc (.cells d s)).alloc (.cells e t)).alloc (.cells f u)) w.heap.size c r ∧ Box ((((w.alloc (.cells c r)).alloc (.cells d s)).alloc (.cells e t)).alloc (.cells f u)) (w.heap.size + 1) d s ∧ Box ((((w.alloc (.cells c r)).alloc (.cells d s)).alloc (.cells e t)).alloc (.cells f u)) (w.heap.size + 1 + 1) e t ∧ Box ((((w.alloc (.cells c r)).alloc (.cells d s)).alloc (.cells e t)).alloc (.cells f u)) (w.heap.size + 1 + 1 + 1) f u := by
 obtain ⟨h0,h1,h2,h3⟩ := three_new w c d e r s t
 refine ⟨h0.alloc h0.size _,h1.more _,h2.more _,h3.more _,?_⟩
 have h := box_new (((w.alloc (.cells c r)).alloc (.cells d s)).alloc (.cells e t)) f u
 have e2 : (((w.alloc (.cells c r)).alloc (.cells d s)).alloc (.cells e t)).heap.size = w.heap.size + 1 + 1 + 1 := by simp
 rw [e2] at h
 exact h
end Go.Proofs.YtncogjpmboglhaaGreat.Bk
namespace Go.Proofs.YtncogjpmboglhaaGreat.Rl
open Go.RowKit Go.Sort Pu Rw Pr Va
abbrev z5 : C5 := (⟨#[]⟩,0,0,0,⟨#[]⟩)
def ofV : Option Cn → Value
 | some y => .tuple #[cv (r5 y),.bool true]
 | none => .tuple #[cv z5,.bool false]
theorem of_any (pv : Value) (p : List Cn) (n : ByteArray) (w : World) (hp : RowC w pv (p.map r5)) (_h100 : p.length ≤ 100) :
  Calls Tryz.prog 149 #[pv,.string n] w fun e w' => e = .returned (ofV (ofC p n)) ∧ Below w.heap.size w w' := by
 have HP := Lib.hid hp
 obtain ⟨ao,ac,rfl⟩ := hp.len
 rw [List.length_map] at HP ⊢
 generalize hm : p.length = m at *
 have HM := Lib.hid hm
 clear hp hm
 have B0 := Lib.hid (show Below w.heap.size w (w.alloc (.cells #[.string ⟨#[]⟩,.int .i64 0,.int .i64 0,.int .i64 0,.string ⟨#[]⟩] 47)) from (Below.refl _ _).alloc (Nat.le_refl _) _)
 have Z0 := Lib.hid (show Box (w.alloc (.cells #[.string ⟨#[]⟩,.int .i64 0,.int .i64 0,.int .i64 0,.string ⟨#[]⟩] 47)) w.heap.size (cells5 z5).toArray 47 from box_new w _ _)
 go_enter Tryz.func149,Tryz.ntmps149
 go_wp2
 generalize w.alloc (.cells #[.string ⟨#[]⟩,.int .i64 0,.int .i64 0,.int .i64 0,.string ⟨#[]⟩] 47) = w1 at B0 Z0 ⊢
 go_loopw [10] (fun i wr => ∃ k : Nat,k ≤ m ∧ i = .int .i64 k ∧ Below w.heap.size w wr ∧ Box wr w.heap.size (cells5 z5).toArray 47 ∧ ∀ (j : Nat) (y : Cn),j < k → p[j]? = some y → y.1 ≠ n) (fun i _ => m - (intOf i).toNat)
 case atStart => exact ⟨0,Nat.zero_le _,rfl,B0.out,Z0.out,fun j y h => by omega⟩
 case round =>
  obtain ⟨k,hk,rfl,hb,ht,hall⟩ := hrel
  have HB := Lib.hid hb
  have HT := Lib.hid ht
  have AL := Lib.hid hall
  clear hb hall ht
  by_cases hlt : k < m
  ·obtain ⟨⟨xn,xk⟩,hx⟩ : ∃ x,p[k]? = some x := ⟨_,List.getElem?_eq_getElem (by rw [HM.out]; exact hlt)⟩
   obtain ⟨q,ix,px⟩ := elC (x := r5 (xn,xk)) HP.out rfl (by rw [List.length_map]; exact HM.out) (by rw [List.getElem?_map,hx]; rfl)
   obtain ⟨p0,p1,p2,p3,p4⟩ := px _ HB.out
   have HX := Lib.hid hx
   have B4 := Lib.hid (HB.out.alloc HB.out.size (.cells #[.string xn,.int .i64 (kN xk),.int .i64 (kLo xk),.int .i64 (kHi xk),.string (kT xk)] 47))
   have T4 := Lib.hid (HT.out.more (.cells #[.string xn,.int .i64 (kN xk),.int .i64 (kLo xk),.int .i64 (kHi xk),.string (kT xk)] 47))
   clear hx px
   simp only [r5] at p0 p1 p2 p3 p4
   by_cases he : xn = n
   ·have hn : (xn.toList == n.toList) = true := by rw [he]; exact beq_self_eq_true _
    have R := Lib.hid (of_at HX.out he AL.out)
    clear he
    obtain ⟨c0,c1,c2,c3,c4⟩ := box_five HT.out
    have f0 := HT.out.fr 0
    have f1 := HT.out.fr 1
    have f2 := HT.out.fr 2
    have f3 := HT.out.fr 3
    have f4 := HT.out.fr 4
    have hlt4 := HT.out.lt
    simp only at c0 c1 c2 c3 c4
    go_wp2
    have T5 := (box_store HT.out (xn,kN xk,kLo xk,kHi xk,kT xk)).more (.cells #[.string xn,.int .i64 (kN xk),.int .i64 (kLo xk),.int .i64 (kHi xk),.string (kT xk)] 47)
    have B5 := (below_five HB.out w.heap.size (Nat.le_refl _) (.string xn) (.int .i64 (kN xk)) (.int .i64 (kLo xk)) (.int .i64 (kHi xk)) (.string (kT xk))).alloc (below_five HB.out w.heap.size (Nat.le_refl _) (.string xn) (.int .i64 (kN xk)) (.int .i64 (kLo xk)) (.int .i64 (kHi xk)) (.string (kT xk))).size (.cells #[.string xn,.int .i64 (kN xk),.int .i64 (kLo xk),.int .i64 (kHi xk),.string (kT xk)] 47)
    generalize World.alloc _ (.cells #[.string xn,.int .i64 (kN xk),.int .i64 (kLo xk),.int .i64 (kHi xk),.string (kT xk)] 47) = w6 at T5 B5 ⊢
    obtain ⟨d0,d1,d2,d3,d4⟩ := box_five T5
    simp only at d0 d1 d2 d3 d4
    refine bodyPost_ret (v := ofV (some (xn,xk))) (by simp [results,Tryz.results149,go_sem,d0,d1,d2,d3,d4,ofV,r5]) rfl ⟨by rw [R.out],B5⟩
   ·have hn : (xn.toList == n.toList) = false := by rw [beq_eq_false_iff_ne]; exact fun h => he (name_inj h)
    have HE := Lib.hid he
    clear he
    go_wp2
    go_roundw
    case rel => exact ⟨k + 1,by omega,by go_num,B4.out,T4.out,fun j y hj hy => by
     rcases Nat.lt_or_ge j k with h3 | h3
     ·exact AL.out j y h3 hy
     ·obtain rfl : j = k := by omega
      have e := HX.out
      rw [hy] at e
      rw [Option.some.inj e]
      exact HE.out⟩
    case measure => simp [intOf]; omega
  ·obtain rfl : k = m := by omega
   have R := Lib.hid (of_none (p := p) (n := n) (fun j y hj hy => AL.out j y (by rw [← HM.out]; exact hj) hy))
   obtain ⟨c0,c1,c2,c3,c4⟩ := box_five HT.out
   have f0 := HT.out.fr 0
   have f1 := HT.out.fr 1
   have f2 := HT.out.fr 2
   have f3 := HT.out.fr 3
   have f4 := HT.out.fr 4
   have hlt4 := HT.out.lt
   simp only at c0 c1 c2 c3 c4
   go_wp2
   have T5 := box_store HT.out z5
   have B5 := below_five HB.out w.heap.size (Nat.le_refl _) (.string ⟨#[]⟩) (.int .i64 0) (.int .i64 0) (.int .i64 0) (.string ⟨#[]⟩)
   simp only at T5
   generalize World.setCell _ _ (.string ⟨#[]⟩) = w6 at T5 B5 ⊢
   obtain ⟨d0,d1,d2,d3,d4⟩ := box_five T5
   simp only at d0 d1 d2 d3 d4
   refine bodyPost_ret (v := ofV none) (by simp [results,Tryz.results149,go_sem,d0,d1,d2,d3,d4,ofV]) rfl ⟨by rw [R.out],B5⟩
theorem wider_any (n : ByteArray) (c d : Kd) (w : World) (hc : goodK c = true) (hd : goodK d = true) :
  Calls Tryz.prog 150 #[cv (r5 (n,c)),cv (r5 (n,d))] w fun e w' => e = .returned (.bool (impliesK d c)) ∧ Below w.heap.size w w' := by
 obtain ⟨ba,bb,hb⟩ := box2 w (r5 (n,c)) (r5 (n,d))
 have BB := Lib.hid bb
 have B := Lib.hid hb
 have CB := Lib.hid (both_any (n,c) (n,d) ((w.alloc (.cells (cells5 (r5 (n,c))).toArray 47)).alloc (.cells (cells5 (r5 (n,d))).toArray 47)) rfl)
 have WS := Lib.hid (fun k (h : bothK c d = some k) => wider_some (n := n) hc hd h)
 have WN := Lib.hid (fun (h : bothK c d = none) => wider_none hd h)
 simp only at CB
 generalize bothK c d = r at *
 generalize impliesK d c = i at *
 clear ba bb hb hc hd
 simp only [r5] at CB ⊢
 go_enter Tryz.func150,Tryz.ntmps150
 go_wp2_with fail
 refine CB.out.mono ?_
 rintro e w2 ⟨⟨y,rfl,hy⟩,hb2⟩
 have B2 := Lib.hid (B.out.trans (hb2.mono B.out.size))
 obtain ⟨b0,b1,b2,b3,b4⟩ := box_five (BB.out.on hb2)
 simp only [r5] at b0 b1 b2 b3 b4
 have B3 := Lib.hid (B2.out.alloc B2.out.size (.cells #[.string y.1,.int .i64 y.2.1,.int .i64 y.2.2.1,.int .i64 y.2.2.2.1,.string y.2.2.2.2] 47))
 have HY := Lib.hid hy
 have hw2 : w.heap.size + 1 < w2.heap.size := by have := hb2.size; simp at this; omega
 clear hb2 CB BB B hy
 rcases r with _ | k
 ·have E := Lib.hid (WN.out rfl)
  clear WN WS
  go_wp2
  go_ret
  exact ⟨ret_bool E.out.symm,B3.out⟩
 ·have E := Lib.hid (show eqlC y (r5 (n,d)) = i by rw [HY.out k rfl]; exact WS.out k rfl)
  obtain ⟨y0,y1,y2,y3,y4⟩ := y
  clear WN WS HY B3
  go_wp2
  all_goals go_ret
  all_goals exact ⟨ret_bool (by rw [← E.out]; simp [eqlC,r5, *]),B2.out.alloc B2.out.size _⟩
end Go.Proofs.YtncogjpmboglhaaGreat.Rl
namespace Go.Proofs.YtncogjpmboglhaaGreat.At
open Go.RowKit Go.Sort Va In
end Go.Proofs.YtncogjpmboglhaaGreat.At
namespace Go.Proofs.YtncogjpmboglhaaGreat.Rl
open Go.RowKit Pu Rw Pr
end Go.Proofs.YtncogjpmboglhaaGreat.Rl
namespace Go.Proofs.YtncogjpmboglhaaGreat.Rl
open Go.RowKit Pu Rw Pr Va
end Go.Proofs.YtncogjpmboglhaaGreat.Rl
namespace Go.Proofs.YtncogjpmboglhaaGreat.Rg
open Go.RowKit
end Go.Proofs.YtncogjpmboglhaaGreat.Rg
namespace Go.Proofs.YtncogjpmboglhaaGreat.Rg
open Go.RowKit Rw
end Go.Proofs.YtncogjpmboglhaaGreat.Rg
namespace Go.Proofs.YtncogjpmboglhaaGreat.Rg
open Go.RowKit Rw
structure SeenX (i N A S : Nat) (d last : Nat → Nat) (V : Nat → Value → World → Prop) (base : Act) (o : Oper) (a : Act) (x : World) : Prop where
 kp : ∀ j u,(∀ i,i < N → d i ≠ j) → base.tmps[j]? = some u → a.eval (.tmp j) = u
 at_ : ∀ e ∈ o.after,Region.binds .any e = true → e.on ≠ A → e.on ≠ S → (last e.on = i ∨ N ≤ last e.on) → V e.on (a.eval (.tmp (d e.on))) x
structure InX (l : List Oper) (N A S C : Nat) (d last : Nat → Nat) (V : Nat → Value → World → Prop) (t : TypeId) (zero : Array Value) (cof : Value → Array Value) (base : Act) (W : World) (L : Array Bool) (a : Act) (x : World) : Prop where
 cl : ∀ i o,done L i → l[i]? = some o → ∀ e ∈ o.after,Region.binds .any e = true → done L e.on
 no : ∀ i,N ≤ i → ¬ done L i
 df : a.defers = base.defers
 sz : a.tmps.size = base.tmps.size
 kp : ∀ j,(∀ i,i < N → d i ≠ j) → a.tmps[j]? = base.tmps[j]?
 bel : Below W.heap.size W x
 val : ∃ vs : Nat → Value,∀ i,i < N → i ≠ S → done L i → a.tmps[d i]? = some (vs i) ∧ (i ≠ A → ¬ done L (last i) → V i (vs i) x)
 box : done L A → ¬ done L S → ∃ bb,a.tmps[d A]? = some (.pointer (some ⟨bb,0,none⟩)) ∧ W.heap.size ≤ bb ∧ Box x bb zero t
 fin : done L S → ∃ bb v,a.tmps[d A]? = some (.pointer (some ⟨bb,0,none⟩)) ∧ a.tmps[d C]? = some v ∧ W.heap.size ≤ bb ∧ Box x bb (cof v) t ∧ V C v x
theorem region_mk {P : Program} {Q : Exit → Act → World → Prop} {id : Nat} {base : Act} {W : World} {l : List Oper} (N A S C : Nat) (d last : Nat → Nat) (V : Nat → Value → World → Prop) (t : TypeId) (zero : Array Value) (cof : Value → Array Value)
  (hm : P.follows .mixedOrders = true) (hf : fore l.toArray = true) (hN : l.length = N) (hA : A < N) (hS : S < N) (hC : C < N) (hAS : A ≠ S) (hCS : C ≠ S) (hAC : A ≠ C) (hlC : N ≤ last C)
  (hinj : ∀ i j,i < N → j < N → i ≠ S → j ≠ S → d i = d j → i = j) (hs : ∀ i,i < N → d i < base.tmps.size)
  (hV : ∀ i v x x',i < N → V i v x → Below x.heap.size x x' → V i v x')
  (hw : ∀ o,l[S]? = some o → (∃ e ∈ o.after,Region.binds .any e = true ∧ e.on = A) ∧ ∃ e ∈ o.after,Region.binds .any e = true ∧ e.on = C)
  (hop : ∀ i o,i < N → i ≠ A → i ≠ S → l[i]? = some o → ∀ a x,Below W.heap.size W x → SeenX i N A S d last V base o a x → ∀ K : Act → World → Prop,(∀ v x',V i v x' → Below x.heap.size x x' → K (a.put (some (d i)) v) x') → wpOp P l.toArray Q i K a x)
  (hoA : ∀ o,l[A]? = some o → ∀ a x,∀ K : Act → World → Prop,K (a.put (some (d A)) (.pointer (some ⟨x.heap.size,0,none⟩))) (x.alloc (.cells zero t)) → wpOp P l.toArray Q A K a x)
  (hoS : ∀ o,l[S]? = some o → ∀ a x bb v (D : Nat → Prop),(∀ j oj,D j → l[j]? = some oj → ∀ e ∈ oj.after,Region.binds .any e = true → D e.on) → (∀ e ∈ o.after,Region.binds .any e = true → D e.on) → Below W.heap.size W x → a.eval (.tmp (d A)) = .pointer (some ⟨bb,0,none⟩) → a.eval (.tmp (d C)) = v → V C v x → W.heap.size ≤ bb → Box x bb zero t → ∀ K : Act → World → Prop,(∀ x',Below W.heap.size W x' → Box x' bb (cof v) t → (∀ j u,j < N → j ≠ A → j ≠ S → D j → ¬ D (last j) → last j ≠ S → V j u x → V j u x') → K a x') → wpOp P l.toArray Q S K a x)
  (hend : ∀ a x bb v,a.defers = base.defers → a.tmps.size = base.tmps.size → (∀ j,(∀ i,i < N → d i ≠ j) → a.tmps[j]? = base.tmps[j]?) → a.tmps[d A]? = some (.pointer (some ⟨bb,0,none⟩)) → a.tmps[d C]? = some v → W.heap.size ≤ bb → Box x bb (cof v) t → V C v x → Below W.heap.size W x → (∃ vs : Nat → Value,∀ i,i < N → i ≠ S → i ≠ A → a.tmps[d i]? = some (vs i) ∧ (N ≤ last i → V i (vs i) x)) → Q .normal a x) : (Code.region id l.toArray true).wp P Q base W := by
 refine region_inv (fun L a x => InX l N A S C d last V t zero cof base W L a x) hm hf ?_ ?_ ?_
 ·exact ⟨fun i o h => absurd h (none_done _ _),fun i _ => none_done _ _,rfl,rfl,fun _ _ => rfl,(Below.refl _ _).drew,⟨fun _ => .bool true,fun i _ _ h => absurd h (none_done _ _)⟩,fun h => absurd h (none_done _ _),fun h => absurd h (none_done _ _)⟩
 ·intro L a x i o hsz I ho hnd hdep
  have hi : i < l.length := (List.getElem?_eq_some_iff.1 ho).1
  have hiN : i < N := by omega
  have hiL : i < L.size := by omega
  obtain ⟨vs,hvs⟩ := I.val
  have hon : ∀ e ∈ o.after,Region.binds .any e = true → e.on < i := fun e he hb => by
   have h7 := List.all_eq_true.1 hf i (List.mem_range.2 (by simpa using hi))
   have ho' : (l.toArray)[i]? = some o := by simpa using ho
   rw [ho'] at h7
   have h8 := Array.all_eq_true'.1 h7 e he
   rw [hb] at h8
   simpa using h8
  have dd : ∀ {k},k ≠ i → done (L.setIfInBounds i true) k → done L k := fun {k} h h5 => ((done_set hiL k).1 h5).resolve_left h
  have du : ∀ {k},done L k → done (L.setIfInBounds i true) k := fun {k} h => (done_set hiL k).2 (Or.inr h)
  have cl' : ∀ k q,done (L.setIfInBounds i true) k → l[k]? = some q → ∀ e ∈ q.after,Region.binds .any e = true → done (L.setIfInBounds i true) e.on := fun k q hk hq e he hb => by
   by_cases e2 : k = i
   ·subst e2
    rw [hq] at ho
    cases ho
    exact du (hdep e he hb)
   ·exact du (I.cl k q (dd e2 hk) hq e he hb)
  have no' : ∀ k,N ≤ k → ¬ done (L.setIfInBounds i true) k := fun k hk h => I.no k hk (dd (by omega) h)
  have seen : SeenX i N A S d last V base o a x := ⟨fun j u hj hu => eval_some (by rw [I.kp j hj]; exact hu),fun e he hb hA' hS' hl => by
   obtain ⟨h1,h2⟩ := hvs e.on (by have := hon e he hb; omega) hS' (hdep e he hb)
   rw [eval_some h1]
   refine h2 hA' ?_
   rcases hl with hl | hl
   ·rw [hl]; exact hnd
   ·exact I.no _ hl⟩
  have putI : i ≠ S → ∀ v x',Below x.heap.size x x' → (i ≠ A → V i v x') → (i = A → ∃ bb,v = .pointer (some ⟨bb,0,none⟩) ∧ W.heap.size ≤ bb ∧ Box x' bb zero t) → InX l N A S C d last V t zero cof base W (L.setIfInBounds i true) (a.put (some (d i)) v) x' := by
   intro hiS v x' hb hpv hpa
   have self : (a.put (some (d i)) v).tmps[d i]? = some v := by
    have h5 : d i < a.tmps.size := by rw [I.sz]; exact hs i hiN
    simp [Act.put,h5]
   have keep : ∀ k,k < N → k ≠ S → k ≠ i → (a.put (some (d i)) v).tmps[d k]? = a.tmps[d k]? := fun k hk hkS hki => get_put _ _ _ _ (fun e => hki (hinj _ _ hk hiN hkS hiS e))
   refine ⟨cl',no',I.df,by rw [size_put]; exact I.sz,fun j hj => ?_,I.bel.trans (hb.mono I.bel.size),⟨fun k => if k = i then v else vs k,fun k hk hkS hdn => ?_⟩,fun h1 h2 => ?_,fun h1 => ?_⟩
   ·rw [get_put _ _ _ _ (fun e => hj i hiN e.symm)]
    exact I.kp j hj
   ·by_cases e : k = i
    ·subst e
     simp only [if_true]
     exact ⟨self,fun h3 _ => hpv h3⟩
    ·simp only [if_neg e]
     obtain ⟨h3,h4⟩ := hvs k hk hkS (dd e hdn)
     exact ⟨by rw [keep k hk hkS e]; exact h3,fun h5 h6 => hV k _ _ _ hk (h4 h5 (fun h => h6 (du h))) hb⟩
   ·by_cases e : A = i
    ·subst e
     obtain ⟨bb,rfl,h4,h5⟩ := hpa rfl
     exact ⟨bb,self,h4,h5⟩
    ·obtain ⟨bb,h3,h4,h5⟩ := I.box (dd e h1) (fun h => h2 (du h))
     exact ⟨bb,by rw [keep A hA hAS e]; exact h3,h4,h5.on hb⟩
   ·have h2 := dd (Ne.symm hiS) h1
    obtain ⟨bb,u,h5,h6,h7,h8,h9⟩ := I.fin h2
    obtain ⟨oS,hoS'⟩ : ∃ oS,l[S]? = some oS := ⟨_,List.getElem?_eq_getElem (by omega)⟩
    obtain ⟨⟨ea,k1,k2,k3⟩,ec,k4,k5,k6⟩ := hw oS hoS'
    have dA := I.cl S oS h2 hoS' ea k1 k2
    have dC := I.cl S oS h2 hoS' ec k4 k5
    rw [k3] at dA
    rw [k6] at dC
    have eA : A ≠ i := fun e => hnd (e ▸ dA)
    have eC : C ≠ i := fun e => hnd (e ▸ dC)
    exact ⟨bb,u,by rw [keep A hA hAS eA]; exact h5,by rw [keep C hC hCS eC]; exact h6,h7,h8.on hb,hV C _ _ _ hC h9 hb⟩
  by_cases hiS : i = S
  ·subst hiS
   obtain ⟨⟨ea,h1,h2,h3⟩,ec,h4,h5,h6⟩ := hw o ho
   have dA := hdep ea h1 h2
   have dC := hdep ec h4 h5
   rw [h3] at dA
   rw [h6] at dC
   obtain ⟨v1,v2⟩ := hvs C hC hCS dC
   obtain ⟨bb,b1,b2,b3⟩ := I.box dA hnd
   have vC := v2 (Ne.symm hAC) (I.no _ hlC)
   refine hoS o ho a x bb (vs C) (done L) I.cl hdep I.bel (eval_some b1) (eval_some v1) vC b2 b3 _ (fun x' q1 q2 q3 => ⟨cl',no',I.df,I.sz,I.kp,q1,⟨vs,fun k hk hkS hdn => ?_⟩,fun _ hn => absurd ((done_set hiL _).2 (Or.inl rfl)) hn,fun _ => ⟨bb,vs C,b1,v1,b2,q2,?_⟩⟩)
   ·obtain ⟨w1,w2⟩ := hvs k hk hkS (dd hkS hdn)
    refine ⟨w1,fun hkA hnl => ?_⟩
    have n1 : last k ≠ i := fun e => hnl ((done_set hiL _).2 (Or.inl e))
    have n2 : ¬ done L (last k) := fun e => hnl (du e)
    exact q3 k _ hk hkA hkS (dd hkS hdn) n2 n1 (w2 hkA n2)
   ·exact q3 C _ hC (Ne.symm hAC) hCS dC (I.no _ hlC) (by omega) vC
  ·by_cases hiA : i = A
   ·subst hiA
    refine hoA o ho a x _ (putI hiS _ _ ((Below.refl _ _).alloc (Nat.le_refl _) _) (fun h => absurd rfl h) (fun _ => ⟨x.heap.size,rfl,I.bel.size,box_new x zero t⟩))
   ·refine hop i o hiN hiA hiS ho a x I.bel seen _ (fun v x' q1 q2 => putI hiS v x' q2 (fun _ => q1) (fun e => absurd e hiA))
 ·intro L a x I hd
  have dS := hd S (by omega)
  obtain ⟨bb,v,h1,h2,h3,h4,h5⟩ := I.fin dS
  obtain ⟨vs,hvs⟩ := I.val
  exact hend a x bb v I.df I.sz I.kp h1 h2 h3 h4 h5 I.bel ⟨vs,fun i hi hiS hiA => by
   obtain ⟨k1,k2⟩ := hvs i hi hiS (hd i (by omega))
   exact ⟨k1,fun hl => k2 hiA (I.no _ hl)⟩⟩
end Go.Proofs.YtncogjpmboglhaaGreat.Rg
namespace Go.Proofs.YtncogjpmboglhaaGreat.Pr
open Go.RowKit Go.ChangeShapes Go.WideShapes In
theorem cellsP : Tryz.prog.cellsOf 53 = 2 := by kernel_rfl
theorem cellsIs : Tryz.prog.cellsOf 25 = 1 := by kernel_rfl
end Go.Proofs.YtncogjpmboglhaaGreat.Pr
namespace Go.Proofs.YtncogjpmboglhaaGreat.Av
open Go.RowKit Go.ChangeShapes Go.WideShapes Bk
end Go.Proofs.YtncogjpmboglhaaGreat.Av
namespace Go.Proofs.YtncogjpmboglhaaGreat.Rg
open Go.RowKit
end Go.Proofs.YtncogjpmboglhaaGreat.Rg
