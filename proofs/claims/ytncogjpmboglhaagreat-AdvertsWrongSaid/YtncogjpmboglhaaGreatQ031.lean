/-
  Copy of package adverts: the same in new memory. Conditions as told.
-/
import Derived.Test.YtncogjpmboglhaaGreatQ029
import Derived.Test.YtncogjpmboglhaaGreatQ030
set_option maxRecDepth 100000
set_option maxHeartbeats 64000000
namespace Go.Proofs.YtncogjpmboglhaaGreat.Av
open Go.RowKit Go.Sort Rw YtncogjpmboglhaaGreat.Nm Pr Bk
structure FewP (b : Br) : Prop where
 adv : ∀ a ∈ b.adv,a.p.length ≤ 900
 ent : ∀ a ∈ b.ent,a.p.length ≤ 900
 own : ∀ a ∈ b.own,a.p.length ≤ 900
theorem own_row_len {α : Type} {E : Ek α} {W : World} {B n cap : Nat} {o : Option Addr} {l : List α} (h : Own E W B (.slice o n cap) l) : l.length = n := by
 obtain ⟨_,_,hv⟩ := (Row.of_own h).len
 have : n = l.length := by simpa using congrArg (fun v => match v with | Value.slice _ n _ => n | _ => 0) hv
 exact this.symm
theorem own_some {α : Type} {E : Ek α} {W : World} {B n cap : Nat} {o : Option Addr} {l : List α} (h : Own E W B (.slice o n cap) l) (hn : 0 < n) : ∃ g,o = some ⟨g,0,none⟩ ∧ B ≤ g := by
 have hl := own_row_len h
 rcases own_open h with ⟨_,h2⟩ | ⟨g,c',cur,h1,h2,_⟩
 ·rw [h2] at hl; simp at hl; omega
 ·exact ⟨g,by simp at h1; exact h1.1,h2⟩
theorem but_setB (w : World) (b : Nat) (a0 a1 a2 a3 a4 a5 : Value) : But b w (setB w b a0 a1 a2 a3 a4 a5) :=
 (((but_cell _ b _ _).trans (but_cell _ b _ _)).trans ((but_cell _ b _ _).trans (but_cell _ b _ _))).trans ((but_cell _ b _ _).trans (but_cell _ b _ _))
theorem Cs.done {w0 w wr : World} {b : Br} {nv av sv ev ov : Sl} (h : Cs w0 w wr b nv av sv ev ov) (a0 a1 a2 a3 a4 a5 : Value) : Cp w0 w.heap.size (setB wr (w.heap.size + 1) a0 a1 a2 a3 a4 a5) b nv av sv ev ov ∧ Below w.heap.size w (setB wr (w.heap.size + 1) a0 a1 a2 a3 a4 a5) :=
 ⟨Cp.but ⟨h.near,h.seen,h.adv,h.ent,h.own⟩ (but_setB wr (w.heap.size + 1) a0 a1 a2 a3 a4 a5) h.bz,setB_below h.bel (by omega) a0 a1 a2 a3 a4 a5⟩
theorem acopy_any (b : Br) (nv av sv ev ov : Sl) (w0 w : World) (hw0 : Below w0.heap.size w0 w) (h : BrIn w0 b nv av sv ev ov) (hf : Few b) (hp : FewP b) :
  Calls Tryz.prog 76 #[brv b.me nv av sv ev ov] w fun e w' => (∃ nv' av' sv' ev' ov' : Sl,e = .returned (brv b.me nv' av' sv' ev' ov') ∧ Cp w0 w.heap.size w' b nv' av' sv' ev' ov') ∧ Below w.heap.size w w' := by
 obtain ⟨no,nn,nc⟩ := nv
 obtain ⟨ao,an,ac⟩ := av
 obtain ⟨so,sn,sc⟩ := sv
 obtain ⟨eo,en,ec⟩ := ev
 obtain ⟨oo,on_,oc⟩ := ov
 obtain ⟨la,ha1,ha2⟩ := h.adv
 obtain ⟨le,he1,he2⟩ := h.ent
 obtain ⟨lo_,ho1,ho2⟩ := h.own
 have HA := Lib.hid ha2
 have HE := Lib.hid he2
 have HO := Lib.hid ho2
 have R0 := Lib.hid (h.near.on hw0)
 have R1 := Lib.hid (ha1.on hw0)
 have R2 := Lib.hid (h.seen.on hw0)
 have R3 := Lib.hid (he1.on hw0)
 have R4 := Lib.hid (ho1.on hw0)
 have W0 := Lib.hid hw0
 have HP := Lib.hid hp
 have LL0 := Lib.hid hf.near
 have LL1 := Lib.hid (show la.length ≤ 900 by rw [ha2.len]; exact hf.adv)
 have LL2 := Lib.hid hf.seen
 have LL3 := Lib.hid (show le.length ≤ 900 by rw [he2.len]; exact hf.ent)
 have LL4 := Lib.hid (show lo_.length ≤ 900 by rw [ho2.len]; exact hf.own)
 obtain ⟨h0,h1,h2⟩ := two_new w #[.int .i64 b.me,.slice no nn nc,.slice ao an ac,.slice so sn sc,.slice eo en ec,.slice oo on_ oc] #[.int .i64 0,.slice none 0 0,.slice none 0 0,.slice none 0 0,.slice none 0 0,.slice none 0 0] 31 31
 have B0 := Lib.hid h0
 have XB := Lib.hid h1
 have ZB := Lib.hid h2
 clear h0 h1 h2 h hf hp hw0 ha1 ha2 he1 he2 ho1 ho2
 go_enter Tryz.func76,Tryz.ntmps76
 go_upto_region 1 with fail
 generalize (w.alloc (.cells #[.int .i64 b.me,.slice no nn nc,.slice ao an ac,.slice so sn sc,.slice eo en ec,.slice oo on_ oc] 31)).alloc (.cells #[.int .i64 0,.slice none 0 0,.slice none 0 0,.slice none 0 0,.slice none 0 0,.slice none 0 0] 31) = W at *
 refine cp1 _ W w.heap.size b.me (.slice ao an ac) (.slice eo en ec) (.slice oo on_ oc) no nn nc b.near so sn sc b.seen _ _ _ _ _ _ _ _ _ _ _ _ _ _ _ _ _ _ _ _ _ _ _ _ _ _ _ _ _ _ _ _ _ _ _ _ _ _ _ _ _ _ _ _ _ _ _ _ _ _ _ _ _ _ _ _ _ _ _ _ _ _ _ _ _ _ _ _ _ _ _ _ _ _ _ _ _ _ _ _ _ XB.out (R0.out.on B0.out) (R2.out.on B0.out) LL0.out LL2.out ?_
 intro x1 v6 v7 v8 v9 v10 v11 v12 v13 p1 q1 s1 p3 q3 s3 hb1 hn1 hs1 hbel1 hsame1
 have B1 := Lib.hid (B0.out.trans (hbel1 _ (Nat.le_refl _)))
 have S1 := Lib.hid (show W.heap.size ≤ x1.heap.size from (hbel1 _ (Nat.le_refl _)).size)
 have ZB1 := Lib.hid (show Box x1 (w.heap.size + 1) _ _ from (hsame1 _ ZB.out.lt (by omega)).trans ZB.out)
 have XB1 := Lib.hid hb1
 have N1 := Lib.hid (own_fewer hn1 B0.out.size)
 have J1 := Lib.hid (own_fewer hs1 B0.out.size)
 clear hb1 hn1 hs1 hbel1 hsame1 XB ZB
 go_upto_region 2 with fail
 refine cp2 _ x1 w.heap.size b.me (.slice p1 q1 s1) (.slice p3 q3 s3) ao an ac la eo en ec le oo on_ oc lo_ _ _ _ _ _ _ _ _ _ _ _ _ _ _ _ _ _ _ _ _ _ _ _ _ _ _ _ _ _ _ _ _ _ _ _ _ _ _ _ _ _ _ _ _ _ _ _ _ _ _ _ _ _ _ _ _ _ _ _ _ _ _ _ _ _ _ _ _ _ _ _ _ _ _ _ _ _ _ _ _ _ XB1.out (R1.out.on B1.out) (R3.out.on B1.out) (R4.out.on B1.out) LL1.out LL3.out LL4.out ?_
 intro x2 v14 v15 v16 v17 v18 v19 v20 v21 v22 v23 v24 v25 p2 q2 s2 p4 q4 s4 p5 q5 s5 hb2 ha2 he2 ho2 hbel2 hsame2
 have CS := Lib.hid (show Cs w0 w x2 b (p1,q1,s1) (p2,q2,s2) (p3,q3,s3) (p4,q4,s4) (p5,q5,s5) from {
  bel := B1.out.trans (hbel2 _ (Nat.le_refl _))
  bx := hb2
  bz := (hsame2 _ ZB1.out.lt (by omega)).trans ZB1.out
  near := But.own ⟨hsame2,(hbel2 _ (Nat.le_refl _)).size⟩ N1.out XB1.out (by decide)
  seen := But.own ⟨hsame2,(hbel2 _ (Nat.le_refl _)).size⟩ J1.out XB1.out (by decide)
  adv := ⟨la,own_fewer ha2 B1.out.size,HA.out.mono fun _ _ q => ⟨q.1,q.2.1,Or.inl q.2.2⟩⟩
  ent := ⟨le,own_fewer he2 B1.out.size,HE.out.mono fun _ _ q => ⟨q.1,q.2.1,q.2.2.1,q.2.2.2.1,Or.inl q.2.2.2.2⟩⟩
  own := ⟨lo_,own_fewer ho2 B1.out.size,HO.out.mono fun _ _ q => ⟨q.1,Or.inl q.2⟩⟩ })
 have Q2 := Lib.hid (show q2 ≤ 900 from by rw [← own_row_len ha2]; exact LL1.out)
 have Q4 := Lib.hid (show q4 ≤ 900 from by rw [← own_row_len he2]; exact LL3.out)
 have Q5 := Lib.hid (show q5 ≤ 900 from by rw [← own_row_len ho2]; exact LL4.out)
 clear hb2 ha2 he2 ho2 hbel2 hsame2 XB1 ZB1 N1 J1 B1 S1 R0 R1 R2 R3 R4 HA HE HO LL0 LL1 LL2 LL3 LL4 B0
 have cf2 := CS.out.bx.cell 2
 simp only [List.getElem?_toArray,List.getElem?_cons_zero,List.getElem?_cons_succ] at cf2
 go_wp2
 go_loopw [29] (fun i wr => ∃ k : Nat,k ≤ q2 ∧ i = .int .i64 k ∧ Cs w0 w wr b (p1,q1,s1) (p2,q2,s2) (p3,q3,s3) (p4,q4,s4) (p5,q5,s5)) (fun i _ => q2 - (intOf i).toNat)
 case atStart => exact ⟨0,Nat.zero_le _,rfl,CS.out⟩
 case round =>
  obtain ⟨k,hk,rfl,hcs⟩ := hrel
  have CS := Lib.hid hcs
  have hq := Q2.out
  clear hcs
  by_cases hlt : k < q2
  ·obtain ⟨l,hl,hA⟩ := CS.out.adv
   have hln : l.length = q2 := own_row_len hl
   obtain ⟨g,rfl,hBg⟩ : ∃ g,p2 = some ⟨g,0,none⟩ ∧ w.heap.size ≤ g := own_some hl (show 0 < q2 by omega)
   obtain ⟨y,hy⟩ : ∃ y,l[k]? = some y := ⟨_,List.getElem?_eq_getElem (by omega)⟩
   obtain ⟨a,ha⟩ : ∃ a,b.adv[k]? = some a := ⟨_,List.getElem?_eq_getElem (by have h := hA.len; have h2 : l.length = q2 := hln; omega)⟩
   obtain ⟨y',hy',hym⟩ := hA.at k a ha
   rw [hy] at hy'
   obtain rfl := Option.some.inj hy'
   obtain ⟨y1,y2,⟨yo,yn,yc⟩,y4⟩ := y
   have HW := Lib.hid hl
   have HAA := Lib.hid hA
   have HYM := Lib.hid hym
   have HYY := Lib.hid hy
   have HAK := Lib.hid ha
   have HBG := Lib.hid hBg
   have hw3 : IntKind.i64.wrap ((k : Int) + 1) = (k : Int) + 1 := IntWalk.i64_in _ (by omega)
   clear hl hA hln hy ha hy' hym hBg cf2
   go_upto_region 6 with fail
   refine cp6 _ wr w.heap.size l w.heap.size b.me (.slice p1 q1 s1) (.slice p3 q3 s3) (.slice p4 q4 s4) (.slice p5 q5 s5) g q2 s2 k y1 y2 yo yn yc y4 a.p _ _ _ _ _ _ _ _ _ _ _ _ _ _ _ _ _ _ _ _ _ _ _ _ _ _ _ _ _ _ _ _ _ _ _ _ _ _ _ _ _ _ _ _ _ _ _ _ _ _ _ _ _ _ _ _ _ _ _ _ _ _ _ _ _ _ _ _ _ _ _ _ _ _ _ _ _ _ _ _ CS.out.bx HW.out HYY.out (HYM.out.2.2.row (W0.out.trans (CS.out.bel.mono W0.out.size))) (HP.out.adv a (List.mem_of_getElem? HAK.out)) ?_
   intro x v32 v33 v34 v35 v36 v37 v38 v39 v40 v41 t1 t2 t3 hC hO hBut hBel
   have CS2 := Lib.hid (show Cs w0 w x b (p1,q1,s1) (some ⟨g,0,none⟩,q2,s2) (p3,q3,s3) (p4,q4,s4) (p5,q5,s5) from by
    obtain ⟨cur,hg⟩ := own_tag HW.out
    exact CS.out.setD HW.out hO hBut (CS.out.bel.trans (hBel _ HBG.out CS.out.bel.size)) (All2.set k _ a (HAA.out.mono fun _ _ q => q.but hBut hg (by decide)) HAK.out ⟨HYM.out.1,HYM.out.2.1,Or.inr (own_fewer hC CS.out.bel.size)⟩))
   clear hC hO hBut hBel CS HW HAA HYM HYY HAK HBG
   go_wp2
   go_roundw
   case rel => exact ⟨k + 1,by omega,by go_num,CS2.out⟩
   case measure => simp [intOf]; omega
  ·obtain rfl : q2 = k := by omega
   have cf4 := CS.out.bx.cell 4
   simp only [List.getElem?_toArray,List.getElem?_cons_zero,List.getElem?_cons_succ] at cf4
   clear hlt
   go_wp2
   go_loopw [46] (fun i wr => ∃ k : Nat,k ≤ q4 ∧ i = .int .i64 k ∧ Cs w0 w wr b (p1,q1,s1) (p2,q2,s2) (p3,q3,s3) (p4,q4,s4) (p5,q5,s5)) (fun i _ => q4 - (intOf i).toNat)
   case atStart => exact ⟨0,Nat.zero_le _,rfl,CS.out⟩
   case round =>
    obtain ⟨k,hk,rfl,hcs⟩ := hrel
    have CS := Lib.hid hcs
    have hq := Q4.out
    clear hcs
    by_cases hlt : k < q4
    ·obtain ⟨l,hl,hA⟩ := CS.out.ent
     have hln : l.length = q4 := own_row_len hl
     obtain ⟨g,rfl,hBg⟩ : ∃ g,p4 = some ⟨g,0,none⟩ ∧ w.heap.size ≤ g := own_some hl (show 0 < q4 by omega)
     obtain ⟨y,hy⟩ : ∃ y,l[k]? = some y := ⟨_,List.getElem?_eq_getElem (by omega)⟩
     obtain ⟨a,ha⟩ : ∃ a,b.ent[k]? = some a := ⟨_,List.getElem?_eq_getElem (by have h := hA.len; have h2 : l.length = q4 := hln; omega)⟩
     obtain ⟨y',hy',hym⟩ := hA.at k a ha
     rw [hy] at hy'
     obtain rfl := Option.some.inj hy'
     obtain ⟨y1,y2,y3,y4,⟨yo,yn,yc⟩,y6,y7⟩ := y
     have HW := Lib.hid hl
     have HAA := Lib.hid hA
     have HYM := Lib.hid hym
     have HYY := Lib.hid hy
     have HAK := Lib.hid ha
     have HBG := Lib.hid hBg
     have hw3 : IntKind.i64.wrap ((k : Int) + 1) = (k : Int) + 1 := IntWalk.i64_in _ (by omega)
     clear hl hA hln hy ha hy' hym hBg cf4
     go_upto_region 11 with fail
     refine cp11 _ wr w.heap.size l w.heap.size b.me (.slice p1 q1 s1) (.slice p2 q2 s2) (.slice p3 q3 s3) (.slice p5 q5 s5) g q4 s4 k y1 y2 y3 y4 yo yn yc y6 y7 a.p _ _ _ _ _ _ _ _ _ _ _ _ _ _ _ _ _ _ _ _ _ _ _ _ _ _ _ _ _ _ _ _ _ _ _ _ _ _ _ _ _ _ _ _ _ _ _ _ _ _ _ _ _ _ _ _ _ _ _ _ _ _ _ _ _ _ _ _ _ _ _ _ _ _ _ _ _ _ _ _ CS.out.bx HW.out HYY.out (HYM.out.2.2.2.2.row (W0.out.trans (CS.out.bel.mono W0.out.size))) (HP.out.ent a (List.mem_of_getElem? HAK.out)) ?_
     intro x v49 v50 v51 v52 v53 v54 v55 v56 v57 v58 v59 v60 t1 t2 t3 hC hO hBut hBel
     have CS2 := Lib.hid (show Cs w0 w x b (p1,q1,s1) (p2,q2,s2) (p3,q3,s3) (some ⟨g,0,none⟩,q4,s4) (p5,q5,s5) from by
      obtain ⟨cur,hg⟩ := own_tag HW.out
      exact CS.out.setN HW.out hO hBut (CS.out.bel.trans (hBel _ HBG.out CS.out.bel.size)) (All2.set k _ a (HAA.out.mono fun _ _ q => q.but hBut hg (by decide)) HAK.out ⟨HYM.out.1,HYM.out.2.1,HYM.out.2.2.1,HYM.out.2.2.2.1,Or.inr (own_fewer hC CS.out.bel.size)⟩))
     clear hC hO hBut hBel CS HW HAA HYM HYY HAK HBG
     go_wp2
     go_roundw
     case rel => exact ⟨k + 1,by omega,by go_num,CS2.out⟩
     case measure => simp [intOf]; omega
    ·obtain rfl : q4 = k := by omega
     have cf5 := CS.out.bx.cell 5
     simp only [List.getElem?_toArray,List.getElem?_cons_zero,List.getElem?_cons_succ] at cf5
     clear hlt
     go_wp2
     go_loopw [65] (fun i wr => ∃ k : Nat,k ≤ q5 ∧ i = .int .i64 k ∧ Cs w0 w wr b (p1,q1,s1) (p2,q2,s2) (p3,q3,s3) (p4,q4,s4) (p5,q5,s5)) (fun i _ => q5 - (intOf i).toNat)
     case atStart => exact ⟨0,Nat.zero_le _,rfl,CS.out⟩
     case round =>
      obtain ⟨k,hk,rfl,hcs⟩ := hrel
      have CS := Lib.hid hcs
      have hq := Q5.out
      clear hcs
      by_cases hlt : k < q5
      ·obtain ⟨l,hl,hA⟩ := CS.out.own
       have hln : l.length = q5 := own_row_len hl
       obtain ⟨g,rfl,hBg⟩ : ∃ g,p5 = some ⟨g,0,none⟩ ∧ w.heap.size ≤ g := own_some hl (show 0 < q5 by omega)
       obtain ⟨y,hy⟩ : ∃ y,l[k]? = some y := ⟨_,List.getElem?_eq_getElem (by omega)⟩
       obtain ⟨a,ha⟩ : ∃ a,b.own[k]? = some a := ⟨_,List.getElem?_eq_getElem (by have h := hA.len; have h2 : l.length = q5 := hln; omega)⟩
       obtain ⟨y',hy',hym⟩ := hA.at k a ha
       rw [hy] at hy'
       obtain rfl := Option.some.inj hy'
       obtain ⟨y1,y2,⟨yo,yn,yc⟩⟩ := y
       have HW := Lib.hid hl
       have HAA := Lib.hid hA
       have HYM := Lib.hid hym
       have HYY := Lib.hid hy
       have HAK := Lib.hid ha
       have HBG := Lib.hid hBg
       have hw3 : IntKind.i64.wrap ((k : Int) + 1) = (k : Int) + 1 := IntWalk.i64_in _ (by omega)
       clear hl hA hln hy ha hy' hym hBg cf5
       go_upto_region 16 with fail
       refine cp16 _ wr w.heap.size l w.heap.size b.me (.slice p1 q1 s1) (.slice p2 q2 s2) (.slice p3 q3 s3) (.slice p4 q4 s4) g q5 s5 k y1 y2 yo yn yc a.p _ _ _ _ _ _ _ _ _ _ _ _ _ _ _ _ _ _ _ _ _ _ _ _ _ _ _ _ _ _ _ _ _ _ _ _ _ _ _ _ _ _ _ _ _ _ _ _ _ _ _ _ _ _ _ _ _ _ _ _ _ _ _ _ _ _ _ _ _ _ _ _ _ _ _ _ _ _ _ _ CS.out.bx HW.out HYY.out (HYM.out.2.row (W0.out.trans (CS.out.bel.mono W0.out.size))) (HP.out.own a (List.mem_of_getElem? HAK.out)) ?_
       intro x v68 v69 v70 v71 v72 v73 v74 v75 v76 v77 v78 v79 t1 t2 t3 hC hO hBut hBel
       have CS2 := Lib.hid (show Cs w0 w x b (p1,q1,s1) (p2,q2,s2) (p3,q3,s3) (p4,q4,s4) (some ⟨g,0,none⟩,q5,s5) from by
        obtain ⟨cur,hg⟩ := own_tag HW.out
        exact CS.out.setW HW.out hO hBut (CS.out.bel.trans (hBel _ HBG.out CS.out.bel.size)) (All2.set k _ a (HAA.out.mono fun _ _ q => q.but hBut hg (by decide)) HAK.out ⟨HYM.out.1,Or.inr (own_fewer hC CS.out.bel.size)⟩))
       clear hC hO hBut hBel CS HW HAA HYM HYY HAK HBG
       go_wp2
       go_roundw
       case rel => exact ⟨k + 1,by omega,by go_num,CS2.out⟩
       case measure => simp [intOf]; omega
      ·obtain rfl : q5 = k := by omega
       have X1 := CS.out.bx
       have Z1 := CS.out.bz
       obtain ⟨x0,x1,x2,x3,x4,x5⟩ := X1.cs6
       obtain ⟨r0,r1,r2,r3,r4,r5⟩ := Z1.cs6
       obtain ⟨t0,t1,t2,t3,t4,t5⟩ := Z1.fs6
       have zz := Z1.lt
       have FB := Lib.hid (setB_box Z1 (.int .i64 b.me) (.slice p1 q1 s1) (.slice p2 q2 s2) (.slice p3 q3 s3) (.slice p4 q4 s4) (.slice p5 q5 s5))
       have FD := Lib.hid (CS.out.done (.int .i64 b.me) (.slice p1 q1 s1) (.slice p2 q2 s2) (.slice p3 q3 s3) (.slice p4 q4 s4) (.slice p5 q5 s5))
       clear X1 Z1 CS
       go_wp2_with fail
       obtain ⟨v0,v1,v2,v3,v4,v5⟩ := FB.out.cs6
       refine bodyPost_ret (v := .agg #[.int .i64 b.me,.slice p1 q1 s1,.slice p2 q2 s2,.slice p3 q3 s3,.slice p4 q4 s4,.slice p5 q5 s5]) (by simp [results,Tryz.results76,go_sem,v0,v1,v2,v3,v4,v5]) rfl ?_
       exact ⟨⟨(p1,q1,s1),(p2,q2,s2),(p3,q3,s3),(p4,q4,s4),(p5,q5,s5),rfl,FD.out.1⟩,FD.out.2⟩
end Go.Proofs.YtncogjpmboglhaaGreat.Av
