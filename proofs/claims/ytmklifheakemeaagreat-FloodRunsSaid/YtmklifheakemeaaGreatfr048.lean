/-
  Advertise of package flood: an advertisement learned, the neighbours t. Conditions as told.
-/
import Derived.Test.YtmklifheakemeaaGreatfr044
import Derived.Test.YtmklifheakemeaaGreatfr043
import Derived.Test.YtmklifheakemeaaGreatfr047
set_option maxRecDepth 100000
set_option maxHeartbeats 64000000
namespace Go.Proofs.YtmklifheakemeaaGreat.Fl
open Go.RowKit Go.Sort Rw YtmklifheakemeaaGreat.Nm Pr Bk Av Rl Sb
theorem foldK_pre {α : Type} (l : List α) (mt : α → Bool) (e : α → En) (t : α → Int) (b : Br) (o0 : List Ou) : ∀ k,k ≤ l.length → foldK l (fun s a => addStep s (mt a) (e a) (t a)) (b,o0) k = ((foldK l (fun s a => addStep s (mt a) (e a) (t a)) (b,[]) k).1,o0 ++ (foldK l (fun s a => addStep s (mt a) (e a) (t a)) (b,[]) k).2)
 | 0,_ => by simp [foldK]
 | k + 1,hk => by
  obtain ⟨a,ha⟩ : ∃ a,l[k]? = some a := ⟨_,List.getElem?_eq_getElem hk⟩
  rw [foldK_succ _ _ ha,foldK_succ _ _ ha,foldK_pre l mt e t b o0 k (by omega)]
  unfold addStep
  split
  ·rfl
  ·dsimp only
   split
   ·rw [List.append_assoc]
   ·rfl
theorem advB_join (b : Br) (f : Int) (x : XID) (p : List C5) : advB b f x p = if (learnB b ⟨x,p,f⟩).2 = false then ((learnB b ⟨x,p,f⟩).1,[]) else ((joinB (learnB b ⟨x,p,f⟩).1 ⟨x,p,f⟩).1,othersO b.near f 1 x (0,0) p ++ (joinB (learnB b ⟨x,p,f⟩).1 ⟨x,p,f⟩).2) := by
 unfold advB
 split
 ·rfl
 ·exact foldK_pre _ (fun o => meetsC o.p p) (fun o => advE x o) (fun _ => f) _ _ _ (Nat.le_refl _)
structure AdvOk (b : Br) (f : Int) (p : List C5) : Prop where
 few : Few b
 fewp : FewP b
 ok : OkBr b
 ls : b.seen.length ≤ 899
 la : b.adv.length ≤ 899
 lo : b.ent.length + b.own.length ≤ 900
 pe : ∀ e ∈ b.ent,PredOk e.p
 po : ∀ o ∈ b.own,PredOk o.p
 pp : PredOk p
 co : comesB b.near f = true
 rp : Wr.rightP p = true
theorem learn_few {b : Br} {x : XID} {f : Int} {p : List C5} (h : AdvOk b f p) : Few (learnB b ⟨x,p,f⟩).1 ∧ FewP (learnB b ⟨x,p,f⟩).1 := by
 obtain ⟨m1,m2,m3,m4⟩ := learn_same b ⟨x,p,f⟩
 obtain ⟨n1,n2⟩ := learn_len b ⟨x,p,f⟩
 refine ⟨⟨by rw [m2]; exact h.few.near,Nat.le_trans n1 (by have := h.la; omega),Nat.le_trans n2 (by have := h.ls; omega),by rw [m3]; exact h.few.ent,by rw [m4]; exact h.few.own⟩,⟨fun a ha => ?_,by rw [m3]; exact h.fewp.ent,by rw [m4]; exact h.fewp.own⟩⟩
 have key : ∀ y ∈ (learnB b ⟨x,p,f⟩).1.adv,y = ⟨x,p,f⟩ ∨ y ∈ b.adv := learn_mem b ⟨x,p,f⟩
 rcases key a ha with rfl | ha
 ·exact predOk_len h.pp
 ·exact h.fewp.adv a ha
theorem fladv_any (b : Br) (s1 : Option Addr) (s2 s3 : Nat) (s4 : Option Addr) (s5 s6 : Nat) (s7 : Option Addr) (s8 s9 : Nat) (s10 : Option Addr) (s11 s12 : Nat) (s13 : Option Addr) (s14 s15 : Nat) (f c d : Int) (po : Option Addr) (pn pc : Nat) (p : List C5) (w : World) (h : BrN w b (s1,s2,s3) (s4,s5,s6) (s7,s8,s9) (s10,s11,s12) (s13,s14,s15)) (hp : RowC w (.slice po pn pc) p) (ha : AdvOk b f p) :
  Calls Tryz.prog 9 #[.agg #[.int .i64 b.me,.slice s1 s2 s3,.slice s4 s5 s6,.slice s7 s8 s9,.slice s10 s11 s12,.slice s13 s14 s15],.int .i64 f,.agg #[.int .i64 c,.int .i64 d],.slice po pn pc] w (FlQ w (BrC w b (s1,s2,s3) (s4,s5,s6) (s7,s8,s9) (s10,s11,s12) (s13,s14,s15)) (advB b f (c,d) p)) := by
 obtain ⟨h0,h1,h2,h3⟩ := three_new w #[.int .i64 b.me,.slice s1 s2 s3,.slice s4 s5 s6,.slice s7 s8 s9,.slice s10 s11 s12,.slice s13 s14 s15] #[.int .i64 c,.int .i64 d] #[.int .i64 0,.slice none 0 0,.slice none 0 0,.slice none 0 0,.slice none 0 0,.slice none 0 0] 28 31 28
 have FG := Lib.hid (fun W hb => learn_own b ⟨(c,d),p,f⟩ (s1,s2,s3) (s4,s5,s6) (s7,s8,s9) (s10,s11,s12) (s13,s14,s15) (c,d,(po,pn,pc),f) W (h.br.on (show Below w.heap.size w W from hb)) ⟨rfl,rfl,hp.on hb⟩ ha.few ha.fewp (predOk_len ha.pp) ha.ok.seen ha.ok.adv)
 have NO := Lib.hid h.no
 have HP := Lib.hid hp
 have HA := Lib.hid ha
 have RC := Lib.hid (show ∀ W,Below w.heap.size w W → BrC w b (s1,s2,s3) (s4,s5,s6) (s7,s8,s9) (s10,s11,s12) (s13,s14,s15) → BrC W b (s1,s2,s3) (s4,s5,s6) (s7,s8,s9) (s10,s11,s12) (s13,s14,s15) from fun W hb hc => hc.on hb)
 have UE := Lib.hid (advB_join b f (c,d) p)
 have LF := Lib.hid (learn_few (x := (c,d)) ha)
 have LS := Lib.hid (learn_same b ⟨(c,d),p,f⟩)
 have LO := Lib.hid (learn_ok ha.ok ⟨(c,d),p,f⟩ ha.co ha.rp)
 obtain ⟨me,hme⟩ : ∃ me,me = b.me := ⟨_,rfl⟩
 have ME := Lib.hid hme
 simp only [← hme] at h0 h1 h2 h3 FG ⊢
 have GB_1 := Lib.hid (h0)
 have X4_2 := Lib.hid (h1)
 have X6_3 := Lib.hid (h2)
 have X8_4 := Lib.hid (h3)
 clear h0 h1 h2 h3 h hp ha hme
 go_enter Tryz.func9,Tryz.ntmps9
 go_upto_region 1 with fail
 generalize hW0 : (((w.alloc (.cells #[.int .i64 me,.slice s1 s2 s3,.slice s4 s5 s6,.slice s7 s8 s9,.slice s10 s11 s12,.slice s13 s14 s15] 28)).alloc (.cells #[.int .i64 c,.int .i64 d] 31)).alloc (.cells #[.int .i64 0,.slice none 0 0,.slice none 0 0,.slice none 0 0,.slice none 0 0,.slice none 0 0] 28)) = W0 at *
 have S0 := Lib.hid (show W0.heap.size = w.heap.size + 1 + 1 + 1 from by rw [← hW0]; simp)
 clear hW0
 obtain ⟨y0,y1⟩ := X6_3.out.cs2
 go_upto_region 2 with fail
 clear y0 y1
 have NN := newB W0 (.cells #[.int .i64 c,.int .i64 d,.slice po pn pc,.int .i64 f] 74)
 have GB_5 := Lib.hid (GB_1.out.trans (NN.mono GB_1.out.size))
 have X4_5 := Lib.hid (X4_2.out.on NN)
 have X6_5 := Lib.hid (X6_3.out.on NN)
 have X8_5 := Lib.hid (X8_4.out.on NN)
 clear GB_1 X4_2 X6_3 X8_4
 have X10_6 := Lib.hid (box_new W0 #[.int .i64 c,.int .i64 d,.slice po pn pc,.int .i64 f] 74)
 clear NN
 generalize W0.alloc (.cells #[.int .i64 c,.int .i64 d,.slice po pn pc,.int .i64 f] 74) = W at *
 generalize hb0 : W0.heap.size = b0 at *
 have B0 := Lib.hid (show b0 = w.heap.size + 1 + 1 + 1 from S0.out)
 clear S0 hb0
 have SW := Lib.hid (FG.out W GB_5.out)
 clear FG
 have RC2 := Lib.hid (RC.out W GB_5.out)
 have NO2 := Lib.hid (NO.out.on GB_5.out)
 clear RC NO
 obtain ⟨x0,x1,x2,x3,x4,x5⟩ := X4_5.out.cs6
 obtain ⟨z0,z1,z2,z3⟩ := X10_6.out.cs4
 go_wp2_with fail
 refine SW.out.mono ?_
 rintro e1 w1 ⟨⟨⟨m1,m2,m3⟩,⟨m4,m5,m6⟩,⟨m7,m8,m9⟩,⟨m10,m11,m12⟩,⟨m13,m14,m15⟩,rfl,hbr,hno,hbc⟩,hb⟩
 clear SW
 clear x0 x1 x2 x3 x4 x5 z0 z1 z2 z3
 have GB_7 := Lib.hid (GB_5.out.trans (hb.mono GB_5.out.size))
 have X4_7 := Lib.hid (X4_5.out.on hb)
 have X6_7 := Lib.hid (X6_5.out.on hb)
 have X8_7 := Lib.hid (X8_5.out.on hb)
 have X10_7 := Lib.hid (X10_6.out.on hb)
 clear GB_5 X4_5 X6_5 X8_5 X10_6
 generalize hr : (learnB b ⟨(c,d),p,f⟩).2 = r at *
 have BN := Lib.hid (show BrN w1 (learnB b ⟨(c,d),p,f⟩).1 (m1,m2,m3) (m4,m5,m6) (m7,m8,m9) (m10,m11,m12) (m13,m14,m15) from ⟨hbr,hno NO2.out⟩)
 have BNC := Lib.hid (show (BrC w b (s1,s2,s3) (s4,s5,s6) (s7,s8,s9) (s10,s11,s12) (s13,s14,s15) ∨ r = true) → BrC w1 (learnB b ⟨(c,d),p,f⟩).1 (m1,m2,m3) (m4,m5,m6) (m7,m8,m9) (m10,m11,m12) (m13,m14,m15) from fun h => hbc (h.imp RC2.out id))
 clear hbr hno hbc hb hr RC2 NO2
 rw [show (learnB b ⟨(c,d),p,f⟩).1.me = me from by rw [LS.out.1,ME.out]]
 have NB0 := Lib.hid (show b0 ≠ w.heap.size from by have := B0.out; omega)
 have NB8 := Lib.hid (show b0 ≠ w.heap.size + 1 + 1 from by have := B0.out; omega)
 clear B0
 obtain ⟨k0,k1,k2,k3,k4,k5⟩ := X4_7.out.cs6
 obtain ⟨kf0,kf1,kf2,kf3,kf4,kf5⟩ := X4_7.out.fs6
 have zz := X4_7.out.lt
 have bs := Go.Proofs.YtmklifheakemeaaGreat.Av.but_setB w1 w.heap.size (.int .i64 me) (.slice m1 m2 m3) (.slice m4 m5 m6) (.slice m7 m8 m9) (.slice m10 m11 m12) (.slice m13 m14 m15)
 have G0 := Lib.hid (setB_below (b := w.heap.size) GB_7.out (Nat.le_refl _) (.int .i64 me) (.slice m1 m2 m3) (.slice m4 m5 m6) (.slice m7 m8 m9) (.slice m10 m11 m12) (.slice m13 m14 m15))
 have G1 := Lib.hid (bs.box X6_7.out (by omega))
 have G2 := Lib.hid (bs.box X8_7.out (by omega))
 have G3 := Lib.hid (bs.box X10_7.out NB0.out)
 have G4 := Lib.hid (BN.out.keep (s1 := (s1,s2,s3)) (s2 := (s4,s5,s6)) (s3 := (s7,s8,s9)) (s4 := (s10,s11,s12)) (s5 := (s13,s14,s15)) (me := me) X4_7.out bs)
 have G5 := Lib.hid (fun h => BrC.but2 (BNC.out h) bs X4_7.out (by decide) (by decide) (by decide) (by decide) (by decide) (by decide))
 have G6 := Lib.hid (setB_box X4_7.out (.int .i64 me) (.slice m1 m2 m3) (.slice m4 m5 m6) (.slice m7 m8 m9) (.slice m10 m11 m12) (.slice m13 m14 m15))
 clear bs GB_7 X6_7 X8_7 X10_7 BN BNC X4_7
 go_upto_region 3 with fail
 clear zz k0 k1 k2 k3 k4 k5 kf0 kf1 kf2 kf3 kf4 kf5
 unfold setB at G0 G1 G2 G3 G4 G5 G6
 generalize ((((((w1.setCell ⟨w.heap.size,0,none⟩ (.int .i64 me)).setCell ⟨w.heap.size,1,none⟩ (.slice m1 m2 m3)).setCell ⟨w.heap.size,2,none⟩ (.slice m4 m5 m6)).setCell ⟨w.heap.size,3,none⟩ (.slice m7 m8 m9)).setCell ⟨w.heap.size,4,none⟩ (.slice m10 m11 m12)).setCell ⟨w.heap.size,5,none⟩ (.slice m13 m14 m15)) = w2 at *
 have GB_8 := Lib.hid (G0.out)
 have X6_9 := Lib.hid (G1.out)
 have X8_10 := Lib.hid (G2.out)
 have X10_11 := Lib.hid (G3.out)
 have BN_12 := Lib.hid (G4.out)
 have BNC_13 := Lib.hid (G5.out)
 have X4_14 := Lib.hid (G6.out)
 clear G0 G1 G2 G3 G4 G5 G6
 cases r
 ·have x0 := X4_14.out.cell 0
  have x1 := X4_14.out.cell 1
  have x2 := X4_14.out.cell 2
  have x3 := X4_14.out.cell 3
  have x4 := X4_14.out.cell 4
  have x5 := X4_14.out.cell 5
  simp only [List.getElem?_toArray,List.getElem?_cons_zero,List.getElem?_cons_succ] at x0 x1 x2 x3 x4 x5
  have BNC_0 := Lib.hid (fun h => BNC_13.out (Or.inl h))
  obtain ⟨r0,r1,r2,r3,r4,r5⟩ := X8_10.out.cs6
  obtain ⟨rf0,rf1,rf2,rf3,rf4,rf5⟩ := X8_10.out.fs6
  have zz := X8_10.out.lt
  have bs := Go.Proofs.YtmklifheakemeaaGreat.Av.but_setB w2 (w.heap.size + 1 + 1) (.int .i64 me) (.slice m1 m2 m3) (.slice m4 m5 m6) (.slice m7 m8 m9) (.slice m10 m11 m12) (.slice m13 m14 m15)
  have GG := Lib.hid (setB_box X8_10.out (.int .i64 me) (.slice m1 m2 m3) (.slice m4 m5 m6) (.slice m7 m8 m9) (.slice m10 m11 m12) (.slice m13 m14 m15))
  have BL := Lib.hid (setB_below (b := w.heap.size + 1 + 1) GB_8.out (by omega) (.int .i64 me) (.slice m1 m2 m3) (.slice m4 m5 m6) (.slice m7 m8 m9) (.slice m10 m11 m12) (.slice m13 m14 m15))
  have HB := Lib.hid (BN_12.out.keep (s1 := (none,0,0)) (s2 := (none,0,0)) (s3 := (none,0,0)) (s4 := (none,0,0)) (s5 := (none,0,0)) (me := 0) X8_10.out bs)
  have HB2 := Lib.hid (fun h => BrC.but2 (BNC_0.out h) bs X8_10.out (by decide) (by decide) (by decide) (by decide) (by decide) (by decide))
  clear bs
  go_wp2_with fail
  obtain ⟨v0,v1,v2,v3,v4,v5⟩ := GG.out.cs6
  refine bodyPost_ret (v := .tuple #[.agg #[.int .i64 me,.slice m1 m2 m3,.slice m4 m5 m6,.slice m7 m8 m9,.slice m10 m11 m12,.slice m13 m14 m15],.slice none 0 0]) (by simp [results,Tryz.results9,go_sem,v0,v1,v2,v3,v4,v5]) rfl ?_
  rw [UE.out]
  simp only [if_true]
  exact ⟨⟨(m1,m2,m3),(m4,m5,m6),(m7,m8,m9),(m10,m11,m12),(m13,m14,m15),(none,0,0),[],by rw [LS.out.1,ME.out],HB.out,HB2.out,OuR.nil _ _⟩,BL.out⟩
 ·have BC := Lib.hid (BNC_13.out (Or.inr rfl))
  clear BNC_13 BN_12
  have HN := Lib.hid (show RowI w2 (.slice m1 m2 m3) b.near from by have h := BC.out.br.near; rw [LS.out.2.1] at h; exact h)
  have OT := Lib.hid (floth_any me f 1 c d 0 0 (m1,m2,m3) (.slice m4 m5 m6) (.slice m7 m8 m9) (.slice m10 m11 m12) (.slice m13 m14 m15) (po,pn,pc) p b.near w2 HN.out HA.out.few.near (HP.out.on GB_8.out) (predOk_len HA.out.pp))
  obtain ⟨x0,x1,x2,x3,x4,x5⟩ := X4_14.out.cs6
  obtain ⟨y0,y1⟩ := X6_9.out.cs2
  go_wp2_with fail
  refine OT.out.mono ?_
  rintro e2 w3 ⟨⟨⟨o1,o2,o3⟩,lx,rfl,hou⟩,hb⟩
  clear OT HN
  clear x0 x1 x2 x3 x4 x5 y0 y1
  have OU := Lib.hid (hou.le GB_8.out.size)
  clear hou
  have GB_15 := Lib.hid (GB_8.out.trans (hb.mono GB_8.out.size))
  have X4_15 := Lib.hid (X4_14.out.on hb)
  have X6_15 := Lib.hid (X6_9.out.on hb)
  have X8_15 := Lib.hid (X8_10.out.on hb)
  have X10_15 := Lib.hid (X10_11.out.on hb)
  have BC_15 := Lib.hid (BC.out.on hb)
  clear GB_8 X4_14 X6_9 X8_10 X10_11 BC
  clear hb
  have JN := Lib.hid (join_any (learnB b ⟨(c,d),p,f⟩).1 m1 m2 m3 m4 m5 m6 m7 m8 m9 m10 m11 m12 m13 m14 m15 c d po pn pc f p w3 BC_15.out (HP.out.on GB_15.out) LF.out.1 LF.out.2 (by rw [LS.out.2.2.1,LS.out.2.2.2]; exact HA.out.lo) LO.out (by rw [LS.out.2.2.1]; exact HA.out.pe) (by rw [LS.out.2.2.2]; exact HA.out.po) HA.out.pp)
  rw [LS.out.1,← ME.out] at JN
  obtain ⟨x0,x1,x2,x3,x4,x5⟩ := X4_15.out.cs6
  obtain ⟨z0,z1,z2,z3⟩ := X10_15.out.cs4
  go_wp2_with fail
  refine JN.out.mono ?_
  rintro e3 w4 ⟨⟨⟨n1,n2,n3⟩,⟨n4,n5,n6⟩,⟨n7,n8,n9⟩,⟨n10,n11,n12⟩,⟨n13,n14,n15⟩,⟨r1,r2,r3⟩,ly,rfl,hbc,hou⟩,hb⟩
  clear JN
  clear x0 x1 x2 x3 x4 x5 z0 z1 z2 z3
  clear BC_15
  have BD := Lib.hid hbc
  have OV := Lib.hid (hou.le GB_15.out.size)
  clear hbc hou
  have GB_16 := Lib.hid (GB_15.out.trans (hb.mono GB_15.out.size))
  have X4_16 := Lib.hid (X4_15.out.on hb)
  have X6_16 := Lib.hid (X6_15.out.on hb)
  have X8_16 := Lib.hid (X8_15.out.on hb)
  have X10_16 := Lib.hid (X10_15.out.on hb)
  have OU_16 := Lib.hid (OU.out.on hb)
  clear GB_15 X4_15 X6_15 X8_15 X10_15 OU
  clear hb
  obtain ⟨k0,k1,k2,k3,k4,k5⟩ := X4_16.out.cs6
  obtain ⟨kf0,kf1,kf2,kf3,kf4,kf5⟩ := X4_16.out.fs6
  have zz := X4_16.out.lt
  have bs := Go.Proofs.YtmklifheakemeaaGreat.Av.but_setB w4 w.heap.size (.int .i64 me) (.slice n1 n2 n3) (.slice n4 n5 n6) (.slice n7 n8 n9) (.slice n10 n11 n12) (.slice n13 n14 n15)
  have G0 := Lib.hid (setB_below (b := w.heap.size) GB_16.out (Nat.le_refl _) (.int .i64 me) (.slice n1 n2 n3) (.slice n4 n5 n6) (.slice n7 n8 n9) (.slice n10 n11 n12) (.slice n13 n14 n15))
  have G1 := Lib.hid (bs.box X8_16.out (by omega))
  have G2 := Lib.hid (BD.out.but2 bs X4_16.out (by decide) (by decide) (by decide) (by decide) (by decide) (by decide))
  have G3 := Lib.hid (OU_16.out.but bs X4_16.out (by decide) (by decide))
  have G4 := Lib.hid (OV.out.but bs X4_16.out (by decide) (by decide))
  have G5 := Lib.hid (setB_box X4_16.out (.int .i64 me) (.slice n1 n2 n3) (.slice n4 n5 n6) (.slice n7 n8 n9) (.slice n10 n11 n12) (.slice n13 n14 n15))
  clear bs GB_16 X8_16 BD OU_16 OV X4_16
  go_upto_region 7 with fail
  clear zz k0 k1 k2 k3 k4 k5 kf0 kf1 kf2 kf3 kf4 kf5
  unfold setB at G0 G1 G2 G3 G4 G5
  generalize ((((((w4.setCell ⟨w.heap.size,0,none⟩ (.int .i64 me)).setCell ⟨w.heap.size,1,none⟩ (.slice n1 n2 n3)).setCell ⟨w.heap.size,2,none⟩ (.slice n4 n5 n6)).setCell ⟨w.heap.size,3,none⟩ (.slice n7 n8 n9)).setCell ⟨w.heap.size,4,none⟩ (.slice n10 n11 n12)).setCell ⟨w.heap.size,5,none⟩ (.slice n13 n14 n15)) = w5 at *
  have GB_17 := Lib.hid (G0.out)
  have X8_18 := Lib.hid (G1.out)
  have BD_19 := Lib.hid (G2.out)
  have OU_20 := Lib.hid (G3.out)
  have OV_21 := Lib.hid (G4.out)
  have X4_22 := Lib.hid (G5.out)
  clear G0 G1 G2 G3 G4 G5
  have LX : lx.length ≤ 900 := by
   rw [OU_20.out.len]
   have h1 := others_le b.near f 1 (c,d) (0,0) p
   have h2 := HA.out.few.near
   omega
  have LY : ly.length ≤ 1000 := by
   rw [OV_21.out.len]
   have h1 := (join_k LO.out (by rw [LS.out.2.2.1]; exact HA.out.pe) (by rw [LS.out.2.2.2]; exact HA.out.po) f (c,d) p [] _ (Nat.le_refl _)).2
   have h2 := HA.out.few.own
   have h3 : (learnB b ⟨(c,d),p,f⟩).1.own.length = b.own.length := by rw [LS.out.2.2.2]
   have h4 : (joinB (learnB b ⟨(c,d),p,f⟩).1 ⟨(c,d),p,f⟩).2.length ≤ 0 + (learnB b ⟨(c,d),p,f⟩).1.own.length := h1
   omega
  have od := OU_20.out.on (Below.refl _ _).drew
  have rd := (OV_21.out.on (Below.refl _ _).drew).row
  obtain ⟨v',X1,hrun,ho,gr⟩ := app_row okU w.heap.size od.row (Row.of_own rd) (Nat.le_trans LX (by decide)) LY (by have h := GB_17.out.size; simpa using h) 35
  have HO1 := od.more gr ho ((OV_21.out.on (Below.refl _ _).drew).all)
  have gb := (GB_17.out.drew).grown gr (by have h := GB_17.out.size; simpa using h) fun j hj => (od.row.lt j hj).1
  have b4 := box_app od.row gr (X4_22.out.on (Below.refl _ _).drew) (by decide)
  have b8 := box_app od.row gr (X8_18.out.on (Below.refl _ _).drew) (by decide)
  have bd := BrC.app od.row gr (BD_19.out.on (Below.refl _ _).drew)
  obtain ⟨ra,rc,hv⟩ := (Row.of_own ho).len
  have bs := Go.Proofs.YtmklifheakemeaaGreat.Av.but_setB X1 (w.heap.size + 1 + 1) (.int .i64 me) (.slice n1 n2 n3) (.slice n4 n5 n6) (.slice n7 n8 n9) (.slice n10 n11 n12) (.slice n13 n14 n15)
  have GG := setB_box b8 (.int .i64 me) (.slice n1 n2 n3) (.slice n4 n5 n6) (.slice n7 n8 n9) (.slice n10 n11 n12) (.slice n13 n14 n15)
  have BL := Lib.hid (setB_below (b := w.heap.size + 1 + 1) gb (by omega) (.int .i64 me) (.slice n1 n2 n3) (.slice n4 n5 n6) (.slice n7 n8 n9) (.slice n10 n11 n12) (.slice n13 n14 n15))
  have HC := Lib.hid (bd.but2 bs b8 (by decide) (by decide) (by decide) (by decide) (by decide) (by decide))
  have HO := Lib.hid (HO1.but bs b8 (by decide) (by decide))
  have HR := Lib.hid hrun
  have H4 := Lib.hid b4
  have H8 := Lib.hid b8
  clear LX LY od rd ho gr HO1 gb b4 b8 bd bs hrun
  rw [hv] at HR HO
  refine ad7 _ w5 w.heap.size (w.heap.size + 1 + 1) me n1 n2 n3 n4 n5 n6 n7 n8 n9 n10 n11 n12 n13 n14 n15 _ _ (.slice ra (lx ++ ly).length rc) X1 _ _ _ _ _ _ _ _ _ _ _ _ _ _ _ _ _ _ _ _ _ _ _ _ _ _ _ _ _ _ _ _ _ _ _ _ _ _ _ _ _ _ _ _ _ X4_22.out H4.out H8.out (by omega) HR.out ?_
  intro a hd h8 h9
  obtain ⟨v0,v1,v2,v3,v4,v5⟩ := GG.cs6
  simp only [Exit.then]
  apply_assumption
  go_wp2_with fail
  refine bodyPost_ret (v := .tuple #[.agg #[.int .i64 me,.slice n1 n2 n3,.slice n4 n5 n6,.slice n7 n8 n9,.slice n10 n11 n12,.slice n13 n14 n15],.slice ra (lx ++ ly).length rc]) (by simp [results,Tryz.results9,go_sem,h8,h9,v0,v1,v2,v3,v4,v5]) hd ?_
  rw [UE.out,if_neg (by simp)]
  refine ⟨⟨(n1,n2,n3),(n4,n5,n6),(n7,n8,n9),(n10,n11,n12),(n13,n14,n15),(ra,(lx ++ ly).length,rc),_,?_,⟨HC.out.br,HC.out.no⟩,fun _ => HC.out,HO.out⟩,BL.out⟩
  rw [show (joinB (learnB b ⟨(c,d),p,f⟩).1 ⟨(c,d),p,f⟩).1.me = me from by rw [show (joinB (learnB b ⟨(c,d),p,f⟩).1 ⟨(c,d),p,f⟩).1.me = (learnB b ⟨(c,d),p,f⟩).1.me from (join_k LO.out (by rw [LS.out.2.2.1]; exact HA.out.pe) (by rw [LS.out.2.2.2]; exact HA.out.po) f (c,d) p [] _ (Nat.le_refl _)).1.at_.me,LS.out.1,ME.out]]
end Go.Proofs.YtmklifheakemeaaGreat.Fl
