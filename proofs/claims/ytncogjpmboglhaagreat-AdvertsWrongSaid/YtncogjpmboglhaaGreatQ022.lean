/-
  A set of IDs as a map of Booleans: made, asked, counted, stored into. Conditions as told.
-/
import Derived.Test.YtncogjpmboglhaaGreatQ007
import Derived.Maps.OwnSet
import Derived.DeepKeys4
import Derived.KernelRfl
import Derived.Test.YtncogjpmboglhaaGreatQ021
import Derived.Test.YtncogjpmboglhaaGreatQ019
import Derived.Test.YtncogjpmboglhaaGreatQ018
set_option maxRecDepth 100000
set_option maxHeartbeats 64000000
namespace Go.Proofs.YtncogjpmboglhaaGreat.Av
open Go.RowKit Rw Bk Go.Maps Go.ChangeMaps
end Go.Proofs.YtncogjpmboglhaaGreat.Av
namespace Go.Proofs.YtncogjpmboglhaaGreat.Bk
open Go.RowKit Go.Sort Rw YtncogjpmboglhaaGreat.Nm Pr
def eqD (x y : Ad) : Bool := eqI x.id y.id && (x.par == y.par && sameC x.p y.p)
def eqW (x y : Ow) : Bool := eqI x.id y.id && sameC x.p y.p
theorem eqD_iff (x y : Ad) : eqD x y = true ↔ x = y := by
 obtain ⟨a,b,c⟩ := x
 obtain ⟨a',b',c'⟩ := y
 simp only [eqD,Bool.and_eq_true,eqI_iff,sameC_iff,beq_iff_eq,Ad.mk.injEq]
 constructor
 ·rintro ⟨h1,h2,h3⟩
  exact ⟨h1,h3,h2⟩
 ·rintro ⟨h1,h2,h3⟩
  exact ⟨h1,h3,h2⟩
theorem eqW_iff (x y : Ow) : eqW x y = true ↔ x = y := by
 obtain ⟨a,b⟩ := x
 obtain ⟨a',b'⟩ := y
 simp only [eqW,Bool.and_eq_true,eqI_iff,sameC_iff,Ow.mk.injEq]
def sameBr (a b : Br) : Bool := a.me == b.me && (decide (a.near = b.near) && (sameG eqI a.seen b.seen && (decide (a.adv.length = b.adv.length) && (decide (a.own.length = b.own.length) && (sameG eqE a.ent b.ent && (sameG eqD a.adv b.adv && sameG eqW a.own b.own))))))
theorem sameBr_iff (a b : Br) : sameBr a b = true ↔ a = b := by
 obtain ⟨m,n,d,s,e,o⟩ := a
 obtain ⟨m',n',d',s',e',o'⟩ := b
 simp only [sameBr,Bool.and_eq_true,beq_iff_eq,decide_eq_true_eq,sameG_iff eqI_iff,sameG_iff eqE_iff,sameG_iff eqD_iff,sameG_iff eqW_iff,Br.mk.injEq]
 constructor
 ·rintro ⟨h1,h2,h3,_,_,h6,h7,h8⟩
  exact ⟨h1,h2,h7,h3,h6,h8⟩
 ·rintro ⟨h1,h2,h3,h4,h5,h6⟩
  exact ⟨h1,h2,h4,by rw [h3],by rw [h6],h5,h3,h6⟩
abbrev setMB (W : World) (b : Nat) (a0 a1 a2 a3 a4 a5 a6 : Value) : World := ((((((W.setCell ⟨b,0,none⟩ a0).setCell ⟨b,1,none⟩ a1).setCell ⟨b,2,none⟩ a2).setCell ⟨b,3,none⟩ a3).setCell ⟨b,4,none⟩ a4).setCell ⟨b,5,none⟩ a5).setCell ⟨b,6,none⟩ a6
theorem setMB_box {W : World} {b : Nat} {t : TypeId} {z0 z1 z2 z3 z4 z5 z6 : Value} (h : Box W b #[z0,z1,z2,z3,z4,z5,z6] t) (a0 a1 a2 a3 a4 a5 a6 : Value) : Box (setMB W b a0 a1 a2 a3 a4 a5 a6) b #[a0,a1,a2,a3,a4,a5,a6] t := by
 have h2 := box_set (k := 6) (box_set (k := 5) (box_set (k := 4) (box_set (k := 3) (box_set (k := 2) (box_set (k := 1) (box_set (k := 0) h a0) a1) a2) a3) a4) a5) a6
 simp only [List.setIfInBounds_toArray,List.set_cons_zero,List.set_cons_succ] at h2
 exact h2
theorem sub_any (z : XEn) (w : World) : Calls Tryz.prog 96 #[valN z] w fun e w' => e = .returned (.agg #[.int .i64 3,.int .i64 z.1,.int .i64 z.2.1,.int .i64 z.2.2.1,.int .i64 z.2.2.2.1,slv z.2.2.2.2.1,.slice none 0 0]) ∧ Below w.heap.size w w' := by
 obtain ⟨c,d,g,h,⟨po,pn,pc⟩,fr,up⟩ := z
 obtain ⟨h0,h1,h2⟩ := two_new w #[.int .i64 c,.int .i64 d,.int .i64 g,.int .i64 h,.slice po pn pc,.int .i64 fr,.bool up] #[.int .i64 0,.int .i64 0,.int .i64 0,.int .i64 0,.int .i64 0,.slice none 0 0,.slice none 0 0] 43 77
 obtain ⟨x0,x1,x2,x3,x4,x5,x6⟩ := h1.cs7
 obtain ⟨r0,r1,r2,r3,r4,r5,r6⟩ := h2.cs7
 obtain ⟨t0,t1,t2,t3,t4,t5,t6⟩ := h2.fs7
 have zz := h2.lt
 have FB := Lib.hid (setMB_box h2 (.int .i64 3) (.int .i64 c) (.int .i64 d) (.int .i64 g) (.int .i64 h) (.slice po pn pc) (.slice none 0 0))
 have BL := Lib.hid ((((((((h0.setCell (p := ⟨w.heap.size + 1,0,none⟩) (by show w.heap.size ≤ w.heap.size + 1; omega) (.int .i64 3)).setCell (p := ⟨w.heap.size + 1,1,none⟩) (by show w.heap.size ≤ w.heap.size + 1; omega) (.int .i64 c)).setCell (p := ⟨w.heap.size + 1,2,none⟩) (by show w.heap.size ≤ w.heap.size + 1; omega) (.int .i64 d)).setCell (p := ⟨w.heap.size + 1,3,none⟩) (by show w.heap.size ≤ w.heap.size + 1; omega) (.int .i64 g)).setCell (p := ⟨w.heap.size + 1,4,none⟩) (by show w.heap.size ≤ w.heap.size + 1; omega) (.int .i64 h)).setCell (p := ⟨w.heap.size + 1,5,none⟩) (by show w.heap.size ≤ w.heap.size + 1; omega) (.slice po pn pc)).setCell (p := ⟨w.heap.size + 1,6,none⟩) (by show w.heap.size ≤ w.heap.size + 1; omega) (.slice none 0 0)))
 clear h0 h1 h2
 show Calls Tryz.prog 96 #[.agg #[.int .i64 c,.int .i64 d,.int .i64 g,.int .i64 h,.slice po pn pc,.int .i64 fr,.bool up]] w _
 go_enter Tryz.func96,Tryz.ntmps96
 go_upto_region 1 with fail
 generalize (w.alloc (.cells #[.int .i64 c,.int .i64 d,.int .i64 g,.int .i64 h,.slice po pn pc,.int .i64 fr,.bool up] 43)).alloc (.cells #[.int .i64 0,.int .i64 0,.int .i64 0,.int .i64 0,.int .i64 0,.slice none 0 0,.slice none 0 0] 77) = W at *
 go_wp2_with fail
 obtain ⟨v0,v1,v2,v3,v4,v5,v6⟩ := FB.out.cs7
 refine bodyPost_ret (v := .agg #[.int .i64 3,.int .i64 c,.int .i64 d,.int .i64 g,.int .i64 h,.slice po pn pc,.slice none 0 0]) (by simp [results,Tryz.results96,go_sem,v0,v1,v2,v3,v4,v5,v6]) rfl ?_
 exact ⟨rfl,BL.out⟩
end Go.Proofs.YtncogjpmboglhaaGreat.Bk
namespace Go.Proofs.YtncogjpmboglhaaGreat.Rl
open Go.RowKit Pu Rw Pr Va
end Go.Proofs.YtncogjpmboglhaaGreat.Rl
namespace Go.Proofs.YtncogjpmboglhaaGreat.Bk
open Go.RowKit Go.Sort Rw YtncogjpmboglhaaGreat.Nm Pr
noncomputable def subsB0 : Code := ((Tryz.f32.body.bind (findBlock 0)).getD .skip)
theorem subs_l0 (Q : Exit → Act → World → Prop) (W : World) (b2 b3 : Nat) (me c d : Int) (y1 y2 y3 y4 : Value) (so : Option Addr) (n sc : Nat) (l : List XOw) (u0 u1 u2 u5 u6 u7 u9 u10 u11 u12 u13 u14 u15 u16 u17 u18 u19 u20 u21 u22 u23 u24 u25 u26 u27 u28 u29 u30 u31 u32 u33 u34 u35 u36 u37 u38 u39 u40 u41 u42 u43 u44 u45 u46 u47 u48 u49 u50 u51 u52 u53 u54 u55 u56 u57 u58 u59 u60 u61 u62 u63 u64 u65 u66 u67 u68 u69 u70 u71 u72 u73 u74 u75 u76 u77 u78 u79 u80 u81 u82 u83 u84 u85 u86 u87 u88 u89 u90 u91 u92 u93 u94 u95 u96 u97 u98 : Value)
  (h2 : Box W b2 #[.int .i64 me,y1,y2,y3,y4,.slice so n sc] 31) (h3 : Box W b3 #[.int .i64 c,.int .i64 d] 38) (hs : RowW W (.slice so n sc) l) (hn : n = l.length) (hm : n ≤ 1000000)
  (hQ : ∀ (wr : World) (v14 v15 v16 v17 v18 v19 v20 v21 v22 v23 v24 v25 v26 v27 v28 v29 v30 : Value),Below W.heap.size W wr → Q .normal ⟨(u0 :: u1 :: u2 :: .pointer (some ⟨b2,0,none⟩) :: .pointer (some ⟨b3,0,none⟩) :: u5 :: u6 :: u7 :: .int .i64 (placeI (l.map fun y => (y.1,y.2.1)) (c,d) : Nat) :: u9 :: u10 :: u11 :: u12 :: u13 :: v14 :: v15 :: v16 :: v17 :: v18 :: v19 :: v20 :: v21 :: v22 :: v23 :: v24 :: v25 :: v26 :: v27 :: v28 :: v29 :: v30 :: u31 :: u32 :: u33 :: u34 :: u35 :: u36 :: u37 :: u38 :: u39 :: u40 :: u41 :: u42 :: u43 :: u44 :: u45 :: u46 :: u47 :: u48 :: u49 :: u50 :: u51 :: u52 :: u53 :: u54 :: u55 :: u56 :: u57 :: u58 :: u59 :: u60 :: u61 :: u62 :: u63 :: u64 :: u65 :: u66 :: u67 :: u68 :: u69 :: u70 :: u71 :: u72 :: u73 :: u74 :: u75 :: u76 :: u77 :: u78 :: u79 :: u80 :: u81 :: u82 :: u83 :: u84 :: u85 :: u86 :: u87 :: u88 :: u89 :: u90 :: u91 :: u92 :: u93 :: u94 :: u95 :: u96 :: u97 :: u98 :: []).toArray,[]⟩ wr) :
  Code.wp Tryz.prog subsB0 Q ⟨(u0 :: u1 :: u2 :: .pointer (some ⟨b2,0,none⟩) :: .pointer (some ⟨b3,0,none⟩) :: u5 :: u6 :: u7 :: .int .i64 0 :: u9 :: u10 :: u11 :: u12 :: u13 :: u14 :: u15 :: u16 :: u17 :: u18 :: u19 :: u20 :: u21 :: u22 :: u23 :: u24 :: u25 :: u26 :: u27 :: u28 :: u29 :: u30 :: u31 :: u32 :: u33 :: u34 :: u35 :: u36 :: u37 :: u38 :: u39 :: u40 :: u41 :: u42 :: u43 :: u44 :: u45 :: u46 :: u47 :: u48 :: u49 :: u50 :: u51 :: u52 :: u53 :: u54 :: u55 :: u56 :: u57 :: u58 :: u59 :: u60 :: u61 :: u62 :: u63 :: u64 :: u65 :: u66 :: u67 :: u68 :: u69 :: u70 :: u71 :: u72 :: u73 :: u74 :: u75 :: u76 :: u77 :: u78 :: u79 :: u80 :: u81 :: u82 :: u83 :: u84 :: u85 :: u86 :: u87 :: u88 :: u89 :: u90 :: u91 :: u92 :: u93 :: u94 :: u95 :: u96 :: u97 :: u98 :: []).toArray,[]⟩ W := by
 have HQ := Lib.hid hQ
 have H2 := Lib.hid h2
 have H3 := Lib.hid h3
 have HS := Lib.hid hs
 have HN := Lib.hid hn
 clear hQ h2 h3 hs hn
 conv => arg 2; whnf
 go_wp2
 go_loopw [8] (fun i wr => ∃ k : Nat,k ≤ n ∧ i = .int .i64 k ∧ Below W.heap.size W wr ∧ ∀ (j : Nat) (y : Id),j < k → (l.map fun y => (y.1,y.2.1))[j]? = some y → lessI y (c,d) = true) (fun i _ => n - (intOf i).toNat)
 case atStart => exact ⟨0,Nat.zero_le _,rfl,Below.refl _ _,fun j y h => by omega⟩
 case round =>
  obtain ⟨k,hk,rfl,hbe,hall⟩ := hrel
  have BE := Lib.hid hbe
  have AL := Lib.hid hall
  clear hbe hall
  have q0 := cell_regrown (show wr.cell? ⟨b2,5,none⟩ = some (.slice so n sc) from (H2.out.on BE.out).cell 5)
  have r0 := cell_regrown (show wr.cell? ⟨b3,0,none⟩ = some (.int .i64 c) from (H3.out.on BE.out).cell 0)
  have r1 := cell_regrown (show wr.cell? ⟨b3,1,none⟩ = some (.int .i64 d) from (H3.out.on BE.out).cell 1)
  have hw3 : IntKind.i64.wrap ((k : Int) + 1) = (k : Int) + 1 := IntWalk.i64_in _ (by omega)
  by_cases hlt : k < n
  ·obtain ⟨y,hy⟩ : ∃ y,l[k]? = some y := ⟨_,List.getElem?_eq_getElem (by rw [← HN.out]; exact hlt)⟩
   obtain ⟨p,ix,px⟩ := elW HS.out rfl HN.out.symm hy
   have px2 := px wr BE.out
   obtain ⟨y1,y2,⟨yo,yn,yc⟩⟩ := y
   simp only at px2
   have p0 := cell_regrown px2.1
   have p1 := cell_regrown px2.2.1
   have dlt : decide ((k : Int) < (n : Int)) = true := decide_eq_true (by omega)
   have dln : decide (k < n) = true := decide_eq_true hlt
   obtain ⟨r,hr⟩ : ∃ r,lessI (y1,y2) (c,d) = r := ⟨_,rfl⟩
   have LS := Lib.hid (fun d' os => Calls.regrown_of (d := d') (os := os) ((less_any (y1,y2) (c,d) (grow (redrawn wr d') os)).mono fun _ _ h => ⟨by rw [h.1,hr],h.2⟩))
   have HY := Lib.hid (show (l.map fun y => (y.1,y.2.1))[k]? = some (y1,y2) by rw [List.getElem?_map,hy]; rfl)
   have HR := Lib.hid hr
   clear px px2 hy hr
   cases r
   ·go_wp2_with fail
    refine wp_region_quiet_below (by kernel_rfl) (by kernel_rfl) ?_
    repeat (go_big_quiet_step (first | (with_reducible exact LS.out _ _)))
    refine wpQuiet_nil ?_
    intro _ hw'
    obtain ⟨⟨dq,osq⟩,hw''⟩ := hw'
    subst hw''
    have Z6 := below_regrown wr dq osq
    have HF := Lib.hid (fun v14 v15 v16 v17 v18 v19 v20 v21 v22 v23 v24 v25 v26 v27 v28 v29 v30 => HQ.out (grow (redrawn wr dq) osq) v14 v15 v16 v17 v18 v19 v20 v21 v22 v23 v24 v25 v26 v27 v28 v29 v30 (BE.out.trans (Z6.mono BE.out.size)))
    rw [place_is (l.map fun y => (y.1,y.2.1)) (c,d) k AL.out (Or.inr ⟨_,HY.out,HR.out⟩)] at HF
    clear ix HQ q0 r0 r1 LS dlt dln p0 p1
    go_wp2
    exact HF.out _ _ _ _ _ _ _ _ _ _ _ _ _ _ _ _ _
   ·go_wp2_with fail
    refine wp_region_quiet_below (by kernel_rfl) (by kernel_rfl) ?_
    repeat (go_big_quiet_step (first | (with_reducible exact LS.out _ _)))
    refine wpQuiet_nil ?_
    intro _ hw'
    obtain ⟨⟨dq,osq⟩,hw''⟩ := hw'
    subst hw''
    have Z6 := Lib.hid (below_regrown wr dq osq)
    clear ix q0 r0 r1 LS dlt dln p0 p1
    go_wp2
    go_roundw
    case rel => exact ⟨k + 1,by omega,by go_num,BE.out.trans (Z6.out.mono BE.out.size),fun j y' hj h1 => by
     rcases Nat.lt_or_ge j k with h3 | h3
     ·exact AL.out j y' h3 h1
     ·obtain rfl : j = k := by omega
      have e1 := HY.out
      rw [h1] at e1
      rw [Option.some.inj e1]
      exact HR.out⟩
    case measure => simp [intOf]; omega
  ·obtain rfl : k = n := by omega
   have dlt : decide ((k : Int) < (k : Int)) = false := by simp
   have dln : decide (k < k) = false := by simp
   go_wp2_with fail
   refine wp_region_quiet_below (by kernel_rfl) (by kernel_rfl) ?_
   repeat (go_big_quiet_step (fail))
   refine wpQuiet_nil ?_
   intro _ hw'
   obtain ⟨⟨dq,osq⟩,hw''⟩ := hw'
   subst hw''
   have Z6 := below_regrown wr dq osq
   have HF := Lib.hid (fun v14 v15 v16 v17 v18 v19 v20 v21 v22 v23 v24 v25 v26 v27 v28 v29 v30 => HQ.out (grow (redrawn wr dq) osq) v14 v15 v16 v17 v18 v19 v20 v21 v22 v23 v24 v25 v26 v27 v28 v29 v30 (BE.out.trans (Z6.mono BE.out.size)))
   rw [place_is (l.map fun y => (y.1,y.2.1)) (c,d) k AL.out (Or.inl (by simpa using HN.out))] at HF
   clear HQ q0 r0 r1 dlt dln
   go_wp2
   exact HF.out _ _ _ _ _ _ _ _ _ _ _ _ _ _ _ _ _
end Go.Proofs.YtncogjpmboglhaaGreat.Bk
