/-
  sub of broadsideref9: a message of an entry. Conditions as told.
-/
import Derived.Test.YtmklifheakemeaaGreatfr014
import Derived.Test.YtmklifheakemeaaGreatfr008
import Derived.Test.YtmklifheakemeaaGreatfr005
import Derived.Test.YtmklifheakemeaaGreatfr012
import Derived.Test.YtmklifheakemeaaGreatfr016
import Derived.Test.YtmklifheakemeaaGreatfr001
import Derived.Lib.QuietBelow
import Derived.BigQuiet
import Derived.Test.YtmklifheakemeaaGreatfr006
import Derived.Laws.Externs
import Derived.Lib.Hide
set_option maxRecDepth 100000
set_option maxHeartbeats 64000000
namespace Go.Proofs.YtmklifheakemeaaGreat.Bk
open Go.RowKit Go.Sort Rw YtmklifheakemeaaGreat.Nm Pr
abbrev setMB (W : World) (b : Nat) (a0 a1 a2 a3 a4 a5 a6 : Value) : World := ((((((W.setCell ⟨b,0,none⟩ a0).setCell ⟨b,1,none⟩ a1).setCell ⟨b,2,none⟩ a2).setCell ⟨b,3,none⟩ a3).setCell ⟨b,4,none⟩ a4).setCell ⟨b,5,none⟩ a5).setCell ⟨b,6,none⟩ a6
theorem setMB_box {W : World} {b : Nat} {t : TypeId} {z0 z1 z2 z3 z4 z5 z6 : Value} (h : Box W b #[z0,z1,z2,z3,z4,z5,z6] t) (a0 a1 a2 a3 a4 a5 a6 : Value) : Box (setMB W b a0 a1 a2 a3 a4 a5 a6) b #[a0,a1,a2,a3,a4,a5,a6] t := by
 have h2 := box_set (k := 6) (box_set (k := 5) (box_set (k := 4) (box_set (k := 3) (box_set (k := 2) (box_set (k := 1) (box_set (k := 0) h a0) a1) a2) a3) a4) a5) a6
 simp only [List.setIfInBounds_toArray,List.set_cons_zero,List.set_cons_succ] at h2
 exact h2
end Go.Proofs.YtmklifheakemeaaGreat.Bk
namespace Go.Proofs.YtmklifheakemeaaGreat.Wr
open YtmklifheakemeaaGreat.Nm At Pr
def oneB (c : C5) : Bool := nameB c.1 && (if c.2.1 = 1 then decide (c.2.2.2.2.size = 0) && decide (c.2.2.1 ≤ c.2.2.2.1) else if c.2.1 = 2 then decide (c.2.2.1 = 0) && (decide (c.2.2.2.1 = 0) && decide (c.2.2.2.2.size ≤ 12)) else if c.2.1 = 3 then decide (c.2.2.1 = 0) && (decide (c.2.2.2.1 = 0) && decide (c.2.2.2.2.size ≤ 11)) else false)
def pairC (p x : C5) : Bool := Op.bytesLess p.1.toList x.1.toList
def goodP (l : List C5) (k : Nat) : Bool := match l[k]? with
 | some x => oneB x && (k == 0 || (match l[k - 1]? with
  | some p => pairC p x
  | none => true))
 | none => true
def rightP (l : List C5) : Bool := (List.range l.length).all (goodP l) && decide (l.length ≤ 5)
end Go.Proofs.YtmklifheakemeaaGreat.Wr
namespace Go.Proofs.YtmklifheakemeaaGreat.Av
open Go.RowKit Go.Sort Rw YtmklifheakemeaaGreat.Nm Pr Bk
def cp1V (B : Nat) (b1 : Nat) (_me : Int) (_z2 _z4 _z5 : Value) (o1 : Option Addr) (n1 c1 : Nat) (nl : List Int) (o3 : Option Addr) (n3 c3 : Nat) (sl : List XID) (i : Nat) (v : Value) (x : World) : Prop :=
 match i with
 | 0 => v = .pointer (some ⟨b1,1,none⟩)
 | 1 => v = .slice o1 n1 c1
 | 2 => ∃ s : Sl,v = slv s ∧ OwnI x B v nl
 | 3 => v = .pointer (some ⟨b1,3,none⟩)
 | 4 => v = .slice o3 n3 c3
 | 5 => ∃ s : Sl,v = slv s ∧ OwnJ x B v sl
 | 6 => v = .pointer (some ⟨b1,1,none⟩)
 | _ => True
noncomputable def cp1C : Code := ((Tryz.f91.body.bind (findRegion 1)).getD .skip)
theorem cp1V_on (B : Nat) (b1 : Nat) (me : Int) (z2 z4 z5 : Value) (o1 : Option Addr) (n1 c1 : Nat) (nl : List Int) (o3 : Option Addr) (n3 c3 : Nat) (sl : List XID) (i : Nat) (v : Value) (x x' : World) (h : cp1V B b1 me z2 z4 z5 o1 n1 c1 nl o3 n3 c3 sl i v x) (hb : Below x.heap.size x x') : cp1V B b1 me z2 z4 z5 o1 n1 c1 nl o3 n3 c3 sl i v x' := by
 by_cases hi : i < 7
 ·rcases (by omega : i = 0 ∨ i = 1 ∨ i = 2 ∨ i = 3 ∨ i = 4 ∨ i = 5 ∨ i = 6) with rfl | rfl | rfl | rfl | rfl | rfl | rfl
  ·exact h
  ·exact h
  ·obtain ⟨s,h1,h2⟩ := h; exact ⟨s,h1,Bk.own_on h2 hb⟩
  ·exact h
  ·exact h
  ·obtain ⟨s,h1,h2⟩ := h; exact ⟨s,h1,Bk.own_on h2 hb⟩
  ·exact h
 ·unfold cp1V
  split <;> first | omega | trivial
theorem cp1 (Q : Exit → Act → World → Prop) (W : World) (b1 : Nat) (me : Int) (z2 z4 z5 : Value) (o1 : Option Addr) (n1 c1 : Nat) (nl : List Int) (o3 : Option Addr) (n3 c3 : Nat) (sl : List XID) (u0 u2 u3 u4 u5 u6 u7 u8 u9 u10 u11 u12 u13 u14 u15 u16 u17 u18 u19 u20 u21 u22 u23 u24 u25 u26 u27 u28 u29 u30 u31 u32 u33 u34 u35 u36 u37 u38 u39 u40 u41 u42 u43 u44 u45 u46 u47 u48 u49 u50 u51 u52 u53 u54 u55 u56 u57 u58 u59 u60 u61 u62 u63 u64 u65 u66 u67 u68 u69 u70 u71 u72 u73 u74 u75 u76 u77 u78 u79 u80 u81 : Value)
  (h1 : Box W b1 #[.int .i64 me,.slice o1 n1 c1,z2,.slice o3 n3 c3,z4,z5] 28) (r1 : RowI W (.slice o1 n1 c1) nl) (r3 : RowJ W (.slice o3 n3 c3) sl) (l1 : nl.length ≤ 900) (l3 : sl.length ≤ 900)
  (hQ : ∀ (x : World) (v6 v7 v8 v9 v10 v11 v12 v13 : Value) (p1 : Option Addr) (q1 s1 : Nat) (p3 : Option Addr) (q3 s3 : Nat),Box x b1 #[.int .i64 me,.slice p1 q1 s1,z2,.slice p3 q3 s3,z4,z5] 28 → OwnI x W.heap.size (.slice p1 q1 s1) nl → OwnJ x W.heap.size (.slice p3 q3 s3) sl → (∀ B,B ≤ b1 → Below B W x) → (∀ k,k < W.heap.size → k ≠ b1 → x.heap[k]? = W.heap[k]?) → Q .normal ⟨(u0 :: .pointer (some ⟨b1,0,none⟩) :: u2 :: u3 :: u4 :: u5 :: v6 :: v7 :: v8 :: v9 :: v10 :: v11 :: v12 :: v13 :: u14 :: u15 :: u16 :: u17 :: u18 :: u19 :: u20 :: u21 :: u22 :: u23 :: u24 :: u25 :: u26 :: u27 :: u28 :: u29 :: u30 :: u31 :: u32 :: u33 :: u34 :: u35 :: u36 :: u37 :: u38 :: u39 :: u40 :: u41 :: u42 :: u43 :: u44 :: u45 :: u46 :: u47 :: u48 :: u49 :: u50 :: u51 :: u52 :: u53 :: u54 :: u55 :: u56 :: u57 :: u58 :: u59 :: u60 :: u61 :: u62 :: u63 :: u64 :: u65 :: u66 :: u67 :: u68 :: u69 :: u70 :: u71 :: u72 :: u73 :: u74 :: u75 :: u76 :: u77 :: u78 :: u79 :: u80 :: u81 :: []).toArray,[]⟩ x) :
  Code.wp Tryz.prog cp1C Q ⟨(u0 :: .pointer (some ⟨b1,0,none⟩) :: u2 :: u3 :: u4 :: u5 :: u6 :: u7 :: u8 :: u9 :: u10 :: u11 :: u12 :: u13 :: u14 :: u15 :: u16 :: u17 :: u18 :: u19 :: u20 :: u21 :: u22 :: u23 :: u24 :: u25 :: u26 :: u27 :: u28 :: u29 :: u30 :: u31 :: u32 :: u33 :: u34 :: u35 :: u36 :: u37 :: u38 :: u39 :: u40 :: u41 :: u42 :: u43 :: u44 :: u45 :: u46 :: u47 :: u48 :: u49 :: u50 :: u51 :: u52 :: u53 :: u54 :: u55 :: u56 :: u57 :: u58 :: u59 :: u60 :: u61 :: u62 :: u63 :: u64 :: u65 :: u66 :: u67 :: u68 :: u69 :: u70 :: u71 :: u72 :: u73 :: u74 :: u75 :: u76 :: u77 :: u78 :: u79 :: u80 :: u81 :: []).toArray,[]⟩ W := by
 have HQ := Lib.hid hQ
 have H1 := Lib.hid h1
 have R1 := Lib.hid r1
 have R3 := Lib.hid r3
 have L1 := Lib.hid l1
 have L3 := Lib.hid l3
 clear hQ h1 r1 r3 l1 l3
 have stab := cp1V_on W.heap.size b1 me z2 z4 z5 o1 n1 c1 nl o3 n3 c3 sl
 unfold cp1C
 conv => arg 2; whnf
 have nd : ∀ j,(j < 6 ∨ 13 ≤ j) → ∀ i,i < 7 → (fun i => 6 + i) i ≠ j := by
  intro j hj i hi h
  simp only at h
  omega
 refine Rg.region_live 10 7 (fun i => 6 + i) (fun _ => 7) (cp1V W.heap.size b1 me z2 z4 z5 o1 n1 c1 nl o3 n3 c3 sl) (by kernel_rfl) (by kernel_rfl) rfl (by decide) (fun i j _ _ h => by have h2 : 6 + i = 6 + j := h; omega) (fun i hi => by show 6 + i < 82; omega) ?_ (fun _ => Rg.hall_of 14 (by kernel_rfl)) ?_ ?_
 ·intro i o hi ho a x D hnd hc hD hb seen K hK
  clear HQ
  rcases (by omega : i = 0 ∨ i = 1 ∨ i = 2 ∨ i = 3 ∨ i = 4 ∨ i = 5 ∨ i = 6) with rfl | rfl | rfl | rfl | rfl | rfl | rfl
  ·obtain rfl := Option.some.inj ho
   have e1 : a.eval (.tmp 1) = .pointer (some ⟨b1,0,none⟩) := seen.kp 1 _ (nd 1 (by omega)) rfl
   exact Rg.op_value rfl rfl (Rg.ex_field a.eval _ 28 (.tmp 1) 1 rfl (by rw [e1]; simp [go_sem])) (hK _ _ rfl (Below.refl _ _) fun _ _ _ _ _ _ _ h => h)
  ·obtain rfl := Option.some.inj ho
   have e6 : a.eval (.tmp 6) = .pointer (some ⟨b1,1,none⟩) := seen.at_ ⟨0,.data⟩ (by simp) rfl (Or.inr (by decide))
   have y1 := (H1.out.on hb).cell 1
   simp only [List.getElem?_toArray,List.getElem?_cons_zero,List.getElem?_cons_succ] at y1
   exact Rg.op_value rfl rfl (Rg.ex_load a.eval _ 22 (.tmp 6) rfl (by rw [e6]; simp [go_sem,y1])) (hK _ _ rfl (Below.refl _ _) fun _ _ _ _ _ _ _ h => h)
  ·obtain rfl := Option.some.inj ho
   have e7 : a.eval (.tmp 7) = .slice o1 n1 c1 := seen.at_ ⟨1,.data⟩ (by simp) rfl (Or.inr (by decide))
   exact Rg.op_call rfl rfl (Rw.ex_call1 a.eval _ (.tmp 7) 22 32 rfl e7 rfl _ (call_fn Tryz.func32 rfl rfl _ _)) (cloneI_any (o1,n1,c1) nl x (R1.out.on hb) L1.out) fun e w1 h => by
    obtain ⟨⟨s,rfl,h1⟩,h3⟩ := h
    exact ⟨_,rfl,hK _ _ ⟨s,rfl,own_fewer h1 hb.size⟩ (h3.mono hb.size) fun j u hj _ _ _ hne h => stab j u _ _ h h3⟩
  ·obtain rfl := Option.some.inj ho
   have e1 : a.eval (.tmp 1) = .pointer (some ⟨b1,0,none⟩) := seen.kp 1 _ (nd 1 (by omega)) rfl
   exact Rg.op_value rfl rfl (Rg.ex_field a.eval _ 28 (.tmp 1) 3 rfl (by rw [e1]; simp [go_sem])) (hK _ _ rfl (Below.refl _ _) fun _ _ _ _ _ _ _ h => h)
  ·obtain rfl := Option.some.inj ho
   have e9 : a.eval (.tmp 9) = .pointer (some ⟨b1,3,none⟩) := seen.at_ ⟨3,.data⟩ (by simp) rfl (Or.inr (by decide))
   have y3 := (H1.out.on hb).cell 3
   simp only [List.getElem?_toArray,List.getElem?_cons_zero,List.getElem?_cons_succ] at y3
   exact Rg.op_value rfl rfl (Rg.ex_load a.eval _ 24 (.tmp 9) rfl (by rw [e9]; simp [go_sem,y3])) (hK _ _ rfl (Below.refl _ _) fun _ _ _ _ _ _ _ h => h)
  ·obtain rfl := Option.some.inj ho
   have e10 : a.eval (.tmp 10) = .slice o3 n3 c3 := seen.at_ ⟨4,.data⟩ (by simp) rfl (Or.inr (by decide))
   exact Rg.op_call rfl rfl (Rw.ex_call1 a.eval _ (.tmp 10) 24 140 rfl e10 rfl _ (call_fn Tryz.func140 rfl rfl _ _)) (cloneJ_any (o3,n3,c3) sl x (R3.out.on hb) L3.out) fun e w1 h => by
    obtain ⟨⟨s,rfl,h1⟩,h3⟩ := h
    exact ⟨_,rfl,hK _ _ ⟨s,rfl,own_fewer h1 hb.size⟩ (h3.mono hb.size) fun j u hj _ _ _ hne h => stab j u _ _ h h3⟩
  ·obtain rfl := Option.some.inj ho
   have e1 : a.eval (.tmp 1) = .pointer (some ⟨b1,0,none⟩) := seen.kp 1 _ (nd 1 (by omega)) rfl
   exact Rg.op_value rfl rfl (Rg.ex_field a.eval _ 28 (.tmp 1) 1 rfl (by rw [e1]; simp [go_sem])) (hK _ _ rfl (Below.refl _ _) fun _ _ _ _ _ _ _ h => h)
 ·intro kk o h1 h2 ho
  rcases (by omega : kk = 8 ∨ kk = 9) with rfl | rfl
  ·obtain rfl := Option.some.inj ho
   exact ⟨⟨7,.phase⟩,by simp,rfl,rfl⟩
  ·obtain rfl := Option.some.inj ho
   exact ⟨⟨8,.data⟩,by simp,rfl,rfl⟩
 ·intro a w' df sz kp ⟨vs,hv⟩ hb
  have sz' : a.tmps.size = 82 := sz
  have g1 : a.tmps[1]? = some (.pointer (some ⟨b1,0,none⟩)) := (kp 1 (nd 1 (by omega))).trans rfl
  have g12 : a.tmps[12]? = some (.pointer (some ⟨b1,1,none⟩)) := by
   have h : vs 6 = .pointer (some ⟨b1,1,none⟩) := (hv 6 (by omega)).2 (by decide)
   rw [← h]
   exact (hv 6 (by omega)).1
  obtain ⟨⟨p1,q1,s1⟩,hs1,ho1⟩ := (hv 2 (by omega)).2 (by decide)
  have g8 : a.tmps[8]? = some (.slice p1 q1 s1) := ((hv 2 (by omega)).1).trans (congrArg some hs1)
  rw [hs1] at ho1
  obtain ⟨⟨p3,q3,s3⟩,hs3,ho3⟩ := (hv 5 (by omega)).2 (by decide)
  have g11 : a.tmps[11]? = some (.slice p3 q3 s3) := ((hv 5 (by omega)).1).trans (congrArg some hs3)
  rw [hs3] at ho3
  have hB := H1.out.on hb
  have hlt := H1.out.lt
  show Rg.SeqFrom _ _ _ 3 7 a w'
  simp only [Rg.SeqFrom]
  have c1x := hB.cell 1
  have f1x := hB.fr 1
  simp only [List.getElem?_toArray,List.getElem?_cons_zero,List.getElem?_cons_succ] at c1x
  refine Rg.op_store 22 (.tmp 12) (.tmp 8) rfl rfl rfl rfl (Rg.eval_some g12) (Rg.eval_some g8) (w' := (w').setCell ⟨b1,1,none⟩ (.slice p1 q1 s1)) (by simp [go_sem,c1x,f1x]) ?_
  have hB1 : Box ((w').setCell ⟨b1,1,none⟩ (.slice p1 q1 s1)) b1 #[.int .i64 me,.slice p1 q1 s1,z2,.slice o3 n3 c3,z4,z5] 28 := by simpa using box_set (k := 1) hB (.slice p1 q1 s1)
  refine Rg.op_value rfl rfl (Rg.ex_field _ _ 28 (.tmp 1) 3 rfl (v := .pointer (some ⟨b1,3,none⟩)) (by rw [Rg.eval_some g1]; simp [go_sem])) ?_
  have hp13 : ((a).put (some 13) (.pointer (some ⟨b1,3,none⟩))).tmps[13]? = some (.pointer (some ⟨b1,3,none⟩)) := by simp [Act.put,sz']
  show Go.wpOp _ _ _ 9 _ ((a).put (some 13) (.pointer (some ⟨b1,3,none⟩))) _
  have c3x := hB1.cell 3
  have f3x := hB1.fr 3
  simp only [List.getElem?_toArray,List.getElem?_cons_zero,List.getElem?_cons_succ] at c3x
  refine Rg.op_store 24 (.tmp 13) (.tmp 11) rfl rfl rfl rfl (Rg.eval_some hp13) (Rg.eval_some ((Rg.get_put _ 13 _ 11 (by decide)).trans g11)) (w' := ((w').setCell ⟨b1,1,none⟩ (.slice p1 q1 s1)).setCell ⟨b1,3,none⟩ (.slice p3 q3 s3)) (by simp [go_sem,c3x,f3x]) ?_
  have hB3 : Box (((w').setCell ⟨b1,1,none⟩ (.slice p1 q1 s1)).setCell ⟨b1,3,none⟩ (.slice p3 q3 s3)) b1 #[.int .i64 me,.slice p1 q1 s1,z2,.slice p3 q3 s3,z4,z5] 28 := by simpa using box_set (k := 3) hB1 (.slice p3 q3 s3)
  have kp2 : ∀ j,(j < 6 ∨ 14 ≤ j) → ((a).put (some 13) (.pointer (some ⟨b1,3,none⟩))).tmps[j]? = (u0 :: .pointer (some ⟨b1,0,none⟩) :: u2 :: u3 :: u4 :: u5 :: u6 :: u7 :: u8 :: u9 :: u10 :: u11 :: u12 :: u13 :: u14 :: u15 :: u16 :: u17 :: u18 :: u19 :: u20 :: u21 :: u22 :: u23 :: u24 :: u25 :: u26 :: u27 :: u28 :: u29 :: u30 :: u31 :: u32 :: u33 :: u34 :: u35 :: u36 :: u37 :: u38 :: u39 :: u40 :: u41 :: u42 :: u43 :: u44 :: u45 :: u46 :: u47 :: u48 :: u49 :: u50 :: u51 :: u52 :: u53 :: u54 :: u55 :: u56 :: u57 :: u58 :: u59 :: u60 :: u61 :: u62 :: u63 :: u64 :: u65 :: u66 :: u67 :: u68 :: u69 :: u70 :: u71 :: u72 :: u73 :: u74 :: u75 :: u76 :: u77 :: u78 :: u79 :: u80 :: u81 :: [])[j]? := fun j hj => (Rg.get_put _ 13 _ j (by omega)).trans ((kp j (nd j (by omega))).trans List.getElem?_toArray)
  obtain ⟨mid,hmid,hfr⟩ := Rg.frame_mid (a := (a).put (some 13) (.pointer (some ⟨b1,3,none⟩))) 6 8 df (by simp [Rg.size_put,sz']) (by simp) kp2
  show Q .normal ((a).put (some 13) (.pointer (some ⟨b1,3,none⟩))) _
  rw [hfr]
  match mid,hmid with
  | [v6,v7,v8,v9,v10,v11,v12,v13],_ =>
   exact HQ.out _ _ _ _ _ _ _ _ _ p1 q1 s1 p3 q3 s3 hB3 (own_cell (own_cell ho1 b1 1 (.slice p1 q1 s1) hlt) b1 3 (.slice p3 q3 s3) hlt) (own_cell (own_cell ho3 b1 1 (.slice p1 q1 s1) hlt) b1 3 (.slice p3 q3 s3) hlt) (fun B hBl => (((hb.mono (Nat.le_of_lt (Nat.lt_of_le_of_lt hBl hlt))).setCell (p := ⟨b1,1,none⟩) hBl (.slice p1 q1 s1)).setCell (p := ⟨b1,3,none⟩) hBl (.slice p3 q3 s3))) (fun k hk hne => ((RowKit.Below.heap_setCell ((w').setCell ⟨b1,1,none⟩ (.slice p1 q1 s1)) ⟨b1,3,none⟩ (.slice p3 q3 s3) k hne).trans ((RowKit.Below.heap_setCell (w') ⟨b1,1,none⟩ (.slice p1 q1 s1) k hne).trans (hb.block k hk))))
def cp2V (B : Nat) (b1 : Nat) (_me : Int) (_z1 _z3 : Value) (o2 : Option Addr) (n2 c2 : Nat) (al : List XAd) (o4 : Option Addr) (n4 c4 : Nat) (el : List XEn) (o5 : Option Addr) (n5 c5 : Nat) (ol : List XOw) (i : Nat) (v : Value) (x : World) : Prop :=
 match i with
 | 0 => v = .pointer (some ⟨b1,2,none⟩)
 | 1 => v = .slice o2 n2 c2
 | 2 => ∃ s : Sl,v = slv s ∧ OwnD x B v al
 | 3 => v = .pointer (some ⟨b1,4,none⟩)
 | 4 => v = .slice o4 n4 c4
 | 5 => ∃ s : Sl,v = slv s ∧ OwnN x B v el
 | 6 => v = .pointer (some ⟨b1,5,none⟩)
 | 7 => v = .slice o5 n5 c5
 | 8 => ∃ s : Sl,v = slv s ∧ OwnW x B v ol
 | 9 => v = .pointer (some ⟨b1,2,none⟩)
 | _ => True
noncomputable def cp2C : Code := ((Tryz.f91.body.bind (findRegion 2)).getD .skip)
theorem cp2V_on (B : Nat) (b1 : Nat) (me : Int) (z1 z3 : Value) (o2 : Option Addr) (n2 c2 : Nat) (al : List XAd) (o4 : Option Addr) (n4 c4 : Nat) (el : List XEn) (o5 : Option Addr) (n5 c5 : Nat) (ol : List XOw) (i : Nat) (v : Value) (x x' : World) (h : cp2V B b1 me z1 z3 o2 n2 c2 al o4 n4 c4 el o5 n5 c5 ol i v x) (hb : Below x.heap.size x x') : cp2V B b1 me z1 z3 o2 n2 c2 al o4 n4 c4 el o5 n5 c5 ol i v x' := by
 by_cases hi : i < 10
 ·rcases (by omega : i = 0 ∨ i = 1 ∨ i = 2 ∨ i = 3 ∨ i = 4 ∨ i = 5 ∨ i = 6 ∨ i = 7 ∨ i = 8 ∨ i = 9) with rfl | rfl | rfl | rfl | rfl | rfl | rfl | rfl | rfl | rfl
  ·exact h
  ·exact h
  ·obtain ⟨s,h1,h2⟩ := h; exact ⟨s,h1,Bk.own_on h2 hb⟩
  ·exact h
  ·exact h
  ·obtain ⟨s,h1,h2⟩ := h; exact ⟨s,h1,Bk.own_on h2 hb⟩
  ·exact h
  ·exact h
  ·obtain ⟨s,h1,h2⟩ := h; exact ⟨s,h1,Bk.own_on h2 hb⟩
  ·exact h
 ·unfold cp2V
  split <;> first | omega | trivial
theorem cp2 (Q : Exit → Act → World → Prop) (W : World) (b1 : Nat) (me : Int) (z1 z3 : Value) (o2 : Option Addr) (n2 c2 : Nat) (al : List XAd) (o4 : Option Addr) (n4 c4 : Nat) (el : List XEn) (o5 : Option Addr) (n5 c5 : Nat) (ol : List XOw) (u0 u2 u3 u4 u5 u6 u7 u8 u9 u10 u11 u12 u13 u14 u15 u16 u17 u18 u19 u20 u21 u22 u23 u24 u25 u26 u27 u28 u29 u30 u31 u32 u33 u34 u35 u36 u37 u38 u39 u40 u41 u42 u43 u44 u45 u46 u47 u48 u49 u50 u51 u52 u53 u54 u55 u56 u57 u58 u59 u60 u61 u62 u63 u64 u65 u66 u67 u68 u69 u70 u71 u72 u73 u74 u75 u76 u77 u78 u79 u80 u81 : Value)
  (h1 : Box W b1 #[.int .i64 me,z1,.slice o2 n2 c2,z3,.slice o4 n4 c4,.slice o5 n5 c5] 28) (r2 : RowD W (.slice o2 n2 c2) al) (r4 : RowN W (.slice o4 n4 c4) el) (r5 : RowW W (.slice o5 n5 c5) ol) (l2 : al.length ≤ 900) (l4 : el.length ≤ 900) (l5 : ol.length ≤ 900)
  (hQ : ∀ (x : World) (v14 v15 v16 v17 v18 v19 v20 v21 v22 v23 v24 v25 : Value) (p2 : Option Addr) (q2 s2 : Nat) (p4 : Option Addr) (q4 s4 : Nat) (p5 : Option Addr) (q5 s5 : Nat),Box x b1 #[.int .i64 me,z1,.slice p2 q2 s2,z3,.slice p4 q4 s4,.slice p5 q5 s5] 28 → OwnD x W.heap.size (.slice p2 q2 s2) al → OwnN x W.heap.size (.slice p4 q4 s4) el → OwnW x W.heap.size (.slice p5 q5 s5) ol → (∀ B,B ≤ b1 → Below B W x) → (∀ k,k < W.heap.size → k ≠ b1 → x.heap[k]? = W.heap[k]?) → Q .normal ⟨(u0 :: .pointer (some ⟨b1,0,none⟩) :: u2 :: u3 :: u4 :: u5 :: u6 :: u7 :: u8 :: u9 :: u10 :: u11 :: u12 :: u13 :: v14 :: v15 :: v16 :: v17 :: v18 :: v19 :: v20 :: v21 :: v22 :: v23 :: v24 :: v25 :: u26 :: u27 :: u28 :: u29 :: u30 :: u31 :: u32 :: u33 :: u34 :: u35 :: u36 :: u37 :: u38 :: u39 :: u40 :: u41 :: u42 :: u43 :: u44 :: u45 :: u46 :: u47 :: u48 :: u49 :: u50 :: u51 :: u52 :: u53 :: u54 :: u55 :: u56 :: u57 :: u58 :: u59 :: u60 :: u61 :: u62 :: u63 :: u64 :: u65 :: u66 :: u67 :: u68 :: u69 :: u70 :: u71 :: u72 :: u73 :: u74 :: u75 :: u76 :: u77 :: u78 :: u79 :: u80 :: u81 :: []).toArray,[]⟩ x) :
  Code.wp Tryz.prog cp2C Q ⟨(u0 :: .pointer (some ⟨b1,0,none⟩) :: u2 :: u3 :: u4 :: u5 :: u6 :: u7 :: u8 :: u9 :: u10 :: u11 :: u12 :: u13 :: u14 :: u15 :: u16 :: u17 :: u18 :: u19 :: u20 :: u21 :: u22 :: u23 :: u24 :: u25 :: u26 :: u27 :: u28 :: u29 :: u30 :: u31 :: u32 :: u33 :: u34 :: u35 :: u36 :: u37 :: u38 :: u39 :: u40 :: u41 :: u42 :: u43 :: u44 :: u45 :: u46 :: u47 :: u48 :: u49 :: u50 :: u51 :: u52 :: u53 :: u54 :: u55 :: u56 :: u57 :: u58 :: u59 :: u60 :: u61 :: u62 :: u63 :: u64 :: u65 :: u66 :: u67 :: u68 :: u69 :: u70 :: u71 :: u72 :: u73 :: u74 :: u75 :: u76 :: u77 :: u78 :: u79 :: u80 :: u81 :: []).toArray,[]⟩ W := by
 have HQ := Lib.hid hQ
 have H1 := Lib.hid h1
 have R2 := Lib.hid r2
 have R4 := Lib.hid r4
 have R5 := Lib.hid r5
 have L2 := Lib.hid l2
 have L4 := Lib.hid l4
 have L5 := Lib.hid l5
 clear hQ h1 r2 r4 r5 l2 l4 l5
 have stab := cp2V_on W.heap.size b1 me z1 z3 o2 n2 c2 al o4 n4 c4 el o5 n5 c5 ol
 unfold cp2C
 conv => arg 2; whnf
 have nd : ∀ j,(j < 14 ∨ 24 ≤ j) → ∀ i,i < 10 → (fun i => 14 + i) i ≠ j := by
  intro j hj i hi h
  simp only at h
  omega
 refine Rg.region_live 15 10 (fun i => 14 + i) (fun _ => 10) (cp2V W.heap.size b1 me z1 z3 o2 n2 c2 al o4 n4 c4 el o5 n5 c5 ol) (by kernel_rfl) (by kernel_rfl) rfl (by decide) (fun i j _ _ h => by have h2 : 14 + i = 14 + j := h; omega) (fun i hi => by show 14 + i < 82; omega) ?_ (fun _ => Rg.hall_of 14 (by kernel_rfl)) ?_ ?_
 ·intro i o hi ho a x D hnd hc hD hb seen K hK
  clear HQ
  rcases (by omega : i = 0 ∨ i = 1 ∨ i = 2 ∨ i = 3 ∨ i = 4 ∨ i = 5 ∨ i = 6 ∨ i = 7 ∨ i = 8 ∨ i = 9) with rfl | rfl | rfl | rfl | rfl | rfl | rfl | rfl | rfl | rfl
  ·obtain rfl := Option.some.inj ho
   have e1 : a.eval (.tmp 1) = .pointer (some ⟨b1,0,none⟩) := seen.kp 1 _ (nd 1 (by omega)) rfl
   exact Rg.op_value rfl rfl (Rg.ex_field a.eval _ 28 (.tmp 1) 2 rfl (by rw [e1]; simp [go_sem])) (hK _ _ rfl (Below.refl _ _) fun _ _ _ _ _ _ _ h => h)
  ·obtain rfl := Option.some.inj ho
   have e14 : a.eval (.tmp 14) = .pointer (some ⟨b1,2,none⟩) := seen.at_ ⟨0,.data⟩ (by simp) rfl (Or.inr (by decide))
   have y2 := (H1.out.on hb).cell 2
   simp only [List.getElem?_toArray,List.getElem?_cons_zero,List.getElem?_cons_succ] at y2
   exact Rg.op_value rfl rfl (Rg.ex_load a.eval _ 23 (.tmp 14) rfl (by rw [e14]; simp [go_sem,y2])) (hK _ _ rfl (Below.refl _ _) fun _ _ _ _ _ _ _ h => h)
  ·obtain rfl := Option.some.inj ho
   have e15 : a.eval (.tmp 15) = .slice o2 n2 c2 := seen.at_ ⟨1,.data⟩ (by simp) rfl (Or.inr (by decide))
   exact Rg.op_call rfl rfl (Rw.ex_call1 a.eval _ (.tmp 15) 23 141 rfl e15 rfl _ (call_fn Tryz.func141 rfl rfl _ _)) (cloneD_any (o2,n2,c2) al x (R2.out.on hb) L2.out) fun e w1 h => by
    obtain ⟨⟨s,rfl,h1⟩,h3⟩ := h
    exact ⟨_,rfl,hK _ _ ⟨s,rfl,own_fewer h1 hb.size⟩ (h3.mono hb.size) fun j u hj _ _ _ hne h => stab j u _ _ h h3⟩
  ·obtain rfl := Option.some.inj ho
   have e1 : a.eval (.tmp 1) = .pointer (some ⟨b1,0,none⟩) := seen.kp 1 _ (nd 1 (by omega)) rfl
   exact Rg.op_value rfl rfl (Rg.ex_field a.eval _ 28 (.tmp 1) 4 rfl (by rw [e1]; simp [go_sem])) (hK _ _ rfl (Below.refl _ _) fun _ _ _ _ _ _ _ h => h)
  ·obtain rfl := Option.some.inj ho
   have e17 : a.eval (.tmp 17) = .pointer (some ⟨b1,4,none⟩) := seen.at_ ⟨3,.data⟩ (by simp) rfl (Or.inr (by decide))
   have y4 := (H1.out.on hb).cell 4
   simp only [List.getElem?_toArray,List.getElem?_cons_zero,List.getElem?_cons_succ] at y4
   exact Rg.op_value rfl rfl (Rg.ex_load a.eval _ 25 (.tmp 17) rfl (by rw [e17]; simp [go_sem,y4])) (hK _ _ rfl (Below.refl _ _) fun _ _ _ _ _ _ _ h => h)
  ·obtain rfl := Option.some.inj ho
   have e18 : a.eval (.tmp 18) = .slice o4 n4 c4 := seen.at_ ⟨4,.data⟩ (by simp) rfl (Or.inr (by decide))
   exact Rg.op_call rfl rfl (Rw.ex_call1 a.eval _ (.tmp 18) 25 142 rfl e18 rfl _ (call_fn Tryz.func142 rfl rfl _ _)) (cloneN_any (o4,n4,c4) el x (R4.out.on hb) L4.out) fun e w1 h => by
    obtain ⟨⟨s,rfl,h1⟩,h3⟩ := h
    exact ⟨_,rfl,hK _ _ ⟨s,rfl,own_fewer h1 hb.size⟩ (h3.mono hb.size) fun j u hj _ _ _ hne h => stab j u _ _ h h3⟩
  ·obtain rfl := Option.some.inj ho
   have e1 : a.eval (.tmp 1) = .pointer (some ⟨b1,0,none⟩) := seen.kp 1 _ (nd 1 (by omega)) rfl
   exact Rg.op_value rfl rfl (Rg.ex_field a.eval _ 28 (.tmp 1) 5 rfl (by rw [e1]; simp [go_sem])) (hK _ _ rfl (Below.refl _ _) fun _ _ _ _ _ _ _ h => h)
  ·obtain rfl := Option.some.inj ho
   have e20 : a.eval (.tmp 20) = .pointer (some ⟨b1,5,none⟩) := seen.at_ ⟨6,.data⟩ (by simp) rfl (Or.inr (by decide))
   have y5 := (H1.out.on hb).cell 5
   simp only [List.getElem?_toArray,List.getElem?_cons_zero,List.getElem?_cons_succ] at y5
   exact Rg.op_value rfl rfl (Rg.ex_load a.eval _ 26 (.tmp 20) rfl (by rw [e20]; simp [go_sem,y5])) (hK _ _ rfl (Below.refl _ _) fun _ _ _ _ _ _ _ h => h)
  ·obtain rfl := Option.some.inj ho
   have e21 : a.eval (.tmp 21) = .slice o5 n5 c5 := seen.at_ ⟨7,.data⟩ (by simp) rfl (Or.inr (by decide))
   exact Rg.op_call rfl rfl (Rw.ex_call1 a.eval _ (.tmp 21) 26 143 rfl e21 rfl _ (call_fn Tryz.func143 rfl rfl _ _)) (cloneW_any (o5,n5,c5) ol x (R5.out.on hb) L5.out) fun e w1 h => by
    obtain ⟨⟨s,rfl,h1⟩,h3⟩ := h
    exact ⟨_,rfl,hK _ _ ⟨s,rfl,own_fewer h1 hb.size⟩ (h3.mono hb.size) fun j u hj _ _ _ hne h => stab j u _ _ h h3⟩
  ·obtain rfl := Option.some.inj ho
   have e1 : a.eval (.tmp 1) = .pointer (some ⟨b1,0,none⟩) := seen.kp 1 _ (nd 1 (by omega)) rfl
   exact Rg.op_value rfl rfl (Rg.ex_field a.eval _ 28 (.tmp 1) 2 rfl (by rw [e1]; simp [go_sem])) (hK _ _ rfl (Below.refl _ _) fun _ _ _ _ _ _ _ h => h)
 ·intro kk o h1 h2 ho
  rcases (by omega : kk = 11 ∨ kk = 12 ∨ kk = 13 ∨ kk = 14) with rfl | rfl | rfl | rfl
  ·obtain rfl := Option.some.inj ho
   exact ⟨⟨10,.phase⟩,by simp,rfl,rfl⟩
  ·obtain rfl := Option.some.inj ho
   exact ⟨⟨11,.data⟩,by simp,rfl,rfl⟩
  ·obtain rfl := Option.some.inj ho
   exact ⟨⟨12,.phase⟩,by simp,rfl,rfl⟩
  ·obtain rfl := Option.some.inj ho
   exact ⟨⟨13,.data⟩,by simp,rfl,rfl⟩
 ·intro a w' df sz kp ⟨vs,hv⟩ hb
  have sz' : a.tmps.size = 82 := sz
  have g1 : a.tmps[1]? = some (.pointer (some ⟨b1,0,none⟩)) := (kp 1 (nd 1 (by omega))).trans rfl
  have g23 : a.tmps[23]? = some (.pointer (some ⟨b1,2,none⟩)) := by
   have h : vs 9 = .pointer (some ⟨b1,2,none⟩) := (hv 9 (by omega)).2 (by decide)
   rw [← h]
   exact (hv 9 (by omega)).1
  obtain ⟨⟨p2,q2,s2⟩,hs2,ho2⟩ := (hv 2 (by omega)).2 (by decide)
  have g16 : a.tmps[16]? = some (.slice p2 q2 s2) := ((hv 2 (by omega)).1).trans (congrArg some hs2)
  rw [hs2] at ho2
  obtain ⟨⟨p4,q4,s4⟩,hs4,ho4⟩ := (hv 5 (by omega)).2 (by decide)
  have g19 : a.tmps[19]? = some (.slice p4 q4 s4) := ((hv 5 (by omega)).1).trans (congrArg some hs4)
  rw [hs4] at ho4
  obtain ⟨⟨p5,q5,s5⟩,hs5,ho5⟩ := (hv 8 (by omega)).2 (by decide)
  have g22 : a.tmps[22]? = some (.slice p5 q5 s5) := ((hv 8 (by omega)).1).trans (congrArg some hs5)
  rw [hs5] at ho5
  have hB := H1.out.on hb
  have hlt := H1.out.lt
  show Rg.SeqFrom _ _ _ 5 10 a w'
  simp only [Rg.SeqFrom]
  have c2x := hB.cell 2
  have f2x := hB.fr 2
  simp only [List.getElem?_toArray,List.getElem?_cons_zero,List.getElem?_cons_succ] at c2x
  refine Rg.op_store 23 (.tmp 23) (.tmp 16) rfl rfl rfl rfl (Rg.eval_some g23) (Rg.eval_some g16) (w' := (w').setCell ⟨b1,2,none⟩ (.slice p2 q2 s2)) (by simp [go_sem,c2x,f2x]) ?_
  have hB2 : Box ((w').setCell ⟨b1,2,none⟩ (.slice p2 q2 s2)) b1 #[.int .i64 me,z1,.slice p2 q2 s2,z3,.slice o4 n4 c4,.slice o5 n5 c5] 28 := by simpa using box_set (k := 2) hB (.slice p2 q2 s2)
  refine Rg.op_value rfl rfl (Rg.ex_field _ _ 28 (.tmp 1) 4 rfl (v := .pointer (some ⟨b1,4,none⟩)) (by rw [Rg.eval_some g1]; simp [go_sem])) ?_
  have hp24 : ((a).put (some 24) (.pointer (some ⟨b1,4,none⟩))).tmps[24]? = some (.pointer (some ⟨b1,4,none⟩)) := by simp [Act.put,sz']
  show Go.wpOp _ _ _ 12 _ ((a).put (some 24) (.pointer (some ⟨b1,4,none⟩))) _
  have c4x := hB2.cell 4
  have f4x := hB2.fr 4
  simp only [List.getElem?_toArray,List.getElem?_cons_zero,List.getElem?_cons_succ] at c4x
  refine Rg.op_store 25 (.tmp 24) (.tmp 19) rfl rfl rfl rfl (Rg.eval_some hp24) (Rg.eval_some ((Rg.get_put _ 24 _ 19 (by decide)).trans g19)) (w' := ((w').setCell ⟨b1,2,none⟩ (.slice p2 q2 s2)).setCell ⟨b1,4,none⟩ (.slice p4 q4 s4)) (by simp [go_sem,c4x,f4x]) ?_
  have hB4 : Box (((w').setCell ⟨b1,2,none⟩ (.slice p2 q2 s2)).setCell ⟨b1,4,none⟩ (.slice p4 q4 s4)) b1 #[.int .i64 me,z1,.slice p2 q2 s2,z3,.slice p4 q4 s4,.slice o5 n5 c5] 28 := by simpa using box_set (k := 4) hB2 (.slice p4 q4 s4)
  refine Rg.op_value rfl rfl (Rg.ex_field _ _ 28 (.tmp 1) 5 rfl (v := .pointer (some ⟨b1,5,none⟩)) (by rw [Rg.eval_some ((Rg.get_put _ 24 _ 1 (by decide)).trans g1)]; simp [go_sem])) ?_
  have hp25 : (((a).put (some 24) (.pointer (some ⟨b1,4,none⟩))).put (some 25) (.pointer (some ⟨b1,5,none⟩))).tmps[25]? = some (.pointer (some ⟨b1,5,none⟩)) := by simp [Act.put,sz']
  show Go.wpOp _ _ _ 14 _ (((a).put (some 24) (.pointer (some ⟨b1,4,none⟩))).put (some 25) (.pointer (some ⟨b1,5,none⟩))) _
  have c5x := hB4.cell 5
  have f5x := hB4.fr 5
  simp only [List.getElem?_toArray,List.getElem?_cons_zero,List.getElem?_cons_succ] at c5x
  refine Rg.op_store 26 (.tmp 25) (.tmp 22) rfl rfl rfl rfl (Rg.eval_some hp25) (Rg.eval_some ((Rg.get_put _ 25 _ 22 (by decide)).trans ((Rg.get_put _ 24 _ 22 (by decide)).trans g22))) (w' := (((w').setCell ⟨b1,2,none⟩ (.slice p2 q2 s2)).setCell ⟨b1,4,none⟩ (.slice p4 q4 s4)).setCell ⟨b1,5,none⟩ (.slice p5 q5 s5)) (by simp [go_sem,c5x,f5x]) ?_
  have hB5 : Box ((((w').setCell ⟨b1,2,none⟩ (.slice p2 q2 s2)).setCell ⟨b1,4,none⟩ (.slice p4 q4 s4)).setCell ⟨b1,5,none⟩ (.slice p5 q5 s5)) b1 #[.int .i64 me,z1,.slice p2 q2 s2,z3,.slice p4 q4 s4,.slice p5 q5 s5] 28 := by simpa using box_set (k := 5) hB4 (.slice p5 q5 s5)
  have kp2 : ∀ j,(j < 14 ∨ 26 ≤ j) → (((a).put (some 24) (.pointer (some ⟨b1,4,none⟩))).put (some 25) (.pointer (some ⟨b1,5,none⟩))).tmps[j]? = (u0 :: .pointer (some ⟨b1,0,none⟩) :: u2 :: u3 :: u4 :: u5 :: u6 :: u7 :: u8 :: u9 :: u10 :: u11 :: u12 :: u13 :: u14 :: u15 :: u16 :: u17 :: u18 :: u19 :: u20 :: u21 :: u22 :: u23 :: u24 :: u25 :: u26 :: u27 :: u28 :: u29 :: u30 :: u31 :: u32 :: u33 :: u34 :: u35 :: u36 :: u37 :: u38 :: u39 :: u40 :: u41 :: u42 :: u43 :: u44 :: u45 :: u46 :: u47 :: u48 :: u49 :: u50 :: u51 :: u52 :: u53 :: u54 :: u55 :: u56 :: u57 :: u58 :: u59 :: u60 :: u61 :: u62 :: u63 :: u64 :: u65 :: u66 :: u67 :: u68 :: u69 :: u70 :: u71 :: u72 :: u73 :: u74 :: u75 :: u76 :: u77 :: u78 :: u79 :: u80 :: u81 :: [])[j]? := fun j hj => (Rg.get_put _ 25 _ j (by omega)).trans ((Rg.get_put _ 24 _ j (by omega)).trans ((kp j (nd j (by omega))).trans List.getElem?_toArray))
  obtain ⟨mid,hmid,hfr⟩ := Rg.frame_mid (a := ((a).put (some 24) (.pointer (some ⟨b1,4,none⟩))).put (some 25) (.pointer (some ⟨b1,5,none⟩))) 14 12 df (by simp [Rg.size_put,sz']) (by simp) kp2
  show Q .normal (((a).put (some 24) (.pointer (some ⟨b1,4,none⟩))).put (some 25) (.pointer (some ⟨b1,5,none⟩))) _
  rw [hfr]
  match mid,hmid with
  | [v14,v15,v16,v17,v18,v19,v20,v21,v22,v23,v24,v25],_ =>
   exact HQ.out _ _ _ _ _ _ _ _ _ _ _ _ _ p2 q2 s2 p4 q4 s4 p5 q5 s5 hB5 (own_cell (own_cell (own_cell ho2 b1 2 (.slice p2 q2 s2) hlt) b1 4 (.slice p4 q4 s4) hlt) b1 5 (.slice p5 q5 s5) hlt) (own_cell (own_cell (own_cell ho4 b1 2 (.slice p2 q2 s2) hlt) b1 4 (.slice p4 q4 s4) hlt) b1 5 (.slice p5 q5 s5) hlt) (own_cell (own_cell (own_cell ho5 b1 2 (.slice p2 q2 s2) hlt) b1 4 (.slice p4 q4 s4) hlt) b1 5 (.slice p5 q5 s5) hlt) (fun B hBl => ((((hb.mono (Nat.le_of_lt (Nat.lt_of_le_of_lt hBl hlt))).setCell (p := ⟨b1,2,none⟩) hBl (.slice p2 q2 s2)).setCell (p := ⟨b1,4,none⟩) hBl (.slice p4 q4 s4)).setCell (p := ⟨b1,5,none⟩) hBl (.slice p5 q5 s5))) (fun k hk hne => ((RowKit.Below.heap_setCell (((w').setCell ⟨b1,2,none⟩ (.slice p2 q2 s2)).setCell ⟨b1,4,none⟩ (.slice p4 q4 s4)) ⟨b1,5,none⟩ (.slice p5 q5 s5) k hne).trans ((RowKit.Below.heap_setCell ((w').setCell ⟨b1,2,none⟩ (.slice p2 q2 s2)) ⟨b1,4,none⟩ (.slice p4 q4 s4) k hne).trans ((RowKit.Below.heap_setCell (w') ⟨b1,2,none⟩ (.slice p2 q2 s2) k hne).trans (hb.block k hk)))))
def cp11V (B : Nat) (b1 : Nat) (_me : Int) (_z1 _z2 _z3 _z5 : Value) (g n cap k : Nat) (_y1 _y2 _y3 _y4 : Int) (yo : Option Addr) (yn yc : Nat) (_y6 : Int) (_y7 : Bool) (p : List C5) (i : Nat) (v : Value) (x : World) : Prop :=
 match i with
 | 0 => v = .pointer (some ⟨b1,4,none⟩)
 | 1 => v = .slice (some ⟨g,0,none⟩) n cap
 | 2 => v = .int .i64 (k : Int)
 | 3 => v = .pointer (some ⟨b1,4,none⟩)
 | 4 => v = .slice (some ⟨g,0,none⟩) n cap
 | 5 => v = .int .i64 (k : Int)
 | 6 => v = .pointer (some ⟨g,k * 7,none⟩)
 | 7 => v = .pointer (some ⟨g,k * 7 + 4,none⟩)
 | 8 => v = .slice yo yn yc
 | 9 => ∃ s : Sl,v = slv s ∧ OwnC x B v p
 | 10 => v = .pointer (some ⟨g,k * 7,none⟩)
 | 11 => v = .pointer (some ⟨g,k * 7 + 4,none⟩)
 | _ => True
noncomputable def cp11C : Code := ((Tryz.f91.body.bind (findRegion 11)).getD .skip)
theorem cp11V_on (B : Nat) (b1 : Nat) (me : Int) (z1 z2 z3 z5 : Value) (g n cap k : Nat) (y1 y2 y3 y4 : Int) (yo : Option Addr) (yn yc : Nat) (y6 : Int) (y7 : Bool) (p : List C5) (i : Nat) (v : Value) (x x' : World) (h : cp11V B b1 me z1 z2 z3 z5 g n cap k y1 y2 y3 y4 yo yn yc y6 y7 p i v x) (hb : Below x.heap.size x x') : cp11V B b1 me z1 z2 z3 z5 g n cap k y1 y2 y3 y4 yo yn yc y6 y7 p i v x' := by
 by_cases hi : i < 12
 ·rcases (by omega : i = 0 ∨ i = 1 ∨ i = 2 ∨ i = 3 ∨ i = 4 ∨ i = 5 ∨ i = 6 ∨ i = 7 ∨ i = 8 ∨ i = 9 ∨ i = 10 ∨ i = 11) with rfl | rfl | rfl | rfl | rfl | rfl | rfl | rfl | rfl | rfl | rfl | rfl
  ·exact h
  ·exact h
  ·exact h
  ·exact h
  ·exact h
  ·exact h
  ·exact h
  ·exact h
  ·exact h
  ·obtain ⟨s,h1,h2⟩ := h; exact ⟨s,h1,Bk.own_on h2 hb⟩
  ·exact h
  ·exact h
 ·unfold cp11V
  split <;> first | omega | trivial
theorem cp11 (Q : Exit → Act → World → Prop) (W : World) (B0 : Nat) (l : List XEn) (b1 : Nat) (me : Int) (z1 z2 z3 z5 : Value) (g n cap k : Nat) (y1 y2 y3 y4 : Int) (yo : Option Addr) (yn yc : Nat) (y6 : Int) (y7 : Bool) (p : List C5) (u0 u2 u3 u5 u6 u7 u8 u9 u10 u11 u12 u13 u14 u15 u16 u17 u18 u19 u20 u21 u22 u23 u24 u25 u26 u27 u28 u29 u30 u31 u32 u33 u34 u35 u36 u37 u38 u39 u40 u41 u42 u43 u44 u45 u46 u47 u48 u49 u50 u51 u52 u53 u54 u55 u56 u57 u58 u59 u60 u61 u62 u63 u64 u65 u66 u67 u68 u69 u70 u71 u72 u73 u74 u75 u76 u77 u78 u79 u80 u81 : Value)
  (h1 : Box W b1 #[.int .i64 me,z1,z2,z3,.slice (some ⟨g,0,none⟩) n cap,z5] 28) (ho : OwnN W B0 (.slice (some ⟨g,0,none⟩) n cap) l) (hy : l[k]? = some (y1,y2,y3,y4,(yo,yn,yc),y6,y7)) (hp : RowC W (.slice yo yn yc) p) (lp : p.length ≤ 900)
  (hQ : ∀ (x : World) (v49 v50 v51 v52 v53 v54 v55 v56 v57 v58 v59 v60 : Value) (s1 : Option Addr) (s2 s3 : Nat),OwnC x W.heap.size (.slice s1 s2 s3) p → OwnN x B0 (.slice (some ⟨g,0,none⟩) n cap) (l.set k (y1,y2,y3,y4,(s1,s2,s3),y6,y7)) → But g W x → (∀ B1,B1 ≤ g → B1 ≤ W.heap.size → Below B1 W x) → Q .normal ⟨(u0 :: .pointer (some ⟨b1,0,none⟩) :: u2 :: u3 :: .int .i64 (k : Int) :: u5 :: u6 :: u7 :: u8 :: u9 :: u10 :: u11 :: u12 :: u13 :: u14 :: u15 :: u16 :: u17 :: u18 :: u19 :: u20 :: u21 :: u22 :: u23 :: u24 :: u25 :: u26 :: u27 :: u28 :: u29 :: u30 :: u31 :: u32 :: u33 :: u34 :: u35 :: u36 :: u37 :: u38 :: u39 :: u40 :: u41 :: u42 :: u43 :: u44 :: u45 :: u46 :: u47 :: u48 :: v49 :: v50 :: v51 :: v52 :: v53 :: v54 :: v55 :: v56 :: v57 :: v58 :: v59 :: v60 :: u61 :: u62 :: u63 :: u64 :: u65 :: u66 :: u67 :: u68 :: u69 :: u70 :: u71 :: u72 :: u73 :: u74 :: u75 :: u76 :: u77 :: u78 :: u79 :: u80 :: u81 :: []).toArray,[]⟩ x) :
  Code.wp Tryz.prog cp11C Q ⟨(u0 :: .pointer (some ⟨b1,0,none⟩) :: u2 :: u3 :: .int .i64 (k : Int) :: u5 :: u6 :: u7 :: u8 :: u9 :: u10 :: u11 :: u12 :: u13 :: u14 :: u15 :: u16 :: u17 :: u18 :: u19 :: u20 :: u21 :: u22 :: u23 :: u24 :: u25 :: u26 :: u27 :: u28 :: u29 :: u30 :: u31 :: u32 :: u33 :: u34 :: u35 :: u36 :: u37 :: u38 :: u39 :: u40 :: u41 :: u42 :: u43 :: u44 :: u45 :: u46 :: u47 :: u48 :: u49 :: u50 :: u51 :: u52 :: u53 :: u54 :: u55 :: u56 :: u57 :: u58 :: u59 :: u60 :: u61 :: u62 :: u63 :: u64 :: u65 :: u66 :: u67 :: u68 :: u69 :: u70 :: u71 :: u72 :: u73 :: u74 :: u75 :: u76 :: u77 :: u78 :: u79 :: u80 :: u81 :: []).toArray,[]⟩ W := by
 have HQ := Lib.hid hQ
 have H1 := Lib.hid h1
 have HO := Lib.hid ho
 have HY := Lib.hid hy
 have HP := Lib.hid hp
 have LP := Lib.hid lp
 have IX := Lib.hid (index_own okN g k n cap (by obtain ⟨_,_,hv⟩ := (Row.of_own ho).len; have h := (List.getElem?_eq_some_iff.1 hy).1; simp at hv; omega))
 have EL := Lib.hid (own_row_at okN ho hy)
 clear hQ h1 ho hy hp lp
 have stab := cp11V_on W.heap.size b1 me z1 z2 z3 z5 g n cap k y1 y2 y3 y4 yo yn yc y6 y7 p
 unfold cp11C
 conv => arg 2; whnf
 have nd : ∀ j,(j < 49 ∨ 61 ≤ j) → ∀ i,i < 12 → (fun i => 49 + i) i ≠ j := by
  intro j hj i hi h
  simp only at h
  omega
 refine Rg.region_live 13 12 (fun i => 49 + i) (fun _ => 12) (cp11V W.heap.size b1 me z1 z2 z3 z5 g n cap k y1 y2 y3 y4 yo yn yc y6 y7 p) (by kernel_rfl) (by kernel_rfl) rfl (by decide) (fun i j _ _ h => by have h2 : 49 + i = 49 + j := h; omega) (fun i hi => by show 49 + i < 82; omega) ?_ (fun _ => Rg.hall_of 14 (by kernel_rfl)) ?_ ?_
 ·intro i o hi ho a x D hnd hc hD hb seen K hK
  clear HQ
  rcases (by omega : i = 0 ∨ i = 1 ∨ i = 2 ∨ i = 3 ∨ i = 4 ∨ i = 5 ∨ i = 6 ∨ i = 7 ∨ i = 8 ∨ i = 9 ∨ i = 10 ∨ i = 11) with rfl | rfl | rfl | rfl | rfl | rfl | rfl | rfl | rfl | rfl | rfl | rfl
  ·obtain rfl := Option.some.inj ho
   have e1 : a.eval (.tmp 1) = .pointer (some ⟨b1,0,none⟩) := seen.kp 1 _ (nd 1 (by omega)) rfl
   exact Rg.op_value rfl rfl (Rg.ex_field a.eval _ 28 (.tmp 1) 4 rfl (by rw [e1]; simp [go_sem])) (hK _ _ rfl (Below.refl _ _) fun _ _ _ _ _ _ _ h => h)
  ·obtain rfl := Option.some.inj ho
   have e49 : a.eval (.tmp 49) = .pointer (some ⟨b1,4,none⟩) := seen.at_ ⟨0,.data⟩ (by simp) rfl (Or.inr (by decide))
   have y4 := (H1.out.on hb).cell 4
   simp only [List.getElem?_toArray,List.getElem?_cons_zero,List.getElem?_cons_succ] at y4
   exact Rg.op_value rfl rfl (Rg.ex_load a.eval _ 25 (.tmp 49) rfl (by rw [e49]; simp [go_sem,y4])) (hK _ _ rfl (Below.refl _ _) fun _ _ _ _ _ _ _ h => h)
  ·obtain rfl := Option.some.inj ho
   have e4 : a.eval (.tmp 4) = .int .i64 (k : Int) := seen.kp 4 _ (nd 4 (by omega)) rfl
   exact Rg.op_value rfl rfl (Rg.ex_move a.eval _ (.tmp 4) rfl x) (hK _ _ e4 (Below.refl _ _) fun _ _ _ _ _ _ _ h => h)
  ·obtain rfl := Option.some.inj ho
   have e1 : a.eval (.tmp 1) = .pointer (some ⟨b1,0,none⟩) := seen.kp 1 _ (nd 1 (by omega)) rfl
   exact Rg.op_value rfl rfl (Rg.ex_field a.eval _ 28 (.tmp 1) 4 rfl (by rw [e1]; simp [go_sem])) (hK _ _ rfl (Below.refl _ _) fun _ _ _ _ _ _ _ h => h)
  ·obtain rfl := Option.some.inj ho
   have e52 : a.eval (.tmp 52) = .pointer (some ⟨b1,4,none⟩) := seen.at_ ⟨3,.data⟩ (by simp) rfl (Or.inr (by decide))
   have y4 := (H1.out.on hb).cell 4
   simp only [List.getElem?_toArray,List.getElem?_cons_zero,List.getElem?_cons_succ] at y4
   exact Rg.op_value rfl rfl (Rg.ex_load a.eval _ 25 (.tmp 52) rfl (by rw [e52]; simp [go_sem,y4])) (hK _ _ rfl (Below.refl _ _) fun _ _ _ _ _ _ _ h => h)
  ·obtain rfl := Option.some.inj ho
   have e4 : a.eval (.tmp 4) = .int .i64 (k : Int) := seen.kp 4 _ (nd 4 (by omega)) rfl
   exact Rg.op_value rfl rfl (Rg.ex_move a.eval _ (.tmp 4) rfl x) (hK _ _ e4 (Below.refl _ _) fun _ _ _ _ _ _ _ h => h)
  ·obtain rfl := Option.some.inj ho
   have e53 : a.eval (.tmp 53) = .slice (some ⟨g,0,none⟩) n cap := seen.at_ ⟨4,.data⟩ (by simp) rfl (Or.inr (by decide))
   have e54 : a.eval (.tmp 54) = .int .i64 (k : Int) := seen.at_ ⟨5,.data⟩ (by simp) rfl (Or.inr (by decide))
   exact Rg.op_value rfl rfl (Rg.ex_index a.eval _ 25 (.tmp 53) (.tmp 54) rfl (by rw [e53,e54]; exact IX.out x)) (hK _ _ rfl (Below.refl _ _) fun _ _ _ _ _ _ _ h => h)
  ·obtain rfl := Option.some.inj ho
   have e55 : a.eval (.tmp 55) = .pointer (some ⟨g,k * 7,none⟩) := seen.at_ ⟨6,.data⟩ (by simp) rfl (Or.inr (by decide))
   exact Rg.op_value rfl rfl (Rg.ex_field a.eval _ 66 (.tmp 55) 2 rfl (by rw [e55]; simp [go_sem])) (hK _ _ rfl (Below.refl _ _) fun _ _ _ _ _ _ _ h => h)
  ·obtain rfl := Option.some.inj ho
   have e56 : a.eval (.tmp 56) = .pointer (some ⟨g,k * 7 + 4,none⟩) := seen.at_ ⟨7,.data⟩ (by simp) rfl (Or.inr (by decide))
   have y := EL.out x hb 4 _ rfl
   simp [Addr.add,EN] at y
   exact Rg.op_value rfl rfl (Rg.ex_load a.eval _ 32 (.tmp 56) rfl (by rw [e56]; simp [go_sem,y])) (hK _ _ rfl (Below.refl _ _) fun _ _ _ _ _ _ _ h => h)
  ·obtain rfl := Option.some.inj ho
   have e57 : a.eval (.tmp 57) = .slice yo yn yc := seen.at_ ⟨8,.data⟩ (by simp) rfl (Or.inr (by decide))
   exact Rg.op_call rfl rfl (Rw.ex_call1 a.eval _ (.tmp 57) 32 123 rfl e57 rfl _ (call_fn Tryz.func123 rfl rfl _ _)) (cloneC_any (yo,yn,yc) p x (HP.out.on hb) LP.out) fun e w1 h => by
    obtain ⟨⟨s,rfl,h1⟩,h3⟩ := h
    exact ⟨_,rfl,hK _ _ ⟨s,rfl,own_fewer h1 hb.size⟩ (h3.mono hb.size) fun j u hj _ _ _ hne h => stab j u _ _ h h3⟩
  ·obtain rfl := Option.some.inj ho
   have e50 : a.eval (.tmp 50) = .slice (some ⟨g,0,none⟩) n cap := seen.at_ ⟨1,.data⟩ (by simp) rfl (Or.inr (by decide))
   have e51 : a.eval (.tmp 51) = .int .i64 (k : Int) := seen.at_ ⟨2,.data⟩ (by simp) rfl (Or.inr (by decide))
   exact Rg.op_value rfl rfl (Rg.ex_index a.eval _ 25 (.tmp 50) (.tmp 51) rfl (by rw [e50,e51]; exact IX.out x)) (hK _ _ rfl (Below.refl _ _) fun _ _ _ _ _ _ _ h => h)
  ·obtain rfl := Option.some.inj ho
   have e59 : a.eval (.tmp 59) = .pointer (some ⟨g,k * 7,none⟩) := seen.at_ ⟨10,.data⟩ (by simp) rfl (Or.inr (by decide))
   exact Rg.op_value rfl rfl (Rg.ex_field a.eval _ 66 (.tmp 59) 2 rfl (by rw [e59]; simp [go_sem])) (hK _ _ rfl (Below.refl _ _) fun _ _ _ _ _ _ _ h => h)
 ·intro kk o h1 h2 ho
  omega
 ·intro a w' df sz kp ⟨vs,hv⟩ hb
  have sz' : a.tmps.size = 82 := sz
  have g60 : a.tmps[60]? = some (.pointer (some ⟨g,k * 7 + 4,none⟩)) := by
   have h : vs 11 = .pointer (some ⟨g,k * 7 + 4,none⟩) := (hv 11 (by omega)).2 (by decide)
   rw [← h]
   exact (hv 11 (by omega)).1
  obtain ⟨⟨s1,s2,s3⟩,hs,hc⟩ := (hv 9 (by omega)).2 (by decide)
  have g58 : a.tmps[58]? = some (.slice s1 s2 s3) := ((hv 9 (by omega)).1).trans (congrArg some hs)
  rw [hs] at hc
  obtain ⟨w2,hr,st1,st2,st3⟩ := storeN (k := k) s1 s2 s3 (Bk.own_on HO.out hb) HY.out
  obtain ⟨cur,hg⟩ := own_tag (Bk.own_on HO.out hb)
  show Rg.SeqFrom _ _ _ 1 12 a w'
  simp only [Rg.SeqFrom]
  refine Rg.op_store 32 (.tmp 60) (.tmp 58) rfl rfl rfl rfl (Rg.eval_some g60) (Rg.eval_some g58) (w' := w2) hr ?_
  have kp2 : ∀ j,(j < 49 ∨ 61 ≤ j) → (a).tmps[j]? = (u0 :: .pointer (some ⟨b1,0,none⟩) :: u2 :: u3 :: .int .i64 (k : Int) :: u5 :: u6 :: u7 :: u8 :: u9 :: u10 :: u11 :: u12 :: u13 :: u14 :: u15 :: u16 :: u17 :: u18 :: u19 :: u20 :: u21 :: u22 :: u23 :: u24 :: u25 :: u26 :: u27 :: u28 :: u29 :: u30 :: u31 :: u32 :: u33 :: u34 :: u35 :: u36 :: u37 :: u38 :: u39 :: u40 :: u41 :: u42 :: u43 :: u44 :: u45 :: u46 :: u47 :: u48 :: u49 :: u50 :: u51 :: u52 :: u53 :: u54 :: u55 :: u56 :: u57 :: u58 :: u59 :: u60 :: u61 :: u62 :: u63 :: u64 :: u65 :: u66 :: u67 :: u68 :: u69 :: u70 :: u71 :: u72 :: u73 :: u74 :: u75 :: u76 :: u77 :: u78 :: u79 :: u80 :: u81 :: [])[j]? := fun j hj => (kp j (nd j (by omega))).trans List.getElem?_toArray
  obtain ⟨mid,hmid,hfr⟩ := Rg.frame_mid (a := a) 49 12 df (by simp [sz']) (by simp) kp2
  show Q .normal (a) _
  rw [hfr]
  match mid,hmid with
  | [v49,v50,v51,v52,v53,v54,v55,v56,v57,v58,v59,v60],_ =>
   exact HQ.out _ _ _ _ _ _ _ _ _ _ _ _ _ s1 s2 s3 (st2.own hc hg (by decide)) st1 ((But.of_below hb).trans st2) fun B1 hB hl => st3 B1 W hB (hb.mono hl)
end Go.Proofs.YtmklifheakemeaaGreat.Av
namespace Go.Proofs.YtmklifheakemeaaGreat.Bk
open Go.RowKit Go.Sort Rw YtmklifheakemeaaGreat.Nm
end Go.Proofs.YtmklifheakemeaaGreat.Bk
namespace Go.Proofs.YtmklifheakemeaaGreat.Av
open Go.RowKit Rw YtmklifheakemeaaGreat.Nm Pr Bk
theorem row_boxN {W : World} {b : Nat} {c : XEn} (h : Box W b (cellsN c).toArray 66) : RowN W (.slice (some ⟨b,0,none⟩) 1 1) [c] :=
 Or.inr ⟨⟨b,0,none⟩,1,rfl,by simp,by decide,box_one h (by simp [EN])⟩
def InsQN (B : Nat) (l : List XEn) (k : Nat) (c : XEn) (vv : Value) (W : World) (e : Ending) (w' : World) : Prop := ∃ v',e = .returned v' ∧ OwnN w' B v' (l.take k ++ c :: l.drop k) ∧ Below B W w' ∧ (∀ j,j < W.heap.size → some j ≠ vv.ownBlock → w'.heap[j]? = W.heap[j]?)
theorem insert_endN (B : Nat) (v : Value) (l : List XEn) (c : XEn) (b : Nat) (W : World) (ho : OwnN W B v l) (hx : Box W b (cellsN c).toArray 66) (hl : l.length ≤ 900) (hB : B ≤ W.heap.size) :
  Calls Tryz.prog 147 #[v,.int .i64 (l.length : Nat),.slice (some ⟨b,0,none⟩) 1 1] W (InsQN B l l.length c v W) := by
 obtain ⟨v',w',hr,ho2,hg⟩ := app_row okN B ho (row_boxN hx) (by omega) (by simp) hB 25
 have hr : (Builtin.append_ #[25,25] 25 #[v,.slice (some ⟨b,0,none⟩) 1 1]).run Tryz.prog W = .ok v' w' := hr
 have Q := Lib.hid (show InsQN B l l.length c v W (.returned v') w' from ⟨v',rfl,by rw [List.take_of_length_le (Nat.le_refl _),List.drop_of_length_le (Nat.le_refl _)]; exact ho2,(Below.refl B W).grown hg hB (fun j hj => (ho.lt j hj).1),fun j hj hne => hg.block j hj hne⟩)
 obtain ⟨sx,hs,_⟩ := row_hi okN (Row.of_own ho) l.length (Nat.le_refl _)
 have hs : ∀ w,(Instr.sliceAt 25 v (some (.int .i64 l.length)) none none).run Tryz.prog w = .ok sx w := hs
 obtain ⟨ao,ac,rfl⟩ := (Row.of_own ho).len
 clear ho ho2 hg
 generalize hn : l.length = n at *
 clear hn
 go_enter Tryz.func147,Tryz.ntmps147
 go_wp2_with (first | (at_builtin; refine wpList_append_run rfl _ _ 25 rfl rfl rfl hr ?_) | fail)
 go_ret
 exact Q.out
theorem no_overN (w : World) (g b k la lb cb : Nat) (cur cs : Array Value) (hb : Box w b cs 66) (hg : Box w g cur 66) (hne : b ≠ g) (h0 : 0 < cur.size) : (callFunc 170 #[.slice (some ⟨b,0,none⟩) la 1,.slice (some ⟨g,k,none⟩) lb cb]).run Tryz.prog w = .ok (.value (.bool false)) w := by
 rw [run_callFunc_extern Tryz.func170 (by kernel_rfl) (by kernel_rfl) (by kernel_rfl) (e := Extern.SlicesOverlaps.overlaps #[25,25] #[4]) (by kernel_rfl),
  Lib.run_overlaps_apart w 25 4 66 Tryz.underlying25 7 Tryz.sizeOf66 ⟨b,0,none⟩ ⟨g,k,none⟩ la 1 lb cb hne 66 66 cs.size cur.size hb.shape hg.shape (by omega) (hb.fr 0) (hb.fr _)]
 rfl
theorem insert_shiftN (B g n cap : Nat) (cur : Array Value) (l : List XEn) (k : Nat) (c : XEn) (b : Nat) (W : World) (hn : n = l.length) (hBg : B ≤ g) (hg : Box W g cur 66) (hcm : cap ≤ maxLen) (hsz : cur.size = cap * 7) (ht : cur.toList.take (n * 7) = flat EN l) (hx : Box W b (cellsN c).toArray 66) (hne : b ≠ g) (hk : k < n) (hroom : n + 1 ≤ cap) (hl : n ≤ 900) :
  Calls Tryz.prog 147 #[.slice (some ⟨g,0,none⟩) n cap,.int .i64 k,.slice (some ⟨b,0,none⟩) 1 1] W (InsQN B l k c (.slice (some ⟨g,0,none⟩) n cap) W) := by
 obtain ⟨R1,R2,r1,r2,ow⟩ := shift_mid (E := EN) (l := l) (k := k) (cap := cap) (cur := cur) (cs := (cellsN c).toArray) (c := c) okN (by omega) (by omega) hsz (by rw [← hn]; exact ht) g b hne
 have hov := fun lb cb => no_overN W g b ((k + 1) * 7) 1 lb cb cur (cellsN c).toArray hx hg hne (by omega)
 have s0 := cut_hi (E := EN) okN g k n cap (by omega) (by omega)
 have s1 := slice_lo (E := EN) okN ⟨g,0,none⟩ (n + 1) n cap (by omega)
 have s2 := cut_hi (E := EN) okN g (k + 1) (n + 1) cap (by omega) (by omega)
 have s3 := cut_hi (E := EN) okN g k (n + 1) cap (by omega) (by omega)
 have q1 := r1 W.drew 3 (n + 1 - (k + 1)) (cap - (k + 1)) (n + 1 - k) (cap - k) hg (by omega)
 have q2 := r2 (W.drew.setRow g R1) 3 (n + 1 - k) (cap - k) (Box.set (show Box W.drew g cur 66 from hg) R1) (Box.other (show Box W.drew b _ 66 from hx) hne R1) rfl (by omega)
 have Q := Lib.hid (show InsQN B l k c (.slice (some ⟨g,0,none⟩) n cap) W (.returned (.slice (some ⟨g,0,none⟩) (n + 1) cap)) ((W.drew.setRow g R1).setRow g R2) from ⟨_,rfl,by rw [hn]; exact ow _ B hBg hcm (Box.set (Box.set (show Box W.drew g cur 66 from hg) R1) R2),below_setRow (below_setRow (Below.refl B W).drew hBg _) hBg _,fun j hj hne => (setRow_other _ g j _ (fun e => hne (by rw [e]; rfl))).trans (setRow_other _ g j _ (fun e => hne (by rw [e]; rfl)))⟩)
 clear r1 r2 ow hg ht hx hsz hBg hcm
 change ∀ w,(Instr.sliceAt 25 (.slice (some ⟨g,0,none⟩) n cap) (some (.int .i64 k)) none none).run Tryz.prog w = .ok (.slice (some ⟨g,k * 7,none⟩) (n - k) (cap - k)) w at s0
 change ∀ w,(Instr.sliceAt 25 (.slice (some ⟨g,0,none⟩) n cap) none (some (.int .i64 ((n : Int) + 1))) none).run Tryz.prog w = .ok (.slice (some ⟨g,0,none⟩) (n + 1) cap) w at s1
 change ∀ w,(Instr.sliceAt 25 (.slice (some ⟨g,0,none⟩) (n + 1) cap) (some (.int .i64 ((k : Int) + 1))) none none).run Tryz.prog w = .ok (.slice (some ⟨g,(k + 1) * 7,none⟩) (n + 1 - (k + 1)) (cap - (k + 1))) w at s2
 change ∀ w,(Instr.sliceAt 25 (.slice (some ⟨g,0,none⟩) (n + 1) cap) (some (.int .i64 k)) none none).run Tryz.prog w = .ok (.slice (some ⟨g,k * 7,none⟩) (n + 1 - k) (cap - k)) w at s3
 have e1 : ((k : Int) == (n : Int)) = false := by rw [beq_eq_false_iff_ne]; omega
 have e2 : decide ((cap : Int) < (n : Int) + 1) = false := by simp; omega
 change (Builtin.copy_ #[25,25] 3 #[.slice (some ⟨g,(k + 1) * 7,none⟩) (n + 1 - (k + 1)) (cap - (k + 1)),.slice (some ⟨g,k * 7,none⟩) (n + 1 - k) (cap - k)]).run Tryz.prog W.drew = .ok (.int .i64 ((l.length - k : Nat) : Int)) (W.drew.setRow g R1) at q1
 change (Builtin.copy_ #[25,25] 3 #[.slice (some ⟨g,k * 7,none⟩) (n + 1 - k) (cap - k),.slice (some ⟨b,0,none⟩) 1 1]).run Tryz.prog (W.drew.setRow g R1) = .ok (.int .i64 1) ((W.drew.setRow g R1).setRow g R2) at q2
 clear hn
 go_enter Tryz.func147,Tryz.ntmps147
 go_wp2_with (first | (simp only [hov]) | fail)
 clear hov s0 s1 s2 s3
 have hw1 : IntKind.i64.wrap ((k : Int) + 1) = (k : Int) + 1 := by rw [IntKind.wrap_i64]; omega
 have hb1 : (0 : Int) ≤ (k : Int) + 1 := by omega
 have hb0 : (k : Int) + 1 ≤ (n : Int) + 1 := by omega
 have htn : ((k : Int) + 1).toNat = k + 1 := by omega
 have hb2 : ¬ (cap = k + 1) := by omega
 have hb3 : (k : Int) ≤ (n : Int) + 1 := by omega
 have hb4 : ¬ (cap = k) := by omega
 have h81 : n + 1 - (k + 1) = n - k := by omega
 rw [h81] at q1
 clear h81
 go_region_law (refine step_copy_run rfl (.tmp 73) (.tmp 76) 25 rfl (v := .slice (some ⟨g,(k + 1) * 7,none⟩) (n - k) (cap - (k + 1))) (xv := .slice (some ⟨g,k * 7,none⟩) (n + 1 - k) (cap - k)) (by simp [Act.eval,Act.put]) (by simp [Act.eval,Act.put]) q1 ?_)
 all_goals simp only [Exit.then]
 all_goals apply_assumption
 clear q1 hw1 hb1 hb0 htn hb2 hb3 hb4
 have s3 := cut_hi (E := EN) okN g k (n + 1) cap (by omega) (by omega)
 change ∀ w,(Instr.sliceAt 25 (.slice (some ⟨g,0,none⟩) (n + 1) cap) (some (.int .i64 k)) none none).run Tryz.prog w = .ok (.slice (some ⟨g,k * 7,none⟩) (n + 1 - k) (cap - k)) w at s3
 go_wp2_with (first | (at_builtin; refine wpList_copy_run rfl _ _ 25 rfl rfl rfl q2 ?_) | fail)
 go_ret
 exact Q.out
theorem insert_growN (B g n cap : Nat) (cur : Array Value) (l : List XEn) (k : Nat) (c : XEn) (b : Nat) (W : World) (hn : n = l.length) (hg : Box W g cur 66) (hcm : cap ≤ maxLen) (hnc : n ≤ cap) (ht : cur.toList.take (n * 7) = flat EN l) (hx : Box W b (cellsN c).toArray 66) (hk : k < n) (hroom : cap < n + 1) (hl : n ≤ 900) (hB : B ≤ W.heap.size) :
  Calls Tryz.prog 147 #[.slice (some ⟨g,0,none⟩) n cap,.int .i64 k,.slice (some ⟨b,0,none⟩) 1 1] W (InsQN B l k c (.slice (some ⟨g,0,none⟩) n cap) W) := by
 have hgw := hg.lt
 have hbw := hx.lt
 obtain ⟨G,R1,R2,R3,hG1,hG2,r1,r2,r3,ow⟩ := grow_mid (E := EN) (l := l) (k := k) (cap := cap) (cur := cur) (cs := (cellsN c).toArray) (c := c) okN 3 Tryz.underlying3 (by omega) (by omega) (by omega) (by omega) (by rw [← hn]; exact ht) W g b hg hbw
 unfold maxLen at hcm hG2
 have s0 := cut_hi (E := EN) okN g k n cap (by omega) (by omega)
 have s1 := slice_lo (E := EN) okN ⟨g,0,none⟩ k n cap (by omega)
 have s2 := cut_hi (E := EN) okN W.heap.size k (n + 1) G (by omega) (by omega)
 have s3 := cut_hi (E := EN) okN W.heap.size (k + 1) (n + 1) G (by omega) (by omega)
 have a1 := r1 25
 have n1 := box_new W.drew R1 66
 have bl : W.drew.heap.size = W.heap.size := rfl
 rw [bl] at n1
 have g1 : Box (W.drew.alloc (.cells R1 66)) g cur 66 := Box.more (show Box W.drew g cur 66 from hg) _
 have x1 : Box (W.drew.alloc (.cells R1 66)) b (cellsN c).toArray 66 := Box.more (show Box W.drew b _ 66 from hx) _
 have q2 := r2 (W.drew.alloc (.cells R1 66)) 3 (n + 1 - k) (G - k) n1 x1 rfl (by omega)
 have q3 := r3 ((W.drew.alloc (.cells R1 66)).setRow W.heap.size R2).drew 3 (n + 1 - (k + 1)) (G - (k + 1)) (n - k) (cap - k) (Box.set n1 R2) (Box.other g1 (by omega) R2) (by omega)
 have Q := Lib.hid (show InsQN B l k c (.slice (some ⟨g,0,none⟩) n cap) W (.returned (.slice (some ⟨W.heap.size,0,none⟩) (n + 1) G)) (((W.drew.alloc (.cells R1 66)).setRow W.heap.size R2).drew.setRow W.heap.size R3) from ⟨_,rfl,by rw [hn]; exact ow _ B hB (Box.set (Box.set n1 R2) R3),below_setRow (below_setRow ((Below.refl B W).drew.alloc hB _) hB _).drew hB _,fun j hj _ => (setRow_other _ W.heap.size j _ (by omega)).trans ((setRow_other _ W.heap.size j _ (by omega)).trans (Array.getElem?_push_lt hj |>.trans (Array.getElem?_eq_getElem hj).symm))⟩)
 have l1 : l.length + 1 = n + 1 := by rw [hn]
 rw [l1,← hn] at a1
 clear r1 r2 r3 ow hg ht hx g1 x1 n1 bl l1
 change ∀ w,(Instr.sliceAt 25 (.slice (some ⟨g,0,none⟩) n cap) (some (.int .i64 k)) none none).run Tryz.prog w = .ok (.slice (some ⟨g,k * 7,none⟩) (n - k) (cap - k)) w at s0
 change ∀ w,(Instr.sliceAt 25 (.slice (some ⟨g,0,none⟩) n cap) none (some (.int .i64 k)) none).run Tryz.prog w = .ok (.slice (some ⟨g,0,none⟩) k cap) w at s1
 change ∀ w,(Instr.sliceAt 25 (.slice (some ⟨W.heap.size,0,none⟩) (n + 1) G) (some (.int .i64 k)) none none).run Tryz.prog w = .ok (.slice (some ⟨W.heap.size,k * 7,none⟩) (n + 1 - k) (G - k)) w at s2
 change ∀ w,(Instr.sliceAt 25 (.slice (some ⟨W.heap.size,0,none⟩) (n + 1) G) (some (.int .i64 ((k : Int) + 1))) none none).run Tryz.prog w = .ok (.slice (some ⟨W.heap.size,(k + 1) * 7,none⟩) (n + 1 - (k + 1)) (G - (k + 1))) w at s3
 change (Builtin.append_ #[25,3] 25 #[.slice (some ⟨g,0,none⟩) k cap,.int .i64 ((n : Int) + 1 - k)]).run Tryz.prog W = .ok (.slice (some ⟨W.heap.size,0,none⟩) (n + 1) G) (W.drew.alloc (.cells R1 66)) at a1
 change (Builtin.copy_ #[25,25] 3 #[.slice (some ⟨W.heap.size,k * 7,none⟩) (n + 1 - k) (G - k),.slice (some ⟨b,0,none⟩) 1 1]).run Tryz.prog (W.drew.alloc (.cells R1 66)) = .ok (.int .i64 1) ((W.drew.alloc (.cells R1 66)).setRow W.heap.size R2) at q2
 change (Builtin.copy_ #[25,25] 3 #[.slice (some ⟨W.heap.size,(k + 1) * 7,none⟩) (n + 1 - (k + 1)) (G - (k + 1)),.slice (some ⟨g,k * 7,none⟩) (n - k) (cap - k)]).run Tryz.prog ((W.drew.alloc (.cells R1 66)).setRow W.heap.size R2).drew = .ok (.int .i64 ((l.length - k : Nat) : Int)) (((W.drew.alloc (.cells R1 66)).setRow W.heap.size R2).drew.setRow W.heap.size R3) at q3
 have e1 : ((k : Int) == (n : Int)) = false := by rw [beq_eq_false_iff_ne]; omega
 have e2 : decide ((cap : Int) < (n : Int) + 1) = true := by simp; omega
 have hGn : n + 1 ≤ G := by omega
 clear hn
 generalize W.heap.size = N at *
 generalize W.drew.alloc (.cells R1 66) = W1 at *
 generalize W1.setRow N R2 = W2 at *
 go_enter Tryz.func147,Tryz.ntmps147
 go_wp2_with (first | (at_builtin; refine wpList_append_run2 rfl _ _ 25 3 rfl rfl rfl a1 ?_) | (at_builtin; refine wpList_copy_run rfl _ _ 25 rfl rfl rfl q2 ?_) | fail)
 clear a1 q2 s0 s1 s2 s3
 have hw1 : IntKind.i64.wrap ((k : Int) + 1) = (k : Int) + 1 := by rw [IntKind.wrap_i64]; omega
 have hb1 : (0 : Int) ≤ (k : Int) + 1 := by omega
 have hb0 : (k : Int) + 1 ≤ (n : Int) + 1 := by omega
 have htn : ((k : Int) + 1).toNat = k + 1 := by omega
 have hb2 : ¬ (G = k + 1) := by omega
 have hb3 : (k : Int) ≤ (n : Int) := by omega
 have hb4 : ¬ (cap = k) := by omega
 have h81 : n + 1 - (k + 1) = n - k := by omega
 rw [h81] at q3
 clear h81
 go_region_law (refine step_copy_run rfl (.tmp 50) (.tmp 53) 25 rfl (v := .slice (some ⟨N,(k + 1) * 7,none⟩) (n - k) (G - (k + 1))) (xv := .slice (some ⟨g,k * 7,none⟩) (n - k) (cap - k)) (by simp [Act.eval,Act.put]) (by simp [Act.eval,Act.put]) q3 ?_)
 all_goals simp only [Exit.then]
 all_goals apply_assumption
 go_wp2
 go_ret
 exact Q.out
theorem insert_anyN (B : Nat) (v : Value) (l : List XEn) (k : Nat) (c : XEn) (b : Nat) (W : World) (ho : OwnN W B v l) (hx : Box W b (cellsN c).toArray 66) (hne : v.ownBlock ≠ some b) (hk : k ≤ l.length) (hl : l.length ≤ 900) (hB : B ≤ W.heap.size) :
  Calls Tryz.prog 147 #[v,.int .i64 k,.slice (some ⟨b,0,none⟩) 1 1] W (InsQN B l k c v W) := by
 rcases Nat.lt_or_ge k l.length with h | h
 ·rcases own_open ho with ⟨_,h2⟩ | ⟨g,cap,cur,rfl,h1,h2,h3,h4,h5,h6⟩
  ·rw [h2] at h; simp at h
  ·rcases Nat.lt_or_ge cap (l.length + 1) with h7 | h7
   ·exact insert_growN B g _ cap cur l k c b W rfl h2 h4 h3 h6 hx h h7 hl hB
   ·exact insert_shiftN B g _ cap cur l k c b W rfl h1 h2 h4 h5 h6 hx (fun e => hne (by simp [Value.ownBlock,e])) h h7 hl
 ·obtain rfl : k = l.length := by omega
  exact insert_endN B v l c b W ho hx hl hB
end Go.Proofs.YtmklifheakemeaaGreat.Av
