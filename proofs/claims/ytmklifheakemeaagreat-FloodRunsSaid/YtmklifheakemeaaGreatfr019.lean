/-
  A step of Copy: an advertisement copied. Conditions as told.
-/
import Derived.Test.YtmklifheakemeaaGreatfr014
import Derived.Test.YtmklifheakemeaaGreatfr016
import Derived.Test.YtmklifheakemeaaGreatfr001
import Derived.Test.YtmklifheakemeaaGreatfr006
import Derived.Laws.Externs
import Derived.Lib.Hide
import Derived.Lib.QuietBelow
import Derived.BigQuiet
set_option maxRecDepth 100000
set_option maxHeartbeats 64000000
namespace Go.Proofs.YtmklifheakemeaaGreat.Av
open Go.RowKit Go.Sort Rw YtmklifheakemeaaGreat.Nm Pr Bk
def cp6V (B : Nat) (b1 : Nat) (_me : Int) (_z1 _z3 _z4 _z5 : Value) (g n cap k : Nat) (y1 y2 : Int) (yo : Option Addr) (yn yc : Nat) (y4 : Int) (p : List C5) (i : Nat) (v : Value) (x : World) : Prop :=
 match i with
 | 0 => v = .pointer (some ⟨b1,2,none⟩)
 | 1 => v = .slice (some ⟨g,0,none⟩) n cap
 | 2 => v = .int .i64 (k : Int)
 | 3 => v = .pointer (some ⟨b1,2,none⟩)
 | 4 => v = .slice (some ⟨g,0,none⟩) n cap
 | 5 => v = .int .i64 (k : Int)
 | 6 => v = .pointer (some ⟨g,k * 4,none⟩)
 | 7 => v = valD (y1,y2,(yo,yn,yc),y4)
 | 8 => ∃ s : Sl,v = valD (y1,y2,s,y4) ∧ OwnC x B (slv s) p
 | 9 => v = .pointer (some ⟨g,k * 4,none⟩)
 | _ => True
noncomputable def cp6C : Code := ((Tryz.f91.body.bind (findRegion 6)).getD .skip)
theorem cp6V_on (B : Nat) (b1 : Nat) (me : Int) (z1 z3 z4 z5 : Value) (g n cap k : Nat) (y1 y2 : Int) (yo : Option Addr) (yn yc : Nat) (y4 : Int) (p : List C5) (i : Nat) (v : Value) (x x' : World) (h : cp6V B b1 me z1 z3 z4 z5 g n cap k y1 y2 yo yn yc y4 p i v x) (hb : Below x.heap.size x x') : cp6V B b1 me z1 z3 z4 z5 g n cap k y1 y2 yo yn yc y4 p i v x' := by
 by_cases hi : i < 10
 ·rcases (by omega : i = 0 ∨ i = 1 ∨ i = 2 ∨ i = 3 ∨ i = 4 ∨ i = 5 ∨ i = 6 ∨ i = 7 ∨ i = 8 ∨ i = 9) with rfl | rfl | rfl | rfl | rfl | rfl | rfl | rfl | rfl | rfl
  ·exact h
  ·exact h
  ·exact h
  ·exact h
  ·exact h
  ·exact h
  ·exact h
  ·exact h
  ·obtain ⟨s,h1,h2⟩ := h; exact ⟨s,h1,Bk.own_on h2 hb⟩
  ·exact h
 ·unfold cp6V
  split <;> first | omega | trivial
theorem cp6 (Q : Exit → Act → World → Prop) (W : World) (B0 : Nat) (l : List XAd) (b1 : Nat) (me : Int) (z1 z3 z4 z5 : Value) (g n cap k : Nat) (y1 y2 : Int) (yo : Option Addr) (yn yc : Nat) (y4 : Int) (p : List C5) (u0 u2 u4 u5 u6 u7 u8 u9 u10 u11 u12 u13 u14 u15 u16 u17 u18 u19 u20 u21 u22 u23 u24 u25 u26 u27 u28 u29 u30 u31 u32 u33 u34 u35 u36 u37 u38 u39 u40 u41 u42 u43 u44 u45 u46 u47 u48 u49 u50 u51 u52 u53 u54 u55 u56 u57 u58 u59 u60 u61 u62 u63 u64 u65 u66 u67 u68 u69 u70 u71 u72 u73 u74 u75 u76 u77 u78 u79 u80 u81 : Value)
  (h1 : Box W b1 #[.int .i64 me,z1,.slice (some ⟨g,0,none⟩) n cap,z3,z4,z5] 28) (ho : OwnD W B0 (.slice (some ⟨g,0,none⟩) n cap) l) (hy : l[k]? = some (y1,y2,(yo,yn,yc),y4)) (hp : RowC W (.slice yo yn yc) p) (lp : p.length ≤ 900)
  (hQ : ∀ (x : World) (v32 v33 v34 v35 v36 v37 v38 v39 v40 v41 : Value) (s1 : Option Addr) (s2 s3 : Nat),OwnC x W.heap.size (.slice s1 s2 s3) p → OwnD x B0 (.slice (some ⟨g,0,none⟩) n cap) (l.set k (y1,y2,(s1,s2,s3),y4)) → But g W x → (∀ B1,B1 ≤ g → B1 ≤ W.heap.size → Below B1 W x) → Q .normal ⟨(u0 :: .pointer (some ⟨b1,0,none⟩) :: u2 :: .int .i64 (k : Int) :: u4 :: u5 :: u6 :: u7 :: u8 :: u9 :: u10 :: u11 :: u12 :: u13 :: u14 :: u15 :: u16 :: u17 :: u18 :: u19 :: u20 :: u21 :: u22 :: u23 :: u24 :: u25 :: u26 :: u27 :: u28 :: u29 :: u30 :: u31 :: v32 :: v33 :: v34 :: v35 :: v36 :: v37 :: v38 :: v39 :: v40 :: v41 :: u42 :: u43 :: u44 :: u45 :: u46 :: u47 :: u48 :: u49 :: u50 :: u51 :: u52 :: u53 :: u54 :: u55 :: u56 :: u57 :: u58 :: u59 :: u60 :: u61 :: u62 :: u63 :: u64 :: u65 :: u66 :: u67 :: u68 :: u69 :: u70 :: u71 :: u72 :: u73 :: u74 :: u75 :: u76 :: u77 :: u78 :: u79 :: u80 :: u81 :: []).toArray,[]⟩ x) :
  Code.wp Tryz.prog cp6C Q ⟨(u0 :: .pointer (some ⟨b1,0,none⟩) :: u2 :: .int .i64 (k : Int) :: u4 :: u5 :: u6 :: u7 :: u8 :: u9 :: u10 :: u11 :: u12 :: u13 :: u14 :: u15 :: u16 :: u17 :: u18 :: u19 :: u20 :: u21 :: u22 :: u23 :: u24 :: u25 :: u26 :: u27 :: u28 :: u29 :: u30 :: u31 :: u32 :: u33 :: u34 :: u35 :: u36 :: u37 :: u38 :: u39 :: u40 :: u41 :: u42 :: u43 :: u44 :: u45 :: u46 :: u47 :: u48 :: u49 :: u50 :: u51 :: u52 :: u53 :: u54 :: u55 :: u56 :: u57 :: u58 :: u59 :: u60 :: u61 :: u62 :: u63 :: u64 :: u65 :: u66 :: u67 :: u68 :: u69 :: u70 :: u71 :: u72 :: u73 :: u74 :: u75 :: u76 :: u77 :: u78 :: u79 :: u80 :: u81 :: []).toArray,[]⟩ W := by
 have HQ := Lib.hid hQ
 have H1 := Lib.hid h1
 have HO := Lib.hid ho
 have HY := Lib.hid hy
 have HP := Lib.hid hp
 have LP := Lib.hid lp
 have IX := Lib.hid (index_own okD g k n cap (by obtain ⟨_,_,hv⟩ := (Row.of_own ho).len; have h := (List.getElem?_eq_some_iff.1 hy).1; simp at hv; omega))
 have EL := Lib.hid (own_row_at okD ho hy)
 clear hQ h1 ho hy hp lp
 have stab := cp6V_on W.heap.size b1 me z1 z3 z4 z5 g n cap k y1 y2 yo yn yc y4 p
 unfold cp6C
 conv => arg 2; whnf
 have nd : ∀ j,(j < 32 ∨ 42 ≤ j) → ∀ i,i < 10 → (fun i => 32 + i) i ≠ j := by
  intro j hj i hi h
  simp only at h
  omega
 refine Rg.region_live 11 10 (fun i => 32 + i) (fun _ => 10) (cp6V W.heap.size b1 me z1 z3 z4 z5 g n cap k y1 y2 yo yn yc y4 p) (by kernel_rfl) (by kernel_rfl) rfl (by decide) (fun i j _ _ h => by have h2 : 32 + i = 32 + j := h; omega) (fun i hi => by show 32 + i < 82; omega) ?_ (fun _ => Rg.hall_of 14 (by kernel_rfl)) ?_ ?_
 ·intro i o hi ho a x D hnd hc hD hb seen K hK
  clear HQ
  rcases (by omega : i = 0 ∨ i = 1 ∨ i = 2 ∨ i = 3 ∨ i = 4 ∨ i = 5 ∨ i = 6 ∨ i = 7 ∨ i = 8 ∨ i = 9) with rfl | rfl | rfl | rfl | rfl | rfl | rfl | rfl | rfl | rfl
  ·obtain rfl := Option.some.inj ho
   have e1 : a.eval (.tmp 1) = .pointer (some ⟨b1,0,none⟩) := seen.kp 1 _ (nd 1 (by omega)) rfl
   exact Rg.op_value rfl rfl (Rg.ex_field a.eval _ 28 (.tmp 1) 2 rfl (by rw [e1]; simp [go_sem])) (hK _ _ rfl (Below.refl _ _) fun _ _ _ _ _ _ _ h => h)
  ·obtain rfl := Option.some.inj ho
   have e32 : a.eval (.tmp 32) = .pointer (some ⟨b1,2,none⟩) := seen.at_ ⟨0,.data⟩ (by simp) rfl (Or.inr (by decide))
   have y2 := (H1.out.on hb).cell 2
   simp only [List.getElem?_toArray,List.getElem?_cons_zero,List.getElem?_cons_succ] at y2
   exact Rg.op_value rfl rfl (Rg.ex_load a.eval _ 23 (.tmp 32) rfl (by rw [e32]; simp [go_sem,y2])) (hK _ _ rfl (Below.refl _ _) fun _ _ _ _ _ _ _ h => h)
  ·obtain rfl := Option.some.inj ho
   have e3 : a.eval (.tmp 3) = .int .i64 (k : Int) := seen.kp 3 _ (nd 3 (by omega)) rfl
   exact Rg.op_value rfl rfl (Rg.ex_move a.eval _ (.tmp 3) rfl x) (hK _ _ e3 (Below.refl _ _) fun _ _ _ _ _ _ _ h => h)
  ·obtain rfl := Option.some.inj ho
   have e1 : a.eval (.tmp 1) = .pointer (some ⟨b1,0,none⟩) := seen.kp 1 _ (nd 1 (by omega)) rfl
   exact Rg.op_value rfl rfl (Rg.ex_field a.eval _ 28 (.tmp 1) 2 rfl (by rw [e1]; simp [go_sem])) (hK _ _ rfl (Below.refl _ _) fun _ _ _ _ _ _ _ h => h)
  ·obtain rfl := Option.some.inj ho
   have e35 : a.eval (.tmp 35) = .pointer (some ⟨b1,2,none⟩) := seen.at_ ⟨3,.data⟩ (by simp) rfl (Or.inr (by decide))
   have y2 := (H1.out.on hb).cell 2
   simp only [List.getElem?_toArray,List.getElem?_cons_zero,List.getElem?_cons_succ] at y2
   exact Rg.op_value rfl rfl (Rg.ex_load a.eval _ 23 (.tmp 35) rfl (by rw [e35]; simp [go_sem,y2])) (hK _ _ rfl (Below.refl _ _) fun _ _ _ _ _ _ _ h => h)
  ·obtain rfl := Option.some.inj ho
   have e3 : a.eval (.tmp 3) = .int .i64 (k : Int) := seen.kp 3 _ (nd 3 (by omega)) rfl
   exact Rg.op_value rfl rfl (Rg.ex_move a.eval _ (.tmp 3) rfl x) (hK _ _ e3 (Below.refl _ _) fun _ _ _ _ _ _ _ h => h)
  ·obtain rfl := Option.some.inj ho
   have e36 : a.eval (.tmp 36) = .slice (some ⟨g,0,none⟩) n cap := seen.at_ ⟨4,.data⟩ (by simp) rfl (Or.inr (by decide))
   have e37 : a.eval (.tmp 37) = .int .i64 (k : Int) := seen.at_ ⟨5,.data⟩ (by simp) rfl (Or.inr (by decide))
   exact Rg.op_value rfl rfl (Rg.ex_index a.eval _ 23 (.tmp 36) (.tmp 37) rfl (by rw [e36,e37]; exact IX.out x)) (hK _ _ rfl (Below.refl _ _) fun _ _ _ _ _ _ _ h => h)
  ·obtain rfl := Option.some.inj ho
   have e38 : a.eval (.tmp 38) = .pointer (some ⟨g,k * 4,none⟩) := seen.at_ ⟨6,.data⟩ (by simp) rfl (Or.inr (by decide))
   exact Rg.op_value rfl rfl (Rg.ex_load a.eval _ 74 (.tmp 38) rfl (by rw [e38]; exact loadD x _ (y1,y2,(yo,yn,yc),y4) (EL.out x hb))) (hK _ _ rfl (Below.refl _ _) fun _ _ _ _ _ _ _ h => h)
  ·obtain rfl := Option.some.inj ho
   have e39 : a.eval (.tmp 39) = valD (y1,y2,(yo,yn,yc),y4) := seen.at_ ⟨7,.data⟩ (by simp) rfl (Or.inr (by decide))
   exact Rg.op_call rfl rfl (Rw.ex_call1 a.eval _ (.tmp 39) 74 79 rfl e39 rfl _ (call_fn Tryz.func79 rfl rfl _ _)) (cpAd_any (y1,y2,(yo,yn,yc),y4) p x (HP.out.on hb) LP.out) fun e w1 h => by
    obtain ⟨⟨s,rfl,h1⟩,h3⟩ := h
    exact ⟨_,rfl,hK _ _ ⟨s,rfl,own_fewer h1 hb.size⟩ (h3.mono hb.size) fun j u hj _ _ _ hne h => stab j u _ _ h h3⟩
  ·obtain rfl := Option.some.inj ho
   have e33 : a.eval (.tmp 33) = .slice (some ⟨g,0,none⟩) n cap := seen.at_ ⟨1,.data⟩ (by simp) rfl (Or.inr (by decide))
   have e34 : a.eval (.tmp 34) = .int .i64 (k : Int) := seen.at_ ⟨2,.data⟩ (by simp) rfl (Or.inr (by decide))
   exact Rg.op_value rfl rfl (Rg.ex_index a.eval _ 23 (.tmp 33) (.tmp 34) rfl (by rw [e33,e34]; exact IX.out x)) (hK _ _ rfl (Below.refl _ _) fun _ _ _ _ _ _ _ h => h)
 ·intro kk o h1 h2 ho
  omega
 ·intro a w' df sz kp ⟨vs,hv⟩ hb
  have sz' : a.tmps.size = 82 := sz
  have g41 : a.tmps[41]? = some (.pointer (some ⟨g,k * 4,none⟩)) := by
   have h : vs 9 = .pointer (some ⟨g,k * 4,none⟩) := (hv 9 (by omega)).2 (by decide)
   rw [← h]
   exact (hv 9 (by omega)).1
  obtain ⟨⟨s1,s2,s3⟩,hs,hc⟩ := (hv 8 (by omega)).2 (by decide)
  have g40 : a.tmps[40]? = some (valD (y1,y2,(s1,s2,s3),y4)) := ((hv 8 (by omega)).1).trans (congrArg some hs)
  obtain ⟨w2,hr,st1,st2,st3⟩ := storeD (k := k) (y1,y2,(s1,s2,s3),y4) (Bk.own_on HO.out hb) (List.getElem?_eq_some_iff.1 HY.out).1
  obtain ⟨cur,hg⟩ := own_tag (Bk.own_on HO.out hb)
  show Rg.SeqFrom _ _ _ 1 10 a w'
  simp only [Rg.SeqFrom]
  refine Rg.op_store 74 (.tmp 41) (.tmp 40) rfl rfl rfl rfl (Rg.eval_some g41) (Rg.eval_some g40) (w' := w2) hr ?_
  have kp2 : ∀ j,(j < 32 ∨ 42 ≤ j) → (a).tmps[j]? = (u0 :: .pointer (some ⟨b1,0,none⟩) :: u2 :: .int .i64 (k : Int) :: u4 :: u5 :: u6 :: u7 :: u8 :: u9 :: u10 :: u11 :: u12 :: u13 :: u14 :: u15 :: u16 :: u17 :: u18 :: u19 :: u20 :: u21 :: u22 :: u23 :: u24 :: u25 :: u26 :: u27 :: u28 :: u29 :: u30 :: u31 :: u32 :: u33 :: u34 :: u35 :: u36 :: u37 :: u38 :: u39 :: u40 :: u41 :: u42 :: u43 :: u44 :: u45 :: u46 :: u47 :: u48 :: u49 :: u50 :: u51 :: u52 :: u53 :: u54 :: u55 :: u56 :: u57 :: u58 :: u59 :: u60 :: u61 :: u62 :: u63 :: u64 :: u65 :: u66 :: u67 :: u68 :: u69 :: u70 :: u71 :: u72 :: u73 :: u74 :: u75 :: u76 :: u77 :: u78 :: u79 :: u80 :: u81 :: [])[j]? := fun j hj => (kp j (nd j (by omega))).trans List.getElem?_toArray
  obtain ⟨mid,hmid,hfr⟩ := Rg.frame_mid (a := a) 32 10 df (by simp [sz']) (by simp) kp2
  show Q .normal (a) _
  rw [hfr]
  match mid,hmid with
  | [v32,v33,v34,v35,v36,v37,v38,v39,v40,v41],_ =>
   exact HQ.out _ _ _ _ _ _ _ _ _ _ _ s1 s2 s3 (st2.own hc hg (by decide)) st1 ((But.of_below hb).trans st2) fun B1 hB hl => st3 B1 W hB (hb.mono hl)
def cp16V (B : Nat) (b1 : Nat) (_me : Int) (_z1 _z2 _z3 _z4 : Value) (g n cap k : Nat) (_y1 _y2 : Int) (yo : Option Addr) (yn yc : Nat) (p : List C5) (i : Nat) (v : Value) (x : World) : Prop :=
 match i with
 | 0 => v = .pointer (some ⟨b1,5,none⟩)
 | 1 => v = .slice (some ⟨g,0,none⟩) n cap
 | 2 => v = .int .i64 (k : Int)
 | 3 => v = .pointer (some ⟨b1,5,none⟩)
 | 4 => v = .slice (some ⟨g,0,none⟩) n cap
 | 5 => v = .int .i64 (k : Int)
 | 6 => v = .pointer (some ⟨g,k * 3,none⟩)
 | 7 => v = .pointer (some ⟨g,k * 3 + 2,none⟩)
 | 8 => v = .slice yo yn yc
 | 9 => ∃ s : Sl,v = slv s ∧ OwnC x B v p
 | 10 => v = .pointer (some ⟨g,k * 3,none⟩)
 | 11 => v = .pointer (some ⟨g,k * 3 + 2,none⟩)
 | _ => True
noncomputable def cp16C : Code := ((Tryz.f91.body.bind (findRegion 16)).getD .skip)
theorem cp16V_on (B : Nat) (b1 : Nat) (me : Int) (z1 z2 z3 z4 : Value) (g n cap k : Nat) (y1 y2 : Int) (yo : Option Addr) (yn yc : Nat) (p : List C5) (i : Nat) (v : Value) (x x' : World) (h : cp16V B b1 me z1 z2 z3 z4 g n cap k y1 y2 yo yn yc p i v x) (hb : Below x.heap.size x x') : cp16V B b1 me z1 z2 z3 z4 g n cap k y1 y2 yo yn yc p i v x' := by
 by_cases hi : i < 12
 ·rcases (by omega : i = 0 ∨ i = 1 ∨ i = 2 ∨ i = 3 ∨ i = 4 ∨ i = 5 ∨ i = 6 ∨ i = 7 ∨ i = 8 ∨ i = 9 ∨ i = 10 ∨ i = 11) with rfl | rfl | rfl | rfl | rfl | rfl | rfl | rfl | rfl | rfl | rfl | rfl
  ·exact h
  ·exact h
  ·exact h
  ·exact h
  ·exact h
  ·exact h
  ·exact h
  ·exact h
  ·exact h
  ·obtain ⟨s,h1,h2⟩ := h; exact ⟨s,h1,Bk.own_on h2 hb⟩
  ·exact h
  ·exact h
 ·unfold cp16V
  split <;> first | omega | trivial
theorem cp16 (Q : Exit → Act → World → Prop) (W : World) (B0 : Nat) (l : List XOw) (b1 : Nat) (me : Int) (z1 z2 z3 z4 : Value) (g n cap k : Nat) (y1 y2 : Int) (yo : Option Addr) (yn yc : Nat) (p : List C5) (u0 u2 u3 u4 u6 u7 u8 u9 u10 u11 u12 u13 u14 u15 u16 u17 u18 u19 u20 u21 u22 u23 u24 u25 u26 u27 u28 u29 u30 u31 u32 u33 u34 u35 u36 u37 u38 u39 u40 u41 u42 u43 u44 u45 u46 u47 u48 u49 u50 u51 u52 u53 u54 u55 u56 u57 u58 u59 u60 u61 u62 u63 u64 u65 u66 u67 u68 u69 u70 u71 u72 u73 u74 u75 u76 u77 u78 u79 u80 u81 : Value)
  (h1 : Box W b1 #[.int .i64 me,z1,z2,z3,z4,.slice (some ⟨g,0,none⟩) n cap] 28) (ho : OwnW W B0 (.slice (some ⟨g,0,none⟩) n cap) l) (hy : l[k]? = some (y1,y2,(yo,yn,yc))) (hp : RowC W (.slice yo yn yc) p) (lp : p.length ≤ 900)
  (hQ : ∀ (x : World) (v68 v69 v70 v71 v72 v73 v74 v75 v76 v77 v78 v79 : Value) (s1 : Option Addr) (s2 s3 : Nat),OwnC x W.heap.size (.slice s1 s2 s3) p → OwnW x B0 (.slice (some ⟨g,0,none⟩) n cap) (l.set k (y1,y2,(s1,s2,s3))) → But g W x → (∀ B1,B1 ≤ g → B1 ≤ W.heap.size → Below B1 W x) → Q .normal ⟨(u0 :: .pointer (some ⟨b1,0,none⟩) :: u2 :: u3 :: u4 :: .int .i64 (k : Int) :: u6 :: u7 :: u8 :: u9 :: u10 :: u11 :: u12 :: u13 :: u14 :: u15 :: u16 :: u17 :: u18 :: u19 :: u20 :: u21 :: u22 :: u23 :: u24 :: u25 :: u26 :: u27 :: u28 :: u29 :: u30 :: u31 :: u32 :: u33 :: u34 :: u35 :: u36 :: u37 :: u38 :: u39 :: u40 :: u41 :: u42 :: u43 :: u44 :: u45 :: u46 :: u47 :: u48 :: u49 :: u50 :: u51 :: u52 :: u53 :: u54 :: u55 :: u56 :: u57 :: u58 :: u59 :: u60 :: u61 :: u62 :: u63 :: u64 :: u65 :: u66 :: u67 :: v68 :: v69 :: v70 :: v71 :: v72 :: v73 :: v74 :: v75 :: v76 :: v77 :: v78 :: v79 :: u80 :: u81 :: []).toArray,[]⟩ x) :
  Code.wp Tryz.prog cp16C Q ⟨(u0 :: .pointer (some ⟨b1,0,none⟩) :: u2 :: u3 :: u4 :: .int .i64 (k : Int) :: u6 :: u7 :: u8 :: u9 :: u10 :: u11 :: u12 :: u13 :: u14 :: u15 :: u16 :: u17 :: u18 :: u19 :: u20 :: u21 :: u22 :: u23 :: u24 :: u25 :: u26 :: u27 :: u28 :: u29 :: u30 :: u31 :: u32 :: u33 :: u34 :: u35 :: u36 :: u37 :: u38 :: u39 :: u40 :: u41 :: u42 :: u43 :: u44 :: u45 :: u46 :: u47 :: u48 :: u49 :: u50 :: u51 :: u52 :: u53 :: u54 :: u55 :: u56 :: u57 :: u58 :: u59 :: u60 :: u61 :: u62 :: u63 :: u64 :: u65 :: u66 :: u67 :: u68 :: u69 :: u70 :: u71 :: u72 :: u73 :: u74 :: u75 :: u76 :: u77 :: u78 :: u79 :: u80 :: u81 :: []).toArray,[]⟩ W := by
 have HQ := Lib.hid hQ
 have H1 := Lib.hid h1
 have HO := Lib.hid ho
 have HY := Lib.hid hy
 have HP := Lib.hid hp
 have LP := Lib.hid lp
 have IX := Lib.hid (index_own okW g k n cap (by obtain ⟨_,_,hv⟩ := (Row.of_own ho).len; have h := (List.getElem?_eq_some_iff.1 hy).1; simp at hv; omega))
 have EL := Lib.hid (own_row_at okW ho hy)
 clear hQ h1 ho hy hp lp
 have stab := cp16V_on W.heap.size b1 me z1 z2 z3 z4 g n cap k y1 y2 yo yn yc p
 unfold cp16C
 conv => arg 2; whnf
 have nd : ∀ j,(j < 68 ∨ 80 ≤ j) → ∀ i,i < 12 → (fun i => 68 + i) i ≠ j := by
  intro j hj i hi h
  simp only at h
  omega
 refine Rg.region_live 13 12 (fun i => 68 + i) (fun _ => 12) (cp16V W.heap.size b1 me z1 z2 z3 z4 g n cap k y1 y2 yo yn yc p) (by kernel_rfl) (by kernel_rfl) rfl (by decide) (fun i j _ _ h => by have h2 : 68 + i = 68 + j := h; omega) (fun i hi => by show 68 + i < 82; omega) ?_ (fun _ => Rg.hall_of 14 (by kernel_rfl)) ?_ ?_
 ·intro i o hi ho a x D hnd hc hD hb seen K hK
  clear HQ
  rcases (by omega : i = 0 ∨ i = 1 ∨ i = 2 ∨ i = 3 ∨ i = 4 ∨ i = 5 ∨ i = 6 ∨ i = 7 ∨ i = 8 ∨ i = 9 ∨ i = 10 ∨ i = 11) with rfl | rfl | rfl | rfl | rfl | rfl | rfl | rfl | rfl | rfl | rfl | rfl
  ·obtain rfl := Option.some.inj ho
   have e1 : a.eval (.tmp 1) = .pointer (some ⟨b1,0,none⟩) := seen.kp 1 _ (nd 1 (by omega)) rfl
   exact Rg.op_value rfl rfl (Rg.ex_field a.eval _ 28 (.tmp 1) 5 rfl (by rw [e1]; simp [go_sem])) (hK _ _ rfl (Below.refl _ _) fun _ _ _ _ _ _ _ h => h)
  ·obtain rfl := Option.some.inj ho
   have e68 : a.eval (.tmp 68) = .pointer (some ⟨b1,5,none⟩) := seen.at_ ⟨0,.data⟩ (by simp) rfl (Or.inr (by decide))
   have y5 := (H1.out.on hb).cell 5
   simp only [List.getElem?_toArray,List.getElem?_cons_zero,List.getElem?_cons_succ] at y5
   exact Rg.op_value rfl rfl (Rg.ex_load a.eval _ 26 (.tmp 68) rfl (by rw [e68]; simp [go_sem,y5])) (hK _ _ rfl (Below.refl _ _) fun _ _ _ _ _ _ _ h => h)
  ·obtain rfl := Option.some.inj ho
   have e5 : a.eval (.tmp 5) = .int .i64 (k : Int) := seen.kp 5 _ (nd 5 (by omega)) rfl
   exact Rg.op_value rfl rfl (Rg.ex_move a.eval _ (.tmp 5) rfl x) (hK _ _ e5 (Below.refl _ _) fun _ _ _ _ _ _ _ h => h)
  ·obtain rfl := Option.some.inj ho
   have e1 : a.eval (.tmp 1) = .pointer (some ⟨b1,0,none⟩) := seen.kp 1 _ (nd 1 (by omega)) rfl
   exact Rg.op_value rfl rfl (Rg.ex_field a.eval _ 28 (.tmp 1) 5 rfl (by rw [e1]; simp [go_sem])) (hK _ _ rfl (Below.refl _ _) fun _ _ _ _ _ _ _ h => h)
  ·obtain rfl := Option.some.inj ho
   have e71 : a.eval (.tmp 71) = .pointer (some ⟨b1,5,none⟩) := seen.at_ ⟨3,.data⟩ (by simp) rfl (Or.inr (by decide))
   have y5 := (H1.out.on hb).cell 5
   simp only [List.getElem?_toArray,List.getElem?_cons_zero,List.getElem?_cons_succ] at y5
   exact Rg.op_value rfl rfl (Rg.ex_load a.eval _ 26 (.tmp 71) rfl (by rw [e71]; simp [go_sem,y5])) (hK _ _ rfl (Below.refl _ _) fun _ _ _ _ _ _ _ h => h)
  ·obtain rfl := Option.some.inj ho
   have e5 : a.eval (.tmp 5) = .int .i64 (k : Int) := seen.kp 5 _ (nd 5 (by omega)) rfl
   exact Rg.op_value rfl rfl (Rg.ex_move a.eval _ (.tmp 5) rfl x) (hK _ _ e5 (Below.refl _ _) fun _ _ _ _ _ _ _ h => h)
  ·obtain rfl := Option.some.inj ho
   have e72 : a.eval (.tmp 72) = .slice (some ⟨g,0,none⟩) n cap := seen.at_ ⟨4,.data⟩ (by simp) rfl (Or.inr (by decide))
   have e73 : a.eval (.tmp 73) = .int .i64 (k : Int) := seen.at_ ⟨5,.data⟩ (by simp) rfl (Or.inr (by decide))
   exact Rg.op_value rfl rfl (Rg.ex_index a.eval _ 26 (.tmp 72) (.tmp 73) rfl (by rw [e72,e73]; exact IX.out x)) (hK _ _ rfl (Below.refl _ _) fun _ _ _ _ _ _ _ h => h)
  ·obtain rfl := Option.some.inj ho
   have e74 : a.eval (.tmp 74) = .pointer (some ⟨g,k * 3,none⟩) := seen.at_ ⟨6,.data⟩ (by simp) rfl (Or.inr (by decide))
   exact Rg.op_value rfl rfl (Rg.ex_field a.eval _ 34 (.tmp 74) 1 rfl (by rw [e74]; simp [go_sem])) (hK _ _ rfl (Below.refl _ _) fun _ _ _ _ _ _ _ h => h)
  ·obtain rfl := Option.some.inj ho
   have e75 : a.eval (.tmp 75) = .pointer (some ⟨g,k * 3 + 2,none⟩) := seen.at_ ⟨7,.data⟩ (by simp) rfl (Or.inr (by decide))
   have y := EL.out x hb 2 _ rfl
   simp [Addr.add,EW] at y
   exact Rg.op_value rfl rfl (Rg.ex_load a.eval _ 32 (.tmp 75) rfl (by rw [e75]; simp [go_sem,y])) (hK _ _ rfl (Below.refl _ _) fun _ _ _ _ _ _ _ h => h)
  ·obtain rfl := Option.some.inj ho
   have e76 : a.eval (.tmp 76) = .slice yo yn yc := seen.at_ ⟨8,.data⟩ (by simp) rfl (Or.inr (by decide))
   exact Rg.op_call rfl rfl (Rw.ex_call1 a.eval _ (.tmp 76) 32 123 rfl e76 rfl _ (call_fn Tryz.func123 rfl rfl _ _)) (cloneC_any (yo,yn,yc) p x (HP.out.on hb) LP.out) fun e w1 h => by
    obtain ⟨⟨s,rfl,h1⟩,h3⟩ := h
    exact ⟨_,rfl,hK _ _ ⟨s,rfl,own_fewer h1 hb.size⟩ (h3.mono hb.size) fun j u hj _ _ _ hne h => stab j u _ _ h h3⟩
  ·obtain rfl := Option.some.inj ho
   have e69 : a.eval (.tmp 69) = .slice (some ⟨g,0,none⟩) n cap := seen.at_ ⟨1,.data⟩ (by simp) rfl (Or.inr (by decide))
   have e70 : a.eval (.tmp 70) = .int .i64 (k : Int) := seen.at_ ⟨2,.data⟩ (by simp) rfl (Or.inr (by decide))
   exact Rg.op_value rfl rfl (Rg.ex_index a.eval _ 26 (.tmp 69) (.tmp 70) rfl (by rw [e69,e70]; exact IX.out x)) (hK _ _ rfl (Below.refl _ _) fun _ _ _ _ _ _ _ h => h)
  ·obtain rfl := Option.some.inj ho
   have e78 : a.eval (.tmp 78) = .pointer (some ⟨g,k * 3,none⟩) := seen.at_ ⟨10,.data⟩ (by simp) rfl (Or.inr (by decide))
   exact Rg.op_value rfl rfl (Rg.ex_field a.eval _ 34 (.tmp 78) 1 rfl (by rw [e78]; simp [go_sem])) (hK _ _ rfl (Below.refl _ _) fun _ _ _ _ _ _ _ h => h)
 ·intro kk o h1 h2 ho
  omega
 ·intro a w' df sz kp ⟨vs,hv⟩ hb
  have sz' : a.tmps.size = 82 := sz
  have g79 : a.tmps[79]? = some (.pointer (some ⟨g,k * 3 + 2,none⟩)) := by
   have h : vs 11 = .pointer (some ⟨g,k * 3 + 2,none⟩) := (hv 11 (by omega)).2 (by decide)
   rw [← h]
   exact (hv 11 (by omega)).1
  obtain ⟨⟨s1,s2,s3⟩,hs,hc⟩ := (hv 9 (by omega)).2 (by decide)
  have g77 : a.tmps[77]? = some (.slice s1 s2 s3) := ((hv 9 (by omega)).1).trans (congrArg some hs)
  rw [hs] at hc
  obtain ⟨w2,hr,st1,st2,st3⟩ := storeW (k := k) s1 s2 s3 (Bk.own_on HO.out hb) HY.out
  obtain ⟨cur,hg⟩ := own_tag (Bk.own_on HO.out hb)
  show Rg.SeqFrom _ _ _ 1 12 a w'
  simp only [Rg.SeqFrom]
  refine Rg.op_store 32 (.tmp 79) (.tmp 77) rfl rfl rfl rfl (Rg.eval_some g79) (Rg.eval_some g77) (w' := w2) hr ?_
  have kp2 : ∀ j,(j < 68 ∨ 80 ≤ j) → (a).tmps[j]? = (u0 :: .pointer (some ⟨b1,0,none⟩) :: u2 :: u3 :: u4 :: .int .i64 (k : Int) :: u6 :: u7 :: u8 :: u9 :: u10 :: u11 :: u12 :: u13 :: u14 :: u15 :: u16 :: u17 :: u18 :: u19 :: u20 :: u21 :: u22 :: u23 :: u24 :: u25 :: u26 :: u27 :: u28 :: u29 :: u30 :: u31 :: u32 :: u33 :: u34 :: u35 :: u36 :: u37 :: u38 :: u39 :: u40 :: u41 :: u42 :: u43 :: u44 :: u45 :: u46 :: u47 :: u48 :: u49 :: u50 :: u51 :: u52 :: u53 :: u54 :: u55 :: u56 :: u57 :: u58 :: u59 :: u60 :: u61 :: u62 :: u63 :: u64 :: u65 :: u66 :: u67 :: u68 :: u69 :: u70 :: u71 :: u72 :: u73 :: u74 :: u75 :: u76 :: u77 :: u78 :: u79 :: u80 :: u81 :: [])[j]? := fun j hj => (kp j (nd j (by omega))).trans List.getElem?_toArray
  obtain ⟨mid,hmid,hfr⟩ := Rg.frame_mid (a := a) 68 12 df (by simp [sz']) (by simp) kp2
  show Q .normal (a) _
  rw [hfr]
  match mid,hmid with
  | [v68,v69,v70,v71,v72,v73,v74,v75,v76,v77,v78,v79],_ =>
   exact HQ.out _ _ _ _ _ _ _ _ _ _ _ _ _ s1 s2 s3 (st2.own hc hg (by decide)) st1 ((But.of_below hb).trans st2) fun B1 hB hl => st3 B1 W hB (hb.mono hl)
theorem row_boxJ {W : World} {b : Nat} {c : XID} (h : Box W b (cellsJ c).toArray 31) : RowJ W (.slice (some ⟨b,0,none⟩) 1 1) [c] :=
 Or.inr ⟨⟨b,0,none⟩,1,rfl,by simp,by decide,box_one h (by simp [EJ])⟩
def InsQJ (B : Nat) (l : List XID) (k : Nat) (c : XID) (vv : Value) (W : World) (e : Ending) (w' : World) : Prop := ∃ v',e = .returned v' ∧ OwnJ w' B v' (l.take k ++ c :: l.drop k) ∧ Below B W w' ∧ (∀ j,j < W.heap.size → some j ≠ vv.ownBlock → w'.heap[j]? = W.heap[j]?)
theorem insert_endJ (B : Nat) (v : Value) (l : List XID) (c : XID) (b : Nat) (W : World) (ho : OwnJ W B v l) (hx : Box W b (cellsJ c).toArray 31) (hl : l.length ≤ 900) (hB : B ≤ W.heap.size) :
  Calls Tryz.prog 145 #[v,.int .i64 (l.length : Nat),.slice (some ⟨b,0,none⟩) 1 1] W (InsQJ B l l.length c v W) := by
 obtain ⟨v',w',hr,ho2,hg⟩ := app_row okJ B ho (row_boxJ hx) (by omega) (by simp) hB 24
 have hr : (Builtin.append_ #[24,24] 24 #[v,.slice (some ⟨b,0,none⟩) 1 1]).run Tryz.prog W = .ok v' w' := hr
 have Q := Lib.hid (show InsQJ B l l.length c v W (.returned v') w' from ⟨v',rfl,by rw [List.take_of_length_le (Nat.le_refl _),List.drop_of_length_le (Nat.le_refl _)]; exact ho2,(Below.refl B W).grown hg hB (fun j hj => (ho.lt j hj).1),fun j hj hne => hg.block j hj hne⟩)
 obtain ⟨sx,hs,_⟩ := row_hi okJ (Row.of_own ho) l.length (Nat.le_refl _)
 have hs : ∀ w,(Instr.sliceAt 24 v (some (.int .i64 l.length)) none none).run Tryz.prog w = .ok sx w := hs
 obtain ⟨ao,ac,rfl⟩ := (Row.of_own ho).len
 clear ho ho2 hg
 generalize hn : l.length = n at *
 clear hn
 go_enter Tryz.func145,Tryz.ntmps145
 go_wp2_with (first | (at_builtin; refine wpList_append_run rfl _ _ 24 rfl rfl rfl hr ?_) | fail)
 go_ret
 exact Q.out
theorem no_overJ (w : World) (g b k la lb cb : Nat) (cur cs : Array Value) (hb : Box w b cs 31) (hg : Box w g cur 31) (hne : b ≠ g) (h0 : 0 < cur.size) : (callFunc 168 #[.slice (some ⟨b,0,none⟩) la 1,.slice (some ⟨g,k,none⟩) lb cb]).run Tryz.prog w = .ok (.value (.bool false)) w := by
 rw [run_callFunc_extern Tryz.func168 (by kernel_rfl) (by kernel_rfl) (by kernel_rfl) (e := Extern.SlicesOverlaps.overlaps #[24,24] #[4]) (by kernel_rfl),
  Lib.run_overlaps_apart w 24 4 31 Tryz.underlying24 2 Tryz.sizeOf31 ⟨b,0,none⟩ ⟨g,k,none⟩ la 1 lb cb hne 31 31 cs.size cur.size hb.shape hg.shape (by omega) (hb.fr 0) (hb.fr _)]
 rfl
theorem insert_shiftJ (B g n cap : Nat) (cur : Array Value) (l : List XID) (k : Nat) (c : XID) (b : Nat) (W : World) (hn : n = l.length) (hBg : B ≤ g) (hg : Box W g cur 31) (hcm : cap ≤ maxLen) (hsz : cur.size = cap * 2) (ht : cur.toList.take (n * 2) = flat EJ l) (hx : Box W b (cellsJ c).toArray 31) (hne : b ≠ g) (hk : k < n) (hroom : n + 1 ≤ cap) (hl : n ≤ 900) :
  Calls Tryz.prog 145 #[.slice (some ⟨g,0,none⟩) n cap,.int .i64 k,.slice (some ⟨b,0,none⟩) 1 1] W (InsQJ B l k c (.slice (some ⟨g,0,none⟩) n cap) W) := by
 obtain ⟨R1,R2,r1,r2,ow⟩ := shift_mid (E := EJ) (l := l) (k := k) (cap := cap) (cur := cur) (cs := (cellsJ c).toArray) (c := c) okJ (by omega) (by omega) hsz (by rw [← hn]; exact ht) g b hne
 have hov := fun lb cb => no_overJ W g b ((k + 1) * 2) 1 lb cb cur (cellsJ c).toArray hx hg hne (by omega)
 have s0 := cut_hi (E := EJ) okJ g k n cap (by omega) (by omega)
 have s1 := slice_lo (E := EJ) okJ ⟨g,0,none⟩ (n + 1) n cap (by omega)
 have s2 := cut_hi (E := EJ) okJ g (k + 1) (n + 1) cap (by omega) (by omega)
 have s3 := cut_hi (E := EJ) okJ g k (n + 1) cap (by omega) (by omega)
 have q1 := r1 W.drew 3 (n + 1 - (k + 1)) (cap - (k + 1)) (n + 1 - k) (cap - k) hg (by omega)
 have q2 := r2 (W.drew.setRow g R1) 3 (n + 1 - k) (cap - k) (Box.set (show Box W.drew g cur 31 from hg) R1) (Box.other (show Box W.drew b _ 31 from hx) hne R1) rfl (by omega)
 have Q := Lib.hid (show InsQJ B l k c (.slice (some ⟨g,0,none⟩) n cap) W (.returned (.slice (some ⟨g,0,none⟩) (n + 1) cap)) ((W.drew.setRow g R1).setRow g R2) from ⟨_,rfl,by rw [hn]; exact ow _ B hBg hcm (Box.set (Box.set (show Box W.drew g cur 31 from hg) R1) R2),below_setRow (below_setRow (Below.refl B W).drew hBg _) hBg _,fun j hj hne => (setRow_other _ g j _ (fun e => hne (by rw [e]; rfl))).trans (setRow_other _ g j _ (fun e => hne (by rw [e]; rfl)))⟩)
 clear r1 r2 ow hg ht hx hsz hBg hcm
 change ∀ w,(Instr.sliceAt 24 (.slice (some ⟨g,0,none⟩) n cap) (some (.int .i64 k)) none none).run Tryz.prog w = .ok (.slice (some ⟨g,k * 2,none⟩) (n - k) (cap - k)) w at s0
 change ∀ w,(Instr.sliceAt 24 (.slice (some ⟨g,0,none⟩) n cap) none (some (.int .i64 ((n : Int) + 1))) none).run Tryz.prog w = .ok (.slice (some ⟨g,0,none⟩) (n + 1) cap) w at s1
 change ∀ w,(Instr.sliceAt 24 (.slice (some ⟨g,0,none⟩) (n + 1) cap) (some (.int .i64 ((k : Int) + 1))) none none).run Tryz.prog w = .ok (.slice (some ⟨g,(k + 1) * 2,none⟩) (n + 1 - (k + 1)) (cap - (k + 1))) w at s2
 change ∀ w,(Instr.sliceAt 24 (.slice (some ⟨g,0,none⟩) (n + 1) cap) (some (.int .i64 k)) none none).run Tryz.prog w = .ok (.slice (some ⟨g,k * 2,none⟩) (n + 1 - k) (cap - k)) w at s3
 have e1 : ((k : Int) == (n : Int)) = false := by rw [beq_eq_false_iff_ne]; omega
 have e2 : decide ((cap : Int) < (n : Int) + 1) = false := by simp; omega
 change (Builtin.copy_ #[24,24] 3 #[.slice (some ⟨g,(k + 1) * 2,none⟩) (n + 1 - (k + 1)) (cap - (k + 1)),.slice (some ⟨g,k * 2,none⟩) (n + 1 - k) (cap - k)]).run Tryz.prog W.drew = .ok (.int .i64 ((l.length - k : Nat) : Int)) (W.drew.setRow g R1) at q1
 change (Builtin.copy_ #[24,24] 3 #[.slice (some ⟨g,k * 2,none⟩) (n + 1 - k) (cap - k),.slice (some ⟨b,0,none⟩) 1 1]).run Tryz.prog (W.drew.setRow g R1) = .ok (.int .i64 1) ((W.drew.setRow g R1).setRow g R2) at q2
 clear hn
 go_enter Tryz.func145,Tryz.ntmps145
 go_wp2_with (first | (simp only [hov]) | fail)
 clear hov s0 s1 s2 s3
 have hw1 : IntKind.i64.wrap ((k : Int) + 1) = (k : Int) + 1 := by rw [IntKind.wrap_i64]; omega
 have hb1 : (0 : Int) ≤ (k : Int) + 1 := by omega
 have hb0 : (k : Int) + 1 ≤ (n : Int) + 1 := by omega
 have htn : ((k : Int) + 1).toNat = k + 1 := by omega
 have hb2 : ¬ (cap = k + 1) := by omega
 have hb3 : (k : Int) ≤ (n : Int) + 1 := by omega
 have hb4 : ¬ (cap = k) := by omega
 have h81 : n + 1 - (k + 1) = n - k := by omega
 rw [h81] at q1
 clear h81
 go_region_law (refine step_copy_run rfl (.tmp 73) (.tmp 76) 24 rfl (v := .slice (some ⟨g,(k + 1) * 2,none⟩) (n - k) (cap - (k + 1))) (xv := .slice (some ⟨g,k * 2,none⟩) (n + 1 - k) (cap - k)) (by simp [Act.eval,Act.put]) (by simp [Act.eval,Act.put]) q1 ?_)
 all_goals simp only [Exit.then]
 all_goals apply_assumption
 clear q1 hw1 hb1 hb0 htn hb2 hb3 hb4
 have s3 := cut_hi (E := EJ) okJ g k (n + 1) cap (by omega) (by omega)
 change ∀ w,(Instr.sliceAt 24 (.slice (some ⟨g,0,none⟩) (n + 1) cap) (some (.int .i64 k)) none none).run Tryz.prog w = .ok (.slice (some ⟨g,k * 2,none⟩) (n + 1 - k) (cap - k)) w at s3
 go_wp2_with (first | (at_builtin; refine wpList_copy_run rfl _ _ 24 rfl rfl rfl q2 ?_) | fail)
 go_ret
 exact Q.out
theorem insert_growJ (B g n cap : Nat) (cur : Array Value) (l : List XID) (k : Nat) (c : XID) (b : Nat) (W : World) (hn : n = l.length) (hg : Box W g cur 31) (hcm : cap ≤ maxLen) (hnc : n ≤ cap) (ht : cur.toList.take (n * 2) = flat EJ l) (hx : Box W b (cellsJ c).toArray 31) (hk : k < n) (hroom : cap < n + 1) (hl : n ≤ 900) (hB : B ≤ W.heap.size) :
  Calls Tryz.prog 145 #[.slice (some ⟨g,0,none⟩) n cap,.int .i64 k,.slice (some ⟨b,0,none⟩) 1 1] W (InsQJ B l k c (.slice (some ⟨g,0,none⟩) n cap) W) := by
 have hgw := hg.lt
 have hbw := hx.lt
 obtain ⟨G,R1,R2,R3,hG1,hG2,r1,r2,r3,ow⟩ := grow_mid (E := EJ) (l := l) (k := k) (cap := cap) (cur := cur) (cs := (cellsJ c).toArray) (c := c) okJ 3 Tryz.underlying3 (by omega) (by omega) (by omega) (by omega) (by rw [← hn]; exact ht) W g b hg hbw
 unfold maxLen at hcm hG2
 have s0 := cut_hi (E := EJ) okJ g k n cap (by omega) (by omega)
 have s1 := slice_lo (E := EJ) okJ ⟨g,0,none⟩ k n cap (by omega)
 have s2 := cut_hi (E := EJ) okJ W.heap.size k (n + 1) G (by omega) (by omega)
 have s3 := cut_hi (E := EJ) okJ W.heap.size (k + 1) (n + 1) G (by omega) (by omega)
 have a1 := r1 24
 have n1 := box_new W.drew R1 31
 have bl : W.drew.heap.size = W.heap.size := rfl
 rw [bl] at n1
 have g1 : Box (W.drew.alloc (.cells R1 31)) g cur 31 := Box.more (show Box W.drew g cur 31 from hg) _
 have x1 : Box (W.drew.alloc (.cells R1 31)) b (cellsJ c).toArray 31 := Box.more (show Box W.drew b _ 31 from hx) _
 have q2 := r2 (W.drew.alloc (.cells R1 31)) 3 (n + 1 - k) (G - k) n1 x1 rfl (by omega)
 have q3 := r3 ((W.drew.alloc (.cells R1 31)).setRow W.heap.size R2).drew 3 (n + 1 - (k + 1)) (G - (k + 1)) (n - k) (cap - k) (Box.set n1 R2) (Box.other g1 (by omega) R2) (by omega)
 have Q := Lib.hid (show InsQJ B l k c (.slice (some ⟨g,0,none⟩) n cap) W (.returned (.slice (some ⟨W.heap.size,0,none⟩) (n + 1) G)) (((W.drew.alloc (.cells R1 31)).setRow W.heap.size R2).drew.setRow W.heap.size R3) from ⟨_,rfl,by rw [hn]; exact ow _ B hB (Box.set (Box.set n1 R2) R3),below_setRow (below_setRow ((Below.refl B W).drew.alloc hB _) hB _).drew hB _,fun j hj _ => (setRow_other _ W.heap.size j _ (by omega)).trans ((setRow_other _ W.heap.size j _ (by omega)).trans (Array.getElem?_push_lt hj |>.trans (Array.getElem?_eq_getElem hj).symm))⟩)
 have l1 : l.length + 1 = n + 1 := by rw [hn]
 rw [l1,← hn] at a1
 clear r1 r2 r3 ow hg ht hx g1 x1 n1 bl l1
 change ∀ w,(Instr.sliceAt 24 (.slice (some ⟨g,0,none⟩) n cap) (some (.int .i64 k)) none none).run Tryz.prog w = .ok (.slice (some ⟨g,k * 2,none⟩) (n - k) (cap - k)) w at s0
 change ∀ w,(Instr.sliceAt 24 (.slice (some ⟨g,0,none⟩) n cap) none (some (.int .i64 k)) none).run Tryz.prog w = .ok (.slice (some ⟨g,0,none⟩) k cap) w at s1
 change ∀ w,(Instr.sliceAt 24 (.slice (some ⟨W.heap.size,0,none⟩) (n + 1) G) (some (.int .i64 k)) none none).run Tryz.prog w = .ok (.slice (some ⟨W.heap.size,k * 2,none⟩) (n + 1 - k) (G - k)) w at s2
 change ∀ w,(Instr.sliceAt 24 (.slice (some ⟨W.heap.size,0,none⟩) (n + 1) G) (some (.int .i64 ((k : Int) + 1))) none none).run Tryz.prog w = .ok (.slice (some ⟨W.heap.size,(k + 1) * 2,none⟩) (n + 1 - (k + 1)) (G - (k + 1))) w at s3
 change (Builtin.append_ #[24,3] 24 #[.slice (some ⟨g,0,none⟩) k cap,.int .i64 ((n : Int) + 1 - k)]).run Tryz.prog W = .ok (.slice (some ⟨W.heap.size,0,none⟩) (n + 1) G) (W.drew.alloc (.cells R1 31)) at a1
 change (Builtin.copy_ #[24,24] 3 #[.slice (some ⟨W.heap.size,k * 2,none⟩) (n + 1 - k) (G - k),.slice (some ⟨b,0,none⟩) 1 1]).run Tryz.prog (W.drew.alloc (.cells R1 31)) = .ok (.int .i64 1) ((W.drew.alloc (.cells R1 31)).setRow W.heap.size R2) at q2
 change (Builtin.copy_ #[24,24] 3 #[.slice (some ⟨W.heap.size,(k + 1) * 2,none⟩) (n + 1 - (k + 1)) (G - (k + 1)),.slice (some ⟨g,k * 2,none⟩) (n - k) (cap - k)]).run Tryz.prog ((W.drew.alloc (.cells R1 31)).setRow W.heap.size R2).drew = .ok (.int .i64 ((l.length - k : Nat) : Int)) (((W.drew.alloc (.cells R1 31)).setRow W.heap.size R2).drew.setRow W.heap.size R3) at q3
 have e1 : ((k : Int) == (n : Int)) = false := by rw [beq_eq_false_iff_ne]; omega
 have e2 : decide ((cap : Int) < (n : Int) + 1) = true := by simp; omega
 have hGn : n + 1 ≤ G := by omega
 clear hn
 generalize W.heap.size = N at *
 generalize W.drew.alloc (.cells R1 31) = W1 at *
 generalize W1.setRow N R2 = W2 at *
 go_enter Tryz.func145,Tryz.ntmps145
 go_wp2_with (first | (at_builtin; refine wpList_append_run2 rfl _ _ 24 3 rfl rfl rfl a1 ?_) | (at_builtin; refine wpList_copy_run rfl _ _ 24 rfl rfl rfl q2 ?_) | fail)
 clear a1 q2 s0 s1 s2 s3
 have hw1 : IntKind.i64.wrap ((k : Int) + 1) = (k : Int) + 1 := by rw [IntKind.wrap_i64]; omega
 have hb1 : (0 : Int) ≤ (k : Int) + 1 := by omega
 have hb0 : (k : Int) + 1 ≤ (n : Int) + 1 := by omega
 have htn : ((k : Int) + 1).toNat = k + 1 := by omega
 have hb2 : ¬ (G = k + 1) := by omega
 have hb3 : (k : Int) ≤ (n : Int) := by omega
 have hb4 : ¬ (cap = k) := by omega
 have h81 : n + 1 - (k + 1) = n - k := by omega
 rw [h81] at q3
 clear h81
 go_region_law (refine step_copy_run rfl (.tmp 50) (.tmp 53) 24 rfl (v := .slice (some ⟨N,(k + 1) * 2,none⟩) (n - k) (G - (k + 1))) (xv := .slice (some ⟨g,k * 2,none⟩) (n - k) (cap - k)) (by simp [Act.eval,Act.put]) (by simp [Act.eval,Act.put]) q3 ?_)
 all_goals simp only [Exit.then]
 all_goals apply_assumption
 go_wp2
 go_ret
 exact Q.out
theorem insert_anyJ (B : Nat) (v : Value) (l : List XID) (k : Nat) (c : XID) (b : Nat) (W : World) (ho : OwnJ W B v l) (hx : Box W b (cellsJ c).toArray 31) (hne : v.ownBlock ≠ some b) (hk : k ≤ l.length) (hl : l.length ≤ 900) (hB : B ≤ W.heap.size) :
  Calls Tryz.prog 145 #[v,.int .i64 k,.slice (some ⟨b,0,none⟩) 1 1] W (InsQJ B l k c v W) := by
 rcases Nat.lt_or_ge k l.length with h | h
 ·rcases own_open ho with ⟨_,h2⟩ | ⟨g,cap,cur,rfl,h1,h2,h3,h4,h5,h6⟩
  ·rw [h2] at h; simp at h
  ·rcases Nat.lt_or_ge cap (l.length + 1) with h7 | h7
   ·exact insert_growJ B g _ cap cur l k c b W rfl h2 h4 h3 h6 hx h h7 hl hB
   ·exact insert_shiftJ B g _ cap cur l k c b W rfl h1 h2 h4 h5 h6 hx (fun e => hne (by simp [Value.ownBlock,e])) h h7 hl
 ·obtain rfl : k = l.length := by omega
  exact insert_endJ B v l c b W ho hx hl hB
def findA (l : List Ad) (x : XID) : Option Ad := l.find? fun a => decide (a.id = x)
theorem findA_none {l : List Ad} {x : XID} (h : ∀ (j : Nat) (a : Ad),l[j]? = some a → a.id ≠ x) : findA l x = none := by
 unfold findA
 rw [List.find?_eq_none]
 intro a ha
 obtain ⟨j,hj⟩ := List.mem_iff_getElem?.1 ha
 simpa using h j a hj
theorem findA_at : ∀ {l : List Ad} {x : XID} {k : Nat} {a : Ad},l[k]? = some a → a.id = x → (∀ (j : Nat) (z : Ad),j < k → l[j]? = some z → z.id ≠ x) → findA l x = some a
 | [],_,_,_,h,_,_ => by simp at h
 | b :: l,x,0,a,h,hx,_ => by
  obtain rfl : b = a := by simpa using h
  simp [findA,hx]
 | b :: l,x,k + 1,a,h,hx,hall => by
  have hb := hall 0 b (by omega) rfl
  have ih := findA_at (l := l) (x := x) (k := k) (a := a) (by simpa using h) hx fun j z hj hz => hall (j + 1) z (by omega) (by simpa using hz)
  unfold findA at *
  rw [List.find?_cons_of_neg (by simpa using hb)]
  exact ih
def FindQ (W : World) (o : Option Ad) (w : World) (e : Ending) (w' : World) : Prop := (match o with
 | none => e = .returned (.tuple #[valD (0,0,(none,0,0),0),.bool false])
 | some a => ∃ r : XAd,e = .returned (.tuple #[valD r,.bool true]) ∧ AdIn w' r a) ∧ Below W.heap.size w w'
theorem find_any (me : Int) (nv sv ev ov : Value) (av : Sl) (l : List XAd) (al : List Ad) (x : XID) (w : World) (hs : RowD w (slv av) l) (hA : All2 (AdIn w) l al) (hf : ∀ a ∈ al,a.p.length ≤ 900) :
  Calls Tryz.prog 29 #[.agg #[.int .i64 me,nv,slv av,sv,ev,ov],idv x] w (FindQ w (findA al x) w) := by
 obtain ⟨c,d⟩ := x
 obtain ⟨so,sn,sc⟩ := av
 obtain ⟨ao,ac,hv⟩ := hs.len
 have hv : Value.slice so sn sc = .slice ao l.length ac := hv
 obtain ⟨rfl,rfl,rfl⟩ : so = ao ∧ sn = l.length ∧ sc = ac := by simpa using hv
 obtain ⟨h0,h1,h2⟩ := two_new w #[.int .i64 me,nv,.slice so l.length sc,sv,ev,ov] #[.int .i64 c,.int .i64 d] 28 31
 have h3 := newB ((w.alloc (.cells #[.int .i64 me,nv,.slice so l.length sc,sv,ev,ov] 28)).alloc (.cells #[.int .i64 c,.int .i64 d] 31)) (.cells #[.int .i64 0,.int .i64 0,.slice none 0 0,.int .i64 0] 74)
 have h4 := box_new ((w.alloc (.cells #[.int .i64 me,nv,.slice so l.length sc,sv,ev,ov] 28)).alloc (.cells #[.int .i64 c,.int .i64 d] 31)) #[.int .i64 0,.int .i64 0,.slice none 0 0,.int .i64 0] 74
 have hsz : ((w.alloc (.cells #[.int .i64 me,nv,.slice so l.length sc,sv,ev,ov] 28)).alloc (.cells #[.int .i64 c,.int .i64 d] 31)).heap.size = w.heap.size + 1 + 1 := by simp
 rw [hsz] at h4
 have B := Lib.hid (h0.trans (h3.mono h0.size))
 have HS := Lib.hid (hs.on B.out)
 have HA := Lib.hid (hA.mono fun _ _ h => h.on B.out)
 have X2 := Lib.hid (h1.on h3)
 have X3 := Lib.hid (h2.on h3)
 have X4 := Lib.hid h4
 have HF := Lib.hid hf
 have lm := hs.most
 unfold maxLen at lm
 obtain ⟨n,hn⟩ : ∃ n,n = l.length := ⟨_,rfl⟩
 have q3 := X2.out.cell 2
 simp only [List.getElem?_toArray,List.getElem?_cons_zero,List.getElem?_cons_succ] at q3
 rw [← hn] at HS X2 X3 X4 HA lm q3 B ⊢
 have HN := Lib.hid hn.symm
 obtain ⟨fo,hfo⟩ : ∃ o,o = findA al (c,d) := ⟨_,rfl⟩
 rw [← hfo]
 have FO := Lib.hid hfo
 clear h0 h1 h2 h3 h4 hs hv hn hA hf hsz hfo
 go_enter Tryz.func29,Tryz.ntmps29
 go_upto_region 1 with fail
 generalize ((w.alloc (.cells #[.int .i64 me,nv,.slice so n sc,sv,ev,ov] 28)).alloc (.cells #[.int .i64 c,.int .i64 d] 31)).alloc (.cells #[.int .i64 0,.int .i64 0,.slice none 0 0,.int .i64 0] 74) = W at *
 go_wp2
 go_loopw [11] (fun i wr => ∃ k : Nat,k ≤ n ∧ i = .int .i64 k ∧ Below W.heap.size W wr ∧ ∀ (j : Nat) (y : XAd),j < k → l[j]? = some y → (y.1,y.2.1) ≠ (c,d)) (fun i _ => n - (intOf i).toNat)
 case atStart => exact ⟨0,Nat.zero_le _,rfl,Below.refl _ _,fun j y h => by omega⟩
 case round =>
  obtain ⟨k,hk,rfl,hbe,hall⟩ := hrel
  have BE := Lib.hid hbe
  have AL := Lib.hid hall
  clear hbe hall
  by_cases hlt : k < n
  ·obtain ⟨y,hy⟩ : ∃ y,l[k]? = some y := ⟨_,List.getElem?_eq_getElem (by rw [HN.out]; exact hlt)⟩
   obtain ⟨p,ix,px⟩ := elD HS.out rfl HN.out hy
   obtain ⟨p0,p1,p2,p3⟩ := px wr BE.out
   obtain ⟨y1,y2,⟨yo,yn,yc⟩,y4⟩ := y
   simp only at p0 p1 p2 p3
   have NB := Lib.hid (newB wr (.cells #[.int .i64 y1,.int .i64 y2,.slice yo yn yc,.int .i64 y4] 74))
   obtain ⟨x0,x1⟩ := ((X3.out.on BE.out).on NB.out).cs2
   have hw3 : IntKind.i64.wrap ((k : Int) + 1) = (k : Int) + 1 := IntWalk.i64_in _ (by omega)
   obtain ⟨r,hr⟩ : ∃ r,(y1 == c && y2 == d) = r := ⟨_,rfl⟩
   have he := eqId y1 y2 c d r hr
   have HY := Lib.hid hy
   have HR := Lib.hid hr
   clear px hy hr
   cases r
   ·go_wp2
    go_roundw
    case rel => exact ⟨k + 1,by omega,by go_num,BE.out.trans (NB.out.mono BE.out.size),fun j y' hj h1 => by
     rcases Nat.lt_or_ge j k with h3 | h3
     ·exact AL.out j y' h3 h1
     ·obtain rfl : j = k := by omega
      have e1 := HY.out
      rw [h1] at e1
      rw [Option.some.inj e1]
      intro e
      obtain ⟨rfl,rfl⟩ : y1 = c ∧ y2 = d := by simpa using e
      have := HR.out
      simp at this⟩
    case measure => simp [intOf]; omega
   ·obtain ⟨a,ha⟩ : ∃ a,al[k]? = some a := ⟨_,List.getElem?_eq_getElem (by rw [← HA.out.len,HN.out]; exact hlt)⟩
    obtain ⟨z,hz1,hz2⟩ := HA.out.at k a ha
    rw [HY.out] at hz1
    obtain rfl := Option.some.inj hz1
    have BA := Lib.hid (BE.out.trans (NB.out.mono BE.out.size))
    have C := Lib.hid (cpAd_any (y1,y2,(yo,yn,yc),y4) a.p _ (hz2.2.2.on BA.out) (HF.out a (List.mem_of_getElem? ha)))
    have HZ := Lib.hid hz2
    have h8 := HR.out
    obtain ⟨rfl,rfl⟩ : y1 = c ∧ y2 = d := by simpa using h8
    have FA := Lib.hid (show fo = some a by
     rw [FO.out]
     refine findA_at ha hz2.1.symm fun j z hj hzz => ?_
     obtain ⟨u,hu1,hu2⟩ := HA.out.at j z hzz
     rw [← hu2.1]
     exact AL.out j u hj hu1)
    have X4a := (X4.out.on BE.out).on NB.out
    clear hz1 hz2 ha h8
    go_wp2_with fail
    refine C.out.mono ?_
    rintro e w1 ⟨⟨⟨u1,u2,u3⟩,rfl,ho⟩,hb⟩
    have Y1 := X4a.on hb
    have B1 := Lib.hid (BA.out.trans (hb.mono BA.out.size))
    obtain ⟨r0,r1,r2,r3⟩ := Y1.cs4
    obtain ⟨t0,t1,t2,t3⟩ := Y1.fs4
    have zz := Y1.lt
    have hs2 : w.heap.size + 1 + 1 < (wr.alloc (.cells #[.int .i64 y1,.int .i64 y2,.slice yo yn yc,.int .i64 y4] 74)).heap.size := X4a.lt
    have FB := Lib.hid (setD_box Y1 (.int .i64 y1) (.int .i64 y2) (.slice u1 u2 u3) (.int .i64 y4))
    have BL := Lib.hid (setD_below (b := w.heap.size + 1 + 1) (B.out.trans (B1.out.mono B.out.size)) (by omega) (.int .i64 y1) (.int .i64 y2) (.slice u1 u2 u3) (.int .i64 y4))
    have FW := Lib.hid (setD_own ho (w.heap.size + 1 + 1) hs2 (.int .i64 y1) (.int .i64 y2) (.slice u1 u2 u3) (.int .i64 y4))
    clear Y1 ho hb hs2 X4a
    go_wp2_with fail
    obtain ⟨v0,v1,v2,v3⟩ := FB.out.cs4
    refine bodyPost_ret (v := .tuple #[.agg #[.int .i64 y1,.int .i64 y2,.slice u1 u2 u3,.int .i64 y4],.bool true]) (by simp [results,Tryz.results29,go_sem,v0,v1,v2,v3]) rfl ?_
    rw [FA.out]
    exact ⟨⟨(y1,y2,(u1,u2,u3),y4),rfl,HZ.out.1,HZ.out.2.1,Row.of_own FW.out⟩,BL.out⟩
  ·obtain rfl : k = n := by omega
   have FA := Lib.hid (show fo = none by
    rw [FO.out]
    refine findA_none fun j z hzz => ?_
    obtain ⟨u,hu1,hu2⟩ := HA.out.at j z hzz
    rw [← hu2.1]
    exact AL.out j u (by rw [← HN.out]; exact (List.getElem?_eq_some_iff.1 hu1).1) hu1)
   have Y1 := X4.out.on BE.out
   obtain ⟨r0,r1,r2,r3⟩ := Y1.cs4
   obtain ⟨t0,t1,t2,t3⟩ := Y1.fs4
   have zz := Y1.lt
   have FB := Lib.hid (setD_box Y1 (.int .i64 0) (.int .i64 0) (.slice none 0 0) (.int .i64 0))
   have BL := Lib.hid (setD_below (b := w.heap.size + 1 + 1) (B.out.trans (BE.out.mono B.out.size)) (by omega) (.int .i64 0) (.int .i64 0) (.slice none 0 0) (.int .i64 0))
   clear Y1
   go_wp2_with fail
   obtain ⟨v0,v1,v2,v3⟩ := FB.out.cs4
   refine bodyPost_ret (v := .tuple #[.agg #[.int .i64 0,.int .i64 0,.slice none 0 0,.int .i64 0],.bool false]) (by simp [results,Tryz.results29,go_sem,v0,v1,v2,v3]) rfl ?_
   rw [FA.out]
   exact ⟨rfl,BL.out⟩
end Go.Proofs.YtmklifheakemeaaGreat.Av
