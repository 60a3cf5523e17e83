/-
  The order of IDs: Less, inAdverts, inOwns. Conditions as told.
-/
import Derived.Test.YtncogjpmboglhaaGreatG009
import Derived.Test.YtncogjpmboglhaaGreatG004
import Derived.Deep.RegionLaw
import Derived.Lib.QuietBelow
import Derived.BigQuiet
import Derived.Test.YtncogjpmboglhaaGreatG010
import Derived.Deep.LoopGhost
import Derived.Test.YtncogjpmboglhaaGreatG012
set_option maxRecDepth 100000
set_option maxHeartbeats 64000000
namespace Go.Proofs.YtncogjpmboglhaaGreat.Av
open Go.RowKit Go.Sort Rw YtncogjpmboglhaaGreat.Nm Pr Bk
theorem aless_any (x y : XID) (w : World) : Calls Tryz.prog 117 #[idv x,idv y] w fun e w' => e = .returned (.bool (lessI x y)) ∧ Below w.heap.size w w' := by
 have C := byID_any x y
 have R := Lib.hid (show decide (cmpJ x y < 0) = lessI x y from by
  have h := cmpJ_neg x y
  cases hl : lessI x y
  ·rw [hl] at h; simp at h; simpa using h
  ·rw [hl] at h; simp at h; simpa using h)
 obtain ⟨a,b⟩ := x
 obtain ⟨c,d⟩ := y
 obtain ⟨h0,X,Y⟩ := two_new w #[.int .i64 a,.int .i64 b] #[.int .i64 c,.int .i64 d] 38 38
 obtain ⟨x0,x1⟩ := X.cs2
 obtain ⟨y0,y1⟩ := Y.cs2
 have B := Lib.hid h0
 generalize cmpJ (a,b) (c,d) = r at *
 generalize lessI (a,b) (c,d) = s at *
 clear X Y h0
 go_enter Tryz.func117,Tryz.ntmps117
 go_wp2_with fail
 have C := C ((w.alloc (.cells #[.int .i64 a,.int .i64 b] 38)).alloc (.cells #[.int .i64 c,.int .i64 d] 38))
 refine C.mono ?_
 rintro e w1 ⟨rfl,hb⟩
 go_wp2
 go_ret
 exact ⟨by have h := R.out; subst h; rfl,B.out.trans (hb.mono B.out.size)⟩
theorem inAdv_any (x y : XAd) (w : World) : Calls Tryz.prog 41 #[valD x,valD y] w fun e w' => e = .returned (.int .i64 (cmpJ (x.1,x.2.1) (y.1,y.2.1))) ∧ Below w.heap.size w w' := by
 obtain ⟨a,b,⟨s1,s2,s3⟩,p⟩ := x
 obtain ⟨c,d,⟨t1,t2,t3⟩,q⟩ := y
 have C := byID_any (a,b) (c,d)
 obtain ⟨h0,X,Y⟩ := two_new w #[.int .i64 a,.int .i64 b,.slice s1 s2 s3,.int .i64 p] #[.int .i64 c,.int .i64 d,.slice t1 t2 t3,.int .i64 q] 41 41
 have x1 := X.cell 1
 have x0 := X.cell 0
 have y1 := Y.cell 1
 have y0 := Y.cell 0
 simp only [List.getElem?_toArray,List.getElem?_cons_zero,List.getElem?_cons_succ] at x0 x1 y0 y1
 have B := Lib.hid h0
 generalize cmpJ (a,b) (c,d) = r at *
 clear X Y h0
 go_enter Tryz.func41,Tryz.ntmps41
 go_wp2_with fail
 have C := C ((w.alloc (.cells #[.int .i64 a,.int .i64 b,.slice s1 s2 s3,.int .i64 p] 41)).alloc (.cells #[.int .i64 c,.int .i64 d,.slice t1 t2 t3,.int .i64 q] 41))
 refine C.mono ?_
 rintro e w1 ⟨rfl,hb⟩
 go_wp2
 go_ret
 exact ⟨rfl,B.out.trans (hb.mono B.out.size)⟩
theorem inOwn_any (x y : XOw) (w : World) : Calls Tryz.prog 45 #[valW x,valW y] w fun e w' => e = .returned (.int .i64 (cmpJ (x.1,x.2.1) (y.1,y.2.1))) ∧ Below w.heap.size w w' := by
 obtain ⟨a,b,⟨s1,s2,s3⟩⟩ := x
 obtain ⟨c,d,⟨t1,t2,t3⟩⟩ := y
 have C := byID_any (a,b) (c,d)
 obtain ⟨h0,X,Y⟩ := two_new w #[.int .i64 a,.int .i64 b,.slice s1 s2 s3] #[.int .i64 c,.int .i64 d,.slice t1 t2 t3] 45 45
 have x1 := X.cell 1
 have x0 := X.cell 0
 have y1 := Y.cell 1
 have y0 := Y.cell 0
 simp only [List.getElem?_toArray,List.getElem?_cons_zero,List.getElem?_cons_succ] at x0 x1 y0 y1
 have B := Lib.hid h0
 generalize cmpJ (a,b) (c,d) = r at *
 clear X Y h0
 go_enter Tryz.func45,Tryz.ntmps45
 go_wp2_with fail
 have C := C ((w.alloc (.cells #[.int .i64 a,.int .i64 b,.slice s1 s2 s3] 45)).alloc (.cells #[.int .i64 c,.int .i64 d,.slice t1 t2 t3] 45))
 refine C.mono ?_
 rintro e w1 ⟨rfl,hb⟩
 go_wp2
 go_ret
 exact ⟨rfl,B.out.trans (hb.mono B.out.size)⟩
theorem isNaN2_any (a : Int) (w : World) : Calls Tryz.prog 159 #[.int .i64 a] w fun e w' => e = .returned (.bool false) ∧ w' = w := by
 go_enter Tryz.func159,Tryz.ntmps159
 go_wp2
 go_ret
 exact ⟨by simp,rfl⟩
theorem less2_any (a b : Int) (r : Bool) (hr : decide (a < b) = r) (w : World) : Calls Tryz.prog 144 #[.int .i64 a,.int .i64 b] w fun e w' => e = .returned (.bool r) ∧ w' = w := by
 go_enter Tryz.func144,Tryz.ntmps144
 go_wp2_with (go_at_call 103; refine (isNaN_any _ _).mono ?_; rintro e w' ⟨rfl,rfl⟩)
 go_ret
 exact ⟨by first | rfl | (subst hr; rfl),rfl⟩
theorem bsI_any (v : Value) (l : List Int) (t : Int) (w : World) (hv : RowI w v l) (hs : l.Pairwise (· ≤ ·)) (hl : l.length ≤ 900) :
  Calls Tryz.prog 134 #[v,.int .i64 t] w fun e w' => (∃ k : Nat,e = .returned (.tuple #[.int .i64 k,.bool (decide (t ∈ l))])) ∧ w' = w := by
 have HL := Lib.hid hv
 have HS := Lib.hid (List.pairwise_iff_getElem.1 hs)
 obtain ⟨ao,ac,rfl⟩ := hv.len
 obtain ⟨n,hn⟩ : ∃ n,n = l.length := ⟨_,rfl⟩
 rw [← hn] at HL hl ⊢
 have HN := Lib.hid hn
 obtain ⟨th,ht⟩ : ∃ k,k = decide (t ∈ l) := ⟨_,rfl⟩
 rw [← ht]
 have HT := Lib.hid ht
 clear hv hs hn ht
 go_enter Tryz.func134,Tryz.ntmps134
 go_wp2
 go_loopg [7,8] n (fun kx s7 s8 wr => ∃ lo hi : Nat,s7 = .int .i64 lo ∧ s8 = .int .i64 hi ∧ lo ≤ hi ∧ hi ≤ n ∧ hi - lo ≤ kx ∧ RowKit.Hid (wr = w) ∧
  (∀ (j : Nat) (y : Int),j < lo → l[j]? = some y → y < t) ∧ (∀ (j : Nat) (y : Int),hi ≤ j → l[j]? = some y → t ≤ y))
 case atStart => exact ⟨0,n,rfl,rfl,Nat.zero_le _,Nat.le_refl _,by omega,by first | exact Lib.hid rfl | exact Lib.hid trivial,fun j y h => by omega,fun j y h1 h2 => by have := (List.getElem?_eq_some_iff.1 h2).1; have := HN.out; omega⟩
 case round =>
  obtain ⟨lo,hi,rfl,rfl,hlh,hin,hg,hw,ha,hz⟩ := hrel
  obtain rfl := hw.out
  clear hw
  have AL := Lib.hid ha
  have ZL := Lib.hid hz
  clear ha hz
  by_cases hlt : lo < hi
  ·obtain ⟨y,hy⟩ : ∃ y,l[(lo + hi) / 2]? = some y := ⟨_,List.getElem?_eq_getElem (by have := HN.out; omega)⟩
   obtain ⟨p,ix,_,px⟩ := elI HL.out rfl HN.out.symm hy
   have p0 := px wr (Below.refl _ _)
   have Y := Lib.hid hy
   have e23 : ((lo : Int) + (hi : Int)) / 2 = (((lo + hi) / 2 : Nat) : Int) := by omega
   generalize hm : (lo + hi) / 2 = m at *
   have hcmp : ∀ (i j : Nat) (a b : Int),i ≤ j → l[i]? = some a → l[j]? = some b → a ≤ b := by
    intro i j a b hij h1 h2
    obtain ⟨q1,rfl⟩ := List.getElem?_eq_some_iff.1 h1
    obtain ⟨q2,rfl⟩ := List.getElem?_eq_some_iff.1 h2
    rcases Nat.lt_or_ge i j with h | h
    ·exact HS.out i j q1 q2 h
    ·obtain rfl : i = j := by omega
     exact Int.le_refl _
   have CM := Lib.hid hcmp
   clear px hy hcmp
   by_cases hneg : y < t
   ·have C := less2_any y t true (by simpa using hneg)
    go_wp2_with fail
    refine (C _).mono ?_
    rintro e w' ⟨rfl,rfl⟩
    clear C ix p0
    go_wp2
    go_roundg (hi - (m + 1))
    case measure => omega
    case rel => exact ⟨m + 1,hi,by go_num,rfl,by omega,hin,Nat.le_refl _,by first | exact Lib.hid rfl | exact Lib.hid trivial,fun j z h1 h2 => by
     have := CM.out j m z y (by omega) h2 Y.out
     omega,ZL.out⟩
   ·have C := less2_any y t false (by simp; omega)
    go_wp2_with fail
    refine (C _).mono ?_
    rintro e w' ⟨rfl,rfl⟩
    clear C ix p0
    go_wp2
    go_roundg (m - lo)
    case measure => omega
    case rel => exact ⟨lo,m,rfl,rfl,by omega,by omega,Nat.le_refl _,by first | exact Lib.hid rfl | exact Lib.hid trivial,AL.out,fun j z h1 h2 => by
     have := CM.out m j y z h1 Y.out h2
     omega⟩
  ·obtain rfl : hi = lo := by omega
   have memk : ∀ x,l[hi]? = some x → (t ∈ l ↔ x = t) := by
    intro x hx
    constructor
    ·intro hm
     obtain ⟨j,hj,rfl⟩ := List.mem_iff_getElem.1 hm
     have h1 := ZL.out hi x (Nat.le_refl _) hx
     obtain ⟨q1,rfl⟩ := List.getElem?_eq_some_iff.1 hx
     rcases Nat.lt_trichotomy j hi with h | h | h
     ·have := AL.out j _ h (List.getElem?_eq_getElem hj); omega
     ·subst h; rfl
     ·have := HS.out hi j q1 hj h; omega
    ·rintro rfl
     exact List.mem_of_getElem? hx
   by_cases hn : hi < n
   ·obtain ⟨x,hx⟩ : ∃ x,l[hi]? = some x := ⟨_,List.getElem?_eq_getElem (by have := HN.out; omega)⟩
    obtain ⟨p,ix,_,px⟩ := elI HL.out rfl HN.out.symm hx
    have p0 := px wr (Below.refl _ _)
    have g4 : decide ((hi : Int) < (n : Int)) = true := by simp; omega
    have MK := memk x hx
    clear memk px
    by_cases he : x = t
    ·have TH := Lib.hid (show th = true by rw [HT.out,decide_eq_true (MK.2 he)])
     have g5 : (x == t) = true := by simp [he]
     clear hx MK he hlt
     go_wp2_with (go_at_call 159; refine (isNaN2_any _ _).mono ?_; rintro e w' ⟨rfl,rfl⟩)
     go_ret2
     exact ⟨⟨hi,by rw [TH.out]; rfl⟩,rfl⟩
    ·have TH := Lib.hid (show th = false by rw [HT.out,decide_eq_false (fun h => he (MK.1 h))])
     have g5 : (x == t) = false := by simp [he]
     clear hx MK he hlt
     go_wp2_with (go_at_call 159; refine (isNaN2_any _ _).mono ?_; rintro e w' ⟨rfl,rfl⟩)
     go_ret2
     exact ⟨⟨hi,by rw [TH.out]; rfl⟩,rfl⟩
   ·have TH := Lib.hid (show th = false by
     rw [HT.out]
     refine decide_eq_false fun hm => ?_
     obtain ⟨j,hj,hjt⟩ := List.mem_iff_getElem.1 hm
     have := AL.out j _ (by have := HN.out; omega) (List.getElem?_eq_getElem hj)
     omega)
    have g4 : decide ((hi : Int) < (n : Int)) = false := by simp; omega
    clear hlt memk
    go_wp2_with fail
    go_ret2
    exact ⟨⟨hi,by rw [TH.out]; rfl⟩,rfl⟩
def comesB (near : List Int) (f : Int) : Bool := decide (f ∈ near) || f == -1
theorem comes_any (me : Int) (nv : Sl) (z2 z3 z4 z5 : Value) (l : List Int) (f : Int) (w : World) (hn : RowI w (slv nv) l) (hs : l.Pairwise (· ≤ ·)) (hl : l.length ≤ 900) :
  Calls Tryz.prog 106 #[.agg #[.int .i64 me,slv nv,z2,z3,z4,z5],.int .i64 f] w fun e w' => e = .returned (.bool (comesB l f)) ∧ Below w.heap.size w w' := by
 obtain ⟨o1,n1,c1⟩ := nv
 have n0 := newB w (.cells #[.int .i64 me,.slice o1 n1 c1,z2,z3,z4,z5] 31)
 have X := box_new w #[.int .i64 me,.slice o1 n1 c1,z2,z3,z4,z5] 31
 have C := Lib.hid (bsI_any (.slice o1 n1 c1) l f _ (hn.on n0) hs hl)
 have x1 := X.cell 1
 simp only [List.getElem?_toArray,List.getElem?_cons_zero,List.getElem?_cons_succ] at x1
 have R := Lib.hid (show comesB l f = (decide (f ∈ l) || f == -1) from rfl)
 generalize comesB l f = res at *
 generalize decide (f ∈ l) = r at *
 have B0 := Lib.hid n0
 obtain ⟨q,hq⟩ : ∃ q,(f == -1) = q := ⟨_,rfl⟩
 rw [hq] at R
 clear n0 X hn hs hl
 go_enter Tryz.func106,Tryz.ntmps106
 go_wp2_with fail
 refine C.out.mono ?_
 rintro e w1 ⟨⟨k,rfl⟩,rfl⟩
 cases r
 ·go_wp2_with fail
  go_ret
  exact ⟨by rw [R.out]; rfl,B0.out⟩
 ·go_wp2_with fail
  go_ret
  exact ⟨by rw [R.out]; rfl,B0.out⟩
def RiseK {α : Type} (key : α → XID) (l : List α) : Prop := l.Pairwise fun a b => lessI (key a) (key b) = true
def placeK {α : Type} (key : α → XID) (l : List α) (x : XID) : Nat := (l.takeWhile fun a => lessI (key a) x).length
def thereK {α : Type} (key : α → XID) (l : List α) (x : XID) : Bool := match l[placeK key l x]? with
 | some y => decide (key y = x)
 | none => false
theorem placeK_map {α : Type} (key : α → XID) (l : List α) (x : XID) : placeK key l x = placeI (l.map key) x := by
 unfold placeK placeI
 rw [List.takeWhile_map,List.length_map]
 rfl
theorem placeK_is {α : Type} (key : α → XID) (l : List α) (x : XID) (k : Nat) (hall : ∀ (j : Nat) (y : α),j < k → l[j]? = some y → lessI (key y) x = true) (hend : k = l.length ∨ ∃ y,l[k]? = some y ∧ lessI (key y) x = false) : placeK key l x = k := by
 rw [placeK_map]
 refine place_is _ _ k (fun j y hj h => ?_) ?_
 ·rw [List.getElem?_map] at h
  cases hy : l[j]? with
  | none => rw [hy] at h; cases h
  | some z => rw [hy] at h; rw [← Option.some.inj h]; exact hall j z hj hy
 ·rcases hend with h | ⟨y,h1,h2⟩
  ·exact Or.inl (by rw [List.length_map]; exact h)
  ·exact Or.inr ⟨key y,by rw [List.getElem?_map,h1]; rfl,h2⟩
theorem riseK_lt {α : Type} {key : α → XID} {l : List α} (h : RiseK key l) {i j : Nat} {x y : α} (hij : i < j) (hx : l[i]? = some x) (hy : l[j]? = some y) : lessI (key x) (key y) = true := by
 obtain ⟨h1,rfl⟩ := List.getElem?_eq_some_iff.1 hx
 obtain ⟨h2,rfl⟩ := List.getElem?_eq_some_iff.1 hy
 exact List.pairwise_iff_getElem.1 h i j h1 h2 hij
theorem cmpJ_less (x y : XID) : decide (cmpJ x y < 0) = lessI x y := by
 have h := cmpJ_neg x y
 cases hl : lessI x y
 ·rw [hl] at h; simp at h; simpa using h
 ·rw [hl] at h; simp at h; simpa using h
theorem thereK_in {α : Type} {key : α → XID} {l : List α} (h : RiseK key l) (x : XID) : thereK key l x = decide (x ∈ l.map key) := by
 unfold thereK
 have hp : placeK key l x ≤ l.length := by rw [placeK_map]; exact Nat.le_trans (place_le _ _) (by simp)
 have hlo : ∀ (j : Nat) (y : α),j < placeK key l x → l[j]? = some y → lessI (key y) x = true := by
  intro j y hj hy
  have ht : (l.takeWhile fun a => lessI (key a) x)[j]? = some y := by
   have := List.takeWhile_prefix (fun a => lessI (key a) x) (l := l)
   obtain ⟨t,ht⟩ := this
   rw [← ht,List.getElem?_append_left hj] at hy
   exact hy
  exact List.all_eq_true.1 List.all_takeWhile y (List.mem_of_getElem? ht)
 have hhi : ∀ (y : α),l[placeK key l x]? = some y → lessI (key y) x = false := by
  intro y hy
  unfold placeK at hy
  cases hq : lessI (key y) x with
  | false => rfl
  | true =>
   exfalso
   have : ∀ (m : List α),m[(m.takeWhile fun a => lessI (key a) x).length]? = some y → False := by
    intro m
    induction m with
    | nil => intro h; simp at h
    | cons a m ih =>
     intro h
     by_cases ha : lessI (key a) x = true
     ·exact ih (by simpa [List.takeWhile_cons,ha] using h)
     ·simp [ha] at h
      subst h
      exact ha hq
   exact this l hy
 cases hy : l[placeK key l x]? with
 | none =>
  symm
  rw [decide_eq_false_iff_not]
  intro hm
  obtain ⟨z,hz,hzx⟩ := List.mem_map.1 hm
  obtain ⟨j,hj⟩ := List.mem_iff_getElem?.1 hz
  have hjl := (List.getElem?_eq_some_iff.1 hj).1
  have hpl : l.length ≤ placeK key l x := by
   rcases Nat.lt_or_ge (placeK key l x) l.length with h0 | h0
   ·rw [List.getElem?_eq_getElem h0] at hy; cases hy
   ·exact h0
  have := hlo j z (by omega) hj
  rw [hzx,lessI_irr] at this
  cases this
 | some y =>
  simp only
  by_cases hk : key y = x
  ·rw [decide_eq_true hk]
   symm
   rw [decide_eq_true_eq]
   exact List.mem_map.2 ⟨y,List.mem_of_getElem? hy,hk⟩
  ·rw [decide_eq_false hk]
   symm
   rw [decide_eq_false_iff_not]
   intro hm
   obtain ⟨z,hz,hzx⟩ := List.mem_map.1 hm
   obtain ⟨j,hj⟩ := List.mem_iff_getElem?.1 hz
   rcases Nat.lt_trichotomy j (placeK key l x) with h1 | h1 | h1
   ·have := hlo j z h1 hj
    rw [hzx,lessI_irr] at this
    cases this
   ·subst h1
    rw [hy] at hj
    rw [Option.some.inj hj] at hk
    exact hk hzx
   ·have h3 := riseK_lt h h1 hy hj
    have h4 := hhi y hy
    rw [hzx] at h3
    rw [h3] at h4
    cases h4
def cp1V (B : Nat) (b1 : Nat) (_me : Int) (_z2 _z4 _z5 : Value) (o1 : Option Addr) (n1 c1 : Nat) (nl : List Int) (o3 : Option Addr) (n3 c3 : Nat) (sl : List XID) (i : Nat) (v : Value) (x : World) : Prop :=
 match i with
 | 0 => v = .pointer (some ⟨b1,1,none⟩)
 | 1 => v = .slice o1 n1 c1
 | 2 => ∃ s : Sl,v = slv s ∧ OwnI x B v nl
 | 3 => v = .pointer (some ⟨b1,3,none⟩)
 | 4 => v = .slice o3 n3 c3
 | 5 => ∃ s : Sl,v = slv s ∧ OwnJ x B v sl
 | 6 => v = .pointer (some ⟨b1,1,none⟩)
 | _ => True
noncomputable def cp1C : Code := ((Tryz.f76.body.bind (findRegion 1)).getD .skip)
theorem cp1V_on (B : Nat) (b1 : Nat) (me : Int) (z2 z4 z5 : Value) (o1 : Option Addr) (n1 c1 : Nat) (nl : List Int) (o3 : Option Addr) (n3 c3 : Nat) (sl : List XID) (i : Nat) (v : Value) (x x' : World) (h : cp1V B b1 me z2 z4 z5 o1 n1 c1 nl o3 n3 c3 sl i v x) (hb : Below x.heap.size x x') : cp1V B b1 me z2 z4 z5 o1 n1 c1 nl o3 n3 c3 sl i v x' := by
 by_cases hi : i < 7
 ·rcases (by omega : i = 0 ∨ i = 1 ∨ i = 2 ∨ i = 3 ∨ i = 4 ∨ i = 5 ∨ i = 6) with rfl | rfl | rfl | rfl | rfl | rfl | rfl
  ·exact h
  ·exact h
  ·obtain ⟨s,h1,h2⟩ := h; exact ⟨s,h1,Bk.own_on h2 hb⟩
  ·exact h
  ·exact h
  ·obtain ⟨s,h1,h2⟩ := h; exact ⟨s,h1,Bk.own_on h2 hb⟩
  ·exact h
 ·unfold cp1V
  split <;> first | omega | trivial
theorem cp1 (Q : Exit → Act → World → Prop) (W : World) (b1 : Nat) (me : Int) (z2 z4 z5 : Value) (o1 : Option Addr) (n1 c1 : Nat) (nl : List Int) (o3 : Option Addr) (n3 c3 : Nat) (sl : List XID) (u0 u2 u3 u4 u5 u6 u7 u8 u9 u10 u11 u12 u13 u14 u15 u16 u17 u18 u19 u20 u21 u22 u23 u24 u25 u26 u27 u28 u29 u30 u31 u32 u33 u34 u35 u36 u37 u38 u39 u40 u41 u42 u43 u44 u45 u46 u47 u48 u49 u50 u51 u52 u53 u54 u55 u56 u57 u58 u59 u60 u61 u62 u63 u64 u65 u66 u67 u68 u69 u70 u71 u72 u73 u74 u75 u76 u77 u78 u79 u80 u81 : Value)
  (h1 : Box W b1 #[.int .i64 me,.slice o1 n1 c1,z2,.slice o3 n3 c3,z4,z5] 31) (r1 : RowI W (.slice o1 n1 c1) nl) (r3 : RowJ W (.slice o3 n3 c3) sl) (l1 : nl.length ≤ 900) (l3 : sl.length ≤ 900)
  (hQ : ∀ (x : World) (v6 v7 v8 v9 v10 v11 v12 v13 : Value) (p1 : Option Addr) (q1 s1 : Nat) (p3 : Option Addr) (q3 s3 : Nat),Box x b1 #[.int .i64 me,.slice p1 q1 s1,z2,.slice p3 q3 s3,z4,z5] 31 → OwnI x W.heap.size (.slice p1 q1 s1) nl → OwnJ x W.heap.size (.slice p3 q3 s3) sl → (∀ B,B ≤ b1 → Below B W x) → (∀ k,k < W.heap.size → k ≠ b1 → x.heap[k]? = W.heap[k]?) → Q .normal ⟨(u0 :: .pointer (some ⟨b1,0,none⟩) :: u2 :: u3 :: u4 :: u5 :: v6 :: v7 :: v8 :: v9 :: v10 :: v11 :: v12 :: v13 :: u14 :: u15 :: u16 :: u17 :: u18 :: u19 :: u20 :: u21 :: u22 :: u23 :: u24 :: u25 :: u26 :: u27 :: u28 :: u29 :: u30 :: u31 :: u32 :: u33 :: u34 :: u35 :: u36 :: u37 :: u38 :: u39 :: u40 :: u41 :: u42 :: u43 :: u44 :: u45 :: u46 :: u47 :: u48 :: u49 :: u50 :: u51 :: u52 :: u53 :: u54 :: u55 :: u56 :: u57 :: u58 :: u59 :: u60 :: u61 :: u62 :: u63 :: u64 :: u65 :: u66 :: u67 :: u68 :: u69 :: u70 :: u71 :: u72 :: u73 :: u74 :: u75 :: u76 :: u77 :: u78 :: u79 :: u80 :: u81 :: []).toArray,[]⟩ x) :
  Code.wp Tryz.prog cp1C Q ⟨(u0 :: .pointer (some ⟨b1,0,none⟩) :: u2 :: u3 :: u4 :: u5 :: u6 :: u7 :: u8 :: u9 :: u10 :: u11 :: u12 :: u13 :: u14 :: u15 :: u16 :: u17 :: u18 :: u19 :: u20 :: u21 :: u22 :: u23 :: u24 :: u25 :: u26 :: u27 :: u28 :: u29 :: u30 :: u31 :: u32 :: u33 :: u34 :: u35 :: u36 :: u37 :: u38 :: u39 :: u40 :: u41 :: u42 :: u43 :: u44 :: u45 :: u46 :: u47 :: u48 :: u49 :: u50 :: u51 :: u52 :: u53 :: u54 :: u55 :: u56 :: u57 :: u58 :: u59 :: u60 :: u61 :: u62 :: u63 :: u64 :: u65 :: u66 :: u67 :: u68 :: u69 :: u70 :: u71 :: u72 :: u73 :: u74 :: u75 :: u76 :: u77 :: u78 :: u79 :: u80 :: u81 :: []).toArray,[]⟩ W := by
 have HQ := Lib.hid hQ
 have H1 := Lib.hid h1
 have R1 := Lib.hid r1
 have R3 := Lib.hid r3
 have L1 := Lib.hid l1
 have L3 := Lib.hid l3
 clear hQ h1 r1 r3 l1 l3
 have stab := cp1V_on W.heap.size b1 me z2 z4 z5 o1 n1 c1 nl o3 n3 c3 sl
 unfold cp1C
 conv => arg 2; whnf
 have nd : ∀ j,(j < 6 ∨ 13 ≤ j) → ∀ i,i < 7 → (fun i => 6 + i) i ≠ j := by
  intro j hj i hi h
  simp only at h
  omega
 refine Rg.region_live 10 7 (fun i => 6 + i) (fun _ => 7) (cp1V W.heap.size b1 me z2 z4 z5 o1 n1 c1 nl o3 n3 c3 sl) (by kernel_rfl) (by kernel_rfl) rfl (by decide) (fun i j _ _ h => by have h2 : 6 + i = 6 + j := h; omega) (fun i hi => by show 6 + i < 82; omega) ?_ (fun _ => Rg.hall_of 14 (by kernel_rfl)) ?_ ?_
 ·intro i o hi ho a x D hnd hc hD hb seen K hK
  clear HQ
  rcases (by omega : i = 0 ∨ i = 1 ∨ i = 2 ∨ i = 3 ∨ i = 4 ∨ i = 5 ∨ i = 6) with rfl | rfl | rfl | rfl | rfl | rfl | rfl
  ·obtain rfl := Option.some.inj ho
   have e1 : a.eval (.tmp 1) = .pointer (some ⟨b1,0,none⟩) := seen.kp 1 _ (nd 1 (by omega)) rfl
   exact Rg.op_value rfl rfl (Rg.ex_field a.eval _ 31 (.tmp 1) 1 rfl (by rw [e1]; simp [go_sem])) (hK _ _ rfl (Below.refl _ _) fun _ _ _ _ _ _ _ h => h)
  ·obtain rfl := Option.some.inj ho
   have e6 : a.eval (.tmp 6) = .pointer (some ⟨b1,1,none⟩) := seen.at_ ⟨0,.data⟩ (by simp) rfl (Or.inr (by decide))
   have y1 := (H1.out.on hb).cell 1
   simp only [List.getElem?_toArray,List.getElem?_cons_zero,List.getElem?_cons_succ] at y1
   exact Rg.op_value rfl rfl (Rg.ex_load a.eval _ 25 (.tmp 6) rfl (by rw [e6]; simp [go_sem,y1])) (hK _ _ rfl (Below.refl _ _) fun _ _ _ _ _ _ _ h => h)
  ·obtain rfl := Option.some.inj ho
   have e7 : a.eval (.tmp 7) = .slice o1 n1 c1 := seen.at_ ⟨1,.data⟩ (by simp) rfl (Or.inr (by decide))
   exact Rg.op_call rfl rfl (Rw.ex_call1 a.eval _ (.tmp 7) 25 65 rfl e7 rfl _ (call_fn Tryz.func65 rfl rfl _ _)) (cloneI_any (o1,n1,c1) nl x (R1.out.on hb) L1.out) fun e w1 h => by
    obtain ⟨⟨s,rfl,h1⟩,h3⟩ := h
    exact ⟨_,rfl,hK _ _ ⟨s,rfl,own_fewer h1 hb.size⟩ (h3.mono hb.size) fun j u hj _ _ _ hne h => stab j u _ _ h h3⟩
  ·obtain rfl := Option.some.inj ho
   have e1 : a.eval (.tmp 1) = .pointer (some ⟨b1,0,none⟩) := seen.kp 1 _ (nd 1 (by omega)) rfl
   exact Rg.op_value rfl rfl (Rg.ex_field a.eval _ 31 (.tmp 1) 3 rfl (by rw [e1]; simp [go_sem])) (hK _ _ rfl (Below.refl _ _) fun _ _ _ _ _ _ _ h => h)
  ·obtain rfl := Option.some.inj ho
   have e9 : a.eval (.tmp 9) = .pointer (some ⟨b1,3,none⟩) := seen.at_ ⟨3,.data⟩ (by simp) rfl (Or.inr (by decide))
   have y3 := (H1.out.on hb).cell 3
   simp only [List.getElem?_toArray,List.getElem?_cons_zero,List.getElem?_cons_succ] at y3
   exact Rg.op_value rfl rfl (Rg.ex_load a.eval _ 27 (.tmp 9) rfl (by rw [e9]; simp [go_sem,y3])) (hK _ _ rfl (Below.refl _ _) fun _ _ _ _ _ _ _ h => h)
  ·obtain rfl := Option.some.inj ho
   have e10 : a.eval (.tmp 10) = .slice o3 n3 c3 := seen.at_ ⟨4,.data⟩ (by simp) rfl (Or.inr (by decide))
   exact Rg.op_call rfl rfl (Rw.ex_call1 a.eval _ (.tmp 10) 27 122 rfl e10 rfl _ (call_fn Tryz.func122 rfl rfl _ _)) (cloneJ_any (o3,n3,c3) sl x (R3.out.on hb) L3.out) fun e w1 h => by
    obtain ⟨⟨s,rfl,h1⟩,h3⟩ := h
    exact ⟨_,rfl,hK _ _ ⟨s,rfl,own_fewer h1 hb.size⟩ (h3.mono hb.size) fun j u hj _ _ _ hne h => stab j u _ _ h h3⟩
  ·obtain rfl := Option.some.inj ho
   have e1 : a.eval (.tmp 1) = .pointer (some ⟨b1,0,none⟩) := seen.kp 1 _ (nd 1 (by omega)) rfl
   exact Rg.op_value rfl rfl (Rg.ex_field a.eval _ 31 (.tmp 1) 1 rfl (by rw [e1]; simp [go_sem])) (hK _ _ rfl (Below.refl _ _) fun _ _ _ _ _ _ _ h => h)
 ·intro kk o h1 h2 ho
  rcases (by omega : kk = 8 ∨ kk = 9) with rfl | rfl
  ·obtain rfl := Option.some.inj ho
   exact ⟨⟨7,.phase⟩,by simp,rfl,rfl⟩
  ·obtain rfl := Option.some.inj ho
   exact ⟨⟨8,.data⟩,by simp,rfl,rfl⟩
 ·intro a w' df sz kp ⟨vs,hv⟩ hb
  have sz' : a.tmps.size = 82 := sz
  have g1 : a.tmps[1]? = some (.pointer (some ⟨b1,0,none⟩)) := (kp 1 (nd 1 (by omega))).trans rfl
  have g12 : a.tmps[12]? = some (.pointer (some ⟨b1,1,none⟩)) := by
   have h : vs 6 = .pointer (some ⟨b1,1,none⟩) := (hv 6 (by omega)).2 (by decide)
   rw [← h]
   exact (hv 6 (by omega)).1
  obtain ⟨⟨p1,q1,s1⟩,hs1,ho1⟩ := (hv 2 (by omega)).2 (by decide)
  have g8 : a.tmps[8]? = some (.slice p1 q1 s1) := ((hv 2 (by omega)).1).trans (congrArg some hs1)
  rw [hs1] at ho1
  obtain ⟨⟨p3,q3,s3⟩,hs3,ho3⟩ := (hv 5 (by omega)).2 (by decide)
  have g11 : a.tmps[11]? = some (.slice p3 q3 s3) := ((hv 5 (by omega)).1).trans (congrArg some hs3)
  rw [hs3] at ho3
  have hB := H1.out.on hb
  have hlt := H1.out.lt
  show Rg.SeqFrom _ _ _ 3 7 a w'
  simp only [Rg.SeqFrom]
  have c1x := hB.cell 1
  have f1x := hB.fr 1
  simp only [List.getElem?_toArray,List.getElem?_cons_zero,List.getElem?_cons_succ] at c1x
  refine Rg.op_store 25 (.tmp 12) (.tmp 8) rfl rfl rfl rfl (Rg.eval_some g12) (Rg.eval_some g8) (w' := (w').setCell ⟨b1,1,none⟩ (.slice p1 q1 s1)) (by simp [go_sem,c1x,f1x]) ?_
  have hB1 : Box ((w').setCell ⟨b1,1,none⟩ (.slice p1 q1 s1)) b1 #[.int .i64 me,.slice p1 q1 s1,z2,.slice o3 n3 c3,z4,z5] 31 := by simpa using box_set (k := 1) hB (.slice p1 q1 s1)
  refine Rg.op_value rfl rfl (Rg.ex_field _ _ 31 (.tmp 1) 3 rfl (v := .pointer (some ⟨b1,3,none⟩)) (by rw [Rg.eval_some g1]; simp [go_sem])) ?_
  have hp13 : ((a).put (some 13) (.pointer (some ⟨b1,3,none⟩))).tmps[13]? = some (.pointer (some ⟨b1,3,none⟩)) := by simp [Act.put,sz']
  show Go.wpOp _ _ _ 9 _ ((a).put (some 13) (.pointer (some ⟨b1,3,none⟩))) _
  have c3x := hB1.cell 3
  have f3x := hB1.fr 3
  simp only [List.getElem?_toArray,List.getElem?_cons_zero,List.getElem?_cons_succ] at c3x
  refine Rg.op_store 27 (.tmp 13) (.tmp 11) rfl rfl rfl rfl (Rg.eval_some hp13) (Rg.eval_some ((Rg.get_put _ 13 _ 11 (by decide)).trans g11)) (w' := ((w').setCell ⟨b1,1,none⟩ (.slice p1 q1 s1)).setCell ⟨b1,3,none⟩ (.slice p3 q3 s3)) (by simp [go_sem,c3x,f3x]) ?_
  have hB3 : Box (((w').setCell ⟨b1,1,none⟩ (.slice p1 q1 s1)).setCell ⟨b1,3,none⟩ (.slice p3 q3 s3)) b1 #[.int .i64 me,.slice p1 q1 s1,z2,.slice p3 q3 s3,z4,z5] 31 := by simpa using box_set (k := 3) hB1 (.slice p3 q3 s3)
  have kp2 : ∀ j,(j < 6 ∨ 14 ≤ j) → ((a).put (some 13) (.pointer (some ⟨b1,3,none⟩))).tmps[j]? = (u0 :: .pointer (some ⟨b1,0,none⟩) :: u2 :: u3 :: u4 :: u5 :: u6 :: u7 :: u8 :: u9 :: u10 :: u11 :: u12 :: u13 :: u14 :: u15 :: u16 :: u17 :: u18 :: u19 :: u20 :: u21 :: u22 :: u23 :: u24 :: u25 :: u26 :: u27 :: u28 :: u29 :: u30 :: u31 :: u32 :: u33 :: u34 :: u35 :: u36 :: u37 :: u38 :: u39 :: u40 :: u41 :: u42 :: u43 :: u44 :: u45 :: u46 :: u47 :: u48 :: u49 :: u50 :: u51 :: u52 :: u53 :: u54 :: u55 :: u56 :: u57 :: u58 :: u59 :: u60 :: u61 :: u62 :: u63 :: u64 :: u65 :: u66 :: u67 :: u68 :: u69 :: u70 :: u71 :: u72 :: u73 :: u74 :: u75 :: u76 :: u77 :: u78 :: u79 :: u80 :: u81 :: [])[j]? := fun j hj => (Rg.get_put _ 13 _ j (by omega)).trans ((kp j (nd j (by omega))).trans List.getElem?_toArray)
  obtain ⟨mid,hmid,hfr⟩ := Rg.frame_mid (a := (a).put (some 13) (.pointer (some ⟨b1,3,none⟩))) 6 8 df (by simp [Rg.size_put,sz']) (by simp) kp2
  show Q .normal ((a).put (some 13) (.pointer (some ⟨b1,3,none⟩))) _
  rw [hfr]
  match mid,hmid with
  | [v6,v7,v8,v9,v10,v11,v12,v13],_ =>
   exact HQ.out _ _ _ _ _ _ _ _ _ p1 q1 s1 p3 q3 s3 hB3 (own_cell (own_cell ho1 b1 1 (.slice p1 q1 s1) hlt) b1 3 (.slice p3 q3 s3) hlt) (own_cell (own_cell ho3 b1 1 (.slice p1 q1 s1) hlt) b1 3 (.slice p3 q3 s3) hlt) (fun B hBl => (((hb.mono (Nat.le_of_lt (Nat.lt_of_le_of_lt hBl hlt))).setCell (p := ⟨b1,1,none⟩) hBl (.slice p1 q1 s1)).setCell (p := ⟨b1,3,none⟩) hBl (.slice p3 q3 s3))) (fun k hk hne => ((RowKit.Below.heap_setCell ((w').setCell ⟨b1,1,none⟩ (.slice p1 q1 s1)) ⟨b1,3,none⟩ (.slice p3 q3 s3) k hne).trans ((RowKit.Below.heap_setCell (w') ⟨b1,1,none⟩ (.slice p1 q1 s1) k hne).trans (hb.block k hk))))
def cp2V (B : Nat) (b1 : Nat) (_me : Int) (_z1 _z3 : Value) (o2 : Option Addr) (n2 c2 : Nat) (al : List XAd) (o4 : Option Addr) (n4 c4 : Nat) (el : List XEn) (o5 : Option Addr) (n5 c5 : Nat) (ol : List XOw) (i : Nat) (v : Value) (x : World) : Prop :=
 match i with
 | 0 => v = .pointer (some ⟨b1,2,none⟩)
 | 1 => v = .slice o2 n2 c2
 | 2 => ∃ s : Sl,v = slv s ∧ OwnD x B v al
 | 3 => v = .pointer (some ⟨b1,4,none⟩)
 | 4 => v = .slice o4 n4 c4
 | 5 => ∃ s : Sl,v = slv s ∧ OwnN x B v el
 | 6 => v = .pointer (some ⟨b1,5,none⟩)
 | 7 => v = .slice o5 n5 c5
 | 8 => ∃ s : Sl,v = slv s ∧ OwnW x B v ol
 | 9 => v = .pointer (some ⟨b1,2,none⟩)
 | _ => True
noncomputable def cp2C : Code := ((Tryz.f76.body.bind (findRegion 2)).getD .skip)
theorem cp2V_on (B : Nat) (b1 : Nat) (me : Int) (z1 z3 : Value) (o2 : Option Addr) (n2 c2 : Nat) (al : List XAd) (o4 : Option Addr) (n4 c4 : Nat) (el : List XEn) (o5 : Option Addr) (n5 c5 : Nat) (ol : List XOw) (i : Nat) (v : Value) (x x' : World) (h : cp2V B b1 me z1 z3 o2 n2 c2 al o4 n4 c4 el o5 n5 c5 ol i v x) (hb : Below x.heap.size x x') : cp2V B b1 me z1 z3 o2 n2 c2 al o4 n4 c4 el o5 n5 c5 ol i v x' := by
 by_cases hi : i < 10
 ·rcases (by omega : i = 0 ∨ i = 1 ∨ i = 2 ∨ i = 3 ∨ i = 4 ∨ i = 5 ∨ i = 6 ∨ i = 7 ∨ i = 8 ∨ i = 9) with rfl | rfl | rfl | rfl | rfl | rfl | rfl | rfl | rfl | rfl
  ·exact h
  ·exact h
  ·obtain ⟨s,h1,h2⟩ := h; exact ⟨s,h1,Bk.own_on h2 hb⟩
  ·exact h
  ·exact h
  ·obtain ⟨s,h1,h2⟩ := h; exact ⟨s,h1,Bk.own_on h2 hb⟩
  ·exact h
  ·exact h
  ·obtain ⟨s,h1,h2⟩ := h; exact ⟨s,h1,Bk.own_on h2 hb⟩
  ·exact h
 ·unfold cp2V
  split <;> first | omega | trivial
theorem cp2 (Q : Exit → Act → World → Prop) (W : World) (b1 : Nat) (me : Int) (z1 z3 : Value) (o2 : Option Addr) (n2 c2 : Nat) (al : List XAd) (o4 : Option Addr) (n4 c4 : Nat) (el : List XEn) (o5 : Option Addr) (n5 c5 : Nat) (ol : List XOw) (u0 u2 u3 u4 u5 u6 u7 u8 u9 u10 u11 u12 u13 u14 u15 u16 u17 u18 u19 u20 u21 u22 u23 u24 u25 u26 u27 u28 u29 u30 u31 u32 u33 u34 u35 u36 u37 u38 u39 u40 u41 u42 u43 u44 u45 u46 u47 u48 u49 u50 u51 u52 u53 u54 u55 u56 u57 u58 u59 u60 u61 u62 u63 u64 u65 u66 u67 u68 u69 u70 u71 u72 u73 u74 u75 u76 u77 u78 u79 u80 u81 : Value)
  (h1 : Box W b1 #[.int .i64 me,z1,.slice o2 n2 c2,z3,.slice o4 n4 c4,.slice o5 n5 c5] 31) (r2 : RowD W (.slice o2 n2 c2) al) (r4 : RowN W (.slice o4 n4 c4) el) (r5 : RowW W (.slice o5 n5 c5) ol) (l2 : al.length ≤ 900) (l4 : el.length ≤ 900) (l5 : ol.length ≤ 900)
  (hQ : ∀ (x : World) (v14 v15 v16 v17 v18 v19 v20 v21 v22 v23 v24 v25 : Value) (p2 : Option Addr) (q2 s2 : Nat) (p4 : Option Addr) (q4 s4 : Nat) (p5 : Option Addr) (q5 s5 : Nat),Box x b1 #[.int .i64 me,z1,.slice p2 q2 s2,z3,.slice p4 q4 s4,.slice p5 q5 s5] 31 → OwnD x W.heap.size (.slice p2 q2 s2) al → OwnN x W.heap.size (.slice p4 q4 s4) el → OwnW x W.heap.size (.slice p5 q5 s5) ol → (∀ B,B ≤ b1 → Below B W x) → (∀ k,k < W.heap.size → k ≠ b1 → x.heap[k]? = W.heap[k]?) → Q .normal ⟨(u0 :: .pointer (some ⟨b1,0,none⟩) :: u2 :: u3 :: u4 :: u5 :: u6 :: u7 :: u8 :: u9 :: u10 :: u11 :: u12 :: u13 :: v14 :: v15 :: v16 :: v17 :: v18 :: v19 :: v20 :: v21 :: v22 :: v23 :: v24 :: v25 :: u26 :: u27 :: u28 :: u29 :: u30 :: u31 :: u32 :: u33 :: u34 :: u35 :: u36 :: u37 :: u38 :: u39 :: u40 :: u41 :: u42 :: u43 :: u44 :: u45 :: u46 :: u47 :: u48 :: u49 :: u50 :: u51 :: u52 :: u53 :: u54 :: u55 :: u56 :: u57 :: u58 :: u59 :: u60 :: u61 :: u62 :: u63 :: u64 :: u65 :: u66 :: u67 :: u68 :: u69 :: u70 :: u71 :: u72 :: u73 :: u74 :: u75 :: u76 :: u77 :: u78 :: u79 :: u80 :: u81 :: []).toArray,[]⟩ x) :
  Code.wp Tryz.prog cp2C Q ⟨(u0 :: .pointer (some ⟨b1,0,none⟩) :: u2 :: u3 :: u4 :: u5 :: u6 :: u7 :: u8 :: u9 :: u10 :: u11 :: u12 :: u13 :: u14 :: u15 :: u16 :: u17 :: u18 :: u19 :: u20 :: u21 :: u22 :: u23 :: u24 :: u25 :: u26 :: u27 :: u28 :: u29 :: u30 :: u31 :: u32 :: u33 :: u34 :: u35 :: u36 :: u37 :: u38 :: u39 :: u40 :: u41 :: u42 :: u43 :: u44 :: u45 :: u46 :: u47 :: u48 :: u49 :: u50 :: u51 :: u52 :: u53 :: u54 :: u55 :: u56 :: u57 :: u58 :: u59 :: u60 :: u61 :: u62 :: u63 :: u64 :: u65 :: u66 :: u67 :: u68 :: u69 :: u70 :: u71 :: u72 :: u73 :: u74 :: u75 :: u76 :: u77 :: u78 :: u79 :: u80 :: u81 :: []).toArray,[]⟩ W := by
 have HQ := Lib.hid hQ
 have H1 := Lib.hid h1
 have R2 := Lib.hid r2
 have R4 := Lib.hid r4
 have R5 := Lib.hid r5
 have L2 := Lib.hid l2
 have L4 := Lib.hid l4
 have L5 := Lib.hid l5
 clear hQ h1 r2 r4 r5 l2 l4 l5
 have stab := cp2V_on W.heap.size b1 me z1 z3 o2 n2 c2 al o4 n4 c4 el o5 n5 c5 ol
 unfold cp2C
 conv => arg 2; whnf
 have nd : ∀ j,(j < 14 ∨ 24 ≤ j) → ∀ i,i < 10 → (fun i => 14 + i) i ≠ j := by
  intro j hj i hi h
  simp only at h
  omega
 refine Rg.region_live 15 10 (fun i => 14 + i) (fun _ => 10) (cp2V W.heap.size b1 me z1 z3 o2 n2 c2 al o4 n4 c4 el o5 n5 c5 ol) (by kernel_rfl) (by kernel_rfl) rfl (by decide) (fun i j _ _ h => by have h2 : 14 + i = 14 + j := h; omega) (fun i hi => by show 14 + i < 82; omega) ?_ (fun _ => Rg.hall_of 14 (by kernel_rfl)) ?_ ?_
 ·intro i o hi ho a x D hnd hc hD hb seen K hK
  clear HQ
  rcases (by omega : i = 0 ∨ i = 1 ∨ i = 2 ∨ i = 3 ∨ i = 4 ∨ i = 5 ∨ i = 6 ∨ i = 7 ∨ i = 8 ∨ i = 9) with rfl | rfl | rfl | rfl | rfl | rfl | rfl | rfl | rfl | rfl
  ·obtain rfl := Option.some.inj ho
   have e1 : a.eval (.tmp 1) = .pointer (some ⟨b1,0,none⟩) := seen.kp 1 _ (nd 1 (by omega)) rfl
   exact Rg.op_value rfl rfl (Rg.ex_field a.eval _ 31 (.tmp 1) 2 rfl (by rw [e1]; simp [go_sem])) (hK _ _ rfl (Below.refl _ _) fun _ _ _ _ _ _ _ h => h)
  ·obtain rfl := Option.some.inj ho
   have e14 : a.eval (.tmp 14) = .pointer (some ⟨b1,2,none⟩) := seen.at_ ⟨0,.data⟩ (by simp) rfl (Or.inr (by decide))
   have y2 := (H1.out.on hb).cell 2
   simp only [List.getElem?_toArray,List.getElem?_cons_zero,List.getElem?_cons_succ] at y2
   exact Rg.op_value rfl rfl (Rg.ex_load a.eval _ 26 (.tmp 14) rfl (by rw [e14]; simp [go_sem,y2])) (hK _ _ rfl (Below.refl _ _) fun _ _ _ _ _ _ _ h => h)
  ·obtain rfl := Option.some.inj ho
   have e15 : a.eval (.tmp 15) = .slice o2 n2 c2 := seen.at_ ⟨1,.data⟩ (by simp) rfl (Or.inr (by decide))
   exact Rg.op_call rfl rfl (Rw.ex_call1 a.eval _ (.tmp 15) 26 123 rfl e15 rfl _ (call_fn Tryz.func123 rfl rfl _ _)) (cloneD_any (o2,n2,c2) al x (R2.out.on hb) L2.out) fun e w1 h => by
    obtain ⟨⟨s,rfl,h1⟩,h3⟩ := h
    exact ⟨_,rfl,hK _ _ ⟨s,rfl,own_fewer h1 hb.size⟩ (h3.mono hb.size) fun j u hj _ _ _ hne h => stab j u _ _ h h3⟩
  ·obtain rfl := Option.some.inj ho
   have e1 : a.eval (.tmp 1) = .pointer (some ⟨b1,0,none⟩) := seen.kp 1 _ (nd 1 (by omega)) rfl
   exact Rg.op_value rfl rfl (Rg.ex_field a.eval _ 31 (.tmp 1) 4 rfl (by rw [e1]; simp [go_sem])) (hK _ _ rfl (Below.refl _ _) fun _ _ _ _ _ _ _ h => h)
  ·obtain rfl := Option.some.inj ho
   have e17 : a.eval (.tmp 17) = .pointer (some ⟨b1,4,none⟩) := seen.at_ ⟨3,.data⟩ (by simp) rfl (Or.inr (by decide))
   have y4 := (H1.out.on hb).cell 4
   simp only [List.getElem?_toArray,List.getElem?_cons_zero,List.getElem?_cons_succ] at y4
   exact Rg.op_value rfl rfl (Rg.ex_load a.eval _ 28 (.tmp 17) rfl (by rw [e17]; simp [go_sem,y4])) (hK _ _ rfl (Below.refl _ _) fun _ _ _ _ _ _ _ h => h)
  ·obtain rfl := Option.some.inj ho
   have e18 : a.eval (.tmp 18) = .slice o4 n4 c4 := seen.at_ ⟨4,.data⟩ (by simp) rfl (Or.inr (by decide))
   exact Rg.op_call rfl rfl (Rw.ex_call1 a.eval _ (.tmp 18) 28 124 rfl e18 rfl _ (call_fn Tryz.func124 rfl rfl _ _)) (cloneN_any (o4,n4,c4) el x (R4.out.on hb) L4.out) fun e w1 h => by
    obtain ⟨⟨s,rfl,h1⟩,h3⟩ := h
    exact ⟨_,rfl,hK _ _ ⟨s,rfl,own_fewer h1 hb.size⟩ (h3.mono hb.size) fun j u hj _ _ _ hne h => stab j u _ _ h h3⟩
  ·obtain rfl := Option.some.inj ho
   have e1 : a.eval (.tmp 1) = .pointer (some ⟨b1,0,none⟩) := seen.kp 1 _ (nd 1 (by omega)) rfl
   exact Rg.op_value rfl rfl (Rg.ex_field a.eval _ 31 (.tmp 1) 5 rfl (by rw [e1]; simp [go_sem])) (hK _ _ rfl (Below.refl _ _) fun _ _ _ _ _ _ _ h => h)
  ·obtain rfl := Option.some.inj ho
   have e20 : a.eval (.tmp 20) = .pointer (some ⟨b1,5,none⟩) := seen.at_ ⟨6,.data⟩ (by simp) rfl (Or.inr (by decide))
   have y5 := (H1.out.on hb).cell 5
   simp only [List.getElem?_toArray,List.getElem?_cons_zero,List.getElem?_cons_succ] at y5
   exact Rg.op_value rfl rfl (Rg.ex_load a.eval _ 29 (.tmp 20) rfl (by rw [e20]; simp [go_sem,y5])) (hK _ _ rfl (Below.refl _ _) fun _ _ _ _ _ _ _ h => h)
  ·obtain rfl := Option.some.inj ho
   have e21 : a.eval (.tmp 21) = .slice o5 n5 c5 := seen.at_ ⟨7,.data⟩ (by simp) rfl (Or.inr (by decide))
   exact Rg.op_call rfl rfl (Rw.ex_call1 a.eval _ (.tmp 21) 29 125 rfl e21 rfl _ (call_fn Tryz.func125 rfl rfl _ _)) (cloneW_any (o5,n5,c5) ol x (R5.out.on hb) L5.out) fun e w1 h => by
    obtain ⟨⟨s,rfl,h1⟩,h3⟩ := h
    exact ⟨_,rfl,hK _ _ ⟨s,rfl,own_fewer h1 hb.size⟩ (h3.mono hb.size) fun j u hj _ _ _ hne h => stab j u _ _ h h3⟩
  ·obtain rfl := Option.some.inj ho
   have e1 : a.eval (.tmp 1) = .pointer (some ⟨b1,0,none⟩) := seen.kp 1 _ (nd 1 (by omega)) rfl
   exact Rg.op_value rfl rfl (Rg.ex_field a.eval _ 31 (.tmp 1) 2 rfl (by rw [e1]; simp [go_sem])) (hK _ _ rfl (Below.refl _ _) fun _ _ _ _ _ _ _ h => h)
 ·intro kk o h1 h2 ho
  rcases (by omega : kk = 11 ∨ kk = 12 ∨ kk = 13 ∨ kk = 14) with rfl | rfl | rfl | rfl
  ·obtain rfl := Option.some.inj ho
   exact ⟨⟨10,.phase⟩,by simp,rfl,rfl⟩
  ·obtain rfl := Option.some.inj ho
   exact ⟨⟨11,.data⟩,by simp,rfl,rfl⟩
  ·obtain rfl := Option.some.inj ho
   exact ⟨⟨12,.phase⟩,by simp,rfl,rfl⟩
  ·obtain rfl := Option.some.inj ho
   exact ⟨⟨13,.data⟩,by simp,rfl,rfl⟩
 ·intro a w' df sz kp ⟨vs,hv⟩ hb
  have sz' : a.tmps.size = 82 := sz
  have g1 : a.tmps[1]? = some (.pointer (some ⟨b1,0,none⟩)) := (kp 1 (nd 1 (by omega))).trans rfl
  have g23 : a.tmps[23]? = some (.pointer (some ⟨b1,2,none⟩)) := by
   have h : vs 9 = .pointer (some ⟨b1,2,none⟩) := (hv 9 (by omega)).2 (by decide)
   rw [← h]
   exact (hv 9 (by omega)).1
  obtain ⟨⟨p2,q2,s2⟩,hs2,ho2⟩ := (hv 2 (by omega)).2 (by decide)
  have g16 : a.tmps[16]? = some (.slice p2 q2 s2) := ((hv 2 (by omega)).1).trans (congrArg some hs2)
  rw [hs2] at ho2
  obtain ⟨⟨p4,q4,s4⟩,hs4,ho4⟩ := (hv 5 (by omega)).2 (by decide)
  have g19 : a.tmps[19]? = some (.slice p4 q4 s4) := ((hv 5 (by omega)).1).trans (congrArg some hs4)
  rw [hs4] at ho4
  obtain ⟨⟨p5,q5,s5⟩,hs5,ho5⟩ := (hv 8 (by omega)).2 (by decide)
  have g22 : a.tmps[22]? = some (.slice p5 q5 s5) := ((hv 8 (by omega)).1).trans (congrArg some hs5)
  rw [hs5] at ho5
  have hB := H1.out.on hb
  have hlt := H1.out.lt
  show Rg.SeqFrom _ _ _ 5 10 a w'
  simp only [Rg.SeqFrom]
  have c2x := hB.cell 2
  have f2x := hB.fr 2
  simp only [List.getElem?_toArray,List.getElem?_cons_zero,List.getElem?_cons_succ] at c2x
  refine Rg.op_store 26 (.tmp 23) (.tmp 16) rfl rfl rfl rfl (Rg.eval_some g23) (Rg.eval_some g16) (w' := (w').setCell ⟨b1,2,none⟩ (.slice p2 q2 s2)) (by simp [go_sem,c2x,f2x]) ?_
  have hB2 : Box ((w').setCell ⟨b1,2,none⟩ (.slice p2 q2 s2)) b1 #[.int .i64 me,z1,.slice p2 q2 s2,z3,.slice o4 n4 c4,.slice o5 n5 c5] 31 := by simpa using box_set (k := 2) hB (.slice p2 q2 s2)
  refine Rg.op_value rfl rfl (Rg.ex_field _ _ 31 (.tmp 1) 4 rfl (v := .pointer (some ⟨b1,4,none⟩)) (by rw [Rg.eval_some g1]; simp [go_sem])) ?_
  have hp24 : ((a).put (some 24) (.pointer (some ⟨b1,4,none⟩))).tmps[24]? = some (.pointer (some ⟨b1,4,none⟩)) := by simp [Act.put,sz']
  show Go.wpOp _ _ _ 12 _ ((a).put (some 24) (.pointer (some ⟨b1,4,none⟩))) _
  have c4x := hB2.cell 4
  have f4x := hB2.fr 4
  simp only [List.getElem?_toArray,List.getElem?_cons_zero,List.getElem?_cons_succ] at c4x
  refine Rg.op_store 28 (.tmp 24) (.tmp 19) rfl rfl rfl rfl (Rg.eval_some hp24) (Rg.eval_some ((Rg.get_put _ 24 _ 19 (by decide)).trans g19)) (w' := ((w').setCell ⟨b1,2,none⟩ (.slice p2 q2 s2)).setCell ⟨b1,4,none⟩ (.slice p4 q4 s4)) (by simp [go_sem,c4x,f4x]) ?_
  have hB4 : Box (((w').setCell ⟨b1,2,none⟩ (.slice p2 q2 s2)).setCell ⟨b1,4,none⟩ (.slice p4 q4 s4)) b1 #[.int .i64 me,z1,.slice p2 q2 s2,z3,.slice p4 q4 s4,.slice o5 n5 c5] 31 := by simpa using box_set (k := 4) hB2 (.slice p4 q4 s4)
  refine Rg.op_value rfl rfl (Rg.ex_field _ _ 31 (.tmp 1) 5 rfl (v := .pointer (some ⟨b1,5,none⟩)) (by rw [Rg.eval_some ((Rg.get_put _ 24 _ 1 (by decide)).trans g1)]; simp [go_sem])) ?_
  have hp25 : (((a).put (some 24) (.pointer (some ⟨b1,4,none⟩))).put (some 25) (.pointer (some ⟨b1,5,none⟩))).tmps[25]? = some (.pointer (some ⟨b1,5,none⟩)) := by simp [Act.put,sz']
  show Go.wpOp _ _ _ 14 _ (((a).put (some 24) (.pointer (some ⟨b1,4,none⟩))).put (some 25) (.pointer (some ⟨b1,5,none⟩))) _
  have c5x := hB4.cell 5
  have f5x := hB4.fr 5
  simp only [List.getElem?_toArray,List.getElem?_cons_zero,List.getElem?_cons_succ] at c5x
  refine Rg.op_store 29 (.tmp 25) (.tmp 22) rfl rfl rfl rfl (Rg.eval_some hp25) (Rg.eval_some ((Rg.get_put _ 25 _ 22 (by decide)).trans ((Rg.get_put _ 24 _ 22 (by decide)).trans g22))) (w' := (((w').setCell ⟨b1,2,none⟩ (.slice p2 q2 s2)).setCell ⟨b1,4,none⟩ (.slice p4 q4 s4)).setCell ⟨b1,5,none⟩ (.slice p5 q5 s5)) (by simp [go_sem,c5x,f5x]) ?_
  have hB5 : Box ((((w').setCell ⟨b1,2,none⟩ (.slice p2 q2 s2)).setCell ⟨b1,4,none⟩ (.slice p4 q4 s4)).setCell ⟨b1,5,none⟩ (.slice p5 q5 s5)) b1 #[.int .i64 me,z1,.slice p2 q2 s2,z3,.slice p4 q4 s4,.slice p5 q5 s5] 31 := by simpa using box_set (k := 5) hB4 (.slice p5 q5 s5)
  have kp2 : ∀ j,(j < 14 ∨ 26 ≤ j) → (((a).put (some 24) (.pointer (some ⟨b1,4,none⟩))).put (some 25) (.pointer (some ⟨b1,5,none⟩))).tmps[j]? = (u0 :: .pointer (some ⟨b1,0,none⟩) :: u2 :: u3 :: u4 :: u5 :: u6 :: u7 :: u8 :: u9 :: u10 :: u11 :: u12 :: u13 :: u14 :: u15 :: u16 :: u17 :: u18 :: u19 :: u20 :: u21 :: u22 :: u23 :: u24 :: u25 :: u26 :: u27 :: u28 :: u29 :: u30 :: u31 :: u32 :: u33 :: u34 :: u35 :: u36 :: u37 :: u38 :: u39 :: u40 :: u41 :: u42 :: u43 :: u44 :: u45 :: u46 :: u47 :: u48 :: u49 :: u50 :: u51 :: u52 :: u53 :: u54 :: u55 :: u56 :: u57 :: u58 :: u59 :: u60 :: u61 :: u62 :: u63 :: u64 :: u65 :: u66 :: u67 :: u68 :: u69 :: u70 :: u71 :: u72 :: u73 :: u74 :: u75 :: u76 :: u77 :: u78 :: u79 :: u80 :: u81 :: [])[j]? := fun j hj => (Rg.get_put _ 25 _ j (by omega)).trans ((Rg.get_put _ 24 _ j (by omega)).trans ((kp j (nd j (by omega))).trans List.getElem?_toArray))
  obtain ⟨mid,hmid,hfr⟩ := Rg.frame_mid (a := ((a).put (some 24) (.pointer (some ⟨b1,4,none⟩))).put (some 25) (.pointer (some ⟨b1,5,none⟩))) 14 12 df (by simp [Rg.size_put,sz']) (by simp) kp2
  show Q .normal (((a).put (some 24) (.pointer (some ⟨b1,4,none⟩))).put (some 25) (.pointer (some ⟨b1,5,none⟩))) _
  rw [hfr]
  match mid,hmid with
  | [v14,v15,v16,v17,v18,v19,v20,v21,v22,v23,v24,v25],_ =>
   exact HQ.out _ _ _ _ _ _ _ _ _ _ _ _ _ p2 q2 s2 p4 q4 s4 p5 q5 s5 hB5 (own_cell (own_cell (own_cell ho2 b1 2 (.slice p2 q2 s2) hlt) b1 4 (.slice p4 q4 s4) hlt) b1 5 (.slice p5 q5 s5) hlt) (own_cell (own_cell (own_cell ho4 b1 2 (.slice p2 q2 s2) hlt) b1 4 (.slice p4 q4 s4) hlt) b1 5 (.slice p5 q5 s5) hlt) (own_cell (own_cell (own_cell ho5 b1 2 (.slice p2 q2 s2) hlt) b1 4 (.slice p4 q4 s4) hlt) b1 5 (.slice p5 q5 s5) hlt) (fun B hBl => ((((hb.mono (Nat.le_of_lt (Nat.lt_of_le_of_lt hBl hlt))).setCell (p := ⟨b1,2,none⟩) hBl (.slice p2 q2 s2)).setCell (p := ⟨b1,4,none⟩) hBl (.slice p4 q4 s4)).setCell (p := ⟨b1,5,none⟩) hBl (.slice p5 q5 s5))) (fun k hk hne => ((RowKit.Below.heap_setCell (((w').setCell ⟨b1,2,none⟩ (.slice p2 q2 s2)).setCell ⟨b1,4,none⟩ (.slice p4 q4 s4)) ⟨b1,5,none⟩ (.slice p5 q5 s5) k hne).trans ((RowKit.Below.heap_setCell ((w').setCell ⟨b1,2,none⟩ (.slice p2 q2 s2)) ⟨b1,4,none⟩ (.slice p4 q4 s4) k hne).trans ((RowKit.Below.heap_setCell (w') ⟨b1,2,none⟩ (.slice p2 q2 s2) k hne).trans (hb.block k hk)))))
def cp11V (B : Nat) (b1 : Nat) (_me : Int) (_z1 _z2 _z3 _z5 : Value) (g n cap k : Nat) (_y1 _y2 _y3 _y4 : Int) (yo : Option Addr) (yn yc : Nat) (_y6 : Int) (_y7 : Bool) (p : List C5) (i : Nat) (v : Value) (x : World) : Prop :=
 match i with
 | 0 => v = .pointer (some ⟨b1,4,none⟩)
 | 1 => v = .slice (some ⟨g,0,none⟩) n cap
 | 2 => v = .int .i64 (k : Int)
 | 3 => v = .pointer (some ⟨b1,4,none⟩)
 | 4 => v = .slice (some ⟨g,0,none⟩) n cap
 | 5 => v = .int .i64 (k : Int)
 | 6 => v = .pointer (some ⟨g,k * 7,none⟩)
 | 7 => v = .pointer (some ⟨g,k * 7 + 4,none⟩)
 | 8 => v = .slice yo yn yc
 | 9 => ∃ s : Sl,v = slv s ∧ OwnC x B v p
 | 10 => v = .pointer (some ⟨g,k * 7,none⟩)
 | 11 => v = .pointer (some ⟨g,k * 7 + 4,none⟩)
 | _ => True
noncomputable def cp11C : Code := ((Tryz.f76.body.bind (findRegion 11)).getD .skip)
theorem cp11V_on (B : Nat) (b1 : Nat) (me : Int) (z1 z2 z3 z5 : Value) (g n cap k : Nat) (y1 y2 y3 y4 : Int) (yo : Option Addr) (yn yc : Nat) (y6 : Int) (y7 : Bool) (p : List C5) (i : Nat) (v : Value) (x x' : World) (h : cp11V B b1 me z1 z2 z3 z5 g n cap k y1 y2 y3 y4 yo yn yc y6 y7 p i v x) (hb : Below x.heap.size x x') : cp11V B b1 me z1 z2 z3 z5 g n cap k y1 y2 y3 y4 yo yn yc y6 y7 p i v x' := by
 by_cases hi : i < 12
 ·rcases (by omega : i = 0 ∨ i = 1 ∨ i = 2 ∨ i = 3 ∨ i = 4 ∨ i = 5 ∨ i = 6 ∨ i = 7 ∨ i = 8 ∨ i = 9 ∨ i = 10 ∨ i = 11) with rfl | rfl | rfl | rfl | rfl | rfl | rfl | rfl | rfl | rfl | rfl | rfl
  ·exact h
  ·exact h
  ·exact h
  ·exact h
  ·exact h
  ·exact h
  ·exact h
  ·exact h
  ·exact h
  ·obtain ⟨s,h1,h2⟩ := h; exact ⟨s,h1,Bk.own_on h2 hb⟩
  ·exact h
  ·exact h
 ·unfold cp11V
  split <;> first | omega | trivial
theorem cp11 (Q : Exit → Act → World → Prop) (W : World) (B0 : Nat) (l : List XEn) (b1 : Nat) (me : Int) (z1 z2 z3 z5 : Value) (g n cap k : Nat) (y1 y2 y3 y4 : Int) (yo : Option Addr) (yn yc : Nat) (y6 : Int) (y7 : Bool) (p : List C5) (u0 u2 u3 u5 u6 u7 u8 u9 u10 u11 u12 u13 u14 u15 u16 u17 u18 u19 u20 u21 u22 u23 u24 u25 u26 u27 u28 u29 u30 u31 u32 u33 u34 u35 u36 u37 u38 u39 u40 u41 u42 u43 u44 u45 u46 u47 u48 u49 u50 u51 u52 u53 u54 u55 u56 u57 u58 u59 u60 u61 u62 u63 u64 u65 u66 u67 u68 u69 u70 u71 u72 u73 u74 u75 u76 u77 u78 u79 u80 u81 : Value)
  (h1 : Box W b1 #[.int .i64 me,z1,z2,z3,.slice (some ⟨g,0,none⟩) n cap,z5] 31) (ho : OwnN W B0 (.slice (some ⟨g,0,none⟩) n cap) l) (hy : l[k]? = some (y1,y2,y3,y4,(yo,yn,yc),y6,y7)) (hp : RowC W (.slice yo yn yc) p) (lp : p.length ≤ 900)
  (hQ : ∀ (x : World) (v49 v50 v51 v52 v53 v54 v55 v56 v57 v58 v59 v60 : Value) (s1 : Option Addr) (s2 s3 : Nat),OwnC x W.heap.size (.slice s1 s2 s3) p → OwnN x B0 (.slice (some ⟨g,0,none⟩) n cap) (l.set k (y1,y2,y3,y4,(s1,s2,s3),y6,y7)) → But g W x → (∀ B1,B1 ≤ g → B1 ≤ W.heap.size → Below B1 W x) → Q .normal ⟨(u0 :: .pointer (some ⟨b1,0,none⟩) :: u2 :: u3 :: .int .i64 (k : Int) :: u5 :: u6 :: u7 :: u8 :: u9 :: u10 :: u11 :: u12 :: u13 :: u14 :: u15 :: u16 :: u17 :: u18 :: u19 :: u20 :: u21 :: u22 :: u23 :: u24 :: u25 :: u26 :: u27 :: u28 :: u29 :: u30 :: u31 :: u32 :: u33 :: u34 :: u35 :: u36 :: u37 :: u38 :: u39 :: u40 :: u41 :: u42 :: u43 :: u44 :: u45 :: u46 :: u47 :: u48 :: v49 :: v50 :: v51 :: v52 :: v53 :: v54 :: v55 :: v56 :: v57 :: v58 :: v59 :: v60 :: u61 :: u62 :: u63 :: u64 :: u65 :: u66 :: u67 :: u68 :: u69 :: u70 :: u71 :: u72 :: u73 :: u74 :: u75 :: u76 :: u77 :: u78 :: u79 :: u80 :: u81 :: []).toArray,[]⟩ x) :
  Code.wp Tryz.prog cp11C Q ⟨(u0 :: .pointer (some ⟨b1,0,none⟩) :: u2 :: u3 :: .int .i64 (k : Int) :: u5 :: u6 :: u7 :: u8 :: u9 :: u10 :: u11 :: u12 :: u13 :: u14 :: u15 :: u16 :: u17 :: u18 :: u19 :: u20 :: u21 :: u22 :: u23 :: u24 :: u25 :: u26 :: u27 :: u28 :: u29 :: u30 :: u31 :: u32 :: u33 :: u34 :: u35 :: u36 :: u37 :: u38 :: u39 :: u40 :: u41 :: u42 :: u43 :: u44 :: u45 :: u46 :: u47 :: u48 :: u49 :: u50 :: u51 :: u52 :: u53 :: u54 :: u55 :: u56 :: u57 :: u58 :: u59 :: u60 :: u61 :: u62 :: u63 :: u64 :: u65 :: u66 :: u67 :: u68 :: u69 :: u70 :: u71 :: u72 :: u73 :: u74 :: u75 :: u76 :: u77 :: u78 :: u79 :: u80 :: u81 :: []).toArray,[]⟩ W := by
 have HQ := Lib.hid hQ
 have H1 := Lib.hid h1
 have HO := Lib.hid ho
 have HY := Lib.hid hy
 have HP := Lib.hid hp
 have LP := Lib.hid lp
 have IX := Lib.hid (index_own okN g k n cap (by obtain ⟨_,_,hv⟩ := (Row.of_own ho).len; have h := (List.getElem?_eq_some_iff.1 hy).1; simp at hv; omega))
 have EL := Lib.hid (own_row_at okN ho hy)
 clear hQ h1 ho hy hp lp
 have stab := cp11V_on W.heap.size b1 me z1 z2 z3 z5 g n cap k y1 y2 y3 y4 yo yn yc y6 y7 p
 unfold cp11C
 conv => arg 2; whnf
 have nd : ∀ j,(j < 49 ∨ 61 ≤ j) → ∀ i,i < 12 → (fun i => 49 + i) i ≠ j := by
  intro j hj i hi h
  simp only at h
  omega
 refine Rg.region_live 13 12 (fun i => 49 + i) (fun _ => 12) (cp11V W.heap.size b1 me z1 z2 z3 z5 g n cap k y1 y2 y3 y4 yo yn yc y6 y7 p) (by kernel_rfl) (by kernel_rfl) rfl (by decide) (fun i j _ _ h => by have h2 : 49 + i = 49 + j := h; omega) (fun i hi => by show 49 + i < 82; omega) ?_ (fun _ => Rg.hall_of 14 (by kernel_rfl)) ?_ ?_
 ·intro i o hi ho a x D hnd hc hD hb seen K hK
  clear HQ
  rcases (by omega : i = 0 ∨ i = 1 ∨ i = 2 ∨ i = 3 ∨ i = 4 ∨ i = 5 ∨ i = 6 ∨ i = 7 ∨ i = 8 ∨ i = 9 ∨ i = 10 ∨ i = 11) with rfl | rfl | rfl | rfl | rfl | rfl | rfl | rfl | rfl | rfl | rfl | rfl
  ·obtain rfl := Option.some.inj ho
   have e1 : a.eval (.tmp 1) = .pointer (some ⟨b1,0,none⟩) := seen.kp 1 _ (nd 1 (by omega)) rfl
   exact Rg.op_value rfl rfl (Rg.ex_field a.eval _ 31 (.tmp 1) 4 rfl (by rw [e1]; simp [go_sem])) (hK _ _ rfl (Below.refl _ _) fun _ _ _ _ _ _ _ h => h)
  ·obtain rfl := Option.some.inj ho
   have e49 : a.eval (.tmp 49) = .pointer (some ⟨b1,4,none⟩) := seen.at_ ⟨0,.data⟩ (by simp) rfl (Or.inr (by decide))
   have y4 := (H1.out.on hb).cell 4
   simp only [List.getElem?_toArray,List.getElem?_cons_zero,List.getElem?_cons_succ] at y4
   exact Rg.op_value rfl rfl (Rg.ex_load a.eval _ 28 (.tmp 49) rfl (by rw [e49]; simp [go_sem,y4])) (hK _ _ rfl (Below.refl _ _) fun _ _ _ _ _ _ _ h => h)
  ·obtain rfl := Option.some.inj ho
   have e4 : a.eval (.tmp 4) = .int .i64 (k : Int) := seen.kp 4 _ (nd 4 (by omega)) rfl
   exact Rg.op_value rfl rfl (Rg.ex_move a.eval _ (.tmp 4) rfl x) (hK _ _ e4 (Below.refl _ _) fun _ _ _ _ _ _ _ h => h)
  ·obtain rfl := Option.some.inj ho
   have e1 : a.eval (.tmp 1) = .pointer (some ⟨b1,0,none⟩) := seen.kp 1 _ (nd 1 (by omega)) rfl
   exact Rg.op_value rfl rfl (Rg.ex_field a.eval _ 31 (.tmp 1) 4 rfl (by rw [e1]; simp [go_sem])) (hK _ _ rfl (Below.refl _ _) fun _ _ _ _ _ _ _ h => h)
  ·obtain rfl := Option.some.inj ho
   have e52 : a.eval (.tmp 52) = .pointer (some ⟨b1,4,none⟩) := seen.at_ ⟨3,.data⟩ (by simp) rfl (Or.inr (by decide))
   have y4 := (H1.out.on hb).cell 4
   simp only [List.getElem?_toArray,List.getElem?_cons_zero,List.getElem?_cons_succ] at y4
   exact Rg.op_value rfl rfl (Rg.ex_load a.eval _ 28 (.tmp 52) rfl (by rw [e52]; simp [go_sem,y4])) (hK _ _ rfl (Below.refl _ _) fun _ _ _ _ _ _ _ h => h)
  ·obtain rfl := Option.some.inj ho
   have e4 : a.eval (.tmp 4) = .int .i64 (k : Int) := seen.kp 4 _ (nd 4 (by omega)) rfl
   exact Rg.op_value rfl rfl (Rg.ex_move a.eval _ (.tmp 4) rfl x) (hK _ _ e4 (Below.refl _ _) fun _ _ _ _ _ _ _ h => h)
  ·obtain rfl := Option.some.inj ho
   have e53 : a.eval (.tmp 53) = .slice (some ⟨g,0,none⟩) n cap := seen.at_ ⟨4,.data⟩ (by simp) rfl (Or.inr (by decide))
   have e54 : a.eval (.tmp 54) = .int .i64 (k : Int) := seen.at_ ⟨5,.data⟩ (by simp) rfl (Or.inr (by decide))
   exact Rg.op_value rfl rfl (Rg.ex_index a.eval _ 28 (.tmp 53) (.tmp 54) rfl (by rw [e53,e54]; exact IX.out x)) (hK _ _ rfl (Below.refl _ _) fun _ _ _ _ _ _ _ h => h)
  ·obtain rfl := Option.some.inj ho
   have e55 : a.eval (.tmp 55) = .pointer (some ⟨g,k * 7,none⟩) := seen.at_ ⟨6,.data⟩ (by simp) rfl (Or.inr (by decide))
   exact Rg.op_value rfl rfl (Rg.ex_field a.eval _ 43 (.tmp 55) 2 rfl (by rw [e55]; simp [go_sem])) (hK _ _ rfl (Below.refl _ _) fun _ _ _ _ _ _ _ h => h)
  ·obtain rfl := Option.some.inj ho
   have e56 : a.eval (.tmp 56) = .pointer (some ⟨g,k * 7 + 4,none⟩) := seen.at_ ⟨7,.data⟩ (by simp) rfl (Or.inr (by decide))
   have y := EL.out x hb 4 _ rfl
   simp [Addr.add,EN] at y
   exact Rg.op_value rfl rfl (Rg.ex_load a.eval _ 39 (.tmp 56) rfl (by rw [e56]; simp [go_sem,y])) (hK _ _ rfl (Below.refl _ _) fun _ _ _ _ _ _ _ h => h)
  ·obtain rfl := Option.some.inj ho
   have e57 : a.eval (.tmp 57) = .slice yo yn yc := seen.at_ ⟨8,.data⟩ (by simp) rfl (Or.inr (by decide))
   exact Rg.op_call rfl rfl (Rw.ex_call1 a.eval _ (.tmp 57) 39 121 rfl e57 rfl _ (call_fn Tryz.func121 rfl rfl _ _)) (cloneC_any (yo,yn,yc) p x (HP.out.on hb) LP.out) fun e w1 h => by
    obtain ⟨⟨s,rfl,h1⟩,h3⟩ := h
    exact ⟨_,rfl,hK _ _ ⟨s,rfl,own_fewer h1 hb.size⟩ (h3.mono hb.size) fun j u hj _ _ _ hne h => stab j u _ _ h h3⟩
  ·obtain rfl := Option.some.inj ho
   have e50 : a.eval (.tmp 50) = .slice (some ⟨g,0,none⟩) n cap := seen.at_ ⟨1,.data⟩ (by simp) rfl (Or.inr (by decide))
   have e51 : a.eval (.tmp 51) = .int .i64 (k : Int) := seen.at_ ⟨2,.data⟩ (by simp) rfl (Or.inr (by decide))
   exact Rg.op_value rfl rfl (Rg.ex_index a.eval _ 28 (.tmp 50) (.tmp 51) rfl (by rw [e50,e51]; exact IX.out x)) (hK _ _ rfl (Below.refl _ _) fun _ _ _ _ _ _ _ h => h)
  ·obtain rfl := Option.some.inj ho
   have e59 : a.eval (.tmp 59) = .pointer (some ⟨g,k * 7,none⟩) := seen.at_ ⟨10,.data⟩ (by simp) rfl (Or.inr (by decide))
   exact Rg.op_value rfl rfl (Rg.ex_field a.eval _ 43 (.tmp 59) 2 rfl (by rw [e59]; simp [go_sem])) (hK _ _ rfl (Below.refl _ _) fun _ _ _ _ _ _ _ h => h)
 ·intro kk o h1 h2 ho
  omega
 ·intro a w' df sz kp ⟨vs,hv⟩ hb
  have sz' : a.tmps.size = 82 := sz
  have g60 : a.tmps[60]? = some (.pointer (some ⟨g,k * 7 + 4,none⟩)) := by
   have h : vs 11 = .pointer (some ⟨g,k * 7 + 4,none⟩) := (hv 11 (by omega)).2 (by decide)
   rw [← h]
   exact (hv 11 (by omega)).1
  obtain ⟨⟨s1,s2,s3⟩,hs,hc⟩ := (hv 9 (by omega)).2 (by decide)
  have g58 : a.tmps[58]? = some (.slice s1 s2 s3) := ((hv 9 (by omega)).1).trans (congrArg some hs)
  rw [hs] at hc
  obtain ⟨w2,hr,st1,st2,st3⟩ := storeN (k := k) s1 s2 s3 (Bk.own_on HO.out hb) HY.out
  obtain ⟨cur,hg⟩ := own_tag (Bk.own_on HO.out hb)
  show Rg.SeqFrom _ _ _ 1 12 a w'
  simp only [Rg.SeqFrom]
  refine Rg.op_store 39 (.tmp 60) (.tmp 58) rfl rfl rfl rfl (Rg.eval_some g60) (Rg.eval_some g58) (w' := w2) hr ?_
  have kp2 : ∀ j,(j < 49 ∨ 61 ≤ j) → (a).tmps[j]? = (u0 :: .pointer (some ⟨b1,0,none⟩) :: u2 :: u3 :: .int .i64 (k : Int) :: u5 :: u6 :: u7 :: u8 :: u9 :: u10 :: u11 :: u12 :: u13 :: u14 :: u15 :: u16 :: u17 :: u18 :: u19 :: u20 :: u21 :: u22 :: u23 :: u24 :: u25 :: u26 :: u27 :: u28 :: u29 :: u30 :: u31 :: u32 :: u33 :: u34 :: u35 :: u36 :: u37 :: u38 :: u39 :: u40 :: u41 :: u42 :: u43 :: u44 :: u45 :: u46 :: u47 :: u48 :: u49 :: u50 :: u51 :: u52 :: u53 :: u54 :: u55 :: u56 :: u57 :: u58 :: u59 :: u60 :: u61 :: u62 :: u63 :: u64 :: u65 :: u66 :: u67 :: u68 :: u69 :: u70 :: u71 :: u72 :: u73 :: u74 :: u75 :: u76 :: u77 :: u78 :: u79 :: u80 :: u81 :: [])[j]? := fun j hj => (kp j (nd j (by omega))).trans List.getElem?_toArray
  obtain ⟨mid,hmid,hfr⟩ := Rg.frame_mid (a := a) 49 12 df (by simp [sz']) (by simp) kp2
  show Q .normal (a) _
  rw [hfr]
  match mid,hmid with
  | [v49,v50,v51,v52,v53,v54,v55,v56,v57,v58,v59,v60],_ =>
   exact HQ.out _ _ _ _ _ _ _ _ _ _ _ _ _ s1 s2 s3 (st2.own hc hg (by decide)) st1 ((But.of_below hb).trans st2) fun B1 hB hl => st3 B1 W hB (hb.mono hl)
def findA (l : List Ad) (x : XID) : Option Ad := l.find? fun a => decide (a.id = x)
theorem findA_none {l : List Ad} {x : XID} (h : ∀ (j : Nat) (a : Ad),l[j]? = some a → a.id ≠ x) : findA l x = none := by
 unfold findA
 rw [List.find?_eq_none]
 intro a ha
 obtain ⟨j,hj⟩ := List.mem_iff_getElem?.1 ha
 simpa using h j a hj
theorem findA_at : ∀ {l : List Ad} {x : XID} {k : Nat} {a : Ad},l[k]? = some a → a.id = x → (∀ (j : Nat) (z : Ad),j < k → l[j]? = some z → z.id ≠ x) → findA l x = some a
 | [],_,_,_,h,_,_ => by simp at h
 | b :: l,x,0,a,h,hx,_ => by
  obtain rfl : b = a := by simpa using h
  simp [findA,hx]
 | b :: l,x,k + 1,a,h,hx,hall => by
  have hb := hall 0 b (by omega) rfl
  have ih := findA_at (l := l) (x := x) (k := k) (a := a) (by simpa using h) hx fun j z hj hz => hall (j + 1) z (by omega) (by simpa using hz)
  unfold findA at *
  rw [List.find?_cons_of_neg (by simpa using hb)]
  exact ih
def FindQ (W : World) (o : Option Ad) (w : World) (e : Ending) (w' : World) : Prop := (match o with
 | none => e = .returned (.tuple #[valD (0,0,(none,0,0),0),.bool false])
 | some a => ∃ r : XAd,e = .returned (.tuple #[valD r,.bool true]) ∧ AdIn w' r a) ∧ Below W.heap.size w w'
theorem find_any (me : Int) (nv sv ev ov : Value) (av : Sl) (l : List XAd) (al : List Ad) (x : XID) (w : World) (hs : RowD w (slv av) l) (hA : All2 (AdIn w) l al) (hf : ∀ a ∈ al,a.p.length ≤ 900) :
  Calls Tryz.prog 31 #[.agg #[.int .i64 me,nv,slv av,sv,ev,ov],idv x] w (FindQ w (findA al x) w) := by
 obtain ⟨c,d⟩ := x
 obtain ⟨so,sn,sc⟩ := av
 obtain ⟨ao,ac,hv⟩ := hs.len
 have hv : Value.slice so sn sc = .slice ao l.length ac := hv
 obtain ⟨rfl,rfl,rfl⟩ : so = ao ∧ sn = l.length ∧ sc = ac := by simpa using hv
 obtain ⟨h0,h1,h2⟩ := two_new w #[.int .i64 me,nv,.slice so l.length sc,sv,ev,ov] #[.int .i64 c,.int .i64 d] 31 38
 have h3 := newB ((w.alloc (.cells #[.int .i64 me,nv,.slice so l.length sc,sv,ev,ov] 31)).alloc (.cells #[.int .i64 c,.int .i64 d] 38)) (.cells #[.int .i64 0,.int .i64 0,.slice none 0 0,.int .i64 0] 41)
 have h4 := box_new ((w.alloc (.cells #[.int .i64 me,nv,.slice so l.length sc,sv,ev,ov] 31)).alloc (.cells #[.int .i64 c,.int .i64 d] 38)) #[.int .i64 0,.int .i64 0,.slice none 0 0,.int .i64 0] 41
 have hsz : ((w.alloc (.cells #[.int .i64 me,nv,.slice so l.length sc,sv,ev,ov] 31)).alloc (.cells #[.int .i64 c,.int .i64 d] 38)).heap.size = w.heap.size + 1 + 1 := by simp
 rw [hsz] at h4
 have B := Lib.hid (h0.trans (h3.mono h0.size))
 have HS := Lib.hid (hs.on B.out)
 have HA := Lib.hid (hA.mono fun _ _ h => h.on B.out)
 have X2 := Lib.hid (h1.on h3)
 have X3 := Lib.hid (h2.on h3)
 have X4 := Lib.hid h4
 have HF := Lib.hid hf
 have lm := hs.most
 unfold maxLen at lm
 obtain ⟨n,hn⟩ : ∃ n,n = l.length := ⟨_,rfl⟩
 have q3 := X2.out.cell 2
 simp only [List.getElem?_toArray,List.getElem?_cons_zero,List.getElem?_cons_succ] at q3
 rw [← hn] at HS X2 X3 X4 HA lm q3 B ⊢
 have HN := Lib.hid hn.symm
 obtain ⟨fo,hfo⟩ : ∃ o,o = findA al (c,d) := ⟨_,rfl⟩
 rw [← hfo]
 have FO := Lib.hid hfo
 clear h0 h1 h2 h3 h4 hs hv hn hA hf hsz hfo
 go_enter Tryz.func31,Tryz.ntmps31
 go_upto_region 1 with fail
 generalize ((w.alloc (.cells #[.int .i64 me,nv,.slice so n sc,sv,ev,ov] 31)).alloc (.cells #[.int .i64 c,.int .i64 d] 38)).alloc (.cells #[.int .i64 0,.int .i64 0,.slice none 0 0,.int .i64 0] 41) = W at *
 go_wp2
 go_loopw [11] (fun i wr => ∃ k : Nat,k ≤ n ∧ i = .int .i64 k ∧ Below W.heap.size W wr ∧ ∀ (j : Nat) (y : XAd),j < k → l[j]? = some y → (y.1,y.2.1) ≠ (c,d)) (fun i _ => n - (intOf i).toNat)
 case atStart => exact ⟨0,Nat.zero_le _,rfl,Below.refl _ _,fun j y h => by omega⟩
 case round =>
  obtain ⟨k,hk,rfl,hbe,hall⟩ := hrel
  have BE := Lib.hid hbe
  have AL := Lib.hid hall
  clear hbe hall
  by_cases hlt : k < n
  ·obtain ⟨y,hy⟩ : ∃ y,l[k]? = some y := ⟨_,List.getElem?_eq_getElem (by rw [HN.out]; exact hlt)⟩
   obtain ⟨p,ix,px⟩ := elD HS.out rfl HN.out hy
   obtain ⟨p0,p1,p2,p3⟩ := px wr BE.out
   obtain ⟨y1,y2,⟨yo,yn,yc⟩,y4⟩ := y
   simp only at p0 p1 p2 p3
   have NB := Lib.hid (newB wr (.cells #[.int .i64 y1,.int .i64 y2,.slice yo yn yc,.int .i64 y4] 41))
   obtain ⟨x0,x1⟩ := ((X3.out.on BE.out).on NB.out).cs2
   have hw3 : IntKind.i64.wrap ((k : Int) + 1) = (k : Int) + 1 := IntWalk.i64_in _ (by omega)
   obtain ⟨r,hr⟩ : ∃ r,(y1 == c && y2 == d) = r := ⟨_,rfl⟩
   have he := eqId y1 y2 c d r hr
   have HY := Lib.hid hy
   have HR := Lib.hid hr
   clear px hy hr
   cases r
   ·go_wp2
    go_roundw
    case rel => exact ⟨k + 1,by omega,by go_num,BE.out.trans (NB.out.mono BE.out.size),fun j y' hj h1 => by
     rcases Nat.lt_or_ge j k with h3 | h3
     ·exact AL.out j y' h3 h1
     ·obtain rfl : j = k := by omega
      have e1 := HY.out
      rw [h1] at e1
      rw [Option.some.inj e1]
      intro e
      obtain ⟨rfl,rfl⟩ : y1 = c ∧ y2 = d := by simpa using e
      have := HR.out
      simp at this⟩
    case measure => simp [intOf]; omega
   ·obtain ⟨a,ha⟩ : ∃ a,al[k]? = some a := ⟨_,List.getElem?_eq_getElem (by rw [← HA.out.len,HN.out]; exact hlt)⟩
    obtain ⟨z,hz1,hz2⟩ := HA.out.at k a ha
    rw [HY.out] at hz1
    obtain rfl := Option.some.inj hz1
    have BA := Lib.hid (BE.out.trans (NB.out.mono BE.out.size))
    have C := Lib.hid (cpAd_any (y1,y2,(yo,yn,yc),y4) a.p _ (hz2.2.2.on BA.out) (HF.out a (List.mem_of_getElem? ha)))
    have HZ := Lib.hid hz2
    have h8 := HR.out
    obtain ⟨rfl,rfl⟩ : y1 = c ∧ y2 = d := by simpa using h8
    have FA := Lib.hid (show fo = some a by
     rw [FO.out]
     refine findA_at ha hz2.1.symm fun j z hj hzz => ?_
     obtain ⟨u,hu1,hu2⟩ := HA.out.at j z hzz
     rw [← hu2.1]
     exact AL.out j u hj hu1)
    have X4a := (X4.out.on BE.out).on NB.out
    clear hz1 hz2 ha h8
    go_wp2_with fail
    refine C.out.mono ?_
    rintro e w1 ⟨⟨⟨u1,u2,u3⟩,rfl,ho⟩,hb⟩
    have Y1 := X4a.on hb
    have B1 := Lib.hid (BA.out.trans (hb.mono BA.out.size))
    obtain ⟨r0,r1,r2,r3⟩ := Y1.cs4
    obtain ⟨t0,t1,t2,t3⟩ := Y1.fs4
    have zz := Y1.lt
    have hs2 : w.heap.size + 1 + 1 < (wr.alloc (.cells #[.int .i64 y1,.int .i64 y2,.slice yo yn yc,.int .i64 y4] 41)).heap.size := X4a.lt
    have FB := Lib.hid (setD_box Y1 (.int .i64 y1) (.int .i64 y2) (.slice u1 u2 u3) (.int .i64 y4))
    have BL := Lib.hid (setD_below (b := w.heap.size + 1 + 1) (B.out.trans (B1.out.mono B.out.size)) (by omega) (.int .i64 y1) (.int .i64 y2) (.slice u1 u2 u3) (.int .i64 y4))
    have FW := Lib.hid (setD_own ho (w.heap.size + 1 + 1) hs2 (.int .i64 y1) (.int .i64 y2) (.slice u1 u2 u3) (.int .i64 y4))
    clear Y1 ho hb hs2 X4a
    go_wp2_with fail
    obtain ⟨v0,v1,v2,v3⟩ := FB.out.cs4
    refine bodyPost_ret (v := .tuple #[.agg #[.int .i64 y1,.int .i64 y2,.slice u1 u2 u3,.int .i64 y4],.bool true]) (by simp [results,Tryz.results31,go_sem,v0,v1,v2,v3]) rfl ?_
    rw [FA.out]
    exact ⟨⟨(y1,y2,(u1,u2,u3),y4),rfl,HZ.out.1,HZ.out.2.1,Row.of_own FW.out⟩,BL.out⟩
  ·obtain rfl : k = n := by omega
   have FA := Lib.hid (show fo = none by
    rw [FO.out]
    refine findA_none fun j z hzz => ?_
    obtain ⟨u,hu1,hu2⟩ := HA.out.at j z hzz
    rw [← hu2.1]
    exact AL.out j u (by rw [← HN.out]; exact (List.getElem?_eq_some_iff.1 hu1).1) hu1)
   have Y1 := X4.out.on BE.out
   obtain ⟨r0,r1,r2,r3⟩ := Y1.cs4
   obtain ⟨t0,t1,t2,t3⟩ := Y1.fs4
   have zz := Y1.lt
   have FB := Lib.hid (setD_box Y1 (.int .i64 0) (.int .i64 0) (.slice none 0 0) (.int .i64 0))
   have BL := Lib.hid (setD_below (b := w.heap.size + 1 + 1) (B.out.trans (BE.out.mono B.out.size)) (by omega) (.int .i64 0) (.int .i64 0) (.slice none 0 0) (.int .i64 0))
   clear Y1
   go_wp2_with fail
   obtain ⟨v0,v1,v2,v3⟩ := FB.out.cs4
   refine bodyPost_ret (v := .tuple #[.agg #[.int .i64 0,.int .i64 0,.slice none 0 0,.int .i64 0],.bool false]) (by simp [results,Tryz.results31,go_sem,v0,v1,v2,v3]) rfl ?_
   rw [FA.out]
   exact ⟨rfl,BL.out⟩
end Go.Proofs.YtncogjpmboglhaaGreat.Av
namespace Go.Proofs.YtncogjpmboglhaaGreat.Bk
open Go.RowKit Go.Sort Rw YtncogjpmboglhaaGreat.Nm Pr
def sameG {α : Type} (eq : α → α → Bool) : List α → List α → Bool
 | [],[] => true
 | x :: l,y :: m => eq x y && sameG eq l m
 | _,_ => false
theorem sameG_len {α : Type} {eq : α → α → Bool} : ∀ l m,sameG eq l m = true → l.length = m.length
 | [],[],_ => rfl
 | x :: l,y :: m,h => by
  simp only [sameG,Bool.and_eq_true] at h
  simp [sameG_len l m h.2]
 | [],y :: m,h => by simp [sameG] at h
 | x :: l,[],h => by simp [sameG] at h
theorem sameG_all {α : Type} {eq : α → α → Bool} : ∀ l m,l.length = m.length → (∀ (k : Nat) (x y : α),l[k]? = some x → m[k]? = some y → eq x y = true) → sameG eq l m = true
 | [],[],_,_ => rfl
 | x :: l,y :: m,hl,h => by
  simp only [sameG,Bool.and_eq_true]
  exact ⟨h 0 x y rfl rfl,sameG_all l m (by simpa using hl) (fun k a b ha hb => h (k + 1) a b (by simpa using ha) (by simpa using hb))⟩
 | [],y :: m,hl,_ => by simp at hl
 | x :: l,[],hl,_ => by simp at hl
theorem sameG_not {α : Type} {eq : α → α → Bool} : ∀ (l m : List α) (k : Nat) (x y : α),l[k]? = some x → m[k]? = some y → eq x y = false → sameG eq l m = false
 | [],_,k,x,y,h,_,_ => by simp at h
 | _ :: _,[],k,x,y,_,h,_ => by simp at h
 | a :: l,b :: m,0,x,y,h1,h2,h3 => by
  simp at h1 h2
  subst h1 h2
  simp [sameG,h3]
 | a :: l,b :: m,k + 1,x,y,h1,h2,h3 => by
  simp only [sameG,sameG_not l m k x y (by simpa using h1) (by simpa using h2) h3,Bool.and_false]
theorem sameG_iff {α : Type} {eq : α → α → Bool} (he : ∀ x y,eq x y = true ↔ x = y) : ∀ l m : List α,sameG eq l m = true ↔ l = m
 | [],[] => by simp [sameG]
 | x :: l,y :: m => by
  simp only [sameG,Bool.and_eq_true,he,sameG_iff he l m,List.cons.injEq]
 | [],y :: m => by simp [sameG]
 | x :: l,[] => by simp [sameG]
def eqI (x y : Id) : Bool := x.1 == y.1 && x.2 == y.2
theorem eqI_iff (x y : Id) : eqI x y = true ↔ x = y := by
 obtain ⟨a,b⟩ := x
 obtain ⟨c,d⟩ := y
 simp [eqI]
def eqE (x y : En) : Bool := eqI x.tree y.tree && (eqI x.sub y.sub && (x.from_ == y.from_ && (x.up == y.up && sameC x.p y.p)))
theorem eqE_iff (x y : En) : eqE x y = true ↔ x = y := by
 obtain ⟨a,b,c,d,e⟩ := x
 obtain ⟨a',b',c',d',e'⟩ := y
 simp only [eqE,Bool.and_eq_true,eqI_iff,sameC_iff,beq_iff_eq,En.mk.injEq]
 constructor
 ·rintro ⟨h1,h2,h3,h4,h5⟩
  exact ⟨h1,h2,h5,h3,h4⟩
 ·rintro ⟨h1,h2,h3,h4,h5⟩
  exact ⟨h1,h2,h4,h5,h3⟩
theorem ret_b {a b : Bool} (h : a = b) : Ending.returned (.bool a) = Ending.returned (.bool b) := by rw [h]
theorem sameJ_any (av_ bv : Value) (l m : List Id) (w : World) (ha : RowJ w av_ l) (hb : RowJ w bv m) (hl : l.length ≤ 1000000) :
  Calls Tryz.prog 92 #[av_,bv] w fun e w' => e = .returned (.bool (sameG eqI l m)) ∧ Below w.heap.size w w' := by
 have HA := Lib.hid ha
 have HB := Lib.hid hb
 obtain ⟨ao,ac,rfl⟩ := ha.len
 obtain ⟨bo,bc,rfl⟩ := hb.len
 clear ha hb
 by_cases hlen : l.length = m.length
 ·have HL := Lib.hid hlen
  rw [← hlen] at HB ⊢
  obtain ⟨n,hn⟩ : ∃ n,n = l.length := ⟨_,rfl⟩
  simp only [← hn] at HA HB ⊢
  have HN := Lib.hid hn.symm
  rw [← hn] at hl
  clear hlen hn
  go_enter Tryz.func92,Tryz.ntmps92
  go_wp2
  go_loopw [5] (fun i wr => ∃ k : Nat,k ≤ n ∧ i = .int .i64 k ∧ Below w.heap.size w wr ∧ ∀ (j : Nat) (x y : Id),j < k → l[j]? = some x → m[j]? = some y → eqI x y = true) (fun i _ => n - (intOf i).toNat)
  case atStart => exact ⟨0,Nat.zero_le _,rfl,Below.refl _ _,fun j x y h => by omega⟩
  case round =>
   obtain ⟨k,hk,rfl,hbe,hall⟩ := hrel
   have BE := Lib.hid hbe
   have AL := Lib.hid hall
   clear hbe hall
   by_cases hlt : k < n
   ·obtain ⟨x,hx⟩ : ∃ x,l[k]? = some x := ⟨_,List.getElem?_eq_getElem (by rw [HN.out]; exact hlt)⟩
    obtain ⟨y,hy⟩ : ∃ y,m[k]? = some y := ⟨_,List.getElem?_eq_getElem (by rw [← HL.out,HN.out]; exact hlt)⟩
    obtain ⟨p,ix,px⟩ := elJ HA.out rfl HN.out hx
    obtain ⟨q,iy,py⟩ := elJ HB.out rfl (HL.out.symm.trans HN.out) hy
    obtain ⟨a,b⟩ := x
    obtain ⟨c,d⟩ := y
    have p0 := cell_regrown (px _ BE.out).1
    have p1 := cell_regrown (px _ BE.out).2
    have q0 := cell_regrown (py _ BE.out).1
    have q1 := cell_regrown (py _ BE.out).2
    obtain ⟨r,hr⟩ : ∃ r,eqI (a,b) (c,d) = r := ⟨_,rfl⟩
    have hne := neId a b c d (!r) (by rw [← hr]; rfl)
    have HX := Lib.hid hx
    have HY := Lib.hid hy
    have HR := Lib.hid hr
    clear px py hx hy hr
    cases r
    ·have R := Lib.hid (show sameG eqI l m = false from sameG_not l m k _ _ HX.out HY.out HR.out)
     go_wp2
     refine wp_region_quiet_below (by kernel_rfl) (by kernel_rfl) ?_
     repeat (go_big_quiet_step (fail))
     refine wpQuiet_nil ?_
     intro _ hw'
     obtain ⟨⟨dq,osq⟩,hw''⟩ := hw'
     subst hw''
     go_wp2
     go_ret
     exact ⟨ret_b R.out.symm,BE.out.trans ((below_regrown wr dq osq).mono BE.out.size)⟩
    ·go_wp2
     refine wp_region_quiet_below (by kernel_rfl) (by kernel_rfl) ?_
     repeat (go_big_quiet_step (fail))
     refine wpQuiet_nil ?_
     intro _ hw'
     obtain ⟨⟨dq,osq⟩,hw''⟩ := hw'
     subst hw''
     clear ix iy p0 p1 q0 q1 hne
     go_wp2
     go_roundw
     case rel => exact ⟨k + 1,by omega,by go_num,BE.out.trans ((below_regrown wr dq osq).mono BE.out.size),fun j x' y' hj h1 h2 => by
      rcases Nat.lt_or_ge j k with h3 | h3
      ·exact AL.out j x' y' h3 h1 h2
      ·obtain rfl : j = k := by omega
       have e1 := HX.out
       have e2 := HY.out
       rw [h1] at e1
       rw [h2] at e2
       rw [Option.some.inj e1,Option.some.inj e2]
       exact HR.out⟩
     case measure => simp [intOf]; omega
   ·obtain rfl : k = n := by omega
    have R := Lib.hid (show sameG eqI l m = true from sameG_all l m (HL.out) (fun j a b h1 h2 => AL.out j a b (by have := (List.getElem?_eq_some_iff.1 h1).1; have := HN.out; omega) h1 h2))
    go_wp2
    go_ret
    exact ⟨ret_b R.out.symm,BE.out⟩
 ·have R := Lib.hid (show sameG eqI l m = false by
   cases h : sameG eqI l m
   ·rfl
   ·have h2 := sameG_len _ _ h
    exact absurd (h2) hlen)
  have hne : (((l.length : Nat) : Int) != ((m.length : Nat) : Int)) = true := by simp; omega
  have hne2 : (((l.length : Nat) : Int) == ((m.length : Nat) : Int)) = false := by simp; omega
  clear hlen
  go_enter Tryz.func92,Tryz.ntmps92
  go_wp2
  go_ret
  exact ⟨ret_b R.out.symm,Below.refl _ _⟩
theorem at_left {α β : Type} {R : α → β → Prop} : ∀ {l m} (_ : All2 R l m) (k : Nat) (a : α),l[k]? = some a → ∃ b,m[k]? = some b ∧ R a b
 | _,_,.nil,k,b,h => by simp at h
 | _,_,.cons x t,0,b,h => by
  simp at h
  subst h
  exact ⟨_,rfl,x⟩
 | _,_,.cons x t,k + 1,b,h => by
  obtain ⟨a,h1,h2⟩ := at_left t k b (by simpa using h)
  exact ⟨a,by simpa using h1,h2⟩
theorem entries_any (av_ bv : Value) (l m : List XEn) (la lb : List En) (w : World) (ha : RowN w av_ l) (hb : RowN w bv m) (ua : All2 (EnIn w) l la) (ub : All2 (EnIn w) m lb) (sa : ∀ (k : Nat) (e : En),la[k]? = some e → e.p.length ≤ 1000000) (sb : ∀ (k : Nat) (e : En),lb[k]? = some e → e.p.length ≤ 1000000) (hl : l.length ≤ 1000000) :
  Calls Tryz.prog 20 #[av_,bv] w fun e w' => e = .returned (.bool (sameG eqE la lb)) ∧ Below w.heap.size w w' := by
 have UA := Lib.hid ua
 have UB := Lib.hid ub
 have SHA := Lib.hid sa
 have SHB := Lib.hid sb
 clear ua ub sa sb
 have HA := Lib.hid ha
 have HB := Lib.hid hb
 obtain ⟨ao,ac,rfl⟩ := ha.len
 obtain ⟨bo,bc,rfl⟩ := hb.len
 clear ha hb
 by_cases hlen : l.length = m.length
 ·have HL := Lib.hid hlen
  rw [← hlen] at HB ⊢
  obtain ⟨n,hn⟩ : ∃ n,n = l.length := ⟨_,rfl⟩
  simp only [← hn] at HA HB ⊢
  have HN := Lib.hid hn.symm
  rw [← hn] at hl
  clear hlen hn
  go_enter Tryz.func20,Tryz.ntmps20
  go_wp2
  go_loopw [13] (fun i wr => ∃ k : Nat,k ≤ n ∧ i = .int .i64 k ∧ Below w.heap.size w wr ∧ ∀ (j : Nat) (x y : En),j < k → la[j]? = some x → lb[j]? = some y → eqE x y = true) (fun i _ => n - (intOf i).toNat)
  case atStart => exact ⟨0,Nat.zero_le _,rfl,Below.refl _ _,fun j x y h => by omega⟩
  case round =>
   obtain ⟨k,hk,rfl,hbe,hall⟩ := hrel
   have BE := Lib.hid hbe
   have AL := Lib.hid hall
   clear hbe hall
   by_cases hlt : k < n
   ·obtain ⟨x,hx⟩ : ∃ x,l[k]? = some x := ⟨_,List.getElem?_eq_getElem (by rw [HN.out]; exact hlt)⟩
    obtain ⟨y,hy⟩ : ∃ y,m[k]? = some y := ⟨_,List.getElem?_eq_getElem (by rw [← HL.out,HN.out]; exact hlt)⟩
    obtain ⟨p,ix,px⟩ := elN HA.out rfl HN.out hx
    obtain ⟨q,iy,py⟩ := elN HB.out rfl (HL.out.symm.trans HN.out) hy
    obtain ⟨sx,hsx,ix_⟩ := at_left UA.out k x hx
    obtain ⟨sy,hsy,iy_⟩ := at_left UB.out k y hy
    obtain ⟨x1,x2,x3,x4,⟨xo,xn,xc⟩,x6,x7⟩ := x
    obtain ⟨y1,y2,y3,y4,⟨yo,yn,yc⟩,y6,y7⟩ := y
    obtain ⟨ta,tb,tp,tf,tu⟩ := sx
    obtain ⟨va,vb,vp,vf,vu⟩ := sy
    obtain ⟨rfl,rfl,rfl,rfl,rx⟩ := ix_
    obtain ⟨rfl,rfl,rfl,rfl,ry⟩ := iy_
    have p0 := cell_regrown (px _ BE.out).1
    have p1 := cell_regrown (px _ BE.out).2.1
    have p2 := cell_regrown (px _ BE.out).2.2.1
    have p3 := cell_regrown (px _ BE.out).2.2.2.1
    have p4 := cell_regrown (px _ BE.out).2.2.2.2.1
    have p5 := cell_regrown (px _ BE.out).2.2.2.2.2.1
    have p6 := cell_regrown (px _ BE.out).2.2.2.2.2.2
    have q0 := cell_regrown (py _ BE.out).1
    have q1 := cell_regrown (py _ BE.out).2.1
    have q2 := cell_regrown (py _ BE.out).2.2.1
    have q3 := cell_regrown (py _ BE.out).2.2.2.1
    have q4 := cell_regrown (py _ BE.out).2.2.2.2.1
    have q5 := cell_regrown (py _ BE.out).2.2.2.2.2.1
    have q6 := cell_regrown (py _ BE.out).2.2.2.2.2.2
    have CS := Lib.hid (fun d os => Calls.regrown_of (d := d) (os := os) (sameC_any (.slice xo xn xc) (.slice yo yn yc) tp vp _ ((rx.on BE.out).on (below_regrown wr d os)) ((ry.on BE.out).on (below_regrown wr d os)) (SHA.out _ _ hsx) (SHB.out _ _ hsy)))
    have R0 := show eqE ⟨(x1,x2),(x3,x4),tp,x6,x7⟩ ⟨(y1,y2),(y3,y4),vp,y6,y7⟩ = (eqI (x1,x2) (y1,y2) && (eqI (x3,x4) (y3,y4) && (x6 == y6 && (x7 == y7 && sameC tp vp)))) from rfl
    obtain ⟨r1,e1⟩ : ∃ r,eqI (x1,x2) (y1,y2) = r := ⟨_,rfl⟩
    obtain ⟨r2,e2⟩ : ∃ r,eqI (x3,x4) (y3,y4) = r := ⟨_,rfl⟩
    obtain ⟨r3,e3⟩ : ∃ r,(x6 == y6) = r := ⟨_,rfl⟩
    obtain ⟨r5,e5⟩ : ∃ r,sameC tp vp = r := ⟨_,rfl⟩
    have h1 := neId x1 x2 y1 y2 (!r1) (by rw [← e1]; rfl)
    have h2 := neId x3 x4 y3 y4 (!r2) (by rw [← e2]; rfl)
    have h3 : (x6 != y6) = !r3 := by rw [← e3]; rfl
    rw [e5] at CS
    rw [e1,e2,e3,e5] at R0
    have HX := Lib.hid hsx
    have HY := Lib.hid hsy
    have HR0 := Lib.hid R0
    clear px py hx hy hsx hsy rx ry R0 e1 e2 e3 e5
    cases r1
    ·have HR := Lib.hid (HR0.out.trans (show _ = false by simp))
     have R := Lib.hid (show sameG eqE la lb = false from sameG_not la lb k _ _ HX.out HY.out HR.out)
     go_wp2
     refine wp_region_quiet_below (by kernel_rfl) (by kernel_rfl) ?_
     repeat (go_big_quiet_step (first | (with_reducible exact CS.out _ _)))
     refine wpQuiet_nil ?_
     intro _ hw'
     obtain ⟨⟨dq,osq⟩,hw''⟩ := hw'
     subst hw''
     go_wp2
     go_ret
     exact ⟨ret_b R.out.symm,BE.out.trans ((below_regrown wr dq osq).mono BE.out.size)⟩
    ·cases r2
     ·have HR := Lib.hid (HR0.out.trans (show _ = false by simp))
      have R := Lib.hid (show sameG eqE la lb = false from sameG_not la lb k _ _ HX.out HY.out HR.out)
      go_wp2
      refine wp_region_quiet_below (by kernel_rfl) (by kernel_rfl) ?_
      repeat (go_big_quiet_step (first | (with_reducible exact CS.out _ _)))
      refine wpQuiet_nil ?_
      intro _ hw'
      obtain ⟨⟨dq,osq⟩,hw''⟩ := hw'
      subst hw''
      go_wp2
      go_ret
      exact ⟨ret_b R.out.symm,BE.out.trans ((below_regrown wr dq osq).mono BE.out.size)⟩
     ·cases r3
      ·have HR := Lib.hid (HR0.out.trans (show _ = false by simp))
       have R := Lib.hid (show sameG eqE la lb = false from sameG_not la lb k _ _ HX.out HY.out HR.out)
       go_wp2
       refine wp_region_quiet_below (by kernel_rfl) (by kernel_rfl) ?_
       repeat (go_big_quiet_step (first | (with_reducible exact CS.out _ _)))
       refine wpQuiet_nil ?_
       intro _ hw'
       obtain ⟨⟨dq,osq⟩,hw''⟩ := hw'
       subst hw''
       go_wp2
       go_ret
       exact ⟨ret_b R.out.symm,BE.out.trans ((below_regrown wr dq osq).mono BE.out.size)⟩
      ·cases x7 <;> cases y7
       ·cases r5
        ·have HR := Lib.hid (HR0.out.trans (show _ = false by simp))
         have R := Lib.hid (show sameG eqE la lb = false from sameG_not la lb k _ _ HX.out HY.out HR.out)
         go_wp2
         refine wp_region_quiet_below (by kernel_rfl) (by kernel_rfl) ?_
         repeat (go_big_quiet_step (first | (with_reducible exact CS.out _ _)))
         refine wpQuiet_nil ?_
         intro _ hw'
         obtain ⟨⟨dq,osq⟩,hw''⟩ := hw'
         subst hw''
         go_wp2
         go_ret
         exact ⟨ret_b R.out.symm,BE.out.trans ((below_regrown wr dq osq).mono BE.out.size)⟩
        ·have HR := Lib.hid (HR0.out.trans (show _ = true by simp))
         go_wp2
         refine wp_region_quiet_below (by kernel_rfl) (by kernel_rfl) ?_
         repeat (go_big_quiet_step (first | (with_reducible exact CS.out _ _)))
         refine wpQuiet_nil ?_
         intro _ hw'
         obtain ⟨⟨dq,osq⟩,hw''⟩ := hw'
         subst hw''
         clear ix iy p0 q0 p1 q1 p2 q2 p3 q3 p4 q4 p5 q5 p6 q6 h1 h2 h3
         go_wp2
         go_roundw
         case rel => exact ⟨k + 1,by omega,by go_num,BE.out.trans ((below_regrown wr dq osq).mono BE.out.size),fun j x' y' hj h1 h2 => by
          rcases Nat.lt_or_ge j k with h3 | h3
          ·exact AL.out j x' y' h3 h1 h2
          ·obtain rfl : j = k := by omega
           have e1 := HX.out
           have e2 := HY.out
           rw [h1] at e1
           rw [h2] at e2
           rw [Option.some.inj e1,Option.some.inj e2]
           exact HR.out⟩
         case measure => simp [intOf]; omega
       ·have HR := Lib.hid (HR0.out.trans (show _ = false by simp))
        have R := Lib.hid (show sameG eqE la lb = false from sameG_not la lb k _ _ HX.out HY.out HR.out)
        go_wp2
        refine wp_region_quiet_below (by kernel_rfl) (by kernel_rfl) ?_
        repeat (go_big_quiet_step (first | (with_reducible exact CS.out _ _)))
        refine wpQuiet_nil ?_
        intro _ hw'
        obtain ⟨⟨dq,osq⟩,hw''⟩ := hw'
        subst hw''
        go_wp2
        go_ret
        exact ⟨ret_b R.out.symm,BE.out.trans ((below_regrown wr dq osq).mono BE.out.size)⟩
       ·have HR := Lib.hid (HR0.out.trans (show _ = false by simp))
        have R := Lib.hid (show sameG eqE la lb = false from sameG_not la lb k _ _ HX.out HY.out HR.out)
        go_wp2
        refine wp_region_quiet_below (by kernel_rfl) (by kernel_rfl) ?_
        repeat (go_big_quiet_step (first | (with_reducible exact CS.out _ _)))
        refine wpQuiet_nil ?_
        intro _ hw'
        obtain ⟨⟨dq,osq⟩,hw''⟩ := hw'
        subst hw''
        go_wp2
        go_ret
        exact ⟨ret_b R.out.symm,BE.out.trans ((below_regrown wr dq osq).mono BE.out.size)⟩
       ·cases r5
        ·have HR := Lib.hid (HR0.out.trans (show _ = false by simp))
         have R := Lib.hid (show sameG eqE la lb = false from sameG_not la lb k _ _ HX.out HY.out HR.out)
         go_wp2
         refine wp_region_quiet_below (by kernel_rfl) (by kernel_rfl) ?_
         repeat (go_big_quiet_step (first | (with_reducible exact CS.out _ _)))
         refine wpQuiet_nil ?_
         intro _ hw'
         obtain ⟨⟨dq,osq⟩,hw''⟩ := hw'
         subst hw''
         go_wp2
         go_ret
         exact ⟨ret_b R.out.symm,BE.out.trans ((below_regrown wr dq osq).mono BE.out.size)⟩
        ·have HR := Lib.hid (HR0.out.trans (show _ = true by simp))
         go_wp2
         refine wp_region_quiet_below (by kernel_rfl) (by kernel_rfl) ?_
         repeat (go_big_quiet_step (first | (with_reducible exact CS.out _ _)))
         refine wpQuiet_nil ?_
         intro _ hw'
         obtain ⟨⟨dq,osq⟩,hw''⟩ := hw'
         subst hw''
         clear ix iy p0 q0 p1 q1 p2 q2 p3 q3 p4 q4 p5 q5 p6 q6 h1 h2 h3
         go_wp2
         go_roundw
         case rel => exact ⟨k + 1,by omega,by go_num,BE.out.trans ((below_regrown wr dq osq).mono BE.out.size),fun j x' y' hj h1 h2 => by
          rcases Nat.lt_or_ge j k with h3 | h3
          ·exact AL.out j x' y' h3 h1 h2
          ·obtain rfl : j = k := by omega
           have e1 := HX.out
           have e2 := HY.out
           rw [h1] at e1
           rw [h2] at e2
           rw [Option.some.inj e1,Option.some.inj e2]
           exact HR.out⟩
         case measure => simp [intOf]; omega
   ·obtain rfl : k = n := by omega
    have R := Lib.hid (show sameG eqE la lb = true from sameG_all la lb (by rw [← UA.out.len,← UB.out.len]; exact HL.out) (fun j a b h1 h2 => AL.out j a b (by have := (List.getElem?_eq_some_iff.1 h1).1; have := HN.out; have := UA.out.len; omega) h1 h2))
    go_wp2
    go_ret
    exact ⟨ret_b R.out.symm,BE.out⟩
 ·have R := Lib.hid (show sameG eqE la lb = false by
   cases h : sameG eqE la lb
   ·rfl
   ·have h2 := sameG_len _ _ h
    exact absurd (by rw [UA.out.len,UB.out.len]; exact h2) hlen)
  have hne : (((l.length : Nat) : Int) != ((m.length : Nat) : Int)) = true := by simp; omega
  have hne2 : (((l.length : Nat) : Int) == ((m.length : Nat) : Int)) = false := by simp; omega
  clear hlen
  go_enter Tryz.func20,Tryz.ntmps20
  go_wp2
  go_ret
  exact ⟨ret_b R.out.symm,Below.refl _ _⟩
end Go.Proofs.YtncogjpmboglhaaGreat.Bk
namespace Go.Proofs.YtncogjpmboglhaaGreat.Rl
open Go.RowKit Pu Rw Pr Va
def covF (x y : Cn) : Bool := decide (y.1 = x.1) && impliesK y.2 x.2
theorem any_more {α : Type} (f : α → Bool) (l : List α) (k : Nat) (y : α) (h : l[k]? = some y) : (l.take (k + 1)).any f = ((l.take k).any f || f y) := by
 rw [List.take_add_one,h,List.any_append]
 simp
theorem all_more {α : Type} (f : α → Bool) (l : List α) (k : Nat) (y : α) (h : l[k]? = some y) : (l.take (k + 1)).all f = ((l.take k).all f && f y) := by
 rw [List.take_add_one,h,List.all_append]
 simp
theorem all_not {α : Type} (f : α → Bool) (l : List α) (k : Nat) (y : α) (h : l[k]? = some y) (hf : f y = false) : l.all f = false := by
 rw [List.all_eq_false]
 exact ⟨y,List.mem_of_getElem? h,by simp [hf]⟩
theorem str_eq (a b : ByteArray) (h : a = b) : (a.toList == b.toList) = true := by simp [h]
theorem str_ne (a b : ByteArray) (h : ¬ a = b) : (a.toList == b.toList) = false := by
 rw [beq_eq_false_iff_ne]
 intro e
 rw [Lib.toList_data,Lib.toList_data] at e
 exact h (bytes_eq e)
theorem rcovers_any (av_ bv : Value) (a b : List Cn) (w : World) (ha : RowC w av_ (a.map r5)) (hb : RowC w bv (b.map r5)) (hl : a.length ≤ 100) (hm : b.length ≤ 100) :
  Calls Tryz.prog 73 #[av_,bv] w fun e w' => e = .returned (.bool (coversL a b)) ∧ Below w.heap.size w w' := by
 have HA := Lib.hid ha
 have HB := Lib.hid hb
 have CO := Lib.hid (show coversL a b = a.all fun x => b.any (covF x) from rfl)
 obtain ⟨ao,ac,rfl⟩ := ha.len
 obtain ⟨bo,bc,rfl⟩ := hb.len
 clear ha hb
 rw [List.length_map] at HA HB ⊢
 rw [List.length_map]
 generalize coversL a b = r at *
 generalize hn : a.length = n at *
 generalize hm' : b.length = m at *
 have HN := Lib.hid hn
 have HM := Lib.hid hm'
 clear hn hm'
 go_enter Tryz.func73,Tryz.ntmps73
 go_wp2
 go_loopw [12] (fun i wr => ∃ k : Nat,k ≤ n ∧ i = .int .i64 k ∧ Below w.heap.size w wr ∧ (a.take k).all (fun x => b.any (covF x)) = true) (fun i _ => n - (intOf i).toNat)
 case atStart => exact ⟨0,Nat.zero_le _,rfl,Below.refl _ _,rfl⟩
 case round =>
  obtain ⟨k,hk,rfl,hbe,hall⟩ := hrel
  have BE := Lib.hid hbe
  have AL := Lib.hid hall
  clear hbe hall
  by_cases hlt : k < n
  ·obtain ⟨x,hx⟩ : ∃ x,a[k]? = some x := ⟨_,List.getElem?_eq_getElem (by rw [HN.out]; exact hlt)⟩
   obtain ⟨p,ix,px⟩ := elC HA.out rfl (by rw [List.length_map]; exact HN.out) (show (a.map r5)[k]? = some (r5 x) by rw [List.getElem?_map,hx]; rfl)
   have p0 := (px _ BE.out).1
   have p1 := (px _ BE.out).2.1
   have p2 := (px _ BE.out).2.2.1
   have p3 := (px _ BE.out).2.2.2.1
   have p4 := (px _ BE.out).2.2.2.2
   have HX := Lib.hid hx
   have B1 := Lib.hid (BE.out.alloc BE.out.size (.cells #[.string (r5 x).1,.int .i64 (r5 x).2.1,.int .i64 (r5 x).2.2.1,.int .i64 (r5 x).2.2.2.1,.string (r5 x).2.2.2.2] 47))
   have Z1 := Lib.hid (show wr.heap.size < (wr.alloc (.cells #[.string (r5 x).1,.int .i64 (r5 x).2.1,.int .i64 (r5 x).2.2.1,.int .i64 (r5 x).2.2.2.1,.string (r5 x).2.2.2.2] 47)).heap.size by simp)
   have e0 : (wr.alloc (.cells #[.string (r5 x).1,.int .i64 (r5 x).2.1,.int .i64 (r5 x).2.2.1,.int .i64 (r5 x).2.2.2.1,.string (r5 x).2.2.2.2] 47)).cell? ⟨wr.heap.size,0,none⟩ = some (.string (r5 x).1) := by simp [go_sem]
   have e1 : (wr.alloc (.cells #[.string (r5 x).1,.int .i64 (r5 x).2.1,.int .i64 (r5 x).2.2.1,.int .i64 (r5 x).2.2.2.1,.string (r5 x).2.2.2.2] 47)).cell? ⟨wr.heap.size,1,none⟩ = some (.int .i64 (r5 x).2.1) := by simp [go_sem]
   have e2 : (wr.alloc (.cells #[.string (r5 x).1,.int .i64 (r5 x).2.1,.int .i64 (r5 x).2.2.1,.int .i64 (r5 x).2.2.2.1,.string (r5 x).2.2.2.2] 47)).cell? ⟨wr.heap.size,2,none⟩ = some (.int .i64 (r5 x).2.2.1) := by simp [go_sem]
   have e3 : (wr.alloc (.cells #[.string (r5 x).1,.int .i64 (r5 x).2.1,.int .i64 (r5 x).2.2.1,.int .i64 (r5 x).2.2.2.1,.string (r5 x).2.2.2.2] 47)).cell? ⟨wr.heap.size,3,none⟩ = some (.int .i64 (r5 x).2.2.2.1) := by simp [go_sem]
   have e4 : (wr.alloc (.cells #[.string (r5 x).1,.int .i64 (r5 x).2.1,.int .i64 (r5 x).2.2.1,.int .i64 (r5 x).2.2.2.1,.string (r5 x).2.2.2.2] 47)).cell? ⟨wr.heap.size,4,none⟩ = some (.string (r5 x).2.2.2.2) := by simp [go_sem]
   clear px hx
   go_wp2
   generalize wr.alloc (.cells #[.string (r5 x).1,.int .i64 (r5 x).2.1,.int .i64 (r5 x).2.2.1,.int .i64 (r5 x).2.2.2.1,.string (r5 x).2.2.2.2] 47) = W1 at *
   generalize wr.heap.size = bx at *
   have E0 := Lib.hid e0
   have E1 := Lib.hid e1
   have E2 := Lib.hid e2
   have E3 := Lib.hid e3
   have E4 := Lib.hid e4
   clear e0 e1 e2 e3 e4 ix p0 p1 p2 p3 p4
   go_loopw [7,18] (fun v i wi => ∃ j : Nat,j ≤ m ∧ i = .int .i64 j ∧ v = .bool ((b.take j).any (covF x)) ∧ Below W1.heap.size W1 wi) (fun _ i _ => m - (intOf i).toNat)
   case atStart => exact ⟨0,Nat.zero_le _,rfl,rfl,Below.refl _ _⟩
   case round =>
    obtain ⟨j,hj,rfl,rfl,hbi⟩ := hrel
    have BI := Lib.hid hbi
    have TK := Lib.hid (B1.out.trans (hbi.mono B1.out.size))
    clear hbi
    by_cases hjt : j < m
    ·obtain ⟨y,hy⟩ : ∃ y,b[j]? = some y := ⟨_,List.getElem?_eq_getElem (by rw [HM.out]; exact hjt)⟩
     obtain ⟨q,iy,py⟩ := elC HB.out rfl (by rw [List.length_map]; exact HM.out) (show (b.map r5)[j]? = some (r5 y) by rw [List.getElem?_map,hy]; rfl)
     have q0 := (py _ TK.out).1
     have q1 := (py _ TK.out).2.1
     have q2 := (py _ TK.out).2.2.1
     have q3 := (py _ TK.out).2.2.2.1
     have q4 := (py _ TK.out).2.2.2.2
     have MO := Lib.hid (any_more (covF x) b j y hy)
     have BI2 := Lib.hid (BI.out.alloc BI.out.size (.cells #[.string (r5 y).1,.int .i64 (r5 y).2.1,.int .i64 (r5 y).2.2.1,.int .i64 (r5 y).2.2.2.1,.string (r5 y).2.2.2.2] 47))
     have f0 := (BI2.out.cell (p := ⟨bx,0,none⟩) Z1.out).trans E0.out
     have f1 := (BI2.out.cell (p := ⟨bx,1,none⟩) Z1.out).trans E1.out
     have f2 := (BI2.out.cell (p := ⟨bx,2,none⟩) Z1.out).trans E2.out
     have f3 := (BI2.out.cell (p := ⟨bx,3,none⟩) Z1.out).trans E3.out
     have f4 := (BI2.out.cell (p := ⟨bx,4,none⟩) Z1.out).trans E4.out
     clear py hy
     cases hv : (b.take j).any (covF x)
     ·rw [hv] at MO
      clear hv
      by_cases hne : y.1 = x.1
      ·have g0 := str_eq (r5 y).1 (r5 x).1 hne
       have CV := Lib.hid (show covF x y = impliesK y.2 x.2 by simp [covF,hne])
       go_wp2_with fail
       refine (implies_any y x _).mono ?_
       rintro e w2 ⟨rfl,hc⟩
       have BC := Lib.hid (BI2.out.trans (hc.mono BI2.out.size))
       clear hc
       go_wp2
       go_roundw
       case rel => exact ⟨j + 1,by omega,by go_num,by rw [MO.out,CV.out]; rfl,BC.out⟩
       case measure => simp [intOf]; omega
      ·have g0 := str_ne (r5 y).1 (r5 x).1 hne
       have CV := Lib.hid (show covF x y = false by simp [covF,hne])
       go_wp2
       go_roundw
       case rel => exact ⟨j + 1,by omega,by go_num,by rw [MO.out,CV.out]; rfl,BI2.out⟩
       case measure => simp [intOf]; omega
     ·rw [hv] at MO
      clear hv
      go_wp2
      go_roundw
      case rel => exact ⟨j + 1,by omega,by go_num,by rw [MO.out]; rfl,BI2.out⟩
      case measure => simp [intOf]; omega
    ·obtain rfl : j = m := by omega
     have TA := Lib.hid (show (b.take j).any (covF x) = b.any (covF x) by rw [← HM.out,List.take_length])
     have AM := Lib.hid (all_more (fun x => b.any (covF x)) a k x HX.out)
     rw [TA.out]
     cases hv : b.any (covF x)
     ·have R := Lib.hid (show r = false from CO.out.trans (all_not _ a k x HX.out hv))
      clear hv
      go_wp2
      go_ret
      exact ⟨ret_bool R.out.symm,TK.out⟩
     ·have HV := Lib.hid hv
      clear hv
      go_wp2
      go_roundw
      case rel => exact ⟨k + 1,by omega,by go_num,TK.out,by rw [AM.out,AL.out,HV.out]; rfl⟩
      case measure => simp [intOf]; omega
  ·obtain rfl : k = n := by omega
   have R := Lib.hid (show r = true by rw [CO.out,← AL.out,← HN.out,List.take_length])
   go_wp2
   go_ret
   exact ⟨ret_bool R.out.symm,BE.out⟩
end Go.Proofs.YtncogjpmboglhaaGreat.Rl
namespace Go.Proofs.YtncogjpmboglhaaGreat.Bk
open Go.RowKit Go.Sort Rw YtncogjpmboglhaaGreat.Nm Pr
end Go.Proofs.YtncogjpmboglhaaGreat.Bk
namespace Go.Proofs.YtncogjpmboglhaaGreat.Bk
open Go.RowKit Go.Sort Rw YtncogjpmboglhaaGreat.Nm Pr
end Go.Proofs.YtncogjpmboglhaaGreat.Bk
