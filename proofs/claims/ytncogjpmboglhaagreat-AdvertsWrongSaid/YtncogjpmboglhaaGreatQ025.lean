/-
  Name and RightTuple of the statements' own package. Conditions as told.
-/
import Derived.Test.YtncogjpmboglhaaGreatQ015
import Derived.Test.YtncogjpmboglhaaGreatQ005
import Derived.Test.YtncogjpmboglhaaGreatQ019
import Derived.Test.YtncogjpmboglhaaGreatQ016
import Derived.IntWalk
import Derived.Test.YtncogjpmboglhaaGreatQ013
import Derived.Test.YtncogjpmboglhaaGreatQ007
import Derived.Test.YtncogjpmboglhaaGreatQ024
import Derived.Test.YtncogjpmboglhaaGreatQ012
import Derived.Test.YtncogjpmboglhaaGreatQ021
import Derived.Test.YtncogjpmboglhaaGreatQ018
set_option maxRecDepth 100000
set_option maxHeartbeats 64000000
namespace Go.Proofs.YtncogjpmboglhaaGreat.At
open Go.RowKit Go.Sort Va In
def letB (c : UInt8) : Bool := decide (97 ≤ c.toNat) && decide (c.toNat ≤ 122)
def nameB (s : ByteArray) : Bool := s.data.toList.all letB && (decide (1 ≤ s.size) && decide (s.size ≤ 12))
end Go.Proofs.YtncogjpmboglhaaGreat.At
namespace Go.Proofs.YtncogjpmboglhaaGreat.Wr
open YtncogjpmboglhaaGreat.Nm At Pr
def oneB (c : C5) : Bool := nameB c.1 && (if c.2.1 = 1 then decide (c.2.2.2.2.size = 0) && decide (c.2.2.1 ≤ c.2.2.2.1) else if c.2.1 = 2 then decide (c.2.2.1 = 0) && (decide (c.2.2.2.1 = 0) && decide (c.2.2.2.2.size ≤ 12)) else if c.2.1 = 3 then decide (c.2.2.1 = 0) && (decide (c.2.2.2.1 = 0) && decide (c.2.2.2.2.size ≤ 11)) else false)
def pairC (p x : C5) : Bool := Op.bytesLess p.1.toList x.1.toList
def goodP (l : List C5) (k : Nat) : Bool := match l[k]? with
 | some x => oneB x && (k == 0 || (match l[k - 1]? with
  | some p => pairC p x
  | none => true))
 | none => true
def rightP (l : List C5) : Bool := (List.range l.length).all (goodP l) && decide (l.length ≤ 5)
theorem rightP_not (l : List C5) (k : Nat) (h : k < l.length) (hg : goodP l k = false) : rightP l = false := by
 unfold rightP
 rw [Bool.and_eq_false_iff]
 refine Or.inl (List.all_eq_false.2 ⟨k,List.mem_range.2 h,by rw [hg]; simp⟩)
theorem rightP_end (l : List C5) (h : ∀ j,j < l.length → goodP l j = true) : rightP l = decide (l.length ≤ 5) := by
 unfold rightP
 rw [List.all_eq_true.2 fun j hj => h j (List.mem_range.1 hj),Bool.true_and]
end Go.Proofs.YtncogjpmboglhaaGreat.Wr
namespace Go.Proofs.YtncogjpmboglhaaGreat.Pr
open Go.RowKit Go.Sort Pu Rw Va
theorem name_same (s : ByteArray) (w : World) (hs : s.size ≤ maxLen) :
  Calls Tryz.prog 135 #[.string s] w fun e w' => e = .returned (.bool (nameB s)) ∧ w = w' := by
 unfold maxLen at hs
 go_enter Tryz.func135,Tryz.ntmps135
 go_wp2
 go_loop [6] (fun i => ∃ k : Nat,k ≤ s.size ∧ i = .int .i64 k ∧ ∀ (j : Nat) (hj : j < s.size),j < k → letB s[j] = true) (fun i => s.size - (intOf i).toNat)
 case atStart => exact ⟨0,Nat.zero_le _,rfl,fun j hj h => by omega⟩
 case round =>
  obtain ⟨k,hk,rfl,hall⟩ := hrel
  have AL := Lib.hid hall
  clear hall
  by_cases hlt : k < s.size
  ·have hcl : (s[k].toNat : Int) < 256 := by have := s[k].toNat_lt; omega
   by_cases h1 : 97 ≤ s[k].toNat
   ·by_cases h2 : s[k].toNat ≤ 122
    ·have L := Lib.hid (show letB s[k] = true by simp [letB,h1,h2])
     have d1 : decide ((s[k].toNat : Int) < 97) = false := by simp; omega
     have d2 : decide ((122 : Int) < (s[k].toNat : Int)) = false := by simp; omega
     clear h1 h2
     go_wp2
     go_round
     case rel => exact ⟨k + 1,by omega,by go_num,fun j hj h => by
      rcases Nat.lt_or_ge j k with h3 | h3
      ·exact AL.out j hj h3
      ·obtain rfl : j = k := by omega
       exact L.out⟩
     case measure => simp [intOf]; omega
    ·have R := Lib.hid (show nameB s = false from nameB_not s k hlt (by simp [letB,h2]))
     have d1 : decide ((s[k].toNat : Int) < 97) = false := by simp; omega
     have d2 : decide ((122 : Int) < (s[k].toNat : Int)) = true := by simp; omega
     clear h1 h2
     go_wp2
     go_ret
     exact ⟨ret_bool R.out.symm,rfl⟩
   ·have R := Lib.hid (show nameB s = false from nameB_not s k hlt (by simp [letB,h1]))
    have d1 : decide ((s[k].toNat : Int) < 97) = true := by simp; omega
    clear h1
    go_wp2
    go_ret
    exact ⟨ret_bool R.out.symm,rfl⟩
  ·obtain rfl : k = s.size := by omega
   have R := Lib.hid (nameB_end s (fun j hj => AL.out j hj hj))
   by_cases h1 : 1 ≤ s.size
   ·have R2 := Lib.hid (show nameB s = decide ((s.size : Int) ≤ 12) by rw [R.out]; simp [h1]; omega)
    go_wp2
    go_ret
    exact ⟨ret_bool R2.out.symm,rfl⟩
   ·have R2 := Lib.hid (show nameB s = false by rw [R.out]; simp [h1])
    have d1 : decide ((1 : Int) ≤ (s.size : Int)) = false := by simp; omega
    go_wp2
    go_ret
    exact ⟨ret_bool R2.out.symm,rfl⟩
end Go.Proofs.YtncogjpmboglhaaGreat.Pr
namespace Go.Proofs.YtncogjpmboglhaaGreat.Avp
open Go.RowKit Go.Sort Rw YtncogjpmboglhaaGreat.Nm At Pr Wr Va
theorem new_below (w : World) (o : Obj) : Below w.heap.size w (w.alloc o) := (Below.refl _ _).alloc (Nat.le_refl _) _
theorem noText_is (t : ByteArray) : t.toList.isEmpty = decide (t.size = 0) := by
 rw [ByteArray.toList_eq]
 obtain ⟨⟨l⟩⟩ := t
 cases l <;> simp [ByteArray.size]
theorem name_at (s : ByteArray) (w : World) (hs : s.size ≤ maxLen) :
  Calls Tryz.prog 135 #[.string s] w fun e w' => e = .returned (.bool (nameB s)) ∧ w = w' := Pr.name_same s w hs
theorem pone_range (s t : ByteArray) (lo hi : Int) (w : World) (hs : s.size ≤ maxLen) :
  Calls Tryz.prog 108 #[cv (s,1,lo,hi,t)] w fun e w' => e = .returned (.bool (oneB (s,1,lo,hi,t))) ∧ Below w.heap.size w w' := by
 have B := Lib.hid (new_below w (.cells #[.string s,.int .i64 1,.int .i64 lo,.int .i64 hi,.string t] 47))
 have NM := Lib.hid (fun w => name_at s w hs)
 have R := Lib.hid (show oneB (s,1,lo,hi,t) = (At.nameB s && (decide (lo ≤ hi) && t.toList.isEmpty)) by simp [oneB,noText_is,Bool.and_comm])
 generalize At.nameB s = b at *
 cases b
 ·go_enter Tryz.func108,Tryz.ntmps108
  go_wp2_with fail
  refine (NM.out _).mono ?_
  rintro e w' ⟨rfl,rfl⟩
  go_wp2
  go_ret
  exact ⟨by rw [R.out]; rfl,B.out⟩
 obtain ⟨b1,h1⟩ : ∃ b,decide (lo ≤ hi) = b := ⟨_,rfl⟩
 rw [h1] at R
 cases b1
 ·go_enter Tryz.func108,Tryz.ntmps108
  go_wp2_with fail
  refine (NM.out _).mono ?_
  rintro e w' ⟨rfl,rfl⟩
  go_wp2
  go_ret
  exact ⟨by rw [R.out]; rfl,B.out⟩
 by_cases he : t.toList = []
 ·have R2 := Lib.hid (show oneB (s,1,lo,hi,t) = true by rw [R.out,he]; rfl)
  go_enter Tryz.func108,Tryz.ntmps108
  go_wp2_with fail
  refine (NM.out _).mono ?_
  rintro e w' ⟨rfl,rfl⟩
  go_wp2
  go_ret
  exact ⟨by rw [R2.out]; rfl,B.out⟩
 ·have he2 : t.toList.isEmpty = false := by simpa using he
  have R2 := Lib.hid (show oneB (s,1,lo,hi,t) = false by rw [R.out,he2]; rfl)
  go_enter Tryz.func108,Tryz.ntmps108
  go_wp2_with fail
  refine (NM.out _).mono ?_
  rintro e w' ⟨rfl,rfl⟩
  go_wp2
  go_ret
  exact ⟨by rw [R2.out]; rfl,B.out⟩
theorem oneB_text2 (s t : ByteArray) (lo hi : Int) : oneB (s,2,lo,hi,t) = (At.nameB s && ((lo == 0) && ((hi == 0) && decide ((t.size : Int) ≤ 12)))) := by
 have e : ∀ x : Int,decide (x = 0) = (x == 0) := fun x => by rw [Bool.eq_iff_iff]; simp
 have e3 : decide ((t.size : Int) ≤ 12) = decide (t.size ≤ 12) := by rw [Bool.eq_iff_iff]; simp; omega
 unfold oneB
 simp [e,e3]
theorem oneB_text3 (s t : ByteArray) (lo hi : Int) : oneB (s,3,lo,hi,t) = (At.nameB s && (!decide ((12 : Int) ≤ (t.size : Int)) && ((lo == 0) && (hi == 0)))) := by
 have e : ∀ x : Int,decide (x = 0) = (x == 0) := fun x => by rw [Bool.eq_iff_iff]; simp
 unfold oneB
 simp only [e]
 rw [Bool.eq_iff_iff]
 simp
 omega
theorem pone_text (s t : ByteArray) (lo hi : Int) (w : World) (hs : s.size ≤ maxLen) (_ht : t.size ≤ maxLen) :
  Calls Tryz.prog 108 #[cv (s,2,lo,hi,t)] w fun e w' => e = .returned (.bool (oneB (s,2,lo,hi,t))) ∧ Below w.heap.size w w' := by
 have B := Lib.hid (new_below w (.cells #[.string s,.int .i64 2,.int .i64 lo,.int .i64 hi,.string t] 47))
 have NM := Lib.hid (fun w => name_at s w hs)
 have R := Lib.hid (oneB_text2 s t lo hi)
 generalize At.nameB s = b at *
 obtain ⟨b1,h1⟩ : ∃ x,(lo == 0) = x := ⟨_,rfl⟩
 obtain ⟨b2,h2⟩ : ∃ x,(hi == 0) = x := ⟨_,rfl⟩
 obtain ⟨b3,h3⟩ : ∃ x,decide ((t.size : Int) ≤ 12) = x := ⟨_,rfl⟩
 rw [h1,h2,h3] at R
 cases b <;> cases b1 <;> cases b2 <;> cases b3 <;> (
  go_enter Tryz.func108,Tryz.ntmps108
  go_wp2_with fail
  refine (NM.out _).mono ?_
  rintro e w' ⟨rfl,rfl⟩
  go_wp2
  go_ret
  exact ⟨by rw [R.out]; rfl,B.out⟩)
theorem pone_prefix (s t : ByteArray) (lo hi : Int) (w : World) (hs : s.size ≤ maxLen) (_ht : t.size ≤ maxLen) :
  Calls Tryz.prog 108 #[cv (s,3,lo,hi,t)] w fun e w' => e = .returned (.bool (oneB (s,3,lo,hi,t))) ∧ Below w.heap.size w w' := by
 have B := Lib.hid (new_below w (.cells #[.string s,.int .i64 3,.int .i64 lo,.int .i64 hi,.string t] 47))
 have NM := Lib.hid (fun w => name_at s w hs)
 have R := Lib.hid (oneB_text3 s t lo hi)
 have h4 : decide ((12 : Int) ≤ (t.size : Int)) = false → decide ((t.size : Int) ≤ 12) = true := by
  intro h
  simp at h ⊢
  omega
 generalize At.nameB s = b at *
 obtain ⟨b1,h1⟩ : ∃ x,(lo == 0) = x := ⟨_,rfl⟩
 obtain ⟨b2,h2⟩ : ∃ x,(hi == 0) = x := ⟨_,rfl⟩
 obtain ⟨b3,h3⟩ : ∃ x,decide ((12 : Int) ≤ (t.size : Int)) = x := ⟨_,rfl⟩
 rw [h1,h2,h3] at R
 cases b3
 ·have h5 := h4 h3
  clear h4
  cases b <;> cases b1 <;> cases b2 <;> (
   go_enter Tryz.func108,Tryz.ntmps108
   go_wp2_with fail
   refine (NM.out _).mono ?_
   rintro e w' ⟨rfl,rfl⟩
   go_wp2
   go_ret
   exact ⟨by rw [R.out]; rfl,B.out⟩)
 ·clear h4
  cases b <;> (
   go_enter Tryz.func108,Tryz.ntmps108
   go_wp2_with fail
   refine (NM.out _).mono ?_
   rintro e w' ⟨rfl,rfl⟩
   go_wp2
   go_ret
   exact ⟨by rw [R.out]; rfl,B.out⟩)
theorem pone_other (s t : ByteArray) (k lo hi : Int) (w : World) (hs : s.size ≤ maxLen) (h1 : k ≠ 1) (h2 : k ≠ 2) (h3 : k ≠ 3) :
  Calls Tryz.prog 108 #[cv (s,k,lo,hi,t)] w fun e w' => e = .returned (.bool (oneB (s,k,lo,hi,t))) ∧ Below w.heap.size w w' := by
 have B := Lib.hid (new_below w (.cells #[.string s,.int .i64 k,.int .i64 lo,.int .i64 hi,.string t] 47))
 have NM := Lib.hid (fun w => name_at s w hs)
 have R := Lib.hid (show oneB (s,k,lo,hi,t) = false by simp [oneB,h1,h2,h3])
 have e1 : (k == 1) = false := by simpa using h1
 have e2 : (k == 2) = false := by simpa using h2
 have e3 : (k == 3) = false := by simpa using h3
 clear h1 h2 h3
 generalize At.nameB s = b at *
 cases b <;> (
  go_enter Tryz.func108,Tryz.ntmps108
  go_wp2_with fail
  refine (NM.out _).mono ?_
  rintro e w' ⟨rfl,rfl⟩
  go_wp2
  go_ret
  exact ⟨by rw [R.out]; rfl,B.out⟩)
theorem pone_any (c : C5) (w : World) (hs : c.1.size ≤ maxLen) (ht : c.2.2.2.2.size ≤ maxLen) :
  Calls Tryz.prog 108 #[cv c] w fun e w' => e = .returned (.bool (oneB c)) ∧ Below w.heap.size w w' := by
 obtain ⟨s,k,lo,hi,t⟩ := c
 by_cases h1 : k = 1
 ·subst h1; exact pone_range s t lo hi w hs
 by_cases h2 : k = 2
 ·subst h2; exact pone_text s t lo hi w hs ht
 by_cases h3 : k = 3
 ·subst h3; exact pone_prefix s t lo hi w hs ht
 exact pone_other s t k lo hi w hs h1 h2 h3
theorem pright_any (lv : Value) (l : List C5) (w : World) (hl : RowC w lv l) (hs : ∀ x ∈ l,x.1.size ≤ maxLen ∧ x.2.2.2.2.size ≤ maxLen) :
  Calls Tryz.prog 54 #[lv] w fun e w' => e = .returned (.bool (rightP l)) ∧ Below w.heap.size w w' := by
 have HL := Lib.hid hl
 have HS := Lib.hid hs
 have HM := Lib.hid hl.most
 obtain ⟨ao,ac,rfl⟩ := hl.len
 clear hl hs
 by_cases hfew : l.length ≤ 5
 ·have d0 : decide ((5 : Int) < (l.length : Int)) = false := by simp; omega
  go_enter Tryz.func54,Tryz.ntmps54
  go_wp2
  go_loopw [10] (fun i wr => ∃ k : Nat,k ≤ l.length ∧ i = .int .i64 k ∧ Below w.heap.size w wr ∧ ∀ j,j < k → goodP l j = true) (fun i _ => l.length - (intOf i).toNat)
  case atStart => exact ⟨0,Nat.zero_le _,rfl,Below.refl _ _,fun j h => by omega⟩
  case round =>
   obtain ⟨k,hk,rfl,hb,hall⟩ := hrel
   have HB := Lib.hid hb
   have AL := Lib.hid hall
   clear hb hall d0
   by_cases hlt : k < l.length
   ·obtain ⟨⟨xn,xk,xi,xj,xs⟩,hx⟩ : ∃ x,l[k]? = some x := ⟨_,List.getElem?_eq_getElem hlt⟩
    obtain ⟨p,ix,px⟩ := elC HL.out rfl rfl hx
    obtain ⟨p0,p1,p2,p3,p4⟩ := px _ HB.out
    have hsz := HS.out _ (List.mem_of_getElem? hx)
    have C := Lib.hid (pone_any (xn,xk,xi,xj,xs) (wr.alloc (.cells #[.string xn,.int .i64 xk,.int .i64 xi,.int .i64 xj,.string xs] 47)) hsz.1 hsz.2)
    have B4 := Lib.hid (HB.out.alloc HB.out.size (.cells #[.string xn,.int .i64 xk,.int .i64 xi,.int .i64 xj,.string xs] 47))
    have X4 := Lib.hid (box_new wr #[.string xn,.int .i64 xk,.int .i64 xi,.int .i64 xj,.string xs] 47)
    have HX := Lib.hid hx
    obtain ⟨r1,h1⟩ : ∃ r,oneB (xn,xk,xi,xj,xs) = r := ⟨_,rfl⟩
    have E1 := Lib.hid h1
    rw [h1] at C
    clear hx px hsz h1
    simp only at p0 p1 p2 p3 p4
    go_wp2_with fail
    refine C.out.mono ?_
    rintro e5 w6 ⟨rfl,hb5⟩
    have BN := Lib.hid (B4.out.trans (hb5.mono B4.out.size))
    have b0 := cell_regrown (show w6.cell? ⟨wr.heap.size,0,none⟩ = some (.string xn) from (X4.out.on hb5).cell 0)
    clear hb5 C B4 ix p0 p1 p2 p3 p4 X4
    cases r1
    ·have R := Lib.hid (show rightP l = false from rightP_not l k hlt (by simp [goodP,HX.out,E1.out]))
     go_wp2
     go_ret
     exact ⟨ret_bool R.out.symm,BN.out⟩
    ·cases k with
     | zero =>
      have G := Lib.hid (show goodP l 0 = true by simp [goodP,HX.out,E1.out])
      rw [show ((0 : Nat) : Int) = 0 from rfl]
      go_wp2
      refine wp_region_quiet_below (by kernel_rfl) (by kernel_rfl) ?_
      repeat (go_big_quiet_step (fail))
      refine wpQuiet_nil ?_
      intro _ hw'
      obtain ⟨⟨dq,osq⟩,hw''⟩ := hw'
      subst hw''
      have BZ := Lib.hid (BN.out.trans ((below_regrown w6 dq osq).mono BN.out.size))
      clear b0
      go_wp2
      go_roundw
      case rel => exact ⟨0 + 1,by omega,by go_num,BZ.out,fun j hj => by
       rcases Nat.lt_or_ge j (0) with h3 | h3
       ·exact AL.out j h3
       ·obtain rfl : j = 0 := by omega
        exact G.out⟩
      case measure => simp [intOf]; omega
     | succ m =>
      obtain ⟨⟨yn,yt,yi,yj,ys⟩,hy⟩ : ∃ y,l[m]? = some y := ⟨_,List.getElem?_eq_getElem (by omega)⟩
      obtain ⟨q,iy,qx⟩ := elC HL.out rfl rfl hy
      have y0 := cell_regrown (qx _ BN.out).1
      have HY := Lib.hid hy
      obtain ⟨r3,h3⟩ : ∃ r,Op.bytesLess yn.toList xn.toList = r := ⟨_,rfl⟩
      have E3 := Lib.hid h3
      clear hy qx
      simp only at y0
      rw [show ((m + 1 : Nat) : Int) = (m : Int) + 1 from rfl]
      have e35 : IntKind.i64.wrap ((m : Int) + 1 - 1) = m := by rw [show (m : Int) + 1 - 1 = m by omega]; exact IntWalk.i64_in _ (by omega)
      have e36 : (m : Int) + 1 - 1 = m := by omega
      cases r3
      ·have R := Lib.hid (show rightP l = false from rightP_not l (m + 1) hlt (by simp [goodP,HX.out,E1.out,HY.out,pairC,E3.out]))
       go_wp2
       refine wp_region_quiet_below (by kernel_rfl) (by kernel_rfl) ?_
       repeat (go_big_quiet_step (fail))
       refine wpQuiet_nil ?_
       intro _ hw'
       obtain ⟨⟨dq,osq⟩,hw''⟩ := hw'
       subst hw''
       have BZ := Lib.hid (BN.out.trans ((below_regrown w6 dq osq).mono BN.out.size))
       go_wp2
       go_ret
       exact ⟨ret_bool R.out.symm,BZ.out⟩
      ·have G := Lib.hid (show goodP l (m + 1) = true by simp [goodP,HX.out,E1.out,HY.out,pairC,E3.out])
       go_wp2
       refine wp_region_quiet_below (by kernel_rfl) (by kernel_rfl) ?_
       repeat (go_big_quiet_step (fail))
       refine wpQuiet_nil ?_
       intro _ hw'
       obtain ⟨⟨dq,osq⟩,hw''⟩ := hw'
       subst hw''
       have BZ := Lib.hid (BN.out.trans ((below_regrown w6 dq osq).mono BN.out.size))
       clear iy y0 e35 e36 h3 b0
       go_wp2
       go_roundw
       case rel => exact ⟨m + 1 + 1,by omega,by go_num,BZ.out,fun j hj => by
        rcases Nat.lt_or_ge j (m + 1) with h3 | h3
        ·exact AL.out j h3
        ·obtain rfl : j = m + 1 := by omega
         exact G.out⟩
       case measure => simp [intOf]; omega
   ·obtain rfl : k = l.length := by omega
    have R := Lib.hid (show rightP l = true by rw [rightP_end l AL.out]; simp; omega)
    go_wp2
    go_ret
    exact ⟨ret_bool R.out.symm,HB.out⟩
 ·have d0 : decide ((5 : Int) < (l.length : Int)) = true := by simp; omega
  have R := Lib.hid (show rightP l = false by simp [rightP,hfew])
  go_enter Tryz.func54,Tryz.ntmps54
  go_wp2
  go_ret
  exact ⟨ret_bool R.out.symm,Below.refl _ _⟩
end Go.Proofs.YtncogjpmboglhaaGreat.Avp
namespace Go.Proofs.YtncogjpmboglhaaGreat.Pr
open Go.RowKit Pu Rw Va Kp
def smallC (c : Cn) : Prop := c.1.size ≤ 100 ∧ (kT c.2).size ≤ 100 ∧ (-9223372036854775808 ≤ kLo c.2 ∧ kLo c.2 ≤ 9223372036854775807) ∧ (-9223372036854775808 ≤ kHi c.2 ∧ kHi c.2 ≤ 9223372036854775807)
structure NF (l : List Cn) : Prop where
 rise : RiseC l
 five : l.length ≤ 5
 good : ∀ c ∈ l,goodC c = true
 small : ∀ c ∈ l,smallC c
theorem nameB_nm (i : Nat) (h : i < 7) : nameB (nm i) = true := by
 match i,h with
 | 0,_ => decide
 | 1,_ => decide
 | 2,_ => decide
 | 3,_ => decide
 | 4,_ => decide
 | 5,_ => decide
 | 6,_ => decide
theorem nm_size (i : Nat) : (nm i).size = 1 := rfl
theorem kd_small (n : Int) : (kT (kdOf n)).size ≤ 100 ∧ (-9223372036854775808 ≤ kLo (kdOf n) ∧ kLo (kdOf n) ≤ 9223372036854775807) ∧ (-9223372036854775808 ≤ kHi (kdOf n) ∧ kHi (kdOf n) ≤ 9223372036854775807) := by
 have h1 := Wi.within_bd (n.tdiv 4) 0 9 (by omega)
 have h2 := Wi.within_bd (n.tdiv 40) 0 9 (by omega)
 have ht : (tx6 n).size ≤ 3 := txt_size _
 unfold kdOf lo9
 split
 ·refine ⟨by show (0 : Nat) ≤ 100; omega,?_,?_⟩ <;> simp only [kLo,kHi] <;> omega
 ·split
  ·refine ⟨by show (tx6 n).size ≤ 100; omega,?_,?_⟩ <;> simp only [kLo,kHi] <;> omega
  ·refine ⟨by show (tx6 n).size ≤ 100; omega,?_,?_⟩ <;> simp only [kLo,kHi] <;> omega
theorem prd_small (has vals : List Int) : ∀ k,∀ x ∈ prd has vals k,smallC x
 | 0,x,h => by simp [prd] at h
 | k + 1,x,h => by
  simp only [prd] at h
  split at h
  ·rcases List.mem_append.1 h with h | h
   ·exact prd_small has vals k x h
   ·simp at h
    rw [h]
    exact ⟨by show (nm k).size ≤ 100; rw [nm_size]; omega,kd_small _⟩
  ·exact prd_small has vals k x h
theorem prd_nf (has vals : List Int) : NF (prd has vals 7) :=
 ⟨prd_rise has vals 7 (Nat.le_refl _),prd_five has vals 7,fun c hc => by
  obtain ⟨i,h1,h2⟩ := prd_names has vals 7 c hc
  simp only [goodC,Bool.and_eq_true]
  exact ⟨by rw [h2]; exact nameB_nm i h1,prd_good has vals 7 c hc⟩,prd_small has vals 7⟩
end Go.Proofs.YtncogjpmboglhaaGreat.Pr
namespace Go.Proofs.YtncogjpmboglhaaGreat.Bk
open Go.RowKit Rw YtncogjpmboglhaaGreat.Nm Pr Rl
def unR (c : C5) : Cn := (c.1,if c.2.1 = 1 then .rg c.2.2.1 c.2.2.2.1 else if c.2.1 = 2 then .tx c.2.2.2.2 else .pr c.2.2.2.2)
theorem unR_r5 (c : Cn) : unR (r5 c) = c := by
 obtain ⟨n,k⟩ := c
 cases k <;> simp [unR,r5,kN,kLo,kHi,kT]
theorem unR_map (a : List Cn) : (a.map r5).map unR = a := by
 rw [List.map_map]
 have h : unR ∘ r5 = id := funext unR_r5
 rw [h,List.map_id]
def PredOk (p : List C5) : Prop := ∃ a : List Cn,NF a ∧ p = a.map r5
def coversC (p q : List C5) : Bool := coversL (p.map unR) (q.map unR)
theorem covers_c (av_ bv : Value) (p q : List C5) (w : World) (ha : RowC w av_ p) (hb : RowC w bv q) (hp : PredOk p) (hq : PredOk q) :
  Calls Tryz.prog 73 #[av_,bv] w fun e w' => e = .returned (.bool (coversC p q)) ∧ Below w.heap.size w w' := by
 obtain ⟨a,na,rfl⟩ := hp
 obtain ⟨b,nb,rfl⟩ := hq
 unfold coversC
 rw [unR_map,unR_map]
 exact rcovers_any av_ bv a b w ha hb (by have := na.five; omega) (by have := nb.five; omega)
def covE (t : Id) (p : List C5) (e : En) : Bool := decide (e.tree = t) && (e.up && coversC e.p p)
def coveredE (m : List En) (t : Id) (p : List C5) : Bool := m.any (covE t p)
theorem rcovered_any (me : Int) (nv av sv ov : Value) (ev : Sl) (l : List XEn) (m : List En) (x : Id) (pv : Value) (p' : List C5) (w : World) (hs : RowN w (slv ev) l) (hu : All2 (EnIn w) l m) (hp : RowC w pv p') (hok : ∀ e ∈ m,PredOk e.p) (hop : PredOk p') :
  Calls Tryz.prog 15 #[.agg #[.int .i64 me,nv,av,sv,slv ev,ov],idv x,pv] w fun e w' => e = .returned (.bool (coveredE m x p')) ∧ Below w.heap.size w w' := by
 have HU := Lib.hid hu
 have HP := Lib.hid hp
 have OK := Lib.hid hok
 have OP := Lib.hid hop
 obtain ⟨pa,pc,rfl⟩ := hp.len
 obtain ⟨pn,hpn⟩ : ∃ n,n = p'.length := ⟨_,rfl⟩
 rw [← hpn] at HP ⊢
 clear hu hp hok hop hpn
 obtain ⟨c,d⟩ := x
 obtain ⟨so,sn,sc⟩ := ev
 obtain ⟨ao,ac,hv⟩ := hs.len
 have hv : Value.slice so sn sc = .slice ao l.length ac := hv
 obtain ⟨rfl,rfl,rfl⟩ : so = ao ∧ sn = l.length ∧ sc = ac := by simpa using hv
 obtain ⟨h0,h1,h2⟩ := two_new w #[.int .i64 me,nv,av,sv,.slice so l.length sc,ov] #[.int .i64 c,.int .i64 d] 31 38
 have B := Lib.hid h0
 have HS := Lib.hid (hs.on h0)
 have X2 := Lib.hid h1
 have X3 := Lib.hid h2
 have lm := hs.most
 unfold maxLen at lm
 obtain ⟨n,hn⟩ : ∃ n,n = l.length := ⟨_,rfl⟩
 have q3 := h1.cell 4
 simp only [List.getElem?_toArray,List.getElem?_cons_zero,List.getElem?_cons_succ] at q3
 rw [← hn] at HS X2 lm q3 B X3 ⊢
 have HN := Lib.hid hn.symm
 clear h0 h1 h2 hs hv hn
 go_enter Tryz.func15,Tryz.ntmps15
 go_upto_region 1 with fail
 generalize (w.alloc (.cells #[.int .i64 me,nv,av,sv,.slice so n sc,ov] 31)).alloc (.cells #[.int .i64 c,.int .i64 d] 38) = W at *
 go_wp2
 go_loopw [12] (fun i wr => ∃ k : Nat,k ≤ n ∧ i = .int .i64 k ∧ Below W.heap.size W wr ∧ ∀ (j : Nat) (y : En),j < k → m[j]? = some y → covE (c,d) p' y = false) (fun i _ => n - (intOf i).toNat)
 case atStart => exact ⟨0,Nat.zero_le _,rfl,Below.refl _ _,fun j y h => by omega⟩
 case round =>
  obtain ⟨k,hk,rfl,hbe,hall⟩ := hrel
  have BE := Lib.hid hbe
  have AL := Lib.hid hall
  clear hbe hall
  by_cases hlt : k < n
  ·obtain ⟨y,hy⟩ : ∃ y,l[k]? = some y := ⟨_,List.getElem?_eq_getElem (by rw [HN.out]; exact hlt)⟩
   obtain ⟨p,ix,px⟩ := elN HS.out rfl HN.out hy
   obtain ⟨p0,p1,p2,p3,p4,p5,p6⟩ := px wr BE.out
   obtain ⟨y1,y2,y3,y4,⟨yo,yn,yc⟩,y6,y7⟩ := y
   simp only at p0 p1 p2 p3 p4 p5 p6
   have NB := Lib.hid (newB wr (.cells #[.int .i64 y1,.int .i64 y2,.int .i64 y3,.int .i64 y4,.slice yo yn yc,.int .i64 y6,.bool y7] 43))
   obtain ⟨x0,x1⟩ := ((X3.out.on BE.out).on NB.out).cs2
   have hw3 : IntKind.i64.wrap ((k : Int) + 1) = (k : Int) + 1 := IntWalk.i64_in _ (by omega)
   obtain ⟨me_,hm,hin⟩ := at_left HU.out k _ hy
   obtain ⟨r,hr⟩ : ∃ r,(y1 == c && y2 == d) = r := ⟨_,rfl⟩
   obtain ⟨t,ht⟩ : ∃ r,coversC me_.p p' = r := ⟨_,rfl⟩
   have he := eqId y1 y2 c d r hr
   have HV := Lib.hid (show covE (c,d) p' me_ = (r && (y7 && t)) by
    rw [← hr,← ht]
    unfold covE
    rw [← hin.1,← hin.2.2.2.1]
    by_cases g1 : y1 = c <;> by_cases g2 : y2 = d <;> simp [g1,g2])
   have HM := Lib.hid hm
   have CV := Lib.hid (fun W' (hb' : Below w.heap.size w W') => (covers_c (.slice yo yn yc) (.slice pa pn pc) me_.p p' W' (hin.2.2.2.2.on hb') (HP.out.on hb') (OK.out _ (List.mem_of_getElem? hm)) OP.out))
   rw [ht] at CV
   clear px hy hr ht hm hin
   cases r
   ·go_wp2
    go_roundw
    case rel => exact ⟨k + 1,by omega,by go_num,BE.out.trans (NB.out.mono BE.out.size),fun j y' hj h1 => by
     rcases Nat.lt_or_ge j k with h3 | h3
     ·exact AL.out j y' h3 h1
     ·obtain rfl : j = k := by omega
      have e1 := HM.out
      rw [h1] at e1
      rw [Option.some.inj e1]
      exact HV.out.trans (by simp)⟩
    case measure => simp [intOf]; omega
   ·cases y7
    ·go_wp2
     go_roundw
     case rel => exact ⟨k + 1,by omega,by go_num,BE.out.trans (NB.out.mono BE.out.size),fun j y' hj h1 => by
     rcases Nat.lt_or_ge j k with h3 | h3
     ·exact AL.out j y' h3 h1
     ·obtain rfl : j = k := by omega
      have e1 := HM.out
      rw [h1] at e1
      rw [Option.some.inj e1]
      exact HV.out.trans (by simp)⟩
     case measure => simp [intOf]; omega
    ·have BF := Lib.hid (BE.out.trans (NB.out.mono BE.out.size))
     have CW := Lib.hid (CV.out _ (B.out.trans (BF.out.mono B.out.size)))
     clear CV
     go_wp2_with fail
     refine CW.out.mono ?_
     rintro e3 w3 ⟨rfl,hb⟩
     have BG := Lib.hid (BF.out.trans (hb.mono BF.out.size))
     clear CW hb x0 x1 p0 p1 p2 p3 p4 p5 p6 ix he
     cases t
     ·go_wp2
      go_roundw
      case rel => exact ⟨k + 1,by omega,by go_num,BG.out,fun j y' hj h1 => by
     rcases Nat.lt_or_ge j k with h3 | h3
     ·exact AL.out j y' h3 h1
     ·obtain rfl : j = k := by omega
      have e1 := HM.out
      rw [h1] at e1
      rw [Option.some.inj e1]
      exact HV.out.trans (by simp)⟩
      case measure => simp [intOf]; omega
     ·go_wp2
      go_ret
      have hd : coveredE m (c,d) p' = true := by
       unfold coveredE
       rw [List.any_eq_true]
       exact ⟨me_,List.mem_of_getElem? HM.out,HV.out.trans (by simp)⟩
      exact ⟨by rw [hd]; rfl,B.out.trans (BG.out.mono B.out.size)⟩
  ·obtain rfl : k = n := by omega
   go_wp2
   go_ret
   have hd : coveredE m (c,d) p' = false := by
    unfold coveredE
    rw [List.any_eq_false]
    intro e he
    obtain ⟨j,hj,hje⟩ := List.getElem_of_mem he
    have h9 := AL.out j e (by rw [← HN.out,HU.out.len]; exact hj) (by rw [List.getElem?_eq_getElem hj,hje])
    simpa using h9
   exact ⟨by rw [hd]; rfl,B.out.trans (BE.out.mono B.out.size)⟩
end Go.Proofs.YtncogjpmboglhaaGreat.Bk
namespace Go.Proofs.YtncogjpmboglhaaGreat.Bk
open Go.RowKit Go.Sort Rw YtncogjpmboglhaaGreat.Nm Pr
theorem place_isG {κ : Type} (f : κ → Bool) (l : List κ) (k : Nat) (hall : ∀ (j : Nat) (y : κ),j < k → l[j]? = some y → f y = true) (hend : k = l.length ∨ ∃ y,l[k]? = some y ∧ f y = false) : (l.takeWhile f).length = k := by
 induction l generalizing k with
 | nil =>
  rcases hend with h | ⟨y,h,_⟩
  ·rw [h]; rfl
  ·simp at h
 | cons a l ih =>
  cases k with
  | zero =>
   rcases hend with h | ⟨y,h,h2⟩
   ·simp at h
   ·obtain rfl : a = y := by simpa using h
    rw [List.takeWhile_cons,h2]
    rfl
  | succ k =>
   have h0 := hall 0 a (by omega) rfl
   rw [List.takeWhile_cons,h0]
   simp only [if_true,List.length_cons]
   rw [ih k (fun j y hj hy => hall (j + 1) y (by omega) (by simpa using hy)) (by
    rcases hend with h | ⟨y,h,h2⟩
    ·exact Or.inl (by simpa using h)
    ·exact Or.inr ⟨y,by simpa using h,h2⟩)]
def lessP (a b : Id × Id) : Bool := lessI a.1 b.1 || (eqI a.1 b.1 && lessI a.2 b.2)
def placeP (l : List (Id × Id)) (x : Id × Id) : Nat := (l.takeWhile fun a => lessP a x).length
noncomputable def addB0 : Code := ((Tryz.f17.body.bind (findBlock 0)).getD .skip)
theorem add_b0 (Q : Exit → Act → World → Prop) (W : World) (b2 b3 : Nat) (me c d g h : Int) (y1_ y2_ y3_ y5_ p3' p4' p5' : Value) (so : Option Addr) (n sc : Nat) (l : List XEn) (u0 u1 u4 u5 u6 u8 u9 u10 u11 u12 u13 u14 u15 u16 u17 u18 u19 u20 u21 u22 u23 u24 u25 u26 u27 u28 u29 u30 u31 u32 u33 u34 u35 u36 u37 u38 u39 u40 u41 u42 u43 u44 u45 u46 u47 u48 u49 u50 u51 u52 u53 u54 u55 u56 u57 u58 u59 u60 u61 u62 u63 u64 u65 u66 u67 u68 u69 u70 u71 u72 u73 u74 u75 u76 u77 u78 u79 u80 u81 u82 u83 u84 u85 u86 u87 u88 u89 u90 u91 u92 u93 u94 u95 u96 u97 u98 u99 u100 u101 u102 u103 u104 u105 u106 u107 u108 u109 u110 u111 u112 u113 u114 : Value)
  (h2 : Box W b2 #[.int .i64 me,y1_,y2_,y3_,.slice so n sc,y5_] 31) (h3 : Box W b3 #[.int .i64 c,.int .i64 d,.int .i64 g,.int .i64 h,p3',p4',p5'] 43) (hs : RowN W (.slice so n sc) l) (hn : n = l.length) (hm : n ≤ 1000000)
  (hQ : ∀ (wr : World) (v57 v58 v59 v60 v61 v62 v63 v64 v65 v66 v67 v68 v69 v70 v71 v72 v73 v74 v75 v76 v77 v78 v79 v80 v81 v82 v83 v84 v85 v86 v87 v88 v89 v90 v91 v92 v93 v94 v95 v96 : Value),Below W.heap.size W wr → Q .normal ⟨(u0 :: u1 :: .pointer (some ⟨b2,0,none⟩) :: .pointer (some ⟨b3,0,none⟩) :: u4 :: u5 :: u6 :: .int .i64 (placeP (l.map keyN) ((c,d),(g,h)) : Nat) :: u8 :: u9 :: u10 :: u11 :: u12 :: u13 :: u14 :: u15 :: u16 :: u17 :: u18 :: u19 :: u20 :: u21 :: u22 :: u23 :: u24 :: u25 :: u26 :: u27 :: u28 :: u29 :: u30 :: u31 :: u32 :: u33 :: u34 :: u35 :: u36 :: u37 :: u38 :: u39 :: u40 :: u41 :: u42 :: u43 :: u44 :: u45 :: u46 :: u47 :: u48 :: u49 :: u50 :: u51 :: u52 :: u53 :: u54 :: u55 :: u56 :: v57 :: v58 :: v59 :: v60 :: v61 :: v62 :: v63 :: v64 :: v65 :: v66 :: v67 :: v68 :: v69 :: v70 :: v71 :: v72 :: v73 :: v74 :: v75 :: v76 :: v77 :: v78 :: v79 :: v80 :: v81 :: v82 :: v83 :: v84 :: v85 :: v86 :: v87 :: v88 :: v89 :: v90 :: v91 :: v92 :: v93 :: v94 :: v95 :: v96 :: u97 :: u98 :: u99 :: u100 :: u101 :: u102 :: u103 :: u104 :: u105 :: u106 :: u107 :: u108 :: u109 :: u110 :: u111 :: u112 :: u113 :: u114 :: []).toArray,[]⟩ wr) :
  Code.wp Tryz.prog addB0 Q ⟨(u0 :: u1 :: .pointer (some ⟨b2,0,none⟩) :: .pointer (some ⟨b3,0,none⟩) :: u4 :: u5 :: u6 :: .int .i64 0 :: u8 :: u9 :: u10 :: u11 :: u12 :: u13 :: u14 :: u15 :: u16 :: u17 :: u18 :: u19 :: u20 :: u21 :: u22 :: u23 :: u24 :: u25 :: u26 :: u27 :: u28 :: u29 :: u30 :: u31 :: u32 :: u33 :: u34 :: u35 :: u36 :: u37 :: u38 :: u39 :: u40 :: u41 :: u42 :: u43 :: u44 :: u45 :: u46 :: u47 :: u48 :: u49 :: u50 :: u51 :: u52 :: u53 :: u54 :: u55 :: u56 :: u57 :: u58 :: u59 :: u60 :: u61 :: u62 :: u63 :: u64 :: u65 :: u66 :: u67 :: u68 :: u69 :: u70 :: u71 :: u72 :: u73 :: u74 :: u75 :: u76 :: u77 :: u78 :: u79 :: u80 :: u81 :: u82 :: u83 :: u84 :: u85 :: u86 :: u87 :: u88 :: u89 :: u90 :: u91 :: u92 :: u93 :: u94 :: u95 :: u96 :: u97 :: u98 :: u99 :: u100 :: u101 :: u102 :: u103 :: u104 :: u105 :: u106 :: u107 :: u108 :: u109 :: u110 :: u111 :: u112 :: u113 :: u114 :: []).toArray,[]⟩ W := by
 have HQ := Lib.hid hQ
 have H2 := Lib.hid h2
 have H3 := Lib.hid h3
 have HS := Lib.hid hs
 have HN := Lib.hid hn
 clear hQ h2 h3 hs hn
 conv => arg 2; whnf
 go_wp2
 go_loopw [7] (fun i wr => ∃ k : Nat,k ≤ n ∧ i = .int .i64 k ∧ Below W.heap.size W wr ∧ ∀ (j : Nat) (y : Id × Id),j < k → (l.map keyN)[j]? = some y → lessP y ((c,d),(g,h)) = true) (fun i _ => n - (intOf i).toNat)
 case atStart => exact ⟨0,Nat.zero_le _,rfl,Below.refl _ _,fun j y h => by omega⟩
 case round =>
  obtain ⟨k,hk,rfl,hbe,hall⟩ := hrel
  have BE := Lib.hid hbe
  have AL := Lib.hid hall
  clear hbe hall
  have q0 := cell_regrown (show wr.cell? ⟨b2,4,none⟩ = some (.slice so n sc) from (H2.out.on BE.out).cell 4)
  have r0 := cell_regrown (show wr.cell? ⟨b3,0,none⟩ = some (.int .i64 c) from (H3.out.on BE.out).cell 0)
  have r1 := cell_regrown (show wr.cell? ⟨b3,1,none⟩ = some (.int .i64 d) from (H3.out.on BE.out).cell 1)
  have r2 := cell_regrown (show wr.cell? ⟨b3,2,none⟩ = some (.int .i64 g) from (H3.out.on BE.out).cell 2)
  have r3 := cell_regrown (show wr.cell? ⟨b3,3,none⟩ = some (.int .i64 h) from (H3.out.on BE.out).cell 3)
  have hw3 : IntKind.i64.wrap ((k : Int) + 1) = (k : Int) + 1 := IntWalk.i64_in _ (by omega)
  by_cases hlt : k < n
  ·obtain ⟨y,hy⟩ : ∃ y,l[k]? = some y := ⟨_,List.getElem?_eq_getElem (by rw [← HN.out]; exact hlt)⟩
   obtain ⟨p,ix,px⟩ := elN HS.out rfl HN.out.symm hy
   have px2 := px wr BE.out
   obtain ⟨y1,y2,y3,y4,⟨yo,yn,yc⟩,y6,y7⟩ := y
   simp only at px2
   have p0 := cell_regrown px2.1
   have p1 := cell_regrown px2.2.1
   have p2 := cell_regrown px2.2.2.1
   have p3 := cell_regrown px2.2.2.2.1
   have dlt : decide ((k : Int) < (n : Int)) = true := decide_eq_true (by omega)
   have dln : decide (k < n) = true := decide_eq_true hlt
   obtain ⟨r,hr⟩ : ∃ r,lessI (y1,y2) (c,d) = r := ⟨_,rfl⟩
   obtain ⟨t,ht⟩ : ∃ r,(y1 == c && y2 == d) = r := ⟨_,rfl⟩
   obtain ⟨s,hs⟩ : ∃ r,lessI (y3,y4) (g,h) = r := ⟨_,rfl⟩
   have he := eqId y1 y2 c d t ht
   have LS := Lib.hid (fun d' os => Calls.regrown_of (d := d') (os := os) ((less_any (y1,y2) (c,d) (grow (redrawn wr d') os)).mono fun _ _ h => ⟨by rw [h.1,hr],h.2⟩))
   have LT := Lib.hid (fun d' os => Calls.regrown_of (d := d') (os := os) ((less_any (y3,y4) (g,h) (grow (redrawn wr d') os)).mono fun _ _ h => ⟨by rw [h.1,hs],h.2⟩))
   have HY := Lib.hid (show (l.map keyN)[k]? = some ((y1,y2),(y3,y4)) by rw [List.getElem?_map,hy]; rfl)
   have HV := Lib.hid (show lessP ((y1,y2),(y3,y4)) ((c,d),(g,h)) = (r || (t && s)) by rw [← hr,← ht,← hs]; rfl)
   clear px px2 hy hr ht hs
   cases r
   ·cases t
    ·have HR := Lib.hid (HV.out.trans (show _ = false by simp))
     go_wp2_with fail
     refine wp_region_quiet_below (by kernel_rfl) (by kernel_rfl) ?_
     repeat (go_big_quiet_step (first | (with_reducible exact LS.out _ _) | (with_reducible exact LT.out _ _)))
     refine wpQuiet_nil ?_
     intro _ hw'
     obtain ⟨⟨dq,osq⟩,hw''⟩ := hw'
     subst hw''
     have Z6 := below_regrown wr dq osq
     have HF := Lib.hid (fun v57 v58 v59 v60 v61 v62 v63 v64 v65 v66 v67 v68 v69 v70 v71 v72 v73 v74 v75 v76 v77 v78 v79 v80 v81 v82 v83 v84 v85 v86 v87 v88 v89 v90 v91 v92 v93 v94 v95 v96 => HQ.out (grow (redrawn wr dq) osq) v57 v58 v59 v60 v61 v62 v63 v64 v65 v66 v67 v68 v69 v70 v71 v72 v73 v74 v75 v76 v77 v78 v79 v80 v81 v82 v83 v84 v85 v86 v87 v88 v89 v90 v91 v92 v93 v94 v95 v96 (BE.out.trans (Z6.mono BE.out.size)))
     rw [show placeP (l.map keyN) ((c,d),(g,h)) = k from place_isG _ _ k AL.out (Or.inr ⟨_,HY.out,HR.out⟩)] at HF
     clear ix HQ q0 r0 r1 r2 r3 LS LT dlt dln p0 p1 p2 p3 he
     go_wp2
     exact HF.out _ _ _ _ _ _ _ _ _ _ _ _ _ _ _ _ _ _ _ _ _ _ _ _ _ _ _ _ _ _ _ _ _ _ _ _ _ _ _ _
    ·cases s
     ·have HR := Lib.hid (HV.out.trans (show _ = false by simp))
      go_wp2_with fail
      refine wp_region_quiet_below (by kernel_rfl) (by kernel_rfl) ?_
      repeat (go_big_quiet_step (first | (with_reducible exact LS.out _ _) | (with_reducible exact LT.out _ _)))
      refine wpQuiet_nil ?_
      intro _ hw'
      obtain ⟨⟨dq,osq⟩,hw''⟩ := hw'
      subst hw''
      have Z6 := below_regrown wr dq osq
      have HF := Lib.hid (fun v57 v58 v59 v60 v61 v62 v63 v64 v65 v66 v67 v68 v69 v70 v71 v72 v73 v74 v75 v76 v77 v78 v79 v80 v81 v82 v83 v84 v85 v86 v87 v88 v89 v90 v91 v92 v93 v94 v95 v96 => HQ.out (grow (redrawn wr dq) osq) v57 v58 v59 v60 v61 v62 v63 v64 v65 v66 v67 v68 v69 v70 v71 v72 v73 v74 v75 v76 v77 v78 v79 v80 v81 v82 v83 v84 v85 v86 v87 v88 v89 v90 v91 v92 v93 v94 v95 v96 (BE.out.trans (Z6.mono BE.out.size)))
      rw [show placeP (l.map keyN) ((c,d),(g,h)) = k from place_isG _ _ k AL.out (Or.inr ⟨_,HY.out,HR.out⟩)] at HF
      clear ix HQ q0 r0 r1 r2 r3 LS LT dlt dln p0 p1 p2 p3 he
      go_wp2
      exact HF.out _ _ _ _ _ _ _ _ _ _ _ _ _ _ _ _ _ _ _ _ _ _ _ _ _ _ _ _ _ _ _ _ _ _ _ _ _ _ _ _
     ·have HR := Lib.hid (HV.out.trans (show _ = true by simp))
      go_wp2_with fail
      refine wp_region_quiet_below (by kernel_rfl) (by kernel_rfl) ?_
      repeat (go_big_quiet_step (first | (with_reducible exact LS.out _ _) | (with_reducible exact LT.out _ _)))
      refine wpQuiet_nil ?_
      intro _ hw'
      obtain ⟨⟨dq,osq⟩,hw''⟩ := hw'
      subst hw''
      have Z6 := Lib.hid (below_regrown wr dq osq)
      clear ix q0 r0 r1 r2 r3 LS LT dlt dln p0 p1 p2 p3 he
      go_wp2
      go_roundw
      case rel => exact ⟨k + 1,by omega,by go_num,BE.out.trans (Z6.out.mono BE.out.size),fun j y' hj h1 => by
       rcases Nat.lt_or_ge j k with h3 | h3
       ·exact AL.out j y' h3 h1
       ·obtain rfl : j = k := by omega
        have e1 := HY.out
        rw [h1] at e1
        rw [Option.some.inj e1]
        exact HR.out⟩
      case measure => simp [intOf]; omega
   ·have HR := Lib.hid (HV.out.trans (show _ = true by simp))
    go_wp2_with fail
    refine wp_region_quiet_below (by kernel_rfl) (by kernel_rfl) ?_
    repeat (go_big_quiet_step (first | (with_reducible exact LS.out _ _) | (with_reducible exact LT.out _ _)))
    refine wpQuiet_nil ?_
    intro _ hw'
    obtain ⟨⟨dq,osq⟩,hw''⟩ := hw'
    subst hw''
    have Z6 := Lib.hid (below_regrown wr dq osq)
    clear ix q0 r0 r1 r2 r3 LS LT dlt dln p0 p1 p2 p3 he
    go_wp2
    go_roundw
    case rel => exact ⟨k + 1,by omega,by go_num,BE.out.trans (Z6.out.mono BE.out.size),fun j y' hj h1 => by
     rcases Nat.lt_or_ge j k with h3 | h3
     ·exact AL.out j y' h3 h1
     ·obtain rfl : j = k := by omega
      have e1 := HY.out
      rw [h1] at e1
      rw [Option.some.inj e1]
      exact HR.out⟩
    case measure => simp [intOf]; omega
  ·obtain rfl : n = k := by omega
   have dlt : decide ((n : Int) < (n : Int)) = false := by simp
   have dln : decide (n < n) = false := by simp
   go_wp2_with fail
   refine wp_region_quiet_below (by kernel_rfl) (by kernel_rfl) ?_
   repeat (go_big_quiet_step (fail))
   refine wpQuiet_nil ?_
   intro _ hw'
   obtain ⟨⟨dq,osq⟩,hw''⟩ := hw'
   subst hw''
   have Z6 := below_regrown wr dq osq
   have HF := Lib.hid (fun v57 v58 v59 v60 v61 v62 v63 v64 v65 v66 v67 v68 v69 v70 v71 v72 v73 v74 v75 v76 v77 v78 v79 v80 v81 v82 v83 v84 v85 v86 v87 v88 v89 v90 v91 v92 v93 v94 v95 v96 => HQ.out (grow (redrawn wr dq) osq) v57 v58 v59 v60 v61 v62 v63 v64 v65 v66 v67 v68 v69 v70 v71 v72 v73 v74 v75 v76 v77 v78 v79 v80 v81 v82 v83 v84 v85 v86 v87 v88 v89 v90 v91 v92 v93 v94 v95 v96 (BE.out.trans (Z6.mono BE.out.size)))
   rw [show placeP (l.map keyN) ((c,d),(g,h)) = n from place_isG _ _ n AL.out (Or.inl (by simpa using HN.out))] at HF
   clear HQ q0 r0 r1 r2 r3 dlt dln
   go_wp2
   exact HF.out _ _ _ _ _ _ _ _ _ _ _ _ _ _ _ _ _ _ _ _ _ _ _ _ _ _ _ _ _ _ _ _ _ _ _ _ _ _ _ _
abbrev keyE (e : En) : Id × Id := (e.tree,e.sub)
theorem keys_eq {W : World} {l : List XEn} {m : List En} (h : All2 (EnIn W) l m) : l.map keyN = m.map keyE := by
 induction h with
 | nil => rfl
 | cons x t ih => rw [List.map_cons,List.map_cons,ih,show keyN _ = keyE _ from Prod.ext x.1 x.2.1]
def addB (b : Br) (e : En) : Br × Bool := match b.adv[(findI (b.adv.map Ad.id) e.tree).toNat]? with
 | none => (b,false)
 | some a => if findI (b.adv.map Ad.id) e.tree = -1 then (b,false) else if findK (b.ent.map keyE) (keyE e) ≠ -1 then (b,false) else if e.from_ ≠ -1 ∧ e.from_ = a.par then (b,false) else
  ({ b with ent := insAt b.ent (placeP (b.ent.map keyE) (keyE e)) { e with up := decide (a.par ≠ -1) && !coveredE b.ent e.tree e.p } },decide (a.par ≠ -1) && !coveredE b.ent e.tree e.p)
theorem placeP_le (l : List (Id × Id)) (x : Id × Id) : placeP l x ≤ l.length := by
 unfold placeP
 exact (List.takeWhile_sublist _).length_le
theorem box_sevenN {W : World} {b : Nat} {c d g h f : Int} {p : Sl} {u : Bool} (hb : Box W b #[.int .i64 c,.int .i64 d,.int .i64 g,.int .i64 h,slv p,.int .i64 f,.bool u] 43) : ∀ x,Below W.heap.size W x → ∀ j v,(cellsN (c,d,g,h,p,f,u))[j]? = some v → x.cell? ((⟨b,0,none⟩ : Addr).add j) = some v := by
 intro x hx j v hj
 rw [add_own,(hb.on hx).cell]
 match j with
 | 0 => exact hj
 | 1 => exact hj
 | 2 => exact hj
 | 3 => exact hj
 | 4 => exact hj
 | 5 => exact hj
 | 6 => exact hj
 | j + 7 => simp at hj
theorem radd2_any (b : Br) (nv av sv ev ov : Sl) (z : XEn) (e : En) (w : World) (es : List XEn) (R : XEn → En → Prop) (h_ : BrIn w b nv av sv ev ov) (he1 : RowN w (slv ev) es) (he2 : All2 (EnIn w) es b.ent) (hr2 : All2 R es b.ent) (hrz : ∀ u,R (z.1,z.2.1,z.2.2.1,z.2.2.2.1,z.2.2.2.2.1,z.2.2.2.2.2.1,u) { e with up := u }) (hz : EnIn w z e) (l2 : b.adv.length ≤ 900) (l3 : b.ent.length ≤ 900) (hok : ∀ e ∈ b.ent,PredOk e.p) (hop : PredOk e.p) :
  Calls Tryz.prog 17 #[brv b.me nv av sv ev ov,valN z] w fun e' w' => (∃ (ev' : Sl) (xs : List XEn),e' = .returned (.tuple #[brv b.me nv av sv ev' ov,.bool (addB b e).2]) ∧ ((ev' = ev ∧ xs = es ∧ (addB b e).1 = b) ∨ OwnN w' w.heap.size (slv ev') xs) ∧ All2 R xs (addB b e).1.ent) ∧ Below w.heap.size w w' := by
 obtain ⟨no,nn,nc⟩ := nv
 obtain ⟨ao,an,ac⟩ := av
 obtain ⟨so,sn,sc⟩ := sv
 obtain ⟨eo,en,ec⟩ := ev
 obtain ⟨oo,on_,oc⟩ := ov
 obtain ⟨c,d,g,h,⟨po,pn,pc⟩,fr,up0⟩ := z
 obtain ⟨⟨tc,td⟩,⟨sg,sh⟩,p',fr',up'⟩ := e
 obtain ⟨hz1,hz2,hz3,hz4,hz5⟩ := hz
 obtain ⟨rfl,rfl⟩ : c = tc ∧ d = td := by simpa using hz1
 obtain ⟨rfl,rfl⟩ : g = sg ∧ h = sh := by simpa using hz2
 obtain rfl : fr = fr' := hz3
 obtain rfl : up0 = up' := hz4
 have HP := Lib.hid hz5
 have HR2 := Lib.hid hr2
 have HRZ := Lib.hid hrz
 clear hr2 hrz
 obtain ⟨xs,hx1,hx2⟩ := h_.adv
 have IDS := Lib.hid (ids_eq hx2)
 have KYS := Lib.hid (keys_eq he2)
 have XL := Lib.hid (show xs.length ≤ 900 by rw [hx2.len]; exact l2)
 have EL := Lib.hid (show es.length ≤ 900 by rw [he2.len]; exact l3)
 have HA2 := Lib.hid hx2
 have HE2 := Lib.hid he2
 have OK := Lib.hid hok
 have OP := Lib.hid hop
 obtain ⟨q1,q2,hq⟩ := hx1.len
 obtain ⟨rfl,rfl,rfl⟩ : ao = q1 ∧ an = xs.length ∧ ac = q2 := by
  have : Value.slice ao an ac = .slice q1 xs.length q2 := hq
  simpa using this
 clear hq
 obtain ⟨q1,q2,hq⟩ := he1.len
 obtain ⟨rfl,rfl,rfl⟩ : eo = q1 ∧ en = es.length ∧ ec = q2 := by
  have : Value.slice eo en ec = .slice q1 es.length q2 := hq
  simpa using this
 clear hq
 have FD := rfind_any b.me (.slice no nn nc) (.slice eo es.length ec) (.slice so sn sc) (.slice oo on_ oc) (ao,xs.length,ac) xs (c,d)
 have EN := rentry_any b.me (.slice no nn nc) (.slice ao xs.length ac) (.slice so sn sc) (.slice oo on_ oc) (eo,es.length,ec) es (c,d) (g,h)
 have CV := fun W hb' => rcovered_any b.me (.slice no nn nc) (.slice ao xs.length ac) (.slice so sn sc) (.slice oo on_ oc) (eo,es.length,ec) es b.ent (c,d) (.slice po pn pc) p' W (he1.on (show Below w.heap.size w W from hb')) (he2.mono fun _ _ h => h.on hb') (hz5.on hb') hok hop
 have HH := Lib.hid h_
 obtain ⟨h0,h1,h2,h3⟩ := three_new w #[.int .i64 b.me,.slice no nn nc,.slice ao xs.length ac,.slice so sn sc,.slice eo es.length ec,.slice oo on_ oc] #[.int .i64 c,.int .i64 d,.int .i64 g,.int .i64 h,.slice po pn pc,.int .i64 fr,.bool up0] #[.int .i64 0,.slice none 0 0,.slice none 0 0,.slice none 0 0,.slice none 0 0,.slice none 0 0] 31 43 31
 obtain ⟨n2,hn2⟩ : ∃ n,n = xs.length := ⟨_,rfl⟩
 obtain ⟨n3,hn3⟩ : ∃ n,n = es.length := ⟨_,rfl⟩
 simp only [← hn2,← hn3] at h0 h1 h2 h3 hx1 he1 HH FD EN CV ⊢
 have B0 := Lib.hid h0
 have X2 := Lib.hid h1
 have X3 := Lib.hid h2
 have X5 := Lib.hid h3
 have HS := Lib.hid hx1
 have HE := Lib.hid he1
 have N2 := Lib.hid hn2
 have N3 := Lib.hid hn3
 obtain ⟨me,hme⟩ : ∃ me,me = b.me := ⟨_,rfl⟩
 simp only [← hme] at X2 B0 X3 X5 FD EN CV ⊢
 have EN := Lib.hid EN
 have CV := Lib.hid CV
 clear h0 h1 h2 h3 hx1 he1 hx2 he2 h_ hn2 hn3 l2 l3 hme hz1 hz2 hz5 hok hop
 show Calls Tryz.prog 17 #[.agg #[.int .i64 me,.slice no nn nc,.slice ao n2 ac,.slice so sn sc,.slice eo n3 ec,.slice oo on_ oc],.agg #[.int .i64 c,.int .i64 d,.int .i64 g,.int .i64 h,.slice po pn pc,.int .i64 fr,.bool up0]] w _
 go_enter Tryz.func17,Tryz.ntmps17
 go_upto_region 1 with fail
 generalize (((w.alloc (.cells #[.int .i64 me,.slice no nn nc,.slice ao n2 ac,.slice so sn sc,.slice eo n3 ec,.slice oo on_ oc] 31)).alloc (.cells #[.int .i64 c,.int .i64 d,.int .i64 g,.int .i64 h,.slice po pn pc,.int .i64 fr,.bool up0] 43)).alloc (.cells #[.int .i64 0,.slice none 0 0,.slice none 0 0,.slice none 0 0,.slice none 0 0,.slice none 0 0] 31)) = W at *
 have SW := Lib.hid (FD W (HS.out.on B0.out))
 clear FD
 have x_ := X2.out
 have y_ := X3.out
 obtain ⟨x0,x1,x2,x3,x4,x5⟩ := x_.cs6
 obtain ⟨y0,y1,y2,y3,y4,y5,y6⟩ := y_.cs7
 clear x_ y_
 go_wp2_with fail
 refine SW.out.mono ?_
 rintro e1 w1 ⟨rfl,hb⟩
 have B1 := Lib.hid (B0.out.trans (hb.mono B0.out.size))
 have Y2 := Lib.hid (X2.out.on hb)
 have Y3 := Lib.hid (X3.out.on hb)
 have Y5 := Lib.hid (X5.out.on hb)
 clear SW hb X2 X3 X5 x0 x1 x2 x3 x4 x5 y0 y1 y2 y3 y4 y5 y6
 have a0 := cell_regrown (show w1.cell? ⟨w.heap.size,0,none⟩ = some (.int .i64 me) from Y2.out.cell 0)
 have a1 := cell_regrown (show w1.cell? ⟨w.heap.size,1,none⟩ = some (.slice no nn nc) from Y2.out.cell 1)
 have a2 := cell_regrown (show w1.cell? ⟨w.heap.size,2,none⟩ = some (.slice ao n2 ac) from Y2.out.cell 2)
 have a3 := cell_regrown (show w1.cell? ⟨w.heap.size,3,none⟩ = some (.slice so sn sc) from Y2.out.cell 3)
 have a4 := cell_regrown (show w1.cell? ⟨w.heap.size,4,none⟩ = some (.slice eo n3 ec) from Y2.out.cell 4)
 have a5 := cell_regrown (show w1.cell? ⟨w.heap.size,5,none⟩ = some (.slice oo on_ oc) from Y2.out.cell 5)
 have b0 := cell_regrown (show w1.cell? ⟨w.heap.size + 1,0,none⟩ = some (.int .i64 c) from Y3.out.cell 0)
 have b1 := cell_regrown (show w1.cell? ⟨w.heap.size + 1,1,none⟩ = some (.int .i64 d) from Y3.out.cell 1)
 have b2 := cell_regrown (show w1.cell? ⟨w.heap.size + 1,2,none⟩ = some (.int .i64 g) from Y3.out.cell 2)
 have b3 := cell_regrown (show w1.cell? ⟨w.heap.size + 1,3,none⟩ = some (.int .i64 h) from Y3.out.cell 3)
 have b4 := cell_regrown (show w1.cell? ⟨w.heap.size + 1,4,none⟩ = some (.slice po pn pc) from Y3.out.cell 4)
 have b5 := cell_regrown (show w1.cell? ⟨w.heap.size + 1,5,none⟩ = some (.int .i64 fr) from Y3.out.cell 5)
 have b6 := cell_regrown (show w1.cell? ⟨w.heap.size + 1,6,none⟩ = some (.bool up0) from Y3.out.cell 6)
 have CE := Lib.hid (fun d os => Calls.regrown_of (d := d) (os := os) (EN.out _ ((HE.out.on B1.out).on (below_regrown w1 d os))))
 clear EN
 rcases find_or xs (c,d) with hf | ⟨k,y,hf,hy⟩
 ·have LB := Lib.hid (show addB b ⟨(c,d),(g,h),p',fr,up0⟩ = (b,false) by
   have hf' := hf
   rw [IDS.out] at hf'
   unfold addB
   simp only
   rw [hf']
   split
   ·rfl
   ·rw [if_pos rfl])
  rw [hf]
  clear hf
  go_upto_region 2 with fail
  refine wp_region_quiet_below (by kernel_rfl) (by kernel_rfl) ?_
  repeat (go_big_quiet_step (fail))
  refine wpQuiet_nil ?_
  intro _ hw'
  obtain ⟨⟨dq,osq⟩,hw''⟩ := hw'
  subst hw''
  have Z6 := below_regrown w1 dq osq
  have B2 := Lib.hid (B1.out.trans (Z6.mono B1.out.size))
  have Z2 := Lib.hid (Y2.out.on Z6)
  have Z3 := Lib.hid (Y3.out.on Z6)
  have Z5 := Lib.hid (Y5.out.on Z6)
  clear Z6 B1 Y2 Y3 Y5 a0 a1 a2 a3 a4 a5 b0 b1 b2 b3 b4 b5 b6
  generalize grow (redrawn w1 dq) osq = w2 at *
  have FB := Lib.hid (setB_box Z5.out (.int .i64 me) (.slice no nn nc) (.slice ao n2 ac) (.slice so sn sc) (.slice eo n3 ec) (.slice oo on_ oc))
  have BL := Lib.hid (setB_below (b := w.heap.size + 1 + 1) B2.out (by omega) (.int .i64 me) (.slice no nn nc) (.slice ao n2 ac) (.slice so sn sc) (.slice eo n3 ec) (.slice oo on_ oc))
  have X2a := Z2.out
  have X5a := Z5.out
  obtain ⟨x0,x1,x2,x3,x4,x5⟩ := X2a.cs6
  obtain ⟨r0,r1,r2,r3,r4,r5⟩ := X5a.cs6
  obtain ⟨t0,t1,t2,t3,t4,t5⟩ := X5a.fs6
  have zz := X5a.lt
  clear X2a X5a
  go_wp2_with fail
  obtain ⟨v0,v1,v2,v3,v4,v5⟩ := FB.out.cs6
  refine bodyPost_ret (v := .tuple #[.agg #[.int .i64 me,.slice no nn nc,.slice ao n2 ac,.slice so sn sc,.slice eo n3 ec,.slice oo on_ oc],.bool false]) (by simp [results,Tryz.results17,go_sem,v0,v1,v2,v3,v4,v5]) rfl ?_
  rw [LB.out]
  exact ⟨⟨(eo,n3,ec),es,rfl,Or.inl ⟨rfl,rfl,rfl⟩,HR2.out⟩,BL.out⟩
 ·have HF := Lib.hid hf
  have HY := Lib.hid hy
  have hk := (List.getElem?_eq_some_iff.1 hy).1
  have XL2 := XL.out
  have hkn : k < n2 := by rw [N2.out]; exact hk
  obtain ⟨p,ix,px⟩ := elD HS.out rfl N2.out.symm hy
  obtain ⟨z1,z2,⟨zo,zn,zc⟩,par⟩ := y
  have PX := Lib.hid px
  have pr := cell_regrown (show w1.cell? ⟨p.block,p.off + 3,none⟩ = some (.int .i64 par) from (px w1 B1.out).2.2.2)
  obtain ⟨a,hak⟩ : ∃ a,b.adv[k]? = some a := ⟨_,List.getElem?_eq_getElem (by rw [← HA2.out.len]; exact hk)⟩
  have hap : a.par = par := by
   obtain ⟨z,hz1,hz2⟩ := HA2.out.at k a hak
   rw [HY.out] at hz1
   obtain rfl := Option.some.inj hz1
   exact hz2.2.1.symm
  have LA := Lib.hid (show ∀ i,findK (es.map keyN) ((c,d),(g,h)) = i → addB b ⟨(c,d),(g,h),p',fr,up0⟩ = if i ≠ -1 then (b,false) else if fr ≠ -1 ∧ fr = par then (b,false) else ({ b with ent := insAt b.ent (placeP (b.ent.map keyE) ((c,d),(g,h))) ⟨(c,d),(g,h),p',fr,decide (par ≠ -1) && !coveredE b.ent (c,d) p'⟩ },decide (par ≠ -1) && !coveredE b.ent (c,d) p') from fun i hi => by
   have hf' := HF.out
   rw [IDS.out] at hf'
   rw [KYS.out] at hi
   unfold addB
   simp only
   rw [hf',Int.toNat_natCast,hak]
   simp only
   rw [if_neg (by omega),hap,hi])
  have hik : decide ((k : Int) < 0) = false := decide_eq_false (by omega)
  rw [hf]
  clear hf hy px hak hap HF HY
  rcases findK_or (es.map keyN) ((c,d),(g,h)) with he | ⟨j,he,_⟩
  ·have LC := LA.out _ he
   rw [if_neg (by simp)] at LC
   rw [he] at CE
   clear LA he
   obtain ⟨f1,hf1⟩ : ∃ r,(fr != -1) = r := ⟨_,rfl⟩
   obtain ⟨f2,hf2⟩ : ∃ r,(fr == par) = r := ⟨_,rfl⟩
   have F1 := Lib.hid hf1
   have F2_ := Lib.hid hf2
   cases f1
   ·have LD := LC
    rw [if_neg (by exact fun q => q.1 (by simpa using hf1))] at LD
    clear LC
    go_upto_region 2 with fail
    refine wp_region_quiet_below (by kernel_rfl) (by kernel_rfl) ?_
    repeat (go_big_quiet_step (first | (with_reducible exact CE.out _ _)))
    refine wpQuiet_nil ?_
    intro _ hw'
    obtain ⟨⟨dq,osq⟩,hw''⟩ := hw'
    subst hw''
    have Z6 := below_regrown w1 dq osq
    have B2 := Lib.hid (B1.out.trans (Z6.mono B1.out.size))
    have Z2 := Lib.hid (Y2.out.on Z6)
    have Z3 := Lib.hid (Y3.out.on Z6)
    have Z5 := Lib.hid (Y5.out.on Z6)
    clear Z6 B1 Y2 Y3 Y5 a0 a1 a2 a3 a4 a5 b0 b1 b2 b3 b4 b5 b6
    generalize grow (redrawn w1 dq) osq = w2 at *
    have p3b := (PX.out w2 B2.out).2.2.2
    have x_ := Z2.out
    have y_ := Z3.out
    obtain ⟨x0,x1,x2,x3,x4,x5⟩ := x_.cs6
    obtain ⟨y0,y1,y2,y3,y4,y5,y6⟩ := y_.cs7
    clear x_ y_
    obtain ⟨g1,hg1⟩ : ∃ r,(par != -1) = r := ⟨_,rfl⟩
    have GP := Lib.hid (show decide (par ≠ -1) = g1 by rw [← hg1]; by_cases q : par = -1 <;> simp [q])
    rw [GP.out] at LD
    cases g1
    ·have LB := Lib.hid LD
     clear LD CV
     have B3 := Lib.hid B2.out
     have F2 := Lib.hid Z2.out
     have F3 := Lib.hid Z3.out
     have F5 := Lib.hid Z5.out
     clear B2 Z2 Z3 Z5
     have f3 := F3.out
     obtain ⟨k0,k1,k2,k3,k4,k5,k6⟩ := f3.cs7
     have f36 := f3.fr 6
     have f3l := f3.lt
     clear f3
     go_upto_region 5 with fail
     clear k0 k1 k2 k3 k4 k5 k6 f36 f3l
     have G3 := Lib.hid (show Box _ _ #[.int .i64 c,.int .i64 d,.int .i64 g,.int .i64 h,.slice po pn pc,.int .i64 fr,.bool false] _ from by simpa using box_set (k := 6) F3.out (.bool false))
     have G2 := Lib.hid (show Box _ _ _ _ from (RowKit.Below.heap_setCell w2 ⟨w.heap.size + 1,6,none⟩ (.bool false) _ (show w.heap.size ≠ w.heap.size + 1 by omega)).trans F2.out)
     have G5 := Lib.hid (show Box _ _ _ _ from (RowKit.Below.heap_setCell w2 ⟨w.heap.size + 1,6,none⟩ (.bool false) _ (show w.heap.size + 1 + 1 ≠ w.heap.size + 1 by omega)).trans F5.out)
     have B4 := Lib.hid (B3.out.setCell (p := ⟨w.heap.size + 1,6,none⟩) (by show w.heap.size ≤ w.heap.size + 1; omega) (.bool false))
     clear B3 F2 F3 F5
     generalize w2.setCell ⟨w.heap.size + 1,6,none⟩ (.bool false) = w4 at *
     have R4 := Lib.hid (HE.out.on B4.out)
     go_upto_block 0 with (fail)
     refine add_b0 _ w4 w.heap.size (w.heap.size + 1) me c d g h _ _ _ _ _ _ _ eo n3 ec es _ _ _ _ _ _ _ _ _ _ _ _ _ _ _ _ _ _ _ _ _ _ _ _ _ _ _ _ _ _ _ _ _ _ _ _ _ _ _ _ _ _ _ _ _ _ _ _ _ _ _ _ _ _ _ _ _ _ _ _ _ _ _ _ _ _ _ _ _ _ _ _ _ _ _ _ _ _ _ _ _ _ _ _ _ _ _ _ _ _ _ _ _ _ _ _ _ _ _ _ _ _ _ _ _ _ _ _ _ _ _ _ G2.out G3.out R4.out N3.out (by have := EL.out; have := N3.out; omega) ?_
     intro wr v57 v58 v59 v60 v61 v62 v63 v64 v65 v66 v67 v68 v69 v70 v71 v72 v73 v74 v75 v76 v77 v78 v79 v80 v81 v82 v83 v84 v85 v86 v87 v88 v89 v90 v91 v92 v93 v94 v95 v96 hb
     have B5 := Lib.hid (B4.out.trans (hb.mono B4.out.size))
     have K2 := Lib.hid (G2.out.on hb)
     have K3 := Lib.hid (G3.out.on hb)
     have K5 := Lib.hid (G5.out.on hb)
     have R5 := Lib.hid (R4.out.on hb)
     clear hb B4 G2 G3 G5 R4
     go_upto_region 8 with fail
     refine ins8 _ wr w.heap.size (w.heap.size + 1) me _ _ _ _ eo n3 ec (placeP (es.map keyN) ((c,d),(g,h))) es (c,d,g,h,(po,pn,pc),fr,false) _ _ _ _ _ _ _ _ _ _ _ _ _ _ _ _ _ _ _ _ _ _ _ _ _ _ _ _ _ _ _ _ _ _ _ _ _ _ _ _ _ _ _ _ _ _ _ _ _ _ _ _ _ _ _ _ _ _ _ _ _ _ _ _ _ _ _ _ _ _ _ _ _ _ _ _ _ _ _ _ _ _ _ _ _ _ _ _ _ _ _ _ _ _ _ _ _ _ _ _ _ _ _ _ _ _ _ _ _ _ _ _ K2.out (box_sevenN (p := (po,pn,pc)) K3.out) R5.out (by have := placeP_le (es.map keyN) ((c,d),(g,h)); rw [List.length_map] at this; exact this) EL.out ?_
     intro xw v97 v98 v99 v100 v101 v102 v103 v104 v105 v106 v107 v108 v109 v110 v111 hbx ho hbl hoth hblk
     obtain ⟨td1,td2,htv⟩ := (Row.of_own ho).len
     obtain ⟨tl,htl⟩ : ∃ n,n = (es.take (placeP (es.map keyN) ((c,d),(g,h))) ++ [(c,d,g,h,(po,pn,pc),fr,false)] ++ es.drop (placeP (es.map keyN) ((c,d),(g,h)))).length := ⟨_,rfl⟩
     rw [← htl] at htv
     subst htv
     have B6 := Lib.hid (B5.out.trans (hbl _ (Nat.le_refl _)))
     have M2 := hbx
     have M3 := hoth _ _ _ (by omega) K3.out
     have M5 := hoth _ _ _ (by omega) K5.out
     have OE := Lib.hid (own_fewer ho (show w.heap.size + 3 ≤ wr.heap.size by have := K5.out.lt; omega))
     clear ho hbl hoth hblk htl hbx B5 K2 K3 K5 R5
     go_upto_region 9 with fail
     refine add_r9 _ xw w.heap.size (w.heap.size + 1) (w.heap.size + 1 + 1) me no ao so td1 oo nn nc n2 ac sn sc tl td2 on_ oc _ _ _ _ _ _ _ _ _ _ _ _ false _ _ _ _ _ _ _ _ _ _ _ _ _ _ _ _ _ _ _ _ _ _ _ _ _ _ _ _ _ _ _ _ _ _ _ _ _ _ _ _ _ _ _ _ _ _ _ _ _ _ _ _ _ _ _ _ _ _ _ _ _ _ _ _ _ _ _ _ _ _ _ _ _ _ _ _ _ _ _ _ _ _ _ _ _ _ _ _ _ _ _ _ _ _ _ _ _ _ _ _ _ _ _ _ _ _ _ _ _ _ _ _ M2 M3 M5 (by omega) ?_
     intro a9 x9 hd9 h49 h59 hx9
     subst hx9
     have FB := Lib.hid (setB_box M5.drew (.int .i64 me) (.slice no nn nc) (.slice ao n2 ac) (.slice so sn sc) (.slice td1 tl td2) (.slice oo on_ oc))
     have BL := Lib.hid (setB_below (b := w.heap.size + 1 + 1) B6.out.drew (by omega) (.int .i64 me) (.slice no nn nc) (.slice ao n2 ac) (.slice so sn sc) (.slice td1 tl td2) (.slice oo on_ oc))
     have FE := Lib.hid (setB_ownA (own_on OE.out ((Below.refl xw.heap.size xw).drew)) (w.heap.size + 1 + 1) (by omega) (.int .i64 me) (.slice no nn nc) (.slice ao n2 ac) (.slice so sn sc) (.slice td1 tl td2) (.slice oo on_ oc))
     clear OE M2 M3 M5 B6
     simp only [Exit.then]
     apply_assumption
     go_wp2_with fail
     obtain ⟨v0,v1,v2,v3,v4,v5⟩ := FB.out.cs6
     refine bodyPost_ret (v := .tuple #[.agg #[.int .i64 me,.slice no nn nc,.slice ao n2 ac,.slice so sn sc,.slice td1 tl td2,.slice oo on_ oc],.bool false]) (by simp [results,Tryz.results17,go_sem,h49,h59,v0,v1,v2,v3,v4,v5]) hd9 ?_
     rw [LB.out]
     refine ⟨⟨(td1,tl,td2),_,rfl,Or.inr (own_fewer FE.out (show w.heap.size ≤ w.heap.size + 3 by omega)),?_⟩,BL.out⟩
     rw [← KYS.out]
     exact ((HR2.out.take _).append (.cons (HRZ.out _) .nil)).append (HR2.out.drop _)
    ·have CW := Lib.hid (CV.out w2 B2.out)
     obtain ⟨cv,hcv⟩ : ∃ r,coveredE b.ent (c,d) p' = r := ⟨_,rfl⟩
     rw [hcv] at CW LD
     clear CV hcv
     go_wp2_with fail
     refine CW.out.mono ?_
     rintro e3 w3 ⟨rfl,hb⟩
     have B3 := Lib.hid (B2.out.trans (hb.mono B2.out.size))
     have F2 := Lib.hid (Z2.out.on hb)
     have F3 := Lib.hid (Z3.out.on hb)
     have F5 := Lib.hid (Z5.out.on hb)
     clear hb CW B2 Z2 Z3 Z5 x0 x1 x2 x3 x4 x5 y0 y1 y2 y3 y4 y5 y6 p3b
     cases cv
     ·have LB := Lib.hid LD
      clear LD
      have f3 := F3.out
      obtain ⟨k0,k1,k2,k3,k4,k5,k6⟩ := f3.cs7
      have f36 := f3.fr 6
      have f3l := f3.lt
      clear f3
      go_upto_region 5 with fail
      clear k0 k1 k2 k3 k4 k5 k6 f36 f3l
      have G3 := Lib.hid (show Box _ _ #[.int .i64 c,.int .i64 d,.int .i64 g,.int .i64 h,.slice po pn pc,.int .i64 fr,.bool true] _ from by simpa using box_set (k := 6) F3.out (.bool true))
      have G2 := Lib.hid (show Box _ _ _ _ from (RowKit.Below.heap_setCell w3 ⟨w.heap.size + 1,6,none⟩ (.bool true) _ (show w.heap.size ≠ w.heap.size + 1 by omega)).trans F2.out)
      have G5 := Lib.hid (show Box _ _ _ _ from (RowKit.Below.heap_setCell w3 ⟨w.heap.size + 1,6,none⟩ (.bool true) _ (show w.heap.size + 1 + 1 ≠ w.heap.size + 1 by omega)).trans F5.out)
      have B4 := Lib.hid (B3.out.setCell (p := ⟨w.heap.size + 1,6,none⟩) (by show w.heap.size ≤ w.heap.size + 1; omega) (.bool true))
      clear B3 F2 F3 F5
      generalize w3.setCell ⟨w.heap.size + 1,6,none⟩ (.bool true) = w4 at *
      have R4 := Lib.hid (HE.out.on B4.out)
      go_upto_block 0 with (fail)
      refine add_b0 _ w4 w.heap.size (w.heap.size + 1) me c d g h _ _ _ _ _ _ _ eo n3 ec es _ _ _ _ _ _ _ _ _ _ _ _ _ _ _ _ _ _ _ _ _ _ _ _ _ _ _ _ _ _ _ _ _ _ _ _ _ _ _ _ _ _ _ _ _ _ _ _ _ _ _ _ _ _ _ _ _ _ _ _ _ _ _ _ _ _ _ _ _ _ _ _ _ _ _ _ _ _ _ _ _ _ _ _ _ _ _ _ _ _ _ _ _ _ _ _ _ _ _ _ _ _ _ _ _ _ _ _ _ _ _ _ G2.out G3.out R4.out N3.out (by have := EL.out; have := N3.out; omega) ?_
      intro wr v57 v58 v59 v60 v61 v62 v63 v64 v65 v66 v67 v68 v69 v70 v71 v72 v73 v74 v75 v76 v77 v78 v79 v80 v81 v82 v83 v84 v85 v86 v87 v88 v89 v90 v91 v92 v93 v94 v95 v96 hb
      have B5 := Lib.hid (B4.out.trans (hb.mono B4.out.size))
      have K2 := Lib.hid (G2.out.on hb)
      have K3 := Lib.hid (G3.out.on hb)
      have K5 := Lib.hid (G5.out.on hb)
      have R5 := Lib.hid (R4.out.on hb)
      clear hb B4 G2 G3 G5 R4
      go_upto_region 8 with fail
      refine ins8 _ wr w.heap.size (w.heap.size + 1) me _ _ _ _ eo n3 ec (placeP (es.map keyN) ((c,d),(g,h))) es (c,d,g,h,(po,pn,pc),fr,true) _ _ _ _ _ _ _ _ _ _ _ _ _ _ _ _ _ _ _ _ _ _ _ _ _ _ _ _ _ _ _ _ _ _ _ _ _ _ _ _ _ _ _ _ _ _ _ _ _ _ _ _ _ _ _ _ _ _ _ _ _ _ _ _ _ _ _ _ _ _ _ _ _ _ _ _ _ _ _ _ _ _ _ _ _ _ _ _ _ _ _ _ _ _ _ _ _ _ _ _ _ _ _ _ _ _ _ _ _ _ _ _ K2.out (box_sevenN (p := (po,pn,pc)) K3.out) R5.out (by have := placeP_le (es.map keyN) ((c,d),(g,h)); rw [List.length_map] at this; exact this) EL.out ?_
      intro xw v97 v98 v99 v100 v101 v102 v103 v104 v105 v106 v107 v108 v109 v110 v111 hbx ho hbl hoth hblk
      obtain ⟨td1,td2,htv⟩ := (Row.of_own ho).len
      obtain ⟨tl,htl⟩ : ∃ n,n = (es.take (placeP (es.map keyN) ((c,d),(g,h))) ++ [(c,d,g,h,(po,pn,pc),fr,true)] ++ es.drop (placeP (es.map keyN) ((c,d),(g,h)))).length := ⟨_,rfl⟩
      rw [← htl] at htv
      subst htv
      have B6 := Lib.hid (B5.out.trans (hbl _ (Nat.le_refl _)))
      have M2 := hbx
      have M3 := hoth _ _ _ (by omega) K3.out
      have M5 := hoth _ _ _ (by omega) K5.out
      have OE := Lib.hid (own_fewer ho (show w.heap.size + 3 ≤ wr.heap.size by have := K5.out.lt; omega))
      clear ho hbl hoth hblk htl hbx B5 K2 K3 K5 R5
      go_upto_region 9 with fail
      refine add_r9 _ xw w.heap.size (w.heap.size + 1) (w.heap.size + 1 + 1) me no ao so td1 oo nn nc n2 ac sn sc tl td2 on_ oc _ _ _ _ _ _ _ _ _ _ _ _ true _ _ _ _ _ _ _ _ _ _ _ _ _ _ _ _ _ _ _ _ _ _ _ _ _ _ _ _ _ _ _ _ _ _ _ _ _ _ _ _ _ _ _ _ _ _ _ _ _ _ _ _ _ _ _ _ _ _ _ _ _ _ _ _ _ _ _ _ _ _ _ _ _ _ _ _ _ _ _ _ _ _ _ _ _ _ _ _ _ _ _ _ _ _ _ _ _ _ _ _ _ _ _ _ _ _ _ _ _ _ _ _ M2 M3 M5 (by omega) ?_
      intro a9 x9 hd9 h49 h59 hx9
      subst hx9
      have FB := Lib.hid (setB_box M5.drew (.int .i64 me) (.slice no nn nc) (.slice ao n2 ac) (.slice so sn sc) (.slice td1 tl td2) (.slice oo on_ oc))
      have BL := Lib.hid (setB_below (b := w.heap.size + 1 + 1) B6.out.drew (by omega) (.int .i64 me) (.slice no nn nc) (.slice ao n2 ac) (.slice so sn sc) (.slice td1 tl td2) (.slice oo on_ oc))
      have FE := Lib.hid (setB_ownA (own_on OE.out ((Below.refl xw.heap.size xw).drew)) (w.heap.size + 1 + 1) (by omega) (.int .i64 me) (.slice no nn nc) (.slice ao n2 ac) (.slice so sn sc) (.slice td1 tl td2) (.slice oo on_ oc))
      clear OE M2 M3 M5 B6
      simp only [Exit.then]
      apply_assumption
      go_wp2_with fail
      obtain ⟨v0,v1,v2,v3,v4,v5⟩ := FB.out.cs6
      refine bodyPost_ret (v := .tuple #[.agg #[.int .i64 me,.slice no nn nc,.slice ao n2 ac,.slice so sn sc,.slice td1 tl td2,.slice oo on_ oc],.bool true]) (by simp [results,Tryz.results17,go_sem,h49,h59,v0,v1,v2,v3,v4,v5]) hd9 ?_
      rw [LB.out]
      refine ⟨⟨(td1,tl,td2),_,rfl,Or.inr (own_fewer FE.out (show w.heap.size ≤ w.heap.size + 3 by omega)),?_⟩,BL.out⟩
      rw [← KYS.out]
      exact ((HR2.out.take _).append (.cons (HRZ.out _) .nil)).append (HR2.out.drop _)
     ·have LB := Lib.hid LD
      clear LD
      have f3 := F3.out
      obtain ⟨k0,k1,k2,k3,k4,k5,k6⟩ := f3.cs7
      have f36 := f3.fr 6
      have f3l := f3.lt
      clear f3
      go_upto_region 5 with fail
      clear k0 k1 k2 k3 k4 k5 k6 f36 f3l
      have G3 := Lib.hid (show Box _ _ #[.int .i64 c,.int .i64 d,.int .i64 g,.int .i64 h,.slice po pn pc,.int .i64 fr,.bool false] _ from by simpa using box_set (k := 6) F3.out (.bool false))
      have G2 := Lib.hid (show Box _ _ _ _ from (RowKit.Below.heap_setCell w3 ⟨w.heap.size + 1,6,none⟩ (.bool false) _ (show w.heap.size ≠ w.heap.size + 1 by omega)).trans F2.out)
      have G5 := Lib.hid (show Box _ _ _ _ from (RowKit.Below.heap_setCell w3 ⟨w.heap.size + 1,6,none⟩ (.bool false) _ (show w.heap.size + 1 + 1 ≠ w.heap.size + 1 by omega)).trans F5.out)
      have B4 := Lib.hid (B3.out.setCell (p := ⟨w.heap.size + 1,6,none⟩) (by show w.heap.size ≤ w.heap.size + 1; omega) (.bool false))
      clear B3 F2 F3 F5
      generalize w3.setCell ⟨w.heap.size + 1,6,none⟩ (.bool false) = w4 at *
      have R4 := Lib.hid (HE.out.on B4.out)
      go_upto_block 0 with (fail)
      refine add_b0 _ w4 w.heap.size (w.heap.size + 1) me c d g h _ _ _ _ _ _ _ eo n3 ec es _ _ _ _ _ _ _ _ _ _ _ _ _ _ _ _ _ _ _ _ _ _ _ _ _ _ _ _ _ _ _ _ _ _ _ _ _ _ _ _ _ _ _ _ _ _ _ _ _ _ _ _ _ _ _ _ _ _ _ _ _ _ _ _ _ _ _ _ _ _ _ _ _ _ _ _ _ _ _ _ _ _ _ _ _ _ _ _ _ _ _ _ _ _ _ _ _ _ _ _ _ _ _ _ _ _ _ _ _ _ _ _ G2.out G3.out R4.out N3.out (by have := EL.out; have := N3.out; omega) ?_
      intro wr v57 v58 v59 v60 v61 v62 v63 v64 v65 v66 v67 v68 v69 v70 v71 v72 v73 v74 v75 v76 v77 v78 v79 v80 v81 v82 v83 v84 v85 v86 v87 v88 v89 v90 v91 v92 v93 v94 v95 v96 hb
      have B5 := Lib.hid (B4.out.trans (hb.mono B4.out.size))
      have K2 := Lib.hid (G2.out.on hb)
      have K3 := Lib.hid (G3.out.on hb)
      have K5 := Lib.hid (G5.out.on hb)
      have R5 := Lib.hid (R4.out.on hb)
      clear hb B4 G2 G3 G5 R4
      go_upto_region 8 with fail
      refine ins8 _ wr w.heap.size (w.heap.size + 1) me _ _ _ _ eo n3 ec (placeP (es.map keyN) ((c,d),(g,h))) es (c,d,g,h,(po,pn,pc),fr,false) _ _ _ _ _ _ _ _ _ _ _ _ _ _ _ _ _ _ _ _ _ _ _ _ _ _ _ _ _ _ _ _ _ _ _ _ _ _ _ _ _ _ _ _ _ _ _ _ _ _ _ _ _ _ _ _ _ _ _ _ _ _ _ _ _ _ _ _ _ _ _ _ _ _ _ _ _ _ _ _ _ _ _ _ _ _ _ _ _ _ _ _ _ _ _ _ _ _ _ _ _ _ _ _ _ _ _ _ _ _ _ _ K2.out (box_sevenN (p := (po,pn,pc)) K3.out) R5.out (by have := placeP_le (es.map keyN) ((c,d),(g,h)); rw [List.length_map] at this; exact this) EL.out ?_
      intro xw v97 v98 v99 v100 v101 v102 v103 v104 v105 v106 v107 v108 v109 v110 v111 hbx ho hbl hoth hblk
      obtain ⟨td1,td2,htv⟩ := (Row.of_own ho).len
      obtain ⟨tl,htl⟩ : ∃ n,n = (es.take (placeP (es.map keyN) ((c,d),(g,h))) ++ [(c,d,g,h,(po,pn,pc),fr,false)] ++ es.drop (placeP (es.map keyN) ((c,d),(g,h)))).length := ⟨_,rfl⟩
      rw [← htl] at htv
      subst htv
      have B6 := Lib.hid (B5.out.trans (hbl _ (Nat.le_refl _)))
      have M2 := hbx
      have M3 := hoth _ _ _ (by omega) K3.out
      have M5 := hoth _ _ _ (by omega) K5.out
      have OE := Lib.hid (own_fewer ho (show w.heap.size + 3 ≤ wr.heap.size by have := K5.out.lt; omega))
      clear ho hbl hoth hblk htl hbx B5 K2 K3 K5 R5
      go_upto_region 9 with fail
      refine add_r9 _ xw w.heap.size (w.heap.size + 1) (w.heap.size + 1 + 1) me no ao so td1 oo nn nc n2 ac sn sc tl td2 on_ oc _ _ _ _ _ _ _ _ _ _ _ _ false _ _ _ _ _ _ _ _ _ _ _ _ _ _ _ _ _ _ _ _ _ _ _ _ _ _ _ _ _ _ _ _ _ _ _ _ _ _ _ _ _ _ _ _ _ _ _ _ _ _ _ _ _ _ _ _ _ _ _ _ _ _ _ _ _ _ _ _ _ _ _ _ _ _ _ _ _ _ _ _ _ _ _ _ _ _ _ _ _ _ _ _ _ _ _ _ _ _ _ _ _ _ _ _ _ _ _ _ _ _ _ _ M2 M3 M5 (by omega) ?_
      intro a9 x9 hd9 h49 h59 hx9
      subst hx9
      have FB := Lib.hid (setB_box M5.drew (.int .i64 me) (.slice no nn nc) (.slice ao n2 ac) (.slice so sn sc) (.slice td1 tl td2) (.slice oo on_ oc))
      have BL := Lib.hid (setB_below (b := w.heap.size + 1 + 1) B6.out.drew (by omega) (.int .i64 me) (.slice no nn nc) (.slice ao n2 ac) (.slice so sn sc) (.slice td1 tl td2) (.slice oo on_ oc))
      have FE := Lib.hid (setB_ownA (own_on OE.out ((Below.refl xw.heap.size xw).drew)) (w.heap.size + 1 + 1) (by omega) (.int .i64 me) (.slice no nn nc) (.slice ao n2 ac) (.slice so sn sc) (.slice td1 tl td2) (.slice oo on_ oc))
      clear OE M2 M3 M5 B6
      simp only [Exit.then]
      apply_assumption
      go_wp2_with fail
      obtain ⟨v0,v1,v2,v3,v4,v5⟩ := FB.out.cs6
      refine bodyPost_ret (v := .tuple #[.agg #[.int .i64 me,.slice no nn nc,.slice ao n2 ac,.slice so sn sc,.slice td1 tl td2,.slice oo on_ oc],.bool false]) (by simp [results,Tryz.results17,go_sem,h49,h59,v0,v1,v2,v3,v4,v5]) hd9 ?_
      rw [LB.out]
      refine ⟨⟨(td1,tl,td2),_,rfl,Or.inr (own_fewer FE.out (show w.heap.size ≤ w.heap.size + 3 by omega)),?_⟩,BL.out⟩
      rw [← KYS.out]
      exact ((HR2.out.take _).append (.cons (HRZ.out _) .nil)).append (HR2.out.drop _)
   ·cases f2
    ·have LD := LC
     rw [if_neg (by intro q; simp [q.2] at hf2)] at LD
     clear LC
     go_upto_region 2 with fail
     refine wp_region_quiet_below (by kernel_rfl) (by kernel_rfl) ?_
     repeat (go_big_quiet_step (first | (with_reducible exact CE.out _ _)))
     refine wpQuiet_nil ?_
     intro _ hw'
     obtain ⟨⟨dq,osq⟩,hw''⟩ := hw'
     subst hw''
     have Z6 := below_regrown w1 dq osq
     have B2 := Lib.hid (B1.out.trans (Z6.mono B1.out.size))
     have Z2 := Lib.hid (Y2.out.on Z6)
     have Z3 := Lib.hid (Y3.out.on Z6)
     have Z5 := Lib.hid (Y5.out.on Z6)
     clear Z6 B1 Y2 Y3 Y5 a0 a1 a2 a3 a4 a5 b0 b1 b2 b3 b4 b5 b6
     generalize grow (redrawn w1 dq) osq = w2 at *
     have p3b := (PX.out w2 B2.out).2.2.2
     have x_ := Z2.out
     have y_ := Z3.out
     obtain ⟨x0,x1,x2,x3,x4,x5⟩ := x_.cs6
     obtain ⟨y0,y1,y2,y3,y4,y5,y6⟩ := y_.cs7
     clear x_ y_
     obtain ⟨g1,hg1⟩ : ∃ r,(par != -1) = r := ⟨_,rfl⟩
     have GP := Lib.hid (show decide (par ≠ -1) = g1 by rw [← hg1]; by_cases q : par = -1 <;> simp [q])
     rw [GP.out] at LD
     cases g1
     ·have LB := Lib.hid LD
      clear LD CV
      have B3 := Lib.hid B2.out
      have F2 := Lib.hid Z2.out
      have F3 := Lib.hid Z3.out
      have F5 := Lib.hid Z5.out
      clear B2 Z2 Z3 Z5
      have f3 := F3.out
      obtain ⟨k0,k1,k2,k3,k4,k5,k6⟩ := f3.cs7
      have f36 := f3.fr 6
      have f3l := f3.lt
      clear f3
      go_upto_region 5 with fail
      clear k0 k1 k2 k3 k4 k5 k6 f36 f3l
      have G3 := Lib.hid (show Box _ _ #[.int .i64 c,.int .i64 d,.int .i64 g,.int .i64 h,.slice po pn pc,.int .i64 fr,.bool false] _ from by simpa using box_set (k := 6) F3.out (.bool false))
      have G2 := Lib.hid (show Box _ _ _ _ from (RowKit.Below.heap_setCell w2 ⟨w.heap.size + 1,6,none⟩ (.bool false) _ (show w.heap.size ≠ w.heap.size + 1 by omega)).trans F2.out)
      have G5 := Lib.hid (show Box _ _ _ _ from (RowKit.Below.heap_setCell w2 ⟨w.heap.size + 1,6,none⟩ (.bool false) _ (show w.heap.size + 1 + 1 ≠ w.heap.size + 1 by omega)).trans F5.out)
      have B4 := Lib.hid (B3.out.setCell (p := ⟨w.heap.size + 1,6,none⟩) (by show w.heap.size ≤ w.heap.size + 1; omega) (.bool false))
      clear B3 F2 F3 F5
      generalize w2.setCell ⟨w.heap.size + 1,6,none⟩ (.bool false) = w4 at *
      have R4 := Lib.hid (HE.out.on B4.out)
      go_upto_block 0 with (fail)
      refine add_b0 _ w4 w.heap.size (w.heap.size + 1) me c d g h _ _ _ _ _ _ _ eo n3 ec es _ _ _ _ _ _ _ _ _ _ _ _ _ _ _ _ _ _ _ _ _ _ _ _ _ _ _ _ _ _ _ _ _ _ _ _ _ _ _ _ _ _ _ _ _ _ _ _ _ _ _ _ _ _ _ _ _ _ _ _ _ _ _ _ _ _ _ _ _ _ _ _ _ _ _ _ _ _ _ _ _ _ _ _ _ _ _ _ _ _ _ _ _ _ _ _ _ _ _ _ _ _ _ _ _ _ _ _ _ _ _ _ G2.out G3.out R4.out N3.out (by have := EL.out; have := N3.out; omega) ?_
      intro wr v57 v58 v59 v60 v61 v62 v63 v64 v65 v66 v67 v68 v69 v70 v71 v72 v73 v74 v75 v76 v77 v78 v79 v80 v81 v82 v83 v84 v85 v86 v87 v88 v89 v90 v91 v92 v93 v94 v95 v96 hb
      have B5 := Lib.hid (B4.out.trans (hb.mono B4.out.size))
      have K2 := Lib.hid (G2.out.on hb)
      have K3 := Lib.hid (G3.out.on hb)
      have K5 := Lib.hid (G5.out.on hb)
      have R5 := Lib.hid (R4.out.on hb)
      clear hb B4 G2 G3 G5 R4
      go_upto_region 8 with fail
      refine ins8 _ wr w.heap.size (w.heap.size + 1) me _ _ _ _ eo n3 ec (placeP (es.map keyN) ((c,d),(g,h))) es (c,d,g,h,(po,pn,pc),fr,false) _ _ _ _ _ _ _ _ _ _ _ _ _ _ _ _ _ _ _ _ _ _ _ _ _ _ _ _ _ _ _ _ _ _ _ _ _ _ _ _ _ _ _ _ _ _ _ _ _ _ _ _ _ _ _ _ _ _ _ _ _ _ _ _ _ _ _ _ _ _ _ _ _ _ _ _ _ _ _ _ _ _ _ _ _ _ _ _ _ _ _ _ _ _ _ _ _ _ _ _ _ _ _ _ _ _ _ _ _ _ _ _ K2.out (box_sevenN (p := (po,pn,pc)) K3.out) R5.out (by have := placeP_le (es.map keyN) ((c,d),(g,h)); rw [List.length_map] at this; exact this) EL.out ?_
      intro xw v97 v98 v99 v100 v101 v102 v103 v104 v105 v106 v107 v108 v109 v110 v111 hbx ho hbl hoth hblk
      obtain ⟨td1,td2,htv⟩ := (Row.of_own ho).len
      obtain ⟨tl,htl⟩ : ∃ n,n = (es.take (placeP (es.map keyN) ((c,d),(g,h))) ++ [(c,d,g,h,(po,pn,pc),fr,false)] ++ es.drop (placeP (es.map keyN) ((c,d),(g,h)))).length := ⟨_,rfl⟩
      rw [← htl] at htv
      subst htv
      have B6 := Lib.hid (B5.out.trans (hbl _ (Nat.le_refl _)))
      have M2 := hbx
      have M3 := hoth _ _ _ (by omega) K3.out
      have M5 := hoth _ _ _ (by omega) K5.out
      have OE := Lib.hid (own_fewer ho (show w.heap.size + 3 ≤ wr.heap.size by have := K5.out.lt; omega))
      clear ho hbl hoth hblk htl hbx B5 K2 K3 K5 R5
      go_upto_region 9 with fail
      refine add_r9 _ xw w.heap.size (w.heap.size + 1) (w.heap.size + 1 + 1) me no ao so td1 oo nn nc n2 ac sn sc tl td2 on_ oc _ _ _ _ _ _ _ _ _ _ _ _ false _ _ _ _ _ _ _ _ _ _ _ _ _ _ _ _ _ _ _ _ _ _ _ _ _ _ _ _ _ _ _ _ _ _ _ _ _ _ _ _ _ _ _ _ _ _ _ _ _ _ _ _ _ _ _ _ _ _ _ _ _ _ _ _ _ _ _ _ _ _ _ _ _ _ _ _ _ _ _ _ _ _ _ _ _ _ _ _ _ _ _ _ _ _ _ _ _ _ _ _ _ _ _ _ _ _ _ _ _ _ _ _ M2 M3 M5 (by omega) ?_
      intro a9 x9 hd9 h49 h59 hx9
      subst hx9
      have FB := Lib.hid (setB_box M5.drew (.int .i64 me) (.slice no nn nc) (.slice ao n2 ac) (.slice so sn sc) (.slice td1 tl td2) (.slice oo on_ oc))
      have BL := Lib.hid (setB_below (b := w.heap.size + 1 + 1) B6.out.drew (by omega) (.int .i64 me) (.slice no nn nc) (.slice ao n2 ac) (.slice so sn sc) (.slice td1 tl td2) (.slice oo on_ oc))
      have FE := Lib.hid (setB_ownA (own_on OE.out ((Below.refl xw.heap.size xw).drew)) (w.heap.size + 1 + 1) (by omega) (.int .i64 me) (.slice no nn nc) (.slice ao n2 ac) (.slice so sn sc) (.slice td1 tl td2) (.slice oo on_ oc))
      clear OE M2 M3 M5 B6
      simp only [Exit.then]
      apply_assumption
      go_wp2_with fail
      obtain ⟨v0,v1,v2,v3,v4,v5⟩ := FB.out.cs6
      refine bodyPost_ret (v := .tuple #[.agg #[.int .i64 me,.slice no nn nc,.slice ao n2 ac,.slice so sn sc,.slice td1 tl td2,.slice oo on_ oc],.bool false]) (by simp [results,Tryz.results17,go_sem,h49,h59,v0,v1,v2,v3,v4,v5]) hd9 ?_
      rw [LB.out]
      refine ⟨⟨(td1,tl,td2),_,rfl,Or.inr (own_fewer FE.out (show w.heap.size ≤ w.heap.size + 3 by omega)),?_⟩,BL.out⟩
      rw [← KYS.out]
      exact ((HR2.out.take _).append (.cons (HRZ.out _) .nil)).append (HR2.out.drop _)
     ·have CW := Lib.hid (CV.out w2 B2.out)
      obtain ⟨cv,hcv⟩ : ∃ r,coveredE b.ent (c,d) p' = r := ⟨_,rfl⟩
      rw [hcv] at CW LD
      clear CV hcv
      go_wp2_with fail
      refine CW.out.mono ?_
      rintro e3 w3 ⟨rfl,hb⟩
      have B3 := Lib.hid (B2.out.trans (hb.mono B2.out.size))
      have F2 := Lib.hid (Z2.out.on hb)
      have F3 := Lib.hid (Z3.out.on hb)
      have F5 := Lib.hid (Z5.out.on hb)
      clear hb CW B2 Z2 Z3 Z5 x0 x1 x2 x3 x4 x5 y0 y1 y2 y3 y4 y5 y6 p3b
      cases cv
      ·have LB := Lib.hid LD
       clear LD
       have f3 := F3.out
       obtain ⟨k0,k1,k2,k3,k4,k5,k6⟩ := f3.cs7
       have f36 := f3.fr 6
       have f3l := f3.lt
       clear f3
       go_upto_region 5 with fail
       clear k0 k1 k2 k3 k4 k5 k6 f36 f3l
       have G3 := Lib.hid (show Box _ _ #[.int .i64 c,.int .i64 d,.int .i64 g,.int .i64 h,.slice po pn pc,.int .i64 fr,.bool true] _ from by simpa using box_set (k := 6) F3.out (.bool true))
       have G2 := Lib.hid (show Box _ _ _ _ from (RowKit.Below.heap_setCell w3 ⟨w.heap.size + 1,6,none⟩ (.bool true) _ (show w.heap.size ≠ w.heap.size + 1 by omega)).trans F2.out)
       have G5 := Lib.hid (show Box _ _ _ _ from (RowKit.Below.heap_setCell w3 ⟨w.heap.size + 1,6,none⟩ (.bool true) _ (show w.heap.size + 1 + 1 ≠ w.heap.size + 1 by omega)).trans F5.out)
       have B4 := Lib.hid (B3.out.setCell (p := ⟨w.heap.size + 1,6,none⟩) (by show w.heap.size ≤ w.heap.size + 1; omega) (.bool true))
       clear B3 F2 F3 F5
       generalize w3.setCell ⟨w.heap.size + 1,6,none⟩ (.bool true) = w4 at *
       have R4 := Lib.hid (HE.out.on B4.out)
       go_upto_block 0 with (fail)
       refine add_b0 _ w4 w.heap.size (w.heap.size + 1) me c d g h _ _ _ _ _ _ _ eo n3 ec es _ _ _ _ _ _ _ _ _ _ _ _ _ _ _ _ _ _ _ _ _ _ _ _ _ _ _ _ _ _ _ _ _ _ _ _ _ _ _ _ _ _ _ _ _ _ _ _ _ _ _ _ _ _ _ _ _ _ _ _ _ _ _ _ _ _ _ _ _ _ _ _ _ _ _ _ _ _ _ _ _ _ _ _ _ _ _ _ _ _ _ _ _ _ _ _ _ _ _ _ _ _ _ _ _ _ _ _ _ _ _ _ G2.out G3.out R4.out N3.out (by have := EL.out; have := N3.out; omega) ?_
       intro wr v57 v58 v59 v60 v61 v62 v63 v64 v65 v66 v67 v68 v69 v70 v71 v72 v73 v74 v75 v76 v77 v78 v79 v80 v81 v82 v83 v84 v85 v86 v87 v88 v89 v90 v91 v92 v93 v94 v95 v96 hb
       have B5 := Lib.hid (B4.out.trans (hb.mono B4.out.size))
       have K2 := Lib.hid (G2.out.on hb)
       have K3 := Lib.hid (G3.out.on hb)
       have K5 := Lib.hid (G5.out.on hb)
       have R5 := Lib.hid (R4.out.on hb)
       clear hb B4 G2 G3 G5 R4
       go_upto_region 8 with fail
       refine ins8 _ wr w.heap.size (w.heap.size + 1) me _ _ _ _ eo n3 ec (placeP (es.map keyN) ((c,d),(g,h))) es (c,d,g,h,(po,pn,pc),fr,true) _ _ _ _ _ _ _ _ _ _ _ _ _ _ _ _ _ _ _ _ _ _ _ _ _ _ _ _ _ _ _ _ _ _ _ _ _ _ _ _ _ _ _ _ _ _ _ _ _ _ _ _ _ _ _ _ _ _ _ _ _ _ _ _ _ _ _ _ _ _ _ _ _ _ _ _ _ _ _ _ _ _ _ _ _ _ _ _ _ _ _ _ _ _ _ _ _ _ _ _ _ _ _ _ _ _ _ _ _ _ _ _ K2.out (box_sevenN (p := (po,pn,pc)) K3.out) R5.out (by have := placeP_le (es.map keyN) ((c,d),(g,h)); rw [List.length_map] at this; exact this) EL.out ?_
       intro xw v97 v98 v99 v100 v101 v102 v103 v104 v105 v106 v107 v108 v109 v110 v111 hbx ho hbl hoth hblk
       obtain ⟨td1,td2,htv⟩ := (Row.of_own ho).len
       obtain ⟨tl,htl⟩ : ∃ n,n = (es.take (placeP (es.map keyN) ((c,d),(g,h))) ++ [(c,d,g,h,(po,pn,pc),fr,true)] ++ es.drop (placeP (es.map keyN) ((c,d),(g,h)))).length := ⟨_,rfl⟩
       rw [← htl] at htv
       subst htv
       have B6 := Lib.hid (B5.out.trans (hbl _ (Nat.le_refl _)))
       have M2 := hbx
       have M3 := hoth _ _ _ (by omega) K3.out
       have M5 := hoth _ _ _ (by omega) K5.out
       have OE := Lib.hid (own_fewer ho (show w.heap.size + 3 ≤ wr.heap.size by have := K5.out.lt; omega))
       clear ho hbl hoth hblk htl hbx B5 K2 K3 K5 R5
       go_upto_region 9 with fail
       refine add_r9 _ xw w.heap.size (w.heap.size + 1) (w.heap.size + 1 + 1) me no ao so td1 oo nn nc n2 ac sn sc tl td2 on_ oc _ _ _ _ _ _ _ _ _ _ _ _ true _ _ _ _ _ _ _ _ _ _ _ _ _ _ _ _ _ _ _ _ _ _ _ _ _ _ _ _ _ _ _ _ _ _ _ _ _ _ _ _ _ _ _ _ _ _ _ _ _ _ _ _ _ _ _ _ _ _ _ _ _ _ _ _ _ _ _ _ _ _ _ _ _ _ _ _ _ _ _ _ _ _ _ _ _ _ _ _ _ _ _ _ _ _ _ _ _ _ _ _ _ _ _ _ _ _ _ _ _ _ _ _ M2 M3 M5 (by omega) ?_
       intro a9 x9 hd9 h49 h59 hx9
       subst hx9
       have FB := Lib.hid (setB_box M5.drew (.int .i64 me) (.slice no nn nc) (.slice ao n2 ac) (.slice so sn sc) (.slice td1 tl td2) (.slice oo on_ oc))
       have BL := Lib.hid (setB_below (b := w.heap.size + 1 + 1) B6.out.drew (by omega) (.int .i64 me) (.slice no nn nc) (.slice ao n2 ac) (.slice so sn sc) (.slice td1 tl td2) (.slice oo on_ oc))
       have FE := Lib.hid (setB_ownA (own_on OE.out ((Below.refl xw.heap.size xw).drew)) (w.heap.size + 1 + 1) (by omega) (.int .i64 me) (.slice no nn nc) (.slice ao n2 ac) (.slice so sn sc) (.slice td1 tl td2) (.slice oo on_ oc))
       clear OE M2 M3 M5 B6
       simp only [Exit.then]
       apply_assumption
       go_wp2_with fail
       obtain ⟨v0,v1,v2,v3,v4,v5⟩ := FB.out.cs6
       refine bodyPost_ret (v := .tuple #[.agg #[.int .i64 me,.slice no nn nc,.slice ao n2 ac,.slice so sn sc,.slice td1 tl td2,.slice oo on_ oc],.bool true]) (by simp [results,Tryz.results17,go_sem,h49,h59,v0,v1,v2,v3,v4,v5]) hd9 ?_
       rw [LB.out]
       refine ⟨⟨(td1,tl,td2),_,rfl,Or.inr (own_fewer FE.out (show w.heap.size ≤ w.heap.size + 3 by omega)),?_⟩,BL.out⟩
       rw [← KYS.out]
       exact ((HR2.out.take _).append (.cons (HRZ.out _) .nil)).append (HR2.out.drop _)
      ·have LB := Lib.hid LD
       clear LD
       have f3 := F3.out
       obtain ⟨k0,k1,k2,k3,k4,k5,k6⟩ := f3.cs7
       have f36 := f3.fr 6
       have f3l := f3.lt
       clear f3
       go_upto_region 5 with fail
       clear k0 k1 k2 k3 k4 k5 k6 f36 f3l
       have G3 := Lib.hid (show Box _ _ #[.int .i64 c,.int .i64 d,.int .i64 g,.int .i64 h,.slice po pn pc,.int .i64 fr,.bool false] _ from by simpa using box_set (k := 6) F3.out (.bool false))
       have G2 := Lib.hid (show Box _ _ _ _ from (RowKit.Below.heap_setCell w3 ⟨w.heap.size + 1,6,none⟩ (.bool false) _ (show w.heap.size ≠ w.heap.size + 1 by omega)).trans F2.out)
       have G5 := Lib.hid (show Box _ _ _ _ from (RowKit.Below.heap_setCell w3 ⟨w.heap.size + 1,6,none⟩ (.bool false) _ (show w.heap.size + 1 + 1 ≠ w.heap.size + 1 by omega)).trans F5.out)
       have B4 := Lib.hid (B3.out.setCell (p := ⟨w.heap.size + 1,6,none⟩) (by show w.heap.size ≤ w.heap.size + 1; omega) (.bool false))
       clear B3 F2 F3 F5
       generalize w3.setCell ⟨w.heap.size + 1,6,none⟩ (.bool false) = w4 at *
       have R4 := Lib.hid (HE.out.on B4.out)
       go_upto_block 0 with (fail)
       refine add_b0 _ w4 w.heap.size (w.heap.size + 1) me c d g h _ _ _ _ _ _ _ eo n3 ec es _ _ _ _ _ _ _ _ _ _ _ _ _ _ _ _ _ _ _ _ _ _ _ _ _ _ _ _ _ _ _ _ _ _ _ _ _ _ _ _ _ _ _ _ _ _ _ _ _ _ _ _ _ _ _ _ _ _ _ _ _ _ _ _ _ _ _ _ _ _ _ _ _ _ _ _ _ _ _ _ _ _ _ _ _ _ _ _ _ _ _ _ _ _ _ _ _ _ _ _ _ _ _ _ _ _ _ _ _ _ _ _ G2.out G3.out R4.out N3.out (by have := EL.out; have := N3.out; omega) ?_
       intro wr v57 v58 v59 v60 v61 v62 v63 v64 v65 v66 v67 v68 v69 v70 v71 v72 v73 v74 v75 v76 v77 v78 v79 v80 v81 v82 v83 v84 v85 v86 v87 v88 v89 v90 v91 v92 v93 v94 v95 v96 hb
       have B5 := Lib.hid (B4.out.trans (hb.mono B4.out.size))
       have K2 := Lib.hid (G2.out.on hb)
       have K3 := Lib.hid (G3.out.on hb)
       have K5 := Lib.hid (G5.out.on hb)
       have R5 := Lib.hid (R4.out.on hb)
       clear hb B4 G2 G3 G5 R4
       go_upto_region 8 with fail
       refine ins8 _ wr w.heap.size (w.heap.size + 1) me _ _ _ _ eo n3 ec (placeP (es.map keyN) ((c,d),(g,h))) es (c,d,g,h,(po,pn,pc),fr,false) _ _ _ _ _ _ _ _ _ _ _ _ _ _ _ _ _ _ _ _ _ _ _ _ _ _ _ _ _ _ _ _ _ _ _ _ _ _ _ _ _ _ _ _ _ _ _ _ _ _ _ _ _ _ _ _ _ _ _ _ _ _ _ _ _ _ _ _ _ _ _ _ _ _ _ _ _ _ _ _ _ _ _ _ _ _ _ _ _ _ _ _ _ _ _ _ _ _ _ _ _ _ _ _ _ _ _ _ _ _ _ _ K2.out (box_sevenN (p := (po,pn,pc)) K3.out) R5.out (by have := placeP_le (es.map keyN) ((c,d),(g,h)); rw [List.length_map] at this; exact this) EL.out ?_
       intro xw v97 v98 v99 v100 v101 v102 v103 v104 v105 v106 v107 v108 v109 v110 v111 hbx ho hbl hoth hblk
       obtain ⟨td1,td2,htv⟩ := (Row.of_own ho).len
       obtain ⟨tl,htl⟩ : ∃ n,n = (es.take (placeP (es.map keyN) ((c,d),(g,h))) ++ [(c,d,g,h,(po,pn,pc),fr,false)] ++ es.drop (placeP (es.map keyN) ((c,d),(g,h)))).length := ⟨_,rfl⟩
       rw [← htl] at htv
       subst htv
       have B6 := Lib.hid (B5.out.trans (hbl _ (Nat.le_refl _)))
       have M2 := hbx
       have M3 := hoth _ _ _ (by omega) K3.out
       have M5 := hoth _ _ _ (by omega) K5.out
       have OE := Lib.hid (own_fewer ho (show w.heap.size + 3 ≤ wr.heap.size by have := K5.out.lt; omega))
       clear ho hbl hoth hblk htl hbx B5 K2 K3 K5 R5
       go_upto_region 9 with fail
       refine add_r9 _ xw w.heap.size (w.heap.size + 1) (w.heap.size + 1 + 1) me no ao so td1 oo nn nc n2 ac sn sc tl td2 on_ oc _ _ _ _ _ _ _ _ _ _ _ _ false _ _ _ _ _ _ _ _ _ _ _ _ _ _ _ _ _ _ _ _ _ _ _ _ _ _ _ _ _ _ _ _ _ _ _ _ _ _ _ _ _ _ _ _ _ _ _ _ _ _ _ _ _ _ _ _ _ _ _ _ _ _ _ _ _ _ _ _ _ _ _ _ _ _ _ _ _ _ _ _ _ _ _ _ _ _ _ _ _ _ _ _ _ _ _ _ _ _ _ _ _ _ _ _ _ _ _ _ _ _ _ _ M2 M3 M5 (by omega) ?_
       intro a9 x9 hd9 h49 h59 hx9
       subst hx9
       have FB := Lib.hid (setB_box M5.drew (.int .i64 me) (.slice no nn nc) (.slice ao n2 ac) (.slice so sn sc) (.slice td1 tl td2) (.slice oo on_ oc))
       have BL := Lib.hid (setB_below (b := w.heap.size + 1 + 1) B6.out.drew (by omega) (.int .i64 me) (.slice no nn nc) (.slice ao n2 ac) (.slice so sn sc) (.slice td1 tl td2) (.slice oo on_ oc))
       have FE := Lib.hid (setB_ownA (own_on OE.out ((Below.refl xw.heap.size xw).drew)) (w.heap.size + 1 + 1) (by omega) (.int .i64 me) (.slice no nn nc) (.slice ao n2 ac) (.slice so sn sc) (.slice td1 tl td2) (.slice oo on_ oc))
       clear OE M2 M3 M5 B6
       simp only [Exit.then]
       apply_assumption
       go_wp2_with fail
       obtain ⟨v0,v1,v2,v3,v4,v5⟩ := FB.out.cs6
       refine bodyPost_ret (v := .tuple #[.agg #[.int .i64 me,.slice no nn nc,.slice ao n2 ac,.slice so sn sc,.slice td1 tl td2,.slice oo on_ oc],.bool false]) (by simp [results,Tryz.results17,go_sem,h49,h59,v0,v1,v2,v3,v4,v5]) hd9 ?_
       rw [LB.out]
       refine ⟨⟨(td1,tl,td2),_,rfl,Or.inr (own_fewer FE.out (show w.heap.size ≤ w.heap.size + 3 by omega)),?_⟩,BL.out⟩
       rw [← KYS.out]
       exact ((HR2.out.take _).append (.cons (HRZ.out _) .nil)).append (HR2.out.drop _)
    ·have LB := Lib.hid (LC.trans (if_pos (by simpa using And.intro hf1 hf2)))
     clear LC
     go_upto_region 2 with fail
     refine wp_region_quiet_below (by kernel_rfl) (by kernel_rfl) ?_
     repeat (go_big_quiet_step (first | (with_reducible exact CE.out _ _)))
     refine wpQuiet_nil ?_
     intro _ hw'
     obtain ⟨⟨dq,osq⟩,hw''⟩ := hw'
     subst hw''
     have Z6 := below_regrown w1 dq osq
     have B2 := Lib.hid (B1.out.trans (Z6.mono B1.out.size))
     have Z2 := Lib.hid (Y2.out.on Z6)
     have Z3 := Lib.hid (Y3.out.on Z6)
     have Z5 := Lib.hid (Y5.out.on Z6)
     clear Z6 B1 Y2 Y3 Y5 a0 a1 a2 a3 a4 a5 b0 b1 b2 b3 b4 b5 b6
     generalize grow (redrawn w1 dq) osq = w2 at *
     have FB := Lib.hid (setB_box Z5.out (.int .i64 me) (.slice no nn nc) (.slice ao n2 ac) (.slice so sn sc) (.slice eo n3 ec) (.slice oo on_ oc))
     have BL := Lib.hid (setB_below (b := w.heap.size + 1 + 1) B2.out (by omega) (.int .i64 me) (.slice no nn nc) (.slice ao n2 ac) (.slice so sn sc) (.slice eo n3 ec) (.slice oo on_ oc))
     have X2a := Z2.out
     have X5a := Z5.out
     obtain ⟨x0,x1,x2,x3,x4,x5⟩ := X2a.cs6
     obtain ⟨r0,r1,r2,r3,r4,r5⟩ := X5a.cs6
     obtain ⟨t0,t1,t2,t3,t4,t5⟩ := X5a.fs6
     have zz := X5a.lt
     clear X2a X5a
     go_wp2_with fail
     obtain ⟨v0,v1,v2,v3,v4,v5⟩ := FB.out.cs6
     refine bodyPost_ret (v := .tuple #[.agg #[.int .i64 me,.slice no nn nc,.slice ao n2 ac,.slice so sn sc,.slice eo n3 ec,.slice oo on_ oc],.bool false]) (by simp [results,Tryz.results17,go_sem,v0,v1,v2,v3,v4,v5]) rfl ?_
     rw [LB.out]
     exact ⟨⟨(eo,n3,ec),es,rfl,Or.inl ⟨rfl,rfl,rfl⟩,HR2.out⟩,BL.out⟩
  ·have LB := Lib.hid (show addB b ⟨(c,d),(g,h),p',fr,up0⟩ = (b,false) from (LA.out _ he).trans (if_pos (by omega)))
   have hge : decide ((0 : Int) ≤ (j : Int)) = true := decide_eq_true (by omega)
   rw [he] at CE
   clear LA he
   go_upto_region 2 with fail
   refine wp_region_quiet_below (by kernel_rfl) (by kernel_rfl) ?_
   repeat (go_big_quiet_step (first | (with_reducible exact CE.out _ _)))
   refine wpQuiet_nil ?_
   intro _ hw'
   obtain ⟨⟨dq,osq⟩,hw''⟩ := hw'
   subst hw''
   have Z6 := below_regrown w1 dq osq
   have B2 := Lib.hid (B1.out.trans (Z6.mono B1.out.size))
   have Z2 := Lib.hid (Y2.out.on Z6)
   have Z3 := Lib.hid (Y3.out.on Z6)
   have Z5 := Lib.hid (Y5.out.on Z6)
   clear Z6 B1 Y2 Y3 Y5 a0 a1 a2 a3 a4 a5 b0 b1 b2 b3 b4 b5 b6
   generalize grow (redrawn w1 dq) osq = w2 at *
   have FB := Lib.hid (setB_box Z5.out (.int .i64 me) (.slice no nn nc) (.slice ao n2 ac) (.slice so sn sc) (.slice eo n3 ec) (.slice oo on_ oc))
   have BL := Lib.hid (setB_below (b := w.heap.size + 1 + 1) B2.out (by omega) (.int .i64 me) (.slice no nn nc) (.slice ao n2 ac) (.slice so sn sc) (.slice eo n3 ec) (.slice oo on_ oc))
   have X2a := Z2.out
   have X5a := Z5.out
   obtain ⟨x0,x1,x2,x3,x4,x5⟩ := X2a.cs6
   obtain ⟨r0,r1,r2,r3,r4,r5⟩ := X5a.cs6
   obtain ⟨t0,t1,t2,t3,t4,t5⟩ := X5a.fs6
   have zz := X5a.lt
   clear X2a X5a
   go_wp2_with fail
   obtain ⟨v0,v1,v2,v3,v4,v5⟩ := FB.out.cs6
   refine bodyPost_ret (v := .tuple #[.agg #[.int .i64 me,.slice no nn nc,.slice ao n2 ac,.slice so sn sc,.slice eo n3 ec,.slice oo on_ oc],.bool false]) (by simp [results,Tryz.results17,go_sem,v0,v1,v2,v3,v4,v5]) rfl ?_
   rw [LB.out]
   exact ⟨⟨(eo,n3,ec),es,rfl,Or.inl ⟨rfl,rfl,rfl⟩,HR2.out⟩,BL.out⟩
theorem addB_same (b : Br) (e : En) : (addB b e).1.me = b.me ∧ (addB b e).1.near = b.near ∧ (addB b e).1.adv = b.adv ∧ (addB b e).1.seen = b.seen ∧ (addB b e).1.own = b.own := by
 unfold addB
 split
 ·exact ⟨rfl,rfl,rfl,rfl,rfl⟩
 ·split
  ·exact ⟨rfl,rfl,rfl,rfl,rfl⟩
  ·split
   ·exact ⟨rfl,rfl,rfl,rfl,rfl⟩
   ·split <;> exact ⟨rfl,rfl,rfl,rfl,rfl⟩
theorem radd_any (b : Br) (nv av sv ev ov : Sl) (z : XEn) (e : En) (w : World) (h_ : BrIn w b nv av sv ev ov) (hz : EnIn w z e) (l2 : b.adv.length ≤ 900) (l3 : b.ent.length ≤ 900) (hok : ∀ e ∈ b.ent,PredOk e.p) (hop : PredOk e.p) :
  Calls Tryz.prog 17 #[brv b.me nv av sv ev ov,valN z] w fun e' w' => (∃ ev' : Sl,e' = .returned (.tuple #[brv b.me nv av sv ev' ov,.bool (addB b e).2]) ∧ BrIn w' (addB b e).1 nv av sv ev' ov) ∧ Below w.heap.size w w' := by
 obtain ⟨es,he1,he2⟩ := h_.ent
 refine (radd2_any b nv av sv ev ov z e w es (EnIn w) h_ he1 he2 he2 (fun u => ⟨hz.1,hz.2.1,hz.2.2.1,rfl,hz.2.2.2.2⟩) hz l2 l3 hok hop).mono ?_
 rintro e1 w1 ⟨⟨ev',xs,rfl,hr,hx⟩,hb⟩
 refine ⟨⟨ev',rfl,?_⟩,hb⟩
 have hI := h_.on hb
 obtain ⟨_,a2,a3,a4,a5⟩ := addB_same b e
 refine ⟨by rw [a2]; exact hI.near,by rw [a3]; exact hI.adv,by rw [a4]; exact hI.seen,⟨xs,?_,hx.mono fun _ _ h => h.on hb⟩,by rw [a5]; exact hI.own⟩
 rcases hr with ⟨h1,h2,_⟩ | hr
 ·rw [h1,h2]
  exact he1.on hb
 ·exact Row.of_own hr
end Go.Proofs.YtncogjpmboglhaaGreat.Bk
namespace Go.Proofs.YtncogjpmboglhaaGreat.Bk
open Go.RowKit Go.Sort Rw YtncogjpmboglhaaGreat.Nm Pr
open Av
def upE (e : En) : En := { e with up := true }
def takeStep (t : Id) (s : List En × List En) (k : Nat) : List En × List En := match s.1[k]? with
 | none => s
 | some e => if e.tree = t ∧ e.up = false ∧ coveredE s.1 t e.p = false then (s.1.set k (upE e),s.2 ++ [upE e]) else s
def takeK (t : Id) (m : List En) (k : Nat) : List En × List En := (List.range k).foldl (takeStep t) (m,[])
def takeB (b : Br) (t s : Id) (f : Int) : Br × List En × Bool := match b.ent[(findK (b.ent.map keyE) (t,s)).toNat]? with
 | none => (b,[],false)
 | some e => if findK (b.ent.map keyE) (t,s) = -1 then (b,[],false) else if e.from_ ≠ f then (b,[],false) else
  if e.up = false then ({ b with ent := cutAt b.ent (findK (b.ent.map keyE) (t,s)).toNat },[],false) else
  ({ b with ent := (takeK t (cutAt b.ent (findK (b.ent.map keyE) (t,s)).toNat) (cutAt b.ent (findK (b.ent.map keyE) (t,s)).toNat).length).1 },(takeK t (cutAt b.ent (findK (b.ent.map keyE) (t,s)).toNat) (cutAt b.ent (findK (b.ent.map keyE) (t,s)).toNat).length).2,true)
theorem takeK_succ (t : Id) (m : List En) (k : Nat) : takeK t m (k + 1) = takeStep t (takeK t m k) k := by
 simp [takeK,List.range_succ]
theorem takeStep_len (t : Id) (s : List En × List En) (k : Nat) : (takeStep t s k).1.length = s.1.length ∧ (takeStep t s k).2.length ≤ s.2.length + 1 := by
 unfold takeStep
 split
 ·exact ⟨rfl,Nat.le_succ _⟩
 ·split
  ·simp
  ·exact ⟨rfl,Nat.le_succ _⟩
theorem takeK_len (t : Id) (m : List En) : ∀ k,(takeK t m k).1.length = m.length ∧ (takeK t m k).2.length ≤ k
 | 0 => ⟨rfl,Nat.le_refl _⟩
 | k + 1 => by
  rw [takeK_succ]
  have h1 := takeK_len t m k
  have h2 := takeStep_len t (takeK t m k) k
  omega
theorem takeK_ok {t : Id} {m : List En} (P : List C5 → Prop) (h : ∀ e ∈ m,P e.p) : ∀ k,(∀ e ∈ (takeK t m k).1,P e.p) ∧ ∀ e ∈ (takeK t m k).2,P e.p
 | 0 => ⟨h,fun e he => by simp [takeK] at he⟩
 | k + 1 => by
  have ih := takeK_ok (t := t) P h k
  rw [takeK_succ]
  unfold takeStep
  split
  ·exact ih
  ·rename_i e he
   split
   ·refine ⟨fun x hx => ?_,fun x hx => ?_⟩
    ·rcases List.mem_or_eq_of_mem_set hx with h1 | h1
     ·exact ih.1 x h1
     ·rw [h1]
      exact ih.1 e (List.mem_of_getElem? he)
    ·rcases List.mem_append.1 hx with h1 | h1
     ·exact ih.2 x h1
     ·rw [List.mem_singleton.1 h1]
      exact ih.1 e (List.mem_of_getElem? he)
   ·exact ih
theorem flatN_up : ∀ (l : List XEn) (k : Nat) (x : XEn),l[k]? = some x → flat EN (l.set k (x.1,x.2.1,x.2.2.1,x.2.2.2.1,x.2.2.2.2.1,x.2.2.2.2.2.1,true)) = (flat EN l).set (k * 7 + 6) (.bool true)
 | [],k,x,h => by simp at h
 | y :: r,0,x,h => by
  obtain rfl : y = x := by simpa using h
  rfl
 | y :: r,k + 1,x,h => by
  have ih := flatN_up r k x (by simpa using h)
  rw [show (k + 1) * 7 + 6 = (k * 7 + 6) + 1 + 1 + 1 + 1 + 1 + 1 + 1 by omega]
  simp only [List.set_cons_succ,flat,EN,cellsN,List.cons_append,List.nil_append] at ih ⊢
  rw [ih]
theorem own_upN {w : World} {B g n cap k : Nat} {l : List XEn} {x : XEn} (h : OwnN w B (.slice (some ⟨g,0,none⟩) n cap) l) (hk : l[k]? = some x) :
  OwnN (w.setCell ⟨g,k * 7 + 6,none⟩ (.bool true)) B (.slice (some ⟨g,0,none⟩) n cap) (l.set k (x.1,x.2.1,x.2.2.1,x.2.2.2.1,x.2.2.2.2.1,x.2.2.2.2.2.1,true)) ∧ w.cell? ⟨g,k * 7 + 6,none⟩ = some (.bool x.2.2.2.2.2.2) ∧ w.frozen? ⟨g,k * 7 + 6,none⟩ = false := by
 have c := own_row_at okN h hk w (Below.refl _ _)
 have c6 := c 6 _ rfl
 simp [Addr.add,EN] at c6
 obtain ⟨cur,hb⟩ := own_tag h
 obtain ⟨ao,c',hv⟩ := (Row.of_own h).len
 obtain ⟨_,rfl,_⟩ : some ⟨g,0,none⟩ = ao ∧ n = l.length ∧ cap = c' := by simpa using hv
 have h : w.ownsRow B 43 7 (.slice (some ⟨g,0,none⟩) l.length cap) l.length (flat EN l) := h
 have t1 := (h.stored (k * 7 + 6) (.bool true)).1
 refine ⟨?_,c6,hb.fr _⟩
 have e := flatN_up l k x hk
 show World.ownsRow _ B 43 7 _ (List.length _) (flat EN _)
 rw [e,List.length_set]
 exact t1
theorem All2.set2 {α β : Type} {R : α → β → Prop} : ∀ {l : List α} {m : List β} (k : Nat) {a : α} {b : β},All2 R l m → R a b → All2 R (l.set k a) (m.set k b)
 | _,_,_,_,_,.nil,_ => .nil
 | _,_,0,_,_,.cons _ t,hr => .cons hr t
 | _,_,k + 1,_,_,.cons x t,hr => .cons x (All2.set2 k t hr)
theorem four_new (w : World) (c d e f : Array Value) (r s t u : TypeId) : Below w.heap.size w ((((w.alloc (.cells c r)).alloc (.cells d s)).alloc (.cells e t)).alloc (.cells f u)) ∧ Box ((((w.alloc (.cells c r)).alloc (.cells d s)).alloc (.cells e t)).alloc (.cells f u)) w.heap.size c r ∧ Box ((((w.alloc (.cells c r)).alloc (.cells d s)).alloc (.cells e t)).alloc (.cells f u)) (w.heap.size + 1) d s ∧ Box ((((w.alloc (.cells c r)).alloc (.cells d s)).alloc (.cells e t)).alloc (.cells f u)) (w.heap.size + 1 + 1) e t ∧ Box ((((w.alloc (.cells c r)).alloc (.cells d s)).alloc (.cells e t)).alloc (.cells f u)) (w.heap.size + 1 + 1 + 1) f u := by
 obtain ⟨h0,h1,h2,h3⟩ := three_new w c d e r s t
 refine ⟨h0.alloc h0.size _,h1.more _,h2.more _,h3.more _,?_⟩
 have h := box_new (((w.alloc (.cells c r)).alloc (.cells d s)).alloc (.cells e t)) f u
 have e2 : (((w.alloc (.cells c r)).alloc (.cells d s)).alloc (.cells e t)).heap.size = w.heap.size + 1 + 1 + 1 := by simp
 rw [e2] at h
 exact h
theorem rtake_any (b : Br) (nv av sv ev ov : Sl) (x s : Id) (f : Int) (w : World) (h : BrIn w b nv av sv ev ov) (l3 : b.ent.length ≤ 900) (hok : ∀ e ∈ b.ent,PredOk e.p) :
  Calls Tryz.prog 19 #[brv b.me nv av sv ev ov,idv x,idv s,.int .i64 f] w fun e w' => (∃ ev' lo : Sl,e = .returned (.tuple #[brv b.me nv av sv ev' ov,slv lo,.bool (takeB b x s f).2.2]) ∧ BrIn w' (takeB b x s f).1 nv av sv ev' ov ∧ ∃ xs,RowN w' (slv lo) xs ∧ All2 (EnIn w') xs (takeB b x s f).2.1) ∧ Below w.heap.size w w' := by
 obtain ⟨no,nn,nc⟩ := nv
 obtain ⟨ao,an,ac⟩ := av
 obtain ⟨so,sn,sc⟩ := sv
 obtain ⟨eo,en,ec⟩ := ev
 obtain ⟨oo,on_,oc⟩ := ov
 obtain ⟨c,d⟩ := x
 obtain ⟨c2,d2⟩ := s
 obtain ⟨es,he1,he2⟩ := h.ent
 have KYS := Lib.hid (keys_eq he2)
 have EL := Lib.hid (show es.length ≤ 900 by rw [he2.len]; exact l3)
 have HE2 := Lib.hid he2
 have OK := Lib.hid hok
 obtain ⟨q1,q2,hq⟩ := he1.len
 obtain ⟨rfl,rfl,rfl⟩ : eo = q1 ∧ en = es.length ∧ ec = q2 := by
  have : Value.slice eo en ec = .slice q1 es.length q2 := hq
  simpa using this
 have EY := rentry_any b.me (.slice no nn nc) (.slice ao an ac) (.slice so sn sc) (.slice oo on_ oc) (eo,es.length,ec) es (c,d) (c2,d2)
 have HH := Lib.hid h
 obtain ⟨h0,h1,h2,h3,h4⟩ := four_new w #[.int .i64 b.me,.slice no nn nc,.slice ao an ac,.slice so sn sc,.slice eo es.length ec,.slice oo on_ oc] #[.int .i64 c,.int .i64 d] #[.int .i64 c2,.int .i64 d2] #[.int .i64 0,.slice none 0 0,.slice none 0 0,.slice none 0 0,.slice none 0 0,.slice none 0 0] 31 38 38 31
 obtain ⟨n3,hn3⟩ : ∃ n,n = es.length := ⟨_,rfl⟩
 simp only [← hn3] at h0 h1 h2 h3 h4 he1 HH EY ⊢
 obtain ⟨me,hme⟩ : ∃ me,me = b.me := ⟨_,rfl⟩
 simp only [← hme] at h0 h1 h2 h3 h4 EY ⊢
 have N3 := Lib.hid hn3
 have GB_1 := Lib.hid (h0)
 have X4_2 := Lib.hid (h1)
 have X5_3 := Lib.hid (h2)
 have X6_4 := Lib.hid (h3)
 have X8_5 := Lib.hid (h4)
 have HE_6 := Lib.hid (he1.on h0)
 have HEW := Lib.hid he1
 clear h0 h1 h2 h3 h4 he1 he2 h hq hn3 l3 hme hok
 go_enter Tryz.func19,Tryz.ntmps19
 go_upto_region 1 with fail
 generalize ((((w.alloc (.cells #[.int .i64 me,.slice no nn nc,.slice ao an ac,.slice so sn sc,.slice eo n3 ec,.slice oo on_ oc] 31)).alloc (.cells #[.int .i64 c,.int .i64 d] 38)).alloc (.cells #[.int .i64 c2,.int .i64 d2] 38)).alloc (.cells #[.int .i64 0,.slice none 0 0,.slice none 0 0,.slice none 0 0,.slice none 0 0,.slice none 0 0] 31)) = W at *
 have SW := Lib.hid (EY W HE_6.out)
 clear EY
 obtain ⟨x0,x1,x2,x3,x4,x5⟩ := X4_2.out.cs6
 obtain ⟨y0,y1⟩ := X5_3.out.cs2
 obtain ⟨z0,z1⟩ := X6_4.out.cs2
 rcases findK_or (es.map keyN) ((c,d),(c2,d2)) with hf | ⟨k,hf,hkk⟩
 ·have LB := Lib.hid (show takeB b (c,d) (c2,d2) f = (b,[],false) by
   have hf2 := hf
   rw [KYS.out] at hf2
   unfold takeB
   rw [hf2]
   split
   ·rfl
   ·rw [if_pos rfl])
  rw [hf] at SW
  clear hf
  go_wp2_with fail
  refine SW.out.mono ?_
  rintro e1 w1 ⟨rfl,hb⟩
  clear SW
  clear x0 x1 x2 x3 x4 x5 y0 y1 z0 z1
  have GB_7 := Lib.hid (GB_1.out.trans (hb.mono GB_1.out.size))
  have X4_7 := Lib.hid (X4_2.out.on hb)
  have X5_7 := Lib.hid (X5_3.out.on hb)
  have X6_7 := Lib.hid (X6_4.out.on hb)
  have X8_7 := Lib.hid (X8_5.out.on hb)
  have HE_7 := Lib.hid (HE_6.out.on hb)
  clear GB_1 X4_2 X5_3 X6_4 X8_5 HE_6
  clear hb
  obtain ⟨x0,x1,x2,x3,x4,x5⟩ := X4_7.out.cs6
  obtain ⟨r0,r1,r2,r3,r4,r5⟩ := X8_7.out.cs6
  obtain ⟨rf0,rf1,rf2,rf3,rf4,rf5⟩ := X8_7.out.fs6
  have zz := X8_7.out.lt
  have FB := Lib.hid (setB_box X8_7.out (.int .i64 me) (.slice no nn nc) (.slice ao an ac) (.slice so sn sc) (.slice eo n3 ec) (.slice oo on_ oc))
  have BL := Lib.hid (setB_below (b := w.heap.size + 1 + 1 + 1) GB_7.out (by omega) (.int .i64 me) (.slice no nn nc) (.slice ao an ac) (.slice so sn sc) (.slice eo n3 ec) (.slice oo on_ oc))
  go_wp2_with fail
  obtain ⟨v0,v1,v2,v3,v4,v5⟩ := FB.out.cs6
  refine bodyPost_ret (v := .tuple #[.agg #[.int .i64 me,.slice no nn nc,.slice ao an ac,.slice so sn sc,.slice eo n3 ec,.slice oo on_ oc],.slice none 0 0,.bool false]) (by simp [results,Tryz.results19,go_sem,v0,v1,v2,v3,v4,v5]) rfl ?_
  rw [LB.out]
  exact ⟨⟨(eo,n3,ec),(none,0,0),rfl,HH.out.on BL.out,[],row_nil _,.nil⟩,BL.out⟩
 ·rw [hf] at SW
  have hk : k < es.length := by have := (List.getElem?_eq_some_iff.1 hkk).1; simpa using this
  obtain ⟨y,hy⟩ : ∃ y,es[k]? = some y := ⟨_,List.getElem?_eq_getElem hk⟩
  obtain ⟨e0,he0⟩ : ∃ e,b.ent[k]? = some e := ⟨_,List.getElem?_eq_getElem (by rw [← HE2.out.len]; exact hk)⟩
  obtain ⟨y_,hy_,hye⟩ := HE2.out.at k e0 he0
  obtain rfl : y = y_ := Option.some.inj (hy.symm.trans hy_)
  have hkn : k < n3 := by rw [N3.out]; exact hk
  have LB := Lib.hid (show takeB b (c,d) (c2,d2) f = if e0.from_ ≠ f then (b,[],false) else if e0.up = false then ({ b with ent := cutAt b.ent k },[],false) else ({ b with ent := (takeK (c,d) (cutAt b.ent k) (cutAt b.ent k).length).1 },(takeK (c,d) (cutAt b.ent k) (cutAt b.ent k).length).2,true) by
   have hf2 := hf
   rw [KYS.out] at hf2
   unfold takeB
   rw [hf2,Int.toNat_natCast,he0]
   simp only
   rw [if_neg (by omega)])
  obtain ⟨p,ix,px⟩ := elN HE_6.out rfl N3.out.symm hy
  obtain ⟨t1,t2,t3,t4,⟨po,pn,pc⟩,fr,up⟩ := y
  obtain ⟨hl1,hl2,hfr,hup,hl5⟩ := hye
  simp only at hfr hup
  rw [← hfr,← hup] at LB
  clear hfr hup hl1 hl2 hl5 hy_ he0 e0
  have hik : decide ((k : Int) < 0) = false := decide_eq_false (by omega)
  have XL := EL.out
  go_wp2_with fail
  refine SW.out.mono ?_
  rintro e1 w1 ⟨rfl,hb⟩
  have px2 := px w1 hb
  obtain ⟨p0,p1,p2,p3,p4,p5,p6⟩ := px2
  clear SW px
  clear x0 x1 x2 x3 x4 x5 y0 y1 z0 z1
  have GB_7 := Lib.hid (GB_1.out.trans (hb.mono GB_1.out.size))
  have X4_7 := Lib.hid (X4_2.out.on hb)
  have X5_7 := Lib.hid (X5_3.out.on hb)
  have X6_7 := Lib.hid (X6_4.out.on hb)
  have X8_7 := Lib.hid (X8_5.out.on hb)
  have HE_7 := Lib.hid (HE_6.out.on hb)
  clear GB_1 X4_2 X5_3 X6_4 X8_5 HE_6
  clear hb hf
  by_cases hpf : fr = f
  ·rw [if_neg (by simp [hpf])] at LB
   have hne : (fr != f) = false := by simp [hpf]
   obtain ⟨x0,x1,x2,x3,x4,x5⟩ := X4_7.out.cs6
   obtain ⟨r0,r1,r2,r3,r4,r5⟩ := X8_7.out.cs6
   obtain ⟨rf0,rf1,rf2,rf3,rf4,rf5⟩ := X8_7.out.fs6
   have zz := X8_7.out.lt
   go_upto_region 5 with fail
   clear zz hne hik ix p0 p1 p2 p3 p4 p5 p6
   clear x0 x1 x2 x3 x4 x5 r0 r1 r2 r3 r4 r5 rf0 rf1 rf2 rf3 rf4 rf5
   refine cut5 _ w1 w.heap.size (w.heap.size + 1) me _ _ _ _ eo n3 ec k es _ _ _ _ _ _ _ _ _ _ _ _ _ _ _ _ _ _ _ _ _ _ _ _ _ _ _ _ _ _ _ _ _ _ _ _ _ _ _ _ _ _ _ _ _ _ _ _ _ _ _ _ _ _ _ _ _ _ _ _ _ _ _ _ _ _ _ _ _ _ _ _ _ _ _ _ _ _ _ _ _ _ _ _ _ _ _ _ _ _ _ _ _ _ _ _ _ _ _ _ _ X4_7.out HE_7.out (by omega) XL ?_
   intro xw v39 v40 v41 v42 v43 v44 v45 v46 v47 v48 v49 v50 v51 hbx ho hbl hoth hblk
   have CE := Lib.hid (show All2 (EnIn w) (es.take k ++ es.drop (k + 1)) (cutAt b.ent k) from (HE2.out.take k).append (HE2.out.drop (k + 1)))
   have OK2 := Lib.hid (show ∀ e ∈ cutAt b.ent k,PredOk e.p from fun e he => by
    rcases List.mem_append.1 he with h | h
    ·exact OK.out e (List.mem_of_mem_take h)
    ·exact OK.out e (List.mem_of_mem_drop h))
   have CL := Lib.hid (show (es.take k ++ es.drop (k + 1)).length ≤ 900 from by rw [List.length_append,List.length_take,List.length_drop]; omega)
   generalize es.take k ++ es.drop (k + 1) = cs at *
   obtain ⟨ea,ecc,hev⟩ := (Row.of_own ho).len
   obtain ⟨n,hn⟩ : ∃ n,n = cs.length := ⟨_,rfl⟩
   rw [← hn] at hev
   subst hev
   have N := Lib.hid hn
   clear hn
   have CN := Lib.hid (show (cutAt b.ent k).length = n from by rw [N.out,CE.out.len])
   have hcl := CN.out
   simp only [hcl] at LB
   generalize cutAt b.ent k = cb at *
   clear hcl
   have GB_8 := Lib.hid (GB_7.out.trans (hbl _ (Nat.le_refl _)))
   have X4_9 := Lib.hid (hbx)
   have X5_10 := Lib.hid (hoth _ _ _ (by omega) X5_7.out)
   have X6_11 := Lib.hid (hoth _ _ _ (by omega) X6_7.out)
   have X8_12 := Lib.hid (hoth _ _ _ (by omega) X8_7.out)
   have OE_13 := Lib.hid (own_fewer ho (show w.heap.size + 4 ≤ w1.heap.size by have := X8_7.out.lt; omega))
   have WF := Lib.hid (show w.heap.size + 4 ≤ xw.heap.size from by have := X8_12.out.lt; omega)
   clear hbx ho hbl hoth hblk GB_7 X4_7 X5_7 X6_7 X8_7 HE_7
   cases up
   ·rw [if_pos rfl] at LB
    obtain ⟨x0,x1,x2,x3,x4,x5⟩ := X4_9.out.cs6
    obtain ⟨r0,r1,r2,r3,r4,r5⟩ := X8_12.out.cs6
    obtain ⟨rf0,rf1,rf2,rf3,rf4,rf5⟩ := X8_12.out.fs6
    have zz := X8_12.out.lt
    have FB := Lib.hid (setB_box X8_12.out (.int .i64 me) (.slice no nn nc) (.slice ao an ac) (.slice so sn sc) (.slice ea n ecc) (.slice oo on_ oc))
    have BL := Lib.hid (setB_below (b := w.heap.size + 1 + 1 + 1) GB_8.out (by omega) (.int .i64 me) (.slice no nn nc) (.slice ao an ac) (.slice so sn sc) (.slice ea n ecc) (.slice oo on_ oc))
    have OE2 := Lib.hid (setB_ownA OE_13.out (w.heap.size + 1 + 1 + 1) (by omega) (.int .i64 me) (.slice no nn nc) (.slice ao an ac) (.slice so sn sc) (.slice ea n ecc) (.slice oo on_ oc))
    go_wp2_with fail
    obtain ⟨v0,v1,v2,v3,v4,v5⟩ := FB.out.cs6
    refine bodyPost_ret (v := .tuple #[.agg #[.int .i64 me,.slice no nn nc,.slice ao an ac,.slice so sn sc,.slice ea n ecc,.slice oo on_ oc],.slice none 0 0,.bool false]) (by simp [results,Tryz.results19,go_sem,v0,v1,v2,v3,v4,v5]) rfl ?_
    rw [LB.out]
    have hI := HH.out.on BL.out
    exact ⟨⟨(ea,n,ecc),(none,0,0),rfl,⟨hI.near,hI.adv,hI.seen,⟨cs,Row.of_own OE2.out,CE.out.mono fun _ _ h => h.on BL.out⟩,hI.own⟩,[],row_nil _,.nil⟩,BL.out⟩
   ·rw [if_neg (by simp)] at LB
    have L4 := CL.out
    rw [← N.out] at L4
    obtain ⟨x0,x1,x2,x3,x4,x5⟩ := X4_9.out.cs6
    go_wp2_with fail
    clear x0 x1 x2 x3 x4 x5
    go_loopw [13,58] (fun v i wr => ∃ (k : Nat) (xs ls : List XEn) (a : Option Addr) (c_ : Nat),k ≤ n ∧ i = .int .i64 k ∧ Below w.heap.size w wr ∧ w.heap.size + 4 ≤ wr.heap.size ∧ Box wr w.heap.size #[.int .i64 me,.slice no nn nc,.slice ao an ac,.slice so sn sc,.slice a n c_,.slice oo on_ oc] 31 ∧ Box wr (w.heap.size + 1) #[.int .i64 c,.int .i64 d] 38 ∧ Box wr (w.heap.size + 1 + 1 + 1) #[.int .i64 0,.slice none 0 0,.slice none 0 0,.slice none 0 0,.slice none 0 0,.slice none 0 0] 31 ∧ OwnN wr (w.heap.size + 4) (.slice a n c_) xs ∧ All2 (EnIn w) xs (takeK (c,d) cb k).1 ∧ OwnN wr (w.heap.size + 4) v ls ∧ All2 (EnIn w) ls (takeK (c,d) cb k).2) (fun _ i _ => n - (intOf i).toNat)
    case atStart => exact ⟨0,cs,[],ea,ecc,Nat.zero_le _,rfl,GB_8.out,WF.out,X4_9.out,X5_10.out,X8_12.out,OE_13.out,CE.out,own_nil _ _,.nil⟩
    case round =>
     clear WF GB_8 X4_9 X5_10 X6_11 X8_12 OE_13
     obtain ⟨k,xs,ls,ea,ecc,hk,rfl,hgb,hwf,hx4,hx5,hx8,hoe,hen,hol,hln⟩ := hrel
     have GB_34 := Lib.hid (hgb)
     have X4_35 := Lib.hid (hx4)
     have X5_36 := Lib.hid (hx5)
     have X8_37 := Lib.hid (hx8)
     have OE_38 := Lib.hid (hoe)
     have OL_39 := Lib.hid (hol)
     have WF := Lib.hid hwf
     have EN := Lib.hid hen
     have LN := Lib.hid hln
     clear hgb hwf hx4 hx5 hx8 hoe hen hol hln
     have XN := Lib.hid (show xs.length = n from by rw [EN.out.len,(takeK_len _ _ _).1,CN.out])
     have LN9 := Lib.hid (show ls.length ≤ 900 from by rw [LN.out.len]; exact Nat.le_trans (takeK_len _ _ _).2 (by omega))
     by_cases hlt : k < n
     ·have hlt' : (k : Int) < (n : Int) := by omega
      have hw : IntKind.i64.wrap ((k : Int) + 1) = (k : Int) + 1 := IntWalk.i64_in _ (by omega)
      obtain ⟨y,hy⟩ : ∃ y,xs[k]? = some y := ⟨_,List.getElem?_eq_getElem (by rw [XN.out]; exact hlt)⟩
      obtain ⟨e,he⟩ : ∃ e,(takeK (c,d) cb k).1[k]? = some e := ⟨_,List.getElem?_eq_getElem (by rw [← EN.out.len,XN.out]; exact hlt)⟩
      obtain ⟨y_,hy_,hye⟩ := EN.out.at k e he
      obtain rfl : y = y_ := Option.some.inj (hy.symm.trans hy_)
      have TK := Lib.hid (show takeK (c,d) cb (k + 1) = if e.tree = (c,d) ∧ e.up = false ∧ coveredE (takeK (c,d) cb k).1 (c,d) e.p = false then ((takeK (c,d) cb k).1.set k (upE e),(takeK (c,d) cb k).2 ++ [upE e]) else takeK (c,d) cb k from by rw [takeK_succ]; unfold takeStep; rw [he])
      have OKK := Lib.hid ((takeK_ok (t := (c,d)) PredOk OK2.out k).1)
      have HYE := Lib.hid hye
      have HY := Lib.hid hy
      have OKE := Lib.hid (OKK.out e (List.mem_of_getElem? he))
      clear hy_ hye he
      generalize takeK (c,d) cb k = mk at *
      obtain ⟨p,ix,px⟩ := elN (Row.of_own OE_38.out) rfl XN.out hy
      obtain ⟨p0,p1,p2,p3,p4,p5,p6⟩ := px wr (Below.refl _ _)
      obtain ⟨y1,y2,y3,y4,⟨yo,yn,yc⟩,y6,y7⟩ := y
      simp only at p0 p1 p2 p3 p4 p5 p6
      clear px hy
      obtain ⟨x0,x1,x2,x3,x4,x5⟩ := X4_35.out.cs6
      go_upto_region 13 with fail
      clear x0 x1 x2 x3 x4 x5
      clear p0 p1 p2 p3 p4 p5 p6 ix
      have NN := newB wr (.cells #[.int .i64 y1,.int .i64 y2,.int .i64 y3,.int .i64 y4,.slice yo yn yc,.int .i64 y6,.bool y7] 43)
      have WG := Lib.hid NN.size
      have GB_40 := Lib.hid (GB_34.out.trans (NN.mono GB_34.out.size))
      have X4_40 := Lib.hid (X4_35.out.on NN)
      have X5_40 := Lib.hid (X5_36.out.on NN)
      have X8_40 := Lib.hid (X8_37.out.on NN)
      have OE_40 := Lib.hid (Bk.own_on OE_38.out NN)
      have OL_40 := Lib.hid (Bk.own_on OL_39.out NN)
      clear GB_34 X4_35 X5_36 X8_37 OE_38 OL_39
      clear NN
      have XE_41 := Lib.hid (box_new wr #[.int .i64 y1,.int .i64 y2,.int .i64 y3,.int .i64 y4,.slice yo yn yc,.int .i64 y6,.bool y7] 43)
      generalize wr.alloc (.cells #[.int .i64 y1,.int .i64 y2,.int .i64 y3,.int .i64 y4,.slice yo yn yc,.int .i64 y6,.bool y7] 43) = wa at *
      obtain ⟨x0,x1,x2,x3,x4,x5⟩ := X4_40.out.cs6
      obtain ⟨y_0,y_1⟩ := X5_40.out.cs2
      obtain ⟨z0,z1,z2,z3,z4,z5,z6⟩ := XE_41.out.cs7
      have TE := Lib.hid (show e.tree = (y1,y2) from HYE.out.1.symm)
      have UE := Lib.hid (show e.up = y7 from HYE.out.2.2.2.1.symm)
      obtain ⟨r1,hr1⟩ : ∃ r,(y1 == c && y2 == d) = r := ⟨_,rfl⟩
      have heq := eqId y1 y2 c d r1 hr1
      have R1 := Lib.hid hr1
      clear hr1
      cases r1
      ·go_wp2_with fail
       go_roundw
       case rel => exact ⟨k + 1,xs,ls,ea,ecc,by omega,by go_num,GB_40.out,by have := WG.out; have := WF.out; omega,X4_40.out,X5_40.out,X8_40.out,OE_40.out,by rw [TK.out,if_neg (by intro hh; have h1 := hh.1; rw [TE.out] at h1; have h2 := R1.out; simp at h1; simp [h1] at h2)]; exact EN.out,OL_40.out,by rw [TK.out,if_neg (by intro hh; have h1 := hh.1; rw [TE.out] at h1; have h2 := R1.out; simp at h1; simp [h1] at h2)]; exact LN.out⟩
       case measure => simp [intOf]; omega
      ·cases y7
       ·obtain ⟨cv,hcv⟩ : ∃ r,coveredE mk.1 (c,d) e.p = r := ⟨_,rfl⟩
        have CO := rcovered_any me (.slice no nn nc) (.slice ao an ac) (.slice so sn sc) (.slice oo on_ oc) (ea,n,ecc) xs mk.1 (c,d) (.slice yo yn yc) e.p wa (Row.of_own OE_40.out) (EN.out.mono fun _ _ h => h.on GB_40.out) (HYE.out.2.2.2.2.on GB_40.out) OKK.out OKE.out
        rw [hcv] at CO
        rw [hcv] at TK
        clear hcv
        go_wp2_with fail
        refine CO.mono ?_
        rintro e2 wb ⟨rfl,hb⟩
        clear CO
        clear x0 x1 x2 x3 x4 x5 y_0 y_1 z0 z1 z2 z3 z4 z5 z6
        have GB_42 := Lib.hid (GB_40.out.trans (hb.mono GB_40.out.size))
        have X4_42 := Lib.hid (X4_40.out.on hb)
        have X5_42 := Lib.hid (X5_40.out.on hb)
        have X8_42 := Lib.hid (X8_40.out.on hb)
        have OE_42 := Lib.hid (Bk.own_on OE_40.out hb)
        have OL_42 := Lib.hid (Bk.own_on OL_40.out hb)
        have XE_42 := Lib.hid (XE_41.out.on hb)
        clear GB_40 X4_40 X5_40 X8_40 OE_40 OL_40 XE_41
        have WGb := Lib.hid (Nat.le_trans WG.out hb.size)
        clear hb WG
        have WG := Lib.hid WGb.out
        cases cv
        ·rw [if_pos ⟨by rw [TE.out]; have h := R1.out; simp at h; rw [h.1,h.2],UE.out,rfl⟩] at TK
         have NB := newB wb (.cells #[] 43)
         obtain ⟨va,x1,q1,oa,ga⟩ := app_fresh okN (w := wb.alloc (.cells #[] 43)) wb.heap.size (box_new wb #[] 43) (Nat.le_refl _) (Row.of_own (own_on OE_42.out NB)) (by rw [XN.out]; omega) 28
         have G1 := Lib.hid (NB.trans (ga.mono NB.size))
         have m4 := (X4_42.out.on NB).cell 4
         simp only [List.getElem?_toArray,List.getElem?_cons_zero,List.getElem?_cons_succ] at m4
         rcases own_open oa with ⟨_,h0⟩ | ⟨g,cg,_,rfl,hBg,_,_⟩
         ·rw [h0] at XN
          have := XN.out
          simp at this
          omega
         rw [XN.out] at q1 oa
         have q1 : (Builtin.append_ #[28,28] 28 #[.slice (some ⟨wb.heap.size,0,none⟩) 0 0,.slice ea n ecc]).run Tryz.prog (wb.alloc (.cells #[] 43)) = .ok (.slice (some ⟨g,0,none⟩) n cg) x1 := q1
         have OA := Lib.hid (own_fewer oa (show w.heap.size + 4 ≤ wb.heap.size from by have := WG.out; have := WF.out; omega))
         have GL := Lib.hid (Nat.le_trans hBg (Nat.le_refl g))
         clear oa ga NB
         have OLB := Lib.hid (OL_42.out)
         have GB_43 := Lib.hid (GB_42.out.trans (G1.out.mono GB_42.out.size))
         have X4_43 := Lib.hid (X4_42.out.on G1.out)
         have X5_43 := Lib.hid (X5_42.out.on G1.out)
         have X8_43 := Lib.hid (X8_42.out.on G1.out)
         have OE_43 := Lib.hid (Bk.own_on OE_42.out G1.out)
         have OL_43 := Lib.hid (Bk.own_on OL_42.out G1.out)
         have XE_43 := Lib.hid (XE_42.out.on G1.out)
         clear GB_42 X4_42 X5_42 X8_42 OE_42 OL_42 XE_42
         have WG1 := Lib.hid (Nat.le_trans WG.out G1.out.size)
         obtain ⟨x0,x1,x2,x3,x4,x5⟩ := X4_43.out.cs6
         obtain ⟨xf0,xf1,xf2,xf3,xf4,xf5⟩ := X4_43.out.fs6
         have hl4 := X4_43.out.lt
         go_upto_region 15 with (first | (at_builtin; refine wpList_append_run rfl _ _ 28 rfl rfl rfl q1 ?_) | fail)
         clear x0 x1 x2 x3 x4 x5 xf0 xf1 xf2 xf3 xf4 xf5
         clear hl4 q1 m4
         have X4b := box_set (k := 4) X4_43.out (.slice (some ⟨g,0,none⟩) n cg)
         simp only [List.setIfInBounds_toArray,List.set_cons_zero,List.set_cons_succ] at X4b
         have BK := but_cell x1 w.heap.size 4 (.slice (some ⟨g,0,none⟩) n cg)
         have GB2 := Lib.hid (GB_43.out.setCell (p := ⟨w.heap.size,4,none⟩) (Nat.le_refl _) (.slice (some ⟨g,0,none⟩) n cg))
         have Y4 := Lib.hid X4b
         have Y5 := Lib.hid (BK.box X5_43.out (by omega))
         have Y8 := Lib.hid (BK.box X8_43.out (by omega))
         have OA2 := Lib.hid (own_cell OA.out w.heap.size 4 (.slice (some ⟨g,0,none⟩) n cg) (by omega))
         have OL2 := Lib.hid (own_cell OL_43.out w.heap.size 4 (.slice (some ⟨g,0,none⟩) n cg) (by omega))
         have WG2 := Lib.hid (show wr.heap.size ≤ (x1.setCell ⟨w.heap.size,4,none⟩ (.slice (some ⟨g,0,none⟩) n cg)).heap.size from by have := WG1.out; simpa using this)
         clear X4b BK OA WG1 GB_43 X4_43 X5_43 X8_43 OE_43 OL_43 XE_43
         generalize x1.setCell ⟨w.heap.size,4,none⟩ (.slice (some ⟨g,0,none⟩) n cg) = x2 at *
         have UP := own_upN OA2.out HY.out
         obtain ⟨u1,u2,u3⟩ := UP
         simp only at u1 u2
         have ix := index_own okN g k n cg hlt
         have ix : ∀ w,(Instr.indexAt 28 (.slice (some ⟨g,0,none⟩) n cg) (.int .i64 (k : Int))).run Tryz.prog w = .ok (.pointer (some ⟨g,k * 7,none⟩)) w := ix
         have x4 := Y4.out.cell 4
         simp only [List.getElem?_toArray,List.getElem?_cons_zero,List.getElem?_cons_succ] at x4
         have OU := Lib.hid u1
         clear u1
         have gl : g < x2.heap.size := by obtain ⟨cur,hb⟩ := own_tag OA2.out; exact hb.lt
         go_upto_region 16 with fail
         clear u2 u3 x4 gl
         have BG := but_cell x2 g (k * 7 + 6) (.bool true)
         have GG := Lib.hid (show w.heap.size + 4 ≤ g from by have := WG.out; have := WF.out; have := GL.out; omega)
         have GB3 := Lib.hid (GB2.out.setCell (p := ⟨g,k * 7 + 6,none⟩) (by have := GG.out; show w.heap.size ≤ g; omega) (.bool true))
         have Z4 := Lib.hid (BG.box Y4.out (by have := GG.out; omega))
         have Z5 := Lib.hid (BG.box Y5.out (by have := GG.out; omega))
         have Z8 := Lib.hid (BG.box Y8.out (by have := GG.out; omega))
         have LG := Lib.hid (show u13.ownBlock = none ∨ u13.ownBlock ≠ some g from by
          cases hob : u13.ownBlock with
          | none => exact Or.inl rfl
          | some j =>
           refine Or.inr fun e => ?_
           injection e with e
           have h1 := (OLB.out.lt j hob).2
           have h2 := GL.out
           omega)
         have OL3 := Lib.hid (OL2.out.kept (w' := x2.setCell ⟨g,k * 7 + 6,none⟩ (.bool true)) (row := some g) ⟨rfl,rfl,rfl,by simp [World.setCell],fun j _ hne => RowKit.Below.heap_setCell _ _ _ _ (fun e => hne (by rw [e]))⟩ LG.out)
         have WG3 := Lib.hid (show wr.heap.size ≤ (x2.setCell ⟨g,k * 7 + 6,none⟩ (.bool true)).heap.size from by have := WG2.out; simpa using this)
         clear BG GB2 Y4 Y5 Y8 OA2 OL2 WG2
         generalize x2.setCell ⟨g,k * 7 + 6,none⟩ (.bool true) = x3 at *
         have OU2 := OU.out
         have hset : (xs.set k (y1,y2,y3,y4,(yo,yn,yc),y6,true))[k]? = some (y1,y2,y3,y4,(yo,yn,yc),y6,true) := List.getElem?_set_self (by rw [XN.out]; exact hlt)
         have ce : ∀ j u,(cellsN (y1,y2,y3,y4,(yo,yn,yc),y6,true))[j]? = some u → x3.cell? ((⟨g,k * 7,none⟩ : Addr).add j) = some u := own_row_at okN OU2 hset x3 (Below.refl _ _)
         have c0_ := ce 0 _ rfl
         have c1_ := ce 1 _ rfl
         have c2_ := ce 2 _ rfl
         have c3_ := ce 3 _ rfl
         have c4_ := ce 4 _ rfl
         have c5_ := ce 5 _ rfl
         have c6_ := ce 6 _ rfl
         simp [Addr.add] at c0_ c1_ c2_ c3_ c4_ c5_ c6_
         have x4 := Z4.out.cell 4
         simp only [List.getElem?_toArray,List.getElem?_cons_zero,List.getElem?_cons_succ] at x4
         have hlit := row_lit okN x3 [(y1,y2,y3,y4,(yo,yn,yc),y6,true)] 1 rfl (by simp) #[.int .i64 y1,.int .i64 y2,.int .i64 y3,.int .i64 y4,.slice yo yn yc,.int .i64 y6,.bool true] rfl
         have NB := newB x3 (.cells #[.int .i64 y1,.int .i64 y2,.int .i64 y3,.int .i64 y4,.slice yo yn yc,.int .i64 y6,.bool true] 43)
         have hB : w.heap.size + 4 ≤ (x3.alloc (.cells #[.int .i64 y1,.int .i64 y2,.int .i64 y3,.int .i64 y4,.slice yo yn yc,.int .i64 y6,.bool true] 43)).heap.size := Nat.le_trans (Nat.le_trans WF.out WG3.out) NB.size
         obtain ⟨v',x5,q2,o2,g2⟩ := app_row okN (w.heap.size + 4) (own_on OL3.out NB) (Row.of_own hlit) (by have := LN9.out; omega) (by simp) hB 28
         have q2 : (Builtin.append_ #[28,28] 28 #[u13,.slice (some ⟨x3.heap.size,0,none⟩) 1 1]).run Tryz.prog (x3.alloc (.cells #[.int .i64 y1,.int .i64 y2,.int .i64 y3,.int .i64 y4,.slice yo yn yc,.int .i64 y6,.bool true] 43)) = .ok v' x5 := q2
         have GF := Lib.hid (show Below w.heap.size w x5 from ((GB3.out.trans (NB.mono GB3.out.size)).grown g2 (by omega) fun j hj => by have := ((own_on OL3.out NB).lt j hj).1; omega))
         have BO := Lib.hid (show ∀ j,j < x3.heap.size → some j ≠ u13.ownBlock → x5.heap[j]? = x3.heap[j]? from fun j hj hne => (g2.block j (Nat.lt_of_lt_of_le hj NB.size) hne).trans (NB.block j hj))
         have ZX := fun (bb : Nat) (cs : Array Value) (tt : TypeId) (hbb : bb < w.heap.size + 4) (hbx : Box x3 bb cs tt) => show Box x5 bb cs tt from (BO.out bb hbx.lt (fun e => by have := (OL3.out.lt bb e.symm).1; omega)).trans hbx
         have V4 := Lib.hid (ZX _ _ _ (by omega) Z4.out)
         have V5 := Lib.hid (ZX _ _ _ (by omega) Z5.out)
         have V8 := Lib.hid (ZX _ _ _ (by omega) Z8.out)
         have OU5 := Lib.hid (show OwnN x5 (w.heap.size + 4) (.slice (some ⟨g,0,none⟩) n cg) (xs.set k (y1,y2,y3,y4,(yo,yn,yc),y6,true)) from by
          have h1 := Bk.own_on OU.out NB
          exact h1.kept g2 (by
           cases hob : u13.ownBlock with
           | none => exact Or.inr (by simp [Value.ownBlock])
           | some j =>
            refine Or.inr fun e => ?_
            have h2 := LG.out
            rw [hob] at h2
            rcases h2 with h2 | h2
            ·cases h2
            ·exact h2 (by rw [← e]; rfl)))
         have O2 := Lib.hid o2
         have W5 := Lib.hid (Nat.le_trans WG3.out (Nat.le_trans NB.size g2.size))
         clear hlit hB o2 g2 ZX BO OU2 NB hset ce
         go_wp2_with (first | (at_builtin; refine wpList_append_run rfl _ _ 28 rfl rfl rfl q2 ?_) | fail)
         go_roundw
         case rel => exact ⟨k + 1,_,_,some ⟨g,0,none⟩,cg,by omega,by go_num,GF.out,by have := WF.out; have := W5.out; omega,V4.out,V5.out,V8.out,OU5.out,by
          rw [TK.out]
          exact EN.out.set2 k ⟨HYE.out.1,HYE.out.2.1,HYE.out.2.2.1,rfl,HYE.out.2.2.2.2⟩,O2.out,by
          rw [TK.out]
          exact LN.out.append (.cons ⟨HYE.out.1,HYE.out.2.1,HYE.out.2.2.1,rfl,HYE.out.2.2.2.2⟩ .nil)⟩
         case measure => simp [intOf]; omega
        ·go_wp2_with fail
         go_roundw
         case rel => exact ⟨k + 1,xs,ls,ea,ecc,by omega,by go_num,GB_42.out,by have := WG.out; have := WF.out; omega,X4_42.out,X5_42.out,X8_42.out,OE_42.out,by rw [TK.out,if_neg (by simp)]; exact EN.out,OL_42.out,by rw [TK.out,if_neg (by simp)]; exact LN.out⟩
         case measure => simp [intOf]; omega
       ·go_wp2_with fail
        go_roundw
        case rel => exact ⟨k + 1,xs,ls,ea,ecc,by omega,by go_num,GB_40.out,by have := WG.out; have := WF.out; omega,X4_40.out,X5_40.out,X8_40.out,OE_40.out,by rw [TK.out,if_neg (by intro hh; have h1 := hh.2.1; rw [UE.out] at h1; cases h1)]; exact EN.out,OL_40.out,by rw [TK.out,if_neg (by intro hh; have h1 := hh.2.1; rw [UE.out] at h1; cases h1)]; exact LN.out⟩
        case measure => simp [intOf]; omega
     ·obtain rfl : k = n := by omega
      obtain ⟨x0,x1,x2,x3,x4,x5⟩ := X4_35.out.cs6
      obtain ⟨la,lc,hlv⟩ := (Row.of_own OL_39.out).len
      obtain ⟨ln,hln⟩ : ∃ n,n = ls.length := ⟨_,rfl⟩
      rw [← hln] at hlv
      subst hlv
      clear hln
      obtain ⟨r0,r1,r2,r3,r4,r5⟩ := X8_37.out.cs6
      obtain ⟨rf0,rf1,rf2,rf3,rf4,rf5⟩ := X8_37.out.fs6
      have zz := X8_37.out.lt
      have FB := Lib.hid (setB_box X8_37.out (.int .i64 me) (.slice no nn nc) (.slice ao an ac) (.slice so sn sc) (.slice ea k ecc) (.slice oo on_ oc))
      have BL := Lib.hid (setB_below (b := w.heap.size + 1 + 1 + 1) GB_34.out (by omega) (.int .i64 me) (.slice no nn nc) (.slice ao an ac) (.slice so sn sc) (.slice ea k ecc) (.slice oo on_ oc))
      have OE2 := Lib.hid (setB_ownA OE_38.out (w.heap.size + 1 + 1 + 1) (by omega) (.int .i64 me) (.slice no nn nc) (.slice ao an ac) (.slice so sn sc) (.slice ea k ecc) (.slice oo on_ oc))
      have OL2 := Lib.hid (setB_ownA OL_39.out (w.heap.size + 1 + 1 + 1) (by omega) (.int .i64 me) (.slice no nn nc) (.slice ao an ac) (.slice so sn sc) (.slice ea k ecc) (.slice oo on_ oc))
      go_wp2_with fail
      obtain ⟨v0,v1,v2,v3,v4,v5⟩ := FB.out.cs6
      refine bodyPost_ret (v := .tuple #[.agg #[.int .i64 me,.slice no nn nc,.slice ao an ac,.slice so sn sc,.slice ea k ecc,.slice oo on_ oc],.slice la ln lc,.bool true]) (by simp [results,Tryz.results19,go_sem,v0,v1,v2,v3,v4,v5]) rfl ?_
      rw [LB.out]
      have hI := HH.out.on BL.out
      exact ⟨⟨(ea,k,ecc),(la,ln,lc),rfl,⟨hI.near,hI.adv,hI.seen,⟨xs,Row.of_own OE2.out,EN.out.mono fun _ _ h => h.on BL.out⟩,hI.own⟩,ls,Row.of_own OL2.out,LN.out.mono fun _ _ h => h.on BL.out⟩,BL.out⟩
  ·rw [if_pos hpf] at LB
   have hne : (fr != f) = true := by simp [hpf]
   obtain ⟨x0,x1,x2,x3,x4,x5⟩ := X4_7.out.cs6
   obtain ⟨r0,r1,r2,r3,r4,r5⟩ := X8_7.out.cs6
   obtain ⟨rf0,rf1,rf2,rf3,rf4,rf5⟩ := X8_7.out.fs6
   have zz := X8_7.out.lt
   have FB := Lib.hid (setB_box X8_7.out (.int .i64 me) (.slice no nn nc) (.slice ao an ac) (.slice so sn sc) (.slice eo n3 ec) (.slice oo on_ oc))
   have BL := Lib.hid (setB_below (b := w.heap.size + 1 + 1 + 1) GB_7.out (by omega) (.int .i64 me) (.slice no nn nc) (.slice ao an ac) (.slice so sn sc) (.slice eo n3 ec) (.slice oo on_ oc))
   go_wp2_with fail
   obtain ⟨v0,v1,v2,v3,v4,v5⟩ := FB.out.cs6
   refine bodyPost_ret (v := .tuple #[.agg #[.int .i64 me,.slice no nn nc,.slice ao an ac,.slice so sn sc,.slice eo n3 ec,.slice oo on_ oc],.slice none 0 0,.bool false]) (by simp [results,Tryz.results19,go_sem,v0,v1,v2,v3,v4,v5]) rfl ?_
   rw [LB.out]
   exact ⟨⟨(eo,n3,ec),(none,0,0),rfl,HH.out.on BL.out,[],row_nil _,.nil⟩,BL.out⟩
structure Ou where
 to_ : Int
 kind : Int
 tree : Id
 id : Id
 p : List C5
def OuIn (W : World) (x : XOu) (o : Ou) : Prop := x.1 = o.to_ ∧ x.2.1 = o.kind ∧ (x.2.2.1,x.2.2.2.1) = o.tree ∧ (x.2.2.2.2.1,x.2.2.2.2.2.1) = o.id ∧ RowC W (slv x.2.2.2.2.2.2.1) o.p ∧ x.2.2.2.2.2.2.2 = (none,0,0)
theorem OuIn.on {W W' : World} {x : XOu} {o : Ou} (h : OuIn W x o) (hb : Below W.heap.size W W') : OuIn W' x o := ⟨h.1,h.2.1,h.2.2.1,h.2.2.2.1,h.2.2.2.2.1.on hb,h.2.2.2.2.2⟩
def OutsIn (W : World) (s : Sl) (l : List Ou) : Prop := ∃ xs,RowU W (slv s) xs ∧ All2 (OuIn W) xs l
theorem OutsIn.on {W W' : World} {s : Sl} {l : List Ou} (h : OutsIn W s l) (hb : Below W.heap.size W W') : OutsIn W' s l := by
 obtain ⟨xs,h1,h2⟩ := h
 exact ⟨xs,h1.on hb,h2.mono fun _ _ h => h.on hb⟩
theorem outs_nil (W : World) : OutsIn W (none,0,0) [] := ⟨[],row_nil _,.nil⟩
def subE (to_ : Int) (e : En) : Ou := ⟨to_,3,e.tree,e.sub,e.p⟩
abbrev subX (to_ : Int) (x : XEn) : XOu := (to_,3,x.1,x.2.1,x.2.2.1,x.2.2.2.1,x.2.2.2.2.1,(none,0,0))
theorem sub_in {W : World} {x : XEn} {e : En} (h : EnIn W x e) (t : Int) : OuIn W (subX t x) (subE t e) := ⟨rfl,rfl,h.1,h.2.1,h.2.2.2.2,rfl⟩
def dropB (b : Br) (t x : Id) (f : Int) : Br × List Ou := if (takeB b t x f).2.2 = false then ((takeB b t x f).1,[]) else
 match b.adv[(findI (b.adv.map Ad.id) t).toNat]? with
 | none => ((takeB b t x f).1,[])
 | some a => ((takeB b t x f).1,(takeB b t x f).2.1.map (subE a.par) ++ [⟨a.par,4,t,x,[]⟩])
theorem takeB_adv (b : Br) (t x : Id) (f : Int) : (takeB b t x f).1.adv = b.adv ∧ (takeB b t x f).1.near = b.near ∧ (takeB b t x f).1.me = b.me ∧ (takeB b t x f).1.seen = b.seen ∧ (takeB b t x f).1.own = b.own := by
 unfold takeB
 split
 ·exact ⟨rfl,rfl,rfl,rfl,rfl⟩
 ·split
  ·exact ⟨rfl,rfl,rfl,rfl,rfl⟩
  ·split
   ·exact ⟨rfl,rfl,rfl,rfl,rfl⟩
   ·split <;> exact ⟨rfl,rfl,rfl,rfl,rfl⟩
theorem findI_mem (l : List Id) (x : Id) (h : x ∈ l) : ∃ k : Nat,findI l x = k ∧ l[k]? = some x := by
 induction l with
 | nil => simp at h
 | cons a r ih =>
  by_cases e : a = x
  ·subst e
   exact ⟨0,by simp [findI],rfl⟩
  ·have hr : x ∈ r := by
    rcases List.mem_cons.1 h with h1 | h1
    ·exact absurd h1.symm e
    ·exact h1
   obtain ⟨k,h1,h2⟩ := ih hr
   refine ⟨k + 1,?_,by simpa using h2⟩
   rw [findI,if_neg e,h1,if_neg (by omega)]
   omega
theorem takeB_true {b : Br} {t x : Id} {f : Int} (h : (takeB b t x f).2.2 = true) : ∃ e ∈ b.ent,e.tree = t := by
 unfold takeB at h
 split at h
 ·cases h
 ·rename_i e he
  split at h
  ·cases h
  ·rename_i h1
   rcases findK_or (b.ent.map keyE) (t,x) with h2 | ⟨k,h2,h3⟩
   ·exact absurd h2 h1
   ·rw [h2,Int.toNat_natCast] at he
    refine ⟨e,List.mem_of_getElem? he,?_⟩
    rw [List.getElem?_map,he] at h3
    exact congrArg Prod.fst (Option.some.inj h3)
theorem takeB_len (b : Br) (t x : Id) (f : Int) : (takeB b t x f).1.ent.length ≤ b.ent.length ∧ (takeB b t x f).2.1.length ≤ b.ent.length := by
 unfold takeB
 split
 ·simp
 ·split
  ·simp
  ·split
   ·simp
   ·have hc : (cutAt b.ent (findK (b.ent.map keyE) (t,x)).toNat).length ≤ b.ent.length := by
     unfold cutAt
     rw [List.length_append,List.length_take,List.length_drop]
     omega
    split
    ·exact ⟨hc,by simp⟩
    ·have h1 := takeK_len t (cutAt b.ent (findK (b.ent.map keyE) (t,x)).toNat) (cutAt b.ent (findK (b.ent.map keyE) (t,x)).toNat).length
     exact ⟨by rw [show ((takeK t _ _).1.length) = _ from h1.1]; exact hc,Nat.le_trans h1.2 hc⟩
theorem box_boxF {W x : World} {b F0 : Nat} {cs : Array Value} {t : TypeId} (h : Box W b cs t) (hb : Below F0 W x) (hl : b < F0) : Box x b cs t := (hb.block b hl).trans h
end Go.Proofs.YtncogjpmboglhaaGreat.Bk
