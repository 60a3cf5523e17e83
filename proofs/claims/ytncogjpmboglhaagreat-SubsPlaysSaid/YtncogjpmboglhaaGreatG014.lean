/-
  Name of package tuple and RightOne of package pred: may a constraint s. Conditions as told.
-/
import Derived.Test.YtncogjpmboglhaaGreatG011
import Derived.IntWalk
import Derived.Test.YtncogjpmboglhaaGreatG010
import Derived.Test.YtncogjpmboglhaaGreatG007
import Derived.Test.YtncogjpmboglhaaGreatG006
import Derived.Test.YtncogjpmboglhaaGreatG008
import Derived.Test.YtncogjpmboglhaaGreatG004
import Derived.Laws.Externs
import Derived.Lib.Hide
import Derived.Lib.QuietBelow
import Derived.BigQuiet
set_option maxRecDepth 100000
set_option maxHeartbeats 64000000
namespace Go.Proofs.YtncogjpmboglhaaGreat.Pr
open Go.RowKit Go.Sort Pu Rw Va
theorem name_same (s : ByteArray) (w : World) (hs : s.size ≤ maxLen) :
  Calls Tryz.prog 135 #[.string s] w fun e w' => e = .returned (.bool (nameB s)) ∧ w = w' := by
 unfold maxLen at hs
 go_enter Tryz.func135,Tryz.ntmps135
 go_wp2
 go_loop [6] (fun i => ∃ k : Nat,k ≤ s.size ∧ i = .int .i64 k ∧ ∀ (j : Nat) (hj : j < s.size),j < k → letB s[j] = true) (fun i => s.size - (intOf i).toNat)
 case atStart => exact ⟨0,Nat.zero_le _,rfl,fun j hj h => by omega⟩
 case round =>
  obtain ⟨k,hk,rfl,hall⟩ := hrel
  have AL := Lib.hid hall
  clear hall
  by_cases hlt : k < s.size
  ·have hcl : (s[k].toNat : Int) < 256 := by have := s[k].toNat_lt; omega
   by_cases h1 : 97 ≤ s[k].toNat
   ·by_cases h2 : s[k].toNat ≤ 122
    ·have L := Lib.hid (show letB s[k] = true by simp [letB,h1,h2])
     have d1 : decide ((s[k].toNat : Int) < 97) = false := by simp; omega
     have d2 : decide ((122 : Int) < (s[k].toNat : Int)) = false := by simp; omega
     clear h1 h2
     go_wp2
     go_round
     case rel => exact ⟨k + 1,by omega,by go_num,fun j hj h => by
      rcases Nat.lt_or_ge j k with h3 | h3
      ·exact AL.out j hj h3
      ·obtain rfl : j = k := by omega
       exact L.out⟩
     case measure => simp [intOf]; omega
    ·have R := Lib.hid (show nameB s = false from nameB_not s k hlt (by simp [letB,h2]))
     have d1 : decide ((s[k].toNat : Int) < 97) = false := by simp; omega
     have d2 : decide ((122 : Int) < (s[k].toNat : Int)) = true := by simp; omega
     clear h1 h2
     go_wp2
     go_ret
     exact ⟨ret_bool R.out.symm,rfl⟩
   ·have R := Lib.hid (show nameB s = false from nameB_not s k hlt (by simp [letB,h1]))
    have d1 : decide ((s[k].toNat : Int) < 97) = true := by simp; omega
    clear h1
    go_wp2
    go_ret
    exact ⟨ret_bool R.out.symm,rfl⟩
  ·obtain rfl : k = s.size := by omega
   have R := Lib.hid (nameB_end s (fun j hj => AL.out j hj hj))
   by_cases h1 : 1 ≤ s.size
   ·have R2 := Lib.hid (show nameB s = decide ((s.size : Int) ≤ 12) by rw [R.out]; simp [h1]; omega)
    go_wp2
    go_ret
    exact ⟨ret_bool R2.out.symm,rfl⟩
   ·have R2 := Lib.hid (show nameB s = false by rw [R.out]; simp [h1])
    have d1 : decide ((1 : Int) ≤ (s.size : Int)) = false := by simp; omega
    go_wp2
    go_ret
    exact ⟨ret_bool R2.out.symm,rfl⟩
end Go.Proofs.YtncogjpmboglhaaGreat.Pr
namespace Go.Proofs.YtncogjpmboglhaaGreat.Avp
open Go.RowKit Go.Sort Rw YtncogjpmboglhaaGreat.Nm At Pr Wr Va
theorem new_below (w : World) (o : Obj) : Below w.heap.size w (w.alloc o) := (Below.refl _ _).alloc (Nat.le_refl _) _
theorem noText_is (t : ByteArray) : t.toList.isEmpty = decide (t.size = 0) := by
 rw [ByteArray.toList_eq]
 obtain ⟨⟨l⟩⟩ := t
 cases l <;> simp [ByteArray.size]
theorem name_at (s : ByteArray) (w : World) (hs : s.size ≤ maxLen) :
  Calls Tryz.prog 135 #[.string s] w fun e w' => e = .returned (.bool (nameB s)) ∧ w = w' := Pr.name_same s w hs
theorem pone_range (s t : ByteArray) (lo hi : Int) (w : World) (hs : s.size ≤ maxLen) :
  Calls Tryz.prog 108 #[cv (s,1,lo,hi,t)] w fun e w' => e = .returned (.bool (oneB (s,1,lo,hi,t))) ∧ Below w.heap.size w w' := by
 have B := Lib.hid (new_below w (.cells #[.string s,.int .i64 1,.int .i64 lo,.int .i64 hi,.string t] 47))
 have NM := Lib.hid (fun w => name_at s w hs)
 have R := Lib.hid (show oneB (s,1,lo,hi,t) = (At.nameB s && (decide (lo ≤ hi) && t.toList.isEmpty)) by simp [oneB,noText_is,Bool.and_comm])
 generalize At.nameB s = b at *
 cases b
 ·go_enter Tryz.func108,Tryz.ntmps108
  go_wp2_with fail
  refine (NM.out _).mono ?_
  rintro e w' ⟨rfl,rfl⟩
  go_wp2
  go_ret
  exact ⟨by rw [R.out]; rfl,B.out⟩
 obtain ⟨b1,h1⟩ : ∃ b,decide (lo ≤ hi) = b := ⟨_,rfl⟩
 rw [h1] at R
 cases b1
 ·go_enter Tryz.func108,Tryz.ntmps108
  go_wp2_with fail
  refine (NM.out _).mono ?_
  rintro e w' ⟨rfl,rfl⟩
  go_wp2
  go_ret
  exact ⟨by rw [R.out]; rfl,B.out⟩
 by_cases he : t.toList = []
 ·have R2 := Lib.hid (show oneB (s,1,lo,hi,t) = true by rw [R.out,he]; rfl)
  go_enter Tryz.func108,Tryz.ntmps108
  go_wp2_with fail
  refine (NM.out _).mono ?_
  rintro e w' ⟨rfl,rfl⟩
  go_wp2
  go_ret
  exact ⟨by rw [R2.out]; rfl,B.out⟩
 ·have he2 : t.toList.isEmpty = false := by simpa using he
  have R2 := Lib.hid (show oneB (s,1,lo,hi,t) = false by rw [R.out,he2]; rfl)
  go_enter Tryz.func108,Tryz.ntmps108
  go_wp2_with fail
  refine (NM.out _).mono ?_
  rintro e w' ⟨rfl,rfl⟩
  go_wp2
  go_ret
  exact ⟨by rw [R2.out]; rfl,B.out⟩
theorem oneB_text2 (s t : ByteArray) (lo hi : Int) : oneB (s,2,lo,hi,t) = (At.nameB s && ((lo == 0) && ((hi == 0) && decide ((t.size : Int) ≤ 12)))) := by
 have e : ∀ x : Int,decide (x = 0) = (x == 0) := fun x => by rw [Bool.eq_iff_iff]; simp
 have e3 : decide ((t.size : Int) ≤ 12) = decide (t.size ≤ 12) := by rw [Bool.eq_iff_iff]; simp; omega
 unfold oneB
 simp [e,e3]
theorem oneB_text3 (s t : ByteArray) (lo hi : Int) : oneB (s,3,lo,hi,t) = (At.nameB s && (!decide ((12 : Int) ≤ (t.size : Int)) && ((lo == 0) && (hi == 0)))) := by
 have e : ∀ x : Int,decide (x = 0) = (x == 0) := fun x => by rw [Bool.eq_iff_iff]; simp
 unfold oneB
 simp only [e]
 rw [Bool.eq_iff_iff]
 simp
 omega
theorem pone_text (s t : ByteArray) (lo hi : Int) (w : World) (hs : s.size ≤ maxLen) (_ht : t.size ≤ maxLen) :
  Calls Tryz.prog 108 #[cv (s,2,lo,hi,t)] w fun e w' => e = .returned (.bool (oneB (s,2,lo,hi,t))) ∧ Below w.heap.size w w' := by
 have B := Lib.hid (new_below w (.cells #[.string s,.int .i64 2,.int .i64 lo,.int .i64 hi,.string t] 47))
 have NM := Lib.hid (fun w => name_at s w hs)
 have R := Lib.hid (oneB_text2 s t lo hi)
 generalize At.nameB s = b at *
 obtain ⟨b1,h1⟩ : ∃ x,(lo == 0) = x := ⟨_,rfl⟩
 obtain ⟨b2,h2⟩ : ∃ x,(hi == 0) = x := ⟨_,rfl⟩
 obtain ⟨b3,h3⟩ : ∃ x,decide ((t.size : Int) ≤ 12) = x := ⟨_,rfl⟩
 rw [h1,h2,h3] at R
 cases b <;> cases b1 <;> cases b2 <;> cases b3 <;> (
  go_enter Tryz.func108,Tryz.ntmps108
  go_wp2_with fail
  refine (NM.out _).mono ?_
  rintro e w' ⟨rfl,rfl⟩
  go_wp2
  go_ret
  exact ⟨by rw [R.out]; rfl,B.out⟩)
theorem pone_prefix (s t : ByteArray) (lo hi : Int) (w : World) (hs : s.size ≤ maxLen) (_ht : t.size ≤ maxLen) :
  Calls Tryz.prog 108 #[cv (s,3,lo,hi,t)] w fun e w' => e = .returned (.bool (oneB (s,3,lo,hi,t))) ∧ Below w.heap.size w w' := by
 have B := Lib.hid (new_below w (.cells #[.string s,.int .i64 3,.int .i64 lo,.int .i64 hi,.string t] 47))
 have NM := Lib.hid (fun w => name_at s w hs)
 have R := Lib.hid (oneB_text3 s t lo hi)
 have h4 : decide ((12 : Int) ≤ (t.size : Int)) = false → decide ((t.size : Int) ≤ 12) = true := by
  intro h
  simp at h ⊢
  omega
 generalize At.nameB s = b at *
 obtain ⟨b1,h1⟩ : ∃ x,(lo == 0) = x := ⟨_,rfl⟩
 obtain ⟨b2,h2⟩ : ∃ x,(hi == 0) = x := ⟨_,rfl⟩
 obtain ⟨b3,h3⟩ : ∃ x,decide ((12 : Int) ≤ (t.size : Int)) = x := ⟨_,rfl⟩
 rw [h1,h2,h3] at R
 cases b3
 ·have h5 := h4 h3
  clear h4
  cases b <;> cases b1 <;> cases b2 <;> (
   go_enter Tryz.func108,Tryz.ntmps108
   go_wp2_with fail
   refine (NM.out _).mono ?_
   rintro e w' ⟨rfl,rfl⟩
   go_wp2
   go_ret
   exact ⟨by rw [R.out]; rfl,B.out⟩)
 ·clear h4
  cases b <;> (
   go_enter Tryz.func108,Tryz.ntmps108
   go_wp2_with fail
   refine (NM.out _).mono ?_
   rintro e w' ⟨rfl,rfl⟩
   go_wp2
   go_ret
   exact ⟨by rw [R.out]; rfl,B.out⟩)
theorem pone_other (s t : ByteArray) (k lo hi : Int) (w : World) (hs : s.size ≤ maxLen) (h1 : k ≠ 1) (h2 : k ≠ 2) (h3 : k ≠ 3) :
  Calls Tryz.prog 108 #[cv (s,k,lo,hi,t)] w fun e w' => e = .returned (.bool (oneB (s,k,lo,hi,t))) ∧ Below w.heap.size w w' := by
 have B := Lib.hid (new_below w (.cells #[.string s,.int .i64 k,.int .i64 lo,.int .i64 hi,.string t] 47))
 have NM := Lib.hid (fun w => name_at s w hs)
 have R := Lib.hid (show oneB (s,k,lo,hi,t) = false by simp [oneB,h1,h2,h3])
 have e1 : (k == 1) = false := by simpa using h1
 have e2 : (k == 2) = false := by simpa using h2
 have e3 : (k == 3) = false := by simpa using h3
 clear h1 h2 h3
 generalize At.nameB s = b at *
 cases b <;> (
  go_enter Tryz.func108,Tryz.ntmps108
  go_wp2_with fail
  refine (NM.out _).mono ?_
  rintro e w' ⟨rfl,rfl⟩
  go_wp2
  go_ret
  exact ⟨by rw [R.out]; rfl,B.out⟩)
theorem pone_any (c : C5) (w : World) (hs : c.1.size ≤ maxLen) (ht : c.2.2.2.2.size ≤ maxLen) :
  Calls Tryz.prog 108 #[cv c] w fun e w' => e = .returned (.bool (oneB c)) ∧ Below w.heap.size w w' := by
 obtain ⟨s,k,lo,hi,t⟩ := c
 by_cases h1 : k = 1
 ·subst h1; exact pone_range s t lo hi w hs
 by_cases h2 : k = 2
 ·subst h2; exact pone_text s t lo hi w hs ht
 by_cases h3 : k = 3
 ·subst h3; exact pone_prefix s t lo hi w hs ht
 exact pone_other s t k lo hi w hs h1 h2 h3
theorem pright_any (lv : Value) (l : List C5) (w : World) (hl : RowC w lv l) (hs : ∀ x ∈ l,x.1.size ≤ maxLen ∧ x.2.2.2.2.size ≤ maxLen) :
  Calls Tryz.prog 54 #[lv] w fun e w' => e = .returned (.bool (rightP l)) ∧ Below w.heap.size w w' := by
 have HL := Lib.hid hl
 have HS := Lib.hid hs
 have HM := Lib.hid hl.most
 obtain ⟨ao,ac,rfl⟩ := hl.len
 clear hl hs
 by_cases hfew : l.length ≤ 5
 ·have d0 : decide ((5 : Int) < (l.length : Int)) = false := by simp; omega
  go_enter Tryz.func54,Tryz.ntmps54
  go_wp2
  go_loopw [10] (fun i wr => ∃ k : Nat,k ≤ l.length ∧ i = .int .i64 k ∧ Below w.heap.size w wr ∧ ∀ j,j < k → goodP l j = true) (fun i _ => l.length - (intOf i).toNat)
  case atStart => exact ⟨0,Nat.zero_le _,rfl,Below.refl _ _,fun j h => by omega⟩
  case round =>
   obtain ⟨k,hk,rfl,hb,hall⟩ := hrel
   have HB := Lib.hid hb
   have AL := Lib.hid hall
   clear hb hall d0
   by_cases hlt : k < l.length
   ·obtain ⟨⟨xn,xk,xi,xj,xs⟩,hx⟩ : ∃ x,l[k]? = some x := ⟨_,List.getElem?_eq_getElem hlt⟩
    obtain ⟨p,ix,px⟩ := elC HL.out rfl rfl hx
    obtain ⟨p0,p1,p2,p3,p4⟩ := px _ HB.out
    have hsz := HS.out _ (List.mem_of_getElem? hx)
    have C := Lib.hid (pone_any (xn,xk,xi,xj,xs) (wr.alloc (.cells #[.string xn,.int .i64 xk,.int .i64 xi,.int .i64 xj,.string xs] 47)) hsz.1 hsz.2)
    have B4 := Lib.hid (HB.out.alloc HB.out.size (.cells #[.string xn,.int .i64 xk,.int .i64 xi,.int .i64 xj,.string xs] 47))
    have X4 := Lib.hid (box_new wr #[.string xn,.int .i64 xk,.int .i64 xi,.int .i64 xj,.string xs] 47)
    have HX := Lib.hid hx
    obtain ⟨r1,h1⟩ : ∃ r,oneB (xn,xk,xi,xj,xs) = r := ⟨_,rfl⟩
    have E1 := Lib.hid h1
    rw [h1] at C
    clear hx px hsz h1
    simp only at p0 p1 p2 p3 p4
    go_wp2_with fail
    refine C.out.mono ?_
    rintro e5 w6 ⟨rfl,hb5⟩
    have BN := Lib.hid (B4.out.trans (hb5.mono B4.out.size))
    have b0 := cell_regrown (show w6.cell? ⟨wr.heap.size,0,none⟩ = some (.string xn) from (X4.out.on hb5).cell 0)
    clear hb5 C B4 ix p0 p1 p2 p3 p4 X4
    cases r1
    ·have R := Lib.hid (show rightP l = false from rightP_not l k hlt (by simp [goodP,HX.out,E1.out]))
     go_wp2
     go_ret
     exact ⟨ret_bool R.out.symm,BN.out⟩
    ·cases k with
     | zero =>
      have G := Lib.hid (show goodP l 0 = true by simp [goodP,HX.out,E1.out])
      rw [show ((0 : Nat) : Int) = 0 from rfl]
      go_wp2
      refine wp_region_quiet_below (by kernel_rfl) (by kernel_rfl) ?_
      repeat (go_big_quiet_step (fail))
      refine wpQuiet_nil ?_
      intro _ hw'
      obtain ⟨⟨dq,osq⟩,hw''⟩ := hw'
      subst hw''
      have BZ := Lib.hid (BN.out.trans ((below_regrown w6 dq osq).mono BN.out.size))
      clear b0
      go_wp2
      go_roundw
      case rel => exact ⟨0 + 1,by omega,by go_num,BZ.out,fun j hj => by
       rcases Nat.lt_or_ge j (0) with h3 | h3
       ·exact AL.out j h3
       ·obtain rfl : j = 0 := by omega
        exact G.out⟩
      case measure => simp [intOf]; omega
     | succ m =>
      obtain ⟨⟨yn,yt,yi,yj,ys⟩,hy⟩ : ∃ y,l[m]? = some y := ⟨_,List.getElem?_eq_getElem (by omega)⟩
      obtain ⟨q,iy,qx⟩ := elC HL.out rfl rfl hy
      have y0 := cell_regrown (qx _ BN.out).1
      have HY := Lib.hid hy
      obtain ⟨r3,h3⟩ : ∃ r,Op.bytesLess yn.toList xn.toList = r := ⟨_,rfl⟩
      have E3 := Lib.hid h3
      clear hy qx
      simp only at y0
      rw [show ((m + 1 : Nat) : Int) = (m : Int) + 1 from rfl]
      have e35 : IntKind.i64.wrap ((m : Int) + 1 - 1) = m := by rw [show (m : Int) + 1 - 1 = m by omega]; exact IntWalk.i64_in _ (by omega)
      have e36 : (m : Int) + 1 - 1 = m := by omega
      cases r3
      ·have R := Lib.hid (show rightP l = false from rightP_not l (m + 1) hlt (by simp [goodP,HX.out,E1.out,HY.out,pairC,E3.out]))
       go_wp2
       refine wp_region_quiet_below (by kernel_rfl) (by kernel_rfl) ?_
       repeat (go_big_quiet_step (fail))
       refine wpQuiet_nil ?_
       intro _ hw'
       obtain ⟨⟨dq,osq⟩,hw''⟩ := hw'
       subst hw''
       have BZ := Lib.hid (BN.out.trans ((below_regrown w6 dq osq).mono BN.out.size))
       go_wp2
       go_ret
       exact ⟨ret_bool R.out.symm,BZ.out⟩
      ·have G := Lib.hid (show goodP l (m + 1) = true by simp [goodP,HX.out,E1.out,HY.out,pairC,E3.out])
       go_wp2
       refine wp_region_quiet_below (by kernel_rfl) (by kernel_rfl) ?_
       repeat (go_big_quiet_step (fail))
       refine wpQuiet_nil ?_
       intro _ hw'
       obtain ⟨⟨dq,osq⟩,hw''⟩ := hw'
       subst hw''
       have BZ := Lib.hid (BN.out.trans ((below_regrown w6 dq osq).mono BN.out.size))
       clear iy y0 e35 e36 h3 b0
       go_wp2
       go_roundw
       case rel => exact ⟨m + 1 + 1,by omega,by go_num,BZ.out,fun j hj => by
        rcases Nat.lt_or_ge j (m + 1) with h3 | h3
        ·exact AL.out j h3
        ·obtain rfl : j = m + 1 := by omega
         exact G.out⟩
       case measure => simp [intOf]; omega
   ·obtain rfl : k = l.length := by omega
    have R := Lib.hid (show rightP l = true by rw [rightP_end l AL.out]; simp; omega)
    go_wp2
    go_ret
    exact ⟨ret_bool R.out.symm,HB.out⟩
 ·have d0 : decide ((5 : Int) < (l.length : Int)) = true := by simp; omega
  have R := Lib.hid (show rightP l = false by simp [rightP,hfew])
  go_enter Tryz.func54,Tryz.ntmps54
  go_wp2
  go_ret
  exact ⟨ret_bool R.out.symm,Below.refl _ _⟩
end Go.Proofs.YtncogjpmboglhaaGreat.Avp
namespace Go.Proofs.YtncogjpmboglhaaGreat.Av
open Go.RowKit Go.Sort Rw YtncogjpmboglhaaGreat.Nm Pr Bk
def cp6V (B : Nat) (b1 : Nat) (_me : Int) (_z1 _z3 _z4 _z5 : Value) (g n cap k : Nat) (y1 y2 : Int) (yo : Option Addr) (yn yc : Nat) (y4 : Int) (p : List C5) (i : Nat) (v : Value) (x : World) : Prop :=
 match i with
 | 0 => v = .pointer (some ⟨b1,2,none⟩)
 | 1 => v = .slice (some ⟨g,0,none⟩) n cap
 | 2 => v = .int .i64 (k : Int)
 | 3 => v = .pointer (some ⟨b1,2,none⟩)
 | 4 => v = .slice (some ⟨g,0,none⟩) n cap
 | 5 => v = .int .i64 (k : Int)
 | 6 => v = .pointer (some ⟨g,k * 4,none⟩)
 | 7 => v = valD (y1,y2,(yo,yn,yc),y4)
 | 8 => ∃ s : Sl,v = valD (y1,y2,s,y4) ∧ OwnC x B (slv s) p
 | 9 => v = .pointer (some ⟨g,k * 4,none⟩)
 | _ => True
noncomputable def cp6C : Code := ((Tryz.f76.body.bind (findRegion 6)).getD .skip)
theorem cp6V_on (B : Nat) (b1 : Nat) (me : Int) (z1 z3 z4 z5 : Value) (g n cap k : Nat) (y1 y2 : Int) (yo : Option Addr) (yn yc : Nat) (y4 : Int) (p : List C5) (i : Nat) (v : Value) (x x' : World) (h : cp6V B b1 me z1 z3 z4 z5 g n cap k y1 y2 yo yn yc y4 p i v x) (hb : Below x.heap.size x x') : cp6V B b1 me z1 z3 z4 z5 g n cap k y1 y2 yo yn yc y4 p i v x' := by
 by_cases hi : i < 10
 ·rcases (by omega : i = 0 ∨ i = 1 ∨ i = 2 ∨ i = 3 ∨ i = 4 ∨ i = 5 ∨ i = 6 ∨ i = 7 ∨ i = 8 ∨ i = 9) with rfl | rfl | rfl | rfl | rfl | rfl | rfl | rfl | rfl | rfl
  ·exact h
  ·exact h
  ·exact h
  ·exact h
  ·exact h
  ·exact h
  ·exact h
  ·exact h
  ·obtain ⟨s,h1,h2⟩ := h; exact ⟨s,h1,Bk.own_on h2 hb⟩
  ·exact h
 ·unfold cp6V
  split <;> first | omega | trivial
theorem cp6 (Q : Exit → Act → World → Prop) (W : World) (B0 : Nat) (l : List XAd) (b1 : Nat) (me : Int) (z1 z3 z4 z5 : Value) (g n cap k : Nat) (y1 y2 : Int) (yo : Option Addr) (yn yc : Nat) (y4 : Int) (p : List C5) (u0 u2 u4 u5 u6 u7 u8 u9 u10 u11 u12 u13 u14 u15 u16 u17 u18 u19 u20 u21 u22 u23 u24 u25 u26 u27 u28 u29 u30 u31 u32 u33 u34 u35 u36 u37 u38 u39 u40 u41 u42 u43 u44 u45 u46 u47 u48 u49 u50 u51 u52 u53 u54 u55 u56 u57 u58 u59 u60 u61 u62 u63 u64 u65 u66 u67 u68 u69 u70 u71 u72 u73 u74 u75 u76 u77 u78 u79 u80 u81 : Value)
  (h1 : Box W b1 #[.int .i64 me,z1,.slice (some ⟨g,0,none⟩) n cap,z3,z4,z5] 31) (ho : OwnD W B0 (.slice (some ⟨g,0,none⟩) n cap) l) (hy : l[k]? = some (y1,y2,(yo,yn,yc),y4)) (hp : RowC W (.slice yo yn yc) p) (lp : p.length ≤ 900)
  (hQ : ∀ (x : World) (v32 v33 v34 v35 v36 v37 v38 v39 v40 v41 : Value) (s1 : Option Addr) (s2 s3 : Nat),OwnC x W.heap.size (.slice s1 s2 s3) p → OwnD x B0 (.slice (some ⟨g,0,none⟩) n cap) (l.set k (y1,y2,(s1,s2,s3),y4)) → But g W x → (∀ B1,B1 ≤ g → B1 ≤ W.heap.size → Below B1 W x) → Q .normal ⟨(u0 :: .pointer (some ⟨b1,0,none⟩) :: u2 :: .int .i64 (k : Int) :: u4 :: u5 :: u6 :: u7 :: u8 :: u9 :: u10 :: u11 :: u12 :: u13 :: u14 :: u15 :: u16 :: u17 :: u18 :: u19 :: u20 :: u21 :: u22 :: u23 :: u24 :: u25 :: u26 :: u27 :: u28 :: u29 :: u30 :: u31 :: v32 :: v33 :: v34 :: v35 :: v36 :: v37 :: v38 :: v39 :: v40 :: v41 :: u42 :: u43 :: u44 :: u45 :: u46 :: u47 :: u48 :: u49 :: u50 :: u51 :: u52 :: u53 :: u54 :: u55 :: u56 :: u57 :: u58 :: u59 :: u60 :: u61 :: u62 :: u63 :: u64 :: u65 :: u66 :: u67 :: u68 :: u69 :: u70 :: u71 :: u72 :: u73 :: u74 :: u75 :: u76 :: u77 :: u78 :: u79 :: u80 :: u81 :: []).toArray,[]⟩ x) :
  Code.wp Tryz.prog cp6C Q ⟨(u0 :: .pointer (some ⟨b1,0,none⟩) :: u2 :: .int .i64 (k : Int) :: u4 :: u5 :: u6 :: u7 :: u8 :: u9 :: u10 :: u11 :: u12 :: u13 :: u14 :: u15 :: u16 :: u17 :: u18 :: u19 :: u20 :: u21 :: u22 :: u23 :: u24 :: u25 :: u26 :: u27 :: u28 :: u29 :: u30 :: u31 :: u32 :: u33 :: u34 :: u35 :: u36 :: u37 :: u38 :: u39 :: u40 :: u41 :: u42 :: u43 :: u44 :: u45 :: u46 :: u47 :: u48 :: u49 :: u50 :: u51 :: u52 :: u53 :: u54 :: u55 :: u56 :: u57 :: u58 :: u59 :: u60 :: u61 :: u62 :: u63 :: u64 :: u65 :: u66 :: u67 :: u68 :: u69 :: u70 :: u71 :: u72 :: u73 :: u74 :: u75 :: u76 :: u77 :: u78 :: u79 :: u80 :: u81 :: []).toArray,[]⟩ W := by
 have HQ := Lib.hid hQ
 have H1 := Lib.hid h1
 have HO := Lib.hid ho
 have HY := Lib.hid hy
 have HP := Lib.hid hp
 have LP := Lib.hid lp
 have IX := Lib.hid (index_own okD g k n cap (by obtain ⟨_,_,hv⟩ := (Row.of_own ho).len; have h := (List.getElem?_eq_some_iff.1 hy).1; simp at hv; omega))
 have EL := Lib.hid (own_row_at okD ho hy)
 clear hQ h1 ho hy hp lp
 have stab := cp6V_on W.heap.size b1 me z1 z3 z4 z5 g n cap k y1 y2 yo yn yc y4 p
 unfold cp6C
 conv => arg 2; whnf
 have nd : ∀ j,(j < 32 ∨ 42 ≤ j) → ∀ i,i < 10 → (fun i => 32 + i) i ≠ j := by
  intro j hj i hi h
  simp only at h
  omega
 refine Rg.region_live 11 10 (fun i => 32 + i) (fun _ => 10) (cp6V W.heap.size b1 me z1 z3 z4 z5 g n cap k y1 y2 yo yn yc y4 p) (by kernel_rfl) (by kernel_rfl) rfl (by decide) (fun i j _ _ h => by have h2 : 32 + i = 32 + j := h; omega) (fun i hi => by show 32 + i < 82; omega) ?_ (fun _ => Rg.hall_of 14 (by kernel_rfl)) ?_ ?_
 ·intro i o hi ho a x D hnd hc hD hb seen K hK
  clear HQ
  rcases (by omega : i = 0 ∨ i = 1 ∨ i = 2 ∨ i = 3 ∨ i = 4 ∨ i = 5 ∨ i = 6 ∨ i = 7 ∨ i = 8 ∨ i = 9) with rfl | rfl | rfl | rfl | rfl | rfl | rfl | rfl | rfl | rfl
  ·obtain rfl := Option.some.inj ho
   have e1 : a.eval (.tmp 1) = .pointer (some ⟨b1,0,none⟩) := seen.kp 1 _ (nd 1 (by omega)) rfl
   exact Rg.op_value rfl rfl (Rg.ex_field a.eval _ 31 (.tmp 1) 2 rfl (by rw [e1]; simp [go_sem])) (hK _ _ rfl (Below.refl _ _) fun _ _ _ _ _ _ _ h => h)
  ·obtain rfl := Option.some.inj ho
   have e32 : a.eval (.tmp 32) = .pointer (some ⟨b1,2,none⟩) := seen.at_ ⟨0,.data⟩ (by simp) rfl (Or.inr (by decide))
   have y2 := (H1.out.on hb).cell 2
   simp only [List.getElem?_toArray,List.getElem?_cons_zero,List.getElem?_cons_succ] at y2
   exact Rg.op_value rfl rfl (Rg.ex_load a.eval _ 26 (.tmp 32) rfl (by rw [e32]; simp [go_sem,y2])) (hK _ _ rfl (Below.refl _ _) fun _ _ _ _ _ _ _ h => h)
  ·obtain rfl := Option.some.inj ho
   have e3 : a.eval (.tmp 3) = .int .i64 (k : Int) := seen.kp 3 _ (nd 3 (by omega)) rfl
   exact Rg.op_value rfl rfl (Rg.ex_move a.eval _ (.tmp 3) rfl x) (hK _ _ e3 (Below.refl _ _) fun _ _ _ _ _ _ _ h => h)
  ·obtain rfl := Option.some.inj ho
   have e1 : a.eval (.tmp 1) = .pointer (some ⟨b1,0,none⟩) := seen.kp 1 _ (nd 1 (by omega)) rfl
   exact Rg.op_value rfl rfl (Rg.ex_field a.eval _ 31 (.tmp 1) 2 rfl (by rw [e1]; simp [go_sem])) (hK _ _ rfl (Below.refl _ _) fun _ _ _ _ _ _ _ h => h)
  ·obtain rfl := Option.some.inj ho
   have e35 : a.eval (.tmp 35) = .pointer (some ⟨b1,2,none⟩) := seen.at_ ⟨3,.data⟩ (by simp) rfl (Or.inr (by decide))
   have y2 := (H1.out.on hb).cell 2
   simp only [List.getElem?_toArray,List.getElem?_cons_zero,List.getElem?_cons_succ] at y2
   exact Rg.op_value rfl rfl (Rg.ex_load a.eval _ 26 (.tmp 35) rfl (by rw [e35]; simp [go_sem,y2])) (hK _ _ rfl (Below.refl _ _) fun _ _ _ _ _ _ _ h => h)
  ·obtain rfl := Option.some.inj ho
   have e3 : a.eval (.tmp 3) = .int .i64 (k : Int) := seen.kp 3 _ (nd 3 (by omega)) rfl
   exact Rg.op_value rfl rfl (Rg.ex_move a.eval _ (.tmp 3) rfl x) (hK _ _ e3 (Below.refl _ _) fun _ _ _ _ _ _ _ h => h)
  ·obtain rfl := Option.some.inj ho
   have e36 : a.eval (.tmp 36) = .slice (some ⟨g,0,none⟩) n cap := seen.at_ ⟨4,.data⟩ (by simp) rfl (Or.inr (by decide))
   have e37 : a.eval (.tmp 37) = .int .i64 (k : Int) := seen.at_ ⟨5,.data⟩ (by simp) rfl (Or.inr (by decide))
   exact Rg.op_value rfl rfl (Rg.ex_index a.eval _ 26 (.tmp 36) (.tmp 37) rfl (by rw [e36,e37]; exact IX.out x)) (hK _ _ rfl (Below.refl _ _) fun _ _ _ _ _ _ _ h => h)
  ·obtain rfl := Option.some.inj ho
   have e38 : a.eval (.tmp 38) = .pointer (some ⟨g,k * 4,none⟩) := seen.at_ ⟨6,.data⟩ (by simp) rfl (Or.inr (by decide))
   exact Rg.op_value rfl rfl (Rg.ex_load a.eval _ 41 (.tmp 38) rfl (by rw [e38]; exact loadD x _ (y1,y2,(yo,yn,yc),y4) (EL.out x hb))) (hK _ _ rfl (Below.refl _ _) fun _ _ _ _ _ _ _ h => h)
  ·obtain rfl := Option.some.inj ho
   have e39 : a.eval (.tmp 39) = valD (y1,y2,(yo,yn,yc),y4) := seen.at_ ⟨7,.data⟩ (by simp) rfl (Or.inr (by decide))
   exact Rg.op_call rfl rfl (Rw.ex_call1 a.eval _ (.tmp 39) 41 85 rfl e39 rfl _ (call_fn Tryz.func85 rfl rfl _ _)) (cpAd_any (y1,y2,(yo,yn,yc),y4) p x (HP.out.on hb) LP.out) fun e w1 h => by
    obtain ⟨⟨s,rfl,h1⟩,h3⟩ := h
    exact ⟨_,rfl,hK _ _ ⟨s,rfl,own_fewer h1 hb.size⟩ (h3.mono hb.size) fun j u hj _ _ _ hne h => stab j u _ _ h h3⟩
  ·obtain rfl := Option.some.inj ho
   have e33 : a.eval (.tmp 33) = .slice (some ⟨g,0,none⟩) n cap := seen.at_ ⟨1,.data⟩ (by simp) rfl (Or.inr (by decide))
   have e34 : a.eval (.tmp 34) = .int .i64 (k : Int) := seen.at_ ⟨2,.data⟩ (by simp) rfl (Or.inr (by decide))
   exact Rg.op_value rfl rfl (Rg.ex_index a.eval _ 26 (.tmp 33) (.tmp 34) rfl (by rw [e33,e34]; exact IX.out x)) (hK _ _ rfl (Below.refl _ _) fun _ _ _ _ _ _ _ h => h)
 ·intro kk o h1 h2 ho
  omega
 ·intro a w' df sz kp ⟨vs,hv⟩ hb
  have sz' : a.tmps.size = 82 := sz
  have g41 : a.tmps[41]? = some (.pointer (some ⟨g,k * 4,none⟩)) := by
   have h : vs 9 = .pointer (some ⟨g,k * 4,none⟩) := (hv 9 (by omega)).2 (by decide)
   rw [← h]
   exact (hv 9 (by omega)).1
  obtain ⟨⟨s1,s2,s3⟩,hs,hc⟩ := (hv 8 (by omega)).2 (by decide)
  have g40 : a.tmps[40]? = some (valD (y1,y2,(s1,s2,s3),y4)) := ((hv 8 (by omega)).1).trans (congrArg some hs)
  obtain ⟨w2,hr,st1,st2,st3⟩ := storeD (k := k) (y1,y2,(s1,s2,s3),y4) (Bk.own_on HO.out hb) (List.getElem?_eq_some_iff.1 HY.out).1
  obtain ⟨cur,hg⟩ := own_tag (Bk.own_on HO.out hb)
  show Rg.SeqFrom _ _ _ 1 10 a w'
  simp only [Rg.SeqFrom]
  refine Rg.op_store 41 (.tmp 41) (.tmp 40) rfl rfl rfl rfl (Rg.eval_some g41) (Rg.eval_some g40) (w' := w2) hr ?_
  have kp2 : ∀ j,(j < 32 ∨ 42 ≤ j) → (a).tmps[j]? = (u0 :: .pointer (some ⟨b1,0,none⟩) :: u2 :: .int .i64 (k : Int) :: u4 :: u5 :: u6 :: u7 :: u8 :: u9 :: u10 :: u11 :: u12 :: u13 :: u14 :: u15 :: u16 :: u17 :: u18 :: u19 :: u20 :: u21 :: u22 :: u23 :: u24 :: u25 :: u26 :: u27 :: u28 :: u29 :: u30 :: u31 :: u32 :: u33 :: u34 :: u35 :: u36 :: u37 :: u38 :: u39 :: u40 :: u41 :: u42 :: u43 :: u44 :: u45 :: u46 :: u47 :: u48 :: u49 :: u50 :: u51 :: u52 :: u53 :: u54 :: u55 :: u56 :: u57 :: u58 :: u59 :: u60 :: u61 :: u62 :: u63 :: u64 :: u65 :: u66 :: u67 :: u68 :: u69 :: u70 :: u71 :: u72 :: u73 :: u74 :: u75 :: u76 :: u77 :: u78 :: u79 :: u80 :: u81 :: [])[j]? := fun j hj => (kp j (nd j (by omega))).trans List.getElem?_toArray
  obtain ⟨mid,hmid,hfr⟩ := Rg.frame_mid (a := a) 32 10 df (by simp [sz']) (by simp) kp2
  show Q .normal (a) _
  rw [hfr]
  match mid,hmid with
  | [v32,v33,v34,v35,v36,v37,v38,v39,v40,v41],_ =>
   exact HQ.out _ _ _ _ _ _ _ _ _ _ _ s1 s2 s3 (st2.own hc hg (by decide)) st1 ((But.of_below hb).trans st2) fun B1 hB hl => st3 B1 W hB (hb.mono hl)
def cp16V (B : Nat) (b1 : Nat) (_me : Int) (_z1 _z2 _z3 _z4 : Value) (g n cap k : Nat) (_y1 _y2 : Int) (yo : Option Addr) (yn yc : Nat) (p : List C5) (i : Nat) (v : Value) (x : World) : Prop :=
 match i with
 | 0 => v = .pointer (some ⟨b1,5,none⟩)
 | 1 => v = .slice (some ⟨g,0,none⟩) n cap
 | 2 => v = .int .i64 (k : Int)
 | 3 => v = .pointer (some ⟨b1,5,none⟩)
 | 4 => v = .slice (some ⟨g,0,none⟩) n cap
 | 5 => v = .int .i64 (k : Int)
 | 6 => v = .pointer (some ⟨g,k * 3,none⟩)
 | 7 => v = .pointer (some ⟨g,k * 3 + 2,none⟩)
 | 8 => v = .slice yo yn yc
 | 9 => ∃ s : Sl,v = slv s ∧ OwnC x B v p
 | 10 => v = .pointer (some ⟨g,k * 3,none⟩)
 | 11 => v = .pointer (some ⟨g,k * 3 + 2,none⟩)
 | _ => True
noncomputable def cp16C : Code := ((Tryz.f76.body.bind (findRegion 16)).getD .skip)
theorem cp16V_on (B : Nat) (b1 : Nat) (me : Int) (z1 z2 z3 z4 : Value) (g n cap k : Nat) (y1 y2 : Int) (yo : Option Addr) (yn yc : Nat) (p : List C5) (i : Nat) (v : Value) (x x' : World) (h : cp16V B b1 me z1 z2 z3 z4 g n cap k y1 y2 yo yn yc p i v x) (hb : Below x.heap.size x x') : cp16V B b1 me z1 z2 z3 z4 g n cap k y1 y2 yo yn yc p i v x' := by
 by_cases hi : i < 12
 ·rcases (by omega : i = 0 ∨ i = 1 ∨ i = 2 ∨ i = 3 ∨ i = 4 ∨ i = 5 ∨ i = 6 ∨ i = 7 ∨ i = 8 ∨ i = 9 ∨ i = 10 ∨ i = 11) with rfl | rfl | rfl | rfl | rfl | rfl | rfl | rfl | rfl | rfl | rfl | rfl
  ·exact h
  ·exact h
  ·exact h
  ·exact h
  ·exact h
  ·exact h
  ·exact h
  ·exact h
  ·exact h
  ·obtain ⟨s,h1,h2⟩ := h; exact ⟨s,h1,Bk.own_on h2 hb⟩
  ·exact h
  ·exact h
 ·unfold cp16V
  split <;> first | omega | trivial
theorem cp16 (Q : Exit → Act → World → Prop) (W : World) (B0 : Nat) (l : List XOw) (b1 : Nat) (me : Int) (z1 z2 z3 z4 : Value) (g n cap k : Nat) (y1 y2 : Int) (yo : Option Addr) (yn yc : Nat) (p : List C5) (u0 u2 u3 u4 u6 u7 u8 u9 u10 u11 u12 u13 u14 u15 u16 u17 u18 u19 u20 u21 u22 u23 u24 u25 u26 u27 u28 u29 u30 u31 u32 u33 u34 u35 u36 u37 u38 u39 u40 u41 u42 u43 u44 u45 u46 u47 u48 u49 u50 u51 u52 u53 u54 u55 u56 u57 u58 u59 u60 u61 u62 u63 u64 u65 u66 u67 u68 u69 u70 u71 u72 u73 u74 u75 u76 u77 u78 u79 u80 u81 : Value)
  (h1 : Box W b1 #[.int .i64 me,z1,z2,z3,z4,.slice (some ⟨g,0,none⟩) n cap] 31) (ho : OwnW W B0 (.slice (some ⟨g,0,none⟩) n cap) l) (hy : l[k]? = some (y1,y2,(yo,yn,yc))) (hp : RowC W (.slice yo yn yc) p) (lp : p.length ≤ 900)
  (hQ : ∀ (x : World) (v68 v69 v70 v71 v72 v73 v74 v75 v76 v77 v78 v79 : Value) (s1 : Option Addr) (s2 s3 : Nat),OwnC x W.heap.size (.slice s1 s2 s3) p → OwnW x B0 (.slice (some ⟨g,0,none⟩) n cap) (l.set k (y1,y2,(s1,s2,s3))) → But g W x → (∀ B1,B1 ≤ g → B1 ≤ W.heap.size → Below B1 W x) → Q .normal ⟨(u0 :: .pointer (some ⟨b1,0,none⟩) :: u2 :: u3 :: u4 :: .int .i64 (k : Int) :: u6 :: u7 :: u8 :: u9 :: u10 :: u11 :: u12 :: u13 :: u14 :: u15 :: u16 :: u17 :: u18 :: u19 :: u20 :: u21 :: u22 :: u23 :: u24 :: u25 :: u26 :: u27 :: u28 :: u29 :: u30 :: u31 :: u32 :: u33 :: u34 :: u35 :: u36 :: u37 :: u38 :: u39 :: u40 :: u41 :: u42 :: u43 :: u44 :: u45 :: u46 :: u47 :: u48 :: u49 :: u50 :: u51 :: u52 :: u53 :: u54 :: u55 :: u56 :: u57 :: u58 :: u59 :: u60 :: u61 :: u62 :: u63 :: u64 :: u65 :: u66 :: u67 :: v68 :: v69 :: v70 :: v71 :: v72 :: v73 :: v74 :: v75 :: v76 :: v77 :: v78 :: v79 :: u80 :: u81 :: []).toArray,[]⟩ x) :
  Code.wp Tryz.prog cp16C Q ⟨(u0 :: .pointer (some ⟨b1,0,none⟩) :: u2 :: u3 :: u4 :: .int .i64 (k : Int) :: u6 :: u7 :: u8 :: u9 :: u10 :: u11 :: u12 :: u13 :: u14 :: u15 :: u16 :: u17 :: u18 :: u19 :: u20 :: u21 :: u22 :: u23 :: u24 :: u25 :: u26 :: u27 :: u28 :: u29 :: u30 :: u31 :: u32 :: u33 :: u34 :: u35 :: u36 :: u37 :: u38 :: u39 :: u40 :: u41 :: u42 :: u43 :: u44 :: u45 :: u46 :: u47 :: u48 :: u49 :: u50 :: u51 :: u52 :: u53 :: u54 :: u55 :: u56 :: u57 :: u58 :: u59 :: u60 :: u61 :: u62 :: u63 :: u64 :: u65 :: u66 :: u67 :: u68 :: u69 :: u70 :: u71 :: u72 :: u73 :: u74 :: u75 :: u76 :: u77 :: u78 :: u79 :: u80 :: u81 :: []).toArray,[]⟩ W := by
 have HQ := Lib.hid hQ
 have H1 := Lib.hid h1
 have HO := Lib.hid ho
 have HY := Lib.hid hy
 have HP := Lib.hid hp
 have LP := Lib.hid lp
 have IX := Lib.hid (index_own okW g k n cap (by obtain ⟨_,_,hv⟩ := (Row.of_own ho).len; have h := (List.getElem?_eq_some_iff.1 hy).1; simp at hv; omega))
 have EL := Lib.hid (own_row_at okW ho hy)
 clear hQ h1 ho hy hp lp
 have stab := cp16V_on W.heap.size b1 me z1 z2 z3 z4 g n cap k y1 y2 yo yn yc p
 unfold cp16C
 conv => arg 2; whnf
 have nd : ∀ j,(j < 68 ∨ 80 ≤ j) → ∀ i,i < 12 → (fun i => 68 + i) i ≠ j := by
  intro j hj i hi h
  simp only at h
  omega
 refine Rg.region_live 13 12 (fun i => 68 + i) (fun _ => 12) (cp16V W.heap.size b1 me z1 z2 z3 z4 g n cap k y1 y2 yo yn yc p) (by kernel_rfl) (by kernel_rfl) rfl (by decide) (fun i j _ _ h => by have h2 : 68 + i = 68 + j := h; omega) (fun i hi => by show 68 + i < 82; omega) ?_ (fun _ => Rg.hall_of 14 (by kernel_rfl)) ?_ ?_
 ·intro i o hi ho a x D hnd hc hD hb seen K hK
  clear HQ
  rcases (by omega : i = 0 ∨ i = 1 ∨ i = 2 ∨ i = 3 ∨ i = 4 ∨ i = 5 ∨ i = 6 ∨ i = 7 ∨ i = 8 ∨ i = 9 ∨ i = 10 ∨ i = 11) with rfl | rfl | rfl | rfl | rfl | rfl | rfl | rfl | rfl | rfl | rfl | rfl
  ·obtain rfl := Option.some.inj ho
   have e1 : a.eval (.tmp 1) = .pointer (some ⟨b1,0,none⟩) := seen.kp 1 _ (nd 1 (by omega)) rfl
   exact Rg.op_value rfl rfl (Rg.ex_field a.eval _ 31 (.tmp 1) 5 rfl (by rw [e1]; simp [go_sem])) (hK _ _ rfl (Below.refl _ _) fun _ _ _ _ _ _ _ h => h)
  ·obtain rfl := Option.some.inj ho
   have e68 : a.eval (.tmp 68) = .pointer (some ⟨b1,5,none⟩) := seen.at_ ⟨0,.data⟩ (by simp) rfl (Or.inr (by decide))
   have y5 := (H1.out.on hb).cell 5
   simp only [List.getElem?_toArray,List.getElem?_cons_zero,List.getElem?_cons_succ] at y5
   exact Rg.op_value rfl rfl (Rg.ex_load a.eval _ 29 (.tmp 68) rfl (by rw [e68]; simp [go_sem,y5])) (hK _ _ rfl (Below.refl _ _) fun _ _ _ _ _ _ _ h => h)
  ·obtain rfl := Option.some.inj ho
   have e5 : a.eval (.tmp 5) = .int .i64 (k : Int) := seen.kp 5 _ (nd 5 (by omega)) rfl
   exact Rg.op_value rfl rfl (Rg.ex_move a.eval _ (.tmp 5) rfl x) (hK _ _ e5 (Below.refl _ _) fun _ _ _ _ _ _ _ h => h)
  ·obtain rfl := Option.some.inj ho
   have e1 : a.eval (.tmp 1) = .pointer (some ⟨b1,0,none⟩) := seen.kp 1 _ (nd 1 (by omega)) rfl
   exact Rg.op_value rfl rfl (Rg.ex_field a.eval _ 31 (.tmp 1) 5 rfl (by rw [e1]; simp [go_sem])) (hK _ _ rfl (Below.refl _ _) fun _ _ _ _ _ _ _ h => h)
  ·obtain rfl := Option.some.inj ho
   have e71 : a.eval (.tmp 71) = .pointer (some ⟨b1,5,none⟩) := seen.at_ ⟨3,.data⟩ (by simp) rfl (Or.inr (by decide))
   have y5 := (H1.out.on hb).cell 5
   simp only [List.getElem?_toArray,List.getElem?_cons_zero,List.getElem?_cons_succ] at y5
   exact Rg.op_value rfl rfl (Rg.ex_load a.eval _ 29 (.tmp 71) rfl (by rw [e71]; simp [go_sem,y5])) (hK _ _ rfl (Below.refl _ _) fun _ _ _ _ _ _ _ h => h)
  ·obtain rfl := Option.some.inj ho
   have e5 : a.eval (.tmp 5) = .int .i64 (k : Int) := seen.kp 5 _ (nd 5 (by omega)) rfl
   exact Rg.op_value rfl rfl (Rg.ex_move a.eval _ (.tmp 5) rfl x) (hK _ _ e5 (Below.refl _ _) fun _ _ _ _ _ _ _ h => h)
  ·obtain rfl := Option.some.inj ho
   have e72 : a.eval (.tmp 72) = .slice (some ⟨g,0,none⟩) n cap := seen.at_ ⟨4,.data⟩ (by simp) rfl (Or.inr (by decide))
   have e73 : a.eval (.tmp 73) = .int .i64 (k : Int) := seen.at_ ⟨5,.data⟩ (by simp) rfl (Or.inr (by decide))
   exact Rg.op_value rfl rfl (Rg.ex_index a.eval _ 29 (.tmp 72) (.tmp 73) rfl (by rw [e72,e73]; exact IX.out x)) (hK _ _ rfl (Below.refl _ _) fun _ _ _ _ _ _ _ h => h)
  ·obtain rfl := Option.some.inj ho
   have e74 : a.eval (.tmp 74) = .pointer (some ⟨g,k * 3,none⟩) := seen.at_ ⟨6,.data⟩ (by simp) rfl (Or.inr (by decide))
   exact Rg.op_value rfl rfl (Rg.ex_field a.eval _ 45 (.tmp 74) 1 rfl (by rw [e74]; simp [go_sem])) (hK _ _ rfl (Below.refl _ _) fun _ _ _ _ _ _ _ h => h)
  ·obtain rfl := Option.some.inj ho
   have e75 : a.eval (.tmp 75) = .pointer (some ⟨g,k * 3 + 2,none⟩) := seen.at_ ⟨7,.data⟩ (by simp) rfl (Or.inr (by decide))
   have y := EL.out x hb 2 _ rfl
   simp [Addr.add,EW] at y
   exact Rg.op_value rfl rfl (Rg.ex_load a.eval _ 39 (.tmp 75) rfl (by rw [e75]; simp [go_sem,y])) (hK _ _ rfl (Below.refl _ _) fun _ _ _ _ _ _ _ h => h)
  ·obtain rfl := Option.some.inj ho
   have e76 : a.eval (.tmp 76) = .slice yo yn yc := seen.at_ ⟨8,.data⟩ (by simp) rfl (Or.inr (by decide))
   exact Rg.op_call rfl rfl (Rw.ex_call1 a.eval _ (.tmp 76) 39 121 rfl e76 rfl _ (call_fn Tryz.func121 rfl rfl _ _)) (cloneC_any (yo,yn,yc) p x (HP.out.on hb) LP.out) fun e w1 h => by
    obtain ⟨⟨s,rfl,h1⟩,h3⟩ := h
    exact ⟨_,rfl,hK _ _ ⟨s,rfl,own_fewer h1 hb.size⟩ (h3.mono hb.size) fun j u hj _ _ _ hne h => stab j u _ _ h h3⟩
  ·obtain rfl := Option.some.inj ho
   have e69 : a.eval (.tmp 69) = .slice (some ⟨g,0,none⟩) n cap := seen.at_ ⟨1,.data⟩ (by simp) rfl (Or.inr (by decide))
   have e70 : a.eval (.tmp 70) = .int .i64 (k : Int) := seen.at_ ⟨2,.data⟩ (by simp) rfl (Or.inr (by decide))
   exact Rg.op_value rfl rfl (Rg.ex_index a.eval _ 29 (.tmp 69) (.tmp 70) rfl (by rw [e69,e70]; exact IX.out x)) (hK _ _ rfl (Below.refl _ _) fun _ _ _ _ _ _ _ h => h)
  ·obtain rfl := Option.some.inj ho
   have e78 : a.eval (.tmp 78) = .pointer (some ⟨g,k * 3,none⟩) := seen.at_ ⟨10,.data⟩ (by simp) rfl (Or.inr (by decide))
   exact Rg.op_value rfl rfl (Rg.ex_field a.eval _ 45 (.tmp 78) 1 rfl (by rw [e78]; simp [go_sem])) (hK _ _ rfl (Below.refl _ _) fun _ _ _ _ _ _ _ h => h)
 ·intro kk o h1 h2 ho
  omega
 ·intro a w' df sz kp ⟨vs,hv⟩ hb
  have sz' : a.tmps.size = 82 := sz
  have g79 : a.tmps[79]? = some (.pointer (some ⟨g,k * 3 + 2,none⟩)) := by
   have h : vs 11 = .pointer (some ⟨g,k * 3 + 2,none⟩) := (hv 11 (by omega)).2 (by decide)
   rw [← h]
   exact (hv 11 (by omega)).1
  obtain ⟨⟨s1,s2,s3⟩,hs,hc⟩ := (hv 9 (by omega)).2 (by decide)
  have g77 : a.tmps[77]? = some (.slice s1 s2 s3) := ((hv 9 (by omega)).1).trans (congrArg some hs)
  rw [hs] at hc
  obtain ⟨w2,hr,st1,st2,st3⟩ := storeW (k := k) s1 s2 s3 (Bk.own_on HO.out hb) HY.out
  obtain ⟨cur,hg⟩ := own_tag (Bk.own_on HO.out hb)
  show Rg.SeqFrom _ _ _ 1 12 a w'
  simp only [Rg.SeqFrom]
  refine Rg.op_store 39 (.tmp 79) (.tmp 77) rfl rfl rfl rfl (Rg.eval_some g79) (Rg.eval_some g77) (w' := w2) hr ?_
  have kp2 : ∀ j,(j < 68 ∨ 80 ≤ j) → (a).tmps[j]? = (u0 :: .pointer (some ⟨b1,0,none⟩) :: u2 :: u3 :: u4 :: .int .i64 (k : Int) :: u6 :: u7 :: u8 :: u9 :: u10 :: u11 :: u12 :: u13 :: u14 :: u15 :: u16 :: u17 :: u18 :: u19 :: u20 :: u21 :: u22 :: u23 :: u24 :: u25 :: u26 :: u27 :: u28 :: u29 :: u30 :: u31 :: u32 :: u33 :: u34 :: u35 :: u36 :: u37 :: u38 :: u39 :: u40 :: u41 :: u42 :: u43 :: u44 :: u45 :: u46 :: u47 :: u48 :: u49 :: u50 :: u51 :: u52 :: u53 :: u54 :: u55 :: u56 :: u57 :: u58 :: u59 :: u60 :: u61 :: u62 :: u63 :: u64 :: u65 :: u66 :: u67 :: u68 :: u69 :: u70 :: u71 :: u72 :: u73 :: u74 :: u75 :: u76 :: u77 :: u78 :: u79 :: u80 :: u81 :: [])[j]? := fun j hj => (kp j (nd j (by omega))).trans List.getElem?_toArray
  obtain ⟨mid,hmid,hfr⟩ := Rg.frame_mid (a := a) 68 12 df (by simp [sz']) (by simp) kp2
  show Q .normal (a) _
  rw [hfr]
  match mid,hmid with
  | [v68,v69,v70,v71,v72,v73,v74,v75,v76,v77,v78,v79],_ =>
   exact HQ.out _ _ _ _ _ _ _ _ _ _ _ _ _ s1 s2 s3 (st2.own hc hg (by decide)) st1 ((But.of_below hb).trans st2) fun B1 hB hl => st3 B1 W hB (hb.mono hl)
theorem row_boxJ {W : World} {b : Nat} {c : XID} (h : Box W b (cellsJ c).toArray 38) : RowJ W (.slice (some ⟨b,0,none⟩) 1 1) [c] :=
 Or.inr ⟨⟨b,0,none⟩,1,rfl,by simp,by decide,box_one h (by simp [EJ])⟩
def InsQJ (B : Nat) (l : List XID) (k : Nat) (c : XID) (vv : Value) (W : World) (e : Ending) (w' : World) : Prop := ∃ v',e = .returned v' ∧ OwnJ w' B v' (l.take k ++ c :: l.drop k) ∧ Below B W w' ∧ (∀ j,j < W.heap.size → some j ≠ vv.ownBlock → w'.heap[j]? = W.heap[j]?)
theorem insert_endJ (B : Nat) (v : Value) (l : List XID) (c : XID) (b : Nat) (W : World) (ho : OwnJ W B v l) (hx : Box W b (cellsJ c).toArray 38) (hl : l.length ≤ 900) (hB : B ≤ W.heap.size) :
  Calls Tryz.prog 129 #[v,.int .i64 (l.length : Nat),.slice (some ⟨b,0,none⟩) 1 1] W (InsQJ B l l.length c v W) := by
 obtain ⟨v',w',hr,ho2,hg⟩ := app_row okJ B ho (row_boxJ hx) (by omega) (by simp) hB 27
 have hr : (Builtin.append_ #[27,27] 27 #[v,.slice (some ⟨b,0,none⟩) 1 1]).run Tryz.prog W = .ok v' w' := hr
 have Q := Lib.hid (show InsQJ B l l.length c v W (.returned v') w' from ⟨v',rfl,by rw [List.take_of_length_le (Nat.le_refl _),List.drop_of_length_le (Nat.le_refl _)]; exact ho2,(Below.refl B W).grown hg hB (fun j hj => (ho.lt j hj).1),fun j hj hne => hg.block j hj hne⟩)
 obtain ⟨sx,hs,_⟩ := row_hi okJ (Row.of_own ho) l.length (Nat.le_refl _)
 have hs : ∀ w,(Instr.sliceAt 27 v (some (.int .i64 l.length)) none none).run Tryz.prog w = .ok sx w := hs
 obtain ⟨ao,ac,rfl⟩ := (Row.of_own ho).len
 clear ho ho2 hg
 generalize hn : l.length = n at *
 clear hn
 go_enter Tryz.func129,Tryz.ntmps129
 go_wp2_with (first | (at_builtin; refine wpList_append_run rfl _ _ 27 rfl rfl rfl hr ?_) | fail)
 go_ret
 exact Q.out
theorem no_overJ (w : World) (g b k la lb cb : Nat) (cur cs : Array Value) (hb : Box w b cs 38) (hg : Box w g cur 38) (hne : b ≠ g) (h0 : 0 < cur.size) : (callFunc 155 #[.slice (some ⟨b,0,none⟩) la 1,.slice (some ⟨g,k,none⟩) lb cb]).run Tryz.prog w = .ok (.value (.bool false)) w := by
 rw [run_callFunc_extern Tryz.func155 (by kernel_rfl) (by kernel_rfl) (by kernel_rfl) (e := Extern.SlicesOverlaps.overlaps #[27,27] #[4]) (by kernel_rfl),
  Lib.run_overlaps_apart w 27 4 38 Tryz.underlying27 2 Tryz.sizeOf38 ⟨b,0,none⟩ ⟨g,k,none⟩ la 1 lb cb hne 38 38 cs.size cur.size hb.shape hg.shape (by omega) (hb.fr 0) (hb.fr _)]
 rfl
theorem insert_shiftJ (B g n cap : Nat) (cur : Array Value) (l : List XID) (k : Nat) (c : XID) (b : Nat) (W : World) (hn : n = l.length) (hBg : B ≤ g) (hg : Box W g cur 38) (hcm : cap ≤ maxLen) (hsz : cur.size = cap * 2) (ht : cur.toList.take (n * 2) = flat EJ l) (hx : Box W b (cellsJ c).toArray 38) (hne : b ≠ g) (hk : k < n) (hroom : n + 1 ≤ cap) (hl : n ≤ 900) :
  Calls Tryz.prog 129 #[.slice (some ⟨g,0,none⟩) n cap,.int .i64 k,.slice (some ⟨b,0,none⟩) 1 1] W (InsQJ B l k c (.slice (some ⟨g,0,none⟩) n cap) W) := by
 obtain ⟨R1,R2,r1,r2,ow⟩ := shift_mid (E := EJ) (l := l) (k := k) (cap := cap) (cur := cur) (cs := (cellsJ c).toArray) (c := c) okJ (by omega) (by omega) hsz (by rw [← hn]; exact ht) g b hne
 have hov := fun lb cb => no_overJ W g b ((k + 1) * 2) 1 lb cb cur (cellsJ c).toArray hx hg hne (by omega)
 have s0 := cut_hi (E := EJ) okJ g k n cap (by omega) (by omega)
 have s1 := slice_lo (E := EJ) okJ ⟨g,0,none⟩ (n + 1) n cap (by omega)
 have s2 := cut_hi (E := EJ) okJ g (k + 1) (n + 1) cap (by omega) (by omega)
 have s3 := cut_hi (E := EJ) okJ g k (n + 1) cap (by omega) (by omega)
 have q1 := r1 W.drew 3 (n + 1 - (k + 1)) (cap - (k + 1)) (n + 1 - k) (cap - k) hg (by omega)
 have q2 := r2 (W.drew.setRow g R1) 3 (n + 1 - k) (cap - k) (Box.set (show Box W.drew g cur 38 from hg) R1) (Box.other (show Box W.drew b _ 38 from hx) hne R1) rfl (by omega)
 have Q := Lib.hid (show InsQJ B l k c (.slice (some ⟨g,0,none⟩) n cap) W (.returned (.slice (some ⟨g,0,none⟩) (n + 1) cap)) ((W.drew.setRow g R1).setRow g R2) from ⟨_,rfl,by rw [hn]; exact ow _ B hBg hcm (Box.set (Box.set (show Box W.drew g cur 38 from hg) R1) R2),below_setRow (below_setRow (Below.refl B W).drew hBg _) hBg _,fun j hj hne => (setRow_other _ g j _ (fun e => hne (by rw [e]; rfl))).trans (setRow_other _ g j _ (fun e => hne (by rw [e]; rfl)))⟩)
 clear r1 r2 ow hg ht hx hsz hBg hcm
 change ∀ w,(Instr.sliceAt 27 (.slice (some ⟨g,0,none⟩) n cap) (some (.int .i64 k)) none none).run Tryz.prog w = .ok (.slice (some ⟨g,k * 2,none⟩) (n - k) (cap - k)) w at s0
 change ∀ w,(Instr.sliceAt 27 (.slice (some ⟨g,0,none⟩) n cap) none (some (.int .i64 ((n : Int) + 1))) none).run Tryz.prog w = .ok (.slice (some ⟨g,0,none⟩) (n + 1) cap) w at s1
 change ∀ w,(Instr.sliceAt 27 (.slice (some ⟨g,0,none⟩) (n + 1) cap) (some (.int .i64 ((k : Int) + 1))) none none).run Tryz.prog w = .ok (.slice (some ⟨g,(k + 1) * 2,none⟩) (n + 1 - (k + 1)) (cap - (k + 1))) w at s2
 change ∀ w,(Instr.sliceAt 27 (.slice (some ⟨g,0,none⟩) (n + 1) cap) (some (.int .i64 k)) none none).run Tryz.prog w = .ok (.slice (some ⟨g,k * 2,none⟩) (n + 1 - k) (cap - k)) w at s3
 have e1 : ((k : Int) == (n : Int)) = false := by rw [beq_eq_false_iff_ne]; omega
 have e2 : decide ((cap : Int) < (n : Int) + 1) = false := by simp; omega
 change (Builtin.copy_ #[27,27] 3 #[.slice (some ⟨g,(k + 1) * 2,none⟩) (n + 1 - (k + 1)) (cap - (k + 1)),.slice (some ⟨g,k * 2,none⟩) (n + 1 - k) (cap - k)]).run Tryz.prog W.drew = .ok (.int .i64 ((l.length - k : Nat) : Int)) (W.drew.setRow g R1) at q1
 change (Builtin.copy_ #[27,27] 3 #[.slice (some ⟨g,k * 2,none⟩) (n + 1 - k) (cap - k),.slice (some ⟨b,0,none⟩) 1 1]).run Tryz.prog (W.drew.setRow g R1) = .ok (.int .i64 1) ((W.drew.setRow g R1).setRow g R2) at q2
 clear hn
 go_enter Tryz.func129,Tryz.ntmps129
 go_wp2_with (first | (simp only [hov]) | fail)
 clear hov s0 s1 s2 s3
 have hw1 : IntKind.i64.wrap ((k : Int) + 1) = (k : Int) + 1 := by rw [IntKind.wrap_i64]; omega
 have hb1 : (0 : Int) ≤ (k : Int) + 1 := by omega
 have hb0 : (k : Int) + 1 ≤ (n : Int) + 1 := by omega
 have htn : ((k : Int) + 1).toNat = k + 1 := by omega
 have hb2 : ¬ (cap = k + 1) := by omega
 have hb3 : (k : Int) ≤ (n : Int) + 1 := by omega
 have hb4 : ¬ (cap = k) := by omega
 have h81 : n + 1 - (k + 1) = n - k := by omega
 rw [h81] at q1
 clear h81
 go_region_law (refine step_copy_run rfl (.tmp 73) (.tmp 76) 27 rfl (v := .slice (some ⟨g,(k + 1) * 2,none⟩) (n - k) (cap - (k + 1))) (xv := .slice (some ⟨g,k * 2,none⟩) (n + 1 - k) (cap - k)) (by simp [Act.eval,Act.put]) (by simp [Act.eval,Act.put]) q1 ?_)
 all_goals simp only [Exit.then]
 all_goals apply_assumption
 clear q1 hw1 hb1 hb0 htn hb2 hb3 hb4
 have s3 := cut_hi (E := EJ) okJ g k (n + 1) cap (by omega) (by omega)
 change ∀ w,(Instr.sliceAt 27 (.slice (some ⟨g,0,none⟩) (n + 1) cap) (some (.int .i64 k)) none none).run Tryz.prog w = .ok (.slice (some ⟨g,k * 2,none⟩) (n + 1 - k) (cap - k)) w at s3
 go_wp2_with (first | (at_builtin; refine wpList_copy_run rfl _ _ 27 rfl rfl rfl q2 ?_) | fail)
 go_ret
 exact Q.out
theorem insert_growJ (B g n cap : Nat) (cur : Array Value) (l : List XID) (k : Nat) (c : XID) (b : Nat) (W : World) (hn : n = l.length) (hg : Box W g cur 38) (hcm : cap ≤ maxLen) (hnc : n ≤ cap) (ht : cur.toList.take (n * 2) = flat EJ l) (hx : Box W b (cellsJ c).toArray 38) (hk : k < n) (hroom : cap < n + 1) (hl : n ≤ 900) (hB : B ≤ W.heap.size) :
  Calls Tryz.prog 129 #[.slice (some ⟨g,0,none⟩) n cap,.int .i64 k,.slice (some ⟨b,0,none⟩) 1 1] W (InsQJ B l k c (.slice (some ⟨g,0,none⟩) n cap) W) := by
 have hgw := hg.lt
 have hbw := hx.lt
 obtain ⟨G,R1,R2,R3,hG1,hG2,r1,r2,r3,ow⟩ := grow_mid (E := EJ) (l := l) (k := k) (cap := cap) (cur := cur) (cs := (cellsJ c).toArray) (c := c) okJ 3 Tryz.underlying3 (by omega) (by omega) (by omega) (by omega) (by rw [← hn]; exact ht) W g b hg hbw
 unfold maxLen at hcm hG2
 have s0 := cut_hi (E := EJ) okJ g k n cap (by omega) (by omega)
 have s1 := slice_lo (E := EJ) okJ ⟨g,0,none⟩ k n cap (by omega)
 have s2 := cut_hi (E := EJ) okJ W.heap.size k (n + 1) G (by omega) (by omega)
 have s3 := cut_hi (E := EJ) okJ W.heap.size (k + 1) (n + 1) G (by omega) (by omega)
 have a1 := r1 27
 have n1 := box_new W.drew R1 38
 have bl : W.drew.heap.size = W.heap.size := rfl
 rw [bl] at n1
 have g1 : Box (W.drew.alloc (.cells R1 38)) g cur 38 := Box.more (show Box W.drew g cur 38 from hg) _
 have x1 : Box (W.drew.alloc (.cells R1 38)) b (cellsJ c).toArray 38 := Box.more (show Box W.drew b _ 38 from hx) _
 have q2 := r2 (W.drew.alloc (.cells R1 38)) 3 (n + 1 - k) (G - k) n1 x1 rfl (by omega)
 have q3 := r3 ((W.drew.alloc (.cells R1 38)).setRow W.heap.size R2).drew 3 (n + 1 - (k + 1)) (G - (k + 1)) (n - k) (cap - k) (Box.set n1 R2) (Box.other g1 (by omega) R2) (by omega)
 have Q := Lib.hid (show InsQJ B l k c (.slice (some ⟨g,0,none⟩) n cap) W (.returned (.slice (some ⟨W.heap.size,0,none⟩) (n + 1) G)) (((W.drew.alloc (.cells R1 38)).setRow W.heap.size R2).drew.setRow W.heap.size R3) from ⟨_,rfl,by rw [hn]; exact ow _ B hB (Box.set (Box.set n1 R2) R3),below_setRow (below_setRow ((Below.refl B W).drew.alloc hB _) hB _).drew hB _,fun j hj _ => (setRow_other _ W.heap.size j _ (by omega)).trans ((setRow_other _ W.heap.size j _ (by omega)).trans (Array.getElem?_push_lt hj |>.trans (Array.getElem?_eq_getElem hj).symm))⟩)
 have l1 : l.length + 1 = n + 1 := by rw [hn]
 rw [l1,← hn] at a1
 clear r1 r2 r3 ow hg ht hx g1 x1 n1 bl l1
 change ∀ w,(Instr.sliceAt 27 (.slice (some ⟨g,0,none⟩) n cap) (some (.int .i64 k)) none none).run Tryz.prog w = .ok (.slice (some ⟨g,k * 2,none⟩) (n - k) (cap - k)) w at s0
 change ∀ w,(Instr.sliceAt 27 (.slice (some ⟨g,0,none⟩) n cap) none (some (.int .i64 k)) none).run Tryz.prog w = .ok (.slice (some ⟨g,0,none⟩) k cap) w at s1
 change ∀ w,(Instr.sliceAt 27 (.slice (some ⟨W.heap.size,0,none⟩) (n + 1) G) (some (.int .i64 k)) none none).run Tryz.prog w = .ok (.slice (some ⟨W.heap.size,k * 2,none⟩) (n + 1 - k) (G - k)) w at s2
 change ∀ w,(Instr.sliceAt 27 (.slice (some ⟨W.heap.size,0,none⟩) (n + 1) G) (some (.int .i64 ((k : Int) + 1))) none none).run Tryz.prog w = .ok (.slice (some ⟨W.heap.size,(k + 1) * 2,none⟩) (n + 1 - (k + 1)) (G - (k + 1))) w at s3
 change (Builtin.append_ #[27,3] 27 #[.slice (some ⟨g,0,none⟩) k cap,.int .i64 ((n : Int) + 1 - k)]).run Tryz.prog W = .ok (.slice (some ⟨W.heap.size,0,none⟩) (n + 1) G) (W.drew.alloc (.cells R1 38)) at a1
 change (Builtin.copy_ #[27,27] 3 #[.slice (some ⟨W.heap.size,k * 2,none⟩) (n + 1 - k) (G - k),.slice (some ⟨b,0,none⟩) 1 1]).run Tryz.prog (W.drew.alloc (.cells R1 38)) = .ok (.int .i64 1) ((W.drew.alloc (.cells R1 38)).setRow W.heap.size R2) at q2
 change (Builtin.copy_ #[27,27] 3 #[.slice (some ⟨W.heap.size,(k + 1) * 2,none⟩) (n + 1 - (k + 1)) (G - (k + 1)),.slice (some ⟨g,k * 2,none⟩) (n - k) (cap - k)]).run Tryz.prog ((W.drew.alloc (.cells R1 38)).setRow W.heap.size R2).drew = .ok (.int .i64 ((l.length - k : Nat) : Int)) (((W.drew.alloc (.cells R1 38)).setRow W.heap.size R2).drew.setRow W.heap.size R3) at q3
 have e1 : ((k : Int) == (n : Int)) = false := by rw [beq_eq_false_iff_ne]; omega
 have e2 : decide ((cap : Int) < (n : Int) + 1) = true := by simp; omega
 have hGn : n + 1 ≤ G := by omega
 clear hn
 generalize W.heap.size = N at *
 generalize W.drew.alloc (.cells R1 38) = W1 at *
 generalize W1.setRow N R2 = W2 at *
 go_enter Tryz.func129,Tryz.ntmps129
 go_wp2_with (first | (at_builtin; refine wpList_append_run2 rfl _ _ 27 3 rfl rfl rfl a1 ?_) | (at_builtin; refine wpList_copy_run rfl _ _ 27 rfl rfl rfl q2 ?_) | fail)
 clear a1 q2 s0 s1 s2 s3
 have hw1 : IntKind.i64.wrap ((k : Int) + 1) = (k : Int) + 1 := by rw [IntKind.wrap_i64]; omega
 have hb1 : (0 : Int) ≤ (k : Int) + 1 := by omega
 have hb0 : (k : Int) + 1 ≤ (n : Int) + 1 := by omega
 have htn : ((k : Int) + 1).toNat = k + 1 := by omega
 have hb2 : ¬ (G = k + 1) := by omega
 have hb3 : (k : Int) ≤ (n : Int) := by omega
 have hb4 : ¬ (cap = k) := by omega
 have h81 : n + 1 - (k + 1) = n - k := by omega
 rw [h81] at q3
 clear h81
 go_region_law (refine step_copy_run rfl (.tmp 50) (.tmp 53) 27 rfl (v := .slice (some ⟨N,(k + 1) * 2,none⟩) (n - k) (G - (k + 1))) (xv := .slice (some ⟨g,k * 2,none⟩) (n - k) (cap - k)) (by simp [Act.eval,Act.put]) (by simp [Act.eval,Act.put]) q3 ?_)
 all_goals simp only [Exit.then]
 all_goals apply_assumption
 go_wp2
 go_ret
 exact Q.out
theorem insert_anyJ (B : Nat) (v : Value) (l : List XID) (k : Nat) (c : XID) (b : Nat) (W : World) (ho : OwnJ W B v l) (hx : Box W b (cellsJ c).toArray 38) (hne : v.ownBlock ≠ some b) (hk : k ≤ l.length) (hl : l.length ≤ 900) (hB : B ≤ W.heap.size) :
  Calls Tryz.prog 129 #[v,.int .i64 k,.slice (some ⟨b,0,none⟩) 1 1] W (InsQJ B l k c v W) := by
 rcases Nat.lt_or_ge k l.length with h | h
 ·rcases own_open ho with ⟨_,h2⟩ | ⟨g,cap,cur,rfl,h1,h2,h3,h4,h5,h6⟩
  ·rw [h2] at h; simp at h
  ·rcases Nat.lt_or_ge cap (l.length + 1) with h7 | h7
   ·exact insert_growJ B g _ cap cur l k c b W rfl h2 h4 h3 h6 hx h h7 hl hB
   ·exact insert_shiftJ B g _ cap cur l k c b W rfl h1 h2 h4 h5 h6 hx (fun e => hne (by simp [Value.ownBlock,e])) h h7 hl
 ·obtain rfl : k = l.length := by omega
  exact insert_endJ B v l c b W ho hx hl hB
end Go.Proofs.YtncogjpmboglhaaGreat.Av
namespace Go.Proofs.YtncogjpmboglhaaGreat.Bk
open Go.RowKit Rw YtncogjpmboglhaaGreat.Nm Pr
def cut5V (B b2 _ : Nat) (so : Option Addr) (sn sc at_ : Nat) (lo hiv : Value) (lt ld : List XEn) (i : Nat) (v : Value) (x : World) : Prop :=
 match i with
 | 0 => ∃ g,v = .slice (some ⟨g,0,none⟩) 0 0 ∧ B ≤ g ∧ Box x g #[] 43
 | 1 => v = .pointer (some ⟨b2,4,none⟩)
 | 2 => v = .slice so sn sc
 | 3 => v = .int .i64 (at_ : Int)
 | 4 => v = lo
 | 5 => OwnN x B v lt
 | 6 => v = .pointer (some ⟨b2,4,none⟩)
 | 7 => v = .slice so sn sc
 | 8 => v = .int .i64 (at_ : Int)
 | 9 => v = .int .i64 ((at_ : Int) + 1)
 | 10 => v = hiv
 | 11 => OwnN x B v (lt ++ ld)
 | 12 => v = .pointer (some ⟨b2,4,none⟩)
 | _ => True
noncomputable def cutR5 : Code := ((Tryz.f19.body.bind (findRegion 5)).getD .skip)
theorem cut5V_on (B b2 b3 : Nat) (so : Option Addr) (sn sc at_ : Nat) (lo hiv : Value) (lt ld : List XEn) (i : Nat) (v : Value) (x x' : World) (h : cut5V B b2 b3 so sn sc at_ lo hiv lt ld i v x) (hb : Below x.heap.size x x') : cut5V B b2 b3 so sn sc at_ lo hiv lt ld i v x' := by
 by_cases hi : i < 13
 ·rcases (by omega : i = 0 ∨ i = 1 ∨ i = 2 ∨ i = 3 ∨ i = 4 ∨ i = 5 ∨ i = 6 ∨ i = 7 ∨ i = 8 ∨ i = 9 ∨ i = 10 ∨ i = 11 ∨ i = 12) with rfl | rfl | rfl | rfl | rfl | rfl | rfl | rfl | rfl | rfl | rfl | rfl | rfl
  ·obtain ⟨g,h1,h2,h3⟩ := h
   exact ⟨g,h1,h2,h3.on hb⟩
  ·exact h
  ·exact h
  ·exact h
  ·exact h
  ·exact own_on h hb
  ·exact h
  ·exact h
  ·exact h
  ·exact h
  ·exact h
  ·exact own_on h hb
  ·exact h
 ·unfold cut5V
  split <;> first | omega | trivial
theorem cut5 (Q : Exit → Act → World → Prop) (W : World) (b2 b3 : Nat) (me : Int) (y1 y2 y3 y5 : Value) (so : Option Addr) (sn sc at_ : Nat) (l : List XEn) (u0 u1 u2 u3 u6 u7 u8 u9 u10 u12 u13 u14 u15 u16 u17 u18 u19 u20 u21 u22 u23 u24 u25 u26 u27 u28 u29 u30 u31 u32 u33 u34 u35 u36 u37 u38 u39 u40 u41 u42 u43 u44 u45 u46 u47 u48 u49 u50 u51 u52 u53 u54 u55 u56 u57 u58 u59 u60 u61 u62 u63 u64 u65 u66 u67 u68 u69 u70 u71 u72 u73 u74 u75 u76 u77 u78 u79 u80 u81 u82 u83 u84 u85 u86 u87 u88 u89 u90 u91 u92 u93 u94 u95 u96 u97 u98 u99 u100 u101 u102 u103 : Value)
  (h2 : Box W b2 #[.int .i64 me,y1,y2,y3,.slice so sn sc,y5] 31) (hs : RowN W (.slice so sn sc) l) (hat : at_ + 1 ≤ l.length) (hlen : l.length ≤ 900)
  (hQ : ∀ (x : World) (v39 v40 v41 v42 v43 v44 v45 v46 v47 v48 v49 v50 v51 : Value),Box x b2 #[.int .i64 me,y1,y2,y3,v50,y5] 31 → OwnN x W.heap.size v50 (l.take at_ ++ l.drop (at_ + 1)) → (∀ B,B ≤ b2 → Below B W x) → (∀ c cs t,c ≠ b2 → Box W c cs t → Box x c cs t) → (∀ k,k < W.heap.size → k ≠ b2 → x.heap[k]? = W.heap[k]?) → Q .normal ⟨(u0 :: u1 :: u2 :: u3 :: .pointer (some ⟨b2,0,none⟩) :: .pointer (some ⟨b3,0,none⟩) :: u6 :: u7 :: u8 :: u9 :: u10 :: .int .i64 (at_ : Int) :: u12 :: u13 :: u14 :: u15 :: u16 :: u17 :: u18 :: u19 :: u20 :: u21 :: u22 :: u23 :: u24 :: u25 :: u26 :: u27 :: u28 :: u29 :: u30 :: u31 :: u32 :: u33 :: u34 :: u35 :: u36 :: u37 :: u38 :: v39 :: v40 :: v41 :: v42 :: v43 :: v44 :: v45 :: v46 :: v47 :: v48 :: v49 :: v50 :: v51 :: u52 :: u53 :: u54 :: u55 :: u56 :: u57 :: u58 :: u59 :: u60 :: u61 :: u62 :: u63 :: u64 :: u65 :: u66 :: u67 :: u68 :: u69 :: u70 :: u71 :: u72 :: u73 :: u74 :: u75 :: u76 :: u77 :: u78 :: u79 :: u80 :: u81 :: u82 :: u83 :: u84 :: u85 :: u86 :: u87 :: u88 :: u89 :: u90 :: u91 :: u92 :: u93 :: u94 :: u95 :: u96 :: u97 :: u98 :: u99 :: u100 :: u101 :: u102 :: u103 :: []).toArray,[]⟩ x) :
  Code.wp Tryz.prog cutR5 Q ⟨(u0 :: u1 :: u2 :: u3 :: .pointer (some ⟨b2,0,none⟩) :: .pointer (some ⟨b3,0,none⟩) :: u6 :: u7 :: u8 :: u9 :: u10 :: .int .i64 (at_ : Int) :: u12 :: u13 :: u14 :: u15 :: u16 :: u17 :: u18 :: u19 :: u20 :: u21 :: u22 :: u23 :: u24 :: u25 :: u26 :: u27 :: u28 :: u29 :: u30 :: u31 :: u32 :: u33 :: u34 :: u35 :: u36 :: u37 :: u38 :: u39 :: u40 :: u41 :: u42 :: u43 :: u44 :: u45 :: u46 :: u47 :: u48 :: u49 :: u50 :: u51 :: u52 :: u53 :: u54 :: u55 :: u56 :: u57 :: u58 :: u59 :: u60 :: u61 :: u62 :: u63 :: u64 :: u65 :: u66 :: u67 :: u68 :: u69 :: u70 :: u71 :: u72 :: u73 :: u74 :: u75 :: u76 :: u77 :: u78 :: u79 :: u80 :: u81 :: u82 :: u83 :: u84 :: u85 :: u86 :: u87 :: u88 :: u89 :: u90 :: u91 :: u92 :: u93 :: u94 :: u95 :: u96 :: u97 :: u98 :: u99 :: u100 :: u101 :: u102 :: u103 :: []).toArray,[]⟩ W := by
 have HQ := Lib.hid hQ
 have H2 := Lib.hid h2
 have AT1 := Lib.hid (show at_ ≤ 900 by omega)
 obtain ⟨lo,slo,rlo⟩ := row_lo okN hs at_ (by omega)
 obtain ⟨hiv,shi,rhi⟩ := row_hi okN hs (at_ + 1) hat
 have LT := Lib.hid (show (l.take at_).length ≤ 1000 by rw [List.length_take]; omega)
 have LTD := Lib.hid (show (l.take at_).length ≤ 900 by rw [List.length_take]; omega)
 have LD := Lib.hid (show (l.drop (at_ + 1)).length ≤ 1000 by rw [List.length_drop]; omega)
 generalize l.take at_ = lt at *
 generalize l.drop (at_ + 1) = ld at *
 have SL := Lib.hid slo
 have SH := Lib.hid (show ∀ w,(Instr.sliceAt 28 (.slice so sn sc) (some (.int .i64 ((at_ : Int) + 1))) none none).run Tryz.prog w = .ok hiv w from shi)
 have RL := Lib.hid rlo
 have RH := Lib.hid rhi
 clear hQ h2 hs slo shi rlo rhi hat hlen
 have stab := cut5V_on W.heap.size b2 b3 so sn sc at_ lo hiv lt ld
 unfold cutR5
 conv => arg 2; whnf
 have nd : ∀ j,(j < 39 ∨ 52 ≤ j) → ∀ i,i < 13 → (fun i => 39 + i) i ≠ j := by
  intro j hj i hi h
  simp only at h
  omega
 refine Rg.region_live 14 13 (fun i => 39 + i) (fun i => if i = 0 then 5 else if i = 5 then 11 else 13) (cut5V W.heap.size b2 b3 so sn sc at_ lo hiv lt ld) (by kernel_rfl) (by kernel_rfl) rfl (by decide) (fun i j _ _ h => by have h2 : 39 + i = 39 + j := h; omega) (fun i hi => by show 39 + i < 104; omega) ?_ (fun _ => Rg.hall_of 1 (by kernel_rfl)) (fun kk o h1 h2 => by omega) ?_
 ·intro i o hi ho a x D hnd hc hD hb seen K hK
  clear HQ
  rcases (by omega : i = 0 ∨ i = 1 ∨ i = 2 ∨ i = 3 ∨ i = 4 ∨ i = 5 ∨ i = 6 ∨ i = 7 ∨ i = 8 ∨ i = 9 ∨ i = 10 ∨ i = 11 ∨ i = 12) with rfl | rfl | rfl | rfl | rfl | rfl | rfl | rfl | rfl | rfl | rfl | rfl | rfl
  ·obtain rfl := Option.some.inj ho
   exact Rg.op_value rfl rfl (Rg.ex_build a.eval _ 28 0 #[] rfl rfl (by simp [go_sem])) (hK (.slice (some ⟨x.heap.size,0,none⟩) 0 0) (x.alloc (.cells #[] 43)) ⟨x.heap.size,rfl,hb.size,box_new x #[] 43⟩ ((Below.refl _ _).alloc hb.size _) fun j u _ _ _ _ _ h => stab j u _ _ h ((Below.refl _ _).alloc (Nat.le_refl _) _))
  ·obtain rfl := Option.some.inj ho
   have e4 : a.eval (.tmp 4) = .pointer (some ⟨b2,0,none⟩) := seen.kp 4 _ (nd 4 (by omega)) rfl
   exact Rg.op_value rfl rfl (Rg.ex_field a.eval _ 31 (.tmp 4) 4 rfl (by rw [e4]; simp [go_sem])) (hK _ _ rfl (Below.refl _ _) fun _ _ _ _ _ _ _ h => h)
  ·obtain rfl := Option.some.inj ho
   have e40 : a.eval (.tmp 40) = .pointer (some ⟨b2,4,none⟩) := seen.at_ ⟨1,.data⟩ (by simp) rfl (Or.inr (by decide))
   have y := (H2.out.on hb).cell 4
   simp only [List.getElem?_toArray,List.getElem?_cons_zero,List.getElem?_cons_succ] at y
   exact Rg.op_value rfl rfl (Rg.ex_load a.eval _ 28 (.tmp 40) rfl (by rw [e40]; simp [go_sem,y])) (hK _ _ rfl (Below.refl _ _) fun _ _ _ _ _ _ _ h => h)
  ·obtain rfl := Option.some.inj ho
   have e11 : a.eval (.tmp 11) = .int .i64 (at_ : Int) := seen.kp 11 _ (nd 11 (by omega)) rfl
   exact Rg.op_value rfl rfl (Rg.ex_move a.eval _ (.tmp 11) rfl x) (hK _ _ e11 (Below.refl _ _) fun _ _ _ _ _ _ _ h => h)
  ·obtain rfl := Option.some.inj ho
   have e41 : a.eval (.tmp 41) = .slice so sn sc := seen.at_ ⟨2,.data⟩ (by simp) rfl (Or.inr (by decide))
   have e42 : a.eval (.tmp 42) = .int .i64 (at_ : Int) := seen.at_ ⟨3,.data⟩ (by simp) rfl (Or.inr (by decide))
   exact Rg.op_value rfl rfl (Rg.ex_slice a.eval _ 28 (.tmp 41) none (some (.tmp 42)) none rfl (by show (Instr.sliceAt 28 (a.eval (.tmp 41)) none (some (a.eval (.tmp 42))) none).run Tryz.prog x = .ok lo x; rw [e41,e42]; exact SL.out x)) (hK _ _ rfl (Below.refl _ _) fun _ _ _ _ _ _ _ h => h)
  ·obtain rfl := Option.some.inj ho
   obtain ⟨g,q0,hBg,hbx⟩ := seen.at_ ⟨0,.data⟩ (by simp) rfl (Or.inl rfl)
   have q0 : a.eval (.tmp 39) = .slice (some ⟨g,0,none⟩) 0 0 := q0
   have e43 : a.eval (.tmp 43) = lo := seen.at_ ⟨4,.data⟩ (by simp) rfl (Or.inr (by decide))
   obtain ⟨v',x',r,o',gr⟩ := app_fresh okN W.heap.size hbx hBg (RL.out.on hb) LT.out 28
   exact Rg.op_value rfl rfl (Rg.ex_append a.eval _ (.tmp 39) (.tmp 43) 28 rfl q0 e43 r) (hK v' x' o' (gr.mono hb.size) fun j u _ _ _ _ _ h => stab j u _ _ h gr)
  ·obtain rfl := Option.some.inj ho
   have e4 : a.eval (.tmp 4) = .pointer (some ⟨b2,0,none⟩) := seen.kp 4 _ (nd 4 (by omega)) rfl
   exact Rg.op_value rfl rfl (Rg.ex_field a.eval _ 31 (.tmp 4) 4 rfl (by rw [e4]; simp [go_sem])) (hK _ _ rfl (Below.refl _ _) fun _ _ _ _ _ _ _ h => h)
  ·obtain rfl := Option.some.inj ho
   have e45 : a.eval (.tmp 45) = .pointer (some ⟨b2,4,none⟩) := seen.at_ ⟨6,.data⟩ (by simp) rfl (Or.inr (by decide))
   have y := (H2.out.on hb).cell 4
   simp only [List.getElem?_toArray,List.getElem?_cons_zero,List.getElem?_cons_succ] at y
   exact Rg.op_value rfl rfl (Rg.ex_load a.eval _ 28 (.tmp 45) rfl (by rw [e45]; simp [go_sem,y])) (hK _ _ rfl (Below.refl _ _) fun _ _ _ _ _ _ _ h => h)
  ·obtain rfl := Option.some.inj ho
   have e11 : a.eval (.tmp 11) = .int .i64 (at_ : Int) := seen.kp 11 _ (nd 11 (by omega)) rfl
   exact Rg.op_value rfl rfl (Rg.ex_move a.eval _ (.tmp 11) rfl x) (hK _ _ e11 (Below.refl _ _) fun _ _ _ _ _ _ _ h => h)
  ·obtain rfl := Option.some.inj ho
   have e47 : a.eval (.tmp 47) = .int .i64 (at_ : Int) := seen.at_ ⟨8,.data⟩ (by simp) rfl (Or.inr (by decide))
   exact Rg.op_value rfl rfl (Rg.ex_bin a.eval _ .add 3 (.tmp 47) (.const (.int .i64 1)) 3 rfl (by rw [e47]; exact add_one _ _ _ _ at_ AT1.out)) (hK _ _ rfl (Below.refl _ _) fun _ _ _ _ _ _ _ h => h)
  ·obtain rfl := Option.some.inj ho
   have e46 : a.eval (.tmp 46) = .slice so sn sc := seen.at_ ⟨7,.data⟩ (by simp) rfl (Or.inr (by decide))
   have e48 : a.eval (.tmp 48) = .int .i64 ((at_ : Int) + 1) := seen.at_ ⟨9,.data⟩ (by simp) rfl (Or.inr (by decide))
   exact Rg.op_value rfl rfl (Rg.ex_slice a.eval _ 28 (.tmp 46) (some (.tmp 48)) none none rfl (by show (Instr.sliceAt 28 (a.eval (.tmp 46)) (some (a.eval (.tmp 48))) none none).run Tryz.prog x = .ok hiv x; rw [e46,e48]; exact SH.out x)) (hK _ _ rfl (Below.refl _ _) fun _ _ _ _ _ _ _ h => h)
  ·obtain rfl := Option.some.inj ho
   have o44 : OwnN x W.heap.size (a.eval (.tmp 44)) (lt) := seen.at_ ⟨5,.data⟩ (by simp) rfl (Or.inl rfl)
   have e49 : a.eval (.tmp 49) = hiv := seen.at_ ⟨10,.data⟩ (by simp) rfl (Or.inr (by decide))
   have ox : RowN x (a.eval (.tmp 49)) ld := by rw [e49]; exact RH.out.on hb
   obtain ⟨v',x',r,o',gr⟩ := app_row okN W.heap.size o44 ox (by have := LTD.out; omega) LD.out hb.size 28
   exact Rg.op_value rfl rfl (Rg.ex_append a.eval _ (.tmp 44) (.tmp 49) 28 rfl rfl rfl r) (hK v' x' o' ((Below.refl _ x).grown gr hb.size fun j hj => (o44.lt j hj).1) fun j u hj dj nl nx ni h => by
    rcases (by omega : j = 0 ∨ j = 1 ∨ j = 2 ∨ j = 3 ∨ j = 4 ∨ j = 5 ∨ j = 6 ∨ j = 7 ∨ j = 8 ∨ j = 9 ∨ j = 10 ∨ j = 11 ∨ j = 12) with rfl | rfl | rfl | rfl | rfl | rfl | rfl | rfl | rfl | rfl | rfl | rfl | rfl
    ·exact absurd rfl (fun _ : (0 : Nat) = 0 => nl (hD ⟨5,.data⟩ (by simp) rfl))
    ·exact h
    ·exact h
    ·exact h
    ·exact h
    ·exact absurd rfl (fun _ : (0 : Nat) = 0 => nx rfl)
    ·exact h
    ·exact h
    ·exact h
    ·exact h
    ·exact h
    ·exact absurd rfl (fun _ : (0 : Nat) = 0 => ni rfl)
    ·exact h)
  ·obtain rfl := Option.some.inj ho
   have e4 : a.eval (.tmp 4) = .pointer (some ⟨b2,0,none⟩) := seen.kp 4 _ (nd 4 (by omega)) rfl
   exact Rg.op_value rfl rfl (Rg.ex_field a.eval _ 31 (.tmp 4) 4 rfl (by rw [e4]; simp [go_sem])) (hK _ _ rfl (Below.refl _ _) fun _ _ _ _ _ _ _ h => h)
 ·intro a w' df sz kp ⟨vs,hv⟩ hb
  have gr : a.tmps[50]? = some (vs 11) := (hv 11 (by omega)).1
  have gp : a.tmps[51]? = some (.pointer (some ⟨b2,4,none⟩)) := by
   have h : vs 12 = .pointer (some ⟨b2,4,none⟩) := (hv 12 (by omega)).2 (by decide)
   rw [← h]
   exact (hv 12 (by omega)).1
  have oR : OwnN w' W.heap.size (vs 11) (lt ++ ld) := (hv 11 (by omega)).2 (by decide)
  generalize vs 11 = xR at *
  obtain ⟨ca,cp,eR⟩ := (Row.of_own oR).len
  have hbx := H2.out.on hb
  have hblt := H2.out.lt
  have c5 := hbx.cell 4
  have f5 := hbx.fr 4
  simp only [List.getElem?_toArray,List.getElem?_cons_zero,List.getElem?_cons_succ] at c5
  have hb1 := box_set (k := 4) hbx xR
  show Rg.SeqFrom _ _ _ 1 13 a w'
  simp only [Rg.SeqFrom]
  refine Rg.op_store 28 (.tmp 51) (.tmp 50) rfl rfl rfl rfl (Rg.eval_some gp) (Rg.eval_some gr) (w' := w'.setCell ⟨b2,4,none⟩ xR) (by rw [eR]; simp [go_sem,c5,f5]) ?_
  have kp2 : ∀ j,(j < 39 ∨ 52 ≤ j) → a.tmps[j]? = (u0 :: u1 :: u2 :: u3 :: .pointer (some ⟨b2,0,none⟩) :: .pointer (some ⟨b3,0,none⟩) :: u6 :: u7 :: u8 :: u9 :: u10 :: .int .i64 (at_ : Int) :: u12 :: u13 :: u14 :: u15 :: u16 :: u17 :: u18 :: u19 :: u20 :: u21 :: u22 :: u23 :: u24 :: u25 :: u26 :: u27 :: u28 :: u29 :: u30 :: u31 :: u32 :: u33 :: u34 :: u35 :: u36 :: u37 :: u38 :: u39 :: u40 :: u41 :: u42 :: u43 :: u44 :: u45 :: u46 :: u47 :: u48 :: u49 :: u50 :: u51 :: u52 :: u53 :: u54 :: u55 :: u56 :: u57 :: u58 :: u59 :: u60 :: u61 :: u62 :: u63 :: u64 :: u65 :: u66 :: u67 :: u68 :: u69 :: u70 :: u71 :: u72 :: u73 :: u74 :: u75 :: u76 :: u77 :: u78 :: u79 :: u80 :: u81 :: u82 :: u83 :: u84 :: u85 :: u86 :: u87 :: u88 :: u89 :: u90 :: u91 :: u92 :: u93 :: u94 :: u95 :: u96 :: u97 :: u98 :: u99 :: u100 :: u101 :: u102 :: u103 :: [])[j]? := fun j hj => (kp j (nd j hj)).trans List.getElem?_toArray
  obtain ⟨mid,hmid,rfl⟩ := Rg.frame_mid 39 13 df sz (by simp) kp2
  match mid,hmid with
  | [v39,v40,v41,v42,v43,v44,v45,v46,v47,v48,v49,v50,v51],_ =>
   have e1 : some v50 = some xR := gr
   obtain rfl := Option.some.inj e1
   refine HQ.out _ v39 v40 v41 v42 v43 v44 v45 v46 v47 v48 v49 v50 v51 ?_ ?_ ?_ ?_ ?_
   ·simpa using hb1
   ·exact own_cell oR b2 4 _ hblt
   ·exact fun B hB => (hb.mono (Nat.le_of_lt (Nat.lt_of_le_of_lt hB hblt))).setCell hB _
   ·intro c cs t hc hbc
    exact (RowKit.Below.heap_setCell _ _ _ _ hc).trans (hbc.on hb)
   ·intro k hk hne
    exact (RowKit.Below.heap_setCell _ _ _ _ hne).trans (hb.block k hk)
end Go.Proofs.YtncogjpmboglhaaGreat.Bk
