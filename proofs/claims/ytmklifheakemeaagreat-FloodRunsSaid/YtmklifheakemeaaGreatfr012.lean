/-
  slices.Clone of rows of six kinds: the same in new memory. Conditions as told.
-/
import Derived.Test.YtmklifheakemeaaGreatfr006
import Derived.Deep.RegionLaw
import Derived.Laws.Cover3
import Derived.Test.YtmklifheakemeaaGreatfr009
import Derived.IntWalk
import Derived.Laws.Externs
import Derived.Lib.Hide
import Derived.Lib.QuietBelow
import Derived.BigQuiet
import Derived.Test.YtmklifheakemeaaGreatfr011
import Derived.Test.YtmklifheakemeaaGreatfr010
import Derived.Test.YtmklifheakemeaaGreatfr001
import Derived.Test.YtmklifheakemeaaGreatfr008
import Derived.ChangeArms
set_option maxRecDepth 100000
set_option maxHeartbeats 64000000
namespace Go.Proofs.YtmklifheakemeaaGreat.Av
open Go.RowKit Rw YtmklifheakemeaaGreat.Nm Pr Bk Rg
theorem eqnilI (a : Option Addr) (n c : Nat) (w : World) : (binOp .eql 22 (.slice a n c) (.slice none 0 0)).run Tryz.prog w = .ok (.bool a.isNone) w := by
 simp [go_sem,binOp,run_equal_slice_nil (P := Tryz.prog) w 22 3 a n c Tryz.underlying22]
theorem cloneI_any (v : Sl) (l : List Int) (w : World) (hv : Row EI w (slv v) l) (hl : l.length ≤ 900) :
  Calls Tryz.prog 32 #[slv v] w fun e w' => (∃ v' : Sl,e = .returned (slv v') ∧ Own EI w' w.heap.size (slv v') l) ∧ Below w.heap.size w w' := by
 obtain ⟨vo,vn,vc⟩ := v
 rcases hv with ⟨rfl,hv⟩ | ⟨a,cap,hv,h1,h2,h3⟩
 ·obtain ⟨rfl,rfl,rfl⟩ : vo = none ∧ vn = 0 ∧ vc = 0 := by simpa using hv
  clear hv hl
  have q : ∀ w',(binOp .eql 22 (.slice none 0 0) (.slice none 0 0)).run Tryz.prog w' = .ok (.bool true) w' := fun w' => eqnilI none 0 0 w'
  go_enter Tryz.func32,Tryz.ntmps32
  go_wp2
  go_ret
  exact ⟨⟨(none,0,0),rfl,own_nil _ _⟩,Below.refl _ _⟩
 ·obtain ⟨rfl,rfl,rfl⟩ : vo = some a ∧ vn = l.length ∧ vc = cap := by simpa using hv
  have hx : Row EI w (.slice (some a) l.length vc) l := Or.inr ⟨a,vc,rfl,h1,h2,h3⟩
  have n0 := newB w (.cells #[] 3)
  obtain ⟨q0,w0,r0,o0,g0⟩ := app_fresh Nm.okI w.heap.size (box_new w #[] 3) (Nat.le_refl _) (hx.on n0) (by omega) 22
  obtain ⟨v1,v3,hv1⟩ := (Row.of_own o0).len
  obtain ⟨n,hn⟩ : ∃ n,n = l.length := ⟨_,rfl⟩
  have Q := Lib.hid (show (∃ v' : Sl,Ending.returned q0 = .returned (slv v') ∧ Own EI w0 w.heap.size (slv v') l) ∧ Below w.heap.size w w0 from ⟨⟨(v1,l.length,v3),by rw [hv1],by subst hv1; exact o0⟩,n0.trans (g0.mono n0.size)⟩)
  rw [← hn] at r0 ⊢
  clear hv h1 h2 h3 hx o0 g0 n0 hv1 hn hl
  have q : ∀ w',(binOp .eql 22 (.slice (some a) n vc) (.slice none 0 0)).run Tryz.prog w' = .ok (.bool false) w' := fun w' => eqnilI (some a) n vc w'
  have r0 : (Builtin.append_ #[22,22] 22 #[.slice (some ⟨w.heap.size,0,none⟩) 0 0,.slice (some a) n vc]).run Tryz.prog (w.alloc (.cells #[] 3)) = .ok q0 w0 := r0
  go_enter Tryz.func32,Tryz.ntmps32
  go_wp2_with (first | (at_builtin; refine wpList_append_run rfl _ _ 22 rfl rfl rfl r0 ?_) | fail)
  go_ret
  exact Q.out
theorem eqnilJ (a : Option Addr) (n c : Nat) (w : World) : (binOp .eql 24 (.slice a n c) (.slice none 0 0)).run Tryz.prog w = .ok (.bool a.isNone) w := by
 simp [go_sem,binOp,run_equal_slice_nil (P := Tryz.prog) w 24 31 a n c Tryz.underlying24]
theorem cloneJ_any (v : Sl) (l : List XID) (w : World) (hv : Row EJ w (slv v) l) (hl : l.length ≤ 900) :
  Calls Tryz.prog 140 #[slv v] w fun e w' => (∃ v' : Sl,e = .returned (slv v') ∧ Own EJ w' w.heap.size (slv v') l) ∧ Below w.heap.size w w' := by
 obtain ⟨vo,vn,vc⟩ := v
 rcases hv with ⟨rfl,hv⟩ | ⟨a,cap,hv,h1,h2,h3⟩
 ·obtain ⟨rfl,rfl,rfl⟩ : vo = none ∧ vn = 0 ∧ vc = 0 := by simpa using hv
  clear hv hl
  have q : ∀ w',(binOp .eql 24 (.slice none 0 0) (.slice none 0 0)).run Tryz.prog w' = .ok (.bool true) w' := fun w' => eqnilJ none 0 0 w'
  go_enter Tryz.func140,Tryz.ntmps140
  go_wp2
  go_ret
  exact ⟨⟨(none,0,0),rfl,own_nil _ _⟩,Below.refl _ _⟩
 ·obtain ⟨rfl,rfl,rfl⟩ : vo = some a ∧ vn = l.length ∧ vc = cap := by simpa using hv
  have hx : Row EJ w (.slice (some a) l.length vc) l := Or.inr ⟨a,vc,rfl,h1,h2,h3⟩
  have n0 := newB w (.cells #[] 31)
  obtain ⟨q0,w0,r0,o0,g0⟩ := app_fresh okJ w.heap.size (box_new w #[] 31) (Nat.le_refl _) (hx.on n0) (by omega) 24
  obtain ⟨v1,v3,hv1⟩ := (Row.of_own o0).len
  obtain ⟨n,hn⟩ : ∃ n,n = l.length := ⟨_,rfl⟩
  have Q := Lib.hid (show (∃ v' : Sl,Ending.returned q0 = .returned (slv v') ∧ Own EJ w0 w.heap.size (slv v') l) ∧ Below w.heap.size w w0 from ⟨⟨(v1,l.length,v3),by rw [hv1],by subst hv1; exact o0⟩,n0.trans (g0.mono n0.size)⟩)
  rw [← hn] at r0 ⊢
  clear hv h1 h2 h3 hx o0 g0 n0 hv1 hn hl
  have q : ∀ w',(binOp .eql 24 (.slice (some a) n vc) (.slice none 0 0)).run Tryz.prog w' = .ok (.bool false) w' := fun w' => eqnilJ (some a) n vc w'
  have r0 : (Builtin.append_ #[24,24] 24 #[.slice (some ⟨w.heap.size,0,none⟩) 0 0,.slice (some a) n vc]).run Tryz.prog (w.alloc (.cells #[] 31)) = .ok q0 w0 := r0
  go_enter Tryz.func140,Tryz.ntmps140
  go_wp2_with (first | (at_builtin; refine wpList_append_run rfl _ _ 24 rfl rfl rfl r0 ?_) | fail)
  go_ret
  exact Q.out
theorem eqnilD (a : Option Addr) (n c : Nat) (w : World) : (binOp .eql 23 (.slice a n c) (.slice none 0 0)).run Tryz.prog w = .ok (.bool a.isNone) w := by
 simp [go_sem,binOp,run_equal_slice_nil (P := Tryz.prog) w 23 74 a n c Tryz.underlying23]
theorem cloneD_any (v : Sl) (l : List XAd) (w : World) (hv : Row ED w (slv v) l) (hl : l.length ≤ 900) :
  Calls Tryz.prog 141 #[slv v] w fun e w' => (∃ v' : Sl,e = .returned (slv v') ∧ Own ED w' w.heap.size (slv v') l) ∧ Below w.heap.size w w' := by
 obtain ⟨vo,vn,vc⟩ := v
 rcases hv with ⟨rfl,hv⟩ | ⟨a,cap,hv,h1,h2,h3⟩
 ·obtain ⟨rfl,rfl,rfl⟩ : vo = none ∧ vn = 0 ∧ vc = 0 := by simpa using hv
  clear hv hl
  have q : ∀ w',(binOp .eql 23 (.slice none 0 0) (.slice none 0 0)).run Tryz.prog w' = .ok (.bool true) w' := fun w' => eqnilD none 0 0 w'
  go_enter Tryz.func141,Tryz.ntmps141
  go_wp2
  go_ret
  exact ⟨⟨(none,0,0),rfl,own_nil _ _⟩,Below.refl _ _⟩
 ·obtain ⟨rfl,rfl,rfl⟩ : vo = some a ∧ vn = l.length ∧ vc = cap := by simpa using hv
  have hx : Row ED w (.slice (some a) l.length vc) l := Or.inr ⟨a,vc,rfl,h1,h2,h3⟩
  have n0 := newB w (.cells #[] 74)
  obtain ⟨q0,w0,r0,o0,g0⟩ := app_fresh okD w.heap.size (box_new w #[] 74) (Nat.le_refl _) (hx.on n0) (by omega) 23
  obtain ⟨v1,v3,hv1⟩ := (Row.of_own o0).len
  obtain ⟨n,hn⟩ : ∃ n,n = l.length := ⟨_,rfl⟩
  have Q := Lib.hid (show (∃ v' : Sl,Ending.returned q0 = .returned (slv v') ∧ Own ED w0 w.heap.size (slv v') l) ∧ Below w.heap.size w w0 from ⟨⟨(v1,l.length,v3),by rw [hv1],by subst hv1; exact o0⟩,n0.trans (g0.mono n0.size)⟩)
  rw [← hn] at r0 ⊢
  clear hv h1 h2 h3 hx o0 g0 n0 hv1 hn hl
  have q : ∀ w',(binOp .eql 23 (.slice (some a) n vc) (.slice none 0 0)).run Tryz.prog w' = .ok (.bool false) w' := fun w' => eqnilD (some a) n vc w'
  have r0 : (Builtin.append_ #[23,23] 23 #[.slice (some ⟨w.heap.size,0,none⟩) 0 0,.slice (some a) n vc]).run Tryz.prog (w.alloc (.cells #[] 74)) = .ok q0 w0 := r0
  go_enter Tryz.func141,Tryz.ntmps141
  go_wp2_with (first | (at_builtin; refine wpList_append_run rfl _ _ 23 rfl rfl rfl r0 ?_) | fail)
  go_ret
  exact Q.out
theorem eqnilN (a : Option Addr) (n c : Nat) (w : World) : (binOp .eql 25 (.slice a n c) (.slice none 0 0)).run Tryz.prog w = .ok (.bool a.isNone) w := by
 simp [go_sem,binOp,run_equal_slice_nil (P := Tryz.prog) w 25 66 a n c Tryz.underlying25]
theorem cloneN_any (v : Sl) (l : List XEn) (w : World) (hv : Row EN w (slv v) l) (hl : l.length ≤ 900) :
  Calls Tryz.prog 142 #[slv v] w fun e w' => (∃ v' : Sl,e = .returned (slv v') ∧ Own EN w' w.heap.size (slv v') l) ∧ Below w.heap.size w w' := by
 obtain ⟨vo,vn,vc⟩ := v
 rcases hv with ⟨rfl,hv⟩ | ⟨a,cap,hv,h1,h2,h3⟩
 ·obtain ⟨rfl,rfl,rfl⟩ : vo = none ∧ vn = 0 ∧ vc = 0 := by simpa using hv
  clear hv hl
  have q : ∀ w',(binOp .eql 25 (.slice none 0 0) (.slice none 0 0)).run Tryz.prog w' = .ok (.bool true) w' := fun w' => eqnilN none 0 0 w'
  go_enter Tryz.func142,Tryz.ntmps142
  go_wp2
  go_ret
  exact ⟨⟨(none,0,0),rfl,own_nil _ _⟩,Below.refl _ _⟩
 ·obtain ⟨rfl,rfl,rfl⟩ : vo = some a ∧ vn = l.length ∧ vc = cap := by simpa using hv
  have hx : Row EN w (.slice (some a) l.length vc) l := Or.inr ⟨a,vc,rfl,h1,h2,h3⟩
  have n0 := newB w (.cells #[] 66)
  obtain ⟨q0,w0,r0,o0,g0⟩ := app_fresh okN w.heap.size (box_new w #[] 66) (Nat.le_refl _) (hx.on n0) (by omega) 25
  obtain ⟨v1,v3,hv1⟩ := (Row.of_own o0).len
  obtain ⟨n,hn⟩ : ∃ n,n = l.length := ⟨_,rfl⟩
  have Q := Lib.hid (show (∃ v' : Sl,Ending.returned q0 = .returned (slv v') ∧ Own EN w0 w.heap.size (slv v') l) ∧ Below w.heap.size w w0 from ⟨⟨(v1,l.length,v3),by rw [hv1],by subst hv1; exact o0⟩,n0.trans (g0.mono n0.size)⟩)
  rw [← hn] at r0 ⊢
  clear hv h1 h2 h3 hx o0 g0 n0 hv1 hn hl
  have q : ∀ w',(binOp .eql 25 (.slice (some a) n vc) (.slice none 0 0)).run Tryz.prog w' = .ok (.bool false) w' := fun w' => eqnilN (some a) n vc w'
  have r0 : (Builtin.append_ #[25,25] 25 #[.slice (some ⟨w.heap.size,0,none⟩) 0 0,.slice (some a) n vc]).run Tryz.prog (w.alloc (.cells #[] 66)) = .ok q0 w0 := r0
  go_enter Tryz.func142,Tryz.ntmps142
  go_wp2_with (first | (at_builtin; refine wpList_append_run rfl _ _ 25 rfl rfl rfl r0 ?_) | fail)
  go_ret
  exact Q.out
theorem eqnilW (a : Option Addr) (n c : Nat) (w : World) : (binOp .eql 26 (.slice a n c) (.slice none 0 0)).run Tryz.prog w = .ok (.bool a.isNone) w := by
 simp [go_sem,binOp,run_equal_slice_nil (P := Tryz.prog) w 26 34 a n c Tryz.underlying26]
theorem cloneW_any (v : Sl) (l : List XOw) (w : World) (hv : Row EW w (slv v) l) (hl : l.length ≤ 900) :
  Calls Tryz.prog 143 #[slv v] w fun e w' => (∃ v' : Sl,e = .returned (slv v') ∧ Own EW w' w.heap.size (slv v') l) ∧ Below w.heap.size w w' := by
 obtain ⟨vo,vn,vc⟩ := v
 rcases hv with ⟨rfl,hv⟩ | ⟨a,cap,hv,h1,h2,h3⟩
 ·obtain ⟨rfl,rfl,rfl⟩ : vo = none ∧ vn = 0 ∧ vc = 0 := by simpa using hv
  clear hv hl
  have q : ∀ w',(binOp .eql 26 (.slice none 0 0) (.slice none 0 0)).run Tryz.prog w' = .ok (.bool true) w' := fun w' => eqnilW none 0 0 w'
  go_enter Tryz.func143,Tryz.ntmps143
  go_wp2
  go_ret
  exact ⟨⟨(none,0,0),rfl,own_nil _ _⟩,Below.refl _ _⟩
 ·obtain ⟨rfl,rfl,rfl⟩ : vo = some a ∧ vn = l.length ∧ vc = cap := by simpa using hv
  have hx : Row EW w (.slice (some a) l.length vc) l := Or.inr ⟨a,vc,rfl,h1,h2,h3⟩
  have n0 := newB w (.cells #[] 34)
  obtain ⟨q0,w0,r0,o0,g0⟩ := app_fresh okW w.heap.size (box_new w #[] 34) (Nat.le_refl _) (hx.on n0) (by omega) 26
  obtain ⟨v1,v3,hv1⟩ := (Row.of_own o0).len
  obtain ⟨n,hn⟩ : ∃ n,n = l.length := ⟨_,rfl⟩
  have Q := Lib.hid (show (∃ v' : Sl,Ending.returned q0 = .returned (slv v') ∧ Own EW w0 w.heap.size (slv v') l) ∧ Below w.heap.size w w0 from ⟨⟨(v1,l.length,v3),by rw [hv1],by subst hv1; exact o0⟩,n0.trans (g0.mono n0.size)⟩)
  rw [← hn] at r0 ⊢
  clear hv h1 h2 h3 hx o0 g0 n0 hv1 hn hl
  have q : ∀ w',(binOp .eql 26 (.slice (some a) n vc) (.slice none 0 0)).run Tryz.prog w' = .ok (.bool false) w' := fun w' => eqnilW (some a) n vc w'
  have r0 : (Builtin.append_ #[26,26] 26 #[.slice (some ⟨w.heap.size,0,none⟩) 0 0,.slice (some a) n vc]).run Tryz.prog (w.alloc (.cells #[] 34)) = .ok q0 w0 := r0
  go_enter Tryz.func143,Tryz.ntmps143
  go_wp2_with (first | (at_builtin; refine wpList_append_run rfl _ _ 26 rfl rfl rfl r0 ?_) | fail)
  go_ret
  exact Q.out
theorem eqnilC (a : Option Addr) (n c : Nat) (w : World) : (binOp .eql 32 (.slice a n c) (.slice none 0 0)).run Tryz.prog w = .ok (.bool a.isNone) w := by
 simp [go_sem,binOp,run_equal_slice_nil (P := Tryz.prog) w 32 70 a n c Tryz.underlying32]
theorem cloneC_any (v : Sl) (l : List C5) (w : World) (hv : Row EC w (slv v) l) (hl : l.length ≤ 900) :
  Calls Tryz.prog 123 #[slv v] w fun e w' => (∃ v' : Sl,e = .returned (slv v') ∧ Own EC w' w.heap.size (slv v') l) ∧ Below w.heap.size w w' := by
 obtain ⟨vo,vn,vc⟩ := v
 rcases hv with ⟨rfl,hv⟩ | ⟨a,cap,hv,h1,h2,h3⟩
 ·obtain ⟨rfl,rfl,rfl⟩ : vo = none ∧ vn = 0 ∧ vc = 0 := by simpa using hv
  clear hv hl
  have q : ∀ w',(binOp .eql 32 (.slice none 0 0) (.slice none 0 0)).run Tryz.prog w' = .ok (.bool true) w' := fun w' => eqnilC none 0 0 w'
  go_enter Tryz.func123,Tryz.ntmps123
  go_wp2
  go_ret
  exact ⟨⟨(none,0,0),rfl,own_nil _ _⟩,Below.refl _ _⟩
 ·obtain ⟨rfl,rfl,rfl⟩ : vo = some a ∧ vn = l.length ∧ vc = cap := by simpa using hv
  have hx : Row EC w (.slice (some a) l.length vc) l := Or.inr ⟨a,vc,rfl,h1,h2,h3⟩
  have n0 := newB w (.cells #[] 70)
  obtain ⟨q0,w0,r0,o0,g0⟩ := app_fresh okC w.heap.size (box_new w #[] 70) (Nat.le_refl _) (hx.on n0) (by omega) 32
  obtain ⟨v1,v3,hv1⟩ := (Row.of_own o0).len
  obtain ⟨n,hn⟩ : ∃ n,n = l.length := ⟨_,rfl⟩
  have Q := Lib.hid (show (∃ v' : Sl,Ending.returned q0 = .returned (slv v') ∧ Own EC w0 w.heap.size (slv v') l) ∧ Below w.heap.size w w0 from ⟨⟨(v1,l.length,v3),by rw [hv1],by subst hv1; exact o0⟩,n0.trans (g0.mono n0.size)⟩)
  rw [← hn] at r0 ⊢
  clear hv h1 h2 h3 hx o0 g0 n0 hv1 hn hl
  have q : ∀ w',(binOp .eql 32 (.slice (some a) n vc) (.slice none 0 0)).run Tryz.prog w' = .ok (.bool false) w' := fun w' => eqnilC (some a) n vc w'
  have r0 : (Builtin.append_ #[32,32] 32 #[.slice (some ⟨w.heap.size,0,none⟩) 0 0,.slice (some a) n vc]).run Tryz.prog (w.alloc (.cells #[] 70)) = .ok q0 w0 := r0
  go_enter Tryz.func123,Tryz.ntmps123
  go_wp2_with (first | (at_builtin; refine wpList_append_run rfl _ _ 32 rfl rfl rfl r0 ?_) | fail)
  go_ret
  exact Q.out
end Go.Proofs.YtmklifheakemeaaGreat.Av
namespace Go.Proofs.YtmklifheakemeaaGreat.Pr
open Go.RowKit Go.Sort Pu Rw Va
theorem name_same (s : ByteArray) (w : World) (hs : s.size ≤ maxLen) :
  Calls Tryz.prog 155 #[.string s] w fun e w' => e = .returned (.bool (nameB s)) ∧ w = w' := by
 unfold maxLen at hs
 go_enter Tryz.func155,Tryz.ntmps155
 go_wp2
 go_loop [6] (fun i => ∃ k : Nat,k ≤ s.size ∧ i = .int .i64 k ∧ ∀ (j : Nat) (hj : j < s.size),j < k → letB s[j] = true) (fun i => s.size - (intOf i).toNat)
 case atStart => exact ⟨0,Nat.zero_le _,rfl,fun j hj h => by omega⟩
 case round =>
  obtain ⟨k,hk,rfl,hall⟩ := hrel
  have AL := Lib.hid hall
  clear hall
  by_cases hlt : k < s.size
  ·have hcl : (s[k].toNat : Int) < 256 := by have := s[k].toNat_lt; omega
   by_cases h1 : 97 ≤ s[k].toNat
   ·by_cases h2 : s[k].toNat ≤ 122
    ·have L := Lib.hid (show letB s[k] = true by simp [letB,h1,h2])
     have d1 : decide ((s[k].toNat : Int) < 97) = false := by simp; omega
     have d2 : decide ((122 : Int) < (s[k].toNat : Int)) = false := by simp; omega
     clear h1 h2
     go_wp2
     go_round
     case rel => exact ⟨k + 1,by omega,by go_num,fun j hj h => by
      rcases Nat.lt_or_ge j k with h3 | h3
      ·exact AL.out j hj h3
      ·obtain rfl : j = k := by omega
       exact L.out⟩
     case measure => simp [intOf]; omega
    ·have R := Lib.hid (show nameB s = false from nameB_not s k hlt (by simp [letB,h2]))
     have d1 : decide ((s[k].toNat : Int) < 97) = false := by simp; omega
     have d2 : decide ((122 : Int) < (s[k].toNat : Int)) = true := by simp; omega
     clear h1 h2
     go_wp2
     go_ret
     exact ⟨ret_bool R.out.symm,rfl⟩
   ·have R := Lib.hid (show nameB s = false from nameB_not s k hlt (by simp [letB,h1]))
    have d1 : decide ((s[k].toNat : Int) < 97) = true := by simp; omega
    clear h1
    go_wp2
    go_ret
    exact ⟨ret_bool R.out.symm,rfl⟩
  ·obtain rfl : k = s.size := by omega
   have R := Lib.hid (nameB_end s (fun j hj => AL.out j hj hj))
   by_cases h1 : 1 ≤ s.size
   ·have R2 := Lib.hid (show nameB s = decide ((s.size : Int) ≤ 12) by rw [R.out]; simp [h1]; omega)
    go_wp2
    go_ret
    exact ⟨ret_bool R2.out.symm,rfl⟩
   ·have R2 := Lib.hid (show nameB s = false by rw [R.out]; simp [h1])
    have d1 : decide ((1 : Int) ≤ (s.size : Int)) = false := by simp; omega
    go_wp2
    go_ret
    exact ⟨ret_bool R2.out.symm,rfl⟩
theorem oB (w : World) (nm : ByteArray) (k lo hi : Int) (u : ByteArray) : Below w.heap.size w (w.alloc (.cells #[.string nm,.int .i64 k,.int .i64 lo,.int .i64 hi,.string u] 70)) :=
 (Below.refl w.heap.size w).alloc (Nat.le_refl _) _
theorem one_any (c : Cn) (w : World) (hs : c.1.size ≤ maxLen) : Calls Tryz.prog 116 #[cv (r5 c)] w fun e w' => e = .returned (.bool (goodC c)) ∧ Below w.heap.size w w' := by
 obtain ⟨nm,k⟩ := c
 have NA := Lib.hid (name_same nm (w.alloc (.cells #[.string nm,.int .i64 (kN k),.int .i64 (kLo k),.int .i64 (kHi k),.string (kT k)] 70)) hs)
 have B := Lib.hid (oB w nm (kN k) (kLo k) (kHi k) (kT k))
 have R := Lib.hid (show goodC (nm,k) = (nameB nm && goodK k) from rfl)
 clear hs
 generalize goodC (nm,k) = r at *
 obtain ⟨q,hq⟩ : ∃ q,nameB nm = q := ⟨_,rfl⟩
 rw [hq] at NA R
 clear hq
 cases k with
 | rg lo hi =>
  simp only [r5,kN,kLo,kHi,kT] at *
  cases q
  ·go_enter Tryz.func116,Tryz.ntmps116
   go_wp2_with fail
   refine NA.out.mono ?_
   rintro e w' ⟨rfl,rfl⟩
   go_wp2
   go_ret
   exact ⟨ret_bool (by rw [R.out]; simp),B.out⟩
  ·by_cases h1 : lo ≤ hi <;> have H1 := Lib.hid h1
   all_goals
    go_enter Tryz.func116,Tryz.ntmps116
    go_wp2_with fail
    refine NA.out.mono ?_
    rintro e w' ⟨rfl,rfl⟩
    go_wp2
    go_ret
    exact ⟨ret_bool (by rw [R.out]; have h := H1.out; simp [goodK,h] <;> omega),B.out⟩
 | tx u =>
  simp only [r5,kN,kLo,kHi,kT] at *
  cases q
  ·go_enter Tryz.func116,Tryz.ntmps116
   go_wp2_with fail
   refine NA.out.mono ?_
   rintro e w' ⟨rfl,rfl⟩
   go_wp2
   go_ret
   exact ⟨ret_bool (by rw [R.out]; simp),B.out⟩
  ·go_enter Tryz.func116,Tryz.ntmps116
   go_wp2_with fail
   refine NA.out.mono ?_
   rintro e w' ⟨rfl,rfl⟩
   go_wp2
   go_ret
   exact ⟨ret_bool (by rw [R.out]; simp [goodK]; omega),B.out⟩
 | pr u =>
  simp only [r5,kN,kLo,kHi,kT] at *
  cases q
  ·go_enter Tryz.func116,Tryz.ntmps116
   go_wp2_with fail
   refine NA.out.mono ?_
   rintro e w' ⟨rfl,rfl⟩
   go_wp2
   go_ret
   exact ⟨ret_bool (by rw [R.out]; simp),B.out⟩
  ·by_cases h1 : u.size < 12
   ·have e1 : decide ((12 : Int) ≤ (u.size : Int)) = false := by simp; omega
    have e2 : decide ((u.size : Int) ≤ 12) = true := by simp; omega
    have H1 := Lib.hid h1
    clear h1
    go_enter Tryz.func116,Tryz.ntmps116
    go_wp2_with fail
    refine NA.out.mono ?_
    rintro e w' ⟨rfl,rfl⟩
    go_wp2
    go_ret
    exact ⟨ret_bool (by rw [R.out]; have h := H1.out; simp [goodK,h]),B.out⟩
   ·have e1 : decide ((12 : Int) ≤ (u.size : Int)) = true := by simp; omega
    have H1 := Lib.hid h1
    clear h1
    go_enter Tryz.func116,Tryz.ntmps116
    go_wp2_with fail
    refine NA.out.mono ?_
    rintro e w' ⟨rfl,rfl⟩
    go_wp2
    go_ret
    exact ⟨ret_bool (by rw [R.out]; have h := H1.out; simp [goodK]; omega),B.out⟩
end Go.Proofs.YtmklifheakemeaaGreat.Pr
namespace Go.Proofs.YtmklifheakemeaaGreat.Av
open Go.RowKit Rw YtmklifheakemeaaGreat.Nm Pr Bk
theorem row_boxD {W : World} {b : Nat} {c : XAd} (h : Box W b (cellsD c).toArray 74) : RowD W (.slice (some ⟨b,0,none⟩) 1 1) [c] :=
 Or.inr ⟨⟨b,0,none⟩,1,rfl,by simp,by decide,box_one h (by simp [ED])⟩
def InsQD (B : Nat) (l : List XAd) (k : Nat) (c : XAd) (vv : Value) (W : World) (e : Ending) (w' : World) : Prop := ∃ v',e = .returned v' ∧ OwnD w' B v' (l.take k ++ c :: l.drop k) ∧ Below B W w' ∧ (∀ j,j < W.heap.size → some j ≠ vv.ownBlock → w'.heap[j]? = W.heap[j]?)
theorem insert_endD (B : Nat) (v : Value) (l : List XAd) (c : XAd) (b : Nat) (W : World) (ho : OwnD W B v l) (hx : Box W b (cellsD c).toArray 74) (hl : l.length ≤ 900) (hB : B ≤ W.heap.size) :
  Calls Tryz.prog 144 #[v,.int .i64 (l.length : Nat),.slice (some ⟨b,0,none⟩) 1 1] W (InsQD B l l.length c v W) := by
 obtain ⟨v',w',hr,ho2,hg⟩ := app_row okD B ho (row_boxD hx) (by omega) (by simp) hB 23
 have hr : (Builtin.append_ #[23,23] 23 #[v,.slice (some ⟨b,0,none⟩) 1 1]).run Tryz.prog W = .ok v' w' := hr
 have Q := Lib.hid (show InsQD B l l.length c v W (.returned v') w' from ⟨v',rfl,by rw [List.take_of_length_le (Nat.le_refl _),List.drop_of_length_le (Nat.le_refl _)]; exact ho2,(Below.refl B W).grown hg hB (fun j hj => (ho.lt j hj).1),fun j hj hne => hg.block j hj hne⟩)
 obtain ⟨sx,hs,_⟩ := row_hi okD (Row.of_own ho) l.length (Nat.le_refl _)
 have hs : ∀ w,(Instr.sliceAt 23 v (some (.int .i64 l.length)) none none).run Tryz.prog w = .ok sx w := hs
 obtain ⟨ao,ac,rfl⟩ := (Row.of_own ho).len
 clear ho ho2 hg
 generalize hn : l.length = n at *
 clear hn
 go_enter Tryz.func144,Tryz.ntmps144
 go_wp2_with (first | (at_builtin; refine wpList_append_run rfl _ _ 23 rfl rfl rfl hr ?_) | fail)
 go_ret
 exact Q.out
theorem no_overD (w : World) (g b k la lb cb : Nat) (cur cs : Array Value) (hb : Box w b cs 74) (hg : Box w g cur 74) (hne : b ≠ g) (h0 : 0 < cur.size) : (callFunc 166 #[.slice (some ⟨b,0,none⟩) la 1,.slice (some ⟨g,k,none⟩) lb cb]).run Tryz.prog w = .ok (.value (.bool false)) w := by
 rw [run_callFunc_extern Tryz.func166 (by kernel_rfl) (by kernel_rfl) (by kernel_rfl) (e := Extern.SlicesOverlaps.overlaps #[23,23] #[4]) (by kernel_rfl),
  Lib.run_overlaps_apart w 23 4 74 Tryz.underlying23 4 Tryz.sizeOf74 ⟨b,0,none⟩ ⟨g,k,none⟩ la 1 lb cb hne 74 74 cs.size cur.size hb.shape hg.shape (by omega) (hb.fr 0) (hb.fr _)]
 rfl
theorem insert_shiftD (B g n cap : Nat) (cur : Array Value) (l : List XAd) (k : Nat) (c : XAd) (b : Nat) (W : World) (hn : n = l.length) (hBg : B ≤ g) (hg : Box W g cur 74) (hcm : cap ≤ maxLen) (hsz : cur.size = cap * 4) (ht : cur.toList.take (n * 4) = flat ED l) (hx : Box W b (cellsD c).toArray 74) (hne : b ≠ g) (hk : k < n) (hroom : n + 1 ≤ cap) (hl : n ≤ 900) :
  Calls Tryz.prog 144 #[.slice (some ⟨g,0,none⟩) n cap,.int .i64 k,.slice (some ⟨b,0,none⟩) 1 1] W (InsQD B l k c (.slice (some ⟨g,0,none⟩) n cap) W) := by
 obtain ⟨R1,R2,r1,r2,ow⟩ := shift_mid (E := ED) (l := l) (k := k) (cap := cap) (cur := cur) (cs := (cellsD c).toArray) (c := c) okD (by omega) (by omega) hsz (by rw [← hn]; exact ht) g b hne
 have hov := fun lb cb => no_overD W g b ((k + 1) * 4) 1 lb cb cur (cellsD c).toArray hx hg hne (by omega)
 have s0 := cut_hi (E := ED) okD g k n cap (by omega) (by omega)
 have s1 := slice_lo (E := ED) okD ⟨g,0,none⟩ (n + 1) n cap (by omega)
 have s2 := cut_hi (E := ED) okD g (k + 1) (n + 1) cap (by omega) (by omega)
 have s3 := cut_hi (E := ED) okD g k (n + 1) cap (by omega) (by omega)
 have q1 := r1 W.drew 3 (n + 1 - (k + 1)) (cap - (k + 1)) (n + 1 - k) (cap - k) hg (by omega)
 have q2 := r2 (W.drew.setRow g R1) 3 (n + 1 - k) (cap - k) (Box.set (show Box W.drew g cur 74 from hg) R1) (Box.other (show Box W.drew b _ 74 from hx) hne R1) rfl (by omega)
 have Q := Lib.hid (show InsQD B l k c (.slice (some ⟨g,0,none⟩) n cap) W (.returned (.slice (some ⟨g,0,none⟩) (n + 1) cap)) ((W.drew.setRow g R1).setRow g R2) from ⟨_,rfl,by rw [hn]; exact ow _ B hBg hcm (Box.set (Box.set (show Box W.drew g cur 74 from hg) R1) R2),below_setRow (below_setRow (Below.refl B W).drew hBg _) hBg _,fun j hj hne => (setRow_other _ g j _ (fun e => hne (by rw [e]; rfl))).trans (setRow_other _ g j _ (fun e => hne (by rw [e]; rfl)))⟩)
 clear r1 r2 ow hg ht hx hsz hBg hcm
 change ∀ w,(Instr.sliceAt 23 (.slice (some ⟨g,0,none⟩) n cap) (some (.int .i64 k)) none none).run Tryz.prog w = .ok (.slice (some ⟨g,k * 4,none⟩) (n - k) (cap - k)) w at s0
 change ∀ w,(Instr.sliceAt 23 (.slice (some ⟨g,0,none⟩) n cap) none (some (.int .i64 ((n : Int) + 1))) none).run Tryz.prog w = .ok (.slice (some ⟨g,0,none⟩) (n + 1) cap) w at s1
 change ∀ w,(Instr.sliceAt 23 (.slice (some ⟨g,0,none⟩) (n + 1) cap) (some (.int .i64 ((k : Int) + 1))) none none).run Tryz.prog w = .ok (.slice (some ⟨g,(k + 1) * 4,none⟩) (n + 1 - (k + 1)) (cap - (k + 1))) w at s2
 change ∀ w,(Instr.sliceAt 23 (.slice (some ⟨g,0,none⟩) (n + 1) cap) (some (.int .i64 k)) none none).run Tryz.prog w = .ok (.slice (some ⟨g,k * 4,none⟩) (n + 1 - k) (cap - k)) w at s3
 have e1 : ((k : Int) == (n : Int)) = false := by rw [beq_eq_false_iff_ne]; omega
 have e2 : decide ((cap : Int) < (n : Int) + 1) = false := by simp; omega
 change (Builtin.copy_ #[23,23] 3 #[.slice (some ⟨g,(k + 1) * 4,none⟩) (n + 1 - (k + 1)) (cap - (k + 1)),.slice (some ⟨g,k * 4,none⟩) (n + 1 - k) (cap - k)]).run Tryz.prog W.drew = .ok (.int .i64 ((l.length - k : Nat) : Int)) (W.drew.setRow g R1) at q1
 change (Builtin.copy_ #[23,23] 3 #[.slice (some ⟨g,k * 4,none⟩) (n + 1 - k) (cap - k),.slice (some ⟨b,0,none⟩) 1 1]).run Tryz.prog (W.drew.setRow g R1) = .ok (.int .i64 1) ((W.drew.setRow g R1).setRow g R2) at q2
 clear hn
 go_enter Tryz.func144,Tryz.ntmps144
 go_wp2_with (first | (simp only [hov]) | fail)
 clear hov s0 s1 s2 s3
 have hw1 : IntKind.i64.wrap ((k : Int) + 1) = (k : Int) + 1 := by rw [IntKind.wrap_i64]; omega
 have hb1 : (0 : Int) ≤ (k : Int) + 1 := by omega
 have hb0 : (k : Int) + 1 ≤ (n : Int) + 1 := by omega
 have htn : ((k : Int) + 1).toNat = k + 1 := by omega
 have hb2 : ¬ (cap = k + 1) := by omega
 have hb3 : (k : Int) ≤ (n : Int) + 1 := by omega
 have hb4 : ¬ (cap = k) := by omega
 have h81 : n + 1 - (k + 1) = n - k := by omega
 rw [h81] at q1
 clear h81
 go_region_law (refine step_copy_run rfl (.tmp 73) (.tmp 76) 23 rfl (v := .slice (some ⟨g,(k + 1) * 4,none⟩) (n - k) (cap - (k + 1))) (xv := .slice (some ⟨g,k * 4,none⟩) (n + 1 - k) (cap - k)) (by simp [Act.eval,Act.put]) (by simp [Act.eval,Act.put]) q1 ?_)
 all_goals simp only [Exit.then]
 all_goals apply_assumption
 clear q1 hw1 hb1 hb0 htn hb2 hb3 hb4
 have s3 := cut_hi (E := ED) okD g k (n + 1) cap (by omega) (by omega)
 change ∀ w,(Instr.sliceAt 23 (.slice (some ⟨g,0,none⟩) (n + 1) cap) (some (.int .i64 k)) none none).run Tryz.prog w = .ok (.slice (some ⟨g,k * 4,none⟩) (n + 1 - k) (cap - k)) w at s3
 go_wp2_with (first | (at_builtin; refine wpList_copy_run rfl _ _ 23 rfl rfl rfl q2 ?_) | fail)
 go_ret
 exact Q.out
theorem insert_growD (B g n cap : Nat) (cur : Array Value) (l : List XAd) (k : Nat) (c : XAd) (b : Nat) (W : World) (hn : n = l.length) (hg : Box W g cur 74) (hcm : cap ≤ maxLen) (hnc : n ≤ cap) (ht : cur.toList.take (n * 4) = flat ED l) (hx : Box W b (cellsD c).toArray 74) (hk : k < n) (hroom : cap < n + 1) (hl : n ≤ 900) (hB : B ≤ W.heap.size) :
  Calls Tryz.prog 144 #[.slice (some ⟨g,0,none⟩) n cap,.int .i64 k,.slice (some ⟨b,0,none⟩) 1 1] W (InsQD B l k c (.slice (some ⟨g,0,none⟩) n cap) W) := by
 have hgw := hg.lt
 have hbw := hx.lt
 obtain ⟨G,R1,R2,R3,hG1,hG2,r1,r2,r3,ow⟩ := grow_mid (E := ED) (l := l) (k := k) (cap := cap) (cur := cur) (cs := (cellsD c).toArray) (c := c) okD 3 Tryz.underlying3 (by omega) (by omega) (by omega) (by omega) (by rw [← hn]; exact ht) W g b hg hbw
 unfold maxLen at hcm hG2
 have s0 := cut_hi (E := ED) okD g k n cap (by omega) (by omega)
 have s1 := slice_lo (E := ED) okD ⟨g,0,none⟩ k n cap (by omega)
 have s2 := cut_hi (E := ED) okD W.heap.size k (n + 1) G (by omega) (by omega)
 have s3 := cut_hi (E := ED) okD W.heap.size (k + 1) (n + 1) G (by omega) (by omega)
 have a1 := r1 23
 have n1 := box_new W.drew R1 74
 have bl : W.drew.heap.size = W.heap.size := rfl
 rw [bl] at n1
 have g1 : Box (W.drew.alloc (.cells R1 74)) g cur 74 := Box.more (show Box W.drew g cur 74 from hg) _
 have x1 : Box (W.drew.alloc (.cells R1 74)) b (cellsD c).toArray 74 := Box.more (show Box W.drew b _ 74 from hx) _
 have q2 := r2 (W.drew.alloc (.cells R1 74)) 3 (n + 1 - k) (G - k) n1 x1 rfl (by omega)
 have q3 := r3 ((W.drew.alloc (.cells R1 74)).setRow W.heap.size R2).drew 3 (n + 1 - (k + 1)) (G - (k + 1)) (n - k) (cap - k) (Box.set n1 R2) (Box.other g1 (by omega) R2) (by omega)
 have Q := Lib.hid (show InsQD B l k c (.slice (some ⟨g,0,none⟩) n cap) W (.returned (.slice (some ⟨W.heap.size,0,none⟩) (n + 1) G)) (((W.drew.alloc (.cells R1 74)).setRow W.heap.size R2).drew.setRow W.heap.size R3) from ⟨_,rfl,by rw [hn]; exact ow _ B hB (Box.set (Box.set n1 R2) R3),below_setRow (below_setRow ((Below.refl B W).drew.alloc hB _) hB _).drew hB _,fun j hj _ => (setRow_other _ W.heap.size j _ (by omega)).trans ((setRow_other _ W.heap.size j _ (by omega)).trans (Array.getElem?_push_lt hj |>.trans (Array.getElem?_eq_getElem hj).symm))⟩)
 have l1 : l.length + 1 = n + 1 := by rw [hn]
 rw [l1,← hn] at a1
 clear r1 r2 r3 ow hg ht hx g1 x1 n1 bl l1
 change ∀ w,(Instr.sliceAt 23 (.slice (some ⟨g,0,none⟩) n cap) (some (.int .i64 k)) none none).run Tryz.prog w = .ok (.slice (some ⟨g,k * 4,none⟩) (n - k) (cap - k)) w at s0
 change ∀ w,(Instr.sliceAt 23 (.slice (some ⟨g,0,none⟩) n cap) none (some (.int .i64 k)) none).run Tryz.prog w = .ok (.slice (some ⟨g,0,none⟩) k cap) w at s1
 change ∀ w,(Instr.sliceAt 23 (.slice (some ⟨W.heap.size,0,none⟩) (n + 1) G) (some (.int .i64 k)) none none).run Tryz.prog w = .ok (.slice (some ⟨W.heap.size,k * 4,none⟩) (n + 1 - k) (G - k)) w at s2
 change ∀ w,(Instr.sliceAt 23 (.slice (some ⟨W.heap.size,0,none⟩) (n + 1) G) (some (.int .i64 ((k : Int) + 1))) none none).run Tryz.prog w = .ok (.slice (some ⟨W.heap.size,(k + 1) * 4,none⟩) (n + 1 - (k + 1)) (G - (k + 1))) w at s3
 change (Builtin.append_ #[23,3] 23 #[.slice (some ⟨g,0,none⟩) k cap,.int .i64 ((n : Int) + 1 - k)]).run Tryz.prog W = .ok (.slice (some ⟨W.heap.size,0,none⟩) (n + 1) G) (W.drew.alloc (.cells R1 74)) at a1
 change (Builtin.copy_ #[23,23] 3 #[.slice (some ⟨W.heap.size,k * 4,none⟩) (n + 1 - k) (G - k),.slice (some ⟨b,0,none⟩) 1 1]).run Tryz.prog (W.drew.alloc (.cells R1 74)) = .ok (.int .i64 1) ((W.drew.alloc (.cells R1 74)).setRow W.heap.size R2) at q2
 change (Builtin.copy_ #[23,23] 3 #[.slice (some ⟨W.heap.size,(k + 1) * 4,none⟩) (n + 1 - (k + 1)) (G - (k + 1)),.slice (some ⟨g,k * 4,none⟩) (n - k) (cap - k)]).run Tryz.prog ((W.drew.alloc (.cells R1 74)).setRow W.heap.size R2).drew = .ok (.int .i64 ((l.length - k : Nat) : Int)) (((W.drew.alloc (.cells R1 74)).setRow W.heap.size R2).drew.setRow W.heap.size R3) at q3
 have e1 : ((k : Int) == (n : Int)) = false := by rw [beq_eq_false_iff_ne]; omega
 have e2 : decide ((cap : Int) < (n : Int) + 1) = true := by simp; omega
 have hGn : n + 1 ≤ G := by omega
 clear hn
 generalize W.heap.size = N at *
 generalize W.drew.alloc (.cells R1 74) = W1 at *
 generalize W1.setRow N R2 = W2 at *
 go_enter Tryz.func144,Tryz.ntmps144
 go_wp2_with (first | (at_builtin; refine wpList_append_run2 rfl _ _ 23 3 rfl rfl rfl a1 ?_) | (at_builtin; refine wpList_copy_run rfl _ _ 23 rfl rfl rfl q2 ?_) | fail)
 clear a1 q2 s0 s1 s2 s3
 have hw1 : IntKind.i64.wrap ((k : Int) + 1) = (k : Int) + 1 := by rw [IntKind.wrap_i64]; omega
 have hb1 : (0 : Int) ≤ (k : Int) + 1 := by omega
 have hb0 : (k : Int) + 1 ≤ (n : Int) + 1 := by omega
 have htn : ((k : Int) + 1).toNat = k + 1 := by omega
 have hb2 : ¬ (G = k + 1) := by omega
 have hb3 : (k : Int) ≤ (n : Int) := by omega
 have hb4 : ¬ (cap = k) := by omega
 have h81 : n + 1 - (k + 1) = n - k := by omega
 rw [h81] at q3
 clear h81
 go_region_law (refine step_copy_run rfl (.tmp 50) (.tmp 53) 23 rfl (v := .slice (some ⟨N,(k + 1) * 4,none⟩) (n - k) (G - (k + 1))) (xv := .slice (some ⟨g,k * 4,none⟩) (n - k) (cap - k)) (by simp [Act.eval,Act.put]) (by simp [Act.eval,Act.put]) q3 ?_)
 all_goals simp only [Exit.then]
 all_goals apply_assumption
 go_wp2
 go_ret
 exact Q.out
theorem insert_anyD (B : Nat) (v : Value) (l : List XAd) (k : Nat) (c : XAd) (b : Nat) (W : World) (ho : OwnD W B v l) (hx : Box W b (cellsD c).toArray 74) (hne : v.ownBlock ≠ some b) (hk : k ≤ l.length) (hl : l.length ≤ 900) (hB : B ≤ W.heap.size) :
  Calls Tryz.prog 144 #[v,.int .i64 k,.slice (some ⟨b,0,none⟩) 1 1] W (InsQD B l k c v W) := by
 rcases Nat.lt_or_ge k l.length with h | h
 ·rcases own_open ho with ⟨_,h2⟩ | ⟨g,cap,cur,rfl,h1,h2,h3,h4,h5,h6⟩
  ·rw [h2] at h; simp at h
  ·rcases Nat.lt_or_ge cap (l.length + 1) with h7 | h7
   ·exact insert_growD B g _ cap cur l k c b W rfl h2 h4 h3 h6 hx h h7 hl hB
   ·exact insert_shiftD B g _ cap cur l k c b W rfl h1 h2 h4 h5 h6 hx (fun e => hne (by simp [Value.ownBlock,e])) h h7 hl
 ·obtain rfl : k = l.length := by omega
  exact insert_endD B v l c b W ho hx hl hB
end Go.Proofs.YtmklifheakemeaaGreat.Av
namespace Go.Proofs.YtmklifheakemeaaGreat.Rl
open Go.RowKit Pu Rw Pr Va
theorem all_more {α : Type} (f : α → Bool) (l : List α) (k : Nat) (y : α) (h : l[k]? = some y) : (l.take (k + 1)).all f = ((l.take k).all f && f y) := by
 rw [List.take_add_one,h,List.all_append]
 simp
theorem all_not {α : Type} (f : α → Bool) (l : List α) (k : Nat) (y : α) (h : l[k]? = some y) (hf : f y = false) : l.all f = false := by
 rw [List.all_eq_false]
 exact ⟨y,List.mem_of_getElem? h,by simp [hf]⟩
end Go.Proofs.YtmklifheakemeaaGreat.Rl
namespace Go.Proofs.YtmklifheakemeaaGreat.Bk
open Go.RowKit Rw YtmklifheakemeaaGreat.Nm Pr
end Go.Proofs.YtmklifheakemeaaGreat.Bk
namespace Go.Proofs.YtmklifheakemeaaGreat.At
open Go.RowKit Go.Sort Va In
end Go.Proofs.YtmklifheakemeaaGreat.At
namespace Go.Proofs.YtmklifheakemeaaGreat.Pr
open Go.RowKit Go.ChangeShapes Go.WideShapes In
end Go.Proofs.YtmklifheakemeaaGreat.Pr
