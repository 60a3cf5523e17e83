/-
  The region of broadsidekeep.Broker that makes an ID. Conditions as told.
-/
import Derived.Test.YtncogjpmboglhaaGreatG023
import Derived.Test.YtncogjpmboglhaaGreatG030
import Derived.Test.YtncogjpmboglhaaGreatG006
import Derived.Test.YtncogjpmboglhaaGreatG017
import Derived.Test.YtncogjpmboglhaaGreatG028
set_option maxRecDepth 100000
set_option maxHeartbeats 64000000
namespace Go.Proofs.YtncogjpmboglhaaGreat.Av
open Go.RowKit Go.Sort Rw YtncogjpmboglhaaGreat.Nm Pr Bk
end Go.Proofs.YtncogjpmboglhaaGreat.Av
namespace Go.Proofs.YtncogjpmboglhaaGreat.Sb
open Go.RowKit Go.Sort Rw YtncogjpmboglhaaGreat.Nm Pr Bk Av Rl
abbrev tA (m : List En) (a : Ad) : Bool := a.par == -1 || tightR (brE m a.id)
theorem stight_any (b : Br) (nv av sv ev ov : Sl) (w : World) (h : BrIn w b nv av sv ev ov) (hr : RiseE b.ent) (hl : b.ent.length ≤ 1000) (hok : ∀ e ∈ b.ent,PredOk e.p) :
  Calls Tryz.prog 28 #[brv b.me nv av sv ev ov] w fun e w' => e = .returned (.bool (tightB b)) ∧ Below w.heap.size w w' := by
 obtain ⟨no,nn,nc⟩ := nv
 obtain ⟨ao,an,ac⟩ := av
 obtain ⟨so,sn,sc⟩ := sv
 obtain ⟨eo,en,ec⟩ := ev
 obtain ⟨oo,on_,oc⟩ := ov
 obtain ⟨la,ha1,ha2⟩ := h.adv
 obtain ⟨le,he1,he2⟩ := h.ent
 have h0 := newB w (.cells #[.int .i64 b.me,.slice no nn nc,.slice ao an ac,.slice so sn sc,.slice eo en ec,.slice oo on_ oc] 31)
 have X := box_new w #[.int .i64 b.me,.slice no nn nc,.slice ao an ac,.slice so sn sc,.slice eo en ec,.slice oo on_ oc] 31
 have B := Lib.hid h0
 have A1 := Lib.hid (ha1.on h0)
 have A2 := Lib.hid (ha2.mono fun _ _ q => q.on h0)
 have E1 := Lib.hid (he1.on h0)
 have E2 := Lib.hid (he2.mono fun _ _ q => q.on h0)
 have X1 := Lib.hid X
 have x2 := X.cell 2
 simp only [List.getElem?_toArray,List.getElem?_cons_zero,List.getElem?_cons_succ] at x2
 have hn := sl_len ha1
 have lm := ha1.most
 unfold maxLen at lm
 rw [hn] at lm
 have HN := Lib.hid hn
 have HR := Lib.hid hr
 have HL := Lib.hid (show le.length ≤ 1000 by rw [he2.len]; exact hl)
 have OK := Lib.hid hok
 obtain ⟨tb,htb⟩ : ∃ r,tightB b = r := ⟨_,rfl⟩
 rw [htb]
 have TB := Lib.hid htb
 clear h0 X ha1 ha2 he1 he2 h hn hr hl hok htb
 go_enter Tryz.func28,Tryz.ntmps28
 go_upto_region 1 with fail
 generalize w.alloc (.cells #[.int .i64 b.me,.slice no nn nc,.slice ao an ac,.slice so sn sc,.slice eo en ec,.slice oo on_ oc] 31) = W at *
 go_wp2
 go_loopw [8] (fun i wr => ∃ k : Nat,k ≤ an ∧ i = .int .i64 k ∧ Below W.heap.size W wr ∧ ∀ (j : Nat) (y : Ad),j < k → b.adv[j]? = some y → tA b.ent y = true) (fun i _ => an - (intOf i).toNat)
 case atStart => exact ⟨0,Nat.zero_le _,rfl,Below.refl _ _,fun j y h => by omega⟩
 case round =>
  obtain ⟨k,hk,rfl,hbe,hall⟩ := hrel
  have BE := Lib.hid hbe
  have AL := Lib.hid hall
  clear hbe hall
  by_cases hlt : k < an
  ·obtain ⟨y,hy⟩ : ∃ y,la[k]? = some y := ⟨_,List.getElem?_eq_getElem (by rw [HN.out]; exact hlt)⟩
   obtain ⟨q,ix,px⟩ := elD A1.out rfl HN.out hy
   obtain ⟨p0,p1,p2,p3⟩ := px wr BE.out
   obtain ⟨a,ha⟩ : ∃ a,b.adv[k]? = some a := ⟨_,List.getElem?_eq_getElem (by rw [← A2.out.len,HN.out]; exact hlt)⟩
   obtain ⟨y',hy',hx⟩ := A2.out.at k a ha
   rw [hy] at hy'
   obtain rfl := Option.some.inj hy'
   obtain ⟨y1,y2,⟨yo,yn,yc⟩,y4⟩ := y
   simp only at p0 p1 p2 p3
   have NB := Lib.hid (newB wr (.cells #[.int .i64 y1,.int .i64 y2,.slice yo yn yc,.int .i64 y4] 41))
   have BF := Lib.hid (BE.out.trans (NB.out.mono BE.out.size))
   have x4 := (X1.out.on BF.out).cell 4
   simp only [List.getElem?_toArray,List.getElem?_cons_zero,List.getElem?_cons_succ] at x4
   have hw3 : IntKind.i64.wrap ((k : Int) + 1) = (k : Int) + 1 := IntWalk.i64_in _ (by omega)
   have HA := Lib.hid ha
   have HX := Lib.hid (show ((y1,y2) : XID) = a.id ∧ y4 = a.par from ⟨hx.1,hx.2.1⟩)
   clear px hy ha hx x2
   by_cases hp : y4 = -1
   ·have hne : (y4 != -1) = false := by simp [hp]
    have HV := Lib.hid (show tA b.ent a = true by unfold tA; rw [← HX.out.2,hp]; rfl)
    clear hp
    go_wp2
    go_roundw
    case rel => exact ⟨k + 1,by omega,by go_num,BF.out,fun j y' hj h1 => by
     rcases Nat.lt_or_ge j k with h3 | h3
     ·exact AL.out j y' h3 h1
     ·obtain rfl : j = k := by omega
      have e1 := HA.out
      rw [h1] at e1
      rw [Option.some.inj e1]
      exact HV.out⟩
    case measure => simp [intOf]; omega
   ·have hne : (y4 != -1) = true := by simp [hp]
    obtain ⟨t,ht⟩ : ∃ r,tightR (brE b.ent (y1,y2)) = r := ⟨_,rfl⟩
    have HV := Lib.hid (show tA b.ent a = t by
     unfold tA
     rw [← HX.out.2,← HX.out.1,ht,show (y4 == -1) = false by simpa using hp,Bool.false_or])
    have BR := Lib.hid (branch_any (eo,en,ec) le b.ent (y1,y2) _ (E1.out.on BF.out) (E2.out.mono fun _ _ q => q.on BF.out) HR.out HL.out)
    obtain ⟨c1,c2⟩ := cut_in E1.out E2.out (y1,y2)
    have C1 := Lib.hid c1
    have C2 := Lib.hid c2
    generalize cutV (eo,en,ec) (fromT b.ent (y1,y2)) (brE b.ent (y1,y2)).length = z at *
    obtain ⟨z1,z2,z3⟩ := z
    have HT := Lib.hid ht
    clear hp c1 c2 ht
    go_wp2_with fail
    refine BR.out.mono ?_
    rintro e1 w1 ⟨rfl,hb⟩
    have BG := Lib.hid (BF.out.trans (hb.mono BF.out.size))
    have TC := Lib.hid (tight_any (z1,z2,z3) _ (brE b.ent (y1,y2)) w1 (C1.out.on BG.out) (C2.out.mono fun _ _ q => q.on BG.out) (fun e he => OK.out e (br_sub _ _ e he)))
    rw [HT.out] at TC
    clear hb BR x4 p0 p1 p2 p3 ix
    go_wp2_with fail
    refine TC.out.mono ?_
    rintro e2 w2 ⟨rfl,hb⟩
    have BH := Lib.hid (BG.out.trans (hb.mono BG.out.size))
    clear hb TC
    cases t
    ·have hd := Lib.hid (show tb = false by rw [← TB.out]; exact all_of (tA b.ent) HA.out HV.out)
     go_wp2
     go_ret
     exact ⟨by rw [hd.out]; rfl,B.out.trans (BH.out.mono B.out.size)⟩
    ·go_wp2
     go_roundw
     case rel => exact ⟨k + 1,by omega,by go_num,BH.out,fun j y' hj h1 => by
      rcases Nat.lt_or_ge j k with h3 | h3
      ·exact AL.out j y' h3 h1
      ·obtain rfl : j = k := by omega
       have e1 := HA.out
       rw [h1] at e1
       rw [Option.some.inj e1]
       exact HV.out⟩
     case measure => simp [intOf]; omega
  ·obtain rfl : an = k := by omega
   have hd := Lib.hid (show tb = true by rw [← TB.out]; exact all_at (tA b.ent) fun j y hj h => AL.out j y (by rw [← HN.out,A2.out.len]; exact hj) h)
   clear x2
   go_wp2
   go_ret
   exact ⟨by rw [hd.out]; rfl,B.out.trans (BE.out.mono B.out.size)⟩
end Go.Proofs.YtncogjpmboglhaaGreat.Sb
