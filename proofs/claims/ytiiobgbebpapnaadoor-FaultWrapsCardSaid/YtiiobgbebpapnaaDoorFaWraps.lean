/-
  The law FaultWraps answers true at every op, place and kind. Condition: package errors' variable holds the handle of the type 'error'; the place and the kind are numbers of 64 bits.
-/
import Derived.Test.YtiiobgbebpapnaaDoorFaRuns
import Derived.Test.YtiiobgbebpapnaaDoorFaMore
namespace Go.Proofs.YtiiobgbebpapnaaDoor.Fa
open Go.RowKit Go.Extern.Stop Go.Stop Go.Extern

/-- The world behind the law's four new errors. -/
def wrapsW (w3 : World) (b : Nat) (at_ : Int) : World :=
  (((w3.alloc (.cells #[.string ⟨#[111, 116, 104, 101, 114]⟩] 72)).alloc (.cells #[.string ⟨#[120]⟩, .int .i64 at_, .iface 70 (ptr w3.heap.size)] 42)).alloc (.cells #[.string ⟨#[122]⟩, .int .i64 1, .iface 38 (ptr b)] 42)).alloc (.cells #[.string ⟨#[121]⟩, .int .i64 0, .iface 38 (ptr (w3.heap.size + 1 + 1))] 42)
theorem wrapsW_facts (w3 : World) (b : Nat) (op : ByteArray) (at_ : Int) (u : Value) (hc : Ch w3 [(b, op, at_)] (.iface 38 (ptr b)) u) (hg : EG w3) :
    Below w3.heap.size w3 (wrapsW w3 b at_) ∧ EG (wrapsW w3 b at_) ∧ Ch (wrapsW w3 b at_) [(w3.heap.size + 1, ⟨#[120]⟩, at_)] (.iface 38 (ptr (w3.heap.size + 1))) (.iface 70 (ptr w3.heap.size)) ∧
    Ch (wrapsW w3 b at_) [(w3.heap.size + 1 + 1 + 1, ⟨#[121]⟩, 0), (w3.heap.size + 1 + 1, ⟨#[122]⟩, 1)] (.iface 38 (ptr (w3.heap.size + 1 + 1 + 1))) (.iface 38 (ptr b)) ∧ Ch (wrapsW w3 b at_) [(b, op, at_)] (.iface 38 (ptr b)) u := by
  have hb : Below w3.heap.size w3 (wrapsW w3 b at_) := ((((Below.refl _ _).alloc (Nat.le_refl _) _).alloc (by simp) _).alloc (by simp; omega) _).alloc (by simp; omega) _
  refine ⟨hb, hg.bel hb, ?_, ?_, hc.bel hb⟩
  · have h := Ch.new (w := w3.alloc (.cells #[.string ⟨#[111, 116, 104, 101, 114]⟩] 72)) (l := []) (v := .iface 70 (ptr w3.heap.size)) rfl ⟨#[120]⟩ at_
    rw [World.size_alloc] at h
    exact h.bel (((Below.refl _ _).alloc (Nat.le_refl _) _).alloc (by simp) _)
  · have h1 := Ch.new (w := (w3.alloc (.cells #[.string ⟨#[111, 116, 104, 101, 114]⟩] 72)).alloc (.cells #[.string ⟨#[120]⟩, .int .i64 at_, .iface 70 (ptr w3.heap.size)] 42)) (l := []) (v := .iface 38 (ptr b)) rfl ⟨#[122]⟩ 1
    have h2 := Ch.new h1 ⟨#[121]⟩ 0
    simp only [World.size_alloc] at h2
    exact h2

set_option maxRecDepth 100000 in
set_option maxHeartbeats 8000000 in
theorem wraps_any (op : ByteArray) (at_ kind : Int) (w : World) (hg : EG w) (h1 : -9223372036854775808 ≤ kind) (h2 : kind ≤ 9223372036854775807) :
    Calls Tryd.prog 5 #[.string op, .int .i64 at_, .int .i64 kind] w fun e w' => e = .returned (.bool true) ∧ Below w.heap.size w w' := by
  have W0 := Lib.hid (within_any kind 1 8 w (by omega) (by omega) (by omega) h1 h2)
  clear h1 h2
  generalize within kind 1 8 = k at W0
  obtain ⟨c1, hc1⟩ : ∃ o : Obj, o = .cells #[.string op, .int .i64 at_, .iface 25 (.int .i64 k)] 42 := ⟨_, rfl⟩
  obtain ⟨c2, hc2⟩ : ∃ o : Obj, o = .cells #[.pointer none] 38 := ⟨_, rfl⟩
  have hch1 : Ch (w.alloc c1) [(w.heap.size, op, at_)] (.iface 38 (ptr w.heap.size)) (.iface 25 (.int .i64 k)) := by
    rw [hc1]; exact Ch.new (l := []) rfl op at_
  have hch2 := hch1.bel ((Below.refl _ _).alloc (Nat.le_refl _) c2)
  have hg2 : EG ((w.alloc c1).alloc c2) := (hg.alloc _).alloc _
  have hT : ((w.alloc c1).alloc c2).heap[w.heap.size + 1]? = some (.cells #[.pointer none] 38 (0, 0)) := by
    have h := heap_alloc_last (w.alloc c1) c2
    rw [World.size_alloc] at h
    rw [h, hc2]
  have AS := Lib.hid (As_PF 38 (ptr w.heap.size) true (fun w1 w' => Upd (w.heap.size + 1) (.cells #[ptr w.heap.size] 38 (0, 0)) w1 w') (w.heap.size + 1) ((w.alloc c1).alloc c2) hg2
    (fun a w1 ha hb => as_F_hit _ a (w.heap.size + 1) (.pointer none) w1 ha (by rw [hb.block _ (by simp)]; exact hT)))
  have hb2 : Below w.heap.size w ((w.alloc c1).alloc c2) := ((Below.refl _ _).alloc (Nat.le_refl _) _).alloc (by simp) _
  have hsz : w.heap.size + 1 < ((w.alloc c1).alloc c2).heap.size := by simp
  have hgp := hg.pos
  have HZ := Lib.hid hsz
  have GP := Lib.hid hgp
  have B2 := Lib.hid hb2
  have HC := Lib.hid hch2
  have HG := Lib.hid hg2
  have E1 := Lib.hid hc1
  have E2 := Lib.hid hc2
  clear hg hc1 hc2 hch1 hch2 hg2 hT hb2 hsz hgp
  have q := neqE
  have q0 : (k == k) = true := by simp
  have hn := @run_eql_nil_nil
  go_enter Tryd.func5, Tryd.ntmps5
  go_wp2_with fail
  refine W0.out.mono ?_
  rintro e0 w0 ⟨rfl, rfl⟩
  go_wp2_with fail
  refine (New_some _ _ _ _ _).mono ?_
  rintro e1 w1 ⟨rfl, rfl⟩
  rw [← E1.out]
  go_wp2_with fail
  rw [← E2.out]
  generalize (w.alloc c1).alloc c2 = W2 at HC HG B2 HZ AS ⊢
  clear E1 E2 W0
  -- errors.As finds it
  refine AS.out.mono ?_
  rintro e2 w3 ⟨rfl, wa, hba, hu⟩
  have hbel3 : Below (w.heap.size + 1) W2 w3 := (hba.mono (Nat.le_of_lt HZ.out)).trans (hu.below (Nat.le_refl _) (Nat.lt_of_lt_of_le HZ.out hba.size))
  have hg3 : EG w3 := HG.out.below hbel3 (Nat.lt_succ_of_lt GP.out)
  have hc3 : Ch w3 [(w.heap.size, op, at_)] (.iface 38 (ptr w.heap.size)) (.iface 25 (.int .i64 k)) := HC.out.keep fun x hx => by
    simp at hx; subst hx; exact hbel3.block _ (Nat.lt_succ_self _)
  obtain ⟨_, v', hv, hv'⟩ := id hc3
  have hv2 : v' = .iface 25 (.int .i64 k) := hv'
  subst hv2
  have f0 : w3.cell? ⟨w.heap.size + 1, 0, none⟩ = some (ptr w.heap.size) := by simp [cell_of_heap hu.there]
  have f1 : w3.cell? ⟨w.heap.size, 0, none⟩ = some (.string op) := by simp [cell_of_heap hv]
  have f2 : w3.cell? ⟨w.heap.size, 1, none⟩ = some (.int .i64 at_) := by simp [cell_of_heap hv]
  have B3 := Lib.hid (B2.out.trans (hbel3.mono (Nat.le_succ _)))
  have HV := Lib.hid hv
  have G3 := Lib.hid hg3
  have C3 := Lib.hid hc3
  clear hba hu hbel3 hg3 hc3 hv hv' AS HC HG B2 HZ
  go_wp2_with fail
  refine (Unw_F _ _ _ _ _ HV.out).mono ?_
  rintro e3 w4 ⟨rfl, rfl⟩
  -- errors.New, and three faults more
  go_wp2_with fail
  clear f0 f1 f2
  refine (ENew_any _ _).mono ?_
  rintro e4 w4 ⟨rfl, rfl⟩
  go_wp2_with fail
  refine (New_some _ _ _ _ _).mono ?_
  rintro e5 w5 ⟨rfl, rfl⟩
  go_wp2_with fail
  refine (New_some _ _ _ _ _).mono ?_
  rintro e6 w6 ⟨rfl, rfl⟩
  go_wp2_with fail
  refine (New_some _ _ _ _ _).mono ?_
  rintro e7 w7 ⟨rfl, rfl⟩
  simp only [World.size_alloc]
  have hW : (((w3.alloc (.cells #[.string ⟨#[111, 116, 104, 101, 114]⟩] 72)).alloc (.cells #[.string ⟨#[120]⟩, .int .i64 at_, .iface 70 (ptr w3.heap.size)] 42)).alloc (.cells #[.string ⟨#[122]⟩, .int .i64 1, .iface 38 (ptr w.heap.size)] 42)).alloc (.cells #[.string ⟨#[121]⟩, .int .i64 0, .iface 38 (ptr (w3.heap.size + 1 + 1))] 42) = wrapsW w3 w.heap.size at_ := rfl
  rw [hW]
  clear hW
  obtain ⟨hbW, hgW, hcg, hcb, hce⟩ := wrapsW_facts w3 w.heap.size op at_ _ C3.out G3.out
  generalize wrapsW w3 w.heap.size at_ = W at hbW hgW hcg hcb hce ⊢
  have hlt3 : w.heap.size < w3.heap.size := lt_of_heap HV.out
  have hboth := hcb.append hce
  have hne : ∀ x ∈ [(w3.heap.size + 1 + 1 + 1, (⟨#[121]⟩ : ByteArray), (0 : Int)), (w3.heap.size + 1 + 1, ⟨#[122]⟩, 1)], x.1 ≠ w.heap.size := by
    intro x hx; simp at hx; rcases hx with rfl | rfl <;> simp <;> omega
  have hfb : Falls ([(w3.heap.size + 1 + 1 + 1, (⟨#[121]⟩ : ByteArray), (0 : Int)), (w3.heap.size + 1 + 1, ⟨#[122]⟩, 1)] ++ [(w.heap.size, op, at_)]) := by
    unfold Falls; simp; omega
  have hfg : Falls [(w3.heap.size + 1, (⟨#[120]⟩ : ByteArray), at_)] := by unfold Falls; simp
  have hflt := hce.flt w.heap.size (by simp)
  have BW := Lib.hid hbW
  have GW := Lib.hid hgW
  have CG := Lib.hid hcg
  have CB := Lib.hid hcb
  have CA := Lib.hid hboth
  have NE := Lib.hid hne
  have FB := Lib.hid hfb
  have FL := Lib.hid hflt
  have K1 := Lib.hid (Kind_ES _ _ _ W hgW hcg hfg (by simp))
  clear hbW hgW hcg hcb hce hlt3 hboth hne hfb hfg hflt C3 G3 HV
  -- a fault of no errno
  go_wp2_with fail
  refine K1.out.mono ?_
  rintro e8 w8 ⟨rfl, hb8⟩
  have B8 := Lib.hid hb8
  have I8 := Lib.hid (Is_Ch_ES _ _ _ w8 (CG.out.bel hb8))
  clear hb8 K1
  go_wp2_with fail
  refine I8.out.mono ?_
  rintro e9 w9 ⟨rfl, rfl⟩
  obtain ⟨_, v9, hv9, _⟩ := CG.out.bel B8.out
  have P9 := Lib.hid (Place_F _ _ _ _ w8 (GW.out.bel B8.out) hv9)
  clear hv9 I8
  go_wp2_with fail
  refine P9.out.mono ?_
  rintro e10 w10 ⟨rfl, hb10⟩
  have B10 := Lib.hid (B8.out.trans (hb10.mono B8.out.size))
  clear hb10 P9 B8
  -- both
  have I10 := Lib.hid (Is_Ch_F _ _ _ w10 (CB.out.bel B10.out) (by obtain ⟨c, hc⟩ := FL.out; exact ⟨c, by rw [B10.out.block _ (lt_of_heap hc)]; exact hc⟩) NE.out)
  go_wp2_with fail
  refine I10.out.mono ?_
  rintro e11 w11 ⟨rfl, rfl⟩
  have K11 := Lib.hid (Kind_E _ _ k w10 (GW.out.bel B10.out) (CA.out.bel B10.out) FB.out (by simp))
  clear I10
  go_wp2_with fail
  refine K11.out.mono ?_
  rintro e12 w12 ⟨rfl, hb12⟩
  have B12 := Lib.hid (B10.out.trans (hb12.mono B10.out.size))
  have T12 := Lib.hid (Trace_E _ _ k w12 (GW.out.bel B12.out) (CA.out.bel B12.out) FB.out (by simp))
  clear hb12 K11 B10
  go_wp2_with fail
  refine T12.out.mono ?_
  rintro e13 w13 ⟨s, rfl, hown, hb13⟩
  have B13 := Lib.hid (B12.out.trans (hb13.mono B12.out.size))
  have hs : ∃ g cap, s = .slice (some ⟨g, 0, none⟩) 3 cap := row_form (n := 2) hown
  obtain ⟨g, cap, hs⟩ := hs
  rw [hs]
  clear hs hown hb13 T12 B12
  have K13 := Lib.hid (Kind_E [] (.iface 25 (.int .i64 k)) k w13 (GW.out.bel B13.out) rfl List.Pairwise.nil (by simp))
  -- an errno by itself
  go_wp2_with fail
  refine K13.out.mono ?_
  rintro e14 w14 ⟨rfl, hb14⟩
  have B14 := Lib.hid (B13.out.trans (hb14.mono B13.out.size))
  have P14 := Lib.hid (Place_E k w14 (GW.out.bel B14.out))
  clear hb14 K13 B13
  go_wp2_with fail
  refine P14.out.mono ?_
  rintro e15 w15 ⟨rfl, hb15⟩
  have B15 := Lib.hid (B14.out.trans (hb15.mono B14.out.size))
  have R15 := Lib.hid (runs_any w15 (GW.out.bel B15.out))
  clear hb15 P14 B14
  go_wp2_with fail
  refine R15.out.mono ?_
  rintro e16 w16 ⟨rfl, hb16⟩
  have B16 := Lib.hid (B3.out.trans ((BW.out.trans ((B15.out.trans (hb16.mono B15.out.size)).mono BW.out.size)).mono B3.out.size))
  clear hb16 R15
  go_wp2
  go_ret
  exact ⟨rfl, B16.out⟩
end Go.Proofs.YtiiobgbebpapnaaDoor.Fa
