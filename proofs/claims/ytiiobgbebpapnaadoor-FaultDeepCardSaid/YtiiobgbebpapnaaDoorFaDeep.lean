/-
  The law FaultDeep answers true at every depth, kind and op. Condition: package errors' variable holds the handle of the type 'error'; the depth and the kind are numbers of 64 bits.
-/
import Derived.Test.YtiiobgbebpapnaaDoorFaRuns
import Derived.Test.YtiiobgbebpapnaaDoorFaJoin2
namespace Go.Proofs.YtiiobgbebpapnaaDoor.Fa
open Go.RowKit Go.Extern.Stop Go.Stop Go.Extern

/-- The chain that the law builds: faults at the blocks bs, all of one op, each at the place that counts what it wraps. -/
def dc (o : ByteArray) : List Nat → List (Nat × ByteArray × Int)
  | [] => []
  | b :: r => (b, o, (r.length : Int)) :: dc o r
theorem dc_len (o : ByteArray) (bs : List Nat) : (dc o bs).length = bs.length := by
  induction bs with
  | nil => rfl
  | cons b r ih => simp [dc, ih]
theorem dc_blk (o : ByteArray) (bs : List Nat) : blk (dc o bs) = bs := by
  induction bs with
  | nil => rfl
  | cons b r ih => simp only [dc, blk, List.map_cons] at ih ⊢; rw [ih]
theorem dc_ops (o : ByteArray) (bs : List Nat) : ∀ x ∈ dc o bs, x.2.1 = o := by
  induction bs with
  | nil => intro x hx; cases hx
  | cons b r ih => intro x hx; rcases List.mem_cons.1 hx with e | e; exact (by subst e; rfl); exact ih x e
theorem dc_falls {o : ByteArray} {bs : List Nat} {n : Nat} (h : Falls (dc o bs)) (hn : ∀ x ∈ dc o bs, x.1 < n) : Falls (dc o (n :: bs)) :=
  List.Pairwise.cons (fun x hx => hn x hx) h
/-- The counter of the way back. -/
def ix : List Nat → Int | [] => -1 | _ :: r => (r.length : Int)
theorem ix_nil : ix [] = -1 := rfl
theorem ix_cons (b : Nat) (r : List Nat) : ix (b :: r) = (r.length : Int) := rfl
theorem ix_sub (r : List Nat) : ix r = (r.length : Int) - 1 := by cases r <;> simp [ix]

/-- Place of the chain: one less than its length. -/
theorem Place_dc (o : ByteArray) (bs : List Nat) (M : Nat) (hM : bs.length = M) (v : Value) (k : Int) (w : World) (hg : EG w) (hc : Ch w (dc o bs) v (.iface 25 (.int .i64 k))) :
    Calls Tryd.prog 11 #[v] w fun e w' => e = .returned (.int .i64 ((M : Int) - 1)) ∧ Below w.heap.size w w' := by
  cases bs with
  | nil =>
    cases hc
    have h := Place_E k w hg
    subst hM
    exact h
  | cons b r =>
    obtain ⟨rfl, v', hb, _⟩ := hc
    have h := Place_F b o _ v' w hg hb
    have e : (r.length : Int) = (M : Int) - 1 := by subst hM; simp
    rw [e] at h
    exact h
structure DRel1 (w : World) (o : ByteArray) (k : Int) (M n : Nat) (v i : Value) (wr : World) (bs : List Nat) : Prop where
  left : n = M - bs.length
  le : bs.length ≤ M
  ix : i = .int .i64 (bs.length : Int)
  ch : Ch wr (dc o bs) v (.iface 25 (.int .i64 k))
  falls : Falls (dc o bs)
  bel : Below w.heap.size w wr
structure DRel2 (W : World) (o : ByteArray) (k : Int) (bs : List Nat) (n : Nat) (v i : Value) (wr : World) (done todo : List Nat) : Prop where
  left : n = todo.length
  all : bs = done ++ todo
  ix : i = .int .i64 (ix todo)
  ch : Ch wr (dc o todo) v (.iface 25 (.int .i64 k))
  bel : Below W.heap.size W wr

/-- The world behind the law's errors.New, its fault within, and the list of both. -/
def dW3 (V : World) (k : Int) : World :=
  ((V.alloc (.cells #[.string ⟨#[120]⟩] 72)).alloc (.cells #[.string ⟨#[105, 110]⟩, .int .i64 5, .iface 25 (.int .i64 k)] 42)).alloc (.cells #[.iface 70 (ptr V.heap.size), .iface 38 (ptr (V.heap.size + 1))] 23)
theorem dW3_facts (V : World) (k : Int) :
    Below V.heap.size V (dW3 V k) ∧ (dW3 V k).heap.size = V.heap.size + 3 ∧ (dW3 V k).cell? ⟨V.heap.size + 1 + 1, 0, none⟩ = some (.iface 70 (ptr V.heap.size)) ∧ (dW3 V k).cell? ⟨V.heap.size + 1 + 1, 1, none⟩ = some (.iface 38 (ptr (V.heap.size + 1))) ∧
    Ch (dW3 V k) [(V.heap.size + 1, ⟨#[105, 110]⟩, 5)] (.iface 38 (ptr (V.heap.size + 1))) (.iface 25 (.int .i64 k)) := by
  have hl : (dW3 V k).heap[V.heap.size + 1 + 1]? = some (.cells #[.iface 70 (ptr V.heap.size), .iface 38 (ptr (V.heap.size + 1))] 23 (0, 0)) := by
    have h := heap_alloc_last ((V.alloc (.cells #[.string ⟨#[120]⟩] 72)).alloc (.cells #[.string ⟨#[105, 110]⟩, .int .i64 5, .iface 25 (.int .i64 k)] 42)) (.cells #[.iface 70 (ptr V.heap.size), .iface 38 (ptr (V.heap.size + 1))] 23)
    simp only [World.size_alloc] at h
    exact h
  refine ⟨(((Below.refl _ _).alloc (Nat.le_refl _) _).alloc (by simp) _).alloc (by simp; omega) _, by simp [dW3], by simp [cell_of_heap hl], by simp [cell_of_heap hl], ?_⟩
  have h := Ch.new (w := V.alloc (.cells #[.string ⟨#[120]⟩] 72)) (l := []) (v := .iface 25 (.int .i64 k)) rfl ⟨#[105, 110]⟩ 5
  rw [World.size_alloc] at h
  exact h.bel ((Below.refl _ _).alloc (Nat.le_refl _) _)

set_option maxRecDepth 100000 in
set_option maxHeartbeats 8000000 in
theorem deep_any (n kind : Int) (op : ByteArray) (w : World) (hg : EG w) (h1 : -9223372036854775808 ≤ n) (h2 : n ≤ 9223372036854775807) (h3 : -9223372036854775808 ≤ kind) (h4 : kind ≤ 9223372036854775807) (hop : op.size ≤ maxLen) :
    Calls Tryd.prog 6 #[.int .i64 n, .int .i64 kind, .string op] w fun e w' => e = .returned (.bool true) ∧ Below w.heap.size w w' := by
  have W0 := Lib.hid (within_any kind 1 8 w (by omega) (by omega) (by omega) h3 h4)
  have W1 := within_any n 0 40 w (by omega) (by omega) (by omega) h1 h2
  have hm := within_bd n 0 40 (by omega)
  clear h1 h2 h3 h4
  generalize within kind 1 8 = k at W0
  obtain ⟨M, hM⟩ : ∃ M : Nat, within n 0 40 = M := ⟨(within n 0 40).toNat, by omega⟩
  rw [hM] at W1 hm
  have hM40 : M ≤ 40 := by omega
  have HW1 := Lib.hid W1
  have HG := Lib.hid hg
  clear hg hm hM W1
  unfold maxLen at hop
  go_enter Tryd.func6, Tryd.ntmps6
  go_wp2_with fail
  refine W0.out.mono ?_
  rintro e0 w0 ⟨rfl, rfl⟩
  go_wp2_with fail
  refine HW1.out.mono ?_
  rintro e0 w0 ⟨rfl, rfl⟩
  go_wp2
  generalize op.extract 0 (min (op.size : Int) 5).toNat = o5
  clear W0 HW1
  go_loopg [9, 29] M (fun n v i wr => ∃ bs, DRel1 w o5 k M n v i wr bs)
  case atStart => exact ⟨[], ⟨rfl, Nat.zero_le _, rfl, rfl, List.Pairwise.nil, Below.refl _ _⟩⟩
  case round =>
    obtain ⟨bs, hR⟩ := hrel
    obtain ⟨h1, h2, rfl, h4, h5, h6⟩ := hR
    obtain ⟨tx, x, rfl⟩ := h4.isIface ⟨_, _, rfl⟩
    have H1 := Lib.hid h1
    have H4 := Lib.hid h4
    have H5 := Lib.hid h5
    have H6 := Lib.hid h6
    clear h1 h4 h5 h6
    by_cases hlt : bs.length < M
    · go_wp2_with fail
      refine (New_some _ _ _ _ _).mono ?_
      rintro e1 w1 ⟨rfl, rfl⟩
      go_wp2
      go_roundg (M - (bs.length + 1))
      case measure => have := H1.out; omega
      case rel =>
        refine ⟨wr.heap.size :: bs, ⟨rfl, hlt, by simp, Ch.new H4.out o5 _, dc_falls H5.out H4.out.lt, H6.out.alloc H6.out.size _⟩⟩
    · have hMe : bs.length = M := by omega
      have ME := Lib.hid hMe
      have hg := HG.out.bel H6.out
      have T1 := Lib.hid (Trace_E _ _ k wr hg H4.out H5.out (by rw [dc_len]; omega))
      clear hMe H1 hg
      go_wp2_with fail
      refine T1.out.mono ?_
      rintro e2 w2 ⟨s, rfl, hown, hb2⟩
      have B2 := Lib.hid (H6.out.trans (hb2.mono H6.out.size))
      have C2 := Lib.hid (H4.out.bel hb2)
      have hown' : w2.ownsRow wr.heap.size 9 1 s M (opc (dc o5 bs)) := by rw [← ME.out, ← dc_len o5 bs]; exact hown
      have hs : ∃ a cap, s = .slice a M cap ∧ (∀ j < M, ∃ g, a = some ⟨g, 0, none⟩ ∧ w2.cell? ⟨g, j, none⟩ = some (.string o5)) := by
        rcases hown'.2 with ⟨h, h0⟩ | ⟨g, cap, cur, h, _⟩
        · exact ⟨none, 0, by rw [h, h0], fun j hj => by omega⟩
        · refine ⟨some ⟨g, 0, none⟩, cap, h, fun j hj => ⟨g, rfl, ?_⟩⟩
          rw [h] at hown'
          rw [hown'.cellAt j (by omega)]
          have hj2 : j < (dc o5 bs).length := by rw [dc_len, ME.out]; exact hj
          simp only [opc, List.getElem?_map, List.getElem?_eq_getElem hj2, Option.map_some]
          rw [dc_ops o5 bs _ (List.getElem_mem hj2)]
      obtain ⟨sa, cap, hs, hsc⟩ := hs
      have SC := Lib.hid hsc
      have K2 := Lib.hid (Kind_E _ _ k w2 (HG.out.bel B2.out) C2.out H5.out (by rw [dc_len]; have := ME.out; omega))
      rw [hs]
      clear hs hown hown' hb2 hsc T1
      go_wp2_with fail
      refine K2.out.mono ?_
      rintro e3 w3 ⟨rfl, hb3⟩
      have B3 := Lib.hid (B2.out.trans (hb3.mono B2.out.size))
      have C3 := Lib.hid (C2.out.bel hb3)
      have BB3 := Lib.hid hb3
      have P3 := Lib.hid (Place_dc o5 bs M ME.out _ k w3 (HG.out.bel B3.out) (C2.out.bel hb3))
      clear hb3 K2
      go_wp2_with fail
      refine P3.out.mono ?_
      rintro e4 w4 ⟨rfl, hb4⟩
      have B4 := Lib.hid (B3.out.trans (hb4.mono B3.out.size))
      have C4 := Lib.hid (C3.out.bel hb4)
      have BB4 := Lib.hid (BB3.out.trans (hb4.mono BB3.out.size))
      clear hb4 P3 C3 B3 BB3 C2
      have hix : (M : Int) - 1 = ix bs := by rw [ix_sub, ME.out]
      have IX := Lib.hid hix
      clear hix h2 hlt
      go_wp2
      go_loopg [9, 12] M (fun n v i wr => ∃ done todo, DRel2 w4 o5 k bs n v i wr done todo)
      case atStart => exact ⟨[], bs, ⟨ME.out.symm, rfl, by rw [IX.out], C4.out, Below.refl _ _⟩⟩
      case round =>
        obtain ⟨done, todo, hR⟩ := hrel
        cases todo with
        | nil =>
          obtain ⟨_, _, rfl, h4, h5⟩ := hR
          cases h4
          have B5 := Lib.hid (B4.out.trans (h5.mono B4.out.size))
          clear h5
          simp only [ix_nil]
          go_wp2_with fail
          have hg5 := HG.out.bel B5.out
          obtain ⟨d1, d2, d3, d4, d5⟩ := dW3_facts wr k
          have D1 := Lib.hid d1
          have D2 := Lib.hid d2
          have D3 := Lib.hid d3
          have D4 := Lib.hid d4
          have D5 := Lib.hid d5
          have G5 := Lib.hid hg5
          clear hg5 d1 d2 d3 d4 d5
          refine (ENew_any _ _).mono ?_
          rintro e6 w6 ⟨rfl, rfl⟩
          go_wp2_with fail
          refine (New_some _ _ _ _ _).mono ?_
          rintro e7 w7 ⟨rfl, rfl⟩
          rw [World.size_alloc]
          go_wp2_with fail
          have hW : (((wr.alloc (.cells #[.string ⟨#[120]⟩] 72)).alloc (.cells #[.string ⟨#[105, 110]⟩, .int .i64 5, .iface 25 (.int .i64 k)] 42)).alloc (.cells #[.iface 70 (ptr wr.heap.size), .iface 38 (ptr (wr.heap.size + 1))] 23)) = dW3 wr k := rfl
          rw [hW]
          clear hW
          generalize dW3 wr k = V3 at D1 D2 D3 D4 D5 ⊢
          refine (Join_any _ _ _ _ D3.out D4.out).mono ?_
          rintro e8 w8 ⟨rfl, rfl⟩
          have hj1 := joinW_below V3 wr.heap.size (wr.heap.size + 1)
          have hj2 := joinW_at V3 wr.heap.size (wr.heap.size + 1)
          have hj3 := D5.out.bel hj1
          have hj4 : wr.heap.size + 1 < V3.heap.size := by rw [D2.out]; omega
          have hj5 : V3.heap.size + 1 < (joinW V3 wr.heap.size (wr.heap.size + 1)).heap.size := lt_of_heap hj2.choose_spec.2
          generalize joinW V3 wr.heap.size (wr.heap.size + 1) = V4 at hj1 hj2 hj3 hj5 ⊢
          obtain ⟨c1, hc1⟩ : ∃ o : Obj, o = .cells #[.string ⟨#[111, 117, 116]⟩, .int .i64 6, .iface 74 (ptr (V3.heap.size + 1))] 42 := ⟨_, rfl⟩
          obtain ⟨c2, hc2⟩ : ∃ o : Obj, o = .cells #[.pointer none] 38 := ⟨_, rfl⟩
          have hb6 : Below V4.heap.size V4 ((V4.alloc c1).alloc c2) := ((Below.refl _ _).alloc (Nat.le_refl _) _).alloc (by simp) _
          have ho : Ch ((V4.alloc c1).alloc c2) [(V4.heap.size, ⟨#[111, 117, 116]⟩, 6)] (.iface 38 (ptr V4.heap.size)) (.iface 74 (ptr (V3.heap.size + 1))) := by
            have h := Ch.new (w := V4) (l := []) (v := .iface 74 (ptr (V3.heap.size + 1))) rfl ⟨#[111, 117, 116]⟩ 6
            rw [← hc1] at h
            exact h.bel ((Below.refl _ _).alloc (Nat.le_refl _) _)
          have hT : ((V4.alloc c1).alloc c2).heap[V4.heap.size + 1]? = some (.cells #[.pointer none] 38 (0, 0)) := by
            have h := heap_alloc_last (V4.alloc c1) c2
            rw [World.size_alloc] at h
            rw [h, hc2]
          have J6 := Lib.hid (hj2.bel hb6)
          have Q6 := Lib.hid (hj3.bel hb6)
          have O6 := Lib.hid ho
          have T6 := Lib.hid hT
          have B6 := Lib.hid (B5.out.trans ((D1.out.trans ((hj1.trans (hb6.mono hj1.size)).mono D1.out.size)).mono B5.out.size))
          have N6 := Lib.hid (show V4.heap.size + 1 < ((V4.alloc c1).alloc c2).heap.size by simp)
          have M6 := Lib.hid (show wr.heap.size + 1 < V4.heap.size by have := hj1.size; omega)
          have J4 := Lib.hid hj2
          have Q4 := Lib.hid hj3
          have B46 := Lib.hid hb6
          have E1 := Lib.hid hc1
          have E2 := Lib.hid hc2
          clear hj1 hj2 hj3 hj4 hj5 hc1 hc2 hb6 ho hT D1 D2 D3 D4 D5
          go_wp2_with fail
          refine (New_some _ _ _ _ _).mono ?_
          rintro e9 w9 ⟨rfl, rfl⟩
          rw [← E1.out]
          have q1 := eqE k k
          rw [beq_self_eq_true] at q1
          go_wp2_with fail
          rw [← E2.out]
          generalize (V4.alloc c1).alloc c2 = V6 at J6 Q6 O6 T6 B6 N6 B46 ⊢
          clear E1 E2
          -- it is what it wraps
          refine (Is_ChJ_E _ _ _ _ _ _ k V6 O6.out J6.out Q6.out).mono ?_
          rintro e10 w10 ⟨rfl, rfl⟩
          have AS := Lib.hid (As_PF 38 (ptr V4.heap.size) true (fun w1 w' => Upd (V4.heap.size + 1) (.cells #[ptr V4.heap.size] 38 (0, 0)) w1 w') (V4.heap.size + 1) V6 (HG.out.bel B6.out)
            (fun a w1 ha hb => as_F_hit _ a (V4.heap.size + 1) (.pointer none) w1 ha (by rw [hb.block _ N6.out]; exact T6.out)))
          -- the outermost fault
          go_wp2_with fail
          refine AS.out.mono ?_
          rintro e11 w11 ⟨rfl, wa, hba, hu⟩
          have hbel : Below (V4.heap.size + 1) V6 w11 := (hba.mono (Nat.le_of_lt N6.out)).trans (hu.below (Nat.le_refl _) (Nat.lt_of_lt_of_le N6.out hba.size))
          have ho : Ch w11 [(V4.heap.size, ⟨#[111, 117, 116]⟩, 6)] (.iface 38 (ptr V4.heap.size)) (.iface 74 (ptr (V3.heap.size + 1))) := O6.out.keep fun x hx => by
            simp at hx; subst hx; exact hbel.block _ (Nat.lt_succ_self _)
          have hb411 : Below V4.heap.size V4 w11 := B46.out.trans (hbel.mono (Nat.le_succ _))
          have hw11 : Below w.heap.size w w11 := by
            have h := B6.out
            have h2 : w.heap.size ≤ V4.heap.size + 1 := by have := B5.out.size; have := M6.out; omega
            exact h.trans (hbel.mono h2)
          have B11 := Lib.hid hw11
          have J11 := Lib.hid (J4.out.bel hb411)
          have Q11 := Lib.hid (Q4.out.bel hb411)
          have O11 := Lib.hid ho
          obtain ⟨_, v', hv, _⟩ := ho
          have f0 : w11.cell? ⟨V4.heap.size + 1, 0, none⟩ = some (ptr V4.heap.size) := by simp [cell_of_heap hu.there]
          have f1 : w11.cell? ⟨V4.heap.size, 1, none⟩ = some (.int .i64 6) := by simp [cell_of_heap hv]
          have P11 := Lib.hid (Place_F _ _ _ _ w11 (HG.out.bel B11.out) hv)
          clear hba hu hbel hb411 hw11 hv AS J6 Q6 O6 T6 N6 B46 J4 Q4
          go_wp2_with fail
          clear f0 f1
          refine P11.out.mono ?_
          rintro e12 w12 ⟨rfl, hb12⟩
          have B12 := Lib.hid (B11.out.trans (hb12.mono B11.out.size))
          have K12 := Lib.hid (Kind_J _ [] _ _ _ _ _ _ k w12 (HG.out.bel B12.out) (O11.out.bel hb12) (J11.out.bel hb12) (Q11.out.bel hb12) (by have := M6.out; simp; omega) (by simp))
          clear hb12 P11
          go_wp2_with fail
          refine K12.out.mono ?_
          rintro e13 w13 ⟨rfl, hb13⟩
          have B13 := Lib.hid (B12.out.trans (hb13.mono B12.out.size))
          have R13 := Lib.hid (runs_any w13 (HG.out.bel B13.out))
          clear hb13 K12
          go_wp2_with fail
          refine R13.out.mono ?_
          rintro e14 w14 ⟨rfl, hb14⟩
          have B14 := Lib.hid (B13.out.trans (hb14.mono B13.out.size))
          clear hb14 R13
          go_wp2
          go_ret
          exact ⟨rfl, B14.out⟩
        | cons b r =>
          obtain ⟨h1, h2, rfl, ⟨rfl, v', hb, hr⟩, h5⟩ := hR
          have hM : done.length + 1 + r.length = M := by rw [← ME.out, h2]; simp; omega
          have hE : (M : Int) - 1 - (r.length : Int) = (done.length : Int) := by omega
          have hdl : done.length < M := by omega
          have hrl : r.length ≤ 40 := by omega
          obtain ⟨g, rfl, hcg⟩ := SC.out done.length hdl
          obtain ⟨c, hc⟩ : ∃ o : Obj, o = .cells #[.pointer none] 38 := ⟨_, rfl⟩
          have hb1 : Below wr.heap.size wr (wr.alloc c) := (Below.refl _ _).alloc (Nat.le_refl _) _
          have hgr : EG (wr.alloc c) := ((HG.out.bel B4.out).bel h5).bel hb1
          have AS := Lib.hid (As_PF 38 (ptr b) true (fun w1 w' => Upd wr.heap.size (.cells #[ptr b] 38 (0, 0)) w1 w') wr.heap.size (wr.alloc c) hgr
            (fun a w1 ha hb => as_F_hit _ a wr.heap.size (.pointer none) w1 ha (by rw [hb.block _ (by simp), heap_alloc_last, hc])))
          have H1 := Lib.hid (show gk = r.length + 1 from h1)
          have H2 := Lib.hid h2
          have HB := Lib.hid hb
          have HR := Lib.hid hr
          have H5' := Lib.hid h5
          have CG := Lib.hid hcg
          have E1 := Lib.hid hc
          have HE := Lib.hid hE
          clear h1 h2 hb hr h5 hM hcg hc hb1 hgr hE
          simp only [ix_cons]
          go_wp2_with fail
          rw [← E1.out]
          refine AS.out.mono ?_
          rintro e6 w6 ⟨rfl, wa, hba, hu⟩
          have hbel : Below wr.heap.size wr w6 := (((Below.refl _ _).alloc (Nat.le_refl _) _).trans (hba.mono (by simp))).trans (hu.below (Nat.le_refl _) (by have := hba.size; simp at this; omega))
          have f0 : w6.cell? ⟨wr.heap.size, 0, none⟩ = some (ptr b) := by simp [cell_of_heap hu.there]
          have f1 : w6.cell? ⟨b, 1, none⟩ = some (.int .i64 (r.length : Int)) := by rw [hbel.cell (p := ⟨b, 1, none⟩) (lt_of_heap HB.out)]; simp [cell_of_heap HB.out]
          have f2 : w6.cell? ⟨g, done.length, none⟩ = some (.string o5) := by
            have e2 := lt_of_cell CG.out
            rw [hbel.cell (p := ⟨g, done.length, none⟩) (by have := BB4.out.size; have := H5'.out.size; show g < _; omega), H5'.out.cell (p := ⟨g, done.length, none⟩) (by have := BB4.out.size; show g < _; omega), BB4.out.cell (p := ⟨g, done.length, none⟩) e2]
            exact CG.out
          have B6 := Lib.hid hbel
          have hE := HE.out
          have HB6 := Lib.hid (show w6.heap[b]? = some (.cells #[.string o5, .int .i64 (r.length : Int), v'] 42 (0, 0)) by rw [hbel.block _ (lt_of_heap HB.out)]; exact HB.out)
          have HR6 := Lib.hid (HR.out.bel hbel)
          have B6' := Lib.hid (H5'.out.trans (hbel.mono H5'.out.size))
          clear hba hu hbel
          go_wp2_with fail
          refine (unwrap_any b o5 _ v' _ HB6.out).mono ?_
          rintro e7 w7 ⟨rfl, rfl⟩
          clear hE f1 f2
          go_wp2
          go_roundg r.length
          case measure => have := H1.out; omega
          case rel => exact ⟨done ++ [b], r, ⟨rfl, by rw [H2.out]; simp, by rw [ix_sub], HR6.out, B6'.out⟩⟩
end Go.Proofs.YtiiobgbebpapnaaDoor.Fa
