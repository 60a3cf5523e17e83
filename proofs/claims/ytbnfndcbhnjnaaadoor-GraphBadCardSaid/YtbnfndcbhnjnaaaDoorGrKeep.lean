/-
  broadsidekeep's Graph: the graph that numbers make. Condition: numbers of 64 bits; lists no longer than a machine holds.
-/
import Derived.Test.YtbnfndcbhnjnaaaDoorGrR11
import Derived.Test.YtbnfndcbhnjnaaaDoorBc
namespace Go.Proofs.YtbnfndcbhnjnaaaDoor.Gr
open Go.RowKit Go.Proofs.YtbnfndcbhnjnaaaDoor Go.Proofs.YtbnfndcbhnjnaaaDoor.Rw Go.Proofs.YtbnfndcbhnjnaaaDoor.Kp Go.Proofs.YtbnfndcbhnjnaaaDoor.In Go.Proofs.YtbnfndcbhnjnaaaDoor.Wi

/-- The links behind the first k brokers but one. -/
def underL (us : List Int) : Nat → List Lk
  | 0 => []
  | k + 1 => putL (underL us k) ((k : Int) + 1) (within (pickZ us (k + 1)) 0 k)
/-- With k of the other links. -/
def moreL (s : List Lk) (n : Int) (ms : List Int) : Nat → List Lk
  | 0 => s
  | k + 1 => putL (moreL s n ms k) (within (ms.getD k 0) 0 (n - 1)) (within ((ms.getD k 0).tdiv 8) 0 (n - 1))
theorem under_len (us : List Int) : ∀ k, (underL us k).length ≤ k
  | 0 => Nat.le_refl _
  | k + 1 => by
    have := put_len (underL us k) ((k : Int) + 1) (within (pickZ us (k + 1)) 0 k)
    have := under_len us k
    simp only [underL]
    omega
theorem more_len (s : List Lk) (n : Int) (ms : List Int) : ∀ k, (moreL s n ms k).length ≤ s.length + k
  | 0 => Nat.le_refl _
  | k + 1 => by
    have := put_len (moreL s n ms k) (within (ms.getD k 0) 0 (n - 1)) (within ((ms.getD k 0).tdiv 8) 0 (n - 1))
    have := more_len s n ms k
    simp only [moreL]
    omega
/-- The graph that numbers make: its brokers, its links. -/
def brokersK (n : Int) : Int := within n 1 7
def linksK (n : Int) (us ms : List Int) : List Lk := moreL (underL us (brokersK n - 1).toNat) (brokersK n) ms (min ms.length 8)
theorem tdiv8 (y : Int) (h : -9223372036854775808 ≤ y ∧ y ≤ 9223372036854775807) : -9223372036854775808 ≤ y.tdiv 8 ∧ y.tdiv 8 ≤ 9223372036854775807 := by
  have e := Int.tdiv_eq_ediv (a := y) (b := 8)
  split at e
  · omega
  · have : Int.sign 8 = 1 := rfl
    omega
theorem GInv.drew {W : World} {B mb ib gb : Nat} {n : Int} {s : List Lk} (h : GInv W B mb ib gb n s) : GInv W.drew B mb ib gb n s := by
  obtain ⟨lv, hb, ho⟩ := h.gbox
  exact ⟨h.hi, h.ne, h.map.of_block rfl, h.ibox, lv, hb, own_on ho (Below.refl _ _).drew⟩
theorem NB {W : World} {b : Nat} {v : Value} {s : List Lk} (h : OwnK W (b + 2) v s) : v.ownBlock ≠ some (b + 1) := by
  intro e
  rcases own_open h with ⟨rfl, _⟩ | ⟨g, cap, cur, rfl, hB, _⟩
  · cases e
  · obtain rfl : g = b + 1 := by simpa [Value.ownBlock] using e
    omega
/-- The result's two cells, stored into. -/
theorem stored {W : World} {b : Nat} {n : Int} {u x : Value} {m : Int} (h : Box W b #[.int .i64 m, u] 25) : Box ((W.setCell ⟨b, 0, none⟩ (.int .i64 n)).setCell ⟨b, 1, none⟩ x) b #[.int .i64 n, x] 25 := by
  unfold Box at h ⊢
  have h1 := heap_setCell_same W b 0 #[.int .i64 m, u] 25 (.int .i64 n) h
  have h2 := heap_setCell_same _ b 1 _ 25 x h1
  rw [h2]
  rfl
/-- The memory behind Graph's first two blocks. -/
def W2 (w : World) (bn : Int) (uv mv : Value) : World := (w.alloc (.cells #[.int .i64 bn, uv, mv] 39)).alloc (.cells #[.int .i64 0, .slice none 0 0] 25)
theorem w2_cell (w : World) (bn : Int) (uv mv : Value) (k : Nat) (u : Value) (h : #[Value.int .i64 bn, uv, mv][k]? = some u) : (W2 w bn uv mv).cell? ⟨w.heap.size, k, none⟩ = some u := by
  have b := (box_new w #[.int .i64 bn, uv, mv] 39).more (.cells #[.int .i64 0, .slice none 0 0] 25)
  exact (b.cell k).trans h
theorem w2_below (w : World) (bn : Int) (uv mv : Value) : Below w.heap.size w (W2 w bn uv mv) := ((Below.refl _ _).alloc (Nat.le_refl _) _).alloc (by simp) _
theorem w2_size (w : World) (bn : Int) (uv mv : Value) : (W2 w bn uv mv).heap.size = w.heap.size + 2 := by unfold W2; simp
def W5 (w : World) (bn : Int) (uv mv : Value) (n : Int) : World := (((W2 w bn uv mv).alloc (.cells #[.int .i64 n, .slice none 0 0] 25)).alloc (.map #[] 0)).alloc (.cells #[.map (some (w.heap.size + 1 + 1 + 1))] 45)
theorem start_inv (w : World) (bn : Int) (uv mv : Value) (n : Int) : GInv (W5 w bn uv mv n) (w.heap.size + 2) (w.heap.size + 1 + 1 + 1) (w.heap.size + 1 + 1 + 1 + 1) (w.heap.size + 1 + 1) n [] := by
  have s2 := w2_size w bn uv mv
  unfold W5
  generalize W2 w bn uv mv = W at *
  have b1 := box_new W #[.int .i64 n, .slice none 0 0] 25
  rw [s2] at b1
  have m1 := inMap_made (W.alloc (.cells #[.int .i64 n, .slice none 0 0] 25))
  have e1 : (W.alloc (.cells #[.int .i64 n, .slice none 0 0] 25)).heap.size = w.heap.size + 1 + 1 + 1 := by simp [s2]
  rw [e1] at m1
  have i1 := box_new ((W.alloc (.cells #[.int .i64 n, .slice none 0 0] 25)).alloc (.map #[] 0)) #[.map (some (w.heap.size + 1 + 1 + 1))] 45
  have e2 : ((W.alloc (.cells #[.int .i64 n, .slice none 0 0] 25)).alloc (.map #[] 0)).heap.size = w.heap.size + 1 + 1 + 1 + 1 := by simp [s2]
  rw [e2] at i1
  exact ⟨⟨by omega, by omega, by omega⟩, by omega, m1.on ((Below.refl _ _).alloc (Nat.le_refl _) _), i1, _, (b1.more _).more _, own_nil _ _⟩
theorem start_below (w : World) (bn : Int) (uv mv : Value) (n : Int) : Below (w.heap.size + 2) (W2 w bn uv mv) (W5 w bn uv mv n) := by
  have s2 := w2_size w bn uv mv
  unfold W5
  exact (((Below.refl _ _).alloc (by omega) _).alloc (by simp; omega) _).alloc (by simp; omega) _
set_option maxRecDepth 100000 in
set_option maxHeartbeats 4000000 in
theorem graph_any (bn : Int) (uv mv : Value) (us ms : List Int) (w : World) (hb : -9223372036854775808 ≤ bn ∧ bn ≤ 9223372036854775807) (hu : InInts w uv us) (hm : InInts w mv ms) (lu : us.length ≤ maxLen) (lm : ms.length ≤ maxLen) :
    Calls Tryd.prog 17 #[.agg #[.int .i64 bn, uv, mv]] w fun e w' => ∃ v, e = .returned (.agg #[.int .i64 (brokersK bn), v]) ∧ OwnK w' w.heap.size v (linksK bn us ms) ∧ Below w.heap.size w w' := by
  have HU := Lib.hid hu
  have HM := Lib.hid hm
  have LU := Lib.hid lu
  have LM := Lib.hid lm
  have W1 := Lib.hid (fun W => Wi.within_any bn 1 7 W (by omega) (by omega) (by omega) hb.1 hb.2)
  have bd := Wi.within_bd bn 1 7 (by omega)
  rw [show within bn 1 7 = brokersK bn from rfl] at bd W1
  have LK := Lib.hid (show linksK bn us ms = moreL (underL us (brokersK bn - 1).toNat) (brokersK bn) ms (min ms.length 8) from rfl)
  generalize brokersK bn = n at *
  obtain ⟨ma, mc, rfl⟩ := hm.shape
  clear hu hm lu lm
  have hmm := @run_makeMap Tryd.prog
  go_enter Tryd.func17, Tryd.ntmps17
  go_wp2_with fail
  refine (W1.out _).mono ?_
  rintro e1 w1 ⟨rfl, rfl⟩
  go_wp2
  go_loopw [6] (fun i wr => ∃ k : Nat, (k : Int) + 1 ≤ n ∧ i = .int .i64 ((k + 1 : Nat) : Int) ∧ GInv wr (w.heap.size + 2) (w.heap.size + 1 + 1 + 1) (w.heap.size + 1 + 1 + 1 + 1) (w.heap.size + 1 + 1) n (underL us k) ∧ Below (w.heap.size + 2) (W2 w bn uv (.slice ma ms.length mc)) wr) (fun i _ => 7 - (intOf i).toNat)
  case atStart => exact ⟨0, by omega, rfl, start_inv w bn uv (.slice ma ms.length mc) n, start_below w bn uv (.slice ma ms.length mc) n⟩
  case round =>
    obtain ⟨k, hk, rfl, hg, hbe⟩ := hrel
    have G := Lib.hid hg
    have BE := Lib.hid hbe
    have k0 : wr.cell? ⟨w.heap.size, 1, none⟩ = some uv := (hbe.cell (p := ⟨w.heap.size, 1, none⟩) (by simp)).trans (w2_cell w bn uv (.slice ma ms.length mc) 1 uv rfl)
    obtain ⟨lv, hgb, hgo⟩ := hg.gbox
    have k1 := hgb.cell 0
    simp only [List.getElem?_toArray, List.getElem?_cons_zero] at k1
    have GB := Lib.hid hgb
    clear hg hbe hgb hgo
    by_cases hlt : (k : Int) + 1 < n
    · have BW := Lib.hid ((w2_below w bn uv (.slice ma ms.length mc)).trans (BE.out.mono (by omega)))
      have PK := Lib.hid (pick_any uv us (k + 1) wr (HU.out.on BW.out) LU.out (by omega))
      have bz := pickZ_bd HU.out (k + 1)
      have WI := Lib.hid (within_any (pickZ us (k + 1)) 0 k wr (by omega) (by omega) (by omega) bz.1 bz.2)
      have bw := within_bd (pickZ us (k + 1)) 0 k (by omega)
      have ul := under_len us k
      have PU := Lib.hid (put_any wr _ _ _ _ n (underL us k) ((k : Int) + 1) (within (pickZ us (k + 1)) 0 k) G.out ⟨⟨by omega, by omega⟩, by omega, by omega⟩ (by omega))
      clear bz
      go_wp2_with fail
      refine (PK.out).mono ?_
      rintro e2 w2 ⟨rfl, rfl⟩
      go_wp2_with fail
      refine (WI.out).mono ?_
      rintro e3 w3 ⟨rfl, rfl⟩
      go_wp2_with fail
      refine (PU.out).mono ?_
      rintro e4 w4 ⟨rfl, hg4, hb4⟩
      have G4 := Lib.hid hg4
      have B4 := Lib.hid hb4
      clear hg4 hb4
      go_wp2_with fail
      go_roundw
      case rel => exact ⟨k + 1, by omega, by go_num, G4.out, BE.out.trans B4.out⟩
      case measure => simp [intOf]; omega
    · have UL := Lib.hid (under_len us k)
      have hk7 : k ≤ 6 := by omega
      have KN := Lib.hid (show (n - 1).toNat = k by omega)
      rw [KN.out] at LK
      generalize underL us k = s0 at *
      clear hk k0 GB
      go_wp2_with fail
      clear hlt k1
      go_loopw [7] (fun i wr => ∃ j : Nat, j ≤ min ms.length 8 ∧ i = .int .i64 j ∧ GInv wr (w.heap.size + 2) (w.heap.size + 1 + 1 + 1) (w.heap.size + 1 + 1 + 1 + 1) (w.heap.size + 1 + 1) n (moreL s0 n ms j) ∧ Below (w.heap.size + 2) (W2 w bn uv (.slice ma ms.length mc)) wr) (fun i _ => 8 - (intOf i).toNat)
      case atStart => exact ⟨0, by omega, rfl, G.out, BE.out⟩
      case round =>
        obtain ⟨j, hj, rfl, hg, hbe⟩ := hrel
        have G2 := Lib.hid hg
        have BE2 := Lib.hid hbe
        have k0 : wr.cell? ⟨w.heap.size, 2, none⟩ = some (.slice ma ms.length mc) := (hbe.cell (p := ⟨w.heap.size, 2, none⟩) (by simp)).trans (w2_cell w bn uv _ 2 _ rfl)
        obtain ⟨lv, hgb, hgo⟩ := hg.gbox
        have k1 := hgb.cell 0
        have k2 := hgb.cell 1
        simp only [List.getElem?_toArray, List.getElem?_cons_zero, List.getElem?_cons_succ] at k1 k2
        have OG := Lib.hid hgo
        obtain ⟨la, ln, lc, rfl⟩ : ∃ a n c, lv = Value.slice a n c := by
          rcases own_open hgo with ⟨e, _⟩ | ⟨g, cap, cur, e, _⟩
          · exact ⟨_, _, _, e⟩
          · exact ⟨_, _, _, e⟩
        have BW := Lib.hid ((w2_below w bn uv (.slice ma ms.length mc)).trans (hbe.mono (by omega)))
        have hlm : ms.length ≤ maxLen := LM.out
        unfold maxLen at hlm
        have rb : Box wr (w.heap.size + 1) #[.int .i64 0, .slice none 0 0] 25 := by
          have b := box_new (w.alloc (.cells #[.int .i64 bn, uv, .slice ma ms.length mc] 39)) #[.int .i64 0, .slice none 0 0] 25
          have e1 : (w.alloc (.cells #[.int .i64 bn, uv, .slice ma ms.length mc] 39)).heap.size = w.heap.size + 1 := by simp
          rw [e1] at b
          unfold Box at b ⊢
          rw [hbe.block _ (by omega)]
          exact b
        have r0 := rb.cell 0
        have r1 := rb.cell 1
        have f0 := rb.fr 0
        have SB := Lib.hid (fun x : Value => stored (n := n) (x := x) rb)
        have f1 := rb.fr 1
        simp only [List.getElem?_toArray, List.getElem?_cons_zero, List.getElem?_cons_succ] at r0 r1
        clear hg hbe hgb hgo rb
        by_cases h1 : j < ms.length
        · by_cases h8 : j < 8
          · obtain ⟨y, hy⟩ : ∃ y, ms[j]? = some y := ⟨_, List.getElem?_eq_getElem h1⟩
            obtain ⟨by_, p, _, hix, hpc⟩ := (HM.out.on BW.out).at_ j y hy
            have ML := Lib.hid (show moreL s0 n ms (j + 1) = putL (moreL s0 n ms j) (within y 0 (n - 1)) (within (y.tdiv 8) 0 (n - 1)) by simp only [moreL]; rw [List.getD_eq_getElem?_getD, hy]; rfl)
            have WA := Lib.hid (fun W => within_any y 0 (n - 1) W (by omega) (by omega) (by omega) by_.1 by_.2)
            have q0 : -9223372036854775808 ≤ y.tdiv 8 ∧ y.tdiv 8 ≤ 9223372036854775807 := tdiv8 y by_
            have WB := Lib.hid (fun W => within_any (y.tdiv 8) 0 (n - 1) W (by omega) (by omega) (by omega) q0.1 q0.2)
            have ba := within_bd y 0 (n - 1) (by omega)
            have bb := within_bd (y.tdiv 8) 0 (n - 1) (by omega)
            have ml := more_len s0 n ms j
            have PU := Lib.hid (fun W hW => put_any W (w.heap.size + 2) (w.heap.size + 1 + 1 + 1) (w.heap.size + 1 + 1 + 1 + 1) (w.heap.size + 1 + 1) n (moreL s0 n ms j) (within y 0 (n - 1)) (within (y.tdiv 8) 0 (n - 1)) hW ⟨⟨by omega, by omega⟩, by omega, by omega⟩ (by have := UL.out; omega))
            clear hy ml
            have K0 := Lib.hid k0
            have K1 := Lib.hid k1
            go_upto_region 11 with fail
            refine graph_r11 _ wr w.heap.size (w.heap.size + 1 + 1) (w.heap.size + 1 + 1 + 1 + 1) ma ms.length mc j p y n (within y 0 (n - 1)) (within (y.tdiv 8) 0 (n - 1)) (fun w' => GInv w' (w.heap.size + 2) (w.heap.size + 1 + 1 + 1) (w.heap.size + 1 + 1 + 1 + 1) (w.heap.size + 1 + 1) n (putL (moreL s0 n ms j) (within y 0 (n - 1)) (within (y.tdiv 8) 0 (n - 1))) ∧ Below (w.heap.size + 2) wr.drew w') _ _ _ _ _ _ _ _ _ _ _ _ _ _ _ _ _ _ _ _ _ _ _ _ _ _ _ _ _ _ _ _ _ _ _ _ _ _ _ _ _ _ _ _ _ _ _ _ _ _ _ _ _ _ _ _ _ _ _ K0.out K1.out hix hpc (by omega) q0 WA.out WB.out (PU.out wr.drew G2.out.drew) ?_
            rintro w4 v41 v42 v43 v44 v45 v46 v47 v48 v49 v50 v51 v52 v53 v54 v55 v56 v57 v58 v59 v60 v61 ⟨hg4, hb4⟩
            have G4 := Lib.hid (show GInv w4 (w.heap.size + 2) (w.heap.size + 1 + 1 + 1) (w.heap.size + 1 + 1 + 1 + 1) (w.heap.size + 1 + 1) n (moreL s0 n ms (j + 1)) by rw [ML.out]; exact hg4)
            have B4 := Lib.hid (BE2.out.drew.trans hb4)
            clear hg4 hb4 hix hpc k0 k1 r0 r1 f0 f1
            go_wp2
            go_roundw
            case rel =>
              repeat apply Exists.intro
              exact ⟨⟨j + 1, by omega, rfl, G4.out, B4.out⟩, rfl⟩
            case measure => simp [intOf]; omega
          · obtain rfl : j = 8 := by omega
            have MN := Lib.hid (show min ms.length 8 = 8 by omega)
            clear hj
            go_wp2_with fail
            have SB2 := SB.out (.slice la ln lc)
            have z0 := SB2.cell 0
            have z1 := SB2.cell 1
            simp only [List.getElem?_toArray, List.getElem?_cons_zero, List.getElem?_cons_succ] at z0 z1
            exact bodyPost_ret (v := .agg #[.int .i64 n, .slice la ln lc]) (by simp [results, Tryd.results17, go_sem, z0, z1]) rfl ⟨_, rfl, by
              rw [LK.out, MN.out]
              exact own_less (by omega) (ownsRow_setCell_other (ownsRow_setCell_other OG.out (NB OG.out) _) (NB OG.out) _), (BW.out.setCell (by simp) _).setCell (by simp) _⟩
        · have MN := Lib.hid (show min ms.length 8 = j by omega)
          clear hj
          go_wp2_with fail
          have SB2 := SB.out (.slice la ln lc)
          have z0 := SB2.cell 0
          have z1 := SB2.cell 1
          simp only [List.getElem?_toArray, List.getElem?_cons_zero, List.getElem?_cons_succ] at z0 z1
          exact bodyPost_ret (v := .agg #[.int .i64 n, .slice la ln lc]) (by simp [results, Tryd.results17, go_sem, z0, z1]) rfl ⟨_, rfl, by
            rw [LK.out, MN.out]
            exact own_less (by omega) (ownsRow_setCell_other (ownsRow_setCell_other OG.out (NB OG.out) _) (NB OG.out) _), (BW.out.setCell (by simp) _).setCell (by simp) _⟩
end Go.Proofs.YtbnfndcbhnjnaaaDoor.Gr
