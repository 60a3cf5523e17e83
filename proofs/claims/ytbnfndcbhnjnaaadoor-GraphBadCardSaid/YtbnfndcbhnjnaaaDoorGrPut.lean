/-
  The closure put of broadsidekeep's Graph: one link more, if it may be. Condition: numbers of 64 bits; at most 100 links.
-/
import Derived.Test.YtbnfndcbhnjnaaaDoorBk
import Derived.Test.YtbnfndcbhnjnaaaDoorBb
import Derived.Lib.Hide
namespace Go.Proofs.YtbnfndcbhnjnaaaDoor.Gr
open Go.RowKit Go.Proofs.YtbnfndcbhnjnaaaDoor Go.Proofs.YtbnfndcbhnjnaaaDoor.Rw

theorem box_grown {W W' : World} {b : Nat} {cs : Array Value} {t : TypeId} {row : Option Nat} (h : Box W b cs t) (hg : W.grownBy W' row) (hne : some b ≠ row) : Box W' b cs t := (hg.block b h.lt hne).trans h
theorem map_ne {W : World} {mb b : Nat} {s : List Lk} {cs : Array Value} {t : TypeId} (h : InMap W mb s) (hb : Box W b cs t) : mb ≠ b := by
  rintro rfl
  obtain ⟨n, D, _, ⟨es, clock, h2, _⟩, _⟩ := h
  unfold Box at hb
  rw [hb] at h2
  cases h2
theorem own_ne {W : World} {B b : Nat} {v : Value} {s : List Lk} {cs : Array Value} {t : TypeId} (h : OwnK W B v s) (hb : Box W b cs t) (ht : t ≠ 22) : v.ownBlock ≠ some b := by
  intro e
  rcases own_open h with ⟨rfl, _⟩ | ⟨g, cap, cur, rfl, _, hg, _⟩
  · cases e
  · obtain rfl : g = b := by simpa [Value.ownBlock] using e
    unfold Box at hb hg
    rw [hb] at hg
    simp only [Option.some.injEq, Obj.cells.injEq] at hg
    exact ht hg.2.1
theorem own_nomap {W : World} {B mb : Nat} {v : Value} {s m : List Lk} (h : OwnK W B v s) (hm : InMap W mb m) : v.ownBlock ≠ some mb := by
  intro e
  rcases own_open h with ⟨rfl, _⟩ | ⟨g, cap, cur, rfl, _, hg, _⟩
  · cases e
  · obtain rfl : g = mb := by simpa [Value.ownBlock] using e
    exact map_ne hm hg rfl
theorem own_kept {W W' : World} {B : Nat} {v : Value} {s : List Lk} {row : Option Nat} (h : OwnK W B v s) (hg : W.grownBy W' row) (hne : v.ownBlock ≠ row ∨ v.ownBlock = none) : OwnK W' B v s := h.kept hg hne.symm
/-- One link more, if it may be. -/
def putL (s : List Lk) (a b : Int) : List Lk := if a = b ∨ (a, b) ∈ s ∨ (b, a) ∈ s then s else s ++ [(a, b)]
theorem put_len (s : List Lk) (a b : Int) : (putL s a b).length ≤ s.length + 1 := by
  unfold putL
  split <;> simp
/-- The variables of Graph, in memory: the map, the set that it holds, the graph so far. -/
structure GInv (W : World) (B mb ib gb : Nat) (n : Int) (s : List Lk) : Prop where
  hi : B ≤ mb ∧ B ≤ ib ∧ B ≤ gb
  ne : ib ≠ gb
  map : InMap W mb s
  ibox : Box W ib #[.map (some mb)] 45
  gbox : ∃ lv, Box W gb #[.int .i64 n, lv] 25 ∧ OwnK W B lv s
def PutQ (W : World) (B mb ib gb : Nat) (n : Int) (s : List Lk) (e : Ending) (w' : World) : Prop := e = .returned (.tuple #[]) ∧ GInv w' B mb ib gb n s ∧ Below B W w'
set_option maxRecDepth 100000 in
set_option maxHeartbeats 4000000 in
theorem put_any (W : World) (B mb ib gb : Nat) (n : Int) (s : List Lk) (a b : Int) (h : GInv W B mb ib gb n s) (hab : Ok2 (a, b)) (hs : s.length ≤ 100) :
    Calls Tryd.prog 40 #[.int .i64 a, .int .i64 b, .pointer (some ⟨ib, 0, none⟩), .pointer (some ⟨gb, 0, none⟩)] W (PutQ W B mb ib gb n (putL s a b)) := by
  obtain ⟨lv, gbox, own⟩ := h.gbox
  have l1 := h.map.look (a, b) hab
  have l2 := h.map.look (b, a) ⟨hab.2, hab.1⟩
  have i0 := h.ibox.cell 0
  have g1 := gbox.cell 1
  have HI := Lib.hid h
  have OK := Lib.hid hab
  have OW := Lib.hid own
  have GB := Lib.hid gbox
  simp at i0 g1
  have PD := Lib.hid (show putL s a b = if (decide (a = b) || (decide ((a, b) ∈ s) || decide ((b, a) ∈ s))) = true then s else s ++ [(a, b)] by unfold putL; simp)
  obtain ⟨c1, hc1⟩ : ∃ c, decide ((a, b) ∈ s) = c := ⟨_, rfl⟩
  obtain ⟨c2, hc2⟩ : ∃ c, decide ((b, a) ∈ s) = c := ⟨_, rfl⟩
  rw [hc1] at l1 PD
  rw [hc2] at l2 PD
  clear h own gbox hc1 hc2 hab
  by_cases he : a = b
  · have P := Lib.hid (show putL s a b = s by rw [PD.out]; simp [he])
    rw [P.out]
    have Q := Lib.hid (show PutQ W B mb ib gb n s (.returned (.tuple #[])) W from ⟨rfl, HI.out, Below.refl _ _⟩)
    have d1 : ((a : Int) != b) = false := by simp [he]
    clear P PD he
    go_enter Tryd.func40, Tryd.ntmps40
    go_wp2
    exact bodyPost_ret (v := .tuple #[]) (by simp [results, Tryd.results40, go_sem]) rfl Q.out
  · have d1 : ((a : Int) != b) = true := by simp [he]
    rcases c1 with _ | _
    · rcases c2 with _ | _
      · have P := Lib.hid (show putL s a b = s ++ [(a, b)] by rw [PD.out]; simp [he])
        rw [P.out]
        obtain ⟨W1, hr, hm1, hg1⟩ := HI.out.map.store (a, b) OK.out (by omega)
        have n1 := map_ne HI.out.map HI.out.ibox
        have n2 := map_ne HI.out.map GB.out
        have n3 := own_nomap OW.out HI.out.map
        have GB1 := box_grown GB.out hg1 (by simpa using n2.symm)
        have IB1 := box_grown HI.out.ibox hg1 (by simpa using n1.symm)
        have O1 := own_kept OW.out hg1 (Or.inl n3)
        have B1 := (Below.refl B W).grown hg1 (by have := HI.out.map.lt; have := HI.out.hi.1; omega) (fun j hj => by cases hj; exact HI.out.hi.1)
        have hB : B ≤ W1.heap.size := by have := hm1.lt; have := HI.out.hi.1; omega
        have BA := B1.alloc hB (.cells #[.int .i64 a, .int .i64 b] 22)
        obtain ⟨v', w', r, o', gr⟩ := appK B (own_on O1 ((Below.refl _ _).alloc (Nat.le_refl _) (.cells #[.int .i64 a, .int .i64 b] 22))) (row_oneK W1 (a, b)) (by omega) (by simp) (by simp; omega)
        obtain ⟨sg, sn, sc, rfl⟩ : ∃ g n c, v' = Value.slice (some ⟨g, 0, none⟩) n c := by
          rcases own_open o' with ⟨_, e⟩ | ⟨g, cap, cur, e, _⟩
          · exact absurd e (by simp)
          · exact ⟨g, _, cap, e⟩
        have GB2 := box_grown (GB1.more (.cells #[.int .i64 a, .int .i64 b] 22)) gr (fun e => own_ne O1 GB1 (by decide) e.symm)
        have IB2 := box_grown (IB1.more (.cells #[.int .i64 a, .int .i64 b] 22)) gr (fun e => own_ne O1 IB1 (by decide) e.symm)
        have M2 := (hm1.on ((Below.refl _ _).alloc (Nat.le_refl _) (.cells #[.int .i64 a, .int .i64 b] 22))).grown gr (fun e => own_nomap O1 hm1 e.symm)
        have B2 := BA.grown gr (by simp; omega) (fun j hj => (O1.lt j hj).1)
        have k1 := GB1.cell 1
        have k2 := GB2.cell 1
        have kf := GB2.fr 1
        simp at k1 k2
        have Q := Lib.hid (show PutQ W B mb ib gb n (s ++ [(a, b)]) (.returned (.tuple #[])) (w'.setCell ⟨gb, 1, none⟩ (Value.slice (some ⟨sg, 0, none⟩) sn sc)) from ⟨rfl, ⟨HI.out.hi, HI.out.ne, M2.setCell (map_ne M2 GB2) _, (by
          have hne := HI.out.ne
          unfold Box at IB2 ⊢
          rw [RowKit.Below.heap_setCell _ _ _ _ hne]
          exact IB2), _, (by
          unfold Box at GB2 ⊢
          rw [heap_setCell_same w' gb 1 _ 25 _ GB2]
          rfl), ownsRow_setCell_other o' (own_ne o' GB2 (by decide)) _⟩, B2.setCell HI.out.hi.2.2 _⟩)
        clear n1 n2 n3 GB1 IB1 O1 B1 hB BA o' gr GB2 IB2 M2 B2 hm1 hg1 P PD he
        go_enter Tryd.func40, Tryd.ntmps40
        go_wp2_with (first | (at_builtin; refine wpList_append_run rfl _ _ 23 rfl rfl rfl r ?_) | fail)
        exact bodyPost_ret (v := .tuple #[]) (by simp [results, Tryd.results40, go_sem]) rfl Q.out
      · have P := Lib.hid (show putL s a b = s by rw [PD.out]; simp)
        rw [P.out]
        have Q := Lib.hid (show PutQ W B mb ib gb n s (.returned (.tuple #[])) W from ⟨rfl, HI.out, Below.refl _ _⟩)
        clear P PD he
        go_enter Tryd.func40, Tryd.ntmps40
        go_wp2
        exact bodyPost_ret (v := .tuple #[]) (by simp [results, Tryd.results40, go_sem]) rfl Q.out
    · have P := Lib.hid (show putL s a b = s by rw [PD.out]; simp)
      rw [P.out]
      have Q := Lib.hid (show PutQ W B mb ib gb n s (.returned (.tuple #[])) W from ⟨rfl, HI.out, Below.refl _ _⟩)
      clear P PD he
      go_enter Tryd.func40, Tryd.ntmps40
      go_wp2
      exact bodyPost_ret (v := .tuple #[]) (by simp [results, Tryd.results40, go_sem]) rfl Q.out
end Go.Proofs.YtbnfndcbhnjnaaaDoor.Gr
