/-
  Kind and Trace of a chain of faults that ends in an Errno. Condition: package errors' variable holds the handle of the type 'error'; the faults lie at falling blocks; at most 1048576 of them.
-/
import Derived.Test.YtbnfndcbhnjnaaaDoorFaWalk
namespace Go.Proofs.YtbnfndcbhnjnaaaDoor.Fa
open Go.RowKit Go.Extern.Stop Go.Stop Go.Extern

/-- The blocks of a chain. -/
abbrev blk (l : List (Nat × ByteArray × Int)) : List Nat := l.map (·.1)

theorem Lst.first_E {l : List (Nat × ByteArray × Int)} {k : Int} {w : World} (hg : EG w) : ∀ {v : Value}, Ch w l v (.iface 33 (.int .i64 k)) → Lst 38 w v (blk l) := by
  induction l with
  | nil => intro v h; cases h; exact fun w' hb => Fa.first_E k w' (hg.bel hb)
  | cons y r ih =>
    intro v h
    obtain ⟨b, op, at_⟩ := y
    obtain ⟨rfl, v', hb, hr⟩ := h
    exact ⟨fun w' hb => first_F _ w' (hg.bel hb), op, at_, v', hb, ih hr⟩
theorem Ch.flt {w : World} {l : List (Nat × ByteArray × Int)} : ∀ {v u : Value}, Ch w l v u → ∀ b ∈ blk l, Flt w b := by
  induction l with
  | nil => intro _ _ _ b hb; cases hb
  | cons y r ih =>
    intro v u h b hb
    obtain ⟨b0, op, at_⟩ := y
    obtain ⟨_, v', h2, h3⟩ := h
    rcases List.mem_cons.1 hb with e | e
    · subst e; exact ⟨_, h2⟩
    · exact ih h3 b e
theorem Falls.nodup {l : List (Nat × ByteArray × Int)} (h : Falls l) : (blk l).Nodup := by
  unfold Falls at h
  rw [List.Nodup, List.pairwise_map]
  exact h.imp fun h => by omega

set_option maxHeartbeats 1000000 in
/-- Kind of a chain that ends in the Errno k: k. -/
theorem Kind_E (l : List (Nat × ByteArray × Int)) (v : Value) (k : Int) (w : World) (hg : EG w) (hc : Ch w l v (.iface 33 (.int .i64 k))) (hf : Falls l) (hlen : l.length ≤ 1048576) :
    Calls Tryd.prog 13 #[v] w fun e w' => e = .returned (.int .i64 k) ∧ Below w.heap.size w w' := by
  have C := Lib.hid (walk_first v (blk l) w hf.nodup hc.flt (by simpa using hlen) (Lst.first_E hg hc))
  have HC := Lib.hid hc
  have HG := Lib.hid hg
  clear hc hg hf hlen
  go_enter Tryd.func13, Tryd.ntmps13
  go_wp2_with fail
  refine C.out.mono ?_
  rintro e w1 ⟨s, rfl, hown, hb⟩
  have C2 := Lib.hid (errno_E l v k w1 (HG.out.bel hb) (HC.out.bel hb))
  have HB := Lib.hid hb
  clear hb hown
  go_wp2_with fail
  refine C2.out.mono ?_
  rintro e w2 ⟨rfl, hb2⟩
  have HB2 := Lib.hid (HB.out.trans (hb2.mono HB.out.size))
  clear hb2
  go_wp2
  go_ret
  exact ⟨rfl, HB2.out⟩

theorem infoS : (Tryd.prog.info? 9).map (fun i => (i.zero, i.size, i.bytes)) = some (some (.string ByteArray.empty), 1, 16) := by kernel_rfl
/-- The ops of a chain, as cells. -/
abbrev opc (l : List (Nat × ByteArray × Int)) : List Value := l.map fun x => .string x.2.1
/-- What Trace ends in. -/
def TraceEnd (w : World) (l : List (Nat × ByteArray × Int)) (e : Ending) (w' : World) : Prop :=
  ∃ s, e = .returned s ∧ w'.ownsRow w.heap.size 9 1 s l.length (opc l) ∧ Below w.heap.size w w'
theorem own_base {w : World} {base base' : Nat} {e : TypeId} {size : Nat} {v : Value} {n : Nat} {xs : List Value} (h : w.ownsRow base e size v n xs) (hb : base' ≤ base) : w.ownsRow base' e size v n xs := by
  obtain ⟨h1, h2⟩ := h
  refine ⟨h1, ?_⟩
  rcases h2 with h2 | ⟨g, cap, cur, hv, hg, r⟩
  · exact Or.inl h2
  · exact Or.inr ⟨g, cap, cur, hv, Nat.le_trans hb hg, r⟩
structure TRel (w w1 : World) (l : List (Nat × ByteArray × Int)) (n : Nat) (s i : Value) (wr : World) (done todo : List (Nat × ByteArray × Int)) : Prop where
  left : n = todo.length
  all : l = done ++ todo
  own : wr.ownsRow w1.heap.size 9 1 s done.length (opc done)
  ix : i = .int .i64 done.length
  bel : Below w1.heap.size w1 wr
theorem own_moreS {w : World} {base : Nat} {v : Value} {done : List (Nat × ByteArray × Int)} {x : Nat × ByteArray × Int} (h : w.ownsRow base 9 1 v (done.length + 1) (opc done ++ [.string x.2.1])) : w.ownsRow base 9 1 v (done ++ [x]).length (opc (done ++ [x])) := by
  simpa using h
/-- A fault of a chain, by its place. -/
theorem Ch.nth {w : World} {u : Value} (r : List (Nat × ByteArray × Int)) (b : Nat) (op : ByteArray) (at_ : Int) : ∀ (done : List (Nat × ByteArray × Int)) (v : Value), Ch w (done ++ (b, op, at_) :: r) v u → ∃ v', w.heap[b]? = some (.cells #[.string op, .int .i64 at_, v'] 73 (0, 0)) := by
  intro done
  induction done with
  | nil => intro v h; exact ⟨_, h.2.choose_spec.1⟩
  | cons y d ih => intro v h; obtain ⟨b0, op0, at0⟩ := y; obtain ⟨_, v', _, h3⟩ := h; exact ih v' h3

set_option maxRecDepth 100000 in
set_option maxHeartbeats 4000000 in
theorem Trace_E (l : List (Nat × ByteArray × Int)) (v : Value) (k : Int) (w : World) (hg : EG w) (hc : Ch w l v (.iface 33 (.int .i64 k))) (hf : Falls l) (hlen : l.length ≤ 1048576) :
    Calls Tryd.prog 23 #[v] w (TraceEnd w l) := by
  obtain ⟨i0, hi, hz0, hz1, hz2⟩ := info_parts infoS
  have C := Lib.hid (walk_first v (blk l) w hf.nodup hc.flt (by simpa using hlen) (Lst.first_E hg hc))
  have HC := Lib.hid hc
  have LE := Lib.hid hlen
  clear hg hf hc hlen
  go_enter Tryd.func23, Tryd.ntmps23
  go_wp2_with fail
  refine C.out.mono ?_
  rintro e w1 ⟨s, rfl, hown, hb⟩
  have HB := Lib.hid hb
  clear hb
  rcases hl : l with _ | ⟨y, r0⟩
  · subst hl
    have hs : s = .slice none 0 0 ∨ ∃ g cap, s = .slice (some ⟨g, 0, none⟩) (0 : Nat) cap := by
      rcases hown.2 with ⟨h, _⟩ | ⟨g, cap, _, h, _⟩
      · exact Or.inl h
      · exact Or.inr ⟨g, cap, h⟩
    clear hown
    rcases hs with hs | ⟨g, cap, hs⟩
    all_goals
      rw [hs]
      clear hs
      go_wp2
      refine wp_loop_rounds 1 ?_
      rw [rounds_succ]
      go_wp2
      go_ret
      exact ⟨_, rfl, World.ownsRow_nil _ _ _ _, HB.out⟩
  · have hx : ∃ g cap, s = .slice (some ⟨g, 0, none⟩) (l.length : Nat) cap := by
      rcases hown.2 with ⟨_, h0⟩ | ⟨g, cap, cur, hv, _⟩
      · rw [hl] at h0; simp at h0
      · exact ⟨g, cap, by simpa using hv⟩
    obtain ⟨g, cap, hs⟩ := hx
    have HL := Lib.hid hl
    clear hl
    rw [hs]
    rw [hs] at hown
    clear hs
    have hown' : w1.ownsRow w.heap.size 71 1 (.slice (some ⟨g, 0, none⟩) l.length cap) l.length ((blk l).map ptr) := by simpa using hown
    have OW := Lib.hid hown'
    clear hown hown'
    have hll : l.length ≤ 1048576 := LE.out
    go_wp2
    go_loopg [3, 15] l.length (fun n s i wr => ∃ done todo, TRel w w1 l n s i wr done todo)
    case atStart => exact ⟨[], l, ⟨rfl, rfl, World.ownsRow_nil _ _ _ _, rfl, Below.refl _ _⟩⟩
    case round =>
      obtain ⟨done, todo, hR⟩ := hrel
      cases todo with
      | nil =>
        obtain ⟨h1, h2, h3, rfl, h7⟩ := hR
        have z : l = done := by simpa using h2
        have O := Lib.hid h3
        have B := Lib.hid h7
        clear h1 h2 h3 h7
        have Z := Lib.hid z
        have hdl : ¬ done.length < l.length := by rw [z]; omega
        clear z
        go_wp2
        go_ret
        have z := Z.out
        subst z
        exact ⟨_, rfl, own_base O.out HB.out.size, HB.out.trans (B.out.mono HB.out.size)⟩
      | cons y r =>
        obtain ⟨b, op, at_⟩ := y
        obtain ⟨h1, h2, hown, rfl, h7⟩ := hR
        have hdl : done.length < l.length := by rw [h2]; simp
        have hcg : wr.cell? ⟨g, done.length, none⟩ = some (ptr b) := by
          have hlt : g < w1.heap.size := (OW.out.lt g rfl).2
          rw [h7.cell (p := ⟨g, done.length, none⟩) hlt]
          rw [OW.out.cellAt done.length (by omega), h2]
          simp
        have hcb : wr.cell? ⟨b, 0, none⟩ = some (.string op) := by
          obtain ⟨v', hv'⟩ := Ch.nth r b op at_ done v (by rw [← h2]; exact HC.out)
          have h8 : wr.heap[b]? = some (.cells #[.string op, .int .i64 at_, v'] 73 (0, 0)) := by
            rw [h7.block b (by have := lt_of_heap hv'; have := HB.out.size; omega), HB.out.block b (lt_of_heap hv')]; exact hv'
          simp [cell_of_heap h8]
        have H1 := Lib.hid (show gk = r.length + 1 from h1)
        have H2 := Lib.hid h2
        have H7 := Lib.hid h7
        clear h1 h2 h7
        go_wp2_with (first | (at_builtin; refine wpList_append_own _ rfl _ _ 49 rfl w1.heap.size 9 i0 (.string ByteArray.empty) 1 16 Tryd.underlying49 hi hz0 hz1 hz2 rfl (by decide) _ _ _ rfl (hown.alloc _) ⟨wr.heap.size, 0, none⟩ 1 1 [.string op] rfl rfl (cellOneNew _ _ _) (fun x hx => by simp at hx; subst hx; rfl) (by unfold maxLen; omega) (by omega) (by have := H7.out.size; simp; omega) ?_) | fail)
        intro v1 w2 hown1 hgrow1 _
        have hbel : Below w1.heap.size w1 w2 := Below.trans H7.out (Below.grown (B := w1.heap.size) ((Below.refl _ _).alloc H7.out.size _) hgrow1 (by have := H7.out.size; simp; omega) (fun k hk => (hown.lt k hk).1))
        have O2 := Lib.hid (own_moreS (x := (b, op, at_)) hown1)
        have B2 := Lib.hid hbel
        clear hown hown1 hgrow1 hbel hcg hcb
        go_wp2
        go_roundg r.length
        case measure => have := H1.out; omega
        case rel => exact ⟨done ++ [(b, op, at_)], r, ⟨rfl, by rw [H2.out]; simp, O2.out, by simp, B2.out⟩⟩
end Go.Proofs.YtbnfndcbhnjnaaaDoor.Fa
