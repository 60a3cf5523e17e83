/-
  walk: the faults of a chain, one behind the other, as 'next' finds them, with the mark that would meet a ring: of a chain whose blocks are all different every fault is listed once, and it ends. Condition: a contract for 'next' at each fault.
-/
import Derived.Test.YtbnfndcbhnjnaaaDoorFaFirst
namespace Go.Proofs.YtbnfndcbhnjnaaaDoor.Fa
open Go.RowKit Go.Extern.Stop Go.Stop Go.Extern

abbrev ptr (b : Nat) : Value := .pointer (some ⟨b, 0, none⟩)
theorem infoF : (Tryd.prog.info? 71).map (fun i => (i.zero, i.size, i.bytes)) = some (some (.pointer none), 1, 8) := by kernel_rfl

/-- What F gives along a chain: the faults at the blocks bs, and then none; in whatever world has grown from w. -/
def Lst (F : Nat) (w : World) : Value → List Nat → Prop
  | v, [] => ∀ w', Below w.heap.size w w' → Calls Tryd.prog F #[v] w' fun e w'' => e = .returned (.pointer none) ∧ Below w'.heap.size w' w''
  | v, b :: r => (∀ w', Below w.heap.size w w' → Calls Tryd.prog F #[v] w' fun e w'' => e = .returned (ptr b) ∧ Below w'.heap.size w' w'') ∧
      ∃ op at_ v', w.heap[b]? = some (.cells #[.string op, .int .i64 at_, v'] 73 (0, 0)) ∧ Lst F w v' r
/-- What F answers of the value whose list is bs. -/
def hd : List Nat → Value | [] => .pointer none | b :: _ => ptr b
theorem hd_nil : hd [] = .pointer none := rfl
theorem hd_cons (b : Nat) (r : List Nat) : hd (b :: r) = ptr b := rfl
theorem Lst.call {F : Nat} {w : World} {v : Value} {bs : List Nat} (h : Lst F w v bs) : ∀ w', Below w.heap.size w w' → Calls Tryd.prog F #[v] w' fun e w'' => e = .returned (hd bs) ∧ Below w'.heap.size w' w'' := by
  cases bs with
  | nil => exact h
  | cons b r => exact h.1
/-- The faults that are still to come. -/
def Tl (F : Nat) (w : World) : List Nat → Prop
  | [] => True
  | b :: r => ∃ op at_ v', w.heap[b]? = some (.cells #[.string op, .int .i64 at_, v'] 73 (0, 0)) ∧ Lst F w v' r
theorem Lst.tl {F : Nat} {w : World} {v : Value} {bs : List Nat} (h : Lst F w v bs) : Tl F w bs := by
  cases bs with
  | nil => trivial
  | cons b r => exact h.2
/-- The blocks are faults of w. -/
def Flt (w : World) (b : Nat) : Prop := ∃ c, w.heap[b]? = some (.cells c 73 (0, 0))

theorem eqP_other {a b : Nat} (w : World) (hne : a ≠ b) (ha : Flt w a) (hb : Flt w b) :
    (binOp .eql 71 (ptr a) (ptr b)).run Tryd.prog w = .ok (.bool false) w := by
  obtain ⟨ca, ha⟩ := ha
  obtain ⟨cb, hb⟩ := hb
  obtain ⟨j, hj, hjs⟩ := Option.map_eq_some_iff.1 sizeFS
  have h : ∀ d : Nat, (Op.equalIn (d + 1) 71 (ptr a) (ptr b)).run Tryd.prog w = .ok false w := fun d => by
    simp [Op.equalIn, run_underlying Tryd.underlying71, typeInfo, sizeOf, hj, hjs, run_sameAddr_other w (a := ⟨a, 0, none⟩) (b := ⟨b, 0, none⟩) (fun h => hne (congrArg Addr.block h)) ha hb]
  simp only [binOp]
  simp [Op.equal, Op.maxDepth, h 9999]
theorem eqP_nil {a : Nat} (w : World) : (binOp .eql 71 (ptr a) (.pointer none)).run Tryd.prog w = .ok (.bool false) w := by
  have h : ∀ d : Nat, (Op.equalIn (d + 1) 71 (ptr a) (.pointer none)).run Tryd.prog w = .ok false w := fun d => by
    simp [Op.equalIn, run_underlying Tryd.underlying71]
  simp only [binOp]
  simp [Op.equal, Op.maxDepth, h 9999]
/-- The mark: none, or a fault that was there. -/
def Mk (done : List Nat) (m : Value) : Prop := m = .pointer none ∨ ∃ b ∈ done, m = ptr b
theorem Mk.eql {done : List Nat} {m : Value} {b : Nat} {w : World} (h : Mk done m) (hb : b ∉ done) (hf : ∀ x ∈ b :: done, Flt w x) : (binOp .eql 71 (ptr b) m).run Tryd.prog w = .ok (.bool false) w := by
  rcases h with rfl | ⟨c, hc, rfl⟩
  · exact eqP_nil w
  · exact eqP_other w (fun e => hb (e ▸ hc)) (hf b (List.mem_cons_self ..)) (hf c (List.mem_cons_of_mem _ hc))

/-- What walk ends in: the list of the faults, and that it ends. -/
def WalkEnd (w : World) (bs : List Nat) (e : Ending) (w' : World) : Prop :=
  ∃ s, e = .returned (.tuple #[s, .bool true]) ∧ w'.ownsRow w.heap.size 71 1 s bs.length (bs.map ptr) ∧ Below w.heap.size w w'

theorem row_form {w : World} {base : Nat} {e : TypeId} {v : Value} {n : Nat} {xs : List Value} (h : w.ownsRow base e 1 v (n + 1) xs) : ∃ g cap, v = .slice (some ⟨g, 0, none⟩) (n + 1 : Nat) cap := by
  rcases h.2 with ⟨_, h0⟩ | ⟨g, cap, cur, hv, _⟩
  · omega
  · exact ⟨g, cap, hv⟩
theorem cellOneNew (w : World) (x : Value) (t : TypeId) : ∀ j u, [x][j]? = some u → (w.alloc (.cells #[x] t)).cell? ((⟨w.heap.size, 0, none⟩ : Addr).add j) = some u := by
  intro j u hj
  match j, hj with
  | 0, hj => simp at hj; subst hj; simp [Addr.add]
theorem own_bel {w w' : World} {base : Nat} {e : TypeId} {size : Nat} {v : Value} {n : Nat} {xs : List Value} (h : w.ownsRow base e size v n xs) (hb : Below w.heap.size w w') : w'.ownsRow base e size v n xs := by
  obtain ⟨h1, h2⟩ := h
  refine ⟨h1, ?_⟩
  rcases h2 with h2 | ⟨g, cap, cur, hv, hg, hh, r⟩
  · exact Or.inl h2
  · exact Or.inr ⟨g, cap, cur, hv, hg, by rw [hb.block g (lt_of_heap hh)]; exact hh, r⟩
theorem Mk.more {done : List Nat} {m : Value} (h : Mk done m) (b : Nat) : Mk (done ++ [b]) m := by
  rcases h with h | ⟨c, hc, h⟩
  · exact Or.inl h
  · exact Or.inr ⟨c, by simp [hc], h⟩
theorem Mk.last (done : List Nat) (b : Nat) : Mk (done ++ [b]) (ptr b) := Or.inr ⟨b, by simp, rfl⟩
theorem own_more {w : World} {base : Nat} {v : Value} {done : List Nat} {b : Nat} (h : w.ownsRow base 71 1 v (done.length + 1) (done.map ptr ++ [ptr b])) : w.ownsRow base 71 1 v (done ++ [b]).length ((done ++ [b]).map ptr) := by
  simpa using h
/-- The relation at a round's head. -/
structure Rel (F : Nat) (w : World) (bs : List Nat) (n : Nat) (s m f : Value) (wr : World) (done todo : List Nat) : Prop where
  left : n = todo.length
  all : bs = done ++ todo
  own : wr.ownsRow w.heap.size 71 1 s done.length (done.map ptr)
  mark : Mk done m
  here : f = hd todo
  rest : Tl F w todo
  bel : Below w.heap.size w wr

set_option maxRecDepth 100000 in
set_option maxHeartbeats 4000000 in
theorem walk_first (v : Value) (bs : List Nat) (w : World) (hnd : bs.Nodup) (hfl : ∀ b ∈ bs, Flt w b) (hlen : bs.length ≤ 1048576) (hl : Lst 38 w v bs) :
    Calls Tryd.prog 37 #[v, .func (.func 38) #[] #[]] w (WalkEnd w bs) := by
  obtain ⟨i0, hi, hz0, hz1, hz2⟩ := info_parts infoF
  have C0 := Lib.hid (hl.call w (Below.refl _ _))
  have T0 := Lib.hid hl.tl
  have ND := Lib.hid hnd
  have FL := Lib.hid hfl
  have LE := Lib.hid hlen
  clear hl hnd hfl hlen
  go_enter Tryd.func37, Tryd.ntmps37
  go_wp2_with fail
  refine C0.out.mono ?_
  rintro e0 w0 ⟨rfl, hb0⟩
  have B0 := Lib.hid hb0
  clear hb0
  go_wp2
  go_loopg [6, 7, 8] bs.length (fun n s m f wr => ∃ done todo, Rel 38 w bs n s m f wr done todo)
  case atStart => exact ⟨[], bs, ⟨rfl, rfl, World.ownsRow_nil _ _ _ _, Or.inl rfl, rfl, T0.out, B0.out⟩⟩
  case round =>
    obtain ⟨done, todo, hR⟩ := hrel
    cases todo with
    | nil =>
      obtain ⟨h1, h2, h3, h4, rfl, h6, h7⟩ := hR
      have Z := Lib.hid (show bs = done from by simpa using h2)
      have O := Lib.hid h3
      have B := Lib.hid h7
      clear h1 h2 h3 h4 h6 h7
      simp only [hd_nil]
      go_wp2
      go_ret2
      have z := Z.out
      subst z
      exact ⟨_, rfl, O.out, B.out⟩
    | cons b r =>
      obtain ⟨h1, h2, hown, h4, rfl, ⟨op, at_, v', hb, hL⟩, h7⟩ := hR
      have hmem : ∀ x ∈ b :: done, Flt wr x := fun x hx => by
        have hx' : x ∈ bs := by rw [h2]; simp at hx ⊢; rcases hx with rfl | hx <;> simp_all
        obtain ⟨c, hc⟩ := FL.out x hx'
        exact ⟨c, by rw [h7.block x (lt_of_heap hc)]; exact hc⟩
      have hnot : b ∉ done := by
        have := ND.out
        rw [h2] at this
        intro hd'
        exact (List.nodup_append.1 this).2.2 b hd' b (List.mem_cons_self ..) rfl
      have q := Mk.eql h4 hnot hmem
      have hdl : done.length + r.length + 1 ≤ 1048576 := by have := LE.out; rw [h2] at this; simp at this; omega
      have HB := Lib.hid hb
      have HL := Lib.hid hL
      have H1 := Lib.hid (show gk = r.length + 1 from h1)
      have H2 := Lib.hid h2
      have H4 := Lib.hid h4
      have H7 := Lib.hid h7
      clear h1 h2 h4 h7 hmem hnot hb hL
      simp only [hd_cons]
      go_wp2_with (first | (at_builtin; refine wpList_append_own _ rfl _ _ 67 rfl w.heap.size 71 i0 (.pointer none) 1 8 Tryd.underlying67 hi hz0 hz1 hz2 rfl (by decide) _ _ _ rfl (hown.alloc _) ⟨wr.heap.size, 0, none⟩ 1 1 [ptr b] rfl rfl (cellOneNew _ _ _) (fun x hx => by simp at hx; subst hx; rfl) (by unfold maxLen; omega) (by omega) (by have := H7.out.size; simp; omega) ?_) | fail)
      intro v1 w1 hown1 hgrow1 _
      have hx : ∃ g cap, v1 = .slice (some ⟨g, 0, none⟩) (done.length + 1 : Nat) cap := row_form hown1
      obtain ⟨g, cap, hv⟩ := hx
      rw [hv]
      rw [hv] at hown1
      have hbel : Below w.heap.size w w1 := Below.trans H7.out (Below.grown (B := w.heap.size) ((Below.refl _ _).alloc H7.out.size _) hgrow1 (by have := H7.out.size; simp; omega) (fun k hk => (hown.lt k hk).1))
      have h2c : w1.cell? ⟨b, 2, none⟩ = some v' := by rw [hbel.cell (p := ⟨b, 2, none⟩) (lt_of_heap HB.out)]; simp [cell_of_heap HB.out]
      have CC := Lib.hid (HL.out.call w1 hbel)
      have OW := Lib.hid hown1
      have BE := Lib.hid hbel
      clear hown hown1 hgrow1 hbel hv
      go_wp2_with fail
      all_goals
        refine CC.out.mono ?_
        rintro e2 w2 ⟨rfl, hb2⟩
        have B2 := Lib.hid (BE.out.trans (hb2.mono BE.out.size))
        have O2 := Lib.hid (own_more (own_bel OW.out hb2))
        clear hb2
        go_wp2
        go_roundg r.length
        case measure => have := H1.out; omega
        case rel => exact ⟨done ++ [b], r, ⟨rfl, by rw [H2.out]; simp, O2.out, (by first | exact Mk.last done b | exact H4.out.more b), rfl, HL.out.tl, B2.out⟩⟩

end Go.Proofs.YtbnfndcbhnjnaaaDoor.Fa
