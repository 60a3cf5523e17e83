/-
  walk: the faults of a chain, one behind the other, as 'next' finds them, with the mark that would meet a ring: of a chain whose blocks are all different every fault is listed once, and it ends. Condition: a contract for 'next' at each fault.
  Kind and Trace of a chain of faults that ends in an Errno. Condition: package errors' variable holds the handle of the type 'error'; the faults lie at falling blocks; at most 1048576 of them.
  Chapter 8's runs: the law answers true. Condition: package errors' variable holds the handle of the type 'error'.
-/
import Derived.Test.YtfcgfnmokbbcaaaDoorU033
import Derived.Test.YtfcgfnmokbbcaaaDoorU032
import Derived.Test.YtfcgfnmokbbcaaaDoorU012
import Derived.Test.YtfcgfnmokbbcaaaDoorU013
namespace Go.Proofs.YtfcgfnmokbbcaaaDoor.Fa
open Go.RowKit Go.Extern.Stop Go.Stop Go.Extern

abbrev ptr (b : Nat) : Value := .pointer (some ⟨b, 0, none⟩)
theorem infoF : (Tryd.prog.info? 82).map (fun i => (i.zero, i.size, i.bytes)) = some (some (.pointer none), 1, 8) := by kernel_rfl

/-- What F gives along a chain: the faults at the blocks bs, and then none; in whatever world has grown from w. -/
def Lst (F : Nat) (w : World) : Value → List Nat → Prop
  | v, [] => ∀ w', Below w.heap.size w w' → Calls Tryd.prog F #[v] w' fun e w'' => e = .returned (.pointer none) ∧ Below w'.heap.size w' w''
  | v, b :: r => (∀ w', Below w.heap.size w w' → Calls Tryd.prog F #[v] w' fun e w'' => e = .returned (ptr b) ∧ Below w'.heap.size w' w'') ∧
      ∃ op at_ v', w.heap[b]? = some (.cells #[.string op, .int .i64 at_, v'] 84 (0, 0)) ∧ Lst F w v' r
/-- What F answers of the value whose list is bs. -/
def hd : List Nat → Value | [] => .pointer none | b :: _ => ptr b
theorem hd_nil : hd [] = .pointer none := rfl
theorem hd_cons (b : Nat) (r : List Nat) : hd (b :: r) = ptr b := rfl
theorem Lst.call {F : Nat} {w : World} {v : Value} {bs : List Nat} (h : Lst F w v bs) : ∀ w', Below w.heap.size w w' → Calls Tryd.prog F #[v] w' fun e w'' => e = .returned (hd bs) ∧ Below w'.heap.size w' w'' := by
  cases bs with
  | nil => exact h
  | cons b r => exact h.1
/-- The faults that are still to come. -/
def Tl (F : Nat) (w : World) : List Nat → Prop
  | [] => True
  | b :: r => ∃ op at_ v', w.heap[b]? = some (.cells #[.string op, .int .i64 at_, v'] 84 (0, 0)) ∧ Lst F w v' r
theorem Lst.tl {F : Nat} {w : World} {v : Value} {bs : List Nat} (h : Lst F w v bs) : Tl F w bs := by
  cases bs with
  | nil => trivial
  | cons b r => exact h.2
/-- The blocks are faults of w. -/
def Flt (w : World) (b : Nat) : Prop := ∃ c, w.heap[b]? = some (.cells c 84 (0, 0))

theorem eqP_other {a b : Nat} (w : World) (hne : a ≠ b) (ha : Flt w a) (hb : Flt w b) :
    (binOp .eql 82 (ptr a) (ptr b)).run Tryd.prog w = .ok (.bool false) w := by
  obtain ⟨ca, ha⟩ := ha
  obtain ⟨cb, hb⟩ := hb
  obtain ⟨j, hj, hjs⟩ := Option.map_eq_some_iff.1 sizeFS
  have h : ∀ d : Nat, (Op.equalIn (d + 1) 82 (ptr a) (ptr b)).run Tryd.prog w = .ok false w := fun d => by
    simp [Op.equalIn, run_underlying Tryd.underlying82, typeInfo, sizeOf, hj, hjs, run_sameAddr_other w (a := ⟨a, 0, none⟩) (b := ⟨b, 0, none⟩) (fun h => hne (congrArg Addr.block h)) ha hb]
  simp only [binOp]
  simp [Op.equal, Op.maxDepth, h 9999]
theorem eqP_nil {a : Nat} (w : World) : (binOp .eql 82 (ptr a) (.pointer none)).run Tryd.prog w = .ok (.bool false) w := by
  have h : ∀ d : Nat, (Op.equalIn (d + 1) 82 (ptr a) (.pointer none)).run Tryd.prog w = .ok false w := fun d => by
    simp [Op.equalIn, run_underlying Tryd.underlying82]
  simp only [binOp]
  simp [Op.equal, Op.maxDepth, h 9999]
/-- The mark: none, or a fault that was there. -/
def Mk (done : List Nat) (m : Value) : Prop := m = .pointer none ∨ ∃ b ∈ done, m = ptr b
theorem Mk.eql {done : List Nat} {m : Value} {b : Nat} {w : World} (h : Mk done m) (hb : b ∉ done) (hf : ∀ x ∈ b :: done, Flt w x) : (binOp .eql 82 (ptr b) m).run Tryd.prog w = .ok (.bool false) w := by
  rcases h with rfl | ⟨c, hc, rfl⟩
  · exact eqP_nil w
  · exact eqP_other w (fun e => hb (e ▸ hc)) (hf b (List.mem_cons_self ..)) (hf c (List.mem_cons_of_mem _ hc))

/-- What walk ends in: the list of the faults, and that it ends. -/
def WalkEnd (w : World) (bs : List Nat) (e : Ending) (w' : World) : Prop :=
  ∃ s, e = .returned (.tuple #[s, .bool true]) ∧ w'.ownsRow w.heap.size 82 1 s bs.length (bs.map ptr) ∧ Below w.heap.size w w'

theorem row_form {w : World} {base : Nat} {e : TypeId} {v : Value} {n : Nat} {xs : List Value} (h : w.ownsRow base e 1 v (n + 1) xs) : ∃ g cap, v = .slice (some ⟨g, 0, none⟩) (n + 1 : Nat) cap := by
  rcases h.2 with ⟨_, h0⟩ | ⟨g, cap, cur, hv, _⟩
  · omega
  · exact ⟨g, cap, hv⟩
theorem cellOneNew (w : World) (x : Value) (t : TypeId) : ∀ j u, [x][j]? = some u → (w.alloc (.cells #[x] t)).cell? ((⟨w.heap.size, 0, none⟩ : Addr).add j) = some u := by
  intro j u hj
  match j, hj with
  | 0, hj => simp at hj; subst hj; simp [Addr.add]
theorem own_bel {w w' : World} {base : Nat} {e : TypeId} {size : Nat} {v : Value} {n : Nat} {xs : List Value} (h : w.ownsRow base e size v n xs) (hb : Below w.heap.size w w') : w'.ownsRow base e size v n xs := by
  obtain ⟨h1, h2⟩ := h
  refine ⟨h1, ?_⟩
  rcases h2 with h2 | ⟨g, cap, cur, hv, hg, hh, r⟩
  · exact Or.inl h2
  · exact Or.inr ⟨g, cap, cur, hv, hg, by rw [hb.block g (lt_of_heap hh)]; exact hh, r⟩
theorem Mk.more {done : List Nat} {m : Value} (h : Mk done m) (b : Nat) : Mk (done ++ [b]) m := by
  rcases h with h | ⟨c, hc, h⟩
  · exact Or.inl h
  · exact Or.inr ⟨c, by simp [hc], h⟩
theorem Mk.last (done : List Nat) (b : Nat) : Mk (done ++ [b]) (ptr b) := Or.inr ⟨b, by simp, rfl⟩
theorem own_more {w : World} {base : Nat} {v : Value} {done : List Nat} {b : Nat} (h : w.ownsRow base 82 1 v (done.length + 1) (done.map ptr ++ [ptr b])) : w.ownsRow base 82 1 v (done ++ [b]).length ((done ++ [b]).map ptr) := by
  simpa using h
/-- The relation at a round's head. -/
structure Rel (F : Nat) (w : World) (bs : List Nat) (n : Nat) (s m f : Value) (wr : World) (done todo : List Nat) : Prop where
  left : n = todo.length
  all : bs = done ++ todo
  own : wr.ownsRow w.heap.size 82 1 s done.length (done.map ptr)
  mark : Mk done m
  here : f = hd todo
  rest : Tl F w todo
  bel : Below w.heap.size w wr

set_option maxRecDepth 100000 in
set_option maxHeartbeats 4000000 in
theorem walk_first (v : Value) (bs : List Nat) (w : World) (hnd : bs.Nodup) (hfl : ∀ b ∈ bs, Flt w b) (hlen : bs.length ≤ 1048576) (hl : Lst 30 w v bs) :
    Calls Tryd.prog 29 #[v, .func (.func 30) #[] #[]] w (WalkEnd w bs) := by
  obtain ⟨i0, hi, hz0, hz1, hz2⟩ := info_parts infoF
  have C0 := Lib.hid (hl.call w (Below.refl _ _))
  have T0 := Lib.hid hl.tl
  have ND := Lib.hid hnd
  have FL := Lib.hid hfl
  have LE := Lib.hid hlen
  clear hl hnd hfl hlen
  go_enter Tryd.func29, Tryd.ntmps29
  go_wp2_with fail
  refine C0.out.mono ?_
  rintro e0 w0 ⟨rfl, hb0⟩
  have B0 := Lib.hid hb0
  clear hb0
  go_wp2
  go_loopg [6, 7, 8] bs.length (fun n s m f wr => ∃ done todo, Rel 30 w bs n s m f wr done todo)
  case atStart => exact ⟨[], bs, ⟨rfl, rfl, World.ownsRow_nil _ _ _ _, Or.inl rfl, rfl, T0.out, B0.out⟩⟩
  case round =>
    obtain ⟨done, todo, hR⟩ := hrel
    cases todo with
    | nil =>
      obtain ⟨h1, h2, h3, h4, rfl, h6, h7⟩ := hR
      have Z := Lib.hid (show bs = done from by simpa using h2)
      have O := Lib.hid h3
      have B := Lib.hid h7
      clear h1 h2 h3 h4 h6 h7
      simp only [hd_nil]
      go_wp2
      go_ret2
      have z := Z.out
      subst z
      exact ⟨_, rfl, O.out, B.out⟩
    | cons b r =>
      obtain ⟨h1, h2, hown, h4, rfl, ⟨op, at_, v', hb, hL⟩, h7⟩ := hR
      have hmem : ∀ x ∈ b :: done, Flt wr x := fun x hx => by
        have hx' : x ∈ bs := by rw [h2]; simp at hx ⊢; rcases hx with rfl | hx <;> simp_all
        obtain ⟨c, hc⟩ := FL.out x hx'
        exact ⟨c, by rw [h7.block x (lt_of_heap hc)]; exact hc⟩
      have hnot : b ∉ done := by
        have := ND.out
        rw [h2] at this
        intro hd'
        exact (List.nodup_append.1 this).2.2 b hd' b (List.mem_cons_self ..) rfl
      have q := Mk.eql h4 hnot hmem
      have hdl : done.length + r.length + 1 ≤ 1048576 := by have := LE.out; rw [h2] at this; simp at this; omega
      have HB := Lib.hid hb
      have HL := Lib.hid hL
      have H1 := Lib.hid (show gk = r.length + 1 from h1)
      have H2 := Lib.hid h2
      have H4 := Lib.hid h4
      have H7 := Lib.hid h7
      clear h1 h2 h4 h7 hmem hnot hb hL
      simp only [hd_cons]
      go_wp2_with (first | (at_builtin; refine wpList_append_own _ rfl _ _ 71 rfl w.heap.size 82 i0 (.pointer none) 1 8 Tryd.underlying71 hi hz0 hz1 hz2 rfl (by decide) _ _ _ rfl (hown.alloc _) ⟨wr.heap.size, 0, none⟩ 1 1 [ptr b] rfl rfl (cellOneNew _ _ _) (fun x hx => by simp at hx; subst hx; rfl) (by unfold maxLen; omega) (by omega) (by have := H7.out.size; simp; omega) ?_) | fail)
      intro v1 w1 hown1 hgrow1 _
      have hx : ∃ g cap, v1 = .slice (some ⟨g, 0, none⟩) (done.length + 1 : Nat) cap := row_form hown1
      obtain ⟨g, cap, hv⟩ := hx
      rw [hv]
      rw [hv] at hown1
      have hbel : Below w.heap.size w w1 := Below.trans H7.out (Below.grown (B := w.heap.size) ((Below.refl _ _).alloc H7.out.size _) hgrow1 (by have := H7.out.size; simp; omega) (fun k hk => (hown.lt k hk).1))
      have h2c : w1.cell? ⟨b, 2, none⟩ = some v' := by rw [hbel.cell (p := ⟨b, 2, none⟩) (lt_of_heap HB.out)]; simp [cell_of_heap HB.out]
      have CC := Lib.hid (HL.out.call w1 hbel)
      have OW := Lib.hid hown1
      have BE := Lib.hid hbel
      clear hown hown1 hgrow1 hbel hv
      go_wp2_with fail
      all_goals
        refine CC.out.mono ?_
        rintro e2 w2 ⟨rfl, hb2⟩
        have B2 := Lib.hid (BE.out.trans (hb2.mono BE.out.size))
        have O2 := Lib.hid (own_more (own_bel OW.out hb2))
        clear hb2
        go_wp2
        go_roundg r.length
        case measure => have := H1.out; omega
        case rel => exact ⟨done ++ [b], r, ⟨rfl, by rw [H2.out]; simp, O2.out, (by first | exact Mk.last done b | exact H4.out.more b), rfl, HL.out.tl, B2.out⟩⟩

end Go.Proofs.YtfcgfnmokbbcaaaDoor.Fa

namespace Go.Proofs.YtfcgfnmokbbcaaaDoor.Fa
open Go.RowKit Go.Extern.Stop Go.Stop Go.Extern

/-- The blocks of a chain. -/
abbrev blk (l : List (Nat × ByteArray × Int)) : List Nat := l.map (·.1)

theorem Lst.first_E {l : List (Nat × ByteArray × Int)} {k : Int} {w : World} (hg : EG w) : ∀ {v : Value}, Ch w l v (.iface 34 (.int .i64 k)) → Lst 30 w v (blk l) := by
  induction l with
  | nil => intro v h; cases h; exact fun w' hb => Fa.first_E k w' (hg.bel hb)
  | cons y r ih =>
    intro v h
    obtain ⟨b, op, at_⟩ := y
    obtain ⟨rfl, v', hb, hr⟩ := h
    exact ⟨fun w' hb => first_F _ w' (hg.bel hb), op, at_, v', hb, ih hr⟩
theorem Ch.flt {w : World} {l : List (Nat × ByteArray × Int)} : ∀ {v u : Value}, Ch w l v u → ∀ b ∈ blk l, Flt w b := by
  induction l with
  | nil => intro _ _ _ b hb; cases hb
  | cons y r ih =>
    intro v u h b hb
    obtain ⟨b0, op, at_⟩ := y
    obtain ⟨_, v', h2, h3⟩ := h
    rcases List.mem_cons.1 hb with e | e
    · subst e; exact ⟨_, h2⟩
    · exact ih h3 b e
theorem Falls.nodup {l : List (Nat × ByteArray × Int)} (h : Falls l) : (blk l).Nodup := by
  unfold Falls at h
  rw [List.Nodup, List.pairwise_map]
  exact h.imp fun h => by omega

set_option maxHeartbeats 1000000 in
/-- Kind of a chain that ends in the Errno k: k. -/
theorem Kind_E (l : List (Nat × ByteArray × Int)) (v : Value) (k : Int) (w : World) (hg : EG w) (hc : Ch w l v (.iface 34 (.int .i64 k))) (hf : Falls l) (hlen : l.length ≤ 1048576) :
    Calls Tryd.prog 10 #[v] w fun e w' => e = .returned (.int .i64 k) ∧ Below w.heap.size w w' := by
  have C := Lib.hid (walk_first v (blk l) w hf.nodup hc.flt (by simpa using hlen) (Lst.first_E hg hc))
  have HC := Lib.hid hc
  have HG := Lib.hid hg
  clear hc hg hf hlen
  go_enter Tryd.func10, Tryd.ntmps10
  go_wp2_with fail
  refine C.out.mono ?_
  rintro e w1 ⟨s, rfl, hown, hb⟩
  have C2 := Lib.hid (errno_E l v k w1 (HG.out.bel hb) (HC.out.bel hb))
  have HB := Lib.hid hb
  clear hb hown
  go_wp2_with fail
  refine C2.out.mono ?_
  rintro e w2 ⟨rfl, hb2⟩
  have HB2 := Lib.hid (HB.out.trans (hb2.mono HB.out.size))
  clear hb2
  go_wp2
  go_ret
  exact ⟨rfl, HB2.out⟩

theorem infoS : (Tryd.prog.info? 9).map (fun i => (i.zero, i.size, i.bytes)) = some (some (.string ByteArray.empty), 1, 16) := by kernel_rfl
/-- The ops of a chain, as cells. -/
abbrev opc (l : List (Nat × ByteArray × Int)) : List Value := l.map fun x => .string x.2.1
/-- What Trace ends in. -/
def TraceEnd (w : World) (l : List (Nat × ByteArray × Int)) (e : Ending) (w' : World) : Prop :=
  ∃ s, e = .returned s ∧ w'.ownsRow w.heap.size 9 1 s l.length (opc l) ∧ Below w.heap.size w w'
theorem own_base {w : World} {base base' : Nat} {e : TypeId} {size : Nat} {v : Value} {n : Nat} {xs : List Value} (h : w.ownsRow base e size v n xs) (hb : base' ≤ base) : w.ownsRow base' e size v n xs := by
  obtain ⟨h1, h2⟩ := h
  refine ⟨h1, ?_⟩
  rcases h2 with h2 | ⟨g, cap, cur, hv, hg, r⟩
  · exact Or.inl h2
  · exact Or.inr ⟨g, cap, cur, hv, Nat.le_trans hb hg, r⟩
structure TRel (w w1 : World) (l : List (Nat × ByteArray × Int)) (n : Nat) (s i : Value) (wr : World) (done todo : List (Nat × ByteArray × Int)) : Prop where
  left : n = todo.length
  all : l = done ++ todo
  own : wr.ownsRow w1.heap.size 9 1 s done.length (opc done)
  ix : i = .int .i64 done.length
  bel : Below w1.heap.size w1 wr
theorem own_moreS {w : World} {base : Nat} {v : Value} {done : List (Nat × ByteArray × Int)} {x : Nat × ByteArray × Int} (h : w.ownsRow base 9 1 v (done.length + 1) (opc done ++ [.string x.2.1])) : w.ownsRow base 9 1 v (done ++ [x]).length (opc (done ++ [x])) := by
  simpa using h
/-- A fault of a chain, by its place. -/
theorem Ch.nth {w : World} {u : Value} (r : List (Nat × ByteArray × Int)) (b : Nat) (op : ByteArray) (at_ : Int) : ∀ (done : List (Nat × ByteArray × Int)) (v : Value), Ch w (done ++ (b, op, at_) :: r) v u → ∃ v', w.heap[b]? = some (.cells #[.string op, .int .i64 at_, v'] 84 (0, 0)) := by
  intro done
  induction done with
  | nil => intro v h; exact ⟨_, h.2.choose_spec.1⟩
  | cons y d ih => intro v h; obtain ⟨b0, op0, at0⟩ := y; obtain ⟨_, v', _, h3⟩ := h; exact ih v' h3

set_option maxRecDepth 100000 in
set_option maxHeartbeats 4000000 in
theorem Trace_E (l : List (Nat × ByteArray × Int)) (v : Value) (k : Int) (w : World) (hg : EG w) (hc : Ch w l v (.iface 34 (.int .i64 k))) (hf : Falls l) (hlen : l.length ≤ 1048576) :
    Calls Tryd.prog 24 #[v] w (TraceEnd w l) := by
  obtain ⟨i0, hi, hz0, hz1, hz2⟩ := info_parts infoS
  have C := Lib.hid (walk_first v (blk l) w hf.nodup hc.flt (by simpa using hlen) (Lst.first_E hg hc))
  have HC := Lib.hid hc
  have LE := Lib.hid hlen
  clear hg hf hc hlen
  go_enter Tryd.func24, Tryd.ntmps24
  go_wp2_with fail
  refine C.out.mono ?_
  rintro e w1 ⟨s, rfl, hown, hb⟩
  have HB := Lib.hid hb
  clear hb
  rcases hl : l with _ | ⟨y, r0⟩
  · subst hl
    have hs : s = .slice none 0 0 ∨ ∃ g cap, s = .slice (some ⟨g, 0, none⟩) (0 : Nat) cap := by
      rcases hown.2 with ⟨h, _⟩ | ⟨g, cap, _, h, _⟩
      · exact Or.inl h
      · exact Or.inr ⟨g, cap, h⟩
    clear hown
    rcases hs with hs | ⟨g, cap, hs⟩
    all_goals
      rw [hs]
      clear hs
      go_wp2
      refine wp_loop_rounds 1 ?_
      rw [rounds_succ]
      go_wp2
      go_ret
      exact ⟨_, rfl, World.ownsRow_nil _ _ _ _, HB.out⟩
  · have hx : ∃ g cap, s = .slice (some ⟨g, 0, none⟩) (l.length : Nat) cap := by
      rcases hown.2 with ⟨_, h0⟩ | ⟨g, cap, cur, hv, _⟩
      · rw [hl] at h0; simp at h0
      · exact ⟨g, cap, by simpa using hv⟩
    obtain ⟨g, cap, hs⟩ := hx
    have HL := Lib.hid hl
    clear hl
    rw [hs]
    rw [hs] at hown
    clear hs
    have hown' : w1.ownsRow w.heap.size 82 1 (.slice (some ⟨g, 0, none⟩) l.length cap) l.length ((blk l).map ptr) := by simpa using hown
    have OW := Lib.hid hown'
    clear hown hown'
    have hll : l.length ≤ 1048576 := LE.out
    go_wp2
    go_loopg [3, 15] l.length (fun n s i wr => ∃ done todo, TRel w w1 l n s i wr done todo)
    case atStart => exact ⟨[], l, ⟨rfl, rfl, World.ownsRow_nil _ _ _ _, rfl, Below.refl _ _⟩⟩
    case round =>
      obtain ⟨done, todo, hR⟩ := hrel
      cases todo with
      | nil =>
        obtain ⟨h1, h2, h3, rfl, h7⟩ := hR
        have z : l = done := by simpa using h2
        have O := Lib.hid h3
        have B := Lib.hid h7
        clear h1 h2 h3 h7
        have Z := Lib.hid z
        have hdl : ¬ done.length < l.length := by rw [z]; omega
        clear z
        go_wp2
        go_ret
        have z := Z.out
        subst z
        exact ⟨_, rfl, own_base O.out HB.out.size, HB.out.trans (B.out.mono HB.out.size)⟩
      | cons y r =>
        obtain ⟨b, op, at_⟩ := y
        obtain ⟨h1, h2, hown, rfl, h7⟩ := hR
        have hdl : done.length < l.length := by rw [h2]; simp
        have hcg : wr.cell? ⟨g, done.length, none⟩ = some (ptr b) := by
          have hlt : g < w1.heap.size := (OW.out.lt g rfl).2
          rw [h7.cell (p := ⟨g, done.length, none⟩) hlt]
          rw [OW.out.cellAt done.length (by omega), h2]
          simp
        have hcb : wr.cell? ⟨b, 0, none⟩ = some (.string op) := by
          obtain ⟨v', hv'⟩ := Ch.nth r b op at_ done v (by rw [← h2]; exact HC.out)
          have h8 : wr.heap[b]? = some (.cells #[.string op, .int .i64 at_, v'] 84 (0, 0)) := by
            rw [h7.block b (by have := lt_of_heap hv'; have := HB.out.size; omega), HB.out.block b (lt_of_heap hv')]; exact hv'
          simp [cell_of_heap h8]
        have H1 := Lib.hid (show gk = r.length + 1 from h1)
        have H2 := Lib.hid h2
        have H7 := Lib.hid h7
        clear h1 h2 h7
        go_wp2_with (first | (at_builtin; refine wpList_append_own _ rfl _ _ 64 rfl w1.heap.size 9 i0 (.string ByteArray.empty) 1 16 Tryd.underlying64 hi hz0 hz1 hz2 rfl (by decide) _ _ _ rfl (hown.alloc _) ⟨wr.heap.size, 0, none⟩ 1 1 [.string op] rfl rfl (cellOneNew _ _ _) (fun x hx => by simp at hx; subst hx; rfl) (by unfold maxLen; omega) (by omega) (by have := H7.out.size; simp; omega) ?_) | fail)
        intro v1 w2 hown1 hgrow1 _
        have hbel : Below w1.heap.size w1 w2 := Below.trans H7.out (Below.grown (B := w1.heap.size) ((Below.refl _ _).alloc H7.out.size _) hgrow1 (by have := H7.out.size; simp; omega) (fun k hk => (hown.lt k hk).1))
        have O2 := Lib.hid (own_moreS (x := (b, op, at_)) hown1)
        have B2 := Lib.hid hbel
        clear hown hown1 hgrow1 hbel hcg hcb
        go_wp2
        go_roundg r.length
        case measure => have := H1.out; omega
        case rel => exact ⟨done ++ [(b, op, at_)], r, ⟨rfl, by rw [H2.out]; simp, O2.out, by simp, B2.out⟩⟩
end Go.Proofs.YtfcgfnmokbbcaaaDoor.Fa

namespace Go.Proofs.YtfcgfnmokbbcaaaDoor.Ws
open Go.RowKit Go.Proofs.YtfcgfnmokbbcaaaDoor Go.Proofs.YtfcgfnmokbbcaaaDoor.Rw Go.Proofs.YtfcgfnmokbbcaaaDoor.Nm Go.Proofs.YtfcgfnmokbbcaaaDoor.At Go.Proofs.YtfcgfnmokbbcaaaDoor.Pr Go.Proofs.YtfcgfnmokbbcaaaDoor.Wr

/-- The errors' variable. -/
structure GE (w : World) : Prop where
  eg : Fa.EG w
theorem GE.on {w w' : World} (h : GE w) (hb : Below w.heap.size w w') : GE w' := ⟨h.eg.bel hb⟩
theorem wkind_ok {w : World} {v : Value} {r : Int} (h : WFault w v r) (hg : GE w) : Calls Tryd.prog 10 #[v] w fun e w' => e = .returned (.int .i64 1) ∧ Below w.heap.size w w' := by
  obtain ⟨b, hc⟩ := h.ch
  exact Fa.Kind_E _ v 1 w hg.eg hc (by unfold Fa.Falls; exact List.pairwise_singleton _ _) (by simp)
theorem wplace_ok {w : World} {v : Value} {r : Int} (h : WFault w v r) (hg : GE w) : Calls Tryd.prog 17 #[v] w fun e w' => e = .returned (.int .i64 r) ∧ Below w.heap.size w w' := by
  obtain ⟨b, rfl, v', hb, _⟩ := h.ch
  exact Fa.Place_F b wireTxt r v' w hg.eg hb
theorem eqE (a b : Int) (w : World) (r : Bool) (h : (a == b) = r) : (binOp .eql 34 (.int .i64 a) (.int .i64 b)).run Tryd.prog w = .ok (.bool r) w := by
  subst h
  simp [go_sem]
abbrev nilS : Value := .slice none 0 0
theorem none_in (w : World) (k tc ts ic is : Int) : MgIn w ⟨k, tc, ts, ic, is, [], []⟩ nilS nilS := ⟨row_nil _, Or.inl ⟨rfl, rfl⟩⟩
theorem none_small (k tc ts ic is : Int) : Small ⟨k, tc, ts, ic, is, [], []⟩ := ⟨by simp, by simp, fun x hx => (by cases hx), fun x hx => (by cases hx)⟩
def runMg : Mg := ⟨2, 1, 2, 0, 0, [], []⟩
theorem run_right : rightM runMg = true := by decide
theorem run_bytes : bytesM runMg = [2, 0, 0, 0, 0, 0, 0, 0, 1, 0, 0, 0, 0, 0, 0, 0, 2] := by decide
theorem zero_right : rightM zeroMg = false := by decide
set_option maxRecDepth 100000 in
set_option maxHeartbeats 4000000 in
theorem runs_any (w : World) (hg : Fa.EG w) :
    Calls Tryd.prog 3 #[] w fun e w' => e = .returned (.bool true) ∧ Below w.heap.size w w' := by
  have T1 := Lib.hid (enc_ok runMg nilS nilS w (none_in w 2 1 2 0 0) (none_small 2 1 2 0 0) run_right)
  have G0 := Lib.hid (GE.mk hg)
  rw [run_bytes] at T1
  clear hg
  go_enter Tryd.func3, Tryd.ntmps3
  go_wp2_with fail
  refine T1.out.mono ?_
  rintro e w1 ⟨⟨v1, rfl, ho⟩, hb⟩
  have B1 := Lib.hid hb
  have O1 := Lib.hid ho
  have T2 := Lib.hid (enc_no zeroMg nilS nilS w1 (none_in w1 0 0 0 0 0) (none_small 0 0 0 0 0) (by simp) zero_right)
  clear ho hb T1
  go_wp2_with fail
  refine T2.out.mono ?_
  rintro e w2 ⟨⟨v2, rfl, hf⟩, hb⟩
  obtain ⟨f2, hc⟩ := hf.ch
  have B2 := Lib.hid (B1.out.trans (hb.mono B1.out.size))
  have O2 := Lib.hid (Rw.own_on O1.out hb)
  have F2 := Lib.hid hf
  have L3 := Lib.hid (litB w2 [2, 0, 0, 0, 0, 0, 0, 0, 1, 0, 0, 0, 0, 0, 0, 0, 2] 17 #[.int .u8 2, .int .u8 0, .int .u8 0, .int .u8 0, .int .u8 0, .int .u8 0, .int .u8 0, .int .u8 0, .int .u8 1, .int .u8 0, .int .u8 0, .int .u8 0, .int .u8 0, .int .u8 0, .int .u8 0, .int .u8 0, .int .u8 2] rfl (by simp) rfl)
  have N3 := Lib.hid (new_below w2 (.cells #[.int .u8 2, .int .u8 0, .int .u8 0, .int .u8 0, .int .u8 0, .int .u8 0, .int .u8 0, .int .u8 0, .int .u8 1, .int .u8 0, .int .u8 0, .int .u8 0, .int .u8 0, .int .u8 0, .int .u8 0, .int .u8 0, .int .u8 2] 5))
  have SB := Lib.hid (sameB _ _ _ _ _ (Row.of_own (Rw.own_on O2.out N3.out)) (Row.of_own L3.out))
  rw [decide_eq_true rfl] at SB
  have B3 := Lib.hid (B2.out.trans (N3.out.mono B2.out.size))
  have F3 := Lib.hid (F2.out.on N3.out)
  clear hf hb hc T2 B1 O1
  go_wp2_with fail
  refine SB.out.mono ?_
  rintro e w4 ⟨rfl, hb⟩
  have B4 := Lib.hid (B3.out.trans (hb.mono B3.out.size))
  have KD := Lib.hid (wkind_ok (F3.out.on hb) (G0.out.on B4.out))
  have EQ := eqE 1 1 w4 true rfl
  clear hb SB B3 F3 L3 N3
  go_wp2_with fail
  refine KD.out.mono ?_
  rintro e w5 ⟨rfl, hb⟩
  have B5 := Lib.hid (B4.out.trans (hb.mono B4.out.size))
  have EQ := eqE 1 1 w5 true rfl
  clear hb KD
  go_wp2_with fail
  go_ret
  exact ⟨rfl, B5.out⟩
end Go.Proofs.YtfcgfnmokbbcaaaDoor.Ws
