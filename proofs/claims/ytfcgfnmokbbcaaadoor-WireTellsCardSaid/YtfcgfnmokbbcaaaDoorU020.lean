/-
  A Reader, a variable and a row of one's own, side by side: what each does to the others. No program's function in it.
  A Reader and two variables that hold messages: what each does to the others. No program's function in it.
  getPred of package wire: so many constraints, one behind the other. No condition beyond the Reader's own.
-/
import Derived.Test.YtfcgfnmokbbcaaaDoorU018
import Derived.Test.YtfcgfnmokbbcaaaDoorU019
namespace Go.Proofs.YtfcgfnmokbbcaaaDoor.Ws
open Go.RowKit Go.Proofs.YtfcgfnmokbbcaaaDoor Go.Proofs.YtfcgfnmokbbcaaaDoor.Rw Go.Proofs.YtfcgfnmokbbcaaaDoor.Nm Go.Proofs.YtfcgfnmokbbcaaaDoor.At Go.Proofs.YtfcgfnmokbbcaaaDoor.Pr Go.Proofs.YtfcgfnmokbbcaaaDoor.Wr

/-- Attributes, as rows of any kind of element. -/
def EA : Ek A4 := ⟨61, 30, 4, 48, .agg #[.string ⟨#[]⟩, .bool false, .int .i64 0, .string ⟨#[]⟩], At.av, At.cellsA⟩
theorem infoA0 : (Tryd.prog.info? 61).map (fun i => (i.zero, i.size, i.bytes)) = some (some (.agg #[.string ⟨#[]⟩, .bool false, .int .i64 0, .string ⟨#[]⟩]), 4, 48) := by kernel_rfl
theorem load_runA (w : World) (p : Addr) (c : A4) (h : ∀ j u, (At.cellsA c)[j]? = some u → w.cell? (p.add j) = some u) : (Instr.loadAt 61 (.pointer (some p))).run Tryd.prog w = .ok (At.av c) w := by
  have h0 := h 0 _ rfl
  have h1 := h 1 _ rfl
  have h2 := h 2 _ rfl
  have h3 := h 3 _ rfl
  simp [Addr.add] at h0 h1 h2 h3
  simp [go_sem, h0, h1, h2, h3]
theorem okA : EA.Ok where
  hu := Tryd.underlying30
  info := by
    have h := infoA0
    cases hi : Tryd.prog.info? 61 with
    | none => rw [hi] at h; cases h
    | some i =>
      rw [hi] at h
      simp only [Option.map_some, Option.some.injEq, Prod.mk.injEq] at h
      exact ⟨i, hi, h.1, h.2.1, h.2.2⟩
  zs := rfl
  len := fun _ => rfl
  one := fun x u hu => by
    simp only [EA, At.cellsA, List.mem_cons, List.not_mem_nil, or_false] at hu
    rcases hu with rfl | rfl | rfl | rfl <;> rfl
  pos := by decide
  few := by decide
  load := fun w p x h => load_runA w p x h
abbrev RowL (W : World) (v : Value) (l : List A4) : Prop := Row EA W v l
abbrev OwnL (W : World) (B : Nat) (v : Value) (l : List A4) : Prop := Own EA W B v l
theorem flat_EA : ∀ l : List A4, flat EA l = At.flatA l
  | [] => rfl
  | x :: r => by
    rw [flat, flat_EA r]
    rfl
/-- The two ways to speak of a list of attributes. -/
theorem row_EA {W : World} {v : Value} {l : List A4} : At.RowA W v l ↔ RowL W v l := by
  unfold At.RowA RowL Row
  rw [flat_EA]
theorem grown_lt {w w1 w2 : World} {r q : Option Nat} (h1 : w.grownBy w1 r) (h2 : w1.grownBy w2 q) (hq : ∀ j, q = some j → w.heap.size ≤ j) : w.grownBy w2 r :=
  ⟨h2.os.trans h1.os, h2.tape.trans h1.tape, h2.output.trans h1.output, Nat.le_trans h1.size h2.size, fun k hk hne => (h2.block k (Nat.lt_of_lt_of_le hk h1.size) (fun e => by have := hq k e.symm; omega)).trans (h1.block k hk hne)⟩
/-- Behind some calls: the Reader rb is at s, the variable xb holds cs, v is the row l. -/
structure Gp {α : Type} (E : Ek α) (w W : World) (rb xb : Nat) (cs : Array Value) (t : TypeId) (v : Value) (l : List α) (s : St) : Prop where
  rd : Wq.Rd W rb s
  bx : Box W xb cs t
  gr : w.grownBy W (some rb)
  ow : Own E W w.heap.size v l
  r0 : rb < w.heap.size
  x0 : w.heap.size ≤ xb
  lo : ∀ j, v.ownBlock = some j → j < xb
theorem Gp.start {α : Type} {E : Ek α} {w W : World} {rb : Nat} {v : Value} {l : List α} {s : St} (h1 : Wq.Rd W rb s) (h2 : w.grownBy W (some rb)) (h3 : Own E W w.heap.size v l) (h4 : rb < w.heap.size) (cs : Array Value) (t : TypeId) :
    Gp E w (W.alloc (.cells cs t)) rb W.heap.size cs t v l s where
  rd := h1.on ((Below.refl _ _).alloc (Nat.le_refl _) _)
  bx := box_new W cs t
  gr := grown_more h2 (World.grownBy_alloc W (.cells cs t) (some rb))
  ow := h3.alloc _
  r0 := h4
  x0 := h2.size
  lo := fun j hj => (h3.lt j hj).2
theorem Gp.call {α : Type} {E : Ek α} {w W W' : World} {rb xb : Nat} {cs : Array Value} {t : TypeId} {v : Value} {l : List α} {s s' : St} (h : Gp E w W rb xb cs t v l s) (hg : W.grownBy W' (some rb)) (hd : Wq.Rd W' rb s') : Gp E w W' rb xb cs t v l s' where
  rd := hd
  bx := box_grown h.bx hg (fun e => by have h1 := h.r0; have h2 := h.x0; injection e with e; omega)
  gr := grown_more h.gr hg
  ow := h.ow.kept hg (by
    cases hv : v.ownBlock with
    | none => exact Or.inl rfl
    | some j =>
      refine Or.inr fun e => ?_
      injection e with e
      have h1 := (h.ow.lt j hv).1
      have h2 := h.r0
      omega)
  r0 := h.r0
  x0 := h.x0
  lo := h.lo
theorem Gp.set {α : Type} {E : Ek α} {w W : World} {rb xb : Nat} {cs : Array Value} {t : TypeId} {v : Value} {l : List α} {s : St} (h : Gp E w W rb xb cs t v l s) (k : Nat) (x : Value) : Gp E w (W.setCell ⟨xb, k, none⟩ x) rb xb (cs.setIfInBounds k x) t v l s where
  rd := h.rd.keep (Wq.set_keep W xb k x rb (by have h1 := h.r0; have h2 := h.x0; omega))
  bx := box_set h.bx x
  gr := grown_new h.gr k x xb h.x0
  ow := h.ow.kept (grown_set W xb k x) (by
    cases hv : v.ownBlock with
    | none => exact Or.inl rfl
    | some j =>
      refine Or.inr fun e => ?_
      injection e with e
      have h1 := h.lo j hv
      omega)
  r0 := h.r0
  x0 := h.x0
  lo := h.lo
/-- What was read goes behind the row. -/
theorem Gp.push {α : Type} {E : Ek α} (K : E.Ok) {w W : World} {rb xb : Nat} {cs : Array Value} {t : TypeId} {v : Value} {l : List α} {s : St} (h : Gp E w W rb xb cs t v l s) (c : α) (hl : l.length ≤ 500) (n : Nat) (hn : W.heap.size = n) (arr : Array Value) (harr : arr = (E.cells c).toArray) (ts tt ty : TypeId) (hts : E.ts = ts) (htt : E.t = tt) :
    ∃ v' w', (Builtin.append_ #[ts, ts] ty #[v, .slice (some ⟨n, 0, none⟩) 1 1]).run Tryd.prog (W.alloc (.cells arr tt)) = .ok v' w' ∧ Own E w' w.heap.size v' (l ++ [c]) ∧ Wq.Rd w' rb s ∧ w.grownBy w' (some rb) := by
  subst hn harr hts htt
  have hlit := row_lit K W [c] 1 rfl (by simp) (E.cells c).toArray (by simp [flat])
  have ho := h.ow.alloc (.cells (E.cells c).toArray E.t)
  have hs := h.gr.size
  obtain ⟨v', w', r, o', gr⟩ := app_row K w.heap.size ho (Row.of_own hlit) (by omega) (by simp) (by simp; omega) ty
  have g2 := grown_more h.gr (World.grownBy_alloc W (.cells (E.cells c).toArray E.t) (some rb))
  refine ⟨v', w', r, o', ?_, grown_lt g2 gr (fun j hj => (ho.lt j hj).1)⟩
  have hd := h.rd.on ((Below.refl W.heap.size W).alloc (Nat.le_refl _) (.cells (E.cells c).toArray E.t))
  refine hd.keep fun k hk => gr.block k ?_ ?_
  · have h1 := h.r0
    simp
    omega
  · intro e
    have h1 := (ho.lt k e.symm).1
    have h2 := h.r0
    omega
end Go.Proofs.YtfcgfnmokbbcaaaDoor.Ws

namespace Go.Proofs.YtfcgfnmokbbcaaaDoor.Ws
open Go.RowKit Go.Proofs.YtfcgfnmokbbcaaaDoor Go.Proofs.YtfcgfnmokbbcaaaDoor.Rw Go.Proofs.YtfcgfnmokbbcaaaDoor.Nm Go.Proofs.YtfcgfnmokbbcaaaDoor.At Go.Proofs.YtfcgfnmokbbcaaaDoor.Pr Go.Proofs.YtfcgfnmokbbcaaaDoor.Wr

abbrev zeroM : Array Value := #[.int .i64 0, .int .i64 0, .int .i64 0, .int .i64 0, .int .i64 0, .slice none 0 0, .slice none 0 0]
/-- Behind some calls: the Reader rb is at s, the first new variable is zero, the second holds cs. -/
structure Gm (w W : World) (rb : Nat) (cs : Array Value) (s : St) : Prop where
  rd : Wq.Rd W rb s
  bx : Box W (w.heap.size + 1) cs 32
  rx : Box W w.heap.size zeroM 32
  gr : w.grownBy W (some rb)
  r0 : rb < w.heap.size
theorem Gm.start {w : World} {rb : Nat} {s : St} (h : Wq.Rd w rb s) : Gm w ((w.alloc (.cells zeroM 32)).alloc (.cells zeroM 32)) rb zeroM s where
  rd := (h.on (new_below w _)).on (new_below _ _)
  bx := by
    have h := box_new (w.alloc (.cells zeroM 32)) zeroM 32
    rwa [show (w.alloc (.cells zeroM 32)).heap.size = w.heap.size + 1 by simp] at h
  rx := (box_new w zeroM 32).more _
  gr := grown_more (World.grownBy_alloc w _ (some rb)) (World.grownBy_alloc _ _ (some rb))
  r0 := h.lt
theorem Gm.call {w W W' : World} {rb : Nat} {cs : Array Value} {s s' : St} (h : Gm w W rb cs s) (hg : W.grownBy W' (some rb)) (hd : Wq.Rd W' rb s') : Gm w W' rb cs s' where
  rd := hd
  bx := box_grown h.bx hg (fun e => by have h1 := h.r0; injection e with e; omega)
  rx := box_grown h.rx hg (fun e => by have h1 := h.r0; injection e with e; omega)
  gr := grown_more h.gr hg
  r0 := h.r0
theorem Gm.set {w W : World} {rb : Nat} {cs : Array Value} {s : St} (h : Gm w W rb cs s) (k : Nat) (x : Value) : Gm w (W.setCell ⟨w.heap.size + 1, k, none⟩ x) rb (cs.setIfInBounds k x) s where
  rd := h.rd.keep (Wq.set_keep W _ k x rb (by have h1 := h.r0; omega))
  bx := box_set h.bx x
  rx := (RowKit.Below.heap_setCell W _ x _ (by show w.heap.size ≠ w.heap.size + 1; omega)).trans h.rx
  gr := grown_new h.gr k x _ (by omega)
  r0 := h.r0
theorem own_set {α : Type} {E : Ek α} {W : World} {B : Nat} {v : Value} {l : List α} (h : Own E W B v l) (b k : Nat) (x : Value) (hb : b < B) : Own E (W.setCell ⟨b, k, none⟩ x) B v l :=
  h.kept (grown_set W b k x) (by
    cases hv : v.ownBlock with
    | none => exact Or.inl rfl
    | some j =>
      refine Or.inr fun e => ?_
      injection e with e
      have h1 := (h.lt j hv).1
      omega)
/-- The first variable, set as a whole. -/
abbrev setM (W : World) (b : Nat) (a0 a1 a2 a3 a4 a5 a6 : Value) : World :=
  ((((((W.setCell ⟨b, 0, none⟩ a0).setCell ⟨b, 1, none⟩ a1).setCell ⟨b, 2, none⟩ a2).setCell ⟨b, 3, none⟩ a3).setCell ⟨b, 4, none⟩ a4).setCell ⟨b, 5, none⟩ a5).setCell ⟨b, 6, none⟩ a6
theorem setM_own {α : Type} {E : Ek α} {W : World} {B : Nat} {v : Value} {l : List α} (h : Own E W B v l) (b : Nat) (hb : b < B) (a0 a1 a2 a3 a4 a5 a6 : Value) : Own E (setM W b a0 a1 a2 a3 a4 a5 a6) B v l :=
  own_set (own_set (own_set (own_set (own_set (own_set (own_set h b 0 a0 hb) b 1 a1 hb) b 2 a2 hb) b 3 a3 hb) b 4 a4 hb) b 5 a5 hb) b 6 a6 hb
theorem setM_ownG {α : Type} {E : Ek α} {w W : World} {rb : Nat} {cs : Array Value} {s : St} (_ : Gm w W rb cs s) {v : Value} {l : List α} (h : Own E W (w.heap.size + 2) v l) (a0 a1 a2 a3 a4 a5 a6 : Value) : Own E (setM W w.heap.size a0 a1 a2 a3 a4 a5 a6) (w.heap.size + 2) v l :=
  setM_own h w.heap.size (by omega) a0 a1 a2 a3 a4 a5 a6
theorem setM_grown {w W : World} {r : Option Nat} (h : w.grownBy W r) (b : Nat) (hb : w.heap.size ≤ b) (a0 a1 a2 a3 a4 a5 a6 : Value) : w.grownBy (setM W b a0 a1 a2 a3 a4 a5 a6) r :=
  grown_new (grown_new (grown_new (grown_new (grown_new (grown_new (grown_new h 0 a0 b hb) 1 a1 b hb) 2 a2 b hb) 3 a3 b hb) 4 a4 b hb) 5 a5 b hb) 6 a6 b hb
theorem setM_box {W : World} {b : Nat} {t : TypeId} {z0 z1 z2 z3 z4 z5 z6 : Value} (h : Box W b #[z0, z1, z2, z3, z4, z5, z6] t) (a0 a1 a2 a3 a4 a5 a6 : Value) : Box (setM W b a0 a1 a2 a3 a4 a5 a6) b #[a0, a1, a2, a3, a4, a5, a6] t := by
  have h2 := box_set (k := 6) (box_set (k := 5) (box_set (k := 4) (box_set (k := 3) (box_set (k := 2) (box_set (k := 1) (box_set (k := 0) h a0) a1) a2) a3) a4) a5) a6
  simp only [List.setIfInBounds_toArray, List.set_cons_zero, List.set_cons_succ] at h2
  exact h2
end Go.Proofs.YtfcgfnmokbbcaaaDoor.Ws

namespace Go.Proofs.YtfcgfnmokbbcaaaDoor.Ws
open Go.RowKit Go.Proofs.YtfcgfnmokbbcaaaDoor Go.Proofs.YtfcgfnmokbbcaaaDoor.Rw Go.Proofs.YtfcgfnmokbbcaaaDoor.Nm Go.Proofs.YtfcgfnmokbbcaaaDoor.At Go.Proofs.YtfcgfnmokbbcaaaDoor.Pr Go.Proofs.YtfcgfnmokbbcaaaDoor.Wr

set_option maxRecDepth 100000 in
set_option maxHeartbeats 16000000 in
theorem getpred_any (rb : Nat) (s : St) (w : World) (h : Wq.Rd w rb s) :
    Calls Tryd.prog 69 #[.pointer (some ⟨rb, 0, none⟩)] w fun e w' => (∃ v, e = .returned v ∧ OwnC w' w.heap.size v (gL gC s).1) ∧ Wq.Rd w' rb (gL gC s).2 ∧ w.grownBy w' (some rb) := by
  have T := Lib.hid (Wq.byte_any rb s w h)
  have LT := Lib.hid h.lt
  have E := Lib.hid (show gL gC s = readL gC (byteS s).1.toNat (byteS s).2 from rfl)
  clear h
  go_enter Tryd.func69, Tryd.ntmps69
  go_wp2_with fail
  refine T.out.mono ?_
  rintro e w1 ⟨rfl, hd, hg⟩
  have RD := Lib.hid hd
  have HG := Lib.hid hg
  have N := (byteS s).1.toNat_lt
  clear T hd hg
  generalize (byteS s).1.toNat = n at *
  generalize (byteS s).2 = s0 at *
  have O0 := Lib.hid (own_nil (α := C5) (E := EC) w1 w.heap.size)
  go_wp2
  go_loopw [3, 7] (fun v i wr => ∃ j : Nat, j ≤ n ∧ i = .int .u8 j ∧ OwnC wr w.heap.size v (readL gC j s0).1 ∧ Wq.Rd wr rb (readL gC j s0).2 ∧ w.grownBy wr (some rb)) (fun _ i _ => n - (intOf i).toNat)
  case atStart => exact ⟨0, Nat.zero_le _, rfl, O0.out, RD.out, HG.out⟩
  case round =>
    obtain ⟨j, hj, rfl, ho, hd, hg⟩ := hrel
    by_cases hlt : j < n
    · have G0 := Lib.hid (Gp.start (E := EC) hd hg ho LT.out #[.string ⟨#[]⟩, .int .i64 0, .int .i64 0, .int .i64 0, .string ⟨#[]⟩] 57)
      have SN := Lib.hid (readL_snoc gC j s0)
      have LN := Lib.hid (readL_len gC j s0)
      have hw8 : IntKind.u8.wrap ((j : Int) + 1) = (j : Int) + 1 := IntWalk.u8_in _ (by omega)
      clear ho hd hg
      generalize (readL gC j s0).1 = lj at *
      generalize (readL gC j s0).2 = sj at *
      have GC := Lib.hid (gC.eq_1 sj)
      have T0 := Lib.hid (Wq.rtext_any rb sj _ G0.out.rd)
      go_wp2_with fail
      refine T0.out.mono ?_
      rintro e0 w0 ⟨rfl, hd, hg⟩
      have G0a := Lib.hid (G0.out.call hg hd)
      clear hd hg T0 G0
      have XX := G0a.out.bx
      have x0 := XX.cell 0
      have x1 := XX.cell 1
      have x2 := XX.cell 2
      have x3 := XX.cell 3
      have x4 := XX.cell 4
      have y0 := XX.fr 0
      have y1 := XX.fr 1
      have y2 := XX.fr 2
      have y3 := XX.fr 3
      have y4 := XX.fr 4
      have z := XX.lt
      simp at x0 x1 x2 x3 x4
      clear XX
      have G1 := Lib.hid (G0a.out.set 0 (.string (textS sj).1))
      clear G0a
      generalize (textS sj).1 = nm at *
      generalize (textS sj).2 = s1 at *
      have T1 := Lib.hid (Wq.byte_any rb s1 _ G1.out.rd)
      go_wp2_with fail
      refine T1.out.mono ?_
      rintro e1 w1 ⟨rfl, hd, hg⟩
      have G1a := Lib.hid (G1.out.call hg hd)
      clear hd hg T1 G1 x0 y0 x1 y1 x2 y2 x3 y3 x4 y4 z
      have XX := G1a.out.bx
      have x0 := XX.cell 0
      have x1 := XX.cell 1
      have x2 := XX.cell 2
      have x3 := XX.cell 3
      have x4 := XX.cell 4
      have y0 := XX.fr 0
      have y1 := XX.fr 1
      have y2 := XX.fr 2
      have y3 := XX.fr 3
      have y4 := XX.fr 4
      have z := XX.lt
      simp at x0 x1 x2 x3 x4
      clear XX
      have G2 := Lib.hid (G1a.out.set 1 (.int .i64 (byteS s1).1.toNat))
      clear G1a
      have KL := (byteS s1).1.toNat_lt
      generalize (byteS s1).1.toNat = kd at *
      generalize (byteS s1).2 = s2 at *
      have hwk : IntKind.i64.wrap (kd : Int) = kd := IntWalk.i64_in _ (by omega)
      by_cases hk1 : kd = 1
      · have HK := Lib.hid hk1
        generalize hkz : (kd : Int) = kz at *
        obtain rfl : kz = 1 := by omega
        clear hk1 hkz
        have T2 := Lib.hid (Wq.num_any rb s2 _ G2.out.rd)
        go_wp2_with fail
        refine T2.out.mono ?_
        rintro e2 w2 ⟨rfl, hd, hg⟩
        have G2a := Lib.hid (G2.out.call hg hd)
        clear hd hg T2 G2 x0 y0 x1 y1 x2 y2 x3 y3 x4 y4 z
        have XX := G2a.out.bx
        have x0 := XX.cell 0
        have x1 := XX.cell 1
        have x2 := XX.cell 2
        have x3 := XX.cell 3
        have x4 := XX.cell 4
        have y0 := XX.fr 0
        have y1 := XX.fr 1
        have y2 := XX.fr 2
        have y3 := XX.fr 3
        have y4 := XX.fr 4
        have z := XX.lt
        simp at x0 x1 x2 x3 x4
        clear XX
        have G3 := Lib.hid (G2a.out.set 2 (.int .i64 (numS s2).1))
        clear G2a
        generalize (numS s2).1 = lo at *
        generalize (numS s2).2 = s3 at *
        have T3 := Lib.hid (Wq.num_any rb s3 _ G3.out.rd)
        go_wp2_with fail
        refine T3.out.mono ?_
        rintro e3 w3 ⟨rfl, hd, hg⟩
        have G3a := Lib.hid (G3.out.call hg hd)
        clear hd hg T3 G3 x0 y0 x1 y1 x2 y2 x3 y3 x4 y4 z
        have XX := G3a.out.bx
        have x0 := XX.cell 0
        have x1 := XX.cell 1
        have x2 := XX.cell 2
        have x3 := XX.cell 3
        have x4 := XX.cell 4
        have y0 := XX.fr 0
        have y1 := XX.fr 1
        have y2 := XX.fr 2
        have y3 := XX.fr 3
        have y4 := XX.fr 4
        have z := XX.lt
        simp at x0 x1 x2 x3 x4
        clear XX
        have G4 := Lib.hid (G3a.out.set 3 (.int .i64 (numS s3).1))
        clear G3a
        generalize (numS s3).1 = hgh at *
        generalize (numS s3).2 = s4 at *
        obtain ⟨v', w', r, ho', hd', hg'⟩ := G4.out.push okC (nm, 1, lo, hgh, ⟨#[]⟩) (by rw [LN.out]; omega) w3.heap.size (by simp [World.setCell]) #[.string nm, .int .i64 1, .int .i64 lo, .int .i64 hgh, .string ⟨#[]⟩] rfl 29 57 29 rfl rfl
        have O9 := Lib.hid ho'
        have D9 := Lib.hid hd'
        have H9 := Lib.hid hg'
        have EQ := Lib.hid (show gC sj = (((nm, 1, lo, hgh, ⟨#[]⟩) : C5), s4) from by rw [GC.out, if_pos HK.out])
        have L9 := G4.out.bx
        have q0 := L9.cell 0
        have q1 := L9.cell 1
        have q2 := L9.cell 2
        have q3 := L9.cell 3
        have q4 := L9.cell 4
        simp at q0 q1 q2 q3 q4
        clear ho' hd' hg' G4 L9
        go_wp2_with (first | (at_builtin; refine wpList_append_run rfl _ _ 29 rfl rfl rfl r ?_) | fail)
        clear r q0 q1 q2 q3 q4 x0 y0 x1 y1 x2 y2 x3 y3 x4 y4 z
        go_wp2
        go_roundw
        case rel => exact ⟨j + 1, by omega, by go_num, by rw [SN.out, EQ.out]; exact O9.out, by rw [SN.out, EQ.out]; exact D9.out, H9.out⟩
        case measure => simp [intOf]; omega
      by_cases hk2 : kd = 2
      · have HK := Lib.hid hk2
        generalize hkz : (kd : Int) = kz at *
        obtain rfl : kz = 2 := by omega
        clear hk2 hkz
        have T2 := Lib.hid (Wq.rtext_any rb s2 _ G2.out.rd)
        go_wp2_with fail
        refine T2.out.mono ?_
        rintro e2 w2 ⟨rfl, hd, hg⟩
        have G2a := Lib.hid (G2.out.call hg hd)
        clear hd hg T2 G2 x0 y0 x1 y1 x2 y2 x3 y3 x4 y4 z
        have XX := G2a.out.bx
        have x0 := XX.cell 0
        have x1 := XX.cell 1
        have x2 := XX.cell 2
        have x3 := XX.cell 3
        have x4 := XX.cell 4
        have y0 := XX.fr 0
        have y1 := XX.fr 1
        have y2 := XX.fr 2
        have y3 := XX.fr 3
        have y4 := XX.fr 4
        have z := XX.lt
        simp at x0 x1 x2 x3 x4
        clear XX
        have G3 := Lib.hid (G2a.out.set 4 (.string (textS s2).1))
        clear G2a
        generalize (textS s2).1 = tx at *
        generalize (textS s2).2 = s3 at *
        obtain ⟨v', w', r, ho', hd', hg'⟩ := G3.out.push okC (nm, 2, 0, 0, tx) (by rw [LN.out]; omega) w2.heap.size (by simp [World.setCell]) #[.string nm, .int .i64 2, .int .i64 0, .int .i64 0, .string tx] rfl 29 57 29 rfl rfl
        have O9 := Lib.hid ho'
        have D9 := Lib.hid hd'
        have H9 := Lib.hid hg'
        have EQ := Lib.hid (show gC sj = (((nm, 2, 0, 0, tx) : C5), s3) from by rw [GC.out, if_neg (by have := HK.out; omega), if_pos (by have := HK.out; omega)])
        have L9 := G3.out.bx
        have q0 := L9.cell 0
        have q1 := L9.cell 1
        have q2 := L9.cell 2
        have q3 := L9.cell 3
        have q4 := L9.cell 4
        simp at q0 q1 q2 q3 q4
        clear ho' hd' hg' G3 L9
        go_wp2_with (first | (at_builtin; refine wpList_append_run rfl _ _ 29 rfl rfl rfl r ?_) | fail)
        clear r q0 q1 q2 q3 q4 x0 y0 x1 y1 x2 y2 x3 y3 x4 y4 z
        go_wp2
        go_roundw
        case rel => exact ⟨j + 1, by omega, by go_num, by rw [SN.out, EQ.out]; exact O9.out, by rw [SN.out, EQ.out]; exact D9.out, H9.out⟩
        case measure => simp [intOf]; omega
      by_cases hk3 : kd = 3
      · have HK := Lib.hid hk3
        generalize hkz : (kd : Int) = kz at *
        obtain rfl : kz = 3 := by omega
        clear hk3 hkz
        have T2 := Lib.hid (Wq.rtext_any rb s2 _ G2.out.rd)
        go_wp2_with fail
        refine T2.out.mono ?_
        rintro e2 w2 ⟨rfl, hd, hg⟩
        have G2a := Lib.hid (G2.out.call hg hd)
        clear hd hg T2 G2 x0 y0 x1 y1 x2 y2 x3 y3 x4 y4 z
        have XX := G2a.out.bx
        have x0 := XX.cell 0
        have x1 := XX.cell 1
        have x2 := XX.cell 2
        have x3 := XX.cell 3
        have x4 := XX.cell 4
        have y0 := XX.fr 0
        have y1 := XX.fr 1
        have y2 := XX.fr 2
        have y3 := XX.fr 3
        have y4 := XX.fr 4
        have z := XX.lt
        simp at x0 x1 x2 x3 x4
        clear XX
        have G3 := Lib.hid (G2a.out.set 4 (.string (textS s2).1))
        clear G2a
        generalize (textS s2).1 = tx at *
        generalize (textS s2).2 = s3 at *
        obtain ⟨v', w', r, ho', hd', hg'⟩ := G3.out.push okC (nm, 3, 0, 0, tx) (by rw [LN.out]; omega) w2.heap.size (by simp [World.setCell]) #[.string nm, .int .i64 3, .int .i64 0, .int .i64 0, .string tx] rfl 29 57 29 rfl rfl
        have O9 := Lib.hid ho'
        have D9 := Lib.hid hd'
        have H9 := Lib.hid hg'
        have EQ := Lib.hid (show gC sj = (((nm, 3, 0, 0, tx) : C5), s3) from by rw [GC.out, if_neg (by have := HK.out; omega), if_pos (by have := HK.out; omega)])
        have L9 := G3.out.bx
        have q0 := L9.cell 0
        have q1 := L9.cell 1
        have q2 := L9.cell 2
        have q3 := L9.cell 3
        have q4 := L9.cell 4
        simp at q0 q1 q2 q3 q4
        clear ho' hd' hg' G3 L9
        go_wp2_with (first | (at_builtin; refine wpList_append_run rfl _ _ 29 rfl rfl rfl r ?_) | fail)
        clear r q0 q1 q2 q3 q4 x0 y0 x1 y1 x2 y2 x3 y3 x4 y4 z
        go_wp2
        go_roundw
        case rel => exact ⟨j + 1, by omega, by go_num, by rw [SN.out, EQ.out]; exact O9.out, by rw [SN.out, EQ.out]; exact D9.out, H9.out⟩
        case measure => simp [intOf]; omega
      have hkk : ((kd : Int) == 1) = false := by rw [beq_eq_false_iff_ne]; omega
      have hkl : ((kd : Int) == 2) = false := by rw [beq_eq_false_iff_ne]; omega
      have hkm : ((kd : Int) == 3) = false := by rw [beq_eq_false_iff_ne]; omega
      obtain ⟨v', w', r, ho', hd', hg'⟩ := G2.out.push okC (nm, (kd : Int), 0, 0, ⟨#[]⟩) (by rw [LN.out]; omega) w1.heap.size (by simp [World.setCell]) #[.string nm, .int .i64 (kd : Int), .int .i64 0, .int .i64 0, .string ⟨#[]⟩] rfl 29 57 29 rfl rfl
      have O9 := Lib.hid ho'
      have D9 := Lib.hid hd'
      have H9 := Lib.hid hg'
      have EQ := Lib.hid (show gC sj = (((nm, (kd : Int), 0, 0, ⟨#[]⟩) : C5), s2) from by rw [GC.out, if_neg hk1, if_neg (by omega)])
      have L9 := G2.out.bx
      have q0 := L9.cell 0
      have q1 := L9.cell 1
      have q2 := L9.cell 2
      have q3 := L9.cell 3
      have q4 := L9.cell 4
      simp at q0 q1 q2 q3 q4
      clear ho' hd' hg' G2 L9
      go_wp2_with (first | (at_builtin; refine wpList_append_run rfl _ _ 29 rfl rfl rfl r ?_) | fail)
      clear r q0 q1 q2 q3 q4 x0 y0 x1 y1 x2 y2 x3 y3 x4 y4 z
      go_wp2
      go_roundw
      case rel => exact ⟨j + 1, by omega, by go_num, by rw [SN.out, EQ.out]; exact O9.out, by rw [SN.out, EQ.out]; exact D9.out, H9.out⟩
      case measure => simp [intOf]; omega
    · obtain rfl : j = n := by omega
      have HO := Lib.hid ho
      have HD := Lib.hid hd
      have H8 := Lib.hid hg
      clear ho hd hg
      go_wp2
      go_ret
      exact ⟨⟨_, rfl, by rw [E.out]; exact HO.out⟩, by rw [E.out]; exact HD.out, H8.out⟩
end Go.Proofs.YtfcgfnmokbbcaaaDoor.Ws
